import PyProof.Rows.All
import Wide.All
import OpenK.AllK
import Wide.FinOn
import Lean
import PyProof.EqAt
import PyProof.EqKinds
import PyProof.TupleCall
import PyProof.StationsW
import PyProof.ExcClass2
import PyProof.RulesAs
import PyProof.ExcBaseAll.ValueError
import OpenK.KDescr
import OpenK.KWalk
import PyProof.ExcAttrAll.ValueError
import PyProof.Comp
import PyProof.ListRange
import PyProof.DictItems
import KE.KPairComp
import KE.KDictOf
import PyProof.AttrMissHeap
import PyProof.Rows.Range3
import KE.KRevIter
import PyProof.ZipIter
import OpenK.KEqL
import PyProof.AutoListH
import PyProof.EnumMake
import PyProof.WalksEnum
import PyProof.NeKinds
import PyProof.MaxThree
import KE.KSortTup
import PyProof.StrLawsIn
import PyProof.DictValues
import PyProof.DictIter
import PyProof.Draws
import PyProof.DictWalks
import PyProof.ListNew
import PyProof.ListStr
import KE.KIntText
import PyProof.Rows.FStr
import PyProof.MeetsStr
import PyProof.Rows.CallKwBuiltin
import PyProof.Rows.StrNews
import PyProof.Rows.StrNews2
import PyProof.StrLawsChain
import PyProof.StrLawsFirst
import PyProof.StrLawsTight
import PyProof.DictUpdate
import PyProof.Rows.SetFrom
import PyProof.DictStraight
import PyProof.SetRoads
import PySem.Challenge.RW_rimnotes_k34_whole_no_more_have_seats
set_option Elab.async false
set_option linter.all false
set_option maxRecDepth 100000
set_option maxHeartbeats 4000000
set_option maxRecDepth 100000
namespace L2
open PySem PySem.Spec PyProof.Rows
variable {q0 : Bool}
abbrev Key := Sum Int Str
def keyIs : Key → Value → Bool
  | .inl k, v => Value.isInt k v
  | .inr x, v => Value.isStrOf x v
def keyH (w : World) : Key → Int
  | .inl k => hashInt k
  | .inr x => hashStr w x
theorem keyIs_shape : ∀ {k : Key} {v : Value}, keyIs k v = true → (∃ i t, k = Sum.inl i ∧ v = Value.int i t) ∨ (∃ x t, k = Sum.inr x ∧ v = Value.str x t)
  | .inl i, v, h => by
    obtain ⟨t, e⟩ := Value.isInt_shape (k := i) (v := v) h
    exact .inl ⟨i, t, rfl, e⟩
  | .inr x, v, h => by
    obtain ⟨t, e⟩ := Value.isStrOf_shape (x := x) (v := v) h
    exact .inr ⟨x, t, rfl, e⟩
theorem keyIs_int (i : Int) (t : Tok) : keyIs (.inl i) (.int i t) = true := by simp [keyIs, Value.isInt]
theorem keyIs_str (x : Str) (t : Tok) : keyIs (.inr x) (.str x t) = true := by simp [keyIs, Value.isStrOf]
theorem key_ll (a b : Int) : decide ((Sum.inl a : Key) = Sum.inl b) = (a == b) := by
  by_cases e : a = b
  · subst e; simp
  · have h : ¬ (Sum.inl a : Key) = Sum.inl b := fun q => e (Sum.inl.inj q)
    rw [decide_eq_false h]
    exact (beq_eq_false_iff_ne.mpr e).symm
theorem key_rr (a b : Str) : decide ((Sum.inr a : Key) = Sum.inr b) = decide (a = b) := by
  by_cases e : a = b
  · subst e; simp
  · have h : ¬ (Sum.inr a : Key) = Sum.inr b := fun q => e (Sum.inr.inj q)
    rw [decide_eq_false h, decide_eq_false e]
theorem key_lr (a : Int) (b : Str) : decide ((Sum.inl a : Key) = Sum.inr b) = false := decide_eq_false (fun q => nomatch q)
theorem key_rl (a : Str) (b : Int) : decide ((Sum.inr a : Key) = Sum.inl b) = false := decide_eq_false (fun q => nomatch q)
def mixKind (prog : Program) (w : World) : PySem.KeyKind prog w Key where
  is := keyIs
  hash := keyH w
  inj := fun v a b ha hb => by
    rcases keyIs_shape ha with ⟨i, t, rfl, rfl⟩ | ⟨x, t, rfl, rfl⟩
    · rcases keyIs_shape hb with ⟨j, u, rfl, e⟩ | ⟨y, u, rfl, e⟩
      · injection e with e1 _; rw [e1]
      · exact nomatch e
    · rcases keyIs_shape hb with ⟨j, u, rfl, e⟩ | ⟨y, u, rfl, e⟩
      · exact nomatch e
      · injection e with e1 _; rw [e1]
  byValue := fun k v h => by
    rcases keyIs_shape h with ⟨i, t, rfl, rfl⟩ | ⟨x, t, rfl, rfl⟩ <;> rfl
  pyHash := fun hv h => by
    rcases keyIs_shape hv with ⟨i, t, rfl, rfl⟩ | ⟨x, t, rfl, rfl⟩
    · exact wpAny_pyHash_int h
    · exact wpAny_pyHash_str h
  eqBool := fun hu hv h => by
    rcases keyIs_shape hu with ⟨i, t, rfl, rfl⟩ | ⟨x, t, rfl, rfl⟩
    · rcases keyIs_shape hv with ⟨j, u, rfl, rfl⟩ | ⟨y, u, rfl, rfl⟩
      · rw [key_ll] at h; exact wpAny_eqBool_int h
      · rw [key_lr] at h; exact SeqAt.EqAt.int_str i t y u _ _ _ _ h
    · rcases keyIs_shape hv with ⟨j, u, rfl, rfl⟩ | ⟨y, u, rfl, rfl⟩
      · rw [key_rl] at h; exact SeqAt.EqAt.str_int x t j u _ _ _ _ h
      · rw [key_rr] at h; exact wpAny_eqBool_str h
  «strs» := fun k x t v h => by
    rcases keyIs_shape h with ⟨i, u, rfl, e⟩ | ⟨y, u, rfl, e⟩
    · exact nomatch e
    · injection e with e1 _
      subst e1
      cases v <;> rfl
theorem mixKind_int (prog : Program) (w : World) (i : Int) (t : Tok) : (mixKind prog w).is (.inl i) (.int i t) = true := keyIs_int i t
theorem mixKind_str (prog : Program) (w : World) (x : Str) (t : Tok) : (mixKind prog w).is (.inr x) (.str x t) = true := keyIs_str x t
end L2
namespace L2
open PySem PySem.Spec PyProof.Rows
variable {q0 : Bool}
inductive V where
  | non | bl (b : Bool) | int (i : Int) | str (x : Str) | byt (b : Array UInt8) | flt (b : UInt64) | ref (a : Addr) | ty (n : String)
  deriving DecidableEq
def RelV : V → Value → Prop
  | .non, u => u = Value.none
  | .bl b, u => u = Value.bool b
  | .int i, u => ∃ t, u = Value.int i t
  | .str x, u => ∃ t, u = Value.str x t
  | .byt b, u => ∃ t, u = Value.bytes b t
  | .flt b, u => ∃ t, u = Value.float b t
  | .ref a, u => u = Value.ref a
  | .ty n, u => u = Value.type n
abbrev Vals : List V → List Value → Prop := Paired RelV
theorem Vals.length {xs : List V} {us : List Value} (r : Vals xs us) : xs.length = us.length := Paired.length r
theorem Vals.get : ∀ {xs : List V} {us : List Value} {i : Nat} {x : V}, Vals xs us → xs[i]? = some x → ∃ u, us[i]? = some u ∧ RelV x u
  | _, _, _, _, .nil, e => by simp at e
  | _, _, 0, _, .cons r _, e => by simp at e; subst e; exact ⟨_, rfl, r⟩
  | _, _, i + 1, x, .cons _ t, e => by
    obtain ⟨u, h1, h2⟩ := Vals.get (i := i) (x := x) t (by simpa using e)
    exact ⟨u, by simpa using h1, h2⟩
theorem Vals.append : ∀ {xs ys : List V} {us ws : List Value}, Vals xs us → Vals ys ws → Vals (xs ++ ys) (us ++ ws)
  | _, _, _, _, .nil, s => s
  | _, _, _, _, .cons r t, s => .cons r (Vals.append t s)
theorem Vals.take : ∀ {xs : List V} {us : List Value} (n : Nat), Vals xs us → Vals (xs.take n) (us.take n)
  | _, _, 0, _ => .nil
  | _, _, _ + 1, .nil => .nil
  | _, _, n + 1, .cons r t => .cons r (Vals.take n t)
theorem Vals.drop : ∀ {xs : List V} {us : List Value} (n : Nat), Vals xs us → Vals (xs.drop n) (us.drop n)
  | _, _, 0, r => r
  | _, _, _ + 1, .nil => .nil
  | _, _, n + 1, .cons _ t => Vals.drop n t
def RelO : Option V → Option Value → Prop
  | some v, some u => RelV v u
  | none, none => True
  | _, _ => False
def KV {κ : Type} : List (κ × V) → List (κ × Value) → Prop := Paired fun (p : κ × V) (q : κ × Value) => p.1 = q.1 ∧ RelV p.2 q.2
def kV : Key → V
  | .inl i => .int i
  | .inr x => .str x
inductive HO where
  /-- a list -/
  | lst (xs : List V)
  /-- a tuple (never changes) -/
  | tup (xs : List V)
  /-- a dict whose keys are ints and texts; one whose keys are tuples of ints and texts (the empty one is both) -/
  | dK (kvs : List (Key × V)) | dT (kvs : List (List Key × V))
  /-- a set of ints: its members, its size -/
  | set (S : Int → Bool) (n : Nat)
  /-- an instance of the class at C, its dict at dx, its attributes -/
  | ins (C dx : Addr) (fs : List (Str × V))
  /-- the dict of the instance at x -/
  | own (x : Addr)
  /-- the dict of an exception -/
  | xd (fs : List (Str × V))
  /-- a bound method, f of x -/
  | met (f x : Addr)
  /-- a range object lo, lo + 1, .. below hi -/
  | rng (lo hi : Int)
  /-- a thing that is known to the object (the script; a dict while a loop walks it): read, never written while it is so -/
  | frz (o : Obj) (u : HO)
  /-- a code object's table -/
  | tbl (ps : Array Value)
  /-- any other thing, by what is true of its one object (a def of one's own: SetO a S n := HO.ext fun h => ..) -/
  | ext (φ : Heap → Prop)
abbrev Hp := Addr → Option HO
def upd (H : Hp) (a : Addr) (o : HO) : Hp := fun b => if b = a then some o else H b
theorem upd_same {H : Hp} {a : Addr} {o : HO} : upd H a o a = some o := by unfold upd; rw [if_pos rfl]
theorem upd_ne {H : Hp} {a b : Addr} {o : HO} (h : b ≠ a) : upd H a o b = H b := by unfold upd; rw [if_neg h]
theorem upd_upd {H : Hp} {a : Addr} {o u : HO} : upd (upd H a o) a u = upd H a u := by
  funext b; unfold upd; split <;> rfl
theorem ne_of {H : Hp} {a b : Addr} {o u : HO} (h : H a = some o) (h' : H b = some u) (d : o ≠ u) : a ≠ b := by
  intro e; subst e; rw [h] at h'; exact d (Option.some.inj h')
theorem ne_of_none {H : Hp} {a b : Addr} {o : HO} (h : H a = some o) (h' : H b = none) : a ≠ b := by
  intro e; subst e; rw [h] at h'; cases h'
section
variable (P : Program) (w : World)
def ObjOk (H : Hp) (h : Heap) (a : Addr) : HO → Prop
  | .lst xs => xs.length ≤ sizeLine ∧ ∃ (its : List Value) (n : Nat), Vals xs its ∧ h.get? a = some { cls := .type "list", data := .seq its.toArray n }
  | .tup xs => xs.length ≤ sizeLine ∧ ∃ its : List Value, Vals xs its ∧ IsTup h a its.toArray
  | .dK kvs => kvs.length ≤ sizeLine ∧ (a == sysModules) = false ∧ ∃ vs, KV kvs vs ∧ h.DictOf (mixKind P w) a vs
  | .dT kvs => kvs.length ≤ sizeLine ∧ (a == sysModules) = false ∧ ∃ xs : List (List Key × Addr × Value),
      Paired (fun (p : List Key × V) (q : List Key × Addr × Value) => p.1 = q.1 ∧ H q.2.1 = some (.tup (p.1.map kV)) ∧ RelV p.2 q.2.2) kvs xs ∧
      ∃ o es ep, h.get? a = some o ∧ o.ExactDict ∧ o.data = .dict es ep ∧ es.toList = xs.map (entryOfKey (tupleKind (mixKind P w))) ∧ (xs.map (·.1)).Nodup
  | .set S n => h.SetOf (intKind P w) a S n
  | .ins C dx fs => H dx = some (.own a) ∧ fs.length ≤ 1000 ∧ dx ≠ a ∧ h.get? a = some (PySem.W.instObj C dx) ∧
      ∃ mA, h.Ns1 dx mA ∧ (∀ f, RelO (fs.lookup f) (mA f)) ∧ PySem.Within mA (fs.map (·.1))
  | .own _ => ∃ o, h.get? a = some o
  | .xd fs => ∃ mA, h.Ns1 a mA ∧ ∀ f, RelO (fs.lookup f) (mA f)
  | .rng lo hi => ∃ t u v, h.get? a = some { cls := .type "range", data := .fields #[.int lo t, .int hi u, .int 1 v] }
  | .frz o u => h.get? a = some o ∧ ObjOk H h a u
  | .tbl ps => h.get? a = some { cls := .none, data := .fields ps }
  | .met f x => h.get? a = some (PySem.W.methodObj (.ref f) (.ref x))
  | .ext φ => φ h ∧ (∃ o, h.get? a = some o) ∧ ∀ h1 h2 : Heap, φ h1 → (∀ o, h1.get? a = some o → h2.get? a = some o) → φ h2
def HOk (H : Hp) (h : Heap) : Prop := ∀ a o, H a = some o → ObjOk P w H h a o
end
section
variable {P : Program} {w : World} {H H' : Hp} {h h' : Heap} {a : Addr} {o : HO}
theorem ObjOk.lt (x : ObjOk P w H h a o) : a < h.objs.size := by
  cases o with
  | lst xs => obtain ⟨_, _, _, _, e⟩ := x; exact Heap.lt_size e
  | tup xs => obtain ⟨_, _, _, p⟩ := x; exact p.lt
  | dK kvs => obtain ⟨_, _, _, _, o, _, _, e, _⟩ := x; exact Heap.lt_size e
  | dT kvs => obtain ⟨_, _, _, _, o, _, _, e, _⟩ := x; exact Heap.lt_size e
  | set S n => obtain ⟨o, _, _, _, e, _⟩ := x; exact Heap.lt_size e
  | ins C dx fs => obtain ⟨_, _, _, e, _⟩ := x; exact Heap.lt_size e
  | own y => obtain ⟨_, e⟩ := x; exact Heap.lt_size e
  | xd fs => obtain ⟨_, ⟨_, _, _, e, _⟩, _⟩ := x; exact Heap.lt_size e
  | rng lo hi => obtain ⟨_, _, _, e⟩ := x; exact Heap.lt_size e
  | frz ob u => obtain ⟨e, _⟩ := x; exact Heap.lt_size e
  | tbl ps => exact Heap.lt_size (show h.get? a = some _ from x)
  | met f y => exact Heap.lt_size (show h.get? a = some _ from x)
  | ext φ => obtain ⟨_, ⟨_, e⟩, _⟩ := x; exact Heap.lt_size e
theorem Paired.mapP {α β : Type} {F G : α → β → Prop} : ∀ {l₁ : List α} {l₂ : List β}, Paired F l₁ l₂ → (∀ a b, F a b → G a b) → Paired G l₁ l₂
  | _, _, .nil, _ => .nil
  | _, _, .cons r t, f => .cons (f _ _ r) (Paired.mapP t f)
theorem ObjOk.stay (x : ObjOk P w H h a o) (k : ∀ b u, (b = a ∨ H b = some (.own a)) → h.get? b = some u → h'.get? b = some u)
    (ho : ∀ b, H b = some (.own a) → H' b = some (.own a)) (ht : ∀ b xs, H b = some (.tup xs) → H' b = some (.tup xs)) : ObjOk P w H' h' a o := by
  induction o with
  | lst xs => obtain ⟨z, its, n, r, e⟩ := x; exact ⟨z, its, n, r, k _ _ (.inl rfl) e⟩
  | tup xs => obtain ⟨z, its, r, ob, e, c⟩ := x; exact ⟨z, its, r, ob, k _ _ (.inl rfl) e, c⟩
  | dK kvs => obtain ⟨z, y, vs, r, ob, es, ep, e, c⟩ := x; exact ⟨z, y, vs, r, ob, es, ep, k _ _ (.inl rfl) e, c⟩
  | dT kvs =>
    obtain ⟨z, y, xs, r, ob, es, ep, e, c⟩ := x
    exact ⟨z, y, xs, Paired.mapP r fun p q z => ⟨z.1, ht _ _ z.2.1, z.2.2⟩, ob, es, ep, k _ _ (.inl rfl) e, c⟩
  | set S n => obtain ⟨ob, es, ep, t, e, c⟩ := x; exact ⟨ob, es, ep, t, k _ _ (.inl rfl) e, c⟩
  | ins C dx fs =>
    obtain ⟨d, z, ne, e, mA, ⟨od, es, ep, e2, c⟩, r⟩ := x
    exact ⟨ho _ d, z, ne, k _ _ (.inl rfl) e, mA, ⟨od, es, ep, k _ _ (.inr d) e2, c⟩, r⟩
  | own y => obtain ⟨ob, e⟩ := x; exact ⟨ob, k _ _ (.inl rfl) e⟩
  | xd fs => obtain ⟨mA, ⟨od, es, ep, e, c⟩, r⟩ := x; exact ⟨mA, ⟨od, es, ep, k _ _ (.inl rfl) e, c⟩, r⟩
  | rng lo hi => obtain ⟨t, u, v, e⟩ := x; exact ⟨t, u, v, k _ _ (.inl rfl) e⟩
  | frz ob u ih => obtain ⟨e, q⟩ := x; exact ⟨k _ _ (.inl rfl) e, ih q⟩
  | tbl ps =>
    have e : h.get? a = some { cls := .none, data := .fields ps } := x
    show h'.get? a = some { cls := .none, data := .fields ps }
    exact k a _ (.inl rfl) e
  | met f y =>
    have e : h.get? a = some (PySem.W.methodObj (.ref f) (.ref y)) := x
    show h'.get? a = some (PySem.W.methodObj (.ref f) (.ref y))
    exact k a _ (.inl rfl) e
  | ext φ => obtain ⟨p, ⟨o, e⟩, st⟩ := x; exact ⟨st _ _ p fun o q => k _ _ (.inl rfl) q, ⟨o, k _ _ (.inl rfl) e⟩, st⟩
theorem HOk.lt (x : HOk P w H h) (e : H a = some o) : a < h.objs.size := (x a o e).lt
theorem HOk.fresh (x : HOk P w H h) (e : h.objs.size ≤ a) : H a = none := by
  cases q : H a with
  | none => rfl
  | some u => exact absurd (Nat.lt_of_lt_of_le (x.lt q) e) (Nat.lt_irrefl _)
theorem HOk.kept (x : HOk P w H h) (k : ∀ b u, h.get? b = some u → h'.get? b = some u) : HOk P w H h' := fun a o e =>
  (x a o e).stay (fun b u _ q => k b u q) (fun _ q => q) fun _ _ q => q
theorem HOk.laid (x : HOk P w H h) (k : ∀ b u, h.get? b = some u → h'.get? b = some u) (hp : h.objs.size ≤ a) (new : ObjOk P w (upd H a o) h' a o) : HOk P w (upd H a o) h' := fun b u e => by
  have hn := x.fresh hp
  by_cases hb : b = a
  · subst hb; rw [upd_same] at e; cases e; exact new
  · rw [upd_ne hb] at e
    exact (x b u e).stay (fun c v _ q => k c v q) (fun c q => by rw [upd_ne (ne_of_none q hn)]; exact q) fun c xs q => by rw [upd_ne (ne_of_none q hn)]; exact q
end
def Rd (H : Hp) (a : Addr) (u : HO) : Prop := H a = some u ∨ ∃ o, H a = some (.frz o u)
theorem Rd.ok {P : Program} {w : World} {H : Hp} {h : Heap} {a : Addr} {u : HO} (r : Rd H a u) (x : HOk P w H h) : ObjOk P w H h a u := by
  rcases r with r | ⟨o, r⟩
  · exact x a u r
  · obtain ⟨_, q⟩ := x a _ r
    exact q
def Mut : Option HO → Prop
  | some (.lst _) => True
  | some (.dK _) => True
  | some (.dT _) => True
  | some (.set _ _) => True
  | some (.ins _ _ _) => True
  | some (.ext _) => True
  | _ => False
section
variable {P : Program} {w : World} {H : Hp} {h h' : Heap} {x e : Addr} {o' : HO}
theorem HOk.write (ok : HOk P w H h) (mu : Mut (H x)) (he : e = x ∨ H e = some (.own x)) (k : ∀ b u, b ≠ e → h.get? b = some u → h'.get? b = some u) (heo : ∃ u, h'.get? e = some u)
    (new : ObjOk P w (upd H x o') h' x o') : HOk P w (upd H x o') h' := fun b u q => by
  have nown : ∀ c y, H c = some (.own y) → c ≠ x := fun c y r z => by subst z; rw [r] at mu; exact mu
  have ntup : ∀ c xs, H c = some (.tup xs) → c ≠ x := fun c xs r z => by subst z; rw [r] at mu; exact mu
  by_cases hb : b = x
  · subst hb; rw [upd_same] at q; cases q; exact new
  · rw [upd_ne hb] at q
    by_cases hbe : b = e
    · have q' : H b = some (.own x) := by
        rcases he with z | z
        · exact absurd (hbe.trans z) hb
        · rw [hbe]; exact z
      rw [q] at q'; cases q'
      obtain ⟨v, hv⟩ := heo
      exact ⟨v, by rw [hbe]; exact hv⟩
    · refine (ok b u q).stay (fun c v hc r => k c v ?_ r) (fun c r => by rw [upd_ne (nown c b r)]; exact r) fun c xs r => by rw [upd_ne (ntup c xs r)]; exact r
      rcases hc with rfl | hc
      · exact hbe
      · rintro rfl
        rcases he with z | z
        · exact nown c b hc z
        · rw [hc] at z; cases z; exact hb rfl
end
structure Un (fs ex : List Addr) (H H' : Hp) (h h' : Heap) : Prop where
  keep : ∀ b o, h.get? b = some o → H b = none → b ∉ fs → b ∉ ex → h'.get? b = some o
  slot : ∀ b o, h.get? b = some o → H b = none → b ∈ fs → b ∉ ex → ∃ sl, h'.get? b = some { o with slots := sl }
  free : ∀ b o, h.get? b = some o → H b = none → b ∉ ex → H' b = none
  there : ∀ b o, h.get? b = some o → b ∉ ex → ∃ o', h'.get? b = some o'
  tups : ∀ b xs, H b = some (.tup xs) → H' b = some (.tup xs)
  frzs : ∀ b o u, H b = some (.frz o u) → H' b = some (.frz o u)
  tbls : ∀ b ps, H b = some (.tbl ps) → ∃ more, H' b = some (.tbl (ps ++ more))
section
variable {fs fs' ex ex' : List Addr} {H H1 H2 : Hp} {h h1 h2 h' : Heap} {a x e : Addr} {o : HO}
theorem Un.any (u : Un fs ex H H1 h h1) {b : Addr} {ob : Obj} (q : h.get? b = some ob) (n : H b = none) (hx : b ∉ ex) : ∃ sl, h1.get? b = some { ob with slots := sl } := by
  by_cases hb : b ∈ fs
  · exact u.slot b ob q n hb hx
  · exact ⟨ob.slots, u.keep b ob q n hb hx⟩
theorem Un.kept (k : ∀ b u, h.get? b = some u → h'.get? b = some u) : Un fs ex H H h h' :=
  ⟨fun b ob q _ _ _ => k b ob q, fun b ob q _ _ _ => ⟨ob.slots, k b ob q⟩, fun _ _ _ n _ => n, fun b ob q _ => ⟨ob, k b ob q⟩, fun _ _ q => q, fun _ _ _ q => q, fun _ ps q => ⟨#[], by rw [q]; simp⟩⟩
theorem Un.refl : Un fs ex H H h h := Un.kept fun _ _ q => q
theorem Un.laid (k : ∀ b u, h.get? b = some u → h'.get? b = some u) (hp : h.objs.size ≤ a) (hn : H a = none) : Un fs ex H (upd H a o) h h' where
  keep := fun b u q _ _ _ => k b u q
  slot := fun b u q _ _ _ => ⟨u.slots, k b u q⟩
  free := fun b u q n _ => by rw [upd_ne (Nat.ne_of_lt (Nat.lt_of_lt_of_le (Heap.lt_size q) hp))]; exact n
  there := fun b u q _ => ⟨u, k b u q⟩
  tups := fun b xs q => by rw [upd_ne (ne_of_none q hn)]; exact q
  frzs := fun b u xs q => by rw [upd_ne (ne_of_none q hn)]; exact q
  tbls := fun b ps q => ⟨#[], by rw [upd_ne (ne_of_none q hn), q]; simp⟩
theorem Un.write (mu : Mut (H x)) (he : e = x ∨ H e = some (.own x)) (k : ∀ b u, b ≠ e → h.get? b = some u → h'.get? b = some u) (heo : ∃ u, h'.get? e = some u) : Un fs ex H (upd H x o) h h' := by
  have hx : ∀ b, H b = none → b ≠ x := fun b n z => by subst z; rw [n] at mu; exact mu
  have hb : ∀ b, H b = none → b ≠ e := fun b n z => by
    subst z
    rcases he with r | r
    · exact hx b n r
    · rw [n] at r; cases r
  have hm : ∀ b u, H b = some u → ¬ Mut (some u) → b ≠ x := fun b u q nm z => by subst z; rw [q] at mu; exact nm mu
  refine ⟨fun b u q n _ _ => k b u (hb b n) q, fun b u q n _ _ => ⟨u.slots, k b u (hb b n) q⟩, fun b u q n _ => by rw [upd_ne (hx b n)]; exact n, fun b u q _ => ?_,
    fun b xs q => by rw [upd_ne (hm b _ q fun z => z)]; exact q, fun b u xs q => by rw [upd_ne (hm b _ q fun z => z)]; exact q, fun b ps q => ⟨#[], by rw [upd_ne (hm b _ q fun z => z), q]; simp⟩⟩
  by_cases hbe : b = e
  · subst hbe; exact heo
  · exact ⟨u, k b u hbe q⟩
end
def trk (h : Heap) (H : Hp) : List Addr := (List.range h.objs.size).filter fun a => (H a).isSome
def hidT (h : Heap) (H : Hp) : Heap := PySem.W.hideAll h (trk h H)
theorem hidT_size (h : Heap) (H : Hp) : (hidT h H).objs.size = h.objs.size := PySem.W.hideAll_size _ _
theorem hidT_get {h : Heap} {H : Hp} {b : Addr} {o : Obj} (e : h.get? b = some o) (n : H b = none) : (hidT h H).get? b = some o :=
  PySem.W.hideAll_get _ e fun hm => by
    have q : (H b).isSome = true := (List.mem_filter.mp hm).2
    rw [n] at q; simp at q
theorem of_hidT {h : Heap} {H : Hp} {b : Addr} {o : Obj} (e : (hidT h H).get? b = some o) : h.get? b = some o ∧ H b = none := by
  have e' : h.get? b = some o := PySem.W.of_hideAll (trk h H) e
  refine ⟨e', ?_⟩
  cases q : H b with
  | none => rfl
  | some x =>
    have hm : b ∈ trk h H := List.mem_filter.mpr ⟨List.mem_range.mpr (Heap.lt_size e'), by simp [q]⟩
    have z : (hidT h H).get? b = none := PySem.W.hideAll_none (trk h H) hm
    rw [z] at e; cases e
def allNews (g h : Heap) (L : Addr) : List (Addr × Obj) := (List.range h.objs.size).filterMap fun a => if a = L ∨ (g.get? a).isSome = true then none else (h.get? a).map fun o => (a, o)
def rest (g h : Heap) (L d : Addr) : List (Addr × Obj) := (allNews g h L).filter fun p => decide (p.1 ≠ d)
end L2
namespace L2
open PySem PySem.Spec PyProof.Rows
variable {q0 : Bool}
structure Mod (K : PySem.W.Frag) (mg : Str → Option Value) (base : Heap) : Prop where
  kin : K.In base
  glob : base.Ns mainGlobals mg
  blt : ∃ mb, base.Ns builtinsNs mb ∧ ∀ x : Str, x ≠ "__name__" → mb x = bootBuiltins x
  nolimit : base.NoLimit
structure Cx where
  prog : Program
  w : World
  K : PySem.W.Frag
  mg : Str → Option Value
  base : Heap
  A : Around
  N : List Str
  s₀ : Shared
  H₀ : Hp
  env : Env
  outer : List Env
  stack : List Env
  ex : List Addr
  fn : Str → Bool
  calm : Bool
  pn : List (Addr × Obj)
  xe : Value → Shared → Prop
def frs (l : List Env) : List Addr := l.filterMap (·.frame)
abbrev Cx.fs (X : Cx) : List Addr := frs X.outer
def Vis (sc : Scope) (x : Str) : Prop := sc.names.lookup x = some .local ∨ sc.names.lookup x = some .cell ∨ sc.names.lookup x = some .free
def Loc (sc : Scope) (x : Str) : Prop := sc.names.lookup x = some .local ∨ sc.names.lookup x = some .cell
def Look (env : Env) (h : Heap) (m : Str → Option Value) (x : Str) (u : Value) : Prop :=
  (env.kindOf x = some .local ∧ m x = some u) ∨ ((env.kindOf x = some .cell ∨ env.kindOf x = some .free) ∧ ∃ c, env.cells.lookup x = some c ∧ h.IsCell c (some u))
structure Cx.Ok (X : Cx) : Prop where
  mod : Mod X.K X.mg X.base
  kind : X.env.scope.kind = .function
  glob : X.env.globals = mainGlobals
  blt : X.env.builtins = builtinsNs
  above : X.s₀.heap.objs.size ≤ X.env.locals
  inj : ∀ x y c, X.env.cells.lookup x = some c → X.env.cells.lookup y = some c → x = y
  has : ∀ x, (X.env.kindOf x = some .cell ∨ X.env.kindOf x = some .free) → ∃ c, X.env.cells.lookup x = some c
  cab : ∀ x c, X.fn x = true → X.env.cells.lookup x = some c → X.s₀.heap.objs.size ≤ c
  hd : X.calm = true → X.A.handled = none
  frames : X.A.frames = some X.stack
  stk : X.stack = X.outer ∨ (X.stack = X.env :: X.outer ∧ X.env.frame = some X.env.locals)
  exf : ∀ b ∈ X.ex, b ≠ X.env.locals ∧ ∀ x c, X.env.cells.lookup x = some c → c ≠ b
  bs : ∀ b o, X.base.get? b = some o → X.s₀.heap.get? b = some o ∧ X.H₀ b = none
  bsz : X.base.objs.size ≤ X.s₀.heap.objs.size
  noex : ∀ b o, X.base.get? b = some o → b ∉ X.ex
  exfs : ∀ b ∈ X.ex, b ∉ X.fs
  funs : X.s₀.heap.FunFrames X.base X.outer
  frf : ∀ b ∈ X.fs, X.H₀ b = none
structure Inv (X : Cx) (pins : List (Addr × Obj)) (σ : List (Option V)) (H : Hp) (s : Shared) : Prop where
  ok : X.Ok
  os : s.os = X.s₀.os
  bare : AllBare s.gens
  base : Un X.fs X.ex X.H₀ H X.s₀.heap s.heap
  loc : ∃ m, s.heap.Ns X.env.locals m ∧ ∀ (i : Nat) (x : Str) (v : V), X.N[i]? = some x → σ[i]? = some (some v) → Vis X.env.scope x → ∃ u, RelV v u ∧ Look X.env s.heap m x u
  cell : ∀ x c, X.env.cells.lookup x = some c → ∃ v, s.heap.IsCell c v
  free : H X.env.locals = none
  freeC : ∀ x c, X.env.cells.lookup x = some c → H c = none
  pin : ∀ p ∈ X.pn ++ pins, s.heap.get? p.1 = some p.2 ∧ H p.1 = none ∧ p.1 ≠ X.env.locals ∧ p.1 ∉ X.fs ∧ ∀ v, p.2.data ≠ .cell v
  hok : HOk X.prog X.w H s.heap
  len : σ.length = X.N.length
section
variable {X : Cx} {pins : List (Addr × Obj)} {σ : List (Option V)} {H H' : Hp} {s : Shared} {h' : Heap}
theorem Cx.Ok.nofr (ok : X.Ok) {b : Addr} {o : Obj} (e : X.base.get? b = some o) : b ∉ X.fs := fun hb => by
  have := (ok.funs.mem hb).1
  rw [e] at this; cases this
theorem Inv.bs (I : Inv X pins σ H s) : ∀ b o, X.base.get? b = some o → s.heap.get? b = some o ∧ H b = none := fun b o e =>
  ⟨I.base.keep b o (I.ok.bs b o e).1 (I.ok.bs b o e).2 (I.ok.nofr e) (I.ok.noex b o e), I.base.free b o (I.ok.bs b o e).1 (I.ok.bs b o e).2 (I.ok.noex b o e)⟩
theorem Inv.bk (I : Inv X pins σ H s) : ∀ b o, X.base.get? b = some o → s.heap.get? b = some o := fun b o e => (I.bs b o e).1
theorem Inv.mod (I : Inv X pins σ H s) : Mod X.K X.mg X.base := I.ok.mod
theorem Inv.kIn (I : Inv X pins σ H s) : X.K.In s.heap := I.ok.mod.kin.keeps I.bk
theorem Inv.fr (I : Inv X pins σ H s) : ∃ m, Fr X.base X.env.locals s.heap m :=
  let ⟨m, hn, _⟩ := I.loc
  ⟨m, hn, I.bk, Nat.le_trans I.ok.bsz I.ok.above⟩
theorem Inv.lt (I : Inv X pins σ H s) : X.env.locals < s.heap.objs.size := let ⟨_, hn, _⟩ := I.loc; hn.lt
theorem Inv.sz (I : Inv X pins σ H s) : X.s₀.heap.objs.size ≤ s.heap.objs.size := Nat.le_trans I.ok.above (Nat.le_of_lt I.lt)
theorem Inv.nofs (I : Inv X pins σ H s) {a : Addr} (h : s.heap.objs.size ≤ a) : a ∉ X.fs := fun hb => by
  obtain ⟨_, o, ho, _⟩ := I.ok.funs.mem hb
  exact absurd (Nat.lt_of_lt_of_le (Heap.lt_size ho) (Nat.le_trans I.sz h)) (Nat.lt_irrefl _)
theorem Inv.cne (I : Inv X pins σ H s) : ∀ x c, X.env.cells.lookup x = some c → c ≠ X.env.locals := fun x c e z => by
  obtain ⟨v, o, ho, hd⟩ := I.cell x c e
  obtain ⟨m, ⟨o', es, ep, ho', hd', _⟩, _⟩ := I.loc
  rw [z, ho'] at ho; cases ho; rw [hd'] at hd; cases hd
theorem Inv.funs (I : Inv X pins σ H s) : s.heap.FunFrames X.base X.outer := by
  have all : ∀ (l : List Env), (∀ b ∈ frs l, b ∈ X.fs) → X.s₀.heap.FunFrames X.base l → s.heap.FunFrames X.base l := by
    intro l
    induction l with
    | nil => intro _ _; trivial
    | cons env r ih =>
      intro hs hl
      obtain ⟨hk, ⟨L, o, hf, hn, ho, hd⟩, hr⟩ := hl
      have hL : L ∈ X.fs := hs L (by unfold frs; rw [List.filterMap_cons, hf]; exact List.mem_cons_self)
      obtain ⟨sl, e⟩ := I.base.slot L o ho (I.ok.frf L hL) hL fun z => I.ok.exfs L z hL
      exact ⟨hk, ⟨L, _, hf, hn, e, hd⟩, ih (fun b hb => hs b (by unfold frs; rw [List.filterMap_cons, hf]; exact List.mem_cons_of_mem _ hb)) hr⟩
  exact all X.outer (fun _ hb => hb) I.ok.funs
theorem Inv.stack (I : Inv X pins σ H s) : s.heap.FunFrames X.base X.stack := by
  rcases I.ok.stk with e | ⟨e, hf⟩
  · rw [e]; exact I.funs
  · rw [e]
    obtain ⟨m, hn, _⟩ := I.loc
    refine .cons (by rw [I.ok.kind]; decide) hf hn ?_ I.funs
    exact Heap.get?_none_of_le (Nat.le_trans I.ok.bsz I.ok.above)
theorem Inv.stkSub (I : Inv X pins σ H s) : ∀ b ∈ frs X.stack, b ∈ X.env.locals :: X.fs := fun b hb => by
  rcases I.ok.stk with e | ⟨e, hf⟩
  · rw [e] at hb; exact List.mem_cons_of_mem _ hb
  · rw [e] at hb
    unfold frs at hb
    rw [List.filterMap_cons, hf] at hb
    exact hb
theorem Inv.stkFree (I : Inv X pins σ H s) : ∀ b ∈ frs X.stack, H b = none := fun b hb => by
  rcases List.mem_cons.mp (I.stkSub b hb) with e | hb
  · rw [e]; exact I.free
  · obtain ⟨_, o, ho, _⟩ := I.ok.funs.mem hb
    exact I.base.free b o ho (I.ok.frf b hb) fun z => I.ok.exfs b z hb
theorem Inv.step {g' : Array GenState} {t' : Nat} {d' : Drawn} {ch : List Addr} (I : Inv X pins σ H s)
    (hch : ∀ b ∈ ch, (b ∈ X.ex ∨ X.s₀.heap.objs.size ≤ b) ∧ b ≠ X.env.locals ∧ (∀ x c, X.env.cells.lookup x = some c → c ≠ b) ∧ ∀ p ∈ X.pn ++ pins, p.1 ≠ b)
    (keep : ∀ b o, b ≠ X.env.locals → b ∉ X.fs → b ∉ ch → s.heap.get? b = some o → H b = none → h'.get? b = some o)
    (slot : ∀ b o, b ≠ X.env.locals → b ∈ X.fs → b ∉ ch → s.heap.get? b = some o → H b = none → ∃ sl, h'.get? b = some { o with slots := sl }) (free : ∀ b o, b ∉ ch → s.heap.get? b = some o → H b = none → H' b = none)
    (there : ∀ b o, b ∉ ch → s.heap.get? b = some o → ∃ o', h'.get? b = some o')
    (tups : ∀ b xs, H b = some (.tup xs) → H' b = some (.tup xs)) (frzs : ∀ b o u, H b = some (.frz o u) → H' b = some (.frz o u)) (tbls : ∀ b ps, H b = some (.tbl ps) → ∃ more, H' b = some (.tbl (ps ++ more)))
    (ns : ∀ m, s.heap.Ns X.env.locals m → h'.Ns X.env.locals m) (hok : HOk X.prog X.w H' h') (hg : AllBare g') :
    Inv X pins σ H' { s with heap := h', gens := g', drawn := d', toks := t' } := by
  have neL : ∀ b o, X.s₀.heap.get? b = some o → b ≠ X.env.locals := fun b o e => Nat.ne_of_lt (Nat.lt_of_lt_of_le (Heap.lt_size e) I.ok.above)
  have neC : ∀ b o, X.s₀.heap.get? b = some o → b ∉ X.ex → b ∉ ch := fun b o e hx hb => by
    rcases (hch b hb).1 with z | z
    · exact hx z
    · exact absurd (Nat.lt_of_lt_of_le (Heap.lt_size e) z) (Nat.lt_irrefl _)
  have cellK : ∀ x c, X.env.cells.lookup x = some c → ∀ v, s.heap.IsCell c v → h'.IsCell c v := fun x c e v ⟨o, ho, hd⟩ => by
    have nch : c ∉ ch := fun z => (hch c z).2.2.1 x c e rfl
    by_cases hc : c ∈ X.fs
    · obtain ⟨sl, q⟩ := slot c o (I.cne x c e) hc nch ho (I.freeC x c e)
      exact ⟨_, q, hd⟩
    · exact ⟨o, keep c o (I.cne x c e) hc nch ho (I.freeC x c e), hd⟩
  refine ⟨I.ok, I.os, hg, ⟨fun b o e n hb hx => ?_, fun b o e n hb hx => ?_, fun b o e n hx => ?_, fun b o e hx => ?_, fun b xs e => tups b xs (I.base.tups b xs e), fun b o xs e => frzs b o xs (I.base.frzs b o xs e), fun b ps e => ?_⟩, ?_, fun x c e => ?_, ?_, fun x c e => ?_, fun p hp => ?_, hok, I.len⟩
  · exact keep b o (neL b o e) hb (neC b o e hx) (I.base.keep b o e n hb hx) (I.base.free b o e n hx)
  · obtain ⟨sl, e1⟩ := I.base.slot b o e n hb hx
    obtain ⟨sl', e2⟩ := slot b _ (neL b o e) hb (neC b o e hx) e1 (I.base.free b o e n hx)
    exact ⟨sl', e2⟩
  · obtain ⟨o', e1⟩ := I.base.there b o e hx
    exact free b o' (neC b o e hx) e1 (I.base.free b o e n hx)
  · obtain ⟨o', e1⟩ := I.base.there b o e hx
    exact there b o' (neC b o e hx) e1
  · obtain ⟨m1, e1⟩ := I.base.tbls b ps e
    obtain ⟨m2, e2⟩ := tbls b _ e1
    exact ⟨m1 ++ m2, by rw [e2, Array.append_assoc]⟩
  · obtain ⟨m, hn, hl⟩ := I.loc
    refine ⟨m, ns m hn, fun i x v e1 e2 e3 => ?_⟩
    obtain ⟨u, r, l⟩ := hl i x v e1 e2 e3
    refine ⟨u, r, ?_⟩
    rcases l with l | ⟨k, c, e, z⟩
    · exact .inl l
    · exact .inr ⟨k, c, e, cellK x c e _ z⟩
  · obtain ⟨v, z⟩ := I.cell x c e
    exact ⟨v, cellK x c e v z⟩
  · obtain ⟨m, ⟨o, _, _, ho, _⟩, _⟩ := I.loc
    exact free _ o (fun z => (hch _ z).2.1 rfl) ho I.free
  · obtain ⟨v, o, ho, hd⟩ := I.cell x c e
    exact free c o (fun z => (hch c z).2.2.1 x c e rfl) ho (I.freeC x c e)
  · obtain ⟨e, n, ne, nf, d⟩ := I.pin p hp
    have nch : p.1 ∉ ch := fun z => (hch p.1 z).2.2.2 p hp rfl
    exact ⟨keep p.1 p.2 ne nf nch e n, free p.1 p.2 nch e n, ne, nf, d⟩
theorem Inv.un {t' : Nat} (I : Inv X pins σ H s) (u : Un X.fs [] H H' s.heap h') (hok : HOk X.prog X.w H' h') : Inv X pins σ H' { s with heap := h', toks := t' } := by
  obtain ⟨m, ⟨o, es, ep, ho, r⟩, _⟩ := id I.loc
  obtain ⟨sl, hL⟩ := u.any ho I.free (by simp)
  exact I.step (g' := s.gens) (d' := s.drawn) (ch := []) (fun _ z => nomatch z) (fun b o _ hb _ e n => u.keep b o e n hb (by simp)) (fun b o _ hb _ e n => u.slot b o e n hb (by simp)) (fun b o _ e n => u.free b o e n (by simp)) (fun b o _ e => u.there b o e (by simp)) u.tups u.frzs u.tbls (fun m' hm => by
    obtain ⟨o', es', ep', ho', r'⟩ := hm
    rw [ho] at ho'; cases ho'
    exact ⟨_, es', ep', hL, r'⟩) hok I.bare
theorem Inv.call {g' : Array GenState} {t' : Nat} {d' : Drawn} {ch : List Addr} (I : Inv X pins σ H s) (u : Un (frs X.stack) ch H H' s.heap h') (hok : HOk X.prog X.w H' h') (hg : AllBare g')
    (hch : ∀ b ∈ ch, (b ∈ X.ex ∨ X.s₀.heap.objs.size ≤ b) ∧ b ≠ X.env.locals ∧ (∀ x c, X.env.cells.lookup x = some c → c ≠ b) ∧ ∀ p ∈ X.pn ++ pins, p.1 ≠ b) :
    Inv X pins σ H' { s with heap := h', gens := g', drawn := d', toks := t' } := by
  obtain ⟨m, ⟨o, es, ep, ho, r⟩, _⟩ := id I.loc
  obtain ⟨sl, hL⟩ := u.any ho I.free fun z => (hch _ z).2.1 rfl
  exact I.step (ch := ch) hch (fun b o hL hb hc e n => u.keep b o e n (fun z => (List.mem_cons.mp (I.stkSub b z)).elim hL hb) hc) (fun b o _ _ hc e n => u.any e n hc) (fun b o hc e n => u.free b o e n hc) (fun b o hc e => u.there b o e hc) u.tups u.frzs u.tbls (fun m' hm => by
    obtain ⟨o', es', ep', ho', r'⟩ := hm
    rw [ho] at ho'; cases ho'
    exact ⟨_, es', ep', hL, r'⟩) hok hg
theorem Inv.turned {t' : Nat} {it : Addr} (I : Inv X pins σ H s) (k : ∀ b o, b ≠ it → s.heap.get? b = some o → h'.get? b = some o) (hn : H it = none) (hL : it ≠ X.env.locals)
    (h1 : it ∈ X.ex ∨ X.s₀.heap.objs.size ≤ it) (h2 : ∀ x c, X.env.cells.lookup x = some c → c ≠ it) (h3 : ∀ p ∈ X.pn ++ pins, p.1 ≠ it) : Inv X pins σ H { s with heap := h', toks := t' } := by
  have nit : ∀ b u, H b = some u → b ≠ it := fun b u e z => by rw [z, hn] at e; cases e
  refine I.step (g' := s.gens) (d' := s.drawn) (ch := [it]) (fun b hb => ?_) (fun b o _ _ hc e _ => k b o (fun z => hc (by simp [z])) e) (fun b o _ _ hc e _ => ⟨o.slots, k b o (fun z => hc (by simp [z])) e⟩) (fun _ _ _ _ n => n)
    (fun b o hc e => ⟨o, k b o (fun z => hc (by simp [z])) e⟩) (fun _ _ e => e) (fun _ _ _ e => e) (fun b ps e => ⟨#[], by rw [e]; simp⟩) (fun m hm => ?_) (fun b u e => ?_) I.bare
  · have e : b = it := by simpa using hb
    subst e
    exact ⟨h1, hL, h2, h3⟩
  · obtain ⟨o, es, ep, ho, r⟩ := hm
    exact ⟨o, es, ep, k _ o (Ne.symm hL) ho, r⟩
  · refine (I.hok b u e).stay (fun c v hc q => k c v ?_ q) (fun _ q => q) fun _ _ q => q
    rcases hc with z | z
    · rw [z]; exact nit b u e
    · exact nit c _ z
theorem Inv.tok (I : Inv X pins σ H s) (t : Nat) : Inv X pins σ H { s with toks := t } := I.un (h' := s.heap) (t' := t) Un.refl I.hok
theorem Inv.kept {t' : Nat} (I : Inv X pins σ H s) (k : ∀ b u, s.heap.get? b = some u → h'.get? b = some u) : Inv X pins σ H { s with heap := h', toks := t' } := I.un (Un.kept k) (I.hok.kept k)
theorem Inv.laid {a : Addr} {o : HO} {t' : Nat} (I : Inv X pins σ H s) (k : ∀ b u, s.heap.get? b = some u → h'.get? b = some u) (hp : s.heap.objs.size ≤ a) (new : ObjOk X.prog X.w (upd H a o) h' a o) :
    Inv X pins σ (upd H a o) { s with heap := h', toks := t' } := I.un (Un.laid k hp (I.hok.fresh hp)) (I.hok.laid k hp new)
theorem Inv.write {x e : Addr} {o : HO} {t' : Nat} (I : Inv X pins σ H s) (mu : Mut (H x)) (he : e = x ∨ H e = some (.own x)) (k : ∀ b u, b ≠ e → s.heap.get? b = some u → h'.get? b = some u) (heo : ∃ u, h'.get? e = some u)
    (new : ObjOk X.prog X.w (upd H x o) h' x o) : Inv X pins σ (upd H x o) { s with heap := h', toks := t' } := I.un (Un.write mu he k heo) (I.hok.write mu he k heo new)
theorem Inv.weak {σ' : List (Option V)} (I : Inv X pins σ H s) (hl : σ'.length = σ.length) (w : ∀ (i : Nat) v, σ'[i]? = some (some v) → σ[i]? = some (some v)) : Inv X pins σ' H s :=
  ⟨I.ok, I.os, I.bare, I.base, let ⟨m, hn, hl'⟩ := I.loc; ⟨m, hn, fun i x v e1 e2 e3 => hl' i x v e1 (w i v e2) e3⟩, I.cell, I.free, I.freeC, I.pin, I.hok, hl.trans I.len⟩
theorem Inv.pins_of {pins' : List (Addr × Obj)} (I : Inv X pins σ H s) (h : ∀ p ∈ pins', s.heap.get? p.1 = some p.2 ∧ H p.1 = none ∧ p.1 ≠ X.env.locals ∧ p.1 ∉ X.fs ∧ ∀ v, p.2.data ≠ .cell v) : Inv X pins' σ H s :=
  ⟨I.ok, I.os, I.bare, I.base, I.loc, I.cell, I.free, I.freeC, fun p hp => (List.mem_append.mp hp).elim (fun z => I.pin p (List.mem_append_left _ z)) (h p), I.hok, I.len⟩
theorem nodup_ix {N : List Str} (hN : N.Nodup) {i j : Nat} {x : Str} (a : N[i]? = some x) (b : N[j]? = some x) : i = j := by
  obtain ⟨h1, e1⟩ := List.getElem?_eq_some_iff.mp a
  obtain ⟨h2, e2⟩ := List.getElem?_eq_some_iff.mp b
  exact (List.getElem_inj hN).mp (e1.trans e2.symm)
theorem store_ok2 {M : Model} {A : Around} {E : Value → Shared → Prop} {i : Nat} {x : Str} {v : V} {u : Value} {Q : Unit → Shared → Prop} (I : Inv X pins σ H s) (hN : X.N.Nodup) (hi : X.N[i]? = some x) (hx : Loc X.env.scope x) (r : RelV v u)
    (h : ∀ s', Inv X pins (σ.set i (some v)) H s' → (∃ a, Heap.SameBut a s.heap s'.heap ∧ (a = X.env.locals ∨ X.env.cells.lookup x = some a)) → Q () s') (hf : X.fn x = true ∨ X.env.scope.names.lookup x = some .local := by first | exact .inl rfl | exact .inr rfl | assumption) : wpAny M A (storeName X.env x u) Q E s := by
  obtain ⟨m, hn, hl⟩ := id I.loc
  have hcls : (X.env.scope.kind == .class || (X.env.scope.kind == .module && X.env.locals != X.env.globals)) = false := by rw [I.ok.kind]; rfl
  have hiσ : i < σ.length := by rw [I.len]; exact (List.getElem?_eq_some_iff.mp hi).1
  have cne := I.cne
  have tracked : ∀ {a : Addr} {h' : Heap}, (∃ o, s.heap.get? a = some o ∧ H a = none) → Heap.SameBut a s.heap h' → HOk X.prog X.w H h' := fun {a h'} ha hs b ob e => by
    obtain ⟨_, _, hfree⟩ := ha
    refine (I.hok b ob e).stay (fun c w' hc q => (hs.2 c ?_).trans q) (fun _ q => q) fun _ _ q => q
    rintro rfl
    rcases hc with rfl | hc
    · rw [hfree] at e; cases e
    · rw [hfree] at hc; cases hc
  rcases hx with hk | hk
  · refine wpAny_storeName_local hk hn (fun h' hn' hs => ?_) hcls
    obtain ⟨oL, _, _, hoL, _⟩ := id hn
    refine h _ ⟨I.ok, I.os, I.bare, ⟨fun b o e n hb hx => ?_, fun b o e n hb hx => ?_, I.base.free, fun b o e hx => ?_, I.base.tups, I.base.frzs, I.base.tbls⟩, ⟨_, hn', fun j y v' e1 e2 e3 => ?_⟩, fun y c e => ?_, I.free, I.freeC, fun p hp => ?_, tracked ⟨oL, hoL, I.free⟩ hs, by simpa using I.len⟩ ⟨_, hs, .inl rfl⟩
    · exact (hs.2 b (Nat.ne_of_lt (Nat.lt_of_lt_of_le (Heap.lt_size e) I.ok.above))).trans (I.base.keep b o e n hb hx)
    · obtain ⟨sl, e1⟩ := I.base.slot b o e n hb hx
      exact ⟨sl, (hs.2 b (Nat.ne_of_lt (Nat.lt_of_lt_of_le (Heap.lt_size e) I.ok.above))).trans e1⟩
    · obtain ⟨o', e1⟩ := I.base.there b o e hx
      exact ⟨o', (hs.2 b (Nat.ne_of_lt (Nat.lt_of_lt_of_le (Heap.lt_size e) I.ok.above))).trans e1⟩
    · by_cases hj : j = i
      · subst hj
        rw [hi] at e1; cases e1
        rw [List.getElem?_set_self hiσ] at e2
        cases e2
        exact ⟨u, r, .inl ⟨hk, by simp⟩⟩
      · rw [List.getElem?_set_ne (Ne.symm hj)] at e2
        obtain ⟨u', r', q⟩ := hl j y v' e1 e2 e3
        refine ⟨u', r', ?_⟩
        rcases q with ⟨k, e⟩ | ⟨k, c, e, z⟩
        · refine .inl ⟨k, ?_⟩
          have : y ≠ x := fun e => hj (nodup_ix hN e1 (e ▸ hi))
          simp [this, e]
        · exact .inr ⟨k, c, e, z.sameBut hs (cne y c e)⟩
    · obtain ⟨w', z⟩ := I.cell y c e
      exact ⟨w', z.sameBut hs (cne y c e)⟩
    · obtain ⟨e, n, ne, nf, d⟩ := I.pin p hp
      exact ⟨(hs.2 p.1 ne).trans e, n, ne, nf, d⟩
  · have hfn : X.fn x = true := by
      rcases hf with z | z
      · exact z
      · rw [z] at hk; cases hk
    obtain ⟨c, hc⟩ := I.ok.has x (.inl hk)
    obtain ⟨w', z⟩ := I.cell x c hc
    refine wpAny_storeName_cell I.ok.kind hk hc z (fun h' hc' hs => ?_)
    obtain ⟨oc, hoc, hocd⟩ := id z
    refine h { s with heap := h' } ⟨I.ok, I.os, I.bare, ⟨fun b o e n hb hx => ?_, fun b o e n hb hx => ?_, I.base.free, fun b o e hx => ?_, I.base.tups, I.base.frzs, I.base.tbls⟩, ⟨m, hn.sameBut hs (Ne.symm (cne x c hc)), fun j y v' e1 e2 e3 => ?_⟩, fun y c' e => ?_, I.free, I.freeC, fun p hp => ?_, tracked ⟨oc, hoc, I.freeC x c hc⟩ hs, by simpa using I.len⟩ ⟨c, hs, .inr hc⟩
    · exact (hs.2 b (Nat.ne_of_lt (Nat.lt_of_lt_of_le (Heap.lt_size e) (I.ok.cab x c hfn hc)))).trans (I.base.keep b o e n hb hx)
    · obtain ⟨sl, e1⟩ := I.base.slot b o e n hb hx
      exact ⟨sl, (hs.2 b (Nat.ne_of_lt (Nat.lt_of_lt_of_le (Heap.lt_size e) (I.ok.cab x c hfn hc)))).trans e1⟩
    · obtain ⟨o', e1⟩ := I.base.there b o e hx
      exact ⟨o', (hs.2 b (Nat.ne_of_lt (Nat.lt_of_lt_of_le (Heap.lt_size e) (I.ok.cab x c hfn hc)))).trans e1⟩
    · by_cases hj : j = i
      · subst hj
        rw [hi] at e1; cases e1
        rw [List.getElem?_set_self hiσ] at e2
        cases e2
        exact ⟨u, r, .inr ⟨.inl hk, c, hc, hc'⟩⟩
      · rw [List.getElem?_set_ne (Ne.symm hj)] at e2
        obtain ⟨u', r', q⟩ := hl j y v' e1 e2 e3
        refine ⟨u', r', ?_⟩
        rcases q with q | ⟨k, c', e, z'⟩
        · exact .inl q
        · refine .inr ⟨k, c', e, z'.sameBut hs ?_⟩
          rintro rfl
          exact hj (nodup_ix hN e1 (I.ok.inj _ _ _ e hc ▸ hi))
    · by_cases hcc : c' = c
      · subst hcc; exact ⟨_, hc'⟩
      · obtain ⟨w2, z2⟩ := I.cell y c' e
        exact ⟨w2, z2.sameBut hs hcc⟩
    · obtain ⟨e, n, ne, nf, d⟩ := I.pin p hp
      refine ⟨(hs.2 p.1 ?_).trans e, n, ne, nf, d⟩
      intro q
      rw [q, hoc] at e
      have q' : oc = p.2 := Option.some.inj e
      exact d w' (by rw [← q']; exact hocd)
theorem store_ok {M : Model} {A : Around} {E : Value → Shared → Prop} {i : Nat} {x : Str} {v : V} {u : Value} {Q : Unit → Shared → Prop} (I : Inv X pins σ H s) (hN : X.N.Nodup) (hi : X.N[i]? = some x) (hx : Loc X.env.scope x) (r : RelV v u)
    (h : ∀ s', Inv X pins (σ.set i (some v)) H s' → Q () s') (hf : X.fn x = true ∨ X.env.scope.names.lookup x = some .local := by first | exact .inl rfl | exact .inr rfl | assumption) : wpAny M A (storeName X.env x u) Q E s :=
  store_ok2 I hN hi hx r (fun s' I' _ => h s' I') hf
theorem Inv.call' {s' : Shared} {ch : List Addr} (I : Inv X pins σ H s) (ho : s'.os = s.os) (u : Un (frs X.stack) ch H H' s.heap s'.heap) (hok : HOk X.prog X.w H' s'.heap) (hg : AllBare s'.gens)
    (hch : ∀ b ∈ ch, (b ∈ X.ex ∨ X.s₀.heap.objs.size ≤ b) ∧ b ≠ X.env.locals ∧ (∀ x c, X.env.cells.lookup x = some c → c ≠ b) ∧ ∀ p ∈ X.pn ++ pins, p.1 ≠ b) : Inv X pins σ H' s' := by
  obtain ⟨h', g', d', t', o'⟩ := s'
  have e : o' = s.os := ho
  subst e
  exact I.call (g' := g') (t' := t') (d' := d') u hok hg hch
end
abbrev XK := Addr → Addr → Hp → Prop
abbrev St := List (Option V)
abbrev VK := V → Hp → Prop
abbrev TE := St → Hp → VK → Prop
abbrev TT := St → Hp → (Bool → Hp → Prop) → Prop
abbrev TA := St → Hp → (List V → Hp → Prop) → Prop
structure Ends where
  nx : St → Hp → Prop
  rt : VK
  bk : St → Hp → Prop := fun _ _ => False
  ct : St → Hp → Prop := fun _ _ => False
abbrev TS := Ends → St → Hp → Prop
def EP (X : Cx) (pins : List (Addr × Obj)) (σ : St) (Q : VK) (u : Value) (s' : Shared) : Prop := ∃ v H', Inv X pins σ H' s' ∧ RelV v u ∧ Q v H'
def TP (X : Cx) (pins : List (Addr × Obj)) (σ : St) (Q : Bool → Hp → Prop) (b : Bool) (s' : Shared) : Prop := ∃ H', Inv X pins σ H' s' ∧ Q b H'
def AP (X : Cx) (pins : List (Addr × Obj)) (σ : St) (Q : List V → Hp → Prop) (us : List Value) (s' : Shared) : Prop := ∃ vs H', Inv X pins σ H' s' ∧ Vals vs us ∧ Q vs H'
def SP (X : Cx) (pins : List (Addr × Obj)) (D : Ends) (f : Flow) (s' : Shared) : Prop :=
  match f with
  | .next => ∃ σ' H', Inv X pins σ' H' s' ∧ D.nx σ' H'
  | .brk => ∃ σ' H', Inv X pins σ' H' s' ∧ D.bk σ' H'
  | .cont => ∃ σ' H', Inv X pins σ' H' s' ∧ D.ct σ' H'
  | .ret u => ∃ v σ' H', Inv X pins σ' H' s' ∧ RelV v u ∧ D.rt v H'
def PE (X : Cx) (e : Expr) (t : TE) : Prop :=
  ∀ (pins : List (Addr × Obj)) (s : Shared) (σ : St) (H : Hp) (Q : VK), Inv X pins σ H s → t σ H Q → wpAny (model X.prog X.w) X.A (eval e X.env) (EP X pins σ Q) X.xe s
def PT (X : Cx) (e : Expr) (t : TT) : Prop :=
  ∀ (pins : List (Addr × Obj)) (s : Shared) (σ : St) (H : Hp) (Q : Bool → Hp → Prop), Inv X pins σ H s → t σ H Q → wpAny (model X.prog X.w) X.A (isTrue e X.env (eval e X.env)) (TP X pins σ Q) X.xe s
def PW (X : Cx) (e : Expr) (t : TT) : Prop :=
  ∀ (whole : Sem Value) (pins : List (Addr × Obj)) (s : Shared) (σ : St) (H : Hp) (Q : Bool → Hp → Prop), Inv X pins σ H s → t σ H Q → wpAny (model X.prog X.w) X.A (isTrue e X.env whole) (TP X pins σ Q) X.xe s
theorem PW.pt {X : Cx} {e : Expr} {t : TT} (h : PW X e t) : PT X e t := h _
def PA (X : Cx) (es : List Expr) (t : TA) : Prop :=
  ∀ (pos : Pos) (pins : List (Addr × Obj)) (s : Shared) (σ : St) (H : Hp) (Q : List V → Hp → Prop), Inv X pins σ H s → t σ H Q → wpAny (model X.prog X.w) X.A (spliced (backTo pos (starEach es X.env))) (AP X pins σ Q) X.xe s
def PS (X : Cx) (st : Stmt) (t : TS) : Prop :=
  ∀ (pins : List (Addr × Obj)) (s : Shared) (σ : St) (H : Hp) (D : Ends), Inv X pins σ H s → t D σ H → wpAny (model X.prog X.w) X.A (exec st X.env) (SP X pins D) X.xe s
def PSs (X : Cx) (st : List Stmt) (t : TS) : Prop :=
  ∀ (pins : List (Addr × Obj)) (s : Shared) (σ : St) (H : Hp) (D : Ends), Inv X pins σ H s → t D σ H → wpAny (model X.prog X.w) X.A (execs st X.env) (SP X pins D) X.xe s
theorem thn {α : Type} {t : Sem α} {Q Q' : α → Shared → Prop} {M : Model} {A : Around} {E : Value → Shared → Prop} {s : Shared} (h : wpAny M A t Q E s) (hQ : ∀ a s, Q a s → Q' a s) : wpAny M A t Q' E s := wpAny_mono h hQ fun _ _ x => x
end L2
namespace L2
open PySem PySem.Spec PyProof.Rows
variable {q0 : Bool}
section
variable {X : Cx}
def tVar (i : Nat) : TE := fun σ H Q => ∃ v, σ[i]? = some (some v) ∧ Q v H
def tC (v : V) : TE := fun _ H Q => Q v H
theorem pe_var {i : Nat} {x : Str} {pos : Pos} (hN : X.N[i]? = some x) (hv : Vis X.env.scope x) (hd : (x == ("__debug__" : Str)) = false := by decide) (hcd : (x == ("__classdict__" : Str)) = false := by decide) : PE X (.Name x pos) (tVar i) := by
  intro pins s σ H Q I h
  obtain ⟨v, e, h⟩ := h
  obtain ⟨m, hn, hl⟩ := I.loc
  obtain ⟨u, r, l⟩ := hl i x v hN e hv
  have fin : EP X pins σ Q u s := ⟨v, H, I, r, h⟩
  rcases l with ⟨hk, hm⟩ | ⟨hk, c, hc, hcell⟩
  · exact wpAny_Name (wpAny_loadName_local I.ok.kind hk hn hm fin) hd
  · rcases hk with hk | hk
    · exact wpAny_Name (wpAny_loadName_cell I.ok.kind hk hc hcell fin) hd
    · exact wpAny_Name (wpAny_loadName_free I.ok.kind hk hc hcell fin hcd) hd
theorem pe_int {i j pos} : PE X (.Constant (.int i) j pos) (tC (.int i)) := fun _ _ _ H _ I h => wpAny_Constant_int ⟨.int i, H, I.tok _, ⟨_, rfl⟩, h⟩
theorem pe_bl {b j pos} : PE X (.Constant (.bool b) j pos) (tC (.bl b)) := fun _ _ _ H _ I h => Constant_bool ⟨.bl b, H, I, rfl, h⟩
theorem pe_non {j pos} : PE X (.Constant .none j pos) (tC .non) := fun _ _ _ H _ I h => Constant_none ⟨.non, H, I, rfl, h⟩
theorem pe_str {x j pos} : PE X (.Constant (.str x) j pos) (tC (.str x)) := fun _ _ _ H _ I h => Calls.Constant_str ⟨.str x, H, I.tok _, ⟨_, rfl⟩, h⟩
def Gl (X : Cx) (x : Str) : Prop := X.env.kindOf x = some .globalImplicit
theorem ld_glob {E : Value → Shared → Prop} {pins : List (Addr × Obj)} {s : Shared} {σ : St} {H : Hp} {x : Str} {u : Value} {pos : Pos} {Q : Value → Shared → Prop} (I : Inv X pins σ H s) (hg : Gl X x) (hm : X.mg x = some u) (h : Q u s)
    (hd : (x == ("__debug__" : Str)) = false := by decide) : wpAny (model X.prog X.w) X.A (eval (.Name x pos) X.env) Q E s :=
  Calls.Name_function_global I.ok.kind hg (Calls.loadGlobal_global (by rw [I.ok.glob]; exact I.mod.glob.keeps I.bk) hm h) hd
theorem ld_blt {E : Value → Shared → Prop} {pins : List (Addr × Obj)} {s : Shared} {σ : St} {H : Hp} {x : Str} {u : Value} {pos : Pos} {Q : Value → Shared → Prop} (I : Inv X pins σ H s) (hg : Gl X x) (hm : X.mg x = none) (hv : bootBuiltins x = some u) (h : Q u s)
    (hn : x ≠ "__name__" := by decide) (hd : (x == ("__debug__" : Str)) = false := by decide) : wpAny (model X.prog X.w) X.A (eval (.Name x pos) X.env) Q E s := by
  obtain ⟨mb, h1, h2⟩ := I.mod.blt
  exact Calls.Name_function_global I.ok.kind hg (Calls.loadGlobal_builtin (by rw [I.ok.glob]; exact I.mod.glob.keeps I.bk) hm (by rw [I.ok.blt]; exact h1.keeps I.bk) ((h2 x hn).trans hv) h) hd
theorem pe_glob {x : Str} {v : V} {u : Value} {pos : Pos} (hg : Gl X x) (hm : X.mg x = some u) (r : RelV v u) (hd : (x == ("__debug__" : Str)) = false := by decide) : PE X (.Name x pos) (tC v) :=
  fun _ _ _ H _ I h => ld_glob I hg hm ⟨v, H, I, r, h⟩ hd
theorem pe_bltn {x : Str} {v : V} {u : Value} {pos : Pos} (hg : Gl X x) (hm : X.mg x = none) (hv : bootBuiltins x = some u) (r : RelV v u) (hn : x ≠ "__name__" := by decide) (hd : (x == ("__debug__" : Str)) = false := by decide) : PE X (.Name x pos) (tC v) :=
  fun _ _ _ H _ I h => ld_blt I hg hm hv ⟨v, H, I, r, h⟩ hn hd
variable {a b : Expr} {ta tb : TE} {pos : Pos}
def PC (X : Cx) (op : CmpOp) (a b : Expr) (t : TE) : Prop :=
  ∀ (pins : List (Addr × Obj)) (s : Shared) (σ : St) (H : Hp) (Q : VK), Inv X pins σ H s → t σ H Q →
    wpAny (model X.prog X.w) X.A (eval a X.env) (fun v s₁ => wpAny (model X.prog X.w) X.A (eval b X.env) (fun u s₂ => wpAny (model X.prog X.w) X.A (compareOp op v u) (EP X pins σ Q) X.xe s₂) X.xe s₁) X.xe s
theorem nobehind (b : Expr) {op : CmpOp} (h : op ≠ .In) (h2 : op ≠ .NotIn) : behindInMarks op b = false := by
  have e1 : (op == CmpOp.In) = false := by cases op <;> first | rfl | exact absurd rfl h
  have e2 : (op == CmpOp.NotIn) = false := by cases op <;> first | rfl | exact absurd rfl h2
  cases b <;> simp [behindInMarks, e1, e2]
def tB (t : TE) : TT := fun σ H Q => t σ H fun x H1 => ∃ c, x = .bl c ∧ Q c H1
theorem pe_cmp {op : CmpOp} {t : TE} (h : PC X op a b t) (h1 : behindInMarks op b = false := by first | exact nobehind _ (by decide) (by decide) | rfl) : PE X (.Compare a [op] [b] pos) t := fun pins s σ H Q I hw => wpAny_Compare1 (h pins s σ H Q I hw) h1
theorem pt_cmp {op : CmpOp} {t : TE} (h : PC X op a b t) (h1 : behindInMarks op b = false := by first | exact nobehind _ (by decide) (by decide) | rfl) : PT X (.Compare a [op] [b] pos) (tB t) := by
  intro pins s σ H Q I hw
  refine wpAny_isTrue_Compare1 (thn (h pins s σ H _ I hw) fun v s1 h1 => thn h1 fun u s2 h2 => thn h2 fun c s3 ⟨x, H1, I1, r1, q1⟩ => ?_) h1
  obtain ⟨d, rfl, q⟩ := q1
  cases r1
  exact wpAny_truthy_bool ⟨H1, I1, q⟩
theorem pt_val {e : Expr} {t : TE} (h : PE X e t) (he : ∀ whole, isTrue e X.env whole = (do let v ← whole; standAt e.pos; holding [v] (truthy v)) := by intro _; rfl) : PT X e (tB t) := by
  intro pins s σ H Q I hw
  refine isTrue_plain (thn (h pins s σ H _ I hw) fun v s1 ⟨x, H1, I1, r1, q1⟩ => ?_) (he _)
  obtain ⟨d, rfl, q⟩ := q1
  cases r1
  exact wpAny_truthy_bool ⟨H1, I1, q⟩
variable {tA tB' : TT} {rest : List Expr}
def tAnd (t u : TT) : TT := fun σ H Q => t σ H fun c H1 => if c = true then u σ H1 Q else Q false H1
def tOr (t u : TT) : TT := fun σ H Q => t σ H fun c H1 => if c = true then Q true H1 else u σ H1 Q
def tNot (t : TT) : TT := fun σ H Q => t σ H fun c H1 => Q (!c) H1
theorem pw_and1 (ha : PT X a tA) : PW X (.BoolOp .And [a] pos) tA := by
  intro wh pins s σ H Q I h
  refine isTrue_and (thn (ha pins s σ H Q I h) fun c s1 e => ?_)
  cases c with
  | true => exact isTrue_and_nil e
  | false => exact e
theorem pw_or1 (ha : PT X a tA) : PW X (.BoolOp .Or [a] pos) tA := by
  intro wh pins s σ H Q I h
  refine isTrue_or (thn (ha pins s σ H Q I h) fun c s1 e => ?_)
  cases c with
  | false => exact isTrue_or_nil e
  | true => exact e
theorem pw_and (ha : PT X a tA) (hb : PW X (.BoolOp .And (b :: rest) pos) tB') : PW X (.BoolOp .And (a :: b :: rest) pos) (tAnd tA tB') := by
  intro wh pins s σ H Q I h
  refine isTrue_and (thn (ha pins s σ H _ I h) fun c s1 ⟨H1, I1, q1⟩ => ?_)
  cases c with
  | true => exact hb wh pins s1 σ H1 Q I1 q1
  | false => exact ⟨H1, I1, q1⟩
theorem pw_or (ha : PT X a tA) (hb : PW X (.BoolOp .Or (b :: rest) pos) tB') : PW X (.BoolOp .Or (a :: b :: rest) pos) (tOr tA tB') := by
  intro wh pins s σ H Q I h
  refine isTrue_or (thn (ha pins s σ H _ I h) fun c s1 ⟨H1, I1, q1⟩ => ?_)
  cases c with
  | true => exact ⟨H1, I1, q1⟩
  | false => exact hb wh pins s1 σ H1 Q I1 q1
theorem pt_not (ha : PT X a tA) : PT X (.UnaryOp .Not a pos) (tNot tA) := by
  intro pins s σ H Q I h
  exact isTrue_not (ha pins s σ H (fun c H1 => Q (!c) H1) I h)
def tAndV (ta tb : TE) : TE := fun σ H Q => ta σ H fun x H1 => ∃ c, x = .bl c ∧ if c = true then tb σ H1 Q else Q (.bl false) H1
def tOrV (ta tb : TE) : TE := fun σ H Q => ta σ H fun x H1 => ∃ c, x = .bl c ∧ if c = true then Q (.bl true) H1 else tb σ H1 Q
def tNotV (ta : TE) : TE := fun σ H Q => ta σ H fun x H1 => ∃ c, x = .bl c ∧ Q (.bl (!c)) H1
theorem pe_one {op} {t : TE} (h : PE X a t) : PE X (.BoolOp op [a] pos) t := fun pins s σ H Q I hw => BoolOp_one (h pins s σ H Q I hw)
theorem pe_and (ha : PE X a ta) (hb : PE X (.BoolOp .And (b :: rest) pos) tb) : PE X (.BoolOp .And (a :: b :: rest) pos) (tAndV ta tb) := by
  intro pins s σ H Q I h
  refine BoolOp_and (thn (ha pins s σ H _ I h) fun v s1 ⟨x, H1, I1, r1, q1⟩ => ?_)
  obtain ⟨c, rfl, q1⟩ := q1
  cases r1
  refine wpAny_truthy_bool ?_
  cases c with
  | true => exact hb pins s1 σ H1 Q I1 q1
  | false => exact ⟨.bl false, H1, I1, rfl, q1⟩
theorem pe_or (ha : PE X a ta) (hb : PE X (.BoolOp .Or (b :: rest) pos) tb) : PE X (.BoolOp .Or (a :: b :: rest) pos) (tOrV ta tb) := by
  intro pins s σ H Q I h
  refine BoolOp_or (thn (ha pins s σ H _ I h) fun v s1 ⟨x, H1, I1, r1, q1⟩ => ?_)
  obtain ⟨c, rfl, q1⟩ := q1
  cases r1
  refine wpAny_truthy_bool ?_
  cases c with
  | false => exact hb pins s1 σ H1 Q I1 q1
  | true => exact ⟨.bl true, H1, I1, rfl, q1⟩
theorem pe_not (ha : PE X a ta) : PE X (.UnaryOp .Not a pos) (tNotV ta) := by
  intro pins s σ H Q I h
  refine UnaryOp_ (thn (ha pins s σ H _ I h) fun v s1 ⟨x, H1, I1, r1, q1⟩ => ?_)
  obtain ⟨c, rfl, q1⟩ := q1
  cases r1
  exact not_of (wpAny_truthy_bool ⟨.bl (!c), H1, I1, rfl, q1⟩)
def tIf (t : TT) (ta tb : TE) : TE := fun σ H Q => t σ H fun c H1 => if c = true then ta σ H1 Q else tb σ H1 Q
theorem pe_ifExp {c : Expr} (hc : PT X c tA) (ha : PE X a ta) (hb : PE X b tb) : PE X (.IfExp c a b pos) (tIf tA ta tb) := by
  intro pins s σ H Q I h
  refine wpAny_IfExp (thn (hc pins s σ H _ I h) fun d s1 ⟨H1, I1, q1⟩ => ?_)
  cases d with
  | true => exact ha pins s1 σ H1 Q I1 q1
  | false => exact hb pins s1 σ H1 Q I1 q1
end
end L2
namespace L2
open PySem PySem.Spec PyProof.Rows
variable {q0 : Bool}
def SqL (K : PySem.W.Frag) (H : Hp) (a : Addr) (xs : List V) : Prop :=
  Rd H a (.lst xs) ∨
    ∃ (o : Obj) (its : Array Value) (n : Nat), K.lookup a = some o ∧ o.cls = .type "list" ∧ o.dict = none ∧ o.data = .seq its n ∧ its.size ≤ sizeLine ∧ Vals xs its.toList
def SqT (K : PySem.W.Frag) (H : Hp) (a : Addr) (xs : List V) : Prop :=
  Rd H a (.tup xs) ∨
    ∃ (o : Obj) (its : Array Value) (n : Nat), K.lookup a = some o ∧ o.cls = .type "tuple" ∧ o.data = .seq its n ∧ its.size ≤ sizeLine ∧ Vals xs its.toList
def absV : Value → Option V
  | .none => some .non
  | .bool b => some (.bl b)
  | .int i _ => some (.int i)
  | .str x _ => some (.str x)
  | .bytes b _ => some (.byt b)
  | .float b _ => some (.flt b)
  | .ref a => some (.ref a)
  | .type n => some (.ty n)
  | _ => none
theorem RelV.abs {x : V} {u : Value} (r : RelV x u) : absV u = some x := by
  cases x with
  | non => cases r; rfl
  | bl _ => cases r; rfl
  | int _ => obtain ⟨t, rfl⟩ := r; rfl
  | str _ => obtain ⟨t, rfl⟩ := r; rfl
  | byt _ => obtain ⟨t, rfl⟩ := r; rfl
  | flt _ => obtain ⟨t, rfl⟩ := r; rfl
  | ref _ => cases r; rfl
  | ty _ => cases r; rfl
theorem RelV.inj {x y : V} {u : Value} (r : RelV x u) (q : RelV y u) : x = y := Option.some.inj (r.abs.symm.trans q.abs)
theorem Vals.inj : ∀ {xs ys : List V} {us : List Value}, Vals xs us → Vals ys us → xs = ys
  | _, _, _, .nil, .nil => rfl
  | _, _, _, .cons r t, .cons r' t' => by rw [r.inj r', Vals.inj t t']
section
variable {X : Cx} {pins : List (Addr × Obj)} {σ : St} {H : Hp} {s : Shared} {a : Addr} {xs ys : List V}
theorem SqL.of {K : PySem.W.Frag} (h : H a = some (.lst xs)) : SqL K H a xs := .inl (.inl h)
theorem SqT.of {K : PySem.W.Frag} (h : H a = some (.tup xs)) : SqT K H a xs := .inl (.inl h)
theorem Inv.list (I : Inv X pins σ H s) (h : SqL X.K H a xs) : ∃ its : List Value, Vals xs its ∧ PlainL s.heap a its.toArray ∧ xs.length ≤ sizeLine := by
  rcases h with h | ⟨o, its, n, hk, hc, hd, hs, hz, r⟩
  · obtain ⟨z, its, n, r, e⟩ := h.ok I.hok
    exact ⟨its, r, ⟨_, n, e, rfl, rfl, rfl⟩, z⟩
  · refine ⟨its.toList, r, ⟨o, n, I.kIn a o hk, hc, hd, by simpa using hs⟩, ?_⟩
    have e := r.length
    simp only [Array.length_toList] at e
    omega
theorem Inv.tuple (I : Inv X pins σ H s) (h : SqT X.K H a xs) : ∃ its : List Value, Vals xs its ∧ IsTup s.heap a its.toArray ∧ xs.length ≤ sizeLine := by
  rcases h with h | ⟨o, its, n, hk, hc, hs, hz, r⟩
  · obtain ⟨z, its, r, p⟩ := h.ok I.hok
    exact ⟨its, r, p, z⟩
  · refine ⟨its.toList, r, ⟨o, I.kIn a o hk, hc, n, by simpa using hs⟩, ?_⟩
    have e := r.length
    simp only [Array.length_toList] at e
    omega
theorem Inv.list_inj (I : Inv X pins σ H s) (h : SqL X.K H a xs) (h' : SqL X.K H a ys) : xs = ys := by
  obtain ⟨its, r, ⟨o, n, e, _, _, d⟩, _⟩ := I.list h
  obtain ⟨its', r', ⟨o', n', e', _, _, d'⟩, _⟩ := I.list h'
  rw [e] at e'; cases e'
  rw [d] at d'
  injection d' with d1 _
  have : its = its' := by simpa using congrArg Array.toList d1
  subst this
  exact r.inj r'
theorem Inv.tuple_inj (I : Inv X pins σ H s) (h : SqT X.K H a xs) (h' : SqT X.K H a ys) : xs = ys := by
  obtain ⟨its, r, ⟨o, e, _, n, d⟩, _⟩ := I.tuple h
  obtain ⟨its', r', ⟨o', e', _, n', d'⟩, _⟩ := I.tuple h'
  rw [e] at e'; cases e'
  rw [d] at d'
  injection d' with d1 _
  have : its = its' := by simpa using congrArg Array.toList d1
  subst this
  exact r.inj r'
end
abbrev Cx.wish (X : Cx) (E : Value → Shared → Prop) : Cx := { X with xe := E }
abbrev Cx.nox (X : Cx) : Cx := X.wish fun _ _ => False
theorem Cx.Ok.wish {X : Cx} (ok : X.Ok) (E : Value → Shared → Prop) : (X.wish E).Ok :=
  ⟨ok.mod, ok.kind, ok.glob, ok.blt, ok.above, ok.inj, ok.has, ok.cab, ok.hd, ok.frames, ok.stk, ok.exf, ok.bs, ok.bsz, ok.noex, ok.exfs, ok.funs, ok.frf⟩
theorem Cx.Ok.unwish {X : Cx} {E : Value → Shared → Prop} (ok : (X.wish E).Ok) : X.Ok :=
  ⟨ok.mod, ok.kind, ok.glob, ok.blt, ok.above, ok.inj, ok.has, ok.cab, ok.hd, ok.frames, ok.stk, ok.exf, ok.bs, ok.bsz, ok.noex, ok.exfs, ok.funs, ok.frf⟩
section
variable {X : Cx} {pins : List (Addr × Obj)} {σ : St} {H : Hp} {s : Shared} {E : Value → Shared → Prop}
theorem Inv.wish (I : Inv X pins σ H s) (E : Value → Shared → Prop) : Inv (X.wish E) pins σ H s := ⟨I.ok.wish E, I.os, I.bare, I.base, I.loc, I.cell, I.free, I.freeC, I.pin, I.hok, I.len⟩
theorem Inv.unwish (I : Inv (X.wish E) pins σ H s) : Inv X pins σ H s := ⟨I.ok.unwish, I.os, I.bare, I.base, I.loc, I.cell, I.free, I.freeC, I.pin, I.hok, I.len⟩
theorem SP.unwish {D : Ends} {f : Flow} {s' : Shared} (h : SP (X.wish E) pins D f s') : SP X pins D f s' := by
  cases f with
  | next => obtain ⟨σ', H', I, q⟩ := h; exact ⟨σ', H', I.unwish, q⟩
  | brk => obtain ⟨σ', H', I, q⟩ := h; exact ⟨σ', H', I.unwish, q⟩
  | cont => obtain ⟨σ', H', I, q⟩ := h; exact ⟨σ', H', I.unwish, q⟩
  | ret u => obtain ⟨v, σ', H', I, r, q⟩ := h; exact ⟨v, σ', H', I.unwish, r, q⟩
theorem PSs.nox {st : List Stmt} {t : TS} (h : PSs X.nox st t) : PSs X st t := fun pins s σ H D I hw =>
  wpAny_mono (h pins s σ H D (I.wish _) hw) (fun _ _ q => q.unwish) fun _ _ z => False.elim z
end
section
variable {X : Cx} {st : Stmt} {rest : List Stmt} {t u : TS} {e : Expr} {te : TE} {pos : Pos}
def tNext : TS := fun D σ H => D.nx σ H
def tSeq (t u : TS) : TS := fun D σ H => t { D with nx := u D } σ H
theorem pss_nil : PSs X [] tNext := fun _ _ σ H _ I h => wpAny_execs_nil ⟨σ, H, I, h⟩
theorem pss_cons (h1 : PS X st t) (h2 : PSs X rest u) : PSs X (st :: rest) (tSeq t u) := by
  intro pins s σ H D I h
  refine wpAny_execs_cons (thn (h1 pins s σ H { D with nx := u D } I h) fun f s1 q => ?_)
  cases f with
  | next =>
    obtain ⟨σ', H', I', q⟩ := q
    exact h2 pins s1 σ' H' D I' q
  | ret v => exact q
  | brk => exact q
  | cont => exact q
theorem pss_one (h1 : PS X st t) : PSs X [st] t := by
  intro pins s σ H D I h
  refine wpAny_execs_cons (thn (h1 pins s σ H D I h) fun f s1 q => ?_)
  cases f with
  | next => exact wpAny_execs_nil q
  | ret v => exact q
  | brk => exact q
  | cont => exact q
theorem Inv.quiet {pins : List (Addr × Obj)} {σ : St} {H : Hp} {s : Shared} (I : Inv X pins σ H s) : interactive X.env = false := by simp [interactive, I.ok.kind]
def tDrop (te : TE) : TS := fun D σ H => te σ H fun _ H1 => D.nx σ H1
theorem ps_expr (he : PE X e te) (hs : swapsWith e none pos.line X.env = pure false := by rfl) : PS X (.Expr e pos) (tDrop te) := by
  intro pins s σ H D I h
  exact wpAny_Expr_any (thn (he pins s σ H _ I h) fun v s1 ⟨x, H1, I1, r1, q1⟩ => ⟨σ, H1, I1, q1⟩) I.quiet hs
def tRet (te : TE) : TS := fun D σ H => te σ H D.rt
theorem ps_ret (he : PE X e te) : PS X (.Return (some e) pos) (tRet te) := by
  intro pins s σ H D I h
  exact wpAny_Return_some (thn (he pins s σ H _ I h) fun v s1 ⟨x, H1, I1, r1, q1⟩ => ⟨x, σ, H1, I1, r1, q1⟩)
def tIfS (c : TT) (t u : TS) : TS := fun D σ H => c σ H fun b H1 => if b = true then t D σ H1 else u D σ H1
theorem ps_if {c : Expr} {a b : List Stmt} {tc : TT} (hc : PT X c tc) (ha : PSs X a t) (hb : PSs X b u) : PS X (.If c a b pos) (tIfS tc t u) := by
  intro pins s σ H D I h
  refine wpAny_If (thn (hc pins s σ H _ I h) fun d s1 ⟨H1, I1, q1⟩ => ?_)
  cases d with
  | true => exact ha pins s1 σ H1 D I1 q1
  | false => exact hb pins s1 σ H1 D I1 q1
def tNever : TS := fun _ _ _ => False
theorem ps_never : PS X st tNever := fun _ _ _ _ _ _ h => h.elim
end
abbrev TG := V → St → Hp → (St → Hp → Prop) → Prop
abbrev TGs := List V → St → Hp → (St → Hp → Prop) → Prop
def PG (X : Cx) (target : Expr) (t : TG) : Prop :=
  ∀ (pins : List (Addr × Obj)) (s : Shared) (σ : St) (H : Hp) (v : V) (u : Value) (Q : St → Hp → Prop), Inv X pins σ H s → RelV v u → t v σ H Q →
    wpAny (model X.prog X.w) X.A (assign target X.env u) (fun _ s' => ∃ σ' H', Inv X pins σ' H' s' ∧ Q σ' H') X.xe s
def PGs (X : Cx) (ts : List Expr) (t : TGs) : Prop :=
  ∀ (pins : List (Addr × Obj)) (s : Shared) (σ : St) (H : Hp) (vs : List V) (us : List Value) (Q : St → Hp → Prop), Inv X pins σ H s → Vals vs us → t vs σ H Q →
    wpAny (model X.prog X.w) X.A (assignInOrder ((assignEach ts X.env).map (·.2)) us) (fun _ s' => ∃ σ' H', Inv X pins σ' H' s' ∧ Q σ' H') X.xe s
abbrev TIp := V → V → Hp → VK → Prop
def PIp (X : Cx) (op : Operator) (t : TIp) : Prop :=
  ∀ (pins : List (Addr × Obj)) (s : Shared) (σ : St) (H : Hp) (x y : V) (v u : Value) (Q : VK), Inv X pins σ H s → RelV x v → RelV y u → t x y H Q →
    wpAny (model X.prog X.w) X.A (inplaceOp op v u) (EP X pins σ Q) X.xe s
section
variable {X : Cx} {pos : Pos}
def gName (i : Nat) : TG := fun v σ H Q => Q (σ.set i (some v)) H
theorem pg_name {i : Nat} {x : Str} (hN : X.N.Nodup) (hi : X.N[i]? = some x) (hx : Loc X.env.scope x) (hf : X.fn x = true ∨ X.env.scope.names.lookup x = some .local := by first | exact .inl rfl | exact .inr rfl | assumption) : PG X (.Name x pos) (gName i) := by
  intro pins s σ H v u Q I r h
  exact wpAny_assign_Name (store_ok I hN hi hx r (fun s' I' => ⟨_, H, I', h⟩) hf)
def gNil : TGs := fun vs σ H Q => vs = [] ∧ Q σ H
def gCons (t : TG) (u : TGs) : TGs := fun vs σ H Q => ∃ v r, vs = v :: r ∧ t v σ H fun σ' H' => u r σ' H' Q
theorem pgs_nil : PGs X [] gNil := by
  intro pins s σ H vs us Q I r h
  obtain ⟨e, h⟩ := h
  subst e
  cases r
  exact assignInOrder_nil ⟨σ, H, I, h⟩
theorem pgs_cons {e : Expr} {es : List Expr} {t : TG} {u : TGs} (h1 : PG X e t) (h2 : PGs X es u)
    (hs : (assignEach (e :: es) X.env).map (·.2) = assign e X.env :: (assignEach es X.env).map (·.2) := by rfl) : PGs X (e :: es) (gCons t u) := by
  intro pins s σ H vs us Q I r h
  obtain ⟨v, vr, e1, h⟩ := h
  subst e1
  cases r with
  | cons r rr =>
    rw [hs]
    refine assignInOrder_cons (thn (h1 pins s σ H _ _ _ I r h) fun _ s1 ⟨σ1, H1, I1, q1⟩ => ?_)
    exact h2 pins s1 σ1 H1 _ _ Q I1 rr q1
def gTup (K : PySem.W.Frag) (n : Nat) (t : TGs) : TG := fun v σ H Q => ∃ a xs, v = .ref a ∧ SqT K H a xs ∧ xs.length = n ∧ t xs σ H Q
theorem pg_tup {es : List Expr} {k : Nat} {t : TGs} {n : Nat} (hc : X.calm = true) (h : PGs X es t)
    (hn : (assignEach es X.env).length = n := by rfl) (hst : (assignEach es X.env).findIdx? (·.1) = none := by rfl) : PG X (.Tuple es k pos) (gTup X.K n t) := by
  intro pins s σ H v u Q I r hw
  obtain ⟨a, xs, e1, hq, hl, hw⟩ := hw
  subst e1
  cases r
  obtain ⟨its, rv, ht, hz⟩ := I.tuple hq
  refine assign_Tuple_tuple (I.ok.hd hc) ht (by simp [hn, ← hl, rv.length]) hst fun h' hx => ?_
  have I1 : Inv X pins σ H { s with heap := h' } := I.kept (t' := s.toks) fun b o e => hx b o (Nat.ne_of_lt (Heap.lt_size e)) e
  exact h pins _ σ H xs _ Q I1 (by simpa using rv) hw
def tAsg (te : TE) (g : TG) : TS := fun D σ H => te σ H fun x H1 => g x σ H1 D.nx
theorem ps_asg {tg e : Expr} {te : TE} {g : TG} (he : PE X e te) (hg : PG X tg g) (hs : swapsWithSole [tg] e pos.line X.env = pure false := by rfl) (hw : swappedStores [tg] e X.env = pure none := by rfl)
    (h1 : (assignEach [tg] X.env).map (·.2) = [assign tg X.env] := by rfl) : PS X (.Assign [tg] e pos) (tAsg te g) := by
  intro pins s σ H D I h
  refine wpAny_Assign_stores (thn (he pins s σ H _ I h) fun v s1 ⟨x, H1, I1, r1, q1⟩ => ?_) hs hw
  rw [h1]
  exact thn (hg pins s1 σ H1 x v _ I1 r1 q1) fun _ s2 q => q
theorem ps_set {i : Nat} {x : Str} {e : Expr} {te : TE} {pos' : Pos} (hN : X.N.Nodup) (hi : X.N[i]? = some x) (hx : Loc X.env.scope x) (he : PE X e te) (hs : swapsWith e (some (.Name x pos')) pos.line X.env = pure false := by rfl) (hf : X.fn x = true ∨ X.env.scope.names.lookup x = some .local := by first | exact .inl rfl | exact .inr rfl | assumption) :
    PS X (.Assign [.Name x pos'] e pos) (tAsg te (gName i)) := by
  intro pins s σ H D I h
  refine wpAny_Assign_Name (thn (he pins s σ H _ I h) fun v s1 ⟨y, H1, I1, r1, q1⟩ => ?_) hs
  exact store_ok I1 hN hi hx r1 (fun s2 I2 => ⟨_, H1, I2, q1⟩) hf
def tAug (i : Nat) (te : TE) (ti : TIp) : TS := fun D σ H => ∃ x, σ[i]? = some (some x) ∧ te σ H fun y H1 => ti x y H1 fun z H2 => D.nx (σ.set i (some z)) H2
theorem ps_aug {i : Nat} {x : Str} {e : Expr} {te : TE} {op : Operator} {ti : TIp} {pos' : Pos} (hN : X.N.Nodup) (hi : X.N[i]? = some x) (hx : Loc X.env.scope x) (he : PE X e te) (ho : PIp X op ti) (hf : X.fn x = true ∨ X.env.scope.names.lookup x = some .local := by first | exact .inl rfl | exact .inr rfl | assumption) :
    PS X (.AugAssign (.Name x pos') op e pos) (tAug i te ti) := by
  intro pins s σ H D I h
  obtain ⟨v, e1, h⟩ := h
  obtain ⟨m, hn, hl⟩ := I.loc
  have vis : Vis X.env.scope x := by rcases hx with k | k; exact .inl k; exact .inr (.inl k)
  obtain ⟨u, r, l⟩ := hl i x v hi e1 vis
  refine wpAny_AugAssign_Name ?_
  have go : wpAny (model X.prog X.w) X.A (eval e X.env) (fun w s₂ => wpAny (model X.prog X.w) X.A (inplaceOp op u w) (fun r s₃ => wpAny (model X.prog X.w) X.A (storeName X.env x r) (fun _ => SP X pins D .next) X.xe s₃) X.xe s₂) X.xe s := by
    refine thn (he pins s σ H _ I h) fun w s1 ⟨y, H1, I1, r1, q1⟩ => ?_
    refine thn (ho pins s1 σ H1 v y u w _ I1 r r1 q1) fun z s2 ⟨zv, H2, I2, r2, q2⟩ => ?_
    exact store_ok I2 hN hi hx r2 (fun s3 I3 => ⟨_, H2, I3, q2⟩) hf
  rcases l with ⟨hk, hm⟩ | ⟨hk, c, hc, hcell⟩
  · exact wpAny_loadName_local I.ok.kind hk hn hm go
  · rcases hk with hk | hk
    · exact wpAny_loadName_cell I.ok.kind hk hc hcell go
    · rcases hx with k | k
      · have : X.env.scope.names.lookup x = some .free := hk
        rw [k] at this; cases this
      · have : X.env.scope.names.lookup x = some .free := hk
        rw [k] at this; cases this
end
section
variable {X : Cx} {pos : Pos}
def tWhile (c : TT) (tb : TS) : TS := fun D σ H => ∃ W : Nat → St → Hp → Prop, (∃ m, W m σ H) ∧ ∀ m σ H, W m σ H →
  c σ H fun b H1 => if b = true then ∃ N : St → Hp → Prop, (∀ σ' H', N σ' H' → ∃ m', m' < m ∧ W m' σ' H') ∧ tb { D with nx := N, ct := N, bk := D.nx } σ H1 else D.nx σ H1
theorem ps_while {c : Expr} {body : List Stmt} {tc : TT} {tb : TS} (hp : PassesOwn (model X.prog X.w) X.A X.env X.xe) (hc : PT X c tc) (hb : PSs X body tb) : PS X (.While c body [] pos) (tWhile tc tb) := by
  intro pins s σ H D I h
  obtain ⟨W, ⟨m0, w0⟩, turn⟩ := h
  refine wpAny_While (codeAny_whileLoop (fun n s' => ∃ σ' H', Inv X pins σ' H' s' ∧ W n σ' H') ?_ m0 ⟨σ, H, I, w0⟩)
  rintro n s1 ⟨σ1, H1, I1, w1⟩
  refine wpAny_passesOwn hp (thn (hc pins s1 σ1 H1 _ I1 (turn n σ1 H1 w1)) fun b s2 ⟨H2, I2, q2⟩ => ?_)
  cases b with
  | true =>
    obtain ⟨N, hN, q2⟩ := q2
    rw [if_pos rfl]
    refine wpAny_passesOwn hp (thn (hb pins s2 σ1 H2 _ I2 q2) fun f s3 q3 => ?_)
    cases f with
    | next =>
      obtain ⟨σ3, H3, I3, n3⟩ := q3
      obtain ⟨m', hm, w3⟩ := hN σ3 H3 n3
      exact ⟨m', hm, σ3, H3, I3, w3⟩
    | cont =>
      obtain ⟨σ3, H3, I3, n3⟩ := q3
      obtain ⟨m', hm, w3⟩ := hN σ3 H3 n3
      exact ⟨m', hm, σ3, H3, I3, w3⟩
    | brk => exact q3
    | ret v => exact q3
  | false =>
    rw [if_neg Bool.false_ne_true]
    exact wpAny_execs_nil ⟨σ1, H2, I2, q2⟩
end
structure It where
  go : Nat → Hp → Prop
  yld : Nat → Hp → V → Hp → Prop
  stop : Nat → Hp → Prop
def FpOk (X : Cx) (pins : List (Addr × Obj)) (H : Hp) (b : Addr) : Prop :=
  H b = none ∧ b ≠ X.env.locals ∧ b ∉ X.fs ∧ (b ∈ X.ex ∨ X.s₀.heap.objs.size ≤ b) ∧ (∀ x c, X.env.cells.lookup x = some c → c ≠ b) ∧ ∀ p ∈ X.pn ++ pins, p.1 ≠ b
theorem Inv.fpOk {X : Cx} {pins : List (Addr × Obj)} {σ : St} {H H' : Hp} {s : Shared} {b : Addr} (I : Inv X pins σ H s) (hb : s.heap.objs.size ≤ b) (hn : H' b = none) : FpOk X pins H' b := by
  refine ⟨hn, Nat.ne_of_gt (Nat.lt_of_lt_of_le I.lt hb), I.nofs hb, .inr (Nat.le_trans I.sz hb), fun x c e z => ?_, fun p hp z => ?_⟩
  · obtain ⟨v, q⟩ := I.cell x c e
    exact absurd (Nat.lt_of_lt_of_le q.lt (by rw [z]; exact hb)) (Nat.lt_irrefl _)
  · exact absurd (Nat.lt_of_lt_of_le (Heap.lt_size (I.pin p hp).1) (by rw [z]; exact hb)) (Nat.lt_irrefl _)
structure Turn (P : Program) (w : World) (K : PySem.W.Frag) (tg : Expr) (J : It) (fp : List Addr) (it : Addr) (tn : Nat → Heap → Prop) : Prop where
  mem : it ∈ fp
  obj : ∀ i h, tn i h → ∀ b ∈ fp, ∃ o, h.get? b = some o ∧ ∀ v, o.data ≠ .cell v
  keep : ∀ i h h', tn i h → (∀ b ∈ fp, ∀ o, h.get? b = some o → h'.get? b = some o) → tn i h'
  item : ∀ (X : Cx), X.prog = P → X.w = w → X.K = K → X.calm = true → ∀ (i : Nat) (pins : List (Addr × Obj)) (s : Shared) (σ : St) (H : Hp) (E : Value → Shared → Prop), Inv X pins σ H s → (∀ b ∈ fp, FpOk X pins H b) → tn i s.heap → J.go i H →
    wpAny (model P w) X.A (pyNext (.ref it)) (fun r s1 => ∃ u, r = some u ∧
      wpAny (model P w) X.A (letOwnedTupleGo tg (.ref it) u) (fun _ s2 => ∃ x H', Inv X pins σ H' s2 ∧ RelV x u ∧ J.yld i H x H' ∧ tn (i + 1) s2.heap ∧ ∀ b ∈ fp, H' b = none) E s1) E s
  done : ∀ (X : Cx), X.prog = P → X.w = w → X.K = K → X.calm = true → ∀ (i : Nat) (pins : List (Addr × Obj)) (s : Shared) (σ : St) (H : Hp) (E : Value → Shared → Prop), Inv X pins σ H s → (∀ b ∈ fp, FpOk X pins H b) → tn i s.heap → J.stop i H →
    wpAny (model P w) X.A (pyNext (.ref it)) (fun r s1 => r = none ∧ Inv X pins σ H s1) E s
  self : ∀ (A : Around) (i : Nat) (s : Shared) (Q : Value → Shared → Prop) (E : Value → Shared → Prop), tn i s.heap → Q (.ref it) s → wpAny (model P w) A (pyIter (.ref it)) Q E s
abbrev TI := St → Hp → (It → Hp → Prop) → Prop
def PIE (X : Cx) (pins : List (Addr × Obj)) (σ : St) (tg : Expr) (R : It → Hp → Prop) (itv : Value) (s2 : Shared) : Prop :=
  ∃ (it : Addr) (fp : List Addr) (tn : Nat → Heap → Prop) (J : It) (H' : Hp), itv = .ref it ∧ Inv X pins σ H' s2 ∧ Turn X.prog X.w X.K tg J fp it tn ∧ tn 0 s2.heap ∧ (∀ b ∈ fp, FpOk X pins H' b) ∧ R J H'
def PI (X : Cx) (tg iter : Expr) (wi : TI) : Prop :=
  ∀ (pins : List (Addr × Obj)) (s : Shared) (σ : St) (H : Hp) (R : It → Hp → Prop), Inv X pins σ H s → wi σ H R →
    wpAny (model X.prog X.w) X.A (eval iter X.env) (fun v s1 => wpAny (model X.prog X.w) X.A (pyIter v) (PIE X pins σ tg R) X.xe s1) X.xe s
theorem go_of {M : Model} {A : Around} {E : Value → Shared → Prop} {s : Shared} {tg : Expr} {it : Addr} {u : Value} {o : Obj} {n : String} {vs : Array Value} {Q : Unit → Shared → Prop} (ho : s.heap.get? it = some o) (hc : o.cls = .type n) (hd : o.data = .fields vs)
    (hn : ["enumerate", "zip", "dict_itemiterator", "dict_reverseitemiterator", "odict_iterator", "itertools.zip_longest", "itertools.pairwise"].contains n = false) (hQ : Q () s) : wpAny M A (letOwnedTupleGo tg (.ref it) u) Q E s := by
  unfold letOwnedTupleGo
  cases tg <;> first
    | exact wpAny_pure hQ
    | (cases u <;> first
        | exact wpAny_pure hQ
        | (refine wpAny_bind (wpAny_load ho ?_)
           rw [hc, hd]
           show wpAny M A (if (["enumerate", "zip", "dict_itemiterator", "dict_reverseitemiterator", "odict_iterator", "itertools.zip_longest", "itertools.pairwise"].contains n && vs[0]? == some (rawInt _)) = true then _ else _) Q E s
           rw [if_neg (by intro h; rw [hn, Bool.false_and] at h; cases h)]
           exact wpAny_pure hQ))
def Itl (K : PySem.W.Frag) (a : Addr) : It :=
  ⟨fun i H => ∃ xs x, SqL K H a xs ∧ xs[i]? = some x, fun i H x H' => H' = H ∧ ∀ xs, SqL K H a xs → xs[i]? = some x, fun i H => ∃ xs, SqL K H a xs ∧ xs.length ≤ i⟩
def Itr (lo : Int) (n : Nat) : It := ⟨fun i _ => i < n, fun i H x H' => H' = H ∧ x = .int (lo + i), fun i _ => n ≤ i⟩
theorem turn_list {P : Program} {w : World} {K : PySem.W.Frag} {tg : Expr} (a it : Addr) : Turn P w K tg (Itl K a) [it] it (fun i h => h.IsListIter it a i) where
  mem := by simp
  obj := fun i h st b hb => by
    have e : b = it := by simpa using hb
    subst e
    obtain ⟨o, e, c, d⟩ := st
    exact ⟨o, e, fun v z => by rw [d] at z; cases z⟩
  keep := fun i h h' st k => st.at fun o e => k it (by simp) o e
  item := by
    intro X hP hw hK hc i pins s σ H E I hf st hg
    subst hP hw hK
    obtain ⟨xs, x, hq, hx⟩ := hg
    obtain ⟨its, rv, p, hz⟩ := I.list hq
    obtain ⟨u, hu, ru⟩ := rv.get hx
    obtain ⟨f0, f1, f2, f3, f4, f5⟩ := hf it (by simp)
    refine wpAny_pyNext_list_item st p.isList (x := u) (by simpa using hu) fun h' st' sb => ?_
    have I1 : Inv X pins σ H { s with heap := h' } := I.turned (t' := s.toks) (fun b o hb e => (sb.2 b hb).trans e) f0 f1 f3 f4 f5
    obtain ⟨o, e, c, d⟩ := id st'
    exact ⟨u, rfl, go_of (s := { s with heap := h' }) e c d (by decide) ⟨x, H, I1, ru, ⟨rfl, fun ys hy => by rw [I.list_inj hy hq]; exact hx⟩, st', fun b hb => (hf b hb).1⟩⟩
  done := by
    intro X hP hw hK hc i pins s σ H E I hf st hg
    subst hP hw hK
    obtain ⟨xs, hq, hx⟩ := hg
    obtain ⟨its, rv, p, hz⟩ := I.list hq
    obtain ⟨f0, f1, f2, f3, f4, f5⟩ := hf it (by simp)
    have hl := rv.length
    exact wpAny_pyNext_list_end (I.ok.hd hc) st p.isList (by simp; omega) fun h' eb => ⟨rfl, I.turned (t' := s.toks) (fun b o hb e => eb b o hb e) f0 f1 f3 f4 f5⟩
  self := fun _ _ _ _ _ st h => wpAny_pyIter_listiter st h
theorem turn_range {P : Program} {w : World} {K : PySem.W.Frag} {tg : Expr} (it : Addr) (lo : Int) (n : Nat) : Turn P w K tg (Itr lo n) [it] it (fun i h => IsRangeIter h it (lo + (i : Nat) * 1) ((n : Int) - (i : Nat)) 1) where
  mem := by simp
  obj := fun i h st b hb => by
    have e : b = it := by simpa using hb
    subst e
    exact ⟨_, st, fun v z => by
      have z' : Data.fields _ = Data.cell v := z
      cases z'⟩
  keep := fun i h h' st k => k it (by simp) _ st
  item := by
    intro X hP hw hK hc i pins s σ H E I hf st hg
    subst hP hw hK
    obtain ⟨f0, f1, f2, f3, f4, f5⟩ := hf it (by simp)
    have W := Walks.range (prog := X.prog) (w := X.w) (I.ok.hd hc) it lo 1 n
    refine W.item i s _ _ hg st fun v h' tk hv st' kk => ?_
    obtain ⟨t, rfl⟩ := hv
    have I1 : Inv X pins σ H { s with heap := h', toks := tk } := I.turned (fun b o hb e => kk b o (by simpa using hb) e) f0 f1 f3 f4 f5
    refine ⟨_, rfl, go_of (s := { s with heap := h', toks := tk }) (n := "range_iterator") st' rfl rfl (by decide) ⟨.int (lo + i), H, I1, ⟨t, ?_⟩, ⟨rfl, rfl⟩, st', fun b hb => (hf b hb).1⟩⟩
    rw [Int.mul_one]
  done := by
    intro X hP hw hK hc i pins s σ H E I hf st hg
    subst hP hw hK
    obtain ⟨f0, f1, f2, f3, f4, f5⟩ := hf it (by simp)
    exact wpAny_pyNext_range_end (I.ok.hd hc) st (by have : n ≤ i := hg; omega) fun h' eb => ⟨rfl, I.turned (t' := s.toks) (fun b o hb e => eb b o hb e) f0 f1 f3 f4 f5⟩
  self := fun _ _ _ _ _ st h => wpAny_pyIter_rangeiter st h
end L2
namespace L2
open PySem PySem.Spec PyProof.Rows
variable {q0 : Bool}
section
variable {X : Cx} {tg : Expr}
def iList (K : PySem.W.Frag) (tl : TE) : TI := fun σ H R => tl σ H fun x H1 => ∃ a, x = .ref a ∧ (∃ xs, SqL K H1 a xs) ∧ R (Itl K a) H1
theorem pi_list {l : Expr} {tl : TE} (hl : PE X l tl) : PI X tg l (iList X.K tl) := by
  intro pins s σ H R I h
  refine thn (hl pins s σ H _ I h) fun v s1 ⟨x, H1, I1, r1, q1⟩ => ?_
  obtain ⟨a, e, ⟨xs, hq⟩, q⟩ := q1
  subst e
  cases r1
  obtain ⟨its, rv, p, hz⟩ := I1.list hq
  refine wpAny_pyIter_list p.isList ?_
  refine ⟨s1.heap.objs.size, [s1.heap.objs.size], _, _, H1, rfl, I1.kept (t' := s1.toks) fun b o e => Heap.get?_push_of_some _ e, turn_list a _, ⟨_, Heap.get?_push_size _ rfl, rfl, rfl⟩, fun b hb => ?_, q⟩
  have e : b = s1.heap.objs.size := by simpa using hb
  subst e
  exact I1.fpOk (Nat.le_refl _) (I1.hok.fresh (Nat.le_refl _))
theorem range_it {pins : List (Addr × Obj)} {σ : St} {H : Hp} {s : Shared} {R : It → Hp → Prop} {E : Value → Shared → Prop} {lo hi : Int} {t u v : Tok} {tk : Nat} (I : Inv X pins σ H s) (h1 : -(2 ^ 62) ≤ lo) (h2 : lo < 2 ^ 62) (h3 : -(2 ^ 62) ≤ hi) (h4 : hi < 2 ^ 62)
    (q : R (Itr lo (hi - lo).toNat) H) : wpAny (model X.prog X.w) X.A (pyIter (.ref s.heap.objs.size)) (PIE X pins σ tg R) E { s with heap := s.heap.push { cls := .type "range", data := .fields #[.int lo t, .int hi u, .int 1 v] }, toks := tk } := by
  refine wpAny_pyIter_range (IsRange.new ..) (small_one h1 h2 h3 h4) ?_
  have I1 : Inv X pins σ H { s with heap := s.heap.push { cls := .type "range", data := .fields #[.int lo t, .int hi u, .int 1 v] }, toks := tk } := I.kept fun b o e => Heap.get?_push_of_some _ e
  refine ⟨(s.heap.push { cls := .type "range", data := .fields #[.int lo t, .int hi u, .int 1 v] }).objs.size, [(s.heap.push { cls := .type "range", data := .fields #[.int lo t, .int hi u, .int 1 v] }).objs.size], _, _, H, rfl,
    I1.kept (t' := tk) fun b o e => Heap.get?_push_of_some _ e, turn_range _ lo (hi - lo).toNat, ?_, fun b hb => ?_, q⟩
  · have e1 : lo + ((0 : Nat) : Int) * 1 = lo := by simp
    have e2 : (((hi - lo).toNat : Nat) : Int) - ((0 : Nat) : Int) = Builtin.Range.rangeSize lo hi 1 := by rw [rangeSize_one]; split <;> omega
    show IsRangeIter _ _ (lo + ((0 : Nat) : Int) * 1) ((((hi - lo).toNat : Nat) : Int) - ((0 : Nat) : Int)) 1
    rw [e1, e2]
    exact Heap.get?_push_size _ rfl
  · have e : b = (s.heap.push { cls := .type "range", data := .fields #[.int lo t, .int hi u, .int 1 v] }).objs.size := by simpa using hb
    subst e
    exact I1.fpOk (Nat.le_refl _) (I1.hok.fresh (Nat.le_refl _))
def iRng1 (ta : TA) : TI := fun σ H R => ta σ H fun vs H1 => ∃ j : Int, vs = [.int j] ∧ -(2 ^ 62) ≤ j ∧ j < 2 ^ 62 ∧ R (Itr 0 j.toNat) H1
def iRng2 (ta : TA) : TI := fun σ H R => ta σ H fun vs H1 => ∃ i j : Int, vs = [.int i, .int j] ∧ (-(2 ^ 62) ≤ i ∧ i < 2 ^ 62 ∧ -(2 ^ 62) ≤ j ∧ j < 2 ^ 62) ∧ R (Itr i (j - i).toNat) H1
theorem pi_range1 {a : Expr} {ta : TA} {p pos : Pos} (hg : Gl X "range") (hm : X.mg "range" = none) (ha : PA X [a] ta) (hs : starEach [a] X.env = [(false, eval a X.env)] := by rfl) : PI X tg (.Call (.Name "range" p) [a] [] pos) (iRng1 ta) := by
  intro pins s σ H R I h
  refine Call_ (ld_blt I hg hm boot_range (PyProof.Rows.callWith_type1 (thn (ha pos pins s σ H _ I h) fun us s1 ⟨vs, H1, I1, r1, q1⟩ => ?_) hs rfl))
  obtain ⟨j, e, q1, q2, q⟩ := q1
  subst e
  cases r1 with
  | cons r rr =>
    cases rr
    obtain ⟨t, rfl⟩ := r
    exact call_range_1 (range_it I1 (by omega) (by omega) q1 q2 (by simpa using q))
theorem pi_range2 {a b : Expr} {ta : TA} {p pos : Pos} (hg : Gl X "range") (hm : X.mg "range" = none) (ha : PA X [a, b] ta) (hs : starEach [a, b] X.env = [(false, eval a X.env), (false, eval b X.env)] := by rfl) (hs2 : starEach [b] X.env = [(false, eval b X.env)] := by rfl) :
    PI X tg (.Call (.Name "range" p) [a, b] [] pos) (iRng2 ta) := by
  intro pins s σ H R I h
  refine Call_ (ld_blt I hg hm boot_range (PyProof.Rows.callWith_type1 (thn (ha pos pins s σ H _ I h) fun us s1 ⟨vs, H1, I1, r1, q1⟩ => ?_) (by rw [hs, hs2]) (by rw [hs2]; rfl)))
  obtain ⟨i, j, e, ⟨q1, q2, q3, q4⟩, q⟩ := q1
  subst e
  cases r1 with
  | cons r rr =>
    cases rr with
    | cons r' rr =>
      cases rr
      obtain ⟨t, rfl⟩ := r
      obtain ⟨t', rfl⟩ := r'
      exact call_range_2 (range_it I1 q1 q2 q3 q4 q)
def tFor (wi : TI) (g : TG) (tb : TS) : TS := fun D σ H => wi σ H fun J H1 => ∃ W : Nat → Nat → St → Hp → Prop, (∃ m, W 0 m σ H1) ∧ ∀ i m σ H, W i m σ H →
  (J.stop i H ∧ D.nx σ H) ∨ (J.go i H ∧ ∃ N : St → Hp → Prop, (∀ σ' H', N σ' H' → ∃ m', m' < m ∧ W (i + 1) m' σ' H') ∧ ∀ x H', J.yld i H x H' → g x σ H' fun σ2 H2 => tb { D with nx := N, ct := N, bk := D.nx } σ2 H2)
def pinsAt (fp : List Addr) (h : Heap) : List (Addr × Obj) := fp.filterMap fun b => (h.get? b).map fun o => (b, o)
theorem mem_pinsAt {fp : List Addr} {h : Heap} {b : Addr} {o : Obj} (hb : b ∈ fp) (e : h.get? b = some o) : (b, o) ∈ pinsAt fp h := List.mem_filterMap.mpr ⟨b, hb, by rw [e]; rfl⟩
theorem of_pinsAt {fp : List Addr} {h : Heap} {p : Addr × Obj} (hp : p ∈ pinsAt fp h) : p.1 ∈ fp ∧ h.get? p.1 = some p.2 := by
  obtain ⟨b, hb, e⟩ := List.mem_filterMap.mp hp
  cases q : h.get? b with
  | none => rw [q] at e; cases e
  | some o =>
    rw [q] at e
    have e' : (b, o) = p := Option.some.inj e
    subst e'
    exact ⟨hb, q⟩
theorem Inv.pinned {pins : List (Addr × Obj)} {σ : St} {H : Hp} {s : Shared} {fp : List Addr} (I : Inv X pins σ H s) (hf : ∀ b ∈ fp, FpOk X pins H b) (ho : ∀ b ∈ fp, ∃ o, s.heap.get? b = some o ∧ ∀ v, o.data ≠ .cell v) : Inv X (pins ++ pinsAt fp s.heap) σ H s :=
  I.pins_of fun p hp => (List.mem_append.mp hp).elim (fun z => I.pin p (List.mem_append_right _ z)) fun z => by
    obtain ⟨hb, e⟩ := of_pinsAt z
    obtain ⟨f0, f1, f2, _⟩ := hf p.1 hb
    obtain ⟨o, e', d⟩ := ho p.1 hb
    rw [e] at e'; cases e'
    exact ⟨e, f0, f1, f2, d⟩
theorem Inv.unpinned {pins pl : List (Addr × Obj)} {σ : St} {H : Hp} {s : Shared} (I : Inv X (pins ++ pl) σ H s) : Inv X pins σ H s := I.pins_of fun p hp => I.pin p (List.mem_append_right _ (List.mem_append_left _ hp))
theorem ps_for {iter : Expr} {body : List Stmt} {wi : TI} {g : TG} {tb : TS} {pos : Pos} (hp : PassesOwn (model X.prog X.w) X.A X.env X.xe) (hc : X.calm = true) (hi : PI X tg iter wi) (hg : PG X tg g) (hb : PSs X body tb)
    (hs : ∀ x, foldedSetIterable iter X.env x = pure x := by intro _; rfl) : PS X (.For tg iter body [] pos) (tFor wi g tb) := by
  intro pins s σ H D I h
  refine wpAny_For (thn (hi pins s σ H _ I h) fun v s1 h1 => thn h1 fun itv s2 h2 => ?_) hs
  obtain ⟨it, fp, tn, J, H2, e, I2, T, st2, f2, W, ⟨m0, w0⟩, turn⟩ := h2
  subst e
  -- what stays true of the iterator's objects through the loop
  have stat : ∀ {H' : Hp}, (∀ b ∈ fp, H' b = none) → ∀ b ∈ fp, FpOk X pins H' b := fun hn b hb => ⟨hn b hb, (f2 b hb).2⟩
  refine codeAny_forLoop_any (fun n s' => ∃ i σ' H', Inv X pins σ' H' s' ∧ tn i s'.heap ∧ (∀ b ∈ fp, H' b = none) ∧ W i n σ' H') ?_ m0 ⟨0, σ, H2, I2, st2, fun b hb => (f2 b hb).1, w0⟩
  rintro n s3 ⟨i, σ3, H3, I3, st3, fr3, w3⟩
  rcases turn i n σ3 H3 w3 with ⟨stop, qn⟩ | ⟨go, N, hN, step⟩
  · refine wpAny_passesOwn hp (thn (T.done X rfl rfl rfl hc i pins s3 σ3 H3 X.xe I3 (stat fr3) st3 stop) fun r s4 ⟨hr, I4⟩ => ?_)
    subst hr
    exact wpAny_execs_nil ⟨σ3, H3, I4, qn⟩
  · refine wpAny_passesOwn hp (thn (T.item X rfl rfl rfl hc i pins s3 σ3 H3 X.xe I3 (stat fr3) st3 go) fun r s4 ⟨u, hr, h4⟩ => ?_)
    subst hr
    refine wpAny_passesOwn hp (thn h4 fun _ s5 ⟨x, H5, I5, r5, y5, st5, fr5⟩ => ?_)
    have I5' := I5.pinned (stat fr5) (T.obj _ _ st5)
    refine wpAny_passesOwn hp (thn (hg _ s5 σ3 H5 x u _ I5' r5 (step x H5 y5)) fun _ s6 ⟨σ6, H6, I6, q6⟩ => ?_)
    refine wpAny_passesOwn hp (thn (hb _ s6 σ6 H6 _ I6 q6) fun f s7 q7 => ?_)
    have again : ∀ {σ7 : St} {H7 : Hp}, Inv X (pins ++ pinsAt fp s5.heap) σ7 H7 s7 → N σ7 H7 → ∃ m, m < n ∧ ∃ i σ' H', Inv X pins σ' H' s7 ∧ tn i s7.heap ∧ (∀ b ∈ fp, H' b = none) ∧ W i m σ' H' := fun {σ7 H7} I7 n7 => by
      obtain ⟨m', hm, w7⟩ := hN σ7 H7 n7
      refine ⟨m', hm, i + 1, σ7, H7, I7.unpinned, T.keep _ _ _ st5 fun b hb o e => (I7.pin (b, o) (List.mem_append_right _ (List.mem_append_right _ (mem_pinsAt hb e)))).1, fun b hb => ?_, w7⟩
      obtain ⟨o, e, d⟩ := T.obj _ _ st5 b hb
      exact (I7.pin (b, o) (List.mem_append_right _ (List.mem_append_right _ (mem_pinsAt hb e)))).2.1
    cases f with
    | next => obtain ⟨σ7, H7, I7, n7⟩ := q7; exact again I7 n7
    | cont => obtain ⟨σ7, H7, I7, n7⟩ := q7; exact again I7 n7
    | brk => obtain ⟨σ7, H7, I7, q7⟩ := q7; exact ⟨σ7, H7, I7.unpinned, q7⟩
    | ret v => obtain ⟨x7, σ7, H7, I7, r7, q7⟩ := q7; exact ⟨x7, σ7, H7, I7.unpinned, r7, q7⟩
end
theorem for_list {K : PySem.W.Frag} {a : Addr} {xs : List V} {g : TG} {tb : TS} {D : Ends} {σ : St} {H : Hp} (Pv : Nat → St → Hp → Prop) (h0 : Pv 0 σ H) (hl : ∀ i σ H, i ≤ xs.length → Pv i σ H → SqL K H a xs)
    (hs : ∀ i x σ H, xs[i]? = some x → Pv i σ H → g x σ H fun σ2 H2 => tb { D with nx := Pv (i + 1), ct := Pv (i + 1), bk := D.nx } σ2 H2) (hd : ∀ σ H, Pv xs.length σ H → D.nx σ H) :
    ∃ W : Nat → Nat → St → Hp → Prop, (∃ m, W 0 m σ H) ∧ ∀ i m σ H, W i m σ H →
      ((Itl K a).stop i H ∧ D.nx σ H) ∨ ((Itl K a).go i H ∧ ∃ N : St → Hp → Prop, (∀ σ' H', N σ' H' → ∃ m', m' < m ∧ W (i + 1) m' σ' H') ∧ ∀ x H', (Itl K a).yld i H x H' → g x σ H' fun σ2 H2 => tb { D with nx := N, ct := N, bk := D.nx } σ2 H2) := by
  refine ⟨fun i m σ H => m = xs.length - i ∧ i ≤ xs.length ∧ Pv i σ H, ⟨xs.length, by simp, Nat.zero_le _, h0⟩, ?_⟩
  rintro i m σ H ⟨rfl, hi, p⟩
  have q := hl i σ H hi p
  by_cases hlt : i < xs.length
  · refine .inr ⟨⟨xs, xs[i], q, by simp [hlt]⟩, Pv (i + 1), fun σ' H' p' => ⟨xs.length - (i + 1), by omega, rfl, hlt, p'⟩, fun x H' y => ?_⟩
    obtain ⟨e, y⟩ := y
    subst e
    exact hs i x σ _ (y xs q) p
  · have e : i = xs.length := by omega
    subst e
    exact .inl ⟨⟨xs, q, Nat.le_refl _⟩, hd σ H p⟩
theorem for_range {lo : Int} {n : Nat} {g : TG} {tb : TS} {D : Ends} {σ : St} {H : Hp} (Pv : Nat → St → Hp → Prop) (h0 : Pv 0 σ H)
    (hs : ∀ i σ H, i < n → Pv i σ H → g (.int (lo + i)) σ H fun σ2 H2 => tb { D with nx := Pv (i + 1), ct := Pv (i + 1), bk := D.nx } σ2 H2) (hd : ∀ σ H, Pv n σ H → D.nx σ H) :
    ∃ W : Nat → Nat → St → Hp → Prop, (∃ m, W 0 m σ H) ∧ ∀ i m σ H, W i m σ H →
      ((Itr lo n).stop i H ∧ D.nx σ H) ∨ ((Itr lo n).go i H ∧ ∃ N : St → Hp → Prop, (∀ σ' H', N σ' H' → ∃ m', m' < m ∧ W (i + 1) m' σ' H') ∧ ∀ x H', (Itr lo n).yld i H x H' → g x σ H' fun σ2 H2 => tb { D with nx := N, ct := N, bk := D.nx } σ2 H2) := by
  refine ⟨fun i m σ H => m = n - i ∧ i ≤ n ∧ Pv i σ H, ⟨n, by simp, Nat.zero_le _, h0⟩, ?_⟩
  rintro i m σ H ⟨rfl, hi, p⟩
  by_cases hlt : i < n
  · refine .inr ⟨hlt, Pv (i + 1), fun σ' H' p' => ⟨n - (i + 1), by omega, rfl, hlt, p'⟩, fun x H' y => ?_⟩
    obtain ⟨e, y⟩ := y
    subst e y
    exact hs i σ _ hlt p
  · have e : i = n := by omega
    subst e
    exact .inl ⟨Nat.le_refl _, hd σ H p⟩
end L2
namespace L2
open PySem PySem.Spec PyProof.Rows
variable {q0 : Bool}
abbrev R2 := V → V → Hp → VK → Prop
def OpR (X : Cx) (f : Value → Value → Sem Value) (r : R2) : Prop :=
  ∀ (pins : List (Addr × Obj)) (s : Shared) (σ : St) (H : Hp) (x y : V) (v u : Value) (Q : VK), Inv X pins σ H s → RelV x v → RelV y u → r x y H Q →
    wpAny (model X.prog X.w) X.A (f v u) (EP X pins σ Q) X.xe s
def CallR (X : Cx) (f : Value) (r : List V → Hp → VK → Prop) : Prop :=
  ∀ (pins : List (Addr × Obj)) (s : Shared) (σ : St) (H : Hp) (xs : List V) (us : List Value) (Q : VK), Inv X pins σ H s → Vals xs us → r xs H Q →
    wpAny (model X.prog X.w) X.A (call f us) (EP X pins σ Q) X.xe s
def TruR (X : Cx) (r : V → Hp → (Bool → Hp → Prop) → Prop) : Prop :=
  ∀ (pins : List (Addr × Obj)) (s : Shared) (σ : St) (H : Hp) (x : V) (v : Value) (Q : Bool → Hp → Prop), Inv X pins σ H s → RelV x v → r x H Q →
    wpAny (model X.prog X.w) X.A (truthy v) (TP X pins σ Q) X.xe s
def tOp (r : R2) (ta tb : TE) : TE := fun σ H Q => ta σ H fun x H1 => tb σ H1 fun y H2 => r x y H2 Q
def rI (C : Int → Int → Prop) (g : Int → Int → V) : R2 := fun x y H Q => ∃ i j, x = .int i ∧ y = .int j ∧ C i j ∧ Q (g i j) H
def rI0 (g : Int → Int → V) : R2 := fun x y H Q => ∃ i j, x = .int i ∧ y = .int j ∧ Q (g i j) H
section
variable {X : Cx} {a b c : Expr} {ta tb tc : TE} {pos : Pos}
theorem binT (ha : PE X a ta) (hb : PE X b tb) {pins : List (Addr × Obj)} {s : Shared} {σ : St} {H : Hp} {R : V → V → Hp → Prop} (I : Inv X pins σ H s)
    (h : ta σ H fun x H1 => tb σ H1 fun y H2 => R x y H2) {Q : Value → Shared → Prop} {f : Value → Value → Sem Value}
    (hf : ∀ v u s2 x y H2, Inv X pins σ H2 s2 → RelV x v → RelV y u → R x y H2 → wpAny (model X.prog X.w) X.A (f v u) Q X.xe s2) :
    wpAny (model X.prog X.w) X.A (eval a X.env) (fun v s₁ => wpAny (model X.prog X.w) X.A (eval b X.env) (fun u s₂ => wpAny (model X.prog X.w) X.A (f v u) Q X.xe s₂) X.xe s₁) X.xe s := by
  refine thn (ha pins s σ H _ I h) fun v s1 ⟨x, H1, I1, r1, q1⟩ => ?_
  refine thn (hb pins s1 σ H1 _ I1 q1) fun u s2 ⟨y, H2, I2, r2, q2⟩ => ?_
  exact hf v u s2 x y H2 I2 r1 r2 q2
theorem pe_op {op : Operator} {r : R2} (ho : OpR X (binaryOp op) r) (ha : PE X a ta) (hb : PE X b tb) : PE X (.BinOp a op b pos) (tOp r ta tb) := by
  intro pins s σ H Q I h
  exact wpAny_BinOp (binT ha hb I h fun v u s2 x y H2 I2 rx ry q => ho pins s2 σ H2 x y v u Q I2 rx ry q)
theorem opI {f : Value → Value → Sem Value} {C : Int → Int → Prop} {g : Int → Int → Int}
    (rule : ∀ (i j : Int) (t u : Tok) (s : Shared) (Q : Value → Shared → Prop) (E : Value → Shared → Prop), C i j → Q (.int (g i j) s.toks) { s with toks := s.toks + 1 } → wpAny (model X.prog X.w) X.A (f (.int i t) (.int j u)) Q E s) :
    OpR X f (rI C fun i j => .int (g i j)) := by
  intro pins s σ H x y v u Q I rx ry h
  obtain ⟨i, j, rfl, rfl, hc, q⟩ := h
  obtain ⟨t, rfl⟩ := rx
  obtain ⟨t', rfl⟩ := ry
  exact rule i j t t' s _ _ hc ⟨.int (g i j), H, I.tok _, ⟨_, rfl⟩, q⟩
theorem opI0 {f : Value → Value → Sem Value} {g : Int → Int → Int}
    (rule : ∀ (i j : Int) (t u : Tok) (s : Shared) (Q : Value → Shared → Prop) (E : Value → Shared → Prop), Q (.int (g i j) s.toks) { s with toks := s.toks + 1 } → wpAny (model X.prog X.w) X.A (f (.int i t) (.int j u)) Q E s) :
    OpR X f (rI0 fun i j => .int (g i j)) := by
  intro pins s σ H x y v u Q I rx ry h
  obtain ⟨i, j, rfl, rfl, q⟩ := h
  obtain ⟨t, rfl⟩ := rx
  obtain ⟨t', rfl⟩ := ry
  exact rule i j t t' s _ _ ⟨.int (g i j), H, I.tok _, ⟨_, rfl⟩, q⟩
theorem opB0 {f : Value → Value → Sem Value} {g : Int → Int → Bool}
    (rule : ∀ (i j : Int) (t u : Tok) (s : Shared) (Q : Value → Shared → Prop) (E : Value → Shared → Prop), Q (.bool (g i j)) s → wpAny (model X.prog X.w) X.A (f (.int i t) (.int j u)) Q E s) :
    OpR X f (rI0 fun i j => .bl (g i j)) := by
  intro pins s σ H x y v u Q I rx ry h
  obtain ⟨i, j, rfl, rfl, q⟩ := h
  obtain ⟨t, rfl⟩ := rx
  obtain ⟨t', rfl⟩ := ry
  exact rule i j t t' s _ _ ⟨.bl (g i j), H, I, rfl, q⟩
def CDiv (i j : Int) : Prop := 0 < j ∧ j < 1073741824
def CPow (i j : Int) : Prop := 0 ≤ j ∧ j ≤ 1000000 ∧ i.natAbs < 2 ^ 64
def CMul (i j : Int) : Prop := (-(2 ^ 64) < i ∧ i < 2 ^ 64) ∨ (-(2 ^ 64) < j ∧ j < 2 ^ 64)
theorem CMul.ok {i j : Int} (h : CMul i j) : IntMulOk i j := by
  rcases h with ⟨h1, h2⟩ | ⟨h1, h2⟩
  · exact .of_left (intBits_le_64 h1 h2)
  · exact .of_right (intBits_le_64 h1 h2)
theorem op_add : OpR X (binaryOp .Add) (rI0 fun i j => .int (i + j)) := opI0 fun _ _ _ _ _ _ _ q => add_int q
theorem op_sub : OpR X (binaryOp .Sub) (rI0 fun i j => .int (i - j)) := opI0 fun _ _ _ _ _ _ _ q => sub_int q
theorem op_mul : OpR X (binaryOp .Mult) (rI CMul fun i j => .int (i * j)) := opI fun _ _ _ _ _ _ _ hc q => mul_int q hc.ok
theorem op_fdiv : OpR X (binaryOp .FloorDiv) (rI CDiv fun i j => .int (i / j)) := opI fun i j _ _ _ _ _ hc q => by
  have h1 : (0 : Int) < j := hc.1
  have h2 : j < 1073741824 := hc.2
  exact floordiv_int (by omega) (by rw [Int.fdiv_eq_ediv_of_nonneg i (by omega)]; exact q) (.inl (PyProof.noPylong_small (by omega)))
theorem op_mod : OpR X (binaryOp .Mod) (rI (fun _ j => 0 < j) fun i j => .int (i % j)) := opI fun i j _ _ _ _ _ hc q => by
  have h1 : (0 : Int) < j := hc
  exact mod_int' (by omega) (by rw [Int.fmod_eq_emod_of_nonneg i (by omega)]; exact q)
theorem op_shl : OpR X (binaryOp .LShift) (rI CPow fun i j => .int (i * 2 ^ j.toNat)) := opI fun _ _ _ _ _ _ _ hc q => lshift_int_small hc.1 hc.2.1 hc.2.2 q
theorem op_and : OpR X (binaryOp .BitAnd) (rI0 fun i j => .int (Builtin.bitAnd i j)) := opI0 fun _ _ _ _ _ _ _ q => and_int q
theorem op_or : OpR X (binaryOp .BitOr) (rI0 fun i j => .int (Builtin.bitOr i j)) := opI0 fun _ _ _ _ _ _ _ q => or_int q
theorem iop_add : OpR X (inplaceOp .Add) (rI0 fun i j => .int (i + j)) := opI0 fun _ _ _ _ _ _ _ q => iadd_int q
end
def scal : V → V → Bool
  | .non, .non => true | .non, .int _ => true | .int _, .non => true | .non, .bl _ => true | .bl _, .non => true | .non, .str _ => true | .str _, .non => true
  | .int _, .int _ => true | .bl _, .bl _ => true | .str _, .str _ => true | .byt _, .byt _ => true
  | .int _, .str _ => true | .str _, .int _ => true | .bl _, .str _ => true | .str _, .bl _ => true
  | _, _ => false
def rEq : R2 := fun x y H Q => scal x y = true ∧ Q (.bl (decide (x = y))) H
def rNe : R2 := fun x y H Q => scal x y = true ∧ Q (.bl (!decide (x = y))) H
theorem dec_int {i j : Int} : decide (V.int i = V.int j) = (i == j) := by
  rw [Bool.eq_iff_iff]
  simp
theorem dec_bl {i j : Bool} : decide (V.bl i = V.bl j) = (i == j) := by
  rw [Bool.eq_iff_iff]
  simp
theorem dec_str {i j : Str} : decide (V.str i = V.str j) = (i == j) := by
  rw [Bool.eq_iff_iff]
  simp
theorem dec_byt {i j : Array UInt8} : decide (V.byt i = V.byt j) = (i.toList == j.toList) := by
  rw [Bool.eq_iff_iff]
  cases i
  cases j
  simp
section
variable {X : Cx} {a b c : Expr} {ta tb tc : TE} {pos : Pos}
theorem fin_bl {pins : List (Addr × Obj)} {σ : St} {H : Hp} {s : Shared} {Q : VK} {k k' : Bool} (I : Inv X pins σ H s) (q : Q (.bl k) H) (e : k = k') : EP X pins σ Q (.bool k') s := by
  subst e
  exact ⟨.bl k, H, I, rfl, q⟩
theorem op_eq : OpR X (compareOp .Eq) rEq := by
  intro pins s σ H x y v u Q I rx ry h
  obtain ⟨hs, q⟩ := h
  cases x with
  | non =>
    cases rx
    cases y with
    | non => cases ry; exact PySem.EqNone.eq_none_none (fin_bl I q (by simp))
    | bl j => cases ry; exact PySem.EqNone.eq_none_bool (fin_bl I q (by simp))
    | int j => obtain ⟨t', rfl⟩ := ry; exact PySem.EqNone.eq_none_int (fin_bl I q (by simp))
    | str j => obtain ⟨t', rfl⟩ := ry; exact PySem.EqNone.eq_none_str (fin_bl I q (by simp))
    | _ => exact absurd (show false = true from hs) Bool.false_ne_true
  | bl i =>
    cases rx
    cases y with
    | non => cases ry; exact PySem.EqNone.eq_bool_none (fin_bl I q (by simp))
    | bl j => cases ry; exact eq_bool (fin_bl I q dec_bl)
    | str j => obtain ⟨t', rfl⟩ := ry; exact PySem.EqMixed.eq_bool_str (fin_bl I q (by simp))
    | _ => exact absurd (show false = true from hs) Bool.false_ne_true
  | int i =>
    obtain ⟨t, rfl⟩ := rx
    cases y with
    | non => cases ry; exact PySem.EqNone.eq_int_none (fin_bl I q (by simp))
    | int j => obtain ⟨t', rfl⟩ := ry; exact eq_int (fin_bl I q dec_int)
    | str j => obtain ⟨t', rfl⟩ := ry; exact PySem.EqMixed.eq_int_str (fin_bl I q (by simp))
    | _ => exact absurd (show false = true from hs) Bool.false_ne_true
  | str i =>
    obtain ⟨t, rfl⟩ := rx
    cases y with
    | non => cases ry; exact PySem.EqNone.eq_str_none (fin_bl I q (by simp))
    | bl j => cases ry; exact PySem.EqMixed.eq_str_bool (fin_bl I q (by simp))
    | int j => obtain ⟨t', rfl⟩ := ry; exact PySem.EqMixed.eq_str_int (fin_bl I q (by simp))
    | str j => obtain ⟨t', rfl⟩ := ry; exact eq_str (fin_bl I q dec_str)
    | _ => exact absurd (show false = true from hs) Bool.false_ne_true
  | byt i =>
    obtain ⟨t, rfl⟩ := rx
    cases y with
    | byt j => obtain ⟨t', rfl⟩ := ry; exact PySem.W.eq_bytes (fin_bl I q dec_byt)
    | _ => exact absurd (show false = true from hs) Bool.false_ne_true
  | _ => cases y <;> exact absurd (show false = true from hs) Bool.false_ne_true
theorem op_ne : OpR X (compareOp .NotEq) rNe := by
  intro pins s σ H x y v u Q I rx ry h
  obtain ⟨hs, q⟩ := h
  cases x with
  | non =>
    cases rx
    cases y with
    | non => cases ry; exact PySem.EqNone.ne_none_none (fin_bl I q (by simp))
    | bl j => cases ry; exact PySem.EqNone.ne_none_bool (fin_bl I q (by simp))
    | int j => obtain ⟨t', rfl⟩ := ry; exact PySem.EqNone.ne_none_int (fin_bl I q (by simp))
    | str j => obtain ⟨t', rfl⟩ := ry; exact PySem.EqNone.ne_none_str (fin_bl I q (by simp))
    | _ => exact absurd (show false = true from hs) Bool.false_ne_true
  | bl i =>
    cases rx
    cases y with
    | non => cases ry; exact PySem.EqNone.ne_bool_none (fin_bl I q (by simp))
    | bl j => cases ry; exact ne_bool (fin_bl I q (congrArg not dec_bl))
    | str j => obtain ⟨t', rfl⟩ := ry; exact PySem.EqMixed.ne_bool_str (fin_bl I q (by simp))
    | _ => exact absurd (show false = true from hs) Bool.false_ne_true
  | int i =>
    obtain ⟨t, rfl⟩ := rx
    cases y with
    | non => cases ry; exact PySem.EqNone.ne_int_none (fin_bl I q (by simp))
    | int j => obtain ⟨t', rfl⟩ := ry; exact ne_int (fin_bl I q (congrArg not dec_int))
    | str j => obtain ⟨t', rfl⟩ := ry; exact PySem.EqMixed.ne_int_str (fin_bl I q (by simp))
    | _ => exact absurd (show false = true from hs) Bool.false_ne_true
  | str i =>
    obtain ⟨t, rfl⟩ := rx
    cases y with
    | non => cases ry; exact PySem.EqNone.ne_str_none (fin_bl I q (by simp))
    | bl j => cases ry; exact PySem.EqMixed.ne_str_bool (fin_bl I q (by simp))
    | int j => obtain ⟨t', rfl⟩ := ry; exact PySem.EqMixed.ne_str_int (fin_bl I q (by simp))
    | str j => obtain ⟨t', rfl⟩ := ry; exact ne_str (fin_bl I q (congrArg not dec_str))
    | _ => exact absurd (show false = true from hs) Bool.false_ne_true
  | byt i =>
    obtain ⟨t, rfl⟩ := rx
    cases y with
    | byt j => obtain ⟨t', rfl⟩ := ry; exact PySem.W.ne_bytes (fin_bl I q (congrArg not dec_byt))
    | _ => exact absurd (show false = true from hs) Bool.false_ne_true
  | _ => cases y <;> exact absurd (show false = true from hs) Bool.false_ne_true
theorem op_lt : OpR X (compareOp .Lt) (rI0 fun i j => .bl (decide (i < j))) := opB0 fun _ _ _ _ _ _ _ q => lt_int q
theorem op_le : OpR X (compareOp .LtE) (rI0 fun i j => .bl (decide (i ≤ j))) := opB0 fun _ _ _ _ _ _ _ q => le_int q
theorem op_gt : OpR X (compareOp .Gt) (rI0 fun i j => .bl (decide (j < i))) := opB0 fun _ _ _ _ _ _ _ q => gt_int q
theorem op_ge : OpR X (compareOp .GtE) (rI0 fun i j => .bl (decide (j ≤ i))) := opB0 fun _ _ _ _ _ _ _ q => ge_int q
theorem op_isN : OpR X (compareOp .Is) (fun x y H Q => y = .non ∧ Q (.bl (decide (x = .non))) H) := by
  intro pins s σ H x y v u Q I rx ry h
  obtain ⟨rfl, q⟩ := h
  cases ry
  refine is_none_gen (fin_bl I q ?_)
  cases x <;> first
    | (cases rx; rfl)
    | (obtain ⟨t, rfl⟩ := rx; rfl)
theorem op_notN : OpR X (compareOp .IsNot) (fun x y H Q => y = .non ∧ Q (.bl (!decide (x = .non))) H) := by
  intro pins s σ H x y v u Q I rx ry h
  obtain ⟨rfl, q⟩ := h
  cases ry
  refine isnot_none_gen (fin_bl I q ?_)
  cases x <;> first
    | (cases rx; rfl)
    | (obtain ⟨t, rfl⟩ := rx; rfl)
def isObj : HO → Bool
  | .lst _ => true
  | .ins _ _ _ => true
  | _ => false
theorem nomark (b : Expr) {op : CmpOp} (h : op ≠ .In := by decide) (h2 : op ≠ .NotIn := by decide) : behindInMarks op b = false := by
  have e1 : (op == CmpOp.In) = false := by cases op <;> first | rfl | exact absurd rfl h
  have e2 : (op == CmpOp.NotIn) = false := by cases op <;> first | rfl | exact absurd rfl h2
  cases b <;> simp [behindInMarks, e1, e2]
theorem pe_cmpR {op : CmpOp} {r : R2} (ho : OpR X (compareOp op) r) (ha : PE X a ta) (hb : PE X b tb) (hm : behindInMarks op b = false) : PE X (.Compare a [op] [b] pos) (tOp r ta tb) := by
  intro pins s σ H Q I h
  exact wpAny_Compare1 (binT ha hb I h fun v u s2 x y H2 I2 rx ry q => ho pins s2 σ H2 x y v u Q I2 rx ry q) hm
def tTest (t : TE) : TT := fun σ H Q => t σ H fun x H' => ∃ k, x = .bl k ∧ Q k H'
theorem pt_cmpR {op : CmpOp} {r : R2} (ho : OpR X (compareOp op) r) (ha : PE X a ta) (hb : PE X b tb) (hm : behindInMarks op b = false) : PT X (.Compare a [op] [b] pos) (tTest (tOp r ta tb)) := by
  intro pins s σ H Q I h
  refine wpAny_isTrue_Compare1 (thn (ha pins s σ H _ I h) fun v s1 ⟨x, H1, I1, r1, q1⟩ => thn (hb pins s1 σ H1 _ I1 q1) fun u s2 ⟨y, H2, I2, r2, q2⟩ =>
    thn (ho pins s2 σ H2 x y v u _ I2 r1 r2 q2) fun c s3 ⟨z, H3, I3, r3, k, e, q3⟩ => ?_) hm
  subst e
  cases r3
  exact wpAny_truthy_bool ⟨H3, I3, q3⟩
def tChain (r r' : R2) (ta tb tc : TE) : TE := fun σ H Q => ta σ H fun x H1 => tb σ H1 fun y H2 => r x y H2 fun z H3 => ∃ k, z = .bl k ∧
  (if k = true then tc σ H3 fun w' H4 => r' y w' H4 Q else Q (.bl false) H3)
theorem pe_chain {op op' : CmpOp} {r r' : R2} (ho : OpR X (compareOp op) r) (ho' : OpR X (compareOp op') r') (ha : PE X a ta) (hb : PE X b tb) (hc : PE X c tc)
    (hm : lastMarks [op, op'] [b, c] = false := by with_unfolding_all rfl) : PE X (.Compare a [op, op'] [b, c] pos) (tChain r r' ta tb tc) := by
  intro pins s σ H Q I h
  refine Compare_chain (thn (ha pins s σ H _ I h) fun v s1 ⟨x, H1, I1, r1, q1⟩ => chain_link (thn (hb pins s1 σ H1 _ I1 q1) fun u s2 ⟨y, H2, I2, r2, q2⟩ =>
    thn (ho pins s2 σ H2 x y v u _ I2 r1 r2 q2) fun d s3 ⟨z, H3, I3, r3, k, e, q3⟩ => ?_)) hm
  subst e
  cases r3
  refine wpAny_truthy_bool ?_
  cases k with
  | false => exact ite_ff ⟨.bl false, H3, I3, rfl, q3⟩
  | true => exact ite_tt (chain_last (thn (hc pins s3 σ H3 _ I3 q3) fun w' s4 ⟨z', H4, I4, r4, q4⟩ => ho' pins s4 σ H4 y z' u w' Q I4 r2 r4 q4))
def TruV (K : PySem.W.Frag) (x : V) (H : Hp) (k : Bool) : Prop :=
  match x with
  | .non => k = false
  | .bl b => k = b
  | .int i => k = (i != 0)
  | .str y => y.length ≤ sizeLine ∧ k = ((y.length : Int) != 0)
  | .byt y => y.size ≤ sizeLine ∧ k = ((y.size : Int) != 0)
  | .ref p => (∃ xs, SqL K H p xs ∧ k = !xs.isEmpty) ∨ (∃ xs, SqT K H p xs ∧ k = !xs.isEmpty) ∨ ∃ kvs, H p = some (.dK kvs) ∧ k = !kvs.isEmpty
  | _ => False
theorem isEmpty_kv {κ : Type} {kvs : List (κ × V)} {vs : List (κ × Value)} (r : KV kvs vs) : (!vs.isEmpty) = !kvs.isEmpty := by
  cases r <;> rfl
theorem isEmpty_of {xs : List V} {its : List Value} (r : Vals xs its) : (!its.toArray.isEmpty) = !xs.isEmpty := by
  cases r <;> simp
theorem line63 : (sizeLine : Nat) < 2 ^ 63 := by rw [sizeLine_eq]; decide
theorem tru_ok : TruR X (fun x H Q => ∃ k, TruV X.K x H k ∧ Q k H) := by
  intro pins s σ H x v Q I rx h
  obtain ⟨k, e, q⟩ := h
  have hl := line63
  have hs : sizeLine = 16777216 := sizeLine_eq
  cases x with
  | non =>
    cases rx
    have e' : k = false := e
    subst e'
    exact truthy_none ⟨H, I, q⟩
  | bl b =>
    cases rx
    have e' : k = b := e
    subst e'
    exact wpAny_truthy_bool ⟨H, I, q⟩
  | int i =>
    obtain ⟨t, rfl⟩ := rx
    have e' : k = (i != 0) := e
    subst e'
    exact PySem.P.truthy_int ⟨H, I, q⟩
  | str y =>
    obtain ⟨t, rfl⟩ := rx
    obtain ⟨hy, e'⟩ : y.length ≤ sizeLine ∧ k = ((y.length : Int) != 0) := e
    subst e'
    exact PySem.P.truthy_str (by omega) ⟨H, I.tok _, q⟩
  | byt y =>
    obtain ⟨t, rfl⟩ := rx
    obtain ⟨hy, e'⟩ : y.size ≤ sizeLine ∧ k = ((y.size : Int) != 0) := e
    subst e'
    exact PySem.W.truthy_bytes (by omega) ⟨H, I.tok _, q⟩
  | ref p =>
    cases rx
    have e' : (∃ xs, SqL X.K H p xs ∧ k = !xs.isEmpty) ∨ (∃ xs, SqT X.K H p xs ∧ k = !xs.isEmpty) ∨ ∃ kvs, H p = some (.dK kvs) ∧ k = !kvs.isEmpty := e
    rcases e' with ⟨xs, hx, e'⟩ | ⟨xs, hx, e'⟩ | ⟨kvs, hx, e'⟩
    · subst e'
      obtain ⟨its, r, pl, hz⟩ := I.list hx
      have hlen := r.length
      exact wpAny_truthy_list pl.isList (by simp only [List.size_toArray]; omega) ⟨H, I.tok _, by rw [isEmpty_of r]; exact q⟩
    · subst e'
      obtain ⟨its, r, pl, hz⟩ := I.tuple hx
      have hlen := r.length
      exact truthy_tuple pl (by simp only [List.size_toArray]; omega) ⟨H, I.tok _, by rw [isEmpty_of r]; exact q⟩
    · subst e'
      obtain ⟨hz, hS, vs, r, m⟩ : kvs.length ≤ sizeLine ∧ (p == sysModules) = false ∧ ∃ vs, KV kvs vs ∧ s.heap.DictOf (mixKind X.prog X.w) p vs := I.hok p _ hx
      have hlen : kvs.length = vs.length := Paired.length r
      exact wpAny_truthy_dict hS m (by omega) ⟨H, I.tok _, by rw [isEmpty_kv r]; exact q⟩
  | _ => exact (show False from e).elim
theorem pt_truth (ha : PE X a ta) (he : ∀ whole, isTrue a X.env whole = (do let v ← whole; standAt a.pos; holding [v] (truthy v))) :
    PT X a (fun σ H Q => ta σ H fun x H' => ∃ k, TruV X.K x H' k ∧ Q k H') := by
  intro pins s σ H Q I h
  exact isTrue_plain (thn (ha pins s σ H _ I h) fun v s1 ⟨x, H1, I1, r1, q1⟩ => tru_ok pins s1 σ H1 x v Q I1 r1 q1) (he _)
theorem vals1 {x : V} {us : List Value} (r : Vals [x] us) : ∃ u, us = [u] ∧ RelV x u := by
  cases r with
  | cons r1 r2 => cases r2; exact ⟨_, rfl, r1⟩
theorem vals2 {x y : V} {us : List Value} (r : Vals [x, y] us) : ∃ u w', us = [u, w'] ∧ RelV x u ∧ RelV y w' := by
  cases r with
  | cons r1 r2 =>
    cases r2 with
    | cons r3 r4 => cases r4; exact ⟨_, _, rfl, r1, r3⟩
theorem call_min2 (hc : X.calm = true) : CallR X (.builtin "min") (fun xs H Q => ∃ i j, xs = [.int i, .int j] ∧ Q (.int (if j < i then j else i)) H) := by
  intro pins s σ H xs us Q I r h
  obtain ⟨i, j, rfl, q⟩ := h
  obtain ⟨u, w', rfl, ⟨t, rfl⟩, ⟨t', rfl⟩⟩ := vals2 r
  refine min_two_ints (I.ok.hd hc) fun h' tk k => ⟨_, H, I.kept k, ?_, q⟩
  by_cases hj : j < i
  · rw [if_pos hj, if_pos hj]; exact ⟨_, rfl⟩
  · rw [if_neg hj, if_neg hj]; exact ⟨_, rfl⟩
end
end L2
namespace L2
open PySem PySem.Spec PyProof.Rows
variable {q0 : Bool}
structure ObjM (h : Heap) (x dx C : Addr) (mA : Str → Option Value) : Prop where
  obj : h.get? x = some (PySem.W.instObj C dx)
  ns : h.Ns1 dx mA
  ne : dx ≠ x
theorem lookIn_ns {h : Heap} {dx : Addr} {mA : Str → Option Value} (n : h.Ns1 dx mA) : ∃ od, h.get? dx = some od ∧ ∀ name, PySem.W.lookIn name od = some (mA name) := by
  obtain ⟨o, es, ep, ho, hd, hk, _, hm⟩ := n
  refine ⟨o, ho, fun name => ?_⟩
  have e := hm name
  unfold nsFind findBy at e
  rw [← Array.find?_toList] at e
  unfold PySem.W.lookIn
  rw [hd]
  dsimp only
  split
  · rename_i y q
    rw [q] at e
    exact congrArg some e
  · rename_i q
    rw [q] at e
    have a : es.toList.any (·.refKey) = false := by
      rw [List.any_eq_false]
      intro y hy
      obtain ⟨z, t, hkey⟩ := hk y (Array.mem_toList_iff.mp hy)
      simp [DictEntry.refKey, hkey]
    have a' : ¬ es.toList.any (·.refKey) = true := by rw [a]; exact Bool.false_ne_true
    rw [if_neg a']
    exact congrArg some e
theorem ObjM.look {h : Heap} {x dx C : Addr} {mA : Str → Option Value} (I : ObjM h x dx C mA) : ∃ od, PySem.W.InstAt h x (PySem.W.instObj C dx) C (some od) ∧ ∀ name, PySem.W.lookIn name od = some (mA name) :=
  let ⟨od, ho, hl⟩ := lookIn_ns I.ns
  ⟨od, ⟨I.obj, rfl, rfl, ho⟩, hl⟩
section
variable {prog : Program} {w : World} {A : Around} {E : Value → Shared → Prop} {s : Shared} {K : PySem.W.Frag} {x dx C f : Addr} {mA : Str → Option Value} {name : Str} {v : Value}
theorem get_map {expr : Bool} {Q : Value → Shared → Prop} (X : K.In s.heap) (I : ObjM s.heap x dx C mA) (hg : PySem.W.plainGet K C name = true) (hh : PySem.W.hasDictIn K C = true)
    (ha : PySem.W.findIn K (.ref C) name = some none) (hv : mA name = some v) (hv' : PySem.W.handedIn v = true) (h : Q v { s with toks := s.toks + 1 }) :
    wpAny (model prog w) A (getAttr (.ref x) name expr) Q E s := by
  obtain ⟨od, J, hl⟩ := I.look
  exact PySem.W.get_value X J (PySem.W.plainGet_of hg).1 (PySem.W.findObj_own hh ha rfl (by rw [hl, hv])) hv' h
theorem get_meth {pl : Sem Bool} {Q : Value × List Value → Shared → Prop} (X : K.In s.heap) (I : ObjM s.heap x dx C mA) (hg : PySem.W.plainGet K C name = true)
    (hf : PySem.W.findIn K (.ref C) name = some (some (.ref f))) (ht : PySem.W.isFn K (.ref f) = true) (hv : mA name = none) (h : Q (.ref f, [.ref x]) s) :
    wpAny (model prog w) A (getMethod (.ref x) name pl) Q E s := by
  obtain ⟨od, J, hl⟩ := I.look
  exact PySem.W.method_fn X J (PySem.W.plainGet_of hg).1 (PySem.W.plainGet_of hg).2 hf (beq_iff_eq.mp ht) (by show (PySem.W.lookIn name od).map (·.isSome) = some false; rw [hl, hv]; rfl) h
theorem set_map {ns : List Str} {Q : Unit → Shared → Prop} (X : K.In s.heap) (I : ObjM s.heap x dx C mA)
    (hs : PySem.W.findIn K (.ref C) "__setattr__" = some (some (.builtin "object.__setattr__"))) (hp : PySem.W.plainOver K C = true) (ht : PySem.W.takerIn K C name = some none) (hh : PySem.W.hasDictIn K C = true)
    (hw : PySem.Within mA ns) (hsz : ns.length ≤ sizeLine)
    (h : ∀ h', ObjM h' x dx C (fun y => if y = name then some v else mA y) → Heap.SameBut dx s.heap h' → Q () { s with heap := h', toks := s.toks + 2 }) :
    wpAny (model prog w) A (setAttr (.ref x) name v) Q E s := by
  obtain ⟨od, J, hl⟩ := I.look
  refine PySem.W.set_plain X J hs (PySem.W.osa_open (s := { s with toks := s.toks + 1 }) (r := none) X J hp ht fun b => ?_)
  obtain ⟨cd, hc, hd'⟩ := PySem.W.any_some hh
  have hx : s.heap.get? x = some ⟨.ref C, some dx, .plain, #[]⟩ := I.obj
  refine wpAny_bind (wpAny_pure (wpAny_bind (wpAny_bind (wpAny_loadPart hx (wpAny_bind (PySem.W.Looks.here (s := { s with toks := s.toks + 1 }) (PySem.W.looks_clsIn X hc) ?_))))))
  rw [hd']
  refine wpAny_pure (a := some dx) (wpAny_bind (wpAny_pure (wpAny_bind ?_)))
  refine wpAny_nsSet1 (s := { s with toks := s.toks + 1 }) I.ns fun h' hn2 hs2 => ?_
  obtain ⟨oD, esD, epD, hoD, hdD, hcD⟩ := hn2.count (PySem.Within.cons name v hw)
  refine wpAny_bind (wpAny_lookBehind hoD (by rw [hdD]; exact pastItsLine_dict (Nat.le_trans hcD (by rw [List.length_cons]; omega))) ?_)
  exact wpAny_pure (h _ ⟨(hs2.2 _ (Ne.symm I.ne)).trans I.obj, hn2, I.ne⟩ hs2)
theorem make_map {R : Result → Shared → Prop} {vs : List Value} {kw : List (Str × Value)} (X : K.In s.heap) (hm : PySem.W.makesIn K C = true)
    (hi : PySem.W.findIn K (.ref C) "__init__" = some (some (.ref f))) (hf : PySem.W.typeIn K (.ref f) = some (.type "function"))
    (h : codeAny (model prog w) (A.under (.builtin "type.__call__" ⟨.ref C :: vs, kw⟩)) (.call (.ref f) ⟨.ref (s.heap.objs.size + 1) :: vs, kw⟩) (PySem.W.InitBack (s.heap.objs.size + 1) R)
      { s with heap := (s.heap.push PySem.W.emptyDict).push (PySem.W.instObj C s.heap.objs.size) }) :
    codeAny (model prog w) A (.call (.ref C) ⟨vs, kw⟩) R s := by
  obtain ⟨hh, g, d, t, os⟩ := s
  exact PySem.W.make_core (PySem.W.makes_of X hm) (PySem.W.looks_findIn X hi) (fun self => PySem.W.bind_fn X self hf) (.inl rfl) h
end
def putF (f : Str) (v : V) : List (Str × V) → List (Str × V)
  | [] => [(f, v)]
  | (g, x) :: r => if g = f then (g, v) :: r else (g, x) :: putF f v r
theorem lookup_putF (f g : Str) (v : V) : ∀ fs : List (Str × V), (putF f v fs).lookup g = if g = f then some v else fs.lookup g
  | [] => by
    show List.lookup g [(f, v)] = _
    by_cases h : g = f
    · have hb : (g == f) = true := beq_iff_eq.mpr h
      simp only [List.lookup, hb, if_pos h]
    · have hb : (g == f) = false := beq_eq_false_iff_ne.mpr h
      simp only [List.lookup, hb, if_neg h]
  | (k, x) :: r => by
    have ih := lookup_putF f g v r
    rw [show putF f v ((k, x) :: r) = (if k = f then (k, v) :: r else (k, x) :: putF f v r) from rfl]
    by_cases hk : k = f
    · rw [if_pos hk]
      by_cases h : g = k
      · have hb : (g == k) = true := beq_iff_eq.mpr h
        simp only [List.lookup, hb, if_pos (h.trans hk)]
      · have hb : (g == k) = false := beq_eq_false_iff_ne.mpr h
        simp only [List.lookup, hb, if_neg (fun e : g = f => h (e.trans hk.symm))]
    · rw [if_neg hk]
      by_cases h : g = k
      · have hb : (g == k) = true := beq_iff_eq.mpr h
        simp only [List.lookup, hb, if_neg (fun e : g = f => hk (h.symm.trans e))]
      · have hb : (g == k) = false := beq_eq_false_iff_ne.mpr h
        simp only [List.lookup, hb]
        exact ih
theorem keys_putF (f : Str) (v : V) : ∀ fs : List (Str × V), f ∈ (putF f v fs).map (·.1) ∧ ∀ g, g ∈ fs.map (·.1) → g ∈ (putF f v fs).map (·.1)
  | [] => ⟨by simp [putF], fun g h => by simp at h⟩
  | (k, x) :: r => by
    obtain ⟨i1, i2⟩ := keys_putF f v r
    rw [show putF f v ((k, x) :: r) = (if k = f then (k, v) :: r else (k, x) :: putF f v r) from rfl]
    by_cases hk : k = f
    · rw [if_pos hk]
      subst hk
      exact ⟨by simp, fun g h => by simpa using h⟩
    · rw [if_neg hk]
      refine ⟨?_, fun g h => ?_⟩
      · rw [List.map_cons]
        exact List.mem_cons_of_mem _ i1
      · rw [List.map_cons] at h ⊢
        rcases List.mem_cons.mp h with e | e
        · exact List.mem_cons.mpr (.inl e)
        · exact List.mem_cons_of_mem _ (i2 g e)
theorem length_putF (f : Str) (v : V) : ∀ fs : List (Str × V), (putF f v fs).length ≤ fs.length + 1
  | [] => by simp [putF]
  | (k, x) :: r => by
    have ih := length_putF f v r
    rw [show putF f v ((k, x) :: r) = (if k = f then (k, v) :: r else (k, x) :: putF f v r) from rfl]
    by_cases hk : k = f
    · rw [if_pos hk, List.length_cons, List.length_cons]; omega
    · rw [if_neg hk, List.length_cons, List.length_cons]; omega
theorem RelO.some_of {v : V} {o : Option Value} (r : RelO (some v) o) : ∃ u, o = some u ∧ RelV v u := by
  cases o with
  | none => exact (show False from r).elim
  | some u => exact ⟨u, rfl, r⟩
theorem RelO.none_of {o : Option Value} (r : RelO none o) : o = none := by
  cases o with
  | none => rfl
  | some u => exact (show False from r).elim
theorem handed_of {v : V} {u : Value} (r : RelV v u) : PySem.W.handedIn u = true := by
  cases v with
  | non => cases (show u = Value.none from r); rfl
  | bl b => cases (show u = Value.bool b from r); rfl
  | int i => obtain ⟨t, e⟩ := (show ∃ t, u = Value.int i t from r); cases e; rfl
  | str x => obtain ⟨t, e⟩ := (show ∃ t, u = Value.str x t from r); cases e; rfl
  | byt b => obtain ⟨t, e⟩ := (show ∃ t, u = Value.bytes b t from r); cases e; rfl
  | flt b => obtain ⟨t, e⟩ := (show ∃ t, u = Value.float b t from r); cases e; rfl
  | ref a => cases (show u = Value.ref a from r); rfl
  | ty n => cases (show u = Value.type n from r); rfl
section
variable {P : Program} {w : World} {H H' : Hp} {h h' : Heap} {a C dx : Addr} {fs fs' : List (Str × V)}
theorem ins_get (hok : HOk P w H h) (e : H a = some (.ins C dx fs)) : ∃ mA, ObjM h a dx C mA ∧ (∀ f, RelO (fs.lookup f) (mA f)) ∧ PySem.Within mA (fs.map (·.1)) ∧ fs.length ≤ 1000 ∧ H dx = some (.own a) := by
  obtain ⟨d, z, ne, ob, mA, n, r, q⟩ := (show ObjOk P w H h a (.ins C dx fs) from hok a _ e)
  exact ⟨mA, ⟨ob, n, ne⟩, r, q, z, d⟩
end
structure Cls (K : PySem.W.Frag) (C : Addr) : Prop where
  pg : PySem.W.plainGet K C Str.empty = true
  hd : PySem.W.hasDictIn K C = true
  po : PySem.W.plainOver K C = true
  sa : PySem.W.findIn K (.ref C) "__setattr__" = some (some (.builtin "object.__setattr__"))
theorem Cls.get {K : PySem.W.Frag} {C : Addr} (c : Cls K C) (f : Str) : PySem.W.plainGet K C f = true := c.pg
def NoAttr (K : PySem.W.Frag) (C : Addr) (f : Str) : Prop := PySem.W.findIn K (.ref C) f = some none
theorem NoAttr.taker {K : PySem.W.Frag} {C : Addr} {f : Str} (n : NoAttr K C f) : PySem.W.takerIn K C f = some none := by
  unfold PySem.W.takerIn
  rw [show PySem.W.findIn K (.ref C) f = some none from n]
  rfl
structure Meth (K : PySem.W.Frag) (C : Addr) (m : Str) (f : Addr) : Prop where
  at_ : PySem.W.findIn K (.ref C) m = some (some (.ref f))
  fn : PySem.W.isFn K (.ref f) = true
  kp : PySem.W.keepIn K (.ref f) = true
section
variable {X : Cx} {pins : List (Addr × Obj)} {σ : St} {H : Hp} {s : Shared} {a C dx : Addr} {fs : List (Str × V)} {f : Str} {v : V} {A : Around} {E : Value → Shared → Prop}
theorem getattr_ok {b : Bool} {Q : Value → Shared → Prop} (I : Inv X pins σ H s) (e : H a = some (.ins C dx fs)) (c : Cls X.K C) (n : NoAttr X.K C f) (l : fs.lookup f = some v)
    (h : ∀ u s', Inv X pins σ H s' → RelV v u → Q u s') : wpAny (model X.prog X.w) A (getAttr (.ref a) f b) Q E s := by
  obtain ⟨mA, O, r, _, _, _⟩ := ins_get I.hok e
  obtain ⟨u, hu, ru⟩ := RelO.some_of (v := v) (o := mA f) (by rw [← l]; exact r f)
  exact get_map I.kIn O (c.get f) c.hd n hu (handed_of ru) (h u _ (I.tok _) ru)
theorem getmeth_ok {m : Str} {g : Addr} {pl : Sem Bool} {Q : Value × List Value → Shared → Prop} (I : Inv X pins σ H s) (e : H a = some (.ins C dx fs)) (c : Cls X.K C) (k : Meth X.K C m g) (l : fs.lookup m = none)
    (h : Q (.ref g, [.ref a]) s) : wpAny (model X.prog X.w) A (getMethod (.ref a) m pl) Q E s := by
  obtain ⟨mA, O, r, _, _, _⟩ := ins_get I.hok e
  have hn : mA m = none := RelO.none_of (by rw [← l]; exact r m)
  exact get_meth I.kIn O (c.get m) k.at_ k.fn hn h
theorem setattr_ok {y : V} {u : Value} {Q : Unit → Shared → Prop} (I : Inv X pins σ H s) (e : H a = some (.ins C dx fs)) (c : Cls X.K C) (n : NoAttr X.K C f) (hl : fs.length < 1000) (ry : RelV y u)
    (h : ∀ s', Inv X pins σ (upd H a (.ins C dx (putF f y fs))) s' → Q () s') : wpAny (model X.prog X.w) A (setAttr (.ref a) f u) Q E s := by
  obtain ⟨mA, O, r, wi, _, ho⟩ := ins_get I.hok e
  have hz : (fs.map (·.1)).length ≤ sizeLine := by rw [List.length_map, sizeLine_eq]; omega
  refine set_map I.kIn O c.sa c.po n.taker c.hd wi hz fun h' O' sb => h _ ?_
  have hd : ∃ o, h'.get? dx = some o := let ⟨o, _, _, e', _⟩ := O'.ns; ⟨o, e'⟩
  refine I.write (x := a) (e := dx) (by rw [e]; exact True.intro) (.inr ho) (fun b q hb z => (sb.2 b hb).trans z) hd ?_
  refine ⟨by rw [upd_ne O.ne]; exact ho, ?_, O.ne, O'.obj, _, O'.ns, fun g => ?_, fun g hg => ?_⟩
  · have := length_putF f y fs; omega
  · show RelO ((putF f y fs).lookup g) (if g = f then some u else mA g)
    rw [lookup_putF]
    by_cases q : g = f
    · rw [if_pos q, if_pos q]; exact ry
    · rw [if_neg q, if_neg q]; exact r g
  · by_cases q : g = f
    · rw [q]; exact (keys_putF f y fs).1
    · refine (keys_putF f y fs).2 g (wi g fun z => hg ?_)
      show (if g = f then some u else mA g) = none
      rw [if_neg q]; exact z
theorem Inv.made (I : Inv X pins σ H s) : Inv X pins σ (upd (upd H s.heap.objs.size (.own (s.heap.objs.size + 1))) (s.heap.objs.size + 1) (.ins C s.heap.objs.size []))
    { s with heap := (s.heap.push PySem.W.emptyDict).push (PySem.W.instObj C s.heap.objs.size) } := by
  have e1 : (s.heap.push PySem.W.emptyDict).get? s.heap.objs.size = some PySem.W.emptyDict := Heap.get?_push_size s.heap rfl
  have e2 : ((s.heap.push PySem.W.emptyDict).push (PySem.W.instObj C s.heap.objs.size)).get? (s.heap.objs.size + 1) = some (PySem.W.instObj C s.heap.objs.size) := by
    have := Heap.get?_push_size (s.heap.push PySem.W.emptyDict) (o := PySem.W.instObj C s.heap.objs.size) rfl
    rwa [Heap.size_push] at this
  have e3 : (s.heap.push PySem.W.emptyDict).Ns s.heap.objs.size (fun _ => none) := ⟨PySem.W.emptyDict, #[], _, e1, rfl, (fun e he => absurd he (by simp)), fun _ => rfl⟩
  have I1 := I.laid (a := s.heap.objs.size) (o := .own (s.heap.objs.size + 1)) (h' := s.heap.push PySem.W.emptyDict) (t' := s.toks) (fun b u q => Heap.get?_push_of_some _ q) (Nat.le_refl _) ⟨_, e1⟩
  refine I1.laid (a := s.heap.objs.size + 1) (o := .ins C s.heap.objs.size []) (t' := s.toks) (fun b u q => Heap.get?_push_of_some _ q) (Nat.le_of_eq (Heap.size_push _ _)) ?_
  have ne : s.heap.objs.size ≠ s.heap.objs.size + 1 := Nat.ne_of_lt (Nat.lt_succ_self _)
  refine ⟨by rw [upd_ne ne, upd_same], Nat.zero_le _, ne, e2, fun _ => none, (Heap.Ns1.of_empty e3).at fun o q => Heap.get?_push_of_some _ q, fun _ => True.intro, fun y hy => absurd rfl hy⟩
theorem attr_of {prog : Program} {w : World} {env : Env} {e : Expr} {f : Str} {pos : Pos} {s : Shared} {Q : Value → Shared → Prop} (hb : attributeBase e f env (eval e env) = eval e env)
    (h : wpAny (model prog w) A (eval e env) (fun o s₁ => wpAny (model prog w) A (getAttr o f true) Q E s₁) E s) : wpAny (model prog w) A (eval (.Attribute e f pos) env) Q E s :=
  Attribute_any_ h (by rw [arm_eval_Attribute, hb])
end
def tFld (K : PySem.W.Frag) (ta : TE) (f : Str) : TE := fun σ H Q => ta σ H fun x H1 => ∃ a C dx fs v, x = .ref a ∧ H1 a = some (.ins C dx fs) ∧ Cls K C ∧ NoAttr K C f ∧ fs.lookup f = some v ∧ Q v H1
def sFld (K : PySem.W.Frag) (ta tv : TE) (f : Str) : TS := fun D σ H => tv σ H fun y H1 => ta σ H1 fun x H2 => ∃ a C dx fs, x = .ref a ∧ H2 a = some (.ins C dx fs) ∧ Cls K C ∧ NoAttr K C f ∧ fs.length < 1000 ∧
  D.nx σ (upd H2 a (.ins C dx (putF f y fs)))
section
variable {X : Cx} {o e value : Expr} {f : Str} {pos pos' tpos : Pos} {ta tv : TE}
theorem pe_fld (he : PE X e ta) (hb : attributeBase e f X.env (eval e X.env) = eval e X.env) : PE X (.Attribute e f pos) (tFld X.K ta f) := by
  intro pins s σ H Q I h
  refine attr_of hb (thn (he pins s σ H _ I h) fun u s1 ⟨x, H1, I1, rx, a, C, dx, fs, v, ex, ea, c, n, l, q⟩ => ?_)
  subst ex
  obtain rfl : u = Value.ref a := rx
  exact getattr_ok I1 ea c n l fun u' s2 I2 ru => ⟨v, H1, I2, ru, q⟩
theorem ps_fld (ha : PE X o ta) (hv : PE X value tv) (hs : swapsWith value (some (.Attribute o f pos')) pos.line X.env = pure false) : PS X (.Assign [.Attribute o f pos'] value pos) (sFld X.K ta tv f) := by
  intro pins s σ H D I h
  refine plainObj_wpAny_Assign_Attribute (thn (hv pins s σ H _ I h) fun u s1 ⟨y, H1, I1, ry, q⟩ => thn (ha pins s1 σ H1 _ I1 q) fun ov s2 ⟨x, H2, I2, rx, a, C, dx, fs, ex, ea, c, n, l, q2⟩ => ?_) hs
  subst ex
  obtain rfl : ov = Value.ref a := rx
  exact setattr_ok I2 ea c n l ry fun s3 I3 => ⟨σ, _, I3, q2⟩
end
section
variable {X : Cx} {pins : List (Addr × Obj)} {σ : St} {H : Hp} {s : Shared} {A : Around} {E : Value → Shared → Prop} {Q : Value → Shared → Prop} {c : Value} {b : Bool}
inductive TyOf (K : PySem.W.Frag) (H : Hp) : V → Value → Prop where
  | non : TyOf K H .non (.type "NoneType")
  | bl (x : Bool) : TyOf K H (.bl x) (.type "bool")
  | int (i : Int) : TyOf K H (.int i) (.type "int")
  | str (x : Str) : TyOf K H (.str x) (.type "str")
  | flt (x : UInt64) : TyOf K H (.flt x) (.type "float")
  | lst {a : Addr} {xs : List V} (e : H a = some (.lst xs)) : TyOf K H (.ref a) (.type "list")
  | frz {a : Addr} {o : Obj} {xs : List V} (e : H a = some (.frz o (.lst xs))) : TyOf K H (.ref a) (.type "list")
  | tup {a : Addr} {xs : List V} (e : H a = some (.tup xs)) : TyOf K H (.ref a) (.type "tuple")
  | dK {a : Addr} {kvs : List (Key × V)} (e : H a = some (.dK kvs)) : TyOf K H (.ref a) (.type "dict")
  | dT {a : Addr} {kvs : List (List Key × V)} (e : H a = some (.dT kvs)) : TyOf K H (.ref a) (.type "dict")
  | ins {a C dx : Addr} {fs : List (Str × V)} (e : H a = some (.ins C dx fs)) (cl : Cls K C) (ha : PySem.W.findIn K (.ref C) "__class__" = some (some (.builtin "object.__class__")))
      (hn : PySem.W.specialIn K (.builtin "object.__class__") "__get__" = some (some (.builtin "getset_descriptor.__get__"))) (htk : PySem.W.takesIn K (.builtin "object.__class__") = some true)
      (hm : PySem.W.mroIn K C (.type "object") = some true) : TyOf K H (.ref a) (.ref C)
theorem isinst_ok {x : V} {u t : Value} (I : Inv X pins σ H s) (rx : RelV x u) (ty : TyOf X.K H x t) (e : PySem.W.kitOne X.K t c = some b) (h : ∀ tk, Q (.bool b) { s with toks := tk }) :
    wpAny (model X.prog X.w) A (call (.builtin "isinstance") [u, c]) Q E s := by
  cases ty with
  | non => cases (show u = Value.none from rx); exact PySem.W.kia_one PySem.W.kitx_none I.kIn True.intro e (fun z => nomatch z) h
  | bl y => cases (show u = Value.bool y from rx); exact PySem.W.kia_one PySem.W.kitx_bool I.kIn True.intro e (fun z => nomatch z) h
  | int i => obtain ⟨t, q⟩ := (show ∃ t, u = Value.int i t from rx); cases q; exact PySem.W.kia_one PySem.W.kitx_int I.kIn True.intro e (fun z => nomatch z) h
  | str y => obtain ⟨t, q⟩ := (show ∃ t, u = Value.str y t from rx); cases q; exact PySem.W.kia_one PySem.W.kitx_str I.kIn True.intro e (fun z => nomatch z) h
  | flt y => obtain ⟨t, q⟩ := (show ∃ t, u = Value.float y t from rx); cases q; exact PySem.W.kia_one PySem.W.kitx_float I.kIn True.intro e (fun z => nomatch z) h
  | @lst a xs ea =>
    cases (show u = Value.ref a from rx)
    obtain ⟨_, _, n, _, h1⟩ := (show ObjOk X.prog X.w H s.heap a (.lst xs) from I.hok a _ ea)
    exact PySem.W.kia_one PySem.W.kitx_list I.kIn ⟨_, h1, rfl⟩ e (fun z => nomatch z) h
  | @frz a ob xs ea =>
    cases (show u = Value.ref a from rx)
    obtain ⟨_, _, _, n, _, h1⟩ := (show ObjOk X.prog X.w H s.heap a (.frz ob (.lst xs)) from I.hok a _ ea)
    exact PySem.W.kia_one PySem.W.kitx_list I.kIn ⟨_, h1, rfl⟩ e (fun z => nomatch z) h
  | @tup a xs ea =>
    cases (show u = Value.ref a from rx)
    obtain ⟨_, _, _, p⟩ := (show ObjOk X.prog X.w H s.heap a (.tup xs) from I.hok a _ ea)
    obtain ⟨o, h1, h2, _⟩ := p
    exact PySem.W.kia_one PySem.W.kitx_tuple I.kIn ⟨o, h1, h2⟩ e (fun z => nomatch z) h
  | @dK a kvs ea =>
    cases (show u = Value.ref a from rx)
    obtain ⟨_, _, vs, _, p⟩ := (show ObjOk X.prog X.w H s.heap a (.dK kvs) from I.hok a _ ea)
    obtain ⟨o, es, ep, h1, h2, _⟩ := p
    exact PySem.W.kia_one PySem.W.kitx_dict I.kIn ⟨o, h1, h2.1⟩ e (fun z => nomatch z) h
  | @dT a kvs ea =>
    cases (show u = Value.ref a from rx)
    obtain ⟨_, _, xs, _, o, es, ep, h1, h2, _⟩ := (show ObjOk X.prog X.w H s.heap a (.dT kvs) from I.hok a _ ea)
    exact PySem.W.kia_one PySem.W.kitx_dict I.kIn ⟨o, h1, h2.1⟩ e (fun z => nomatch z) h
  | @ins a C dx fs ea cl ha hn htk hm =>
    cases (show u = Value.ref a from rx)
    obtain ⟨mA, O, _⟩ := ins_get I.hok ea
    obtain ⟨od, J, _⟩ := O.look
    exact PySem.W.kia_one (PySem.W.kitx_own (cl.get _) cl.hd ha hn htk hm) I.kIn J e (fun z => nomatch z) h
end
end L2
namespace L2
open PySem PySem.Spec PyProof.Rows
variable {q0 : Bool}
structure Room (q0 : Bool) (k : Nat) (A : Around) : Prop where
  hd : q0 = true → A.handled = none
  dp : A.depth + 3 * k + 5 < recursionLimit
  un : A.units + 16 * k + 200 < cLine
theorem Room.mono {j k : Nat} {A : Around} (r : Room q0 k A) (h : j ≤ k) : Room q0 j A := ⟨r.hd, by have := r.dp; omega, by have := r.un; omega⟩
theorem Room.deeper {k : Nat} {A : Around} (r : Room q0 (k + 1) A) (env : Env) : Room q0 k (A.deeper env) :=
  ⟨r.hd, by have := r.dp; show A.depth + 1 + 3 * k + 5 < _; omega, by have := r.un; show A.units + 3 + 16 * k + 200 < _; omega⟩
theorem make_depth {A : Around} {C : Addr} {us : List Value} {kw : List (Str × Value)} : (A.under (.builtin "type.__call__" ⟨.ref C :: us, kw⟩)).depth = A.depth + 1 := by
  first | rfl | simp [Around.under, Code.weight, Code.isCreation, Code.isGuard, Code.isCaller, Code.frames, Code.isFrame, guardIds]
theorem make_units {A : Around} {C : Addr} {us : List Value} {kw : List (Str × Value)} : (A.under (.builtin "type.__call__" ⟨.ref C :: us, kw⟩)).units = A.units + 1 := by
  first | rfl | simp [Around.under, Code.cUnits, Code.frames, Code.isFrame]
theorem Room.make {k : Nat} {A : Around} (r : Room q0 (k + 1) A) (C : Addr) (us : List Value) (kw : List (Str × Value)) : Room q0 k (A.under (.builtin "type.__call__" ⟨.ref C :: us, kw⟩)) :=
  ⟨r.hd, by have := r.dp; rw [make_depth]; omega, by have := r.un; rw [make_units]; omega⟩
theorem Room.depth {k : Nat} {A : Around} (r : Room q0 k A) : A.depth < recursionLimit := by have := r.dp; omega
theorem Room.units {k : Nat} {A : Around} (r : Room q0 k A) : A.units + 64 < cLine := by have := r.un; omega
def tNil : TA := fun _ H Q => Q [] H
def tCons (ta : TE) (tr : TA) : TA := fun σ H Q => ta σ H fun x H1 => tr σ H1 fun xs H2 => Q (x :: xs) H2
section
variable {X : Cx} {e : Expr} {es : List Expr} {te : TE} {t : TA} {pos : Pos}
theorem pa_nil : PA X [] tNil := fun _ _ _ _ H Q I h => Calls.spliced_nil ⟨[], H, I, .nil, h⟩
theorem pa_cons (ha : PE X e te) (hr : PA X es t) (hs : starEach (e :: es) X.env = (false, eval e X.env) :: starEach es X.env := by rfl) : PA X (e :: es) (tCons te t) := by
  intro pos pins s σ H Q I h
  rw [hs]
  show wpAny _ _ (spliced ((false, eval e X.env) :: backTo pos (starEach es X.env))) _ _ s
  refine Calls.spliced_cons (thn (ha pins s σ H _ I h) fun u s1 ⟨x, H1, I1, r1, q1⟩ => ?_)
  exact thn (hr pos pins s1 σ H1 _ I1 q1) fun us s2 ⟨xs, H2, I2, r2, q2⟩ => ⟨x :: xs, H2, I2, .cons r1 r2, q2⟩
def tTup (t : TA) : TE := fun σ H Q => t σ H fun xs H1 => xs.length ≤ sizeLine ∧ ∀ p, H1 p = none → Q (.ref p) (upd H1 p (.tup xs))
def tLst (t : TA) : TE := fun σ H Q => t σ H fun xs H1 => xs.length ≤ sizeLine ∧ ∀ p, H1 p = none → Q (.ref p) (upd H1 p (.lst xs))
theorem pe_tup {x1} (h : PA X es t) : PE X (.Tuple es x1 pos) (tTup t) := by
  intro pins s σ H Q I hq
  refine wpAny_Tuple_spliced (thn (h pos pins s σ H _ I hq) fun us s1 ⟨xs, H1, I1, r, z, q⟩ => ⟨by rw [← r.length]; exact z, ?_⟩)
  have hf : H1 s1.heap.objs.size = none := I1.hok.fresh (Nat.le_refl _)
  refine ⟨.ref s1.heap.objs.size, upd H1 s1.heap.objs.size (.tup xs), I1.laid (t' := s1.toks) (fun b u e => Heap.get?_push_of_some _ e) (Nat.le_refl _) ?_, rfl, q _ hf⟩
  exact ⟨z, us, r, ⟨_, Heap.get?_push_size _ rfl, rfl, _, rfl⟩⟩
theorem pe_lst (h : PA X es t) : PE X (.List es pos) (tLst t) := by
  intro pins s σ H Q I hq
  refine wpAny_List_spliced (thn (h pos pins s σ H _ I hq) fun us s1 ⟨xs, H1, I1, r, z, q⟩ => ⟨by rw [← r.length]; exact z, ?_⟩)
  have hf : H1 s1.heap.objs.size = none := I1.hok.fresh (Nat.le_refl _)
  refine ⟨.ref s1.heap.objs.size, upd H1 s1.heap.objs.size (.lst xs), I1.laid (t' := s1.toks) (fun b u e => Heap.get?_push_of_some _ e) (Nat.le_refl _) ?_, rfl, q _ hf⟩
  exact ⟨z, us, 0, r, Heap.get?_push_size _ rfl⟩
end
abbrev Sp := List V → Hp → VK → XK → Prop
abbrev CXT := List Env → Hp → Shared → XK → Value → Shared → Prop
structure Env0 (P : Program) (w : World) (K : PySem.W.Frag) (mg : Str → Option Value) (base : Heap) (A : Around) (outer : List Env) (s : Shared) (H : Hp) : Prop where
  frames : A.frames = some outer
  mod : Mod K mg base
  bs : ∀ b o, base.get? b = some o → s.heap.get? b = some o ∧ H b = none
  bsz : base.objs.size ≤ s.heap.objs.size
  funs : s.heap.FunFrames base outer
  frf : ∀ b ∈ frs outer, H b = none
  hok : HOk P w H s.heap
  bare : AllBare s.gens
def CE (outer : List Env) (P : Program) (w : World) (H : Hp) (s : Shared) (Q : VK) (u : Value) (s' : Shared) : Prop :=
  ∃ v H', s'.os = s.os ∧ AllBare s'.gens ∧ Un (frs outer) [] H H' s.heap s'.heap ∧ HOk P w H' s'.heap ∧ RelV v u ∧ Q v H'
def CR (CX : CXT) (outer : List Env) (P : Program) (w : World) (H : Hp) (s : Shared) (Q : VK) (E : XK) (r : Result) (s' : Shared) : Prop :=
  match r with
  | .ok (.ret u) => CE outer P w H s Q u s'
  | .ok _ => False
  | .error e => CX outer H s E e s'
structure FnOk (q0 : Bool) (P : Program) (w : World) (K : PySem.W.Frag) (mg : Str → Option Value) (base : Heap) (CX : CXT) (k : Nat) (f : Addr) (fd : FuncData) (ps : List Str) (sp : Sp) : Prop where
  len : ∀ vs H Q E, sp vs H Q E → vs.length = ps.length
  run : ∀ (A : Around) (outer : List Env) (s : Shared) (H : Hp) (args : Args) (us : List Value) (vs : List V) (Q : VK) (E : XK), Room q0 k A → Env0 P w K mg base A outer s H → BindsTo s fd args (ps.zip us) → Vals vs us → sp vs H Q E →
    codeAny (model P w) A (.call (.ref f) args) (CR CX outer P w H s Q E) s
theorem Env0.make {P : Program} {w : World} {K : PySem.W.Frag} {mg : Str → Option Value} {base : Heap} {A : Around} {outer : List Env} {s : Shared} {H : Hp} (e : Env0 P w K mg base A outer s H) (C : Addr) (us : List Value) (kw : List (Str × Value)) :
    Env0 P w K mg base (A.under (.builtin "type.__call__" ⟨.ref C :: us, kw⟩)) outer s H := ⟨by first | exact e.frames | (simpa [Around.under, Code.envs, Code.isFrame, pushEnvs] using e.frames), e.mod, e.bs, e.bsz, e.funs, e.frf, e.hok, e.bare⟩
section
variable {X : Cx} {pins : List (Addr × Obj)} {σ : St} {H : Hp} {s s' : Shared}
theorem Inv.env0 (I : Inv X pins σ H s) : Env0 X.prog X.w X.K X.mg X.base X.A X.stack s H :=
  ⟨I.ok.frames, I.ok.mod, I.bs, Nat.le_trans I.ok.bsz I.sz, I.stack, I.stkFree, I.hok, I.bare⟩
theorem Inv.after {Q : VK} {u : Value} (I : Inv X pins σ H s) (h : CE X.stack X.prog X.w H s Q u s') : EP X pins σ Q u s' := by
  obtain ⟨v, H', os, bare, un, hok, r, q⟩ := h
  obtain ⟨hh, g, d, t, os'⟩ := s'
  obtain rfl : os' = s.os := os
  exact ⟨v, H', I.call (h' := hh) (g' := g) (d' := d) (t' := t) (ch := []) un hok bare (fun b z => absurd z (by simp)), r, q⟩
end
def tCall (sp : Sp) (dvs : List V) (E : St → XK) (t : TA) : TE := fun σ H Q => t σ H fun vs H1 => sp (vs ++ dvs) H1 Q (E σ)
def tMeth (C : Addr) (m : Str) (sp : Sp) (dvs : List V) (E : St → XK) (ta : TE) (t : TA) : TE := fun σ H Q => ta σ H fun x H1 => ∃ a dx fs, x = .ref a ∧ H1 a = some (.ins C dx fs) ∧ fs.lookup m = none ∧
  t σ H1 fun vs H2 => sp (x :: (vs ++ dvs)) H2 Q (E σ)
def tMake (C : Addr) (sp : Sp) (dvs : List V) (E : St → XK) (t : TA) : TE := fun σ H Q => t σ H fun vs H1 => ∀ x dx, H1 x = none → H1 dx = none → dx ≠ x →
  sp (.ref x :: (vs ++ dvs)) (upd (upd H1 dx (.own x)) x (.ins C dx [])) (fun v H2 => v = .non ∧ Q (.ref x) H2) (E σ)
def Binds (K : PySem.W.Frag) (fd : FuncData) (ps : List Str) (ds : List Value) : Prop :=
  ∀ (s : Shared) (us : List Value), K.In s.heap → (us ++ ds).length = ps.length → BindsTo s fd ⟨us, []⟩ (ps.zip (us ++ ds))
theorem Binds.all {K : PySem.W.Frag} {fd : FuncData} {ps : List Str} (h : ∀ us : List Value, us.length = ps.length → bindArgs fd ⟨us, []⟩ = pure (ps.zip us)) : Binds K fd ps [] := fun s us _ hl => by
  rw [List.append_nil] at hl ⊢
  exact .of_eq (h us hl)
def Passes (CX : CXT) (X : Cx) (E : St → XK) : Prop := ∀ (pins : List (Addr × Obj)) (σ : St) (H : Hp) (s : Shared) (e : Value) (s' : Shared), Inv X pins σ H s → CX X.stack H s (E σ) e s' → X.xe e s'
section
variable {X : Cx} {CX : CXT} {k : Nat} {f C : Addr} {fd : FuncData} {ps : List Str} {sp : Sp} {dvs : List V} {ds : List Value} {E : St → XK} {x m : Str} {p pos apos : Pos} {e o : Expr} {es : List Expr} {ta : TE} {t : TA}
theorem run_fn {pins : List (Addr × Obj)} {σ : St} {H : Hp} {s : Shared} {Q : VK} {us : List Value} {vs : List V} (F : FnOk q0 X.prog X.w X.K X.mg X.base CX k f fd ps sp) (hr : Room q0 k X.A) (hb : Binds X.K fd ps ds) (hd : Vals dvs ds) (hx : Passes CX X E)
    (I : Inv X pins σ H s) (r : Vals vs us) (h : sp (vs ++ dvs) H Q (E σ)) : wpAny (model X.prog X.w) X.A (call (.ref f) us) (EP X pins σ Q) X.xe s := by
  have r2 : Vals (vs ++ dvs) (us ++ ds) := r.append hd
  have hl : (us ++ ds).length = ps.length := by rw [← r2.length]; exact F.len _ _ _ _ h
  refine wpAny_call (codeAny_mono (F.run X.A X.stack s H ⟨us, []⟩ (us ++ ds) (vs ++ dvs) Q (E σ) hr I.env0 (hb s us I.kIn hl) r2 h) fun r s' hq => ?_)
  cases r with
  | error e => exact hx pins σ H s e s' I hq
  | ok fl =>
    cases fl with
    | ret u => exact I.after hq
    | next => exact False.elim hq
    | brk => exact False.elim hq
    | cont => exact False.elim hq
theorem pe_call (F : FnOk q0 X.prog X.w X.K X.mg X.base CX k f fd ps sp) (hr : Room q0 k X.A) (hg : Gl X x) (hm : X.mg x = some (.ref f)) (hk : PySem.W.keepIn X.K (.ref f) = true) (hb : Binds X.K fd ps ds) (hd : Vals dvs ds) (hx : Passes CX X E)
    (ha : PA X (e :: es) t) (hdb : (x == ("__debug__" : Str)) = false := by decide) (he : starEach (e :: es) X.env = (false, eval e X.env) :: starEach es X.env := by rfl) (hpl : (backTo pos (starEach es X.env)).any (·.1) = false := by rfl) :
    PE X (.Call (.Name x p) (e :: es) [] pos) (tCall sp dvs E t) := by
  intro pins s σ H Q I h
  refine wpAny_Call_Name_kw (ld_glob I hg hm ?_ hdb)
  refine PySem.W.callWith_K (h₀ := X.base) I.ok.mod.kin hk (thn (ha pos pins s σ H _ I h) fun us s1 ⟨vs, H1, I1, r, q⟩ => ⟨I1.kIn, ?_⟩) he hpl
  exact run_fn F hr hb hd hx I1 r q
theorem pe_meth {pl : Sem Bool} (he : PE X o ta) (c : Cls X.K C) (hm : Meth X.K C m f) (F : FnOk q0 X.prog X.w X.K X.mg X.base CX k f fd ps sp) (hr : Room q0 k X.A) (hb : Binds X.K fd ps ds) (hd : Vals dvs ds) (hx : Passes CX X E) (ha : PA X (e :: es) t)
    (hst : starEach (e :: es) X.env = (false, eval e X.env) :: starEach es X.env := by rfl) (hpl : (backTo pos (starEach es X.env)).any (·.1) = false := by rfl)
    (ht : eval (.Call (.Attribute o m apos) (e :: es) [] pos) X.env = (do
      let ov ← eval o X.env
      standAt apos.atName
      let (f, first) ← holding [ov] (getMethod ov m pl)
      callWith pos f first (backTo pos (starEach (e :: es) X.env)) (backToKw pos (keywordEach [] X.env))) := by rfl) :
    PE X (.Call (.Attribute o m apos) (e :: es) [] pos) (tMeth C m sp dvs E ta t) := by
  intro pins s σ H Q I h
  refine PySem.W.methodCall_KW (pl := pl) (thn (he pins s σ H _ I h) fun u s1 ⟨x, H1, I1, rx, a, dx, fs, ex, ea, l, q⟩ => ?_) ht
  subst ex
  obtain rfl : u = Value.ref a := rx
  refine getmeth_ok I1 ea c hm l ?_
  refine PySem.W.callWith_K (first := [.ref a]) (h₀ := X.base) I.ok.mod.kin hm.kp (thn (ha pos pins s1 σ H1 _ I1 q) fun us s2 ⟨vs, H2, I2, r, q2⟩ => ⟨I2.kIn, ?_⟩) hst hpl
  exact run_fn (us := .ref a :: us) (vs := .ref a :: vs) F hr hb hd hx I2 (.cons rfl r) q2
theorem pe_meth0 {pl : Sem Bool} (he : PE X o ta) (c : Cls X.K C) (hm : Meth X.K C m f) (F : FnOk q0 X.prog X.w X.K X.mg X.base CX k f fd ps sp) (hr : Room q0 k X.A) (hb : Binds X.K fd ps ds) (hd : Vals dvs ds) (hx : Passes CX X E)
    (ht : eval (.Call (.Attribute o m apos) [] [] pos) X.env = (do
      let ov ← eval o X.env
      standAt apos.atName
      let (f, first) ← holding [ov] (getMethod ov m pl)
      callWith pos f first (backTo pos (starEach [] X.env)) (backToKw pos (keywordEach [] X.env))) := by rfl) :
    PE X (.Call (.Attribute o m apos) [] [] pos) (tMeth C m sp dvs E ta tNil) := by
  intro pins s σ H Q I h
  refine PySem.W.methodCall_KW (pl := pl) (thn (he pins s σ H _ I h) fun u s1 ⟨x, H1, I1, rx, a, dx, fs, ex, ea, l, q⟩ => ?_) ht
  subst ex
  obtain rfl : u = Value.ref a := rx
  refine getmeth_ok I1 ea c hm l ?_
  exact PySem.W.callWith_K0 (first := [.ref a]) I1.kIn hm.kp (run_fn (us := [.ref a]) (vs := [.ref a]) F hr hb hd hx I1 (.cons rfl .nil) q)
structure Mk (K : PySem.W.Frag) (C f : Addr) : Prop where
  makes : PySem.W.makesIn K C = true
  init : PySem.W.findIn K (.ref C) "__init__" = some (some (.ref f))
  fn : PySem.W.isFn K (.ref f) = true
  kp : PySem.W.keepIn K (.ref C) = true
theorem run_make {pins : List (Addr × Obj)} {σ : St} {H : Hp} {s : Shared} {Q : VK} {us : List Value} {vs : List V} (M : Mk X.K C f) (F : FnOk q0 X.prog X.w X.K X.mg X.base CX k f fd ps sp) (hr : Room q0 (k + 1) X.A) (hb : Binds X.K fd ps ds) (hd : Vals dvs ds)
    (hx : Passes CX X E) (I : Inv X pins σ H s) (r : Vals vs us)
    (h : ∀ x dx, H x = none → H dx = none → dx ≠ x → sp (.ref x :: (vs ++ dvs)) (upd (upd H dx (.own x)) x (.ins C dx [])) (fun v H2 => v = .non ∧ Q (.ref x) H2) (E σ)) :
    wpAny (model X.prog X.w) X.A (call (.ref C) us) (EP X pins σ Q) X.xe s := by
  have hq := h (s.heap.objs.size + 1) s.heap.objs.size (I.hok.fresh (Nat.le_succ _)) (I.hok.fresh (Nat.le_refl _)) (Nat.ne_of_lt (Nat.lt_succ_self _))
  have I2 := Inv.made (C := C) I
  have r2 : Vals (V.ref (s.heap.objs.size + 1) :: (vs ++ dvs)) (Value.ref (s.heap.objs.size + 1) :: (us ++ ds)) := .cons rfl (r.append hd)
  have hl : (Value.ref (s.heap.objs.size + 1) :: us ++ ds).length = ps.length := by
    have e := r2.length
    rw [F.len _ _ _ _ hq] at e
    exact e.symm
  refine wpAny_call (make_map (f := f) I.kIn M.makes M.init (beq_iff_eq.mp M.fn) (codeAny_mono (F.run _ X.stack _ _ ⟨Value.ref (s.heap.objs.size + 1) :: us, []⟩ (Value.ref (s.heap.objs.size + 1) :: (us ++ ds)) _ _ (E σ) (hr.make C us [])
    (I2.env0.make C us []) (hb _ (Value.ref (s.heap.objs.size + 1) :: us) I2.kIn hl) r2 hq) fun r s' hq' => ?_))
  cases r with
  | error e => exact hx pins σ _ _ e s' I2 hq'
  | ok fl =>
    cases fl with
    | ret u =>
      obtain ⟨v, H', I3, rv, ev, q3⟩ := I2.after hq'
      subst ev
      exact ⟨rv, ⟨V.ref (s.heap.objs.size + 1), H', I3, rfl, q3⟩⟩
    | next => exact False.elim hq'
    | brk => exact False.elim hq'
    | cont => exact False.elim hq'
theorem pe_make (M : Mk X.K C f) (F : FnOk q0 X.prog X.w X.K X.mg X.base CX k f fd ps sp) (hr : Room q0 (k + 1) X.A) (hg : Gl X x) (hm : X.mg x = some (.ref C)) (hb : Binds X.K fd ps ds) (hd : Vals dvs ds) (hx : Passes CX X E)
    (ha : PA X (e :: es) t) (hdb : (x == ("__debug__" : Str)) = false := by decide) (he : starEach (e :: es) X.env = (false, eval e X.env) :: starEach es X.env := by rfl) (hpl : (backTo pos (starEach es X.env)).any (·.1) = false := by rfl) :
    PE X (.Call (.Name x p) (e :: es) [] pos) (tMake C sp dvs E t) := by
  intro pins s σ H Q I h
  refine wpAny_Call_Name_kw (ld_glob I hg hm ?_ hdb)
  refine PySem.W.callWith_K (h₀ := X.base) I.ok.mod.kin M.kp (thn (ha pos pins s σ H _ I h) fun us s1 ⟨vs, H1, I1, r, q⟩ => ⟨I1.kIn, ?_⟩) he hpl
  exact run_make M F hr hb hd hx I1 r q
theorem pe_make0 (M : Mk X.K C f) (F : FnOk q0 X.prog X.w X.K X.mg X.base CX k f fd ps sp) (hr : Room q0 (k + 1) X.A) (hg : Gl X x) (hm : X.mg x = some (.ref C)) (hb : Binds X.K fd ps ds) (hd : Vals dvs ds) (hx : Passes CX X E)
    (hdb : (x == ("__debug__" : Str)) = false := by decide) : PE X (.Call (.Name x p) [] [] pos) (tMake C sp dvs E tNil) := by
  intro pins s σ H Q I h
  refine wpAny_Call_Name_kw (ld_glob I hg hm ?_ hdb)
  exact PySem.W.callWith_K0 I.kIn M.kp (run_make (us := []) M F hr hb hd hx I .nil h)
end
section
variable {X : Cx} {CX : CXT} {k : Nat} {f C : Addr} {fd : FuncData} {ps ks : List Str} {sp : Sp} {E : St → XK} {x m : Str} {p pos apos kpos : Pos} {e o : Expr} {es : List Expr} {kws : List Keyword} {te ta : TE} {t tk : TA} {nm : Option Str}
variable {g : List Value → List Value → List Value} {gV : List V → List V → List V}
end
structure FnScope (N P : List Str) (sc : Scope) : Prop where
  kind : sc.kind = .function
  co : sc.isCoroutine = false
  gen : sc.isGenerator = false
  nd : N.Nodup
  pre : N.take P.length = P
  par : ∀ x ∈ P, sc.names.lookup x = some .local ∨ sc.names.lookup x = some .cell
  nofree : ∀ y ∈ sc.names, y.2 ≠ .free
theorem bindL_out {kindOf : Str → Option NameKind} {x : Str} : ∀ {binds : List (Str × Value)} {m : Str → Option Value}, (∀ v, (x, v) ∉ binds) → bindL kindOf binds m x = m x
  | [], _, _ => rfl
  | (n, v) :: r, m, h => by
    unfold bindL
    rw [bindL_out fun w hw => h w (List.mem_cons_of_mem _ hw)]
    split
    · have : x ≠ n := by rintro rfl; exact h v List.mem_cons_self
      simp [this]
    · rfl
theorem bindC_out {kindOf : Str → Option NameKind} {x : Str} : ∀ {binds : List (Str × Value)} {m : Str → Option Value}, (∀ v, (x, v) ∉ binds) → bindC kindOf binds m x = m x
  | [], _, _ => rfl
  | (n, v) :: r, m, h => by
    unfold bindC
    rw [bindC_out fun w hw => h w (List.mem_cons_of_mem _ hw)]
    split
    · rfl
    · have : x ≠ n := by rintro rfl; exact h v List.mem_cons_self
      simp [this]
theorem bindL_get {kindOf : Str → Option NameKind} {x : Str} {v : Value} : ∀ {P : List Str} {vs : List Value} {i : Nat} {m : Str → Option Value}, P.Nodup → P[i]? = some x → vs[i]? = some v → kindOf x = some .local →
    bindL kindOf (P.zip vs) m x = some v
  | [], _, _, _, _, h, _, _ => by simp at h
  | _ :: _, [], _, _, _, _, h, _ => by simp at h
  | p :: P, w :: vs, 0, m, nd, h1, h2, hk => by
    simp at h1 h2; subst h1; subst h2
    show bindL kindOf ((p, w) :: P.zip vs) m p = _
    unfold bindL
    rw [bindL_out fun v hv => (List.nodup_cons.mp nd).1 (List.of_mem_zip hv).1, if_pos hk]
    simp
  | p :: P, w :: vs, i + 1, m, nd, h1, h2, hk => by
    show bindL kindOf ((p, w) :: P.zip vs) m x = _
    unfold bindL
    exact bindL_get (i := i) (List.nodup_cons.mp nd).2 (by simpa using h1) (by simpa using h2) hk
theorem bindC_get {kindOf : Str → Option NameKind} {x : Str} {v : Value} : ∀ {P : List Str} {vs : List Value} {i : Nat} {m : Str → Option Value}, P.Nodup → P[i]? = some x → vs[i]? = some v → kindOf x ≠ some .local →
    bindC kindOf (P.zip vs) m x = some v
  | [], _, _, _, _, h, _, _ => by simp at h
  | _ :: _, [], _, _, _, _, h, _ => by simp at h
  | p :: P, w :: vs, 0, m, nd, h1, h2, hk => by
    simp at h1 h2; subst h1; subst h2
    show bindC kindOf ((p, w) :: P.zip vs) m p = _
    unfold bindC
    rw [bindC_out fun v hv => (List.nodup_cons.mp nd).1 (List.of_mem_zip hv).1, if_neg hk]
    simp
  | p :: P, w :: vs, i + 1, m, nd, h1, h2, hk => by
    show bindC kindOf ((p, w) :: P.zip vs) m x = _
    unfold bindC
    exact bindC_get (i := i) (List.nodup_cons.mp nd).2 (by simpa using h1) (by simpa using h2) hk
def start (N : List Str) (vs : List V) : St := vs.map some ++ List.replicate (N.length - vs.length) none
def cxOf (q0 : Bool) (CX : CXT) (P : Program) (w : World) (K : PySem.W.Frag) (mg : Str → Option Value) (base : Heap) (N : List Str) (qual : Str) (scope : Scope) (f : Addr) (cd : Value) (A : Around) (outer : List Env) (s : Shared) (H : Hp) (E : XK) : Cx where
  prog := P
  w := w
  K := K
  mg := mg
  base := base
  A := A.deeper (envOfC qual scope s.heap.objs.size f cd)
  N := N
  s₀ := s
  H₀ := H
  env := envOfC qual scope s.heap.objs.size f cd
  outer := outer
  stack := envOfC qual scope s.heap.objs.size f cd :: outer
  ex := []
  calm := q0
  fn := fun _ => true
  pn := []
  xe := fun e s' => wpAny (model P w) (A.deeper (envOfC qual scope s.heap.objs.size f cd)) (leaving (envOfC qual scope s.heap.objs.size f cd) e) (fun _ s'' => CX outer H s E e s'') (fun e' s'' => CX outer H s E e' s'') s'
theorem cell_has {sc : Scope} {n : Nat} {x : Str} (h : sc.names.lookup x = some .cell) : ∃ c, (cellsFrom n sc.names []).lookup x = some c := by
  have q := PySem.W.cellsFrom_some sc.names n [] (.inl h)
  exact Option.isSome_iff_exists.mp q
theorem inv_start {CX : CXT} {P : Program} {w : World} {K : PySem.W.Frag} {mg : Str → Option Value} {base : Heap} {N ps : List Str} {qual : Str} {scope : Scope} {f : Addr} {cd : Value} {A : Around} {outer : List Env} {s s1 : Shared} {H : Hp} {E : XK} {us : List Value} {vs : List V}
    (S : FnScope N ps scope) (hd : q0 = true → A.handled = none) (e0 : Env0 P w K mg base A outer s H) (hl : vs.length = ps.length) (r : Vals vs us)
    (x : InCallC s s.heap.objs.size (bindL (envOfC qual scope s.heap.objs.size f cd).kindOf (ps.zip us) fun _ => none) (cellsFrom (s.heap.objs.size + 1) scope.names []) (bindC (envOfC qual scope s.heap.objs.size f cd).kindOf (ps.zip us) fun _ => none) s1) :
    Inv (cxOf q0 CX P w K mg base N qual scope f cd A outer s H E) [] (start N vs) H s1 := by
  have hpl : ps.length ≤ N.length := by have := congrArg List.length S.pre; rw [List.length_take] at this; omega
  obtain ⟨h1, tk, rfl, hk⟩ := x.done
  have noA : ∀ b : Addr, b ∉ (cxOf q0 CX P w K mg base N qual scope f cd A outer s H E).ex := fun b z => absurd (show b ∈ ([] : List Addr) from z) (by simp)
  refine ⟨⟨e0.mod, S.kind, rfl, rfl, Nat.le_refl _, fun y z c h1 h2 => ?_, fun y hy => ?_, fun y c _ h => ?_, hd, Around.frames_deeper e0.frames, .inr ⟨rfl, rfl⟩, fun b z => absurd z (noA b), e0.bs, e0.bsz, fun b _ _ => noA b, fun b z => absurd z (noA b), e0.funs, e0.frf⟩,
    rfl, e0.bare, Un.kept hk, ⟨_, x.toInCall.ns, fun i y v h1 h2 h3 => ?_⟩, fun y c h => ⟨_, x.cell y c h⟩, e0.hok.fresh (Nat.le_refl _), fun y c h => ?_, fun p hp => absurd (show p ∈ ([] : List (Addr × Obj)) from hp) (by simp), e0.hok.kept hk, ?_⟩
  · exact name_of_addr x.apart (PySem.mem_of_lookup h1) (PySem.mem_of_lookup h2)
  · have hy : scope.names.lookup y = some .cell ∨ scope.names.lookup y = some .free := hy
    rcases hy with hy | hy
    · exact cell_has hy
    · exact absurd rfl (S.nofree _ (PySem.mem_of_lookup hy))
  · exact Nat.le_of_lt (x.above y c (PySem.mem_of_lookup h))
  · have hi : i < vs.length := by
      unfold start at h2
      by_cases hi : i < vs.length
      · exact hi
      · rw [List.getElem?_append_right (by simpa using hi)] at h2
        rw [List.getElem?_replicate] at h2
        split at h2 <;> cases h2
    have ha : vs[i]? = some v := by
      unfold start at h2
      rw [List.getElem?_append_left (by simpa using hi), List.getElem?_map] at h2
      cases e : vs[i]? with
      | none => rw [e] at h2; cases h2
      | some a => rw [e] at h2; cases h2; rfl
    obtain ⟨u, hu, rv⟩ := r.get ha
    have hp : ps[i]? = some y := by
      rw [← S.pre, List.getElem?_take_of_lt (by omega)]; exact h1
    have ndP : ps.Nodup := by rw [← S.pre]; exact S.nd.sublist (List.take_sublist _ _)
    refine ⟨u, rv, ?_⟩
    rcases S.par y (List.mem_of_getElem? hp) with k | k
    · exact .inl ⟨k, bindL_get ndP hp hu k⟩
    · obtain ⟨c, e⟩ := cell_has (n := s.heap.objs.size + 1) k
      refine .inr ⟨.inl k, c, e, ?_⟩
      have q := x.cell y c e
      rw [bindC_get ndP hp hu (by show scope.names.lookup y ≠ _; rw [k]; decide)] at q
      exact q
  · exact e0.hok.fresh (Nat.le_of_lt (x.above y c (PySem.mem_of_lookup h)))
  · unfold start
    show _ = N.length
    rw [List.length_append, List.length_map, List.length_replicate]
    omega
theorem fn_of {CX : CXT} {P : Program} {w : World} {K : PySem.W.Frag} {mg : Str → Option Value} {base : Heap} {k : Nat} {f : Addr} {name qual : Str} {params : Arguments} {body : List Stmt} {scope : Scope} {dV kV doc pm cdv ct oc : Value} {an od : Option Addr}
    {osl : Array (Option Value)} {N ps : List Str} {sp : Sp} (lk : K.lookup f = some ⟨oc, od, .func (PySem.W.fnOf name qual params body scope dV kV doc pm an cdv ct), osl⟩) (hcd : PySem.W.codeIn K cdv qual = true) (S : FnScope N ps scope)
    (len : ∀ vs H Q E, sp vs H Q E → vs.length = ps.length)
    (hbody : ∀ (A : Around) (outer : List Env) (s : Shared) (H : Hp) (vs : List V) (Q : VK) (E : XK), Room q0 k (A.deeper (envOfC qual scope s.heap.objs.size f cdv)) → sp vs H Q E →
      ∃ t, PSs (cxOf q0 CX P w K mg base N qual scope f cdv A outer s H E) body t ∧ t { nx := fun _ H' => Q .non H', rt := Q } (start N vs) H) :
    FnOk q0 P w K mg base CX (k + 1) f (PySem.W.fnOf name qual params body scope dV kV doc pm an cdv ct) ps sp := by
  refine ⟨len, fun A outer s H args us vs Q E hr e0 hb r hsp => ?_⟩
  have hl := len _ _ _ _ hsp
  have KX : K.In s.heap := e0.mod.kin.keeps fun b o e => (e0.bs b o e).1
  have lim : s.heap.NoLimit := e0.mod.nolimit.keeps fun b o e => (e0.bs b o e).1
  have hkind : ∀ y ∈ ps.zip us, scope.names.lookup y.1 = some .local ∨ (scope.names.lookup y.1 = some .cell ∧ ((cellsFrom (s.heap.objs.size + 1) scope.names []).lookup y.1).isSome = true) := fun ⟨n, v⟩ hy => by
    rcases S.par n (List.of_mem_zip hy).1 with q | q
    · exact .inl q
    · exact .inr ⟨q, PySem.W.cellsFrom_some _ _ _ (.inl q)⟩
  refine codeAny_call_function hr.depth (KX _ _ lk) rfl S.co S.gen rfl (PySem.W.codeRec_of KX hcd) (hb _ _ _ _ ?_)
  refine wpAny_newFunctionEnv_cells S.kind hkind fun env he s1 x => ?_
  subst he
  refine ⟨lim.keeps x.toInCall.keep, codeAny_func ?_⟩
  obtain ⟨t, ht, hq⟩ := hbody A outer s H vs Q E (hr.deeper _) hsp
  have I : Inv (cxOf q0 CX P w K mg base N qual scope f cdv A outer s H E) [] (start N vs) H s1 := inv_start S hr.hd e0 hl r x
  refine wpAny_mono (ht [] s1 (start N vs) H _ I hq) (fun fl s' hs => ?_) fun e s' hs => hs
  have fin : ∀ {σ' : St} {H' : Hp} {v : V} {u : Value}, Inv (cxOf q0 CX P w K mg base N qual scope f cdv A outer s H E) [] σ' H' s' → RelV v u → Q v H' → CE outer P w H s Q u s' :=
    fun {σ' H' v u} J rv q => ⟨v, H', J.os, J.bare, J.base, J.hok, rv, q⟩
  cases fl with
  | ret u =>
    obtain ⟨v, σ', H', J, rv, q⟩ := hs
    exact fin J rv q
  | next =>
    obtain ⟨σ', H', J, q⟩ := hs
    exact fin (v := V.non) (u := Value.none) J rfl q
  | brk =>
    obtain ⟨_, _, _, q⟩ := hs
    exact False.elim q
  | cont =>
    obtain ⟨_, _, _, q⟩ := hs
    exact False.elim q
end L2
namespace L2
open PySem PySem.Spec PyProof.Rows
variable {q0 : Bool}
section
variable {X : Cx} {x : Str} {p pos : Pos} {e : Expr} {es : List Expr} {t : TA} {id T : String} {r : List V → Hp → VK → Prop}
def tCB (r : List V → Hp → VK → Prop) (t : TA) : TE := fun σ H Q => t σ H fun vs H1 => r vs H1 Q
theorem pe_callB (hc : CallR X (.builtin id) r) (hg : Gl X x) (hm : X.mg x = none) (hv : bootBuiltins x = some (.builtin id)) (ha : PA X (e :: es) t) (hn : x ≠ "__name__" := by decide) (hdb : (x == ("__debug__" : Str)) = false := by decide)
    (he : starEach (e :: es) X.env = (false, eval e X.env) :: starEach es X.env := by rfl) (hpl : (backTo pos (starEach es X.env)).any (·.1) = false := by rfl) : PE X (.Call (.Name x p) (e :: es) [] pos) (tCB r t) := by
  intro pins s σ H Q I h
  refine wpAny_Call_Name_kw (ld_blt I hg hm hv ?_ hn hdb)
  exact PyProof.Rows.callWith_builtin1 (thn (ha pos pins s σ H _ I h) fun us s1 ⟨vs, H1, I1, r1, q1⟩ => hc pins s1 σ H1 vs us Q I1 r1 q1) he hpl
theorem pe_callTy (hc : CallR X (.type T) r) (hg : Gl X x) (hm : X.mg x = none) (hv : bootBuiltins x = some (.type T)) (ha : PA X (e :: es) t) (hn : x ≠ "__name__" := by decide) (hdb : (x == ("__debug__" : Str)) = false := by decide)
    (he : starEach (e :: es) X.env = (false, eval e X.env) :: starEach es X.env := by rfl) (hpl : (backTo pos (starEach es X.env)).any (·.1) = false := by rfl) : PE X (.Call (.Name x p) (e :: es) [] pos) (tCB r t) := by
  intro pins s σ H Q I h
  refine wpAny_Call_Name_kw (ld_blt I hg hm hv ?_ hn hdb)
  exact PyProof.Rows.callWith_type1 (thn (ha pos pins s σ H _ I h) fun us s1 ⟨vs, H1, I1, r1, q1⟩ => hc pins s1 σ H1 vs us Q I1 r1 q1) he hpl
end
end L2
namespace HT
open PySem PyProof.Rows
section
open PySem.SeqAt
open PySem.AutoSeq1 (wpAny_loadPart')
open PySem.MeetsSeq PySem.MeetsSeq2 PySem.MeetsSeq3
end
section
variable {prog : Program} {w : World} {A : Around} {E : Value → Shared → Prop} {s : Shared}
theorem cat_tup {t b : Addr} {vs ws : List Value} {Q : Value → Shared → Prop} (ht : IsTup s.heap t vs.toArray) (hb : IsTup s.heap b ws.toArray) (hv : vs ≠ [])
    (h1 : ws = [] → Q (.ref t) s) (h2 : ws ≠ [] → Q (.ref s.heap.objs.size) { s with heap := s.heap.push { cls := .type "tuple", data := .seq (vs ++ ws).toArray } })
    (hsz : vs.length + ws.length ≤ sizeLine) : wpAny (model prog w) A (binaryOp .Add (.ref t) (.ref b)) Q E s := by
  obtain ⟨⟨cls, dd, data, sl⟩, ho, hc, n, hd⟩ := id ht
  obtain ⟨⟨cls2, dd2, data2, sl2⟩, ho2, hc2, n2, hd2⟩ := id hb
  simp only at hc hd hc2 hd2
  subst hc hd hc2 hd2
  have e : vs.toArray ++ ws.toArray = (vs ++ ws).toArray := by simp
  by_cases hw : ws = []
  · exact concat_meets ⟨_, ho, rfl⟩ ⟨_, ho2, rfl⟩ noFill_tuple_add seq_tuple_add PySem.F.slot_tuple_add PySem.F.entry_tuple_add (PySem.F.args_tuple_add_2 _ _)
      (tuple_addW1 t b vs.toArray ws.toArray n n2 dd dd2 sl sl2 (by simpa using hv) (by simp [hw])) ⟨ho, ho2, h1 hw⟩
  · refine concat_meets ⟨_, ho, rfl⟩ ⟨_, ho2, rfl⟩ noFill_tuple_add seq_tuple_add PySem.F.slot_tuple_add PySem.F.entry_tuple_add (PySem.F.args_tuple_add_2 _ _)
      (tuple_addW2 t b vs.toArray ws.toArray n n2 dd dd2 sl sl2 (by simpa using hv) (by simpa using hw) (by rw [List.size_toArray, List.size_toArray]; exact hsz)) ⟨ho, ho2, ?_⟩
    rw [e]
    exact h2 hw
def sIx (n d : Nat) : Option Int → Nat
  | none => d
  | some v => if v < 0 then (v + (n : Int)).toNat else min v.toNat n
end
end HT
namespace L2
open PySem PySem.Spec PyProof.Rows
variable {q0 : Bool}
abbrev TO := St → Hp → (Option Int → Hp → Prop) → Prop
def PO (X : Cx) (e : Option Expr) (t : TO) : Prop :=
  ∀ (pins : List (Addr × Obj)) (s : Shared) (σ : St) (H : Hp) (Q : Option Int → Hp → Prop), Inv X pins σ H s → t σ H Q →
    wpAny (model X.prog X.w) X.A (evalPart e X.env) (fun u s' => ∃ o H', Inv X pins σ H' s' ∧ IsPart u o ∧ Q o H') X.xe s
def tNoPart : TO := fun _ H Q => Q none H
def tPart (t : TE) : TO := fun σ H Q => t σ H fun x H1 => ∃ i, x = .int i ∧ Q (some i) H1
section
variable {X : Cx} {e : Expr} {te : TE} {lo hi : Option Expr} {tl th : TO} {pos p2 : Pos}
theorem po_none : PO X none tNoPart := by
  intro pins s σ H Q I h
  rw [evalPart_none]
  exact wpAny_pure ⟨none, H, I, .none, h⟩
theorem po_some (h : PE X e te) : PO X (some e) (tPart te) := by
  intro pins s σ H Q I hw
  rw [evalPart_some]
  refine thn (h pins s σ H _ I hw) fun u s1 ⟨x, H1, I1, r1, q1⟩ => ?_
  obtain ⟨i, rfl, q⟩ := q1
  obtain ⟨t, rfl⟩ := r1
  exact ⟨some i, H1, I1, .int i t, q⟩
def SlR (X : Cx) (r : V → Option Int → Option Int → Hp → VK → Prop) : Prop :=
  ∀ (pins : List (Addr × Obj)) (s : Shared) (σ : St) (H : Hp) (x : V) (v vl vu : Value) (lo hi : Option Int) (sl : Addr) (Q : VK), Inv X pins σ H s → RelV x v → s.heap.IsSliceOf sl vl vu .none → IsPart vl lo → IsPart vu hi → r x lo hi H Q →
    ∃ T id, typeLookup (.type T) "__getitem__" = pure (some (.builtin id)) ∧ s.TypeIs v T ∧ wpAny (model X.prog X.w) X.A (getItem v (.ref sl)) (EP X pins σ Q) X.xe s
def tSl (r : V → Option Int → Option Int → Hp → VK → Prop) (te : TE) (tl th : TO) : TE := fun σ H Q => te σ H fun x H1 => tl σ H1 fun l H2 => th σ H2 fun u H3 => r x l u H3 Q
theorem pe_slice {r : V → Option Int → Option Int → Hp → VK → Prop} (hr : SlR X r) (he : PE X e te) (hl : PO X lo tl) (hu : PO X hi th) : PE X (.Subscript e (.Slice lo hi none p2) pos) (tSl r te tl th) := by
  intro pins s σ H Q I h
  refine Subscript_ (thn (he pins s σ H _ I h) fun v s1 ⟨x, H1, I1, r1, q1⟩ => ?_)
  refine wpAny_Slice (thn (hl pins s1 σ H1 _ I1 q1) fun vl s2 ⟨l, H2, I2, pl, q2⟩ => thn (hu pins s2 σ H2 _ I2 q2) fun vu s3 ⟨u, H3, I3, pu, q3⟩ => ?_)
  rw [evalPart_none]
  refine wpAny_pure ?_
  have I4 : Inv X pins σ H3 { s3 with heap := s3.heap.push { cls := .type "slice", data := .fields #[vl, vu, .none] } } := I3.kept (t' := s3.toks) fun b ob q => Heap.get?_push_of_some _ q
  obtain ⟨T, id, hT, ht, hg⟩ := hr pins { s3 with heap := s3.heap.push { cls := .type "slice", data := .fields #[vl, vu, .none] } } σ H3 x v vl vu l u s3.heap.objs.size Q I4 r1 (Heap.IsSliceOf.new ..) pl pu q3
  show wpAny (model X.prog X.w) X.A (subscriptTail e (.Slice lo hi none p2) v (.ref s3.heap.objs.size)) (EP X pins σ Q) X.xe { s3 with heap := s3.heap.push { cls := .type "slice", data := .fields #[vl, vu, .none] } }
  exact tail_any (ops := [.ref s3.heap.objs.size, v]) ht hT hg (by with_unfolding_all rfl)
def cutV (xs : List V) (lo hi : Option Int) : List V := (xs.drop (HT.sIx xs.length 0 lo)).take (HT.sIx xs.length xs.length hi - HT.sIx xs.length 0 lo)
theorem cutV_length (xs : List V) (lo hi : Option Int) : (cutV xs lo hi).length ≤ xs.length := by
  unfold cutV
  rw [List.length_take, List.length_drop]
  omega
def rCatT (K : PySem.W.Frag) : R2 := fun x y H Q => ∃ a b xs ys, x = .ref a ∧ y = .ref b ∧ SqT K H a xs ∧ SqT K H b ys ∧ xs ≠ [] ∧ xs.length + ys.length ≤ sizeLine ∧
  (ys = [] → Q (.ref a) H) ∧ (ys ≠ [] → ∀ p, H p = none → Q (.ref p) (upd H p (.tup (xs ++ ys))))
theorem Vals.nil_iff {xs : List V} {us : List Value} (r : Vals xs us) : us = [] ↔ xs = [] := by
  cases r with
  | nil => simp
  | cons _ _ => simp
theorem op_catT : OpR X (binaryOp .Add) (rCatT X.K) := by
  intro pins s σ H x y v u Q I rx ry h
  obtain ⟨a, b, xs, ys, rfl, rfl, ha, hb, hx, hz, q1, q2⟩ := h
  cases rx
  cases ry
  obtain ⟨its, r1, p1, _⟩ := I.tuple ha
  obtain ⟨its2, r2, p2, _⟩ := I.tuple hb
  refine HT.cat_tup p1 p2 (fun z => hx (r1.nil_iff.mp z)) (fun z => ⟨.ref a, H, I, rfl, q1 (r2.nil_iff.mp z)⟩) (fun z => ?_) (by rw [← r1.length, ← r2.length]; exact hz)
  refine ⟨.ref s.heap.objs.size, _, I.laid (t' := s.toks) (o := .tup (xs ++ ys)) (fun b ob q => Heap.get?_push_of_some _ q) (Nat.le_refl _) ?_, rfl, q2 (fun w => z (r2.nil_iff.mpr w)) _ (I.hok.fresh (Nat.le_refl _))⟩
  exact ⟨by rw [List.length_append]; exact hz, _, r1.append r2, IsTup.new _ _⟩
end
end L2
namespace L2
open PySem PySem.Spec PyProof.Rows
variable {q0 : Bool}
def ixN (n : Nat) (i : Int) : Option Nat := if 0 ≤ i then (if i < n then some i.toNat else none) else if -(n : Int) ≤ i then some (i + n).toNat else none
def atI {α : Type} (xs : List α) (i : Int) : Option α := (ixN xs.length i).bind fun j => xs[j]?
theorem ixN_seq {n : Nat} {i : Int} {j : Nat} (h : ixN n i = some j) : seqIndex? i n = some j ∧ j < n ∧ -(n : Int) ≤ i ∧ i < n := by
  unfold ixN at h
  by_cases h0 : 0 ≤ i
  · rw [if_pos h0] at h
    by_cases h1 : i < n
    · rw [if_pos h1] at h
      have e : i.toNat = j := Option.some.inj h
      exact ⟨by rw [seqIndex_of h0 h1, e], by omega, by omega, h1⟩
    · rw [if_neg h1] at h; cases h
  · rw [if_neg h0] at h
    by_cases h1 : -(n : Int) ≤ i
    · rw [if_pos h1] at h
      have e : (i + n).toNat = j := Option.some.inj h
      exact ⟨by rw [seqIndex_neg (by omega) h1, e], by omega, h1, by omega⟩
    · rw [if_neg h1] at h; cases h
theorem atI_get {α : Type} {xs : List α} {i : Int} {v : α} (h : atI xs i = some v) : ∃ j, seqIndex? i xs.length = some j ∧ xs[j]? = some v ∧ j < xs.length ∧ -(xs.length : Int) ≤ i ∧ i < xs.length := by
  unfold atI at h
  cases e : ixN xs.length i with
  | none => rw [e] at h; cases h
  | some j =>
    rw [e] at h
    obtain ⟨h1, h2, h3, h4⟩ := ixN_seq e
    exact ⟨j, h1, h, h2, h3, h4⟩
theorem atI_nat {α : Type} {xs : List α} {j : Nat} {v : α} (h : xs[j]? = some v) : atI xs (j : Int) = some v := by
  have hj : j < xs.length := (List.getElem?_eq_some_iff.mp h).1
  have e : ixN xs.length (j : Int) = some j := by
    unfold ixN
    rw [if_pos (by omega), if_pos (by omega)]; simp
  unfold atI; rw [e]; exact h
def PlainIx (b : Expr) : Prop := ∀ o i, subscripted b false o i = operate [o, i] (getItem o i)
def IxR (X : Cx) (r : R2) : Prop :=
  ∀ (value slice : Expr) (pins : List (Addr × Obj)) (s : Shared) (σ : St) (H : Hp) (x y : V) (v u : Value) (Q : VK), Inv X pins σ H s → RelV x v → RelV y u → r x y H Q →
    subscripted slice false v u = operate [v, u] (getItem v u) → wpAny (model X.prog X.w) X.A (subscriptTail value slice v u) (EP X pins σ Q) X.xe s
def MtR (X : Cx) (id : String) (r : V → List V → Hp → VK → Prop) : Prop :=
  ∀ (pins : List (Addr × Obj)) (s : Shared) (σ : St) (H : Hp) (x : V) (xs : List V) (v : Value) (us : List Value) (Q : VK), Inv X pins σ H s → RelV x v → Vals xs us → r x xs H Q →
    wpAny (model X.prog X.w) X.A (call (.builtin id) (v :: us)) (EP X pins σ Q) X.xe s
section
variable {X : Cx} {a b : Expr} {ta tb : TE} {pos : Pos}
theorem pe_ix {r : R2} (hr : IxR X r) (ha : PE X a ta) (hb : PE X b tb) (hs : PlainIx b) : PE X (.Subscript a b pos) (tOp r ta tb) := by
  intro pins s σ H Q I h
  exact Subscript_ (binT ha hb I h fun v u s2 x y H2 I2 rx ry q => hr a b pins s2 σ H2 x y v u Q I2 rx ry q (hs _ _))
def rIxL (K : PySem.W.Frag) : R2 := fun x y H Q => ∃ p xs i v, x = .ref p ∧ y = .int i ∧ SqL K H p xs ∧ atI xs i = some v ∧ Q v H
def rIxT (K : PySem.W.Frag) : R2 := fun x y H Q => ∃ p xs i v, x = .ref p ∧ y = .int i ∧ SqT K H p xs ∧ atI xs i = some v ∧ Q v H
theorem ix_list : IxR X (rIxL X.K) := by
  intro value slice pins s σ H x y v u Q I rx ry h hs
  obtain ⟨p, xs, i, z, rfl, rfl, hq, he, q⟩ := h
  cases rx
  obtain ⟨t, rfl⟩ := ry
  obtain ⟨its, r, pl, hz⟩ := I.list hq
  obtain ⟨j, h1, h2, h3, h4, h5⟩ := atI_get he
  obtain ⟨w, ew, rw'⟩ := r.get h2
  have hl := r.length
  have hn := line63
  have fin : EP X pins σ Q w s := ⟨z, H, I, rw', q⟩
  by_cases h0 : 0 ≤ i
  · have hj : i.toNat = j := by
      rw [seqIndex_of h0 h5] at h1
      exact Option.some.inj h1
    exact item_listR pl.isList h0 (by omega) (by rw [hj]; simpa using ew) fin hs
  · have hj : (i + (its.toArray.size : Int)).toNat = j := by
      rw [seqIndex_neg (by omega) h4] at h1
      rw [List.size_toArray, ← hl]
      exact Option.some.inj h1
    exact subscriptTail_builtinR (x := w) pl.isList.typeIs slot_list_getitem.lookup
      (wpAny_getItem_list_neg (Q := fun r s' => r = w ∧ EP X pins σ Q r s') pl.isList (by omega) (by rw [List.size_toArray] <;> omega) (by omega) (by rw [hj]; simpa using ew) ⟨rfl, fin⟩) hs
theorem ix_tup : IxR X (rIxT X.K) := by
  intro value slice pins s σ H x y v u Q I rx ry h hs
  obtain ⟨p, xs, i, z, rfl, rfl, hq, he, q⟩ := h
  cases rx
  obtain ⟨t, rfl⟩ := ry
  obtain ⟨its, r, pl, hz⟩ := I.tuple hq
  obtain ⟨j, h1, h2, h3, h4, h5⟩ := atI_get he
  obtain ⟨w, ew, rw'⟩ := r.get h2
  have hl := r.length
  have hn := line63
  have fin : EP X pins σ Q w s := ⟨z, H, I, rw', q⟩
  exact subscriptTail_builtinR (x := w) pl.typeIs slot_tuple_getitem.lookup
    (getItem_tuple (j := j) (Q := fun r s' => r = w ∧ EP X pins σ Q r s') pl (by omega) (by omega) (by rw [List.size_toArray, ← hl]; exact h1) (by simpa using ew) ⟨rfl, fin⟩) hs
theorem Inv.lst {pins : List (Addr × Obj)} {σ : St} {H : Hp} {s : Shared} {p : Addr} {xs : List V} (I : Inv X pins σ H s) (h : H p = some (.lst xs)) :
    ∃ (its : List Value) (n : Nat), Vals xs its ∧ s.heap.get? p = some { cls := .type "list", data := .seq its.toArray n } ∧ xs.length ≤ sizeLine := by
  obtain ⟨z, its, n, r, e⟩ := I.hok p _ h
  exact ⟨its, n, r, e, z⟩
theorem slice_bounds (lo hi : Option Int) (n : Nat) : (sliceBounds lo hi none n).1 = ((HT.sIx n 0 lo : Nat) : Int) ∧ (sliceBounds lo hi none n).2.1 = ((HT.sIx n n hi : Nat) : Int) ∧ (sliceBounds lo hi none n).2.2 = 1 := by
  refine ⟨?_, ?_, rfl⟩
  · cases lo with
    | none => simp [sliceBounds, HT.sIx]
    | some i =>
      simp only [sliceBounds, HT.sIx, Option.getD_none, show (1 : Int) > 0 by decide, if_true]
      by_cases h : i < 0
      · simp only [h, if_true] <;> omega
      · simp only [h, if_false] <;> omega
  · cases hi with
    | none => simp [sliceBounds, HT.sIx]
    | some i =>
      simp only [sliceBounds, HT.sIx, Option.getD_none, show (1 : Int) > 0 by decide, if_true]
      by_cases h : i < 0
      · simp only [h, if_true] <;> omega
      · simp only [h, if_false] <;> omega
theorem slicePick_cut (its : List Value) (lo hi : Option Int) : slicePick its.toArray lo hi none = ((its.drop (HT.sIx its.length 0 lo)).take (HT.sIx its.length its.length hi - HT.sIx its.length 0 lo)).toArray := by
  obtain ⟨h1, h2, h3⟩ := slice_bounds lo hi its.toArray.size
  unfold slicePick
  rw [h1, h2, h3]
  simp only [sliceRange_one, pick_run, List.size_toArray] <;> rfl
def rSlL (K : PySem.W.Frag) : V → Option Int → Option Int → Hp → VK → Prop := fun x lo hi H Q => ∃ a xs, x = .ref a ∧ SqL K H a xs ∧ ∀ p, H p = none → Q (.ref p) (upd H p (.lst (cutV xs lo hi)))
theorem sl_list : SlR X (rSlL X.K) := by
  intro pins s σ H x v vl vu lo hi sl Q I rx hs pl pu h
  obtain ⟨a, xs, rfl, hx, q⟩ := h
  cases rx
  obtain ⟨its, r, ht, hz⟩ := I.list hx
  have hlen := r.length
  refine ⟨"list", _, slot_list_getitem.lookup, ht.isList.typeIs, ?_⟩
  refine wpAny_getItem_list_slice ht.isList hs pl pu .none (by simp) ?_ (by rw [List.size_toArray] <;> omega)
  rw [slicePick_cut, ← hlen]
  refine ⟨.ref s.heap.objs.size, _, I.laid (t' := s.toks) (o := .lst (cutV xs lo hi)) (fun b ob q => Heap.get?_push_of_some _ q) (Nat.le_refl _) ?_, rfl, q _ (I.hok.fresh (Nat.le_refl _))⟩
  exact ⟨Nat.le_trans (cutV_length xs lo hi) hz, _, 0, (r.drop (HT.sIx xs.length 0 lo)).take (HT.sIx xs.length xs.length hi - HT.sIx xs.length 0 lo), Heap.get?_push_size _ rfl⟩
def flatV : V → Bool
  | .non => true
  | .bl _ => true
  | .int _ => true
  | .str _ => true
  | _ => false
def eqV : V → V → Bool
  | .non, .non => true
  | .bl a, .bl b => a == b
  | .bl a, .int b => (if a then 1 else 0) == b
  | .int a, .bl b => a == (if b then 1 else 0)
  | .int a, .int b => a == b
  | .str a, .str b => a == b
  | _, _ => false
theorem eqAt_V {A : Around} {s : Shared} {y x : V} {u v : Value} (ry : RelV y u) (rx : RelV x v) (fy : flatV y = true) (fx : flatV x = true) : SeqAt.EqAt A s u v (eqV y x) := by
  cases y with
  | non =>
    cases ry
    cases x with
    | non => cases rx; exact SeqAt.EqAt.same _
    | bl b => cases rx; exact SeqAt.EqAt.none_bool b
    | int b => obtain ⟨t, rfl⟩ := rx; exact SeqAt.EqAt.none_int b t
    | str b => obtain ⟨t, rfl⟩ := rx; exact SeqAt.EqAt.none_str b t
    | _ => exact absurd (show false = true from fx) Bool.false_ne_true
  | bl a =>
    cases ry
    cases x with
    | non => cases rx; exact SeqAt.EqAt.bool_none a
    | bl b => cases rx; exact SeqAt.EqAt.bool_bool a b
    | int b => obtain ⟨t, rfl⟩ := rx; exact SeqAt.EqAt.bool_int a b t
    | str b => obtain ⟨t, rfl⟩ := rx; exact SeqAt.EqAt.bool_str a b t
    | _ => exact absurd (show false = true from fx) Bool.false_ne_true
  | int a =>
    obtain ⟨t', rfl⟩ := ry
    cases x with
    | non => cases rx; exact SeqAt.EqAt.int_none a t'
    | bl b => cases rx; exact SeqAt.EqAt.int_bool a t' b
    | int b => obtain ⟨t, rfl⟩ := rx; exact SeqAt.EqAt.int_int a t' b t
    | str b => obtain ⟨t, rfl⟩ := rx; exact SeqAt.EqAt.int_str a t' b t
    | _ => exact absurd (show false = true from fx) Bool.false_ne_true
  | str a =>
    obtain ⟨t', rfl⟩ := ry
    cases x with
    | non => cases rx; exact SeqAt.EqAt.str_none a t'
    | bl b => cases rx; exact SeqAt.EqAt.str_bool a t' b
    | int b => obtain ⟨t, rfl⟩ := rx; exact SeqAt.EqAt.str_int a t' b t
    | str b => obtain ⟨t, rfl⟩ := rx; exact SeqAt.EqAt.str_str a t' b t
    | _ => exact absurd (show false = true from fx) Bool.false_ne_true
  | _ => exact absurd (show false = true from fy) Bool.false_ne_true
def eqU (x : V) (u : Value) : Bool := match u with
  | .none => eqV .non x
  | .bool b => eqV (.bl b) x
  | .int i _ => eqV (.int i) x
  | .str z _ => eqV (.str z) x
  | _ => false
theorem eqU_of {x y : V} {u : Value} (r : RelV y u) (f : flatV y = true) : eqU x u = eqV y x := by
  cases y with
  | non => cases r; rfl
  | bl b => cases r; rfl
  | int i => obtain ⟨t, rfl⟩ := r; rfl
  | str z => obtain ⟨t, rfl⟩ := r; rfl
  | _ => exact absurd (show false = true from f) Bool.false_ne_true
theorem any_eqU {x : V} : ∀ {xs : List V} {us : List Value}, Vals xs us → xs.all flatV = true → us.any (eqU x) = xs.any fun y => eqV y x
  | _, _, .nil, _ => rfl
  | y :: xs, u :: us, .cons r t, f => by
    rw [List.all_cons, Bool.and_eq_true] at f
    rw [List.any_cons, List.any_cons, eqU_of r f.1, any_eqU t f.2]
theorem mem_eqAt {A : Around} {s : Shared} {x : V} {v : Value} (rx : RelV x v) (fx : flatV x = true) : ∀ {xs : List V} {us : List Value}, Vals xs us → xs.all flatV = true → ∀ u ∈ us, SeqAt.EqAt A s u v (eqU x u)
  | _, _, .nil, _ => fun u hu => by cases hu
  | y :: xs, u :: us, .cons r t, f => fun u' hu => by
    rw [List.all_cons, Bool.and_eq_true] at f
    rcases List.mem_cons.mp hu with rfl | hu
    · rw [eqU_of r f.1]; exact eqAt_V r rx f.1 fx
    · exact mem_eqAt rx fx t f.2 u' hu
def inV (x : V) (xs : List V) : Bool := xs.any fun y => eqV y x
def rIn (K : PySem.W.Frag) (neg : Bool) : R2 := fun x y H Q => ∃ p xs, y = .ref p ∧ (SqL K H p xs ∨ SqT K H p xs) ∧ flatV x = true ∧ xs.all flatV = true ∧ Q (.bl (if neg then !inV x xs else inV x xs)) H
theorem op_in_seq : OpR X (compareOp .In) (rIn X.K false) := by
  intro pins s σ H x y v u Q I rx ry h
  obtain ⟨p, xs, rfl, hq, fx, fs, q⟩ := h
  cases ry
  rcases hq with hq | hq
  · obtain ⟨its, r, pl, hz⟩ := I.list hq
    refine SeqAt.in_listAt (eqU x) pl.isList (fun w hw => mem_eqAt rx fx r fs w (by simpa using hw)) ⟨.bl _, H, I, rfl, ?_⟩
    rw [show its.toArray.any (eqU x) = its.any (eqU x) by simp, any_eqU r fs]
    exact q
  · obtain ⟨its, r, pl, hz⟩ := I.tuple hq
    refine SeqAt.in_tupleAt (eqU x) pl (fun w hw => mem_eqAt rx fx r fs w (by simpa using hw)) ⟨.bl _, H, I, rfl, ?_⟩
    rw [show its.toArray.any (eqU x) = its.any (eqU x) by simp, any_eqU r fs]
    exact q
theorem call_len_seq : CallR X (.builtin "len") (fun xs H Q => ∃ p ys, xs = [.ref p] ∧ (SqL X.K H p ys ∨ SqT X.K H p ys) ∧ Q (.int ys.length) H) := by
  intro pins s σ H xs us Q I r h
  obtain ⟨p, ys, rfl, hq, q⟩ := h
  obtain ⟨u, rfl, rx⟩ := vals1 r
  cases rx
  have hn := line63
  rcases hq with hq | hq
  · obtain ⟨its, r', pl, hz⟩ := I.list hq
    have hlen := r'.length
    exact Calls.call_len_list pl.isList (by simp only [List.size_toArray] <;> omega) ⟨.int ys.length, H, I.tok _, ⟨s.toks + 1, by rw [List.size_toArray, hlen]⟩, q⟩
  · obtain ⟨its, r', pl, hz⟩ := I.tuple hq
    have hlen := r'.length
    exact len_tuple pl (by simp only [List.size_toArray] <;> omega) ⟨.int ys.length, H, I.tok _, ⟨s.toks + 1, by rw [List.size_toArray, hlen]⟩, q⟩
theorem call_len_str : CallR X (.builtin "len") (fun xs H Q => ∃ z, xs = [.str z] ∧ z.length ≤ sizeLine ∧ Q (.int z.length) H) := by
  intro pins s σ H xs us Q I r h
  obtain ⟨z, rfl, hz, q⟩ := h
  obtain ⟨u, rfl, t, rfl⟩ := vals1 r
  have hn := line63
  exact len_str (by omega) ⟨.int z.length, H, I.tok _, ⟨_, rfl⟩, q⟩
def tyV (K : PySem.W.Frag) (T : String) (x : V) (H : Hp) : Prop := match x with
  | .str _ => T = "str"
  | .int _ => T = "int"
  | .ref p => (T = "list" ∧ ∃ xs, SqL K H p xs) ∨ (T = "tuple" ∧ ∃ o, K.lookup p = some o ∧ o.cls = .type "tuple" ∧ o.dict = none) ∨
      (T = "dict" ∧ ((∃ kvs, H p = some (.dK kvs)) ∨ ∃ kvs, H p = some (.dT kvs))) ∨ (T = "set" ∧ ∃ S n, H p = some (.set S n))
  | _ => False
theorem tyV_is {pins : List (Addr × Obj)} {σ : St} {H : Hp} {s : Shared} {T : String} {x : V} {v : Value} (I : Inv X pins σ H s) (r : RelV x v) (ty : tyV X.K T x H) :
    s.TypeIs v T ∧ ∀ a, v = .ref a → ∃ ob, s.heap.get? a = some ob ∧ ob.dict = none := by
  cases x with
  | str z =>
    obtain ⟨t, rfl⟩ := r
    cases (show T = "str" from ty)
    exact ⟨typeIs_str s z t, fun _ e => nomatch e⟩
  | int i =>
    obtain ⟨t, rfl⟩ := r
    cases (show T = "int" from ty)
    exact ⟨typeIs_int s i t, fun _ e => nomatch e⟩
  | ref p =>
    cases r
    rcases ty with ⟨rfl, xs, hq⟩ | ⟨rfl, o, hk, hc, hd⟩ | ⟨rfl, hk⟩ | ⟨rfl, S, n, hk⟩
    · obtain ⟨its, _, pl, _⟩ := I.list hq
      refine ⟨pl.isList.typeIs, fun a e => ?_⟩
      cases e
      obtain ⟨o, n, e, c, hd, _⟩ := pl
      exact ⟨o, e, hd⟩
    · refine ⟨⟨o, I.kIn p o hk, hc⟩, fun a e => ?_⟩
      cases e
      exact ⟨o, I.kIn _ o hk, hd⟩
    · have z : ∃ o, s.heap.get? p = some o ∧ o.ExactDict := by
        rcases hk with ⟨kvs, hk⟩ | ⟨kvs, hk⟩
        · obtain ⟨_, _, _, _, o, _, _, e, ex, _⟩ := I.hok p _ hk
          exact ⟨o, e, ex⟩
        · obtain ⟨_, _, _, _, o, _, _, e, ex, _⟩ := I.hok p _ hk
          exact ⟨o, e, ex⟩
      obtain ⟨o, e, ex⟩ := z
      refine ⟨⟨o, e, ex.1⟩, fun a e2 => ?_⟩
      cases e2
      exact ⟨o, e, ex.2.1⟩
    · obtain ⟨o, _, _, _, e, ex, _⟩ := I.hok p _ hk
      refine ⟨⟨o, e, ex.1⟩, fun a e2 => ?_⟩
      cases e2
      exact ⟨o, e, ex.2.1⟩
  | _ => exact False.elim ty
def tBM (K : PySem.W.Frag) (T : String) (r : V → List V → Hp → VK → Prop) (to : TE) (t : TA) : TE := fun σ H Q => to σ H fun x H1 => tyV K T x H1 ∧ t σ H1 fun xs H2 => r x xs H2 Q
variable {o e : Expr} {es : List Expr} {to : TE} {t : TA} {name : Str} {apos cpos : Pos} {T id : String} {r : V → List V → Hp → VK → Prop}
theorem pe_bm (pa : PlainAttrs T) (slot : Slot T name id) (hty : typeOf (.builtin id) = pure (.type "method_descriptor")) (hm : MtR X id r) (ho : PE X o to) (ha : PA X (e :: es) t)
    (hbase : attributeBase o name X.env (eval o X.env) = eval o X.env := by rfl)
    (hfew : ((backTo cpos (starEach (e :: es) X.env)).all (fun x => !x.1) && (backToKw cpos (keywordEach [] X.env)).all (fun x => x.1.isSome)
      && decide ((e :: es).length + ([] : List Keyword).length + (if ([] : List Keyword).isEmpty then 0 else 1) < 30)) = true := by rfl)
    (hline : (apos.endLine == cpos.line) = true := by rfl) (hs : starEach (e :: es) X.env = (false, eval e X.env) :: starEach es X.env := by rfl) (hplain : (backTo cpos (starEach es X.env)).any (·.1) = false := by rfl) :
    PE X (.Call (.Attribute o name apos) (e :: es) [] cpos) (tBM X.K T r to t) := by
  intro pins s σ H Q I h
  refine wpAny_Call_method_late hbase hfew hline rfl (thn (ho pins s σ H _ I h) fun v s1 ⟨x, H1, I1, r1, ty, q1⟩ => ?_)
  obtain ⟨h1, h2⟩ := tyV_is I1 r1 ty
  refine ⟨T, id, pa, slot, hty, h1, h2, ?_⟩
  have hA := ha cpos pins s1 σ H1 _ I1 q1
  rw [hs] at hA ⊢
  refine Calls.callWith_builtin (by show (false || (backTo cpos (starEach es X.env)).any (·.1)) = false; rw [hplain] <;> rfl) (Calls.evalArgs_plain ?_)
  exact thn hA fun us s2 ⟨vs, H2, I2, r2, q2⟩ => hm pins s2 σ H2 x vs v us Q I2 r1 r2 q2
end
end L2
namespace L2
open PySem PySem.Spec PyProof.Rows
variable {q0 : Bool}
def MtM (X : Cx) (id : String) (r : V → List V → Hp → VK → Prop) : Prop :=
  ∀ (pins : List (Addr × Obj)) (s : Shared) (σ : St) (H : Hp) (x : V) (xs : List V) (v : Value) (us : List Value) (Q : VK), Inv X pins σ H s → RelV x v → Vals xs us → r x xs H Q →
    wpAny (model X.prog X.w) X.A (call (.builtin id) (v :: us)) (EP X pins σ Q) X.xe s
theorem Vals.one : ∀ {x : V} {us : List Value}, Vals [x] us → ∃ u, us = [u] ∧ RelV x u
  | _, _, .cons r .nil => ⟨_, rfl, r⟩
theorem Vals.eraseIdx : ∀ {xs : List V} {us : List Value} (i : Nat), Vals xs us → Vals (xs.eraseIdx i) (us.eraseIdx i)
  | _, _, _, .nil => .nil
  | _, _, 0, .cons _ t => t
  | _, _, i + 1, .cons r t => .cons r (Vals.eraseIdx i t)
theorem len_erase {α : Type} : ∀ (l : List α) (i : Nat), (l.eraseIdx i).length ≤ l.length
  | [], _ => Nat.le_refl _
  | _ :: _, 0 => Nat.le_succ _
  | _ :: r, i + 1 => Nat.succ_le_succ (len_erase r i)
section
variable {X : Cx} {pins : List (Addr × Obj)} {σ : St} {H : Hp} {s : Shared} {l b : Addr} {xs ys zs : List V}
theorem Inv.lset {its its' : List Value} {n : Nat} {f : Array Value → Array Value} {t' : Nat} (I : Inv X pins σ H s) (hH : H l = some (.lst xs))
    (e : s.heap.get? l = some { cls := .type "list", data := .seq its.toArray n }) (hf : f its.toArray = its'.toArray) (hv : Vals ys its') (hz : ys.length ≤ sizeLine) :
    Inv X pins σ (upd H l (.lst ys)) { s with heap := s.heap.update l (Obj.mapSeq f), toks := t' } := by
  have q := PySem.IsL.update e f
  rw [hf] at q
  refine I.write (x := l) (e := l) (by rw [hH]; exact trivial) (.inl rfl) (fun b' u hb hu => (Heap.get?_update_other s.heap (Obj.mapSeq f) (Ne.symm hb)).trans hu) ⟨_, q⟩ ?_
  exact ⟨hz, its', _, hv, q⟩
theorem Inv.lnew {its : List Value} {t' : Nat} (I : Inv X pins σ H s) (hv : Vals ys its) (hz : ys.length ≤ sizeLine) :
    Inv X pins σ (upd H s.heap.objs.size (.lst ys)) { s with heap := s.heap.push { cls := .type "list", data := .seq its.toArray }, toks := t' } :=
  I.laid (fun _ _ q => Heap.get?_push_of_some _ q) (Nat.le_refl _) ⟨hz, its, 0, hv, Heap.get?_push_size _ rfl⟩
theorem Inv.fresh (I : Inv X pins σ H s) : H s.heap.objs.size = none := I.hok.fresh (Nat.le_refl _)
theorem Inv.lstM (I : Inv X pins σ H s) (hH : H l = some (.lst xs)) : xs.length ≤ sizeLine ∧ ∃ (its : List Value) (n : Nat), Vals xs its ∧ xs.length = its.length ∧ s.heap.get? l = some { cls := .type "list", data := .seq its.toArray n } := by
  obtain ⟨z, its, n, r, e⟩ := I.hok l _ hH
  exact ⟨z, its, n, r, r.length, e⟩
end
section
variable {X : Cx}
def rAppend : V → List V → Hp → VK → Prop := fun x vs H Q => ∃ l xs y, x = .ref l ∧ vs = [y] ∧ H l = some (.lst xs) ∧ xs.length < sizeLine ∧ Q .non (upd H l (.lst (xs ++ [y])))
theorem mt_append : MtM X "list.append" rAppend := by
  intro pins s σ H x vs v us Q I rx rv h
  obtain ⟨l, xs, y, rfl, rfl, hH, hz, q⟩ := h
  cases rx
  obtain ⟨u, rfl, ru⟩ := rv.one
  obtain ⟨z, its, n, r, hl, e⟩ := I.lstM hH
  refine call_meets F.slot_list_append ⟨_, e, rfl⟩ F.entry_list_append (F.args_list_append_2 _ _) (PySem.list_append l its.toArray n u (by rw [List.size_toArray]; omega)) ⟨e, ?_⟩
  refine ⟨.non, _, I.lset (its' := its ++ [u]) hH e (by simp) (r.append (.cons ru .nil)) ?_, rfl, q⟩
  rw [List.length_append, List.length_singleton]
  omega
def rPopAt : V → List V → Hp → VK → Prop := fun x vs H Q => ∃ l xs i k y, x = .ref l ∧ vs = [.int i] ∧ H l = some (.lst xs) ∧ -(2 ^ 63) ≤ i ∧ i < 2 ^ 63 ∧ seqIndex? i xs.length = some k ∧ xs[k]? = some y ∧ Q y (upd H l (.lst (xs.eraseIdx k)))
theorem mt_popAt : MtM X "list.pop" rPopAt := by
  intro pins s σ H x vs v us Q I rx rv h
  obtain ⟨l, xs, i, k, y, rfl, rfl, hH, h1, h2, hk, hy, q⟩ := h
  cases rx
  obtain ⟨u, rfl, ru⟩ := rv.one
  obtain ⟨t, rfl⟩ := ru
  obtain ⟨z, its, n, r, hl, e⟩ := I.lstM hH
  obtain ⟨w, hw, rw'⟩ := r.get hy
  refine call_meets F.slot_list_pop ⟨_, e, rfl⟩ F.entry_list_pop (F.args_list_pop_2 _ _)
    (MeetsSeq.list_pop_at l its.toArray n i t k w (fitsIndex_both h1 h2) (by rw [List.size_toArray, ← hl]; exact hk) (by rw [← Array.getElem?_toList]; exact hw) (by rw [List.size_toArray]; omega)) ⟨e, ?_⟩
  refine ⟨y, _, I.lset (its' := its.eraseIdx k) hH e ?_ (r.eraseIdx k) ?_, rw', q⟩
  · show its.toArray.eraseIdxIfInBounds k = (its.eraseIdx k).toArray
    rw [List.eraseIdxIfInBounds_toArray]
  · have := len_erase xs k
    omega
def rCat : R2 := fun x y H Q => ∃ l b xs zs, x = .ref l ∧ y = .ref b ∧ H l = some (.lst xs) ∧ H b = some (.lst zs) ∧ xs.length + zs.length ≤ sizeLine ∧ ∀ p, H p = none → Q (.ref p) (upd H p (.lst (xs ++ zs)))
theorem op_cat : OpR X (binaryOp .Add) rCat := by
  intro pins s σ H x y v u Q I rx ry h
  obtain ⟨l, b, xs, zs, rfl, rfl, hH, hB, hz, q⟩ := h
  cases rx
  cases ry
  obtain ⟨z, its, n, r, hl, e⟩ := I.lstM hH
  obtain ⟨z2, its2, n2, r2, hl2, e2⟩ := I.lstM hB
  refine PySem.P.add_list e e2 ?_ (by rw [List.size_toArray, List.size_toArray]; omega)
  have ea : its.toArray ++ its2.toArray = (its ++ its2).toArray := by simp
  rw [ea]
  exact ⟨.ref _, _, I.lnew (t' := s.toks) (r.append r2) (by rw [List.length_append]; omega), rfl, q _ I.fresh⟩
end
section
variable {prog : Program} {w : World} {A : Around} {E : Value → Shared → Prop} {s : Shared}
end
section
variable {X : Cx}
end
end L2
namespace L2
open PySem PySem.Spec PyProof.Rows
variable {q0 : Bool}
section
variable {κ : Type} [DecidableEq κ]
def valV (kvs : List (κ × V)) (k : κ) : Option V := (kvs.find? fun kv => decide (kv.1 = k)).map (·.2)
def putK (kvs : List (κ × V)) (k : κ) (v : V) : List (κ × V) :=
  if (kvs.any fun kv => decide (kv.1 = k)) = true then kvs.map (fun kv => if kv.1 = k then (kv.1, v) else kv) else kvs ++ [(k, v)]
theorem valV_pos {p : κ × V} {r : List (κ × V)} {k : κ} (e : p.1 = k) : valV (p :: r) k = some p.2 := by simp [valV, List.find?_cons, e]
theorem valV_neg {p : κ × V} {r : List (κ × V)} {k : κ} (e : ¬ p.1 = k) : valV (p :: r) k = valV r k := by simp [valV, List.find?_cons, e]
theorem valV_any (k : κ) : ∀ kvs : List (κ × V), (kvs.any fun kv => decide (kv.1 = k)) = (valV kvs k).isSome
  | [] => rfl
  | p :: r => by
    rw [List.any_cons]
    by_cases e : p.1 = k
    · simp only [valV_pos e, decide_eq_true e, Bool.true_or, Option.isSome_some]
    · rw [valV_neg e, decide_eq_false e, Bool.false_or]; exact valV_any k r
theorem valV_map (k j : κ) (y : V) : ∀ kvs : List (κ × V), valV (kvs.map fun kv => if kv.1 = k then (kv.1, y) else kv) j = (valV kvs j).map fun x => if j = k then y else x
  | [] => rfl
  | p :: r => by
    have ih := valV_map k j y r
    rw [List.map_cons]
    by_cases h : p.1 = k
    · rw [if_pos h]
      by_cases e : p.1 = j
      · rw [valV_pos (p := (p.1, y)) e, valV_pos e, Option.map_some, if_pos (e.symm.trans h)]
      · rw [valV_neg (p := (p.1, y)) e, valV_neg e, ih]
    · rw [if_neg h]
      by_cases e : p.1 = j
      · rw [valV_pos (p := p) e, valV_pos e, Option.map_some, if_neg (fun z => h (e.trans z))]
      · rw [valV_neg (p := p) e, valV_neg e, ih]
theorem valV_snoc (k j : κ) (y : V) : ∀ kvs : List (κ × V), valV kvs k = none → valV (kvs ++ [(k, y)]) j = if j = k then some y else valV kvs j
  | [], _ => by
    by_cases e : k = j
    · rw [if_pos e.symm]; exact valV_pos (p := (k, y)) e
    · rw [if_neg (fun z => e z.symm)]; exact valV_neg (p := (k, y)) e
  | p :: r, hn => by
    rw [List.cons_append]
    have hk : ¬ p.1 = k := fun z => by rw [valV_pos z] at hn; cases hn
    rw [valV_neg hk] at hn
    have ih := valV_snoc k j y r hn
    by_cases e : p.1 = j
    · rw [valV_pos e, valV_pos e, if_neg (fun z => hk (e.trans z))]
    · rw [valV_neg e, valV_neg e, ih]
theorem valV_put (kvs : List (κ × V)) (k j : κ) (y : V) : valV (putK kvs k y) j = if j = k then some y else valV kvs j := by
  unfold putK
  by_cases a : (kvs.any fun kv => decide (kv.1 = k)) = true
  · rw [if_pos a, valV_map]
    rw [valV_any] at a
    by_cases e : j = k
    · obtain ⟨x, hx⟩ := Option.isSome_iff_exists.mp a
      rw [if_pos e, e, hx, Option.map_some, if_pos rfl]
    · rw [if_neg e]
      cases valV kvs j with
      | none => rfl
      | some x => rw [Option.map_some, if_neg e]
  · rw [if_neg a]
    refine valV_snoc k j y kvs ?_
    rw [valV_any] at a
    cases q : valV kvs k with
    | none => rfl
    | some x => rw [q] at a; exact (a rfl).elim
theorem length_putK (kvs : List (κ × V)) (k : κ) (v : V) : (putK kvs k v).length ≤ kvs.length + 1 := by
  unfold putK
  split
  · rw [List.length_map]; omega
  · rw [List.length_append, List.length_cons, List.length_nil]; omega
theorem putK_new {kvs : List (κ × V)} {k : κ} (v : V) (h : valV kvs k = none) : putK kvs k v = kvs ++ [(k, v)] := by
  unfold putK
  rw [valV_any, h]
  exact if_neg (by decide)
theorem RelO.isSome_eq {o : Option V} {u : Option Value} (r : RelO o u) : o.isSome = u.isSome := by
  cases o with
  | none => cases u with
    | none => rfl
    | some _ => exact (show False from r).elim
  | some _ => cases u with
    | none => exact (show False from r).elim
    | some _ => rfl
theorem RelO.getD {o : Option V} {u : Option Value} {d : V} {d' : Value} (r : RelO o u) (rd : RelV d d') : RelV (o.getD d) (u.getD d') := by
  cases o with
  | none => cases u with
    | none => exact rd
    | some _ => exact (show False from r).elim
  | some _ => cases u with
    | none => exact (show False from r).elim
    | some _ => exact r
theorem KV.val {kvs : List (κ × V)} {vs : List (κ × Value)} (r : KV kvs vs) (k : κ) : RelO (valV kvs k) (valueAt vs k) := by
  unfold KV at r
  induction r with
  | nil => exact True.intro
  | @cons p q ps qs h t ih =>
    obtain ⟨h1, h2⟩ := h
    by_cases e : p.1 = k
    · have e' : q.1 = k := h1.symm.trans e
      have b : valueAt (q :: qs) k = some q.2 := by simp [valueAt, List.find?_cons, e']
      rw [valV_pos e, b]; exact h2
    · have e' : ¬ q.1 = k := fun z => e (h1.trans z)
      have b : valueAt (q :: qs) k = valueAt qs k := by simp [valueAt, List.find?_cons, e']
      rw [valV_neg e, b]; exact ih
theorem KV.any {kvs : List (κ × V)} {vs : List (κ × Value)} (r : KV kvs vs) (k : κ) : (kvs.any fun kv => decide (kv.1 = k)) = vs.any fun kv => decide (kv.1 = k) := by
  unfold KV at r
  induction r with
  | nil => rfl
  | cons h t ih => rw [List.any_cons, List.any_cons, ih, h.1]
theorem KV.repl {kvs : List (κ × V)} {vs : List (κ × Value)} (r : KV kvs vs) (k : κ) {y : V} {u : Value} (ry : RelV y u) :
    KV (kvs.map fun kv => if kv.1 = k then (kv.1, y) else kv) (vs.map fun kv => if kv.1 = k then (kv.1, u) else kv) := by
  unfold KV at r ⊢
  induction r with
  | nil => exact .nil
  | @cons p q ps qs h t ih =>
    rw [List.map_cons, List.map_cons]
    refine .cons ?_ ih
    obtain ⟨h1, h2⟩ := h
    by_cases e : p.1 = k
    · rw [if_pos e, if_pos (h1.symm.trans e)]; exact ⟨h1, ry⟩
    · rw [if_neg e, if_neg (fun z => e (h1.trans z))]; exact ⟨h1, h2⟩
theorem KV.put {kvs : List (κ × V)} {vs : List (κ × Value)} (r : KV kvs vs) (k : κ) {y : V} {u : Value} (ry : RelV y u) : KV (putK kvs k y) (stored vs k u) := by
  unfold putK stored
  rw [r.any k]
  by_cases e : (vs.any fun kv => decide (kv.1 = k)) = true
  · rw [if_pos e, if_pos e]; exact r.repl k ry
  · rw [if_neg e, if_neg e]; exact Paired.snoc r ⟨rfl, ry⟩
theorem KV.keys {kvs : List (κ × V)} {vs : List (κ × Value)} (r : KV kvs vs) : kvs.map (·.1) = vs.map (·.1) := by
  unfold KV at r
  induction r with
  | nil => rfl
  | cons h t ih => rw [List.map_cons, List.map_cons, ih, h.1]
theorem KV.length {kvs : List (κ × V)} {vs : List (κ × Value)} (r : KV kvs vs) : kvs.length = vs.length := Paired.length r
end
theorem kV_is {P : Program} {w : World} {k : Key} {u : Value} (r : RelV (kV k) u) : (mixKind P w).is k u = true := by
  cases k with
  | inl i => obtain ⟨t, e⟩ := (show ∃ t, u = Value.int i t from r); subst e; exact mixKind_int P w i t
  | inr x => obtain ⟨t, e⟩ := (show ∃ t, u = Value.str x t from r); subst e; exact mixKind_str P w x t
theorem items_are {P : Program} {w : World} : ∀ {ks : List Key} {us : List Value}, Vals (ks.map kV) us → ItemsAre (mixKind P w) ks us
  | [], _, r => by rw [List.map_nil] at r; cases r; exact .nil
  | k :: ks, _, r => by
    rw [List.map_cons] at r
    cases r with
    | cons h t => exact .cons (kV_is h) (items_are t)
abbrev KT (H : Hp) : List (List Key × V) → List (List Key × Addr × Value) → Prop := Paired fun p q => p.1 = q.1 ∧ H q.2.1 = some (.tup (p.1.map kV)) ∧ RelV p.2 q.2.2
theorem KT.val {H : Hp} {kvs : List (List Key × V)} {xs : List (List Key × Addr × Value)} (r : KT H kvs xs) (k : List Key) : RelO (valV kvs k) ((atKey xs k).map (·.2)) := by
  induction r with
  | nil => exact True.intro
  | @cons p q ps qs h t ih =>
    obtain ⟨h1, _, h2⟩ := h
    by_cases e : p.1 = k
    · have e' : q.1 = k := h1.symm.trans e
      have b : atKey (q :: qs) k = some q.2 := by simp [atKey, List.find?_cons, e']
      rw [valV_pos e, b]; exact h2
    · have e' : ¬ q.1 = k := fun z => e (h1.trans z)
      have b : atKey (q :: qs) k = atKey qs k := by simp [atKey, List.find?_cons, e']
      rw [valV_neg e, b]; exact ih
theorem KT.repl {H : Hp} {kvs : List (List Key × V)} {xs : List (List Key × Addr × Value)} (r : KT H kvs xs) (k : List Key) {y : V} {u : Value} (ry : RelV y u) :
    KT H (kvs.map fun kv => if kv.1 = k then (kv.1, y) else kv) (xs.map (putAt k u)) := by
  induction r with
  | nil => exact .nil
  | @cons p q ps qs h t ih =>
    rw [List.map_cons, List.map_cons]
    refine .cons ?_ ih
    obtain ⟨h1, h2, h3⟩ := h
    unfold putAt
    by_cases e : p.1 = k
    · rw [if_pos e, if_pos (h1.symm.trans e)]; exact ⟨h1, h2, ry⟩
    · rw [if_neg e, if_neg (fun z => e (h1.trans z))]; exact ⟨h1, h2, h3⟩
theorem KT.put {H : Hp} {kvs : List (List Key × V)} {xs : List (List Key × Addr × Value)} (r : KT H kvs xs) (k : List Key) {b : Addr} {y : V} {u : Value} (hb : H b = some (.tup (k.map kV))) (ry : RelV y u) :
    KT H (putK kvs k y) (storedH xs k b u) := by
  have e : (kvs.any fun kv => decide (kv.1 = k)) = (atKey xs k).isSome := by
    rw [valV_any, (r.val k).isSome_eq, Option.isSome_map]
  unfold putK storedH
  rw [e]
  by_cases q : (atKey xs k).isSome = true
  · rw [if_pos q, if_pos q]; exact r.repl k ry
  · rw [if_neg q, if_neg q]; exact Paired.snoc r ⟨rfl, hb, ry⟩
theorem KT.keeps {H H' : Hp} {kvs : List (List Key × V)} {xs : List (List Key × Addr × Value)} (r : KT H kvs xs) (ht : ∀ b ys, H b = some (.tup ys) → H' b = some (.tup ys)) : KT H' kvs xs :=
  Paired.mapP r fun _ _ z => ⟨z.1, ht _ _ z.2.1, z.2.2⟩
section
variable {P : Program} {w : World} {H : Hp} {h : Heap} {a : Addr}
theorem rd_of {u : HO} (ok : HOk P w H h) (e : Rd H a u) : ObjOk P w H h a u := e.ok ok
theorem dk_rd {kvs : List (Key × V)} (ok : HOk P w H h) (e : Rd H a (.dK kvs)) : kvs.length ≤ sizeLine ∧ (a == sysModules) = false ∧ ∃ vs, KV kvs vs ∧ h.DictOf (mixKind P w) a vs :=
  show ObjOk P w H h a (.dK kvs) from rd_of ok e
theorem dk_of {kvs : List (Key × V)} (ok : HOk P w H h) (e : H a = some (.dK kvs)) : kvs.length ≤ sizeLine ∧ (a == sysModules) = false ∧ ∃ vs, KV kvs vs ∧ h.DictOf (mixKind P w) a vs := dk_rd ok (.inl e)
theorem key_of {ks : List Key} (ok : HOk P w H h) (e : H a = some (.tup (ks.map kV))) : (tupleKind (mixKind P w)).is h ks a := by
  obtain ⟨_, its, r, o, h1, h2, n, h3⟩ := (show ObjOk P w H h a (.tup (ks.map kV)) from ok a _ e)
  exact ⟨o, its.toArray, n, h1, h2, h3, by simpa using items_are r⟩
theorem dt_rd {kvs : List (List Key × V)} (ok : HOk P w H h) (e : Rd H a (.dT kvs)) : kvs.length ≤ sizeLine ∧ (a == sysModules) = false ∧
    ∃ xs, KT H kvs xs ∧ h.DictOfH (tupleKind (mixKind P w)) a xs := by
  obtain ⟨z, y, xs, r, o, es, ep, h1, h2, h3, h4, h5⟩ := (show ObjOk P w H h a (.dT kvs) from rd_of ok e)
  refine ⟨z, y, xs, r, o, es, ep, h1, h2, h3, h4, fun x hx => ?_, h5⟩
  have all : ∀ {l : List (List Key × V)} {m : List (List Key × Addr × Value)}, KT H l m → ∀ x ∈ m, (tupleKind (mixKind P w)).is h x.1 x.2.1 := by
    intro l m q
    induction q with
    | nil => intro x hx; exact nomatch hx
    | @cons p q ps qs hq t ih =>
      intro x hx
      rcases List.mem_cons.mp hx with e | hx
      · subst e
        exact key_of ok (by rw [← hq.1]; exact hq.2.1)
      · exact ih x hx
  exact all r x hx
theorem dt_of {kvs : List (List Key × V)} (ok : HOk P w H h) (e : H a = some (.dT kvs)) : kvs.length ≤ sizeLine ∧ (a == sysModules) = false ∧
    ∃ xs, KT H kvs xs ∧ h.DictOfH (tupleKind (mixKind P w)) a xs := dt_rd ok (.inl e)
end
def DGet (H : Hp) (a : Addr) (y : V) (r : Option V) : Prop :=
  (∃ kvs k, Rd H a (.dK kvs) ∧ y = kV k ∧ r = valV kvs k) ∨ ∃ kvs k b, Rd H a (.dT kvs) ∧ y = .ref b ∧ H b = some (.tup (k.map kV)) ∧ r = valV kvs k
def DPut (H : Hp) (a : Addr) (y v : V) (H' : Hp) : Prop :=
  (∃ kvs k, H a = some (.dK kvs) ∧ y = kV k ∧ kvs.length < sizeLine ∧ H' = upd H a (.dK (putK kvs k v))) ∨
  ∃ kvs k b, H a = some (.dT kvs) ∧ y = .ref b ∧ H b = some (.tup (k.map kV)) ∧ kvs.length < sizeLine ∧ H' = upd H a (.dT (putK kvs k v))
theorem DGet.k {H : Hp} {a : Addr} {kvs : List (Key × V)} {k : Key} (e : H a = some (.dK kvs)) : DGet H a (kV k) (valV kvs k) := .inl ⟨kvs, k, .inl e, rfl, rfl⟩
theorem DGet.t {H : Hp} {a b : Addr} {kvs : List (List Key × V)} {k : List Key} (e : H a = some (.dT kvs)) (eb : H b = some (.tup (k.map kV))) : DGet H a (.ref b) (valV kvs k) := .inr ⟨kvs, k, b, .inl e, rfl, eb, rfl⟩
theorem DPut.k {H : Hp} {a : Addr} {kvs : List (Key × V)} {k : Key} {v : V} (e : H a = some (.dK kvs)) (hl : kvs.length < sizeLine) : DPut H a (kV k) v (upd H a (.dK (putK kvs k v))) := .inl ⟨kvs, k, e, rfl, hl, rfl⟩
theorem DPut.t {H : Hp} {a b : Addr} {kvs : List (List Key × V)} {k : List Key} {v : V} (e : H a = some (.dT kvs)) (eb : H b = some (.tup (k.map kV))) (hl : kvs.length < sizeLine) :
    DPut H a (.ref b) v (upd H a (.dT (putK kvs k v))) := .inr ⟨kvs, k, b, e, rfl, eb, hl, rfl⟩
section
variable {X : Cx} {pins : List (Addr × Obj)} {σ : St} {H : Hp} {s : Shared} {a : Addr} {y v : V} {u r : Value} {o : Option V} {A : Around} {E : Value → Shared → Prop}
theorem Inv.big (I : Inv X pins σ H s) : sysModules < s.heap.objs.size := by
  have h : mainGlobals < s.heap.objs.size := (I.mod.glob.keeps I.bk).lt
  exact Nat.lt_trans (by decide) h
theorem d_getItem {Q : Value → Shared → Prop} (hu : A.units + 1 < cLine) (I : Inv X pins σ H s) (g : DGet H a y (some v)) (ry : RelV y u) (h : ∀ w' s', Inv X pins σ H s' → RelV v w' → Q w' s') :
    wpAny (model X.prog X.w) A (getItem (.ref a) u) Q E s := by
  rcases g with ⟨kvs, k, e, ey, l⟩ | ⟨kvs, k, b, e, ey, eb, l⟩
  · subst ey
    obtain ⟨z, hd, vs, rel, dd⟩ := dk_rd I.hok e
    obtain ⟨w', hw, rw'⟩ := RelO.some_of (v := v) (o := valueAt vs k) (by rw [l]; exact rel.val k)
    exact wpAny_getItem_of (kV_is ry) dd.mapOf hw (h w' _ (I.tok _) rw')
  · subst ey
    cases (show u = Value.ref b from ry)
    obtain ⟨z, hd, xs, rel, dd⟩ := dt_rd I.hok e
    obtain ⟨w', hw, rw'⟩ := RelO.some_of (v := v) (o := (atKey xs k).map (·.2)) (by rw [l]; exact rel.val k)
    obtain ⟨p, hp, hp2⟩ := Option.map_eq_some_iff.mp hw
    refine wpAny_getItem_heap (tupleKind_room_in1 hu) (key_of I.hok eb) dd hp ?_
    rw [hp2]
    exact h w' _ (I.tok _) rw'
theorem d_in {Q : Value → Shared → Prop} (hu : A.units + 1 < cLine) (I : Inv X pins σ H s) (g : DGet H a y o) (ry : RelV y u) (h : ∀ s', Inv X pins σ H s' → Q (.bool o.isSome) s') :
    wpAny (model X.prog X.w) A (compareOp .In u (.ref a)) Q E s := by
  rcases g with ⟨kvs, k, e, ey, l⟩ | ⟨kvs, k, b, e, ey, eb, l⟩
  · subst ey
    obtain ⟨z, hd, vs, rel, dd⟩ := dk_rd I.hok e
    refine wpAny_in_of (kV_is ry) hd dd.mapOf ?_
    rw [← (rel.val k).isSome_eq, ← l]
    exact h _ (I.tok _)
  · subst ey
    cases (show u = Value.ref b from ry)
    obtain ⟨z, hd, xs, rel, dd⟩ := dt_rd I.hok e
    refine wpAny_in_heap (tupleKind_room_in1 hu) (key_of I.hok eb) hd dd ?_
    have q := (rel.val k).isSome_eq
    rw [Option.isSome_map] at q
    rw [← q, ← l]
    exact h _ (I.tok _)
theorem d_notIn {Q : Value → Shared → Prop} (hu : A.units + 1 < cLine) (I : Inv X pins σ H s) (g : DGet H a y o) (ry : RelV y u) (h : ∀ s', Inv X pins σ H s' → Q (.bool (!o.isSome)) s') :
    wpAny (model X.prog X.w) A (compareOp .NotIn u (.ref a)) Q E s := by
  rcases g with ⟨kvs, k, e, ey, l⟩ | ⟨kvs, k, b, e, ey, eb, l⟩
  · subst ey
    obtain ⟨z, hd, vs, rel, dd⟩ := dk_rd I.hok e
    refine wpAny_notIn_of (kV_is ry) hd dd.mapOf ?_
    rw [← (rel.val k).isSome_eq, ← l]
    exact h _ (I.tok _)
  · subst ey
    cases (show u = Value.ref b from ry)
    obtain ⟨z, hd, xs, rel, dd⟩ := dt_rd I.hok e
    refine wpAny_notIn_heap (tupleKind_room_in1 hu) (key_of I.hok eb) hd dd ?_
    have q := (rel.val k).isSome_eq
    rw [Option.isSome_map] at q
    rw [← q, ← l]
    exact h _ (I.tok _)
theorem d_write {h' : Heap} {t' : Nat} {ob : HO} (I : Inv X pins σ H s) (mu : Mut (H a)) (hs : Heap.SameBut a s.heap h') (he : ∃ q, h'.get? a = some q) (new : ObjOk X.prog X.w (upd H a ob) h' a ob) :
    Inv X pins σ (upd H a ob) { s with heap := h', toks := t' } :=
  I.write (x := a) (e := a) mu (.inl rfl) (fun b q hb z => (hs.2 b hb).trans z) he new
theorem dk_new {P : Program} {w : World} {H' : Hp} {h' : Heap} {kvs : List (Key × V)} {vs : List (Key × Value)} (z : kvs.length ≤ sizeLine) (hd : (a == sysModules) = false) (rel : KV kvs vs) (dd : h'.DictOf (mixKind P w) a vs) :
    ObjOk P w H' h' a (.dK kvs) := ⟨z, hd, vs, rel, dd⟩
theorem d_setItem {H' : Hp} {Q : Unit → Shared → Prop} (hu : A.units + 1 < cLine) (I : Inv X pins σ H s) (g : DPut H a y v H') (ry : RelV y u) (rv : RelV v r) (h : ∀ s', Inv X pins σ H' s' → Q () s') :
    wpAny (model X.prog X.w) A (setItem (.ref a) u r) Q E s := by
  rcases g with ⟨kvs, k, e, ey, l, eH⟩ | ⟨kvs, k, b, e, ey, eb, l, eH⟩
  · subst ey eH
    obtain ⟨z, hd, vs, rel, dd⟩ := dk_of I.hok e
    have hz : vs.length ≤ sizeLine := by rw [← rel.length]; exact z
    have hl : (putK kvs k v).length ≤ sizeLine := by have := length_putK kvs k v; omega
    refine wpAny_setItem_pairs (hsz := hz) (kV_is ry) dd fun h' dd' hs => h _ ?_
    have he : ∃ q, h'.get? a = some q := let ⟨q, _, _, hq, _⟩ := dd'; ⟨q, hq⟩
    exact d_write I (by rw [e]; exact True.intro) hs he (dk_new hl hd (rel.put k rv) dd')
  · subst ey eH
    cases (show u = Value.ref b from ry)
    obtain ⟨z, hd, xs, rel, dd⟩ := dt_of I.hok e
    have hz : xs.length ≤ sizeLine := by rw [← Paired.length rel]; exact z
    have hl : (putK kvs k v).length ≤ sizeLine := by have := length_putK kvs k v; omega
    refine wpAny_setItem_heap (hsz := hz) (tupleKind_room_in1 hu) (key_of I.hok eb) dd fun h' dd' hs => h _ ?_
    obtain ⟨q, es, ep, hq, h2, h3, h4, _, h5⟩ := dd'
    refine d_write I (by rw [e]; exact True.intro) hs ⟨q, hq⟩ ⟨hl, hd, _, (rel.put k eb rv).keeps fun c ys ec => ?_, q, es, ep, hq, h2, h3, h4, h5⟩
    rw [upd_ne (ne_of ec e (fun z => nomatch z))]
    exact ec
end
section
variable {X : Cx} {pins : List (Addr × Obj)} {σ : St} {H : Hp} {s : Shared} {a : Addr} {kvs : List (Key × V)} {k : Key} {u : Value} {A : Around} {E : Value → Shared → Prop}
theorem d_len {Q : Value → Shared → Prop} (I : Inv X pins σ H s) (e : Rd H a (.dK kvs)) (h : ∀ t s', Inv X pins σ H s' → Q (.int kvs.length t) s') : wpAny (model X.prog X.w) A (call (.builtin "len") [.ref a]) Q E s := by
  obtain ⟨z, hd, vs, rel, dd⟩ := dk_rd I.hok e
  refine call_len_dict hd dd (by rw [← rel.length]; rw [sizeLine_eq] at z; omega) ?_
  rw [← rel.length]
  exact h _ _ (I.tok _)
end
def NoSl (i : Expr) : Prop := ∀ ov iv, subscripted i false ov iv = operate [ov, iv] (getItem ov iv)
theorem subD_of {prog : Program} {w : World} {A : Around} {E : Value → Shared → Prop} {s : Shared} {env : Env} {value slice : Expr} {pos : Pos} {T id : String} {Q : Value → Shared → Prop}
    (hl : typeLookup (.type T) "__getitem__" = pure (some (.builtin id))) (hs : NoSl slice)
    (h : wpAny (model prog w) A (eval value env) (fun o s₁ => wpAny (model prog w) A (eval slice env) (fun i s₂ => s₂.TypeIs o T ∧ wpAny (model prog w) A (getItem o i) Q E s₂) E s₁) E s) :
    wpAny (model prog w) A (eval (.Subscript value slice pos) env) Q E s := by
  refine Subscript_ (wpAny_mono h (fun o s₁ h₁ => wpAny_mono h₁ (fun i s₂ h₂ => ?_) fun _ _ x => x) fun _ _ x => x)
  obtain ⟨hT, h₂⟩ := h₂
  unfold subscriptTail
  refine wpAny_bind ?_
  rw [getitemInPython_of_ne hT.not_modules]
  refine wpAny_bind (wpAny_specialOf hT hl ?_)
  have fin : wpAny (model prog w) A (subscripted slice false o i) (fun r s₃ => wpAny (model prog w) A (letTemporaryGo value o r >>= fun _ => pure r) Q E s₃) E s₂ := by
    rw [hs o i]
    exact wpAny_operating (wpAny_mono h₂ (fun r s₃ h₃ => wpAny_bind (wpAny_letTemporaryGo (wpAny_pure h₃))) fun _ _ x => x)
  first
    | exact wpAny_pure (wpAny_bind fin)
    | exact wpAny_bind (wpAny_pure (wpAny_bind fin))
    | exact wpAny_bind fin
theorem dict_typeIs {X : Cx} {pins : List (Addr × Obj)} {σ : St} {H : Hp} {s : Shared} {a : Addr} {y : V} {o : Option V} (I : Inv X pins σ H s) (g : DGet H a y o) : s.TypeIs (.ref a) "dict" := by
  rcases g with ⟨kvs, k, e, _, _⟩ | ⟨kvs, k, b, e, _, _, _⟩
  · obtain ⟨_, _, vs, _, dd⟩ := dk_rd I.hok e
    exact dd.typeIs
  · obtain ⟨_, _, xs, _, dd⟩ := dt_rd I.hok e
    exact dd.typeIs
def tDGet (td ty : TE) : TE := fun σ H Q => td σ H fun x H1 => ty σ H1 fun y H2 => ∃ a v, x = .ref a ∧ DGet H2 a y (some v) ∧ Q v H2
def tDIn (ty td : TE) : TE := fun σ H Q => ty σ H fun y H1 => td σ H1 fun x H2 => ∃ a o, x = .ref a ∧ DGet H2 a y o ∧ Q (.bl o.isSome) H2
def tDNotIn (ty td : TE) : TE := fun σ H Q => ty σ H fun y H1 => td σ H1 fun x H2 => ∃ a o, x = .ref a ∧ DGet H2 a y o ∧ Q (.bl (!o.isSome)) H2
def sDPut (td ty tv : TE) : TS := fun D σ H => tv σ H fun v H1 => td σ H1 fun x H2 => ty σ H2 fun y H3 => ∃ a H4, x = .ref a ∧ DPut H3 a y v H4 ∧ D.nx σ H4
section
variable {X : Cx} {o i e value : Expr} {pos pos' tpos : Pos} {td ty tv : TE}
theorem pe_dget (hu : X.A.units + 1 < cLine) (ho : PE X o td) (hi : PE X i ty) (hs : NoSl i) : PE X (.Subscript o i pos) (tDGet td ty) := by
  intro pins s σ H Q I h
  refine subD_of PySem.F.slot_dict_getitem.lookup hs (thn (ho pins s σ H _ I h) fun u s1 ⟨x, H1, I1, rx, q1⟩ => thn (hi pins s1 σ H1 _ I1 q1) fun iv s2 ⟨y, H2, I2, ry, a, v, ex, g, q2⟩ => ?_)
  subst ex
  obtain rfl : u = Value.ref a := rx
  exact ⟨dict_typeIs I2 g, d_getItem hu I2 g ry fun w' s3 I3 rw' => ⟨v, H2, I3, rw', q2⟩⟩
theorem pc_din (hu : X.A.units + 1 < cLine) (hi : PE X i ty) (ho : PE X o td) : PC X .In i o (tDIn ty td) := by
  intro pins s σ H Q I h
  refine thn (hi pins s σ H _ I h) fun iv s1 ⟨y, H1, I1, ry, q1⟩ => thn (ho pins s1 σ H1 _ I1 q1) fun u s2 ⟨x, H2, I2, rx, a, ov, ex, g, q2⟩ => ?_
  subst ex
  obtain rfl : u = Value.ref a := rx
  exact d_in hu I2 g ry fun s3 I3 => ⟨.bl ov.isSome, H2, I3, rfl, q2⟩
theorem pc_dnotin (hu : X.A.units + 1 < cLine) (hi : PE X i ty) (ho : PE X o td) : PC X .NotIn i o (tDNotIn ty td) := by
  intro pins s σ H Q I h
  refine thn (hi pins s σ H _ I h) fun iv s1 ⟨y, H1, I1, ry, q1⟩ => thn (ho pins s1 σ H1 _ I1 q1) fun u s2 ⟨x, H2, I2, rx, a, ov, ex, g, q2⟩ => ?_
  subst ex
  obtain rfl : u = Value.ref a := rx
  exact d_notIn hu I2 g ry fun s3 I3 => ⟨.bl (!ov.isSome), H2, I3, rfl, q2⟩
theorem ps_dput (hu : X.A.units + 1 < cLine) (ho : PE X o td) (hi : PE X i ty) (hv : PE X value tv) (hs : swapsWith value (some (.Subscript o i pos')) pos.line X.env = pure false) :
    PS X (.Assign [.Subscript o i pos'] value pos) (sDPut td ty tv) := by
  intro pins s σ H D I h
  refine wpAny_Assign_Subscript (thn (hv pins s σ H _ I h) fun r s1 ⟨v, H1, I1, rv, q1⟩ => thn (ho pins s1 σ H1 _ I1 q1) fun u s2 ⟨x, H2, I2, rx, q2⟩ => thn (hi pins s2 σ H2 _ I2 q2) fun iv s3 ⟨y, H3, I3, ry, a, H4, ex, g, q3⟩ => ?_) hs
  subst ex
  obtain rfl : u = Value.ref a := rx
  exact d_setItem hu I3 g ry rv fun s4 I4 => ⟨σ, H4, I4, q3⟩
end
theorem dk_empty {P : Program} {w : World} {H : Hp} (h : Heap) (hb : sysModules < h.objs.size) : ObjOk P w H (h.push { cls := .type "dict", data := .dict #[] }) h.objs.size (.dK []) :=
  ⟨Nat.zero_le _, beq_eq_false_iff_ne.mpr (Ne.symm (Nat.ne_of_lt hb)), [], .nil, Heap.DictOf.new h⟩
theorem dt_empty {P : Program} {w : World} {H : Hp} (h : Heap) (hb : sysModules < h.objs.size) : ObjOk P w H (h.push { cls := .type "dict", data := .dict #[] }) h.objs.size (.dT []) :=
  ⟨Nat.zero_le _, beq_eq_false_iff_ne.mpr (Ne.symm (Nat.ne_of_lt hb)), [], .nil, _, #[], 0, Heap.get?_push_size _ rfl, ⟨rfl, rfl, rfl⟩, rfl, rfl, List.nodup_nil⟩
def tDNewK : TE := fun _ H Q => ∀ p, H p = none → Q (.ref p) (upd H p (.dK []))
def tDNewT : TE := fun _ H Q => ∀ p, H p = none → Q (.ref p) (upd H p (.dT []))
section
variable {X : Cx} {pos : Pos}
theorem pe_dnewK : PE X (.Dict [] [] pos) tDNewK := fun pins s σ H Q I h =>
  wpAny_Dict_empty ⟨.ref s.heap.objs.size, _, I.laid (a := s.heap.objs.size) (o := .dK []) (t' := s.toks) (fun _ _ q => Heap.get?_push_of_some _ q) (Nat.le_refl _) (dk_empty s.heap I.big), rfl, h _ (I.hok.fresh (Nat.le_refl _))⟩
theorem pe_dnewT : PE X (.Dict [] [] pos) tDNewT := fun pins s σ H Q I h =>
  wpAny_Dict_empty ⟨.ref s.heap.objs.size, _, I.laid (a := s.heap.objs.size) (o := .dT []) (t' := s.toks) (fun _ _ q => Heap.get?_push_of_some _ q) (Nat.le_refl _) (dt_empty s.heap I.big), rfl, h _ (I.hok.fresh (Nat.le_refl _))⟩
end
structure M1 (X : Cx) (o : Expr) (m : Str) (apos : Pos) (e : Expr) (cpos : Pos) : Prop where
  base : attributeBase o m X.env (eval o X.env) = eval o X.env
  few : ((backTo cpos (starEach [e] X.env)).all (fun x => !x.1) && (backToKw cpos (keywordEach [] X.env)).all (fun x => x.1.isSome)
    && decide (([e] : List Expr).length + ([] : List Keyword).length + (if ([] : List Keyword).isEmpty then 0 else 1) < 30)) = true
  line : (apos.endLine == cpos.line) = true
  trees : backTo cpos (starEach [e] X.env) = [(false, eval e X.env)]
def IsD (H : Hp) (a : Addr) : Prop := (∃ kvs, Rd H a (.dK kvs)) ∨ ∃ kvs, Rd H a (.dT kvs)
theorem isD_at {X : Cx} {pins : List (Addr × Obj)} {σ : St} {H : Hp} {s : Shared} {a : Addr} (I : Inv X pins σ H s) (d : IsD H a) :
    s.TypeIs (.ref a) "dict" ∧ (∀ b, Value.ref a = .ref b → ∃ ob, s.heap.get? b = some ob ∧ ob.dict = none) ∧ (a == sysModules) = false := by
  rcases d with ⟨kvs, e⟩ | ⟨kvs, e⟩
  · obtain ⟨_, hd, vs, _, dd⟩ := dk_rd I.hok e
    refine ⟨dd.typeIs, fun b q => ?_, hd⟩
    cases q
    obtain ⟨ob, _, _, h1, h2, _⟩ := dd
    exact ⟨ob, h1, h2.2.1⟩
  · obtain ⟨_, hd, xs, _, dd⟩ := dt_rd I.hok e
    refine ⟨dd.typeIs, fun b q => ?_, hd⟩
    cases q
    obtain ⟨ob, _, _, h1, h2, _⟩ := dd
    exact ⟨ob, h1, h2.2.1⟩
section
variable {X : Cx} {pins : List (Addr × Obj)} {σ : St} {H : Hp} {s : Shared} {a : Addr} {y d : V} {u r : Value} {o : Option V} {A : Around} {E : Value → Shared → Prop}
theorem d_get1 {Q : Value → Shared → Prop} (hu : A.units + 1 < cLine) (I : Inv X pins σ H s) (g : DGet H a y o) (ry : RelV y u) (h : ∀ w' s', Inv X pins σ H s' → RelV (o.getD .non) w' → Q w' s') :
    wpAny (model X.prog X.w) A (call (.builtin "dict.get") [.ref a, u]) Q E s := by
  rcases g with ⟨kvs, k, e, ey, l⟩ | ⟨kvs, k, b, e, ey, eb, l⟩
  · subst ey
    obtain ⟨z, hd, vs, rel, dd⟩ := dk_rd I.hok e
    refine call_meetsIn PySem.F.slot_dict_get dd.typeIs PySem.F.entry_dict_get (PySem.F.args_dict_get_2 _ _) (meets_dict_get (mixKind X.prog X.w) a (kV_is ry) hd) ⟨_, dd.mapOf, h _ _ (I.tok _) ?_⟩
    rw [l]
    exact (rel.val k).getD rfl
  · subst ey
    cases (show u = Value.ref b from ry)
    obtain ⟨z, hd, xs, rel, dd⟩ := dt_rd I.hok e
    refine call_meetsIn PySem.F.slot_dict_get dd.typeIs PySem.F.entry_dict_get (PySem.F.args_dict_get_2 _ _) (meetsH_dict_get (tupleKind (mixKind X.prog X.w)) a b hd) ⟨tupleKind_room_in1 hu, k, xs, key_of I.hok eb, dd, h _ _ (I.tok _) ?_⟩
    rw [l]
    exact (rel.val k).getD rfl
end
def tDGet1 (td ty : TE) : TE := fun σ H Q => td σ H fun x H1 => ∃ a, x = .ref a ∧ IsD H1 a ∧ ty σ H1 fun y H2 => ∃ o, DGet H2 a y o ∧ Q (o.getD .non) H2
section
variable {X : Cx} {o e f : Expr} {apos cpos : Pos} {td ty tx : TE}
theorem pe_dget1 (hu : X.A.units + 1 < cLine) (ho : PE X o td) (he : PE X e ty) (m : M1 X o "get" apos e cpos) : PE X (.Call (.Attribute o "get" apos) [e] [] cpos) (tDGet1 td ty) := by
  intro pins s σ H Q I h
  refine wpAny_Call_method m.base m.few m.line PySem.F.plainAttrs_dict PySem.F.slot_dict_get PySem.F.type_dict_get (thn (ho pins s σ H _ I h) fun u s1 ⟨x, H1, I1, rx, a, ex, d, q1⟩ => ?_)
  subst ex
  obtain rfl : u = Value.ref a := rx
  obtain ⟨t1, t2, _⟩ := isD_at I1 d
  refine ⟨t1, t2, ?_⟩
  rw [m.trees]
  refine Calls.callWith_builtin rfl (Calls.evalArgs_plain (Calls.spliced_cons (thn (he pins s1 σ H1 _ I1 q1) fun iv s2 ⟨y, H2, I2, ry, ov, g, q2⟩ => Calls.spliced_nil ?_)))
  exact d_get1 hu I2 g ry fun w' s3 I3 rw' => ⟨_, H2, I3, rw', q2⟩
end
section
variable {X : Cx} {pins : List (Addr × Obj)} {σ : St} {H : Hp} {s : Shared} {a : Addr} {kvs : List (Key × V)} {A : Around} {E : Value → Shared → Prop}
end
section
variable {X : Cx} {pins : List (Addr × Obj)} {σ : St} {H : Hp} {s : Shared} {a : Addr} {y : V} {u : Value} {A : Around} {E : Value → Shared → Prop}
end
end L2
namespace Att
open PySem PySem.W PySem.Calls PyProof.Rows
theorem ints_of_wellAll {P : Params} {h : Heap} : ∀ (ns : List Int) (vs : List Value), WellAll P h vs (ns.map WData.int) → IntsAre vs ns := by
  intro ns
  induction ns with
  | nil =>
    intro vs w
    rw [List.map_nil] at w
    cases w
    exact .nil
  | cons n ns ih =>
    intro vs w
    rw [List.map_cons] at w
    cases w with
    | cons a b =>
      cases a
      exact .cons _ _ (ih _ b)
theorem script_of {l : OpenLaw} {n : Nat} (hn : l.most = some n) {P : Params} {h : Heap} {args : List WData} {vals : List Value}
    (hpre : l.row.toRowW.claim.pre args = true) (hwl : WellAll P h vals args) :
    ∃ a vs ns, vals = [Value.ref a] ∧ args = [WData.list (ns.map WData.int)] ∧ h.get? a = some { cls := .type "list", data := .seq vs.toArray } ∧ IntsAre vs ns ∧ ns.length ≤ n := by
  have hsh : WShape.hasAll [] args [.list .int] = true := (pre_splitW hpre).1
  have hc : l.pre.holds [] { args := args } = true := (pre_splitW hpre).2
  obtain ⟨d, r, rfl, h1, h2⟩ := hasAllW_cons hsh
  obtain rfl := hasAllW_nil h2
  obtain ⟨xs, rfl, h3⟩ := hasW_list h1
  obtain ⟨ns, rfl⟩ := items_int h3
  have hlen : ns.length ≤ n := by
    unfold OpenLaw.pre at hc
    have h4 : (WTm.not (.lt (.lit (.int (n : Int))) (.len (.arg 0)))).holds [] { args := [.list (ns.map .int)] } = true := by
      have h4 := (holds_andW hc).1
      rw [hn] at h4
      exact h4
    have h5 := condW_of h4 (w_not (w_lt w_lit (w_len_list (w_arg rfl))))
    rw [List.length_map] at h5
    refine Nat.le_of_not_lt fun q => ?_
    have q' : (n : Int) < ((ns.length : Nat) : Int) := by omega
    first
      | (rw [decide_eq_true q'] at h5; exact absurd h5 (by decide))
      | (simp at h5; omega)
  cases hwl with
  | cons w1 w2 =>
    cases w2
    cases w1 with
    | list ho hall => exact ⟨_, _, ns, rfl, rfl, ho, ints_of_wellAll ns _ hall, hlen⟩
theorem post_true (l : OpenLaw) (args : List WData) : l.row.toRowW.claim.post args (.bool true) args = true :=
  postW_of (r := l.row.toRowW) (X := (true == true))
    (show WShape.has [] (.bool true) .bool = true by first | rfl | decide | simp [WShape.has, WShape.arms, WShape.armsAll])
    (show (WTm.eq .res (.lit (.bool true))).value [] { args := args, res := some (.bool true), after := args } = some (.bool (true == true)) from w_eq_bool (w_res rfl) w_lit) rfl
theorem attach_call {l : OpenLaw} {n : Nat} {q : Program} {loose : List Str} {XP : (Str → Option Value) → Heap → Prop} {YP : World → Heap → Prop} {d : DefRec}
    (hn : l.most = some n) (hdf : d.params.defaults = [])
    (call : ∀ (w : World) (s₀ s₁ : Shared) (mg mb : Str → Option Value) (fa : Addr) (o : Obj) (pm cd doc : Value) (a : Addr) (vs : List Value) (ns : List Int),
      Ground q loose [] XP w s₀ mg mb s₁.heap → YP w s₁.heap →
      s₁.heap.get? fa = some o → o.data = .func (docDef d.name d.params d.body d.scope pm cd doc) → s₁.heap.CodeRec cd d.name → mg d.name = some (.ref fa) →
      s₁.heap.get? a = some { cls := .type "list", data := .seq vs.toArray } → IntsAre vs ns → ns.length ≤ n → s₁.gens = #[] →
      codeAny (model l.prog w) callerA (.call (.ref fa) ⟨[.ref a], []⟩) (fun r s' => r = .ok (.ret (.bool true)) ∧ OldK s₁.heap s'.heap ∧ s'.os = s₁.os ∧ AllBare s'.gens) s₁) :
    WalkO q loose XP YP l.row.toRowW d [] (fun f vs => PySem.call f vs) := by
  intro w s₀ s₁ mg mb G Y fa o pm cd doc dV kV ho hd hcd hD hmg hg args vals as hpre hlay hrd hwl hlo
  obtain rfl : dV = .none := Dflts.none hD hdf
  obtain rfl : kV = .none := Dflts.noKw hD
  obtain ⟨a, vs, ns, rfl, rfl, hobj, hints, hlen⟩ := script_of hn hpre hwl
  refine enter_call (codeAny_mono (call w s₀ s₁ mg mb fa o pm cd doc a vs ns G Y ho (fd_plain hd) hcd hmg hobj hints hlen hg) fun r s' hq => ?_)
  obtain ⟨rfl, h2, h3, h4⟩ := hq
  exact ⟨.inl ⟨.bool true, .bool true, [], rfl, fun _ => rfl, .bool true, post_true l _, fun _ => ⟨List.Pairwise.nil, fun _ hm => (nomatch hm)⟩⟩, h2, h3, h4⟩
section
variable {prog : Program} {w : World} {A : Around} {E : Value → Shared → Prop} {s : Shared} {K : Frag}
def ledger (h : Heap) (L d : Addr) : List (Addr × Obj) := (List.range h.objs.size).filterMap fun a => if a = L ∨ a = d then none else (h.get? a).map fun o => (a, o)
end
end Att
namespace L2
open PySem PySem.Spec PyProof.Rows
variable {q0 : Bool}
theorem vals_ints : ∀ {vs : List Value} {ns : List Int}, IntsAre vs ns → Vals (ns.map V.int) vs
  | _, _, .nil => .nil
  | _, _, .cons n t h => .cons ⟨t, rfl⟩ (vals_ints h)
def Only (H : Hp) : Prop := ∀ b, H b = none ∨ ∃ o xs, H b = some (.frz o (.lst xs))
theorem law_call {P : Program} {w : World} {K : PySem.W.Frag} {mg mb : Str → Option Value} {CX : CXT} {k : Nat} {fa a : Addr} {fd : FuncData} {x : Str} {sp : Sp} {s₁ : Shared} {vs : List Value} {ns : List Int}
    (KX : K.In s₁.heap) (hns : s₁.heap.Ns mainGlobals mg) (hb : s₁.heap.Ns builtinsNs mb) (hbb : ∀ x : Str, x ≠ "__name__" → mb x = bootBuiltins x) (hlim : s₁.heap.NoLimit) (hg : s₁.gens = #[])
    (ha : s₁.heap.get? a = some { cls := .type "list", data := .seq vs.toArray }) (hi : IntsAre vs ns) (hl : ns.length ≤ sizeLine) (hr : Room q0 k callerA)
    (F : ∀ base : Heap, K.In base → base.Ns mainGlobals mg → FnOk q0 P w K mg base CX k fa fd [x] sp) (hbind : ∀ (s : Shared) (u : Value), BindsTo s fd ⟨[u], []⟩ [(x, u)])
    (hsp : ∀ H : Hp, Only H → SqL K H a (ns.map V.int) → sp [.ref a] H (fun v _ => v = .bl true) fun _ _ _ => False)
    (hCX : ∀ H e s', CX [] H s₁ (fun _ _ _ => False) e s' → False) :
    codeAny (model P w) callerA (.call (.ref fa) ⟨[.ref a], []⟩) (fun r s' => r = .ok (.ret (.bool true)) ∧ OldK s₁.heap s'.heap ∧ s'.os = s₁.os ∧ AllBare s'.gens) s₁ := by
  have rv := vals_ints hi
  have lenV := hi.length
  -- from an abstract heap in which nothing but the script may be tracked
  have core : ∀ H : Hp, Only H → SqL K H a (ns.map V.int) → HOk P w H s₁.heap → (∀ b, H b ≠ none → b = a) → (H a ≠ none → K.lookup a = none) →
      codeAny (model P w) callerA (.call (.ref fa) ⟨[.ref a], []⟩) (fun r s' => r = .ok (.ret (.bool true)) ∧ OldK s₁.heap s'.heap ∧ s'.os = s₁.os ∧ AllBare s'.gens) s₁ := by
    intro H hO hS hok hA hK
    have base_of : ∀ {b : Addr} {o : Obj}, s₁.heap.get? b = some o → H b = none → (hidT s₁.heap H).get? b = some o := fun e n => hidT_get e n
    have noA : ∀ {b : Addr} {o : Obj} {es : Array DictEntry} {ep : Nat}, s₁.heap.get? b = some o → o.data = .dict es ep → H b = none := fun {b o es ep} e d => by
      cases q : H b with
      | none => rfl
      | some u =>
        have e' : b = a := hA b (by rw [q]; simp)
        subst e'
        rw [ha] at e; cases e
        have d' : Data.seq vs.toArray _ = Data.dict es ep := d
        cases d'
    have nsK : ∀ {b : Addr} {m : Str → Option Value}, s₁.heap.Ns b m → (hidT s₁.heap H).Ns b m := fun {b m} ⟨o, es, ep, e, d, r⟩ => ⟨o, es, ep, base_of e (noA e d), d, r⟩
    have hKb : K.In (hidT s₁.heap H) := fun b o e => base_of (KX b o e) (by
      cases q : H b with
      | none => rfl
      | some u =>
        have e' : b = a := hA b (by rw [q]; simp)
        subst e'
        rw [hK (by rw [q]; simp)] at e; cases e)
    have hM : Mod K mg (hidT s₁.heap H) := ⟨hKb, nsK hns, ⟨mb, nsK hb, hbb⟩, let ⟨mc, h1, h2⟩ := hlim; ⟨mc, nsK h1, h2⟩⟩
    have e0 : Env0 P w K mg (hidT s₁.heap H) callerA [] s₁ H := ⟨rfl, hM, fun b o e => of_hidT e, Nat.le_of_eq (hidT_size _ _), trivial, fun b hb => absurd (show b ∈ ([] : List Addr) from hb) (by simp), hok, .of_eq hg⟩
    refine codeAny_mono ((F _ hKb (nsK hns)).run callerA [] s₁ H ⟨[.ref a], []⟩ [.ref a] [.ref a] _ _ hr e0 (hbind s₁ (.ref a)) (.cons rfl .nil) (hsp H hO hS)) fun r s' h => ?_
    cases r with
    | error e => exact (hCX H e s' h).elim
    | ok fl =>
      cases fl with
      | next => exact False.elim h
      | brk => exact False.elim h
      | cont => exact False.elim h
      | ret u =>
        obtain ⟨v, H', os, bare, un, hok', r', q⟩ := h
        have q' : v = .bl true := q
        subst q'
        obtain rfl : u = Value.bool true := r'
        refine ⟨rfl, OldK.of_keep fun b o e => ?_, os, bare⟩
        cases q : H b with
        | none => exact un.keep b o e q (by intro z; exact absurd (show b ∈ ([] : List Addr) from z) (by simp)) (by simp)
        | some u =>
          rcases hO b with z | ⟨ob, xs, z⟩
          · rw [q] at z; cases z
          · have z2 := un.frzs b ob _ z
            obtain ⟨e1, _⟩ := hok b _ z
            obtain ⟨e2, _⟩ := hok' b _ z2
            rw [e] at e1; cases e1
            exact e2
  cases hk : K.lookup a with
  | some o =>
    -- the script is one of the module's own objects
    have e := KX a o hk
    rw [ha] at e
    cases e
    refine core (fun _ => none) (fun _ => .inl rfl) (.inr ⟨_, vs.toArray, _, hk, rfl, rfl, rfl, by rw [List.size_toArray, lenV]; exact hl, by simpa using rv⟩) (fun b u z => by have z' : (none : Option HO) = some u := z; cases z') (fun b z => absurd rfl z) fun z => absurd rfl z
  | none =>
    refine core (fun b => if b = a then some (.frz { cls := .type "list", data := .seq vs.toArray } (.lst (ns.map V.int))) else none) (fun b => ?_) (.inl (.inr ⟨{ cls := .type "list", data := .seq vs.toArray }, if_pos rfl⟩)) (fun b u z => ?_) (fun b z => ?_) fun _ => hk
    · by_cases hb : b = a
      · exact .inr ⟨_, _, if_pos hb⟩
      · exact .inl (if_neg hb)
    · by_cases hb : b = a
      · have z' := (if_pos hb).symm.trans z
        cases z'
        subst hb
        exact ⟨ha, by rw [List.length_map]; exact hl, vs, _, rv, ha⟩
      · have z' := (if_neg hb).symm.trans z
        cases z'
    · by_cases hb : b = a
      · exact hb
      · exact absurd (if_neg hb) z
end L2
namespace L2
open PySem PySem.Spec PyProof.Rows
variable {q0 : Bool}
abbrev KOf {K : PySem.W.Frag} {h : Heap} (_ : K.In h) : PySem.W.Frag := K
theorem walk_of {l : PySem.W.OpenLaw} {n k : Nat} {q : Program} {loose : List Str} {XP : (Str → Option Value) → Heap → Prop} {YP : World → Heap → Prop} {d : DefRec} {K : Params → PySem.W.Frag} {CX : World → CXT} {sp : World → Sp} {x : Str}
    (hn : l.most = some n) (hn2 : n ≤ sizeLine) (hdf : d.params.defaults = []) (hr : Room q0 k callerA)
    (hY : ∀ (w : World) (h : Heap), YP w h → (K w.params).In h)
    (F : ∀ (w : World) (mg : Str → Option Value) (fa : Addr) (h : Heap), (K w.params).In h → h.Ns mainGlobals mg → mg d.name = some (.ref fa) →
      ∃ fd : FuncData, (∀ (s : Shared) (u : Value), BindsTo s fd ⟨[u], []⟩ [(x, u)]) ∧
        ∀ base : Heap, (K w.params).In base → base.Ns mainGlobals mg → FnOk q0 l.prog w (K w.params) mg base (CX w) k fa fd [x] (sp w))
    (hsp : ∀ (w : World) (H : Hp) (a : Addr) (ns : List Int), ns.length ≤ n → Only H → SqL (K w.params) H a (ns.map V.int) → sp w [.ref a] H (fun v _ => v = .bl true) fun _ _ _ => False)
    (hCX : ∀ (w : World) (H : Hp) (s : Shared) (e : Value) (s' : Shared), CX w [] H s (fun _ _ _ => False) e s' → False) :
    PySem.W.WalkO q loose XP YP l.row.toRowW d [] (fun f vs => PySem.call f vs) := by
  refine Att.attach_call hn hdf fun w s₀ s₁ mg mb fa o pm cd doc a vs ns G Y ho hd hcd hmg hobj hints hlen hg => ?_
  have KX := hY w _ Y
  obtain ⟨fd, hb, hF⟩ := F w mg fa _ KX G.T.g hmg
  exact law_call KX G.T.g G.T.b G.T.builtins G.T.nolimit hg hobj hints (Nat.le_trans hlen hn2) hr hF hb (fun H hO hS => hsp w H a ns hlen hO hS) fun H e s' => hCX w H s₁ e s'
end L2
namespace L2
open PySem PySem.Spec PyProof.Rows
variable {q0 : Bool}
def inClass (s : Stmt) (j : Nat) : Stmt := match s with
  | .ClassDef _ _ _ body _ _ _ _ _ _ _ => body.getD j (.Pass ⟨0, 0, 0, 0⟩)
  | _ => .Pass ⟨0, 0, 0, 0⟩
def defArgs (s : Stmt) : Arguments := match s with
  | .FunctionDef _ a _ _ _ _ _ _ _ _ => a
  | _ => { posonlyargs := [], args := [], vararg := none, kwonlyargs := [], kw_defaults := [], kwarg := none, defaults := [] }
def defBody (s : Stmt) : List Stmt := match s with
  | .FunctionDef _ _ b _ _ _ _ _ _ _ => b
  | _ => []
def defScope (s : Stmt) : Scope := match s with
  | .FunctionDef _ _ _ _ _ _ sc _ _ _ => sc
  | _ => { kind := .function, names := [], isGenerator := false, isCoroutine := false }
abbrev CX0 : CXT := fun _ _ _ _ _ _ => False
structure Fun (K : PySem.W.Frag) (x qual : Str) (st : Stmt) (f : Addr) (fd : FuncData) : Prop where
  ex : ∃ (oc : Value) (od : Option Addr) (kV doc pm : Value) (an : Option Addr) (cdv ct : Value) (osl : Array (Option Value)),
    fd = PySem.W.fnOf x qual (defArgs st) (defBody st) (defScope st) .none kV doc pm an cdv ct ∧ K.lookup f = some ⟨oc, od, .func fd, osl⟩ ∧ PySem.W.codeIn K cdv qual = true
  kp : PySem.W.keepIn K (.ref f) = true
section
variable {P : Program} {w : World} {K : PySem.W.Frag} {mg : Str → Option Value} {base : Heap}
theorem Fun.ok {x qual : Str} {st : Stmt} {f : Addr} {fd : FuncData} {N ps : List Str} {k : Nat} {sp : Sp} (F : Fun K x qual st f fd) (S : FnScope N ps (defScope st)) (len : ∀ vs H Q E, sp vs H Q E → vs.length = ps.length)
    (hbody : ∀ (cdv : Value) (A : Around) (outer : List Env) (s : Shared) (H : Hp) (vs : List V) (Q : VK) (E : XK), Room q0 k (A.deeper (envOfC qual (defScope st) s.heap.objs.size f cdv)) → sp vs H Q E →
      ∃ t, PSs (cxOf q0 CX0 P w K mg base N qual (defScope st) f cdv A outer s H E).nox (defBody st) t ∧ t { nx := fun _ H' => Q .non H', rt := Q } (start N vs) H) : FnOk q0 P w K mg base CX0 (k + 1) f fd ps sp := by
  obtain ⟨oc, od, kV, doc, pm, an, cdv, ct, osl, rfl, lk, hcd⟩ := F.ex
  refine fn_of lk hcd S len fun A outer s H vs Q E hr hsp => ?_
  obtain ⟨t, h, q⟩ := hbody cdv A outer s H vs Q E hr hsp
  exact ⟨t, h.nox, q⟩
theorem Fun.binds {x qual : Str} {st : Stmt} {f : Addr} {fd : FuncData} {ps : List Str} (F : Fun K x qual st f fd)
    (h : ∀ (kV doc pm : Value) (an : Option Addr) (cdv ct : Value) (us : List Value), us.length = ps.length → bindArgs (PySem.W.fnOf x qual (defArgs st) (defBody st) (defScope st) .none kV doc pm an cdv ct) ⟨us, []⟩ = pure (ps.zip us)) : Binds K fd ps [] := by
  obtain ⟨oc, od, kV, doc, pm, an, cdv, ct, osl, rfl, lk, hcd⟩ := F.ex
  exact .all (h kV doc pm an cdv ct)
theorem fun_mk {x qual : Str} {st : Stmt} {f : Addr} {oc : Value} {od an : Option Addr} {osl : Array (Option Value)} {kV doc pm cdv ct : Value} (l : K.lookup f = some ⟨oc, od, .func (PySem.W.fnOf x qual (defArgs st) (defBody st) (defScope st) .none kV doc pm an cdv ct), osl⟩)
    (c : PySem.W.codeIn K cdv qual = true) (k : PySem.W.keepIn K (.ref f) = true) : Fun K x qual st f (PySem.W.fnOf x qual (defArgs st) (defBody st) (defScope st) .none kV doc pm an cdv ct) := ⟨⟨oc, od, kV, doc, pm, an, cdv, ct, osl, rfl, l, c⟩, k⟩
end
theorem hu_of {A : Around} {k : Nat} (hr : Room q0 k A) : A.units + 1 < cLine := Nat.lt_of_le_of_lt (Nat.add_le_add_left (by decide : 1 ≤ 64) _) hr.units
section
variable {X : Cx}
theorem pv (i : Nat) {x : Str} {pos : Pos} (hN : X.N[i]? = some x := by rfl) (hv : Vis X.env.scope x := by first | exact Or.inl rfl | exact Or.inr (Or.inl rfl) | exact Or.inr (Or.inr rfl)) (hd : (x == ("__debug__" : Str)) = false := by decide)
    (hcd : (x == ("__classdict__" : Str)) = false := by decide) : PE X (.Name x pos) (tVar i) := pe_var hN hv hd hcd
end
theorem iteF {A B : Prop} (h : B) : if false = true then A else B := by
  rw [if_neg Bool.false_ne_true]
  exact h
theorem iteT {A B : Prop} (h : A) : if true = true then A else B := by
  rw [if_pos rfl]
  exact h
theorem ite2 {c A B : Prop} [Decidable c] (h1 : c → A) (h2 : ¬ c → B) : if c then A else B := by
  by_cases h : c
  · rw [if_pos h]
    exact h1 h
  · rw [if_neg h]
    exact h2 h
def Same (H H' : Hp) : Prop := ∀ b o, H b = some o → H' b = some o
theorem Same.refl (H : Hp) : Same H H := fun _ _ h => h
theorem Same.trans {H H1 H2 : Hp} (a : Same H H1) (b : Same H1 H2) : Same H H2 := fun c o h => b c o (a c o h)
theorem Same.free {H H' : Hp} (e : Same H H') {l : Addr} (h : H' l = Option.none) : H l = Option.none := by
  cases q : H l with
  | none => rfl
  | some o =>
    rw [e l o q] at h
    cases h
theorem Same.seq {K : PySem.W.Frag} {H H' : Hp} {a : Addr} {xs : List V} (e : Same H H') (h : SqL K H a xs) : SqL K H' a xs := by
  rcases h with (h | ⟨o, h⟩) | h
  · exact .inl (.inl (e _ _ h))
  · exact .inl (.inr ⟨o, e _ _ h⟩)
  · exact .inr h
end L2
namespace Srt
open PySem PySem.W PyProof.Rows
abbrev CM := Nat → Nat → (Bool → Shared → Prop) → Shared → Prop
abbrev g (p : Array Nat) (i : Nat) : Nat := p.getD i 0
structure Ord (n : Nat) (lt : Nat → Nat → Bool) : Prop where
  irr : ∀ i, i < n → lt i i = false
  tr : ∀ i j k, i < n → j < n → k < n → lt i j = true → lt j k = true → lt i k = true
  tot : ∀ i j, i < n → j < n → i ≠ j → lt i j = false → lt j i = true
def Cmp (n : Nat) (lt : Nat → Nat → Bool) (cmp : CM) (s : Shared) : Prop := ∀ i j, i < n → j < n → ∀ Q : Bool → Shared → Prop, Q (lt i j) s → cmp i j Q s
theorem wp_ret {α : Type} {cmp : CM} {a : α} {Q : α → Shared → Prop} {s : Shared} (h : Q a s) : KasT.kasWp cmp (.ret a) Q s := h
theorem wp_ask {α : Type} {cmp : CM} {i j : Nat} {k : Bool → KasT α} {Q : α → Shared → Prop} {s : Shared} (h : cmp i j (fun c s' => KasT.kasWp cmp (k c) Q s') s) : KasT.kasWp cmp (.ask i j k) Q s := h
theorem asc_0 {p : Array Nat} {n : Nat} : kas_asc p 0 n = .ret n := by unfold kas_asc; rfl
theorem asc_s {p : Array Nat} {f n : Nat} : kas_asc p (f + 1) n = .ask (p.getD n 0) (p.getD (n - 1) 0) fun c => if c = true then .ret n else kas_asc p f (n + 1) := by rw [kas_asc]
theorem bin_0 {p : Array Nat} {k : Nat} : kas_bin 0 p k = .ret p := by unfold kas_bin; rfl
theorem bin_s {f : Nat} {p : Array Nat} {k : Nat} : kas_bin (f + 1) p k = (kas_place p k k 0 k).bind fun l => kas_bin f (bubble p k (k - l)) (k + 1) := by rw [kas_bin]
theorem place_0 {p : Array Nat} {k l r : Nat} : kas_place p k 0 l r = .ret l := by unfold kas_place; rfl
theorem place_s {p : Array Nat} {k f l r : Nat} : kas_place p k (f + 1) l r = if l ≥ r then .ret l else .ask (p.getD k 0) (p.getD ((l + r) / 2) 0) fun c => if c = true then kas_place p k f l ((l + r) / 2) else kas_place p k f ((l + r) / 2 + 1) r := by rw [kas_place]
theorem desc_0 {p : Array Nat} {k l : Nat} : kas_desc 0 p k l = .ret (p, k, l) := by unfold kas_desc; rfl
theorem desc_s {f : Nat} {p : Array Nat} {k l : Nat} : kas_desc (f + 1) p k l = .ask (p.getD k 0) (p.getD (k - 1) 0) fun c => if c = true then (if l > 0 then kas_desc f (kas_rev p (k - (l + 1)) k) (k + 1) 0 else kas_desc f p (k + 1) 0) else .ask (p.getD (k - 1) 0) (p.getD k 0) fun d => if d = true then .ret (p, k, l) else kas_desc f p (k + 1) (l + 1) := by rw [kas_desc]
section
variable {n : Nat} {lt : Nat → Nat → Bool} {cmp : CM} {s : Shared}
structure Arr (n : Nat) (p : Array Nat) : Prop where
  sz : p.size = n
  lt : ∀ i, i < n → g p i < n
  inj : ∀ i j, i < n → j < n → g p i = g p j → i = j
  pm : p.Perm (List.range n).toArray
theorem g_at {p : Array Nat} {i : Nat} {v : Nat} (h : p[i]? = some v) : g p i = v := by
  show p.getD i 0 = v
  rw [Array.getD_eq_getD_getElem?, h]
  rfl
theorem Arr.at {p : Array Nat} (a : Arr n p) {i : Nat} (h : i < n) : p[i]? = some (g p i) := by
  have z : i < p.size := by rw [a.sz]; exact h
  have e : p[i]? = some p[i] := Array.getElem?_eq_getElem z
  rw [e, g_at e]
def Srtd (lt : Nat → Nat → Bool) (p : Array Nat) (m : Nat) : Prop := ∀ i j, i < j → j < m → lt (g p i) (g p j) = true
theorem srt_adj (o : Ord n lt) {p : Array Nat} (a : Arr n p) {m : Nat} (hm : m ≤ n) (h : ∀ i, 1 ≤ i → i < m → lt (g p (i - 1)) (g p i) = true) : Srtd lt p m := by
  intro i j hij hj
  obtain ⟨d, rfl⟩ : ∃ d, j = i + 1 + d := ⟨j - (i + 1), by omega⟩
  induction d with
  | zero => exact h (i + 1) (by omega) hj
  | succ d ih =>
    have h1 := ih (by omega) (by omega)
    have h2 := h (i + 1 + (d + 1)) (by omega) hj
    exact o.tr _ _ _ (a.lt _ (by omega)) (a.lt _ (by omega)) (a.lt _ (by omega)) h1 h2
theorem asc_wp (c : Cmp n lt cmp s) {p : Array Nat} (a : Arr n p) {G : Nat → Shared → Prop} : ∀ (f k : Nat), 1 ≤ k → k + f ≤ n →
    (∀ m, k ≤ m → m ≤ k + f → (∀ i, k ≤ i → i < m → lt (g p i) (g p (i - 1)) = false) → (m < k + f → lt (g p m) (g p (m - 1)) = true) → G m s) → KasT.kasWp cmp (kas_asc p f k) G s
  | 0, k, h1, hf, hG => by
    rw [asc_0]
    exact wp_ret (hG k (Nat.le_refl _) (by omega) (fun i h h' => by omega) (fun h => by omega))
  | f + 1, k, h1, hf, hG => by
    rw [asc_s]
    refine wp_ask (c _ _ (a.lt k (by omega)) (a.lt (k - 1) (by omega)) _ ?_)
    cases e : lt (g p k) (g p (k - 1)) with
    | true =>
      exact wp_ret (hG k (Nat.le_refl _) (by omega) (fun i h h' => by omega) (fun _ => e))
    | false =>
      show KasT.kasWp cmp (kas_asc p f (k + 1)) G s
      refine asc_wp c a f (k + 1) (by omega) (by omega) fun m hm hm2 h3 h4 => hG m (by omega) (by omega) (fun i hi hi2 => ?_) (fun h => h4 (by omega))
      by_cases z : i = k
      · rw [z]; exact e
      · exact h3 i (by omega) hi2
theorem desc_wp (o : Ord n lt) (c : Cmp n lt cmp s) {p : Array Nat} (a : Arr n p) {G : Array Nat × Nat × Nat → Shared → Prop} : ∀ (f k : Nat), 1 ≤ k → k + f ≤ n →
    (∀ m, k ≤ m → m ≤ k + f → (∀ i, k ≤ i → i < m → lt (g p i) (g p (i - 1)) = true) → G (p, m, 0) s) → KasT.kasWp cmp (kas_desc f p k 0) G s
  | 0, k, h1, hf, hG => by
    rw [desc_0]
    exact wp_ret (hG k (Nat.le_refl _) (by omega) (fun i h h' => by omega))
  | f + 1, k, h1, hf, hG => by
    rw [desc_s]
    refine wp_ask (c _ _ (a.lt k (by omega)) (a.lt (k - 1) (by omega)) _ ?_)
    cases e : lt (g p k) (g p (k - 1)) with
    | true =>
      show KasT.kasWp cmp (kas_desc f p (k + 1) 0) G s
      refine desc_wp o c a f (k + 1) (by omega) (by omega) fun m hm hm2 h3 => hG m (by omega) (by omega) fun i hi hi2 => ?_
      by_cases z : i = k
      · rw [z]; exact e
      · exact h3 i (by omega) hi2
    | false =>
      refine wp_ask (c _ _ (a.lt (k - 1) (by omega)) (a.lt k (by omega)) _ ?_)
      have ne : g p k ≠ g p (k - 1) := fun z => by have := a.inj _ _ (by omega) (by omega) z; omega
      rw [show lt (p.getD (k - 1) 0) (p.getD k 0) = true from o.tot _ _ (a.lt k (by omega)) (a.lt (k - 1) (by omega)) ne e]
      exact wp_ret (hG k (Nat.le_refl _) (by omega) (fun i h h' => by omega))
theorem Arr.rev {p : Array Nat} (a : Arr n p) {k : Nat} (hk : k ≤ n) : Arr n (kas_rev p 0 k) ∧ ∀ i, i < n → g (kas_rev p 0 k) i = if i < k then g p (k - 1 - i) else g p i := by
  have ge : ∀ i, i < n → g (kas_rev p 0 k) i = if i < k then g p (k - 1 - i) else g p i := fun i hi => by
    have z := getElem?_mirror_all (xs := p) (i := 0) (j := k) (by rw [a.sz]; exact hk) i
    by_cases c : i < k
    · rw [if_pos c]
      rw [if_pos ⟨Nat.zero_le _, c⟩, show 0 + k - 1 - i = k - 1 - i by omega, a.at (show k - 1 - i < n by omega)] at z
      exact g_at z
    · rw [if_neg c]
      rw [if_neg (fun w => c w.2), a.at hi] at z
      exact g_at z
  refine ⟨⟨by rw [kas_rev_size, a.sz], fun i hi => ?_, fun i j hi hj e => ?_, (mirror_perm _ _ _ _).trans a.pm⟩, ge⟩
  · rw [ge i hi]
    split <;> exact a.lt _ (by omega)
  · rw [ge i hi, ge j hj] at e
    split at e <;> split at e <;> have := a.inj _ _ (by omega) (by omega) e <;> omega
theorem count_wp (o : Ord n lt) (c : Cmp n lt cmp s) {p : Array Nat} (a : Arr n p) (h2 : 2 ≤ n) {G : Nat × Array Nat → Shared → Prop}
    (hG : ∀ m p', 1 ≤ m → m ≤ n → Arr n p' → Srtd lt p' m → G (m, p') s) : KasT.kasWp cmp (kas_count n p) G s := by
  unfold kas_count
  rw [KasT.kasWp_bind]
  have up : ∀ q, Arr n q → ∀ i, 1 ≤ i → i < n → lt (g q i) (g q (i - 1)) = false → lt (g q (i - 1)) (g q i) = true := fun q b i h1 hi e =>
    o.tot _ _ (b.lt i hi) (b.lt (i - 1) (by omega)) (fun z => by have := b.inj _ _ hi (by omega) z; omega) e
  refine asc_wp c a (n - 1) 1 (Nat.le_refl _) (by omega) fun m hm hm2 h3 h4 => ?_
  have sm : Srtd lt p m := srt_adj o a (by omega) fun i hi hi2 => up p a i hi (by omega) (h3 i hi hi2)
  show KasT.kasWp cmp (if (m == n) = true then _ else _) G s
  by_cases e1 : m = n
  · rw [if_pos (by simpa using e1)]
    exact wp_ret (hG m p hm (by omega) a sm)
  · rw [if_neg (by simpa using e1)]
    by_cases e2 : m > 1
    · rw [if_pos e2]
      refine wp_ask (c _ _ (a.lt 0 (by omega)) (a.lt (m - 1) (by omega)) _ ?_)
      rw [show lt (p.getD 0 0) (p.getD (m - 1) 0) = true from sm 0 (m - 1) (by omega) (by omega)]
      exact wp_ret (hG m p hm (by omega) a sm)
    · rw [if_neg e2]
      have m1 : m = 1 := by omega
      subst m1
      have d1 := h4 (by omega)
      unfold kas_descPart
      rw [KasT.kasWp_bind]
      refine desc_wp o c a (n - (1 + 1)) (1 + 1) (by omega) (by omega) fun k hk hk2 h5 => ?_
      show KasT.kasWp cmp (if (0 : Nat) > 0 then _ else kas_tail3 k n p) G s
      rw [if_neg (Nat.lt_irrefl 0)]
      unfold kas_tail3
      rw [KasT.kasWp_bind]
      obtain ⟨b, ge⟩ := a.rev (k := k) (by omega)
      refine asc_wp c b (n - k) k (by omega) (by omega) fun m' hm' hm2' h6 _ => ?_
      refine wp_ret (hG m' _ (by omega) (by omega) b (srt_adj o b (by omega) fun i hi hi2 => ?_))
      by_cases ik : i < k
      · rw [ge i (by omega), ge (i - 1) (by omega), if_pos ik, if_pos (by omega)]
        have e3 : k - 1 - (i - 1) - 1 = k - 1 - i := by omega
        by_cases z : k - 1 - (i - 1) = 1
        · have z' : k - 1 - i = 0 := by omega
          rw [z, z']
          exact d1
        · have := h5 (k - 1 - (i - 1)) (by omega) (by omega)
          rw [e3] at this
          exact this
      · exact up _ b i hi (by omega) (h6 i (by omega) hi2)
theorem place_wp (o : Ord n lt) (c : Cmp n lt cmp s) {p : Array Nat} (a : Arr n p) {k : Nat} (hk : k < n) (sk : Srtd lt p k) {G : Nat → Shared → Prop} : ∀ (f l r : Nat), l ≤ r → r ≤ k → r - l ≤ f →
    (∀ j, j < l → lt (g p k) (g p j) = false) → (∀ j, r ≤ j → j < k → lt (g p k) (g p j) = true) →
    (∀ m, m ≤ k → (∀ j, j < m → lt (g p k) (g p j) = false) → (∀ j, m ≤ j → j < k → lt (g p k) (g p j) = true) → G m s) → KasT.kasWp cmp (kas_place p k f l r) G s
  | 0, l, r, h1, h2, h3, lo, hi, hG => by
    rw [place_0]
    exact wp_ret (hG l (by omega) lo fun j hj hj2 => hi j (by omega) hj2)
  | f + 1, l, r, h1, h2, h3, lo, hi, hG => by
    rw [place_s]
    by_cases e : l ≥ r
    · rw [if_pos e]
      exact wp_ret (hG l (by omega) lo fun j hj hj2 => hi j (by omega) hj2)
    · rw [if_neg e]
      have m1 : (l + r) / 2 < r := by omega
      have m2 : l ≤ (l + r) / 2 := by omega
      refine wp_ask (c _ _ (a.lt k hk) (a.lt _ (by omega)) _ ?_)
      cases e2 : lt (g p k) (g p ((l + r) / 2)) with
      | true =>
        show KasT.kasWp cmp (kas_place p k f l ((l + r) / 2)) G s
        refine place_wp o c a hk sk f l _ m2 (by omega) (by omega) lo (fun j hj hj2 => ?_) hG
        by_cases z : j = (l + r) / 2
        · rw [z]; exact e2
        · exact o.tr _ _ _ (a.lt k hk) (a.lt _ (by omega)) (a.lt _ (by omega)) e2 (sk _ _ (by omega) hj2)
      | false =>
        show KasT.kasWp cmp (kas_place p k f ((l + r) / 2 + 1) r) G s
        refine place_wp o c a hk sk f _ r (by omega) h2 (by omega) (fun j hj => ?_) hi hG
        by_cases z : j = (l + r) / 2
        · rw [z]; exact e2
        · cases e3 : lt (g p k) (g p j) with
          | false => rfl
          | true =>
            have := o.tr _ _ _ (a.lt k hk) (a.lt _ (by omega)) (a.lt _ (by omega)) e3 (sk j ((l + r) / 2) (by omega) (by omega))
            rw [e2] at this
            cases this
theorem Arr.bub {p : Array Nat} (a : Arr n p) {k m : Nat} (hk : k < n) (hm : m ≤ k) : Arr n (bubble p k (k - m)) ∧ ∀ i, i < n → g (bubble p k (k - m)) i = if i = m then g p k else if m < i ∧ i ≤ k then g p (i - 1) else g p i := by
  have ge : ∀ i, i < n → g (bubble p k (k - m)) i = if i = m then g p k else if m < i ∧ i ≤ k then g p (i - 1) else g p i := fun i hi => by
    have z := getElem?_bubble (xs := p) (src := k) (by rw [a.sz]; exact hk) (k - m) (by omega) i
    rw [show k - (k - m) = m by omega] at z
    by_cases c : i = m
    · rw [if_pos c]
      rw [if_pos c, a.at hk] at z
      exact g_at z
    · rw [if_neg c]
      rw [if_neg c] at z
      by_cases d : m < i ∧ i ≤ k
      · rw [if_pos d]
        rw [if_pos d, a.at (show i - 1 < n by omega)] at z
        exact g_at z
      · rw [if_neg d]
        rw [if_neg d, a.at hi] at z
        exact g_at z
  refine ⟨⟨by rw [bubble_size, a.sz], fun i hi => ?_, fun i j hi hj e => ?_, (bubble_perm _ _ _).trans a.pm⟩, ge⟩
  · rw [ge i hi]
    split
    · exact a.lt _ hk
    · split <;> exact a.lt _ (by omega)
  · rw [ge i hi, ge j hj] at e
    split at e <;> (try split at e) <;> (try split at e) <;> (try split at e) <;> first | omega | (have := a.inj _ _ (by omega) (by omega) e; omega)
theorem bin_wp (o : Ord n lt) (c : Cmp n lt cmp s) {G : Array Nat → Shared → Prop} : ∀ (f k : Nat) (p : Array Nat), k + f = n → Arr n p → Srtd lt p k → (∀ p', Arr n p' → Srtd lt p' n → G p' s) → KasT.kasWp cmp (kas_bin f p k) G s
  | 0, k, p, h, a, sk, hG => by
    rw [bin_0]
    have : k = n := by omega
    subst this
    exact wp_ret (hG p a sk)
  | f + 1, k, p, h, a, sk, hG => by
    have hk : k < n := by omega
    rw [bin_s, KasT.kasWp_bind]
    refine place_wp o c a hk sk k 0 k (Nat.zero_le _) (Nat.le_refl _) (by omega) (fun j hj => by omega) (fun j hj hj2 => by omega) fun m hm lo hi => ?_
    obtain ⟨b, ge⟩ := a.bub hk hm
    refine bin_wp o c f (k + 1) _ (by omega) b (fun i j hij hj => ?_) hG
    have inS : ∀ i, i < m → lt (g p i) (g p k) = true := fun i hi' => o.tot _ _ (a.lt k hk) (a.lt i (by omega)) (fun z => by have := a.inj _ _ hk (by omega) z; omega) (lo i hi')
    have g1 : ∀ i, i < n → i = m → g (bubble p k (k - m)) i = g p k := fun i hi z => by rw [ge i hi, if_pos z]
    have g2 : ∀ i, i < n → m < i → i ≤ k → g (bubble p k (k - m)) i = g p (i - 1) := fun i hi z z2 => by rw [ge i hi, if_neg (by omega), if_pos ⟨z, z2⟩]
    have g3 : ∀ i, i < n → i < m → g (bubble p k (k - m)) i = g p i := fun i hi z => by rw [ge i hi, if_neg (by omega), if_neg (by omega)]
    by_cases j1 : j = m
    · rw [g1 j (by omega) j1, g3 i (by omega) (by omega)]
      exact inS i (by omega)
    · by_cases i1 : i = m
      · rw [g1 i (by omega) i1, g2 j (by omega) (by omega) (by omega)]
        exact hi (j - 1) (by omega) (by omega)
      · by_cases j2 : m < j
        · rw [g2 j (by omega) j2 (by omega)]
          by_cases i2 : m < i
          · rw [g2 i (by omega) i2 (by omega)]
            exact sk _ _ (by omega) (by omega)
          · rw [g3 i (by omega) (by omega)]
            by_cases z : i = j - 1
            · omega
            · exact sk _ _ (by omega) (by omega)
        · rw [g3 j (by omega) (by omega), g3 i (by omega) (by omega)]
          exact sk _ _ hij (by omega)
theorem arr_range : Arr n (List.range n).toArray := by
  have e : ∀ i, i < n → g (List.range n).toArray i = i := fun i hi => g_at (by rw [List.getElem?_toArray, List.getElem?_range hi])
  exact ⟨by simp, fun i hi => by rw [e i hi]; exact hi, fun i j hi hj z => by rw [e i hi, e j hj] at z; exact z, Array.Perm.refl _⟩
theorem sort_wp (o : Ord n lt) (c : Cmp n lt cmp s) (h2 : 2 ≤ n) {G : Array Nat → Shared → Prop} (hG : ∀ p, Arr n p → Srtd lt p n → G p s) : KasT.kasWp cmp (kas_sort n) G s := by
  unfold kas_sort
  rw [KasT.kasWp_bind]
  refine count_wp o c arr_range h2 fun m p hm hm2 a sm => ?_
  show KasT.kasWp cmp (if m < n then _ else _) G s
  by_cases e : m < n
  · rw [if_pos e]
    show KasT.kasWp cmp (kas_bin (n - max m 1) p (max m 1)) G s
    rw [Nat.max_eq_left hm]
    exact bin_wp o c (n - m) m p (by omega) a sm hG
  · rw [if_neg e]
    have : m = n := by omega
    subst this
    exact wp_ret (hG p a sm)
end
end Srt
set_option maxRecDepth 100000
namespace XL
open PySem
def Xat (h : Heap) (e : Addr) (cls : Value) (od tb : Option Addr) : Prop :=
  ∃ oe vs, h.get? e = some oe ∧ oe.cls = cls ∧ oe.dict = od ∧ oe.data = .fields vs ∧ 1 < vs.size ∧
    ((tb = none ∧ vs[1]? = some Value.none) ∨ ∃ T oT ts, tb = some T ∧ vs[1]? = some (.ref T) ∧ T ≠ e ∧ h.get? T = some oT ∧ oT.data = .fields ts ∧ ts[3]? = some Value.none)
section
variable {M : Model} {A : Around} {E : Value → Shared → Prop} {s : Shared}
end
end XL
set_option maxRecDepth 100000
namespace XL
open PySem
section
variable {prog : Program} {w : World} {A : Around} {E : Value → Shared → Prop} {h : Heap} {g : Array GenState} {d : Drawn} {t : Nat} {os : OsState}
variable {nm qn : Str} {C N : Addr} {bs bm bmB : List Value} {hz : Bool} {sn : List Str} {sub : List Value} {ab : Bool} {col : Option Bool} {dd : Option Addr} {k0 k1 k2 k3 k5 : Option Value} {B ni ii : String}
end
end XL
set_option maxRecDepth 100000
namespace XL
open PySem PySem.W PySem.Calls PyProof.Rows Builtin Builtin.ObjectAttr
def vErr : List Value := [.type "ValueError", .type "Exception", .type "BaseException", .type "object"]
def excLine : List Value → Bool
  | [] => false
  | .ref c :: r => excLine r || ((.ref c :: r : List Value) == vErr)
  | v :: r => (v :: r) == vErr
def excOver (K : Frag) (C : Addr) : Bool := (clsIn K C).any fun cd => excLine cd.mro
theorem line_has : ∀ {l : List Value}, excLine l = true → l.contains (.type "object") = true ∧ l.contains (.type "BaseException") = true ∧ l.isEmpty = false
  | [], e => by cases e
  | v :: r, e => by
    have last : ((v :: r : List Value) == vErr) = true → (v :: r).contains (.type "object") = true ∧ (v :: r).contains (.type "BaseException") = true ∧ (v :: r).isEmpty = false := fun z => by
      rw [eq_of_beq z]
      exact ⟨by decide +kernel, by decide +kernel, rfl⟩
    cases v with
    | ref c =>
      rcases Bool.or_eq_true_iff.mp e with z | z
      · obtain ⟨a, b, _⟩ := line_has z
        exact ⟨by rw [List.contains_cons, a, Bool.or_true], by rw [List.contains_cons, b, Bool.or_true], rfl⟩
      · exact last z
    | _ => exact last e
structure XC (K : Frag) (C : Addr) : Prop where
  over : excOver K C = true
  hd : hasDictIn K C = true
  sa : findIn K (.ref C) "__setattr__" = some (some (.builtin "object.__setattr__"))
  ga : findIn K (.ref C) "__getattribute__" = some (some (.builtin "BaseException.__getattribute__"))
  gh : findIn K (.ref C) "__getattr__" = some none
  ca : findIn K (.ref C) "__class__" = some (some (.builtin "object.__class__"))
  cg : specialIn K (.builtin "object.__class__") "__get__" = some (some (.builtin "getset_descriptor.__get__"))
  ct : takesIn K (.builtin "object.__class__") = some true
section
variable {prog : Program} {w : World} {A : Around} {E : Value → Shared → Prop} {s : Shared} {K : Frag} {x C dx : Addr} {ox : Obj} {od : Option Obj} {name : Str} {v : Value} {R : Result → Shared → Prop}
theorem XC.mro (c : XC K C) : ∃ cd, clsIn K C = some cd ∧ excLine cd.mro = true ∧ cd.hasDict = true := by
  obtain ⟨cd, h1, h2⟩ := any_some c.over
  obtain ⟨cd', h3, h4⟩ := any_some c.hd
  rw [h1] at h3
  cases h3
  exact ⟨cd, h1, h2, h4⟩
theorem XC.isObj (c : XC K C) : mroIn K C (.type "object") = some true := by
  obtain ⟨cd, h1, h2, _⟩ := c.mro
  obtain ⟨a, _, b⟩ := line_has h2
  unfold mroIn
  rw [h1, Option.bind_some, if_neg (by rw [b]; decide), a]
theorem XC.isExc (c : XC K C) : mroIn K C (.type "BaseException") = some true := by
  obtain ⟨cd, h1, h2, _⟩ := c.mro
  obtain ⟨_, a, b⟩ := line_has h2
  unfold mroIn
  rw [h1, Option.bind_some, if_neg (by rw [b]; decide), a]
theorem ga_bind (v : Value) : bindSpecial (.builtin "BaseException.__getattribute__") v = pure (.builtin "BaseException.__getattribute__", [v]) := by
  have f := PySem.F.attr_ValueError.ga.bind v
  exact f
theorem ga_plain : plainId "BaseException.__getattribute__" = true := PySem.F.attr_ValueError.ga.plain
theorem get_xo {Q : Value → Shared → Prop} {expr fill : Bool} {tk : Tok} (X : K.In s.heap) (c : XC K C) (I : InstAt s.heap x ox C od)
    (h : wpAny (model prog w) A.in1 (Builtin.«object.__getattribute__» ⟨[.ref x, .str name tk], []⟩)
      (fun fin s' => match fin with | .done (.ret v) => wpAny (model prog w) A (handedOut v) Q E s' | _ => False) (fun _ _ => False) s) :
    wpAny (model prog w) A (getAttrBy (.ref x) (.str name tk) fill expr) Q E s := by
  obtain ⟨hh, g, d, t, os⟩ := s
  have L0 := I.type (M := model prog w)
  have L1 := looks_findIn (M := model prog w) X c.ga
  have L2 := looks_findIn (M := model prog w) X c.gh
  have sub : Looks (model prog w) hh (isInstance (.ref x) (.type "BaseException")) true := I.type.andThen (looks_mroIn X c.isExc)
  have f2 : (onTheHeap (Value.ref C) && Value.builtin "BaseException.__getattribute__" == Value.builtin "object.__getattribute__") = false := by
    rw [show (Value.builtin "BaseException.__getattribute__" == Value.builtin "object.__getattribute__") = false from by decide +kernel]; rfl
  have f3 : (expr && onTheHeap (Value.builtin "BaseException.__getattribute__")) = false := by cases expr <;> rfl
  unfold getAttrBy
  refine wpAny_holding (wpAny_bind (L0.at (wpAny_bind (L1.at ?_))))
  dsimp only
  rw [f2]
  simp only [Bool.false_eq_true, if_false]
  unfold getAttrByItsOwn hookBefore
  refine wpAny_bind (L2.at (wpAny_bind (wpAny_attempt (wpAny_holding ?_))))
  unfold callGetattribute
  rw [f3]
  simp only [Bool.false_eq_true, if_false]
  unfold boundAndCalled
  rw [ga_bind]
  refine wpAny_bind (wpAny_pure (wpAny_call (codeAny_call_builtin ga_plain PySem.F.entry_bexc_ga
    (@check_slot (model prog w) _ _ ⟨hh, g, d, t, os⟩ "BaseException.__getattribute__" "BaseException" "__getattribute__" (.ref x) [.str name tk] [] _ (by decide +kernel) (by decide +kernel) sub (PySem.F.args_bexc_ga _ _) ?_))))
  refine wpAny_mono h (fun fin s' z => ?_) fun e s' z => z.elim
  rcases fin with (_ | _ | _ | _) | _ <;> first | exact z | exact z.elim
theorem get_xcls {Q : Option Value → Shared → Prop} (X : K.In s.heap) (c : XC K C) (I : InstAt s.heap x ox C od) (h : Q (some (.ref C)) { s with toks := s.toks + 1 }) :
    wpAny (model prog w) A (getAttr? (.ref x) "__class__") Q E s := by
  obtain ⟨cd, h1, _, h2⟩ := c.mro
  have hf : findObj K C od "__class__" = some (.bind (.builtin "getset_descriptor.__get__") (.builtin "object.__class__")) := by
    unfold findObj
    rw [h1, Option.bind_some, c.ca, Option.bind_some]
    simp [c.cg, c.ct]
  unfold getAttr? getAttrBy?
  refine wpAny_bind (wpAny_mkText (wpAny_bind (wpAny_attempt ?_)))
  refine get_xo (s := { s with toks := s.toks + 1 }) X c I ?_
  have L0 := I.type (M := model prog w)
  have L1 := looks_find (M := model prog w) X I hf
  refine wpAny_bind (wpAny_pure (wpAny_bind (wpAny_pure (wpAny_bind (L0.here (s := { s with toks := s.toks + 1 }) (wpAny_bind (L1.here (s := { s with toks := s.toks + 1 }) ?_)))))))
  show wpAny _ _ (holding [_] (call _ [_, .ref x, .ref C]) >>= ret) _ _ _
  refine wpAny_bind (wpAny_holding (wpAny_call (class_get (s := { s with toks := s.toks + 1 }) (ox := ox) (od := od) X I c.isObj ?_)))
  refine wpAny_pure ?_
  show wpAny _ _ (handedOut (.ref C)) _ _ _
  exact wpAny_pure (wpAny_pure h)
end
end XL
set_option maxRecDepth 100000
namespace XL
open PySem
section
variable {M : Model} {A : Around} {E : Value → Shared → Prop} {s : Shared} {env : Env}
end
end XL
set_option maxRecDepth 100000
namespace L2
open PySem PySem.Spec PyProof.Rows XL
variable {q0 : Bool}
def XO (e C : Addr) (od : Option Addr) : HO := .ext fun h => ∃ ox vs, h.get? e = some ox ∧ ox.cls = .ref C ∧ ox.dict = od ∧ ox.data = .fields vs
def XD (dx : Addr) (fs : List (Str × V)) : HO := .ext fun h => fs.length ≤ 1000 ∧ ∃ mA, h.Ns1 dx mA ∧ (∀ f, RelO (fs.lookup f) (mA f)) ∧ PySem.Within mA (fs.map (·.1))
section
variable {P : Program} {w : World} {H : Hp} {h : Heap} {e C dx : Addr} {od : Option Addr} {fs : List (Str × V)}
end
def CXo (P : Program) (w : World) : CXT := fun outer H s E u s' => ∃ e C od H' T, u = .ref e ∧ s'.os = s.os ∧ AllBare s'.gens ∧ Un (frs outer) [] H H' s.heap s'.heap ∧ HOk P w H' s'.heap ∧
  Xat s'.heap e (.ref C) od (some T) ∧ H' e = some (XO e C od) ∧ s.heap.objs.size ≤ T ∧ H' T = none ∧ E e C H'
section
variable {X : Cx} {pins : List (Addr × Obj)} {σ : St} {H : Hp} {s : Shared} {e C : Addr} {od tb : Option Addr}
theorem Inv.size_lt (I : Inv X pins σ H s) {b : Addr} (h : s.heap.objs.size ≤ b) : H b = none ∧ b ≠ X.env.locals ∧ (∀ x c, X.env.cells.lookup x = some c → c ≠ b) ∧ ∀ p ∈ X.pn ++ pins, p.1 ≠ b := by
  refine ⟨I.hok.fresh h, fun z => ?_, fun x c hc z => ?_, fun p hp z => ?_⟩
  · rw [z] at h
    exact absurd I.lt (Nat.not_lt.mpr h)
  · obtain ⟨v, o, ho, _⟩ := I.cell x c hc
    rw [z] at ho
    exact absurd (Heap.lt_size ho) (Nat.not_lt.mpr h)
  · have g := (I.pin p hp).1
    rw [z] at g
    exact absurd (Heap.lt_size g) (Nat.not_lt.mpr h)
theorem pass_none : Passes (CXo X.prog X.w) X (fun _ _ _ _ => False) := fun pins σ H s u s' I h => by
  obtain ⟨e, C, od, H', T, _, _, _, _, _, _, _, _, _, q⟩ := h
  exact q.elim
end
end L2
set_option maxRecDepth 100000
namespace XL
open PySem PySem.W
end XL
namespace L2
open PySem PySem.Spec PyProof.Rows XL
variable {q0 : Bool}
section
variable {X : Cx} {pins : List (Addr × Obj)} {σ : St} {H : Hp} {s : Shared} {a C dx : Addr} {od : Option Addr} {fs : List (Str × V)} {f : Str} {v y : V} {u : Value} {A : Around} {E : Value → Shared → Prop}
theorem xo_at (I : Inv X pins σ H s) (e : H a = some (XO a C od)) : ∃ ox vs, s.heap.get? a = some ox ∧ ox.cls = .ref C ∧ ox.dict = od ∧ ox.data = .fields vs := (I.hok a _ e).1
theorem xd_at (I : Inv X pins σ H s) (e : H dx = some (XD dx fs)) : fs.length ≤ 1000 ∧ ∃ mA, s.heap.Ns1 dx mA ∧ (∀ f, RelO (fs.lookup f) (mA f)) ∧ PySem.Within mA (fs.map (·.1)) := (I.hok dx _ e).1
theorem notCls_f {o : Obj} {vs : Array Value} (d : o.data = .fields vs) : PySem.W.notCls o = true := by
  unfold PySem.W.notCls
  rw [d]
end
section
variable {X : Cx} {o e value : Expr} {f : Str} {pos pos' tpos : Pos} {ta tv te : TE}
end
section
variable {X : Cx} {k : Nat} {f C : Addr} {fd : FuncData} {ps : List Str} {sp : Sp} {dvs : List V} {ds : List Value} {E : St → XK} {x m : Str} {p pos apos : Pos} {e o : Expr} {es : List Expr} {ta te : TE} {t : TA}
end
end L2
set_option maxRecDepth 100000
namespace XL
open PySem PySem.W
section
variable {M : Model} {A : Around} {E : Value → Shared → Prop} {s : Shared}
variable {nm qn nm' qn' : Str} {C N C' N' : Addr} {bs bm bs' bm' : List Value} {hz hz' : Bool} {sn sn' : List Str} {sub sub' : List Value} {ab ab' : Bool} {col col' : Option Bool} {dd dd' : Option Addr} {k0 k1 k2 k3 k5 j0 j1 j2 j3 j5 : Option Value} {ni ni' : String}
end
end XL
namespace L2
open PySem PySem.Spec PyProof.Rows XL
variable {q0 : Bool}
section
variable {X : Cx} {pins : List (Addr × Obj)} {σ : St} {H : Hp} {s : Shared}
end
section
variable {X : Cx} {pos np hpos : Pos} {body hbody : List Stmt} {b0 : Stmt} {cx n : Str} {C0 : Addr} {j : Nat} {E : St → XK} {tb th : TS}
end
end L2
set_option maxRecDepth 100000
namespace XL
open PySem PySem.W
theorem kitx_x {K : Frag} {x C : Addr} (c : XC K C) : KitX K (.ref x) (.ref C) (fun h => ∃ ox od, InstAt h x ox C od) where
  ty := fun _ _ _ ⟨_, _, I⟩ => I.type
  it := fun _ _ X _ => by
    obtain ⟨cd, hc, _, _⟩ := c.mro
    unfold clsIn at hc
    split at hc
    · rename_i c' d' cd' sl' ho
      intro A' Q' E' s' k q
      unfold isType loadHead
      exact wpAny_bind (wpAny_loadPart (k _ _ (X _ _ ho)) (wpAny_pure q))
    · cases hc
  ne := fun h tp dd its n sl X htp => by
    obtain ⟨cd, hc, _, _⟩ := c.mro
    refine Bool.eq_false_iff.mpr fun q => ?_
    have e : C = tp := Value.ref.inj (beq_iff_eq.mp q)
    subst e
    unfold clsIn at hc
    split at hc
    · rename_i c' d' cd' sl' ho
      have z := (X _ _ ho).symm.trans htp
      cases z
    · cases hc
  ca := fun X ⟨ox, od, I⟩ k => get_xcls X c I k
end XL
namespace L2
open PySem PySem.Spec PyProof.Rows XL
variable {q0 : Bool}
def clsV : V → Option Value
  | .ty n => some (.type n)
  | .ref a => some (.ref a)
  | _ => none
theorem clsV_rel {c : V} {u cv : Value} (e : clsV c = some cv) (r : RelV c u) : u = cv := by
  cases c <;> first | (cases e; exact r) | cases e
def clsVs : List V → Option (List Value)
  | [] => some []
  | c :: r => (clsV c).bind fun a => (clsVs r).map (a :: ·)
theorem clsVs_rel : ∀ {cs : List V} {us cv : List Value}, clsVs cs = some cv → Vals cs us → us = cv
  | [], _, _, e, .nil => by cases e; rfl
  | c :: r, _, _, e, .cons rc rr => by
    obtain ⟨a, e1, e2⟩ := Option.bind_eq_some_iff.mp e
    obtain ⟨b, e3, rfl⟩ := Option.map_eq_some_iff.mp e2
    rw [clsV_rel e1 rc, clsVs_rel e3 rr]
section
variable {X : Cx} {pins : List (Addr × Obj)} {σ : St} {H : Hp} {s : Shared} {A : Around} {E : Value → Shared → Prop} {Q : Value → Shared → Prop}
theorem xo_inst {a C : Addr} {od : Option Addr} (I : Inv X pins σ H s) (h : H a = some (XO a C od)) (hd : ∀ d, od = some d → ∃ o, s.heap.get? d = some o) : ∃ ox odx, PySem.W.InstAt s.heap a ox C odx := by
  obtain ⟨ox, vs, g, ce, oo, de⟩ := xo_at I h
  cases e : od with
  | none => exact ⟨ox, none, g, ce, notCls_f de, by rw [oo, e]; trivial⟩
  | some d =>
    obtain ⟨o, go⟩ := hd d e
    exact ⟨ox, some o, g, ce, notCls_f de, by rw [oo, e]; exact go⟩
end
def rIsin (K : PySem.W.Frag) : List V → Hp → VK → Prop := fun xs H Q => ∃ x c, xs = [x, c] ∧ ((∃ t cv b, TyOf K H x t ∧ clsV c = some cv ∧ PySem.W.kitOne K t cv = some b ∧ Q (.bl b) H) ∨
  (∃ a C od cv b, x = .ref a ∧ H a = some (XO a C od) ∧ (∀ d, od = some d → ∃ fs, H d = some (XD d fs)) ∧ XC K C ∧ clsV c = some cv ∧ PySem.W.kitOne K (.ref C) cv = some b ∧ Q (.bl b) H) ∨
  (∃ a C od p cs cv b, x = .ref a ∧ H a = some (XO a C od) ∧ (∀ d, od = some d → ∃ fs, H d = some (XD d fs)) ∧ XC K C ∧ c = .ref p ∧ SqT K H p cs ∧ clsVs cs = some cv ∧ PySem.W.kitAny K (.ref C) cv = some b ∧ Q (.bl b) H))
section
variable {X : Cx}
theorem call_isin : CallR X (.builtin "isinstance") (rIsin X.K) := by
  intro pins s σ H us xs Q I r h
  obtain ⟨x, c, rfl, h⟩ := h
  obtain ⟨u, v, rfl, ru, rv⟩ := vals2 r
  rcases h with ⟨t, cv, b, ty, ec, ek, q⟩ | ⟨a, C, od, cv, b, rfl, ha, hd, xc, ec, ek, q⟩ | ⟨a, C, od, p, cs, cv, b, rfl, ha, hd, xc, rfl, hp, ec, ek, q⟩
  · obtain rfl := clsV_rel ec rv
    exact isinst_ok I ru ty ek fun tk => ⟨.bl b, H, I.tok tk, rfl, q⟩
  · obtain rfl := clsV_rel ec rv
    obtain rfl : u = Value.ref a := ru
    refine PySem.W.kia_one (kitx_x xc) I.kIn (xo_inst I ha fun d e => ?_) ek (fun z => nomatch z) fun tk => ⟨.bl b, H, I.tok tk, rfl, q⟩
    obtain ⟨fs, hw⟩ := hd d e
    obtain ⟨_, _, ⟨o, _, _, go, _⟩, _⟩ := xd_at I hw
    exact ⟨o, go⟩
  · obtain rfl : u = Value.ref a := ru
    obtain rfl : v = Value.ref p := rv
    obtain ⟨its, vi, it, _⟩ := I.tuple hp
    obtain rfl := clsVs_rel ec vi
    obtain ⟨o, g, oc, n, od'⟩ := it
    obtain ⟨c1, d1, dt1, sl1⟩ := o
    dsimp only at oc od'
    subst oc od'
    refine PySem.W.kia_tup (kitx_x xc) I.kIn (xo_inst I ha fun d e => ?_) g ek (fun z => nomatch z) fun tk => ⟨.bl b, H, I.tok tk, rfl, q⟩
    obtain ⟨fs, hw⟩ := hd d e
    obtain ⟨_, _, ⟨o, _, _, go, _⟩, _⟩ := xd_at I hw
    exact ⟨o, go⟩
end
end L2
set_option maxRecDepth 100000
namespace L2
open PySem PySem.Spec PyProof.Rows XL
variable {q0 : Bool}
def frees (scope : Scope) : List Str := (scope.names.filter fun x => x.2 == .free).map (·.1)
def Cx.clo (X : Cx) (scope : Scope) : List (Str × Addr) := (frees scope).reverse.map fun n => (n, (X.env.cells.lookup n).getD 0)
theorem closure_of {env : Env} {f : Str → Addr} : ∀ (l : List (Str × NameKind)) (acc : List (Str × Addr)), (∀ x ∈ l, x.2 = .free → env.cells.lookup x.1 = some (f x.1)) →
    (forIn l acc fun x cs => (if x.2 == .free then do let c ← cellOf env x.1; pure (ForInStep.yield ((x.1, c) :: cs)) else pure (ForInStep.yield cs) : Sem (ForInStep (List (Str × Addr))))) =
      pure ((((l.filter fun x => x.2 == .free).map (·.1)).reverse.map fun n => (n, f n)) ++ acc)
  | [], acc, _ => rfl
  | x :: r, acc, h => by
    have ih := fun a => closure_of r a fun y hy => h y (List.mem_cons_of_mem _ hy)
    rw [List.forIn_cons]
    by_cases q : x.2 = .free
    · have e := h x List.mem_cons_self q
      have qb : (x.2 == NameKind.free) = true := by rw [q]; rfl
      rw [if_pos qb, List.filter_cons, if_pos qb]
      have ec : cellOf env x.1 = pure (f x.1) := by unfold cellOf; rw [e]
      rw [ec]
      simp only [pure_bind]
      rw [ih]
      simp
    · have qb : (x.2 == NameKind.free) = false := by simpa using q
      rw [if_neg (by rw [qb]; decide), List.filter_cons, if_neg (by rw [qb]; decide)]
      simp only [pure_bind]
      rw [ih]
theorem clo_of {X : Cx} {scope : Scope} (h : ∀ n ∈ frees scope, ∃ c, X.env.cells.lookup n = some c) : closureFor scope X.env = pure (X.clo scope) := by
  unfold closureFor
  have z := closure_of (env := X.env) (f := fun n => (X.env.cells.lookup n).getD 0) scope.names [] fun x hx hf => by
    obtain ⟨c, e⟩ := h x.1 (List.mem_map.mpr ⟨x, List.mem_filter.mpr ⟨hx, by simp [hf]⟩, rfl⟩)
    rw [e]
    rfl
  rw [List.append_nil] at z
  refine (bind_pure (m := Sem) _).trans ?_
  exact z
theorem clo_mem {X : Cx} {scope : Scope} {n : Str} {c : Addr} (h : (X.clo scope).lookup n = some c) : n ∈ frees scope ∧ c = (X.env.cells.lookup n).getD 0 := by
  have z := PySem.mem_of_lookup h
  unfold Cx.clo at z
  obtain ⟨y, hy, e⟩ := List.mem_map.mp z
  injection e with e1 e2
  subst e1
  exact ⟨List.mem_reverse.mp hy, e2.symm⟩
theorem lookup_map_self {f : Str → Addr} {n : Str} : ∀ {l : List Str}, n ∈ l → (l.map fun y => (y, f y)).lookup n = some (f n)
  | [], h => by simp at h
  | y :: r, h => by
    rw [List.map_cons, List.lookup_cons]
    by_cases q : n = y
    · subst q
      simp
    · rw [show (n == y) = false from by simpa using q]
      exact lookup_map_self ((List.mem_cons.mp h).resolve_left q)
theorem clo_get {X : Cx} {scope : Scope} {n : Str} {c : Addr} (hn : n ∈ frees scope) (h : X.env.cells.lookup n = some c) : (X.clo scope).lookup n = some c := by
  have z := lookup_map_self (f := fun n => (X.env.cells.lookup n).getD 0) (List.mem_reverse.mpr hn)
  unfold Cx.clo
  rw [z, h]
  rfl
section
variable {X : Cx} {pins : List (Addr × Obj)} {σ : St} {H : Hp} {s : Shared} {scope : Scope} {x : Str} {ys : List Str} {fr : List Nat} {fp : List Addr}
end
section
variable {X : Cx} {pins : List (Addr × Obj)} {σ : St} {H : Hp} {s : Shared} {scope : Scope} {x : Str} {ys : List Str} {fr : List Nat} {fp : List Addr}
end
def tTrue : TT := fun _ H Q => Q true H
def PIf (X : Cx) (ifs : List Expr) (t : TT) : Prop :=
  ∀ (pins : List (Addr × Obj)) (s : Shared) (σ : St) (H : Hp) (Q : Bool → Hp → Prop), Inv X pins σ H s → t σ H Q →
    wpAny (model X.prog X.w) X.A (forIn ifs true fun c r => if r = true then do let ok ← isTrue c X.env (eval c X.env); pure (ForInStep.yield ok) else pure (ForInStep.yield r)) (TP X pins σ Q) X.xe s
theorem pif_nil {X : Cx} : PIf X [] tTrue := fun pins s σ H Q I h => wpAny_pure ⟨H, I, h⟩
theorem pif_one {X : Cx} {c : Expr} {t : TT} (hc : PT X c t) : PIf X [c] t := fun pins s σ H Q I h => by
  rw [List.forIn_cons]
  refine wpAny_bind ?_
  rw [if_pos rfl]
  refine wpAny_bind (wpAny_mono (hc pins s σ H Q I h) (fun b s1 q => wpAny_pure ?_) fun _ _ z => z)
  exact wpAny_pure q
section
variable {X : Cx} {scope : Scope} {x : Str} {ys : List Str} {fr : List Nat} {elt iter : Expr} {ifs : List Expr} {px pos : Pos} {wi : TI} {tc : TT} {te : TE}
end
end L2
set_option maxRecDepth 100000
namespace L2
open PySem PySem.Spec PyProof.Rows XL
variable {q0 : Bool}
theorem relab_has {env : Env} {scope : Scope} (nc : ∀ y ∈ scope.names, y.2 ≠ .cell) (n : Str) (h : (relabel scope env).names.lookup n = some .cell ∨ (relabel scope env).names.lookup n = some .free) : n ∈ frees scope := by
  have key : ∀ k, (relabel scope env).names.lookup n = some k → (k = .cell ∨ k = .free) → n ∈ frees scope := fun k e hk => by
    obtain ⟨y, hy, ey⟩ := List.mem_map.mp (PySem.mem_of_lookup e)
    obtain ⟨m, j⟩ := y
    dsimp only at ey
    split at ey
    · rename_i q
      injection ey with e1 e2
      subst e1
      have : j = .free := by
        simp only [Bool.and_eq_true, beq_iff_eq] at q
        exact q.1.1
      subst this
      exact List.mem_map.mpr ⟨_, List.mem_filter.mpr ⟨hy, by simp⟩, rfl⟩
    · injection ey with e1 e2
      subst e1 e2
      rcases hk with z | z
      · exact absurd z (nc _ hy)
      · subst z
        exact List.mem_map.mpr ⟨_, List.mem_filter.mpr ⟨hy, by simp⟩, rfl⟩
  rcases h with h | h
  · exact key _ h (.inl rfl)
  · exact key _ h (.inr rfl)
theorem relab_free {env : Env} {scope : Scope} {n : Str} (h : scope.names.lookup n = some .free) : (relabel scope env).names.lookup n = some .cell ∨ (relabel scope env).names.lookup n = some .free := by
  have key : ∀ (l : List (Str × NameKind)), l.lookup n = some .free → (l.map fun (m, k) => if (k == NameKind.free && env.scope.kind == .function && env.kindOf m == some .cell) then (m, NameKind.cell) else (m, k)).lookup n = some .cell ∨
      (l.map fun (m, k) => if (k == NameKind.free && env.scope.kind == .function && env.kindOf m == some .cell) then (m, NameKind.cell) else (m, k)).lookup n = some .free := fun l => by
    induction l with
    | nil => intro e; simp at e
    | cons y r ih =>
      intro e
      obtain ⟨m, k⟩ := y
      rw [List.map_cons]
      rw [List.lookup_cons] at e
      cases q : n == m with
      | true =>
        rw [q] at e
        cases e
        dsimp only
        split
        · left; rw [List.lookup_cons, q]
        · right; rw [List.lookup_cons, q]
      | false =>
        rw [q] at e
        have z := ih e
        dsimp only
        split <;> (rw [List.lookup_cons, q]; exact z)
  exact key _ h
section
variable {P : Program} {w : World} {K : PySem.W.Frag} {mg : Str → Option Value} {base : Heap}
theorem Fun.okn {x qual : Str} {st : Stmt} {f : Addr} {fd : FuncData} {N ps : List Str} {k : Nat} {sp : Sp} (F : Fun K x qual st f fd) (S : FnScope N ps (defScope st)) (len : ∀ vs H Q E, sp vs H Q E → vs.length = ps.length)
    (hbody : ∀ (cdv : Value) (A : Around) (outer : List Env) (s : Shared) (H : Hp) (vs : List V) (Q : VK) (E : XK), Room q0 k (A.deeper (envOfC qual (defScope st) s.heap.objs.size f cdv)) → sp vs H Q E →
      ∃ t, PSs (cxOf q0 (CXo P w) P w K mg base N qual (defScope st) f cdv A outer s H E).nox (defBody st) t ∧ t { nx := fun _ H' => Q .non H', rt := Q } (start N vs) H) : FnOk q0 P w K mg base (CXo P w) (k + 1) f fd ps sp := by
  obtain ⟨oc, od, kV, doc, pm, an, cdv, ct, osl, rfl, lk, hcd⟩ := F.ex
  refine fn_of lk hcd S len fun A outer s H vs Q E hr hsp => ?_
  obtain ⟨t, h, q⟩ := hbody cdv A outer s H vs Q E hr hsp
  exact ⟨t, h.nox, q⟩
end
end L2
set_option maxRecDepth 100000
namespace L2
open PySem PySem.Spec PyProof.Rows XL
theorem ifP {b : Bool} {A B : Prop} (h : b = true) (q : A) : if b = true then A else B := by
  rw [if_pos h]
  exact q
theorem ifN {b : Bool} {A B : Prop} (h : b = false) (q : B) : if b = true then A else B := by
  rw [if_neg (by rw [h]; decide)]
  exact q
end L2
set_option maxRecDepth 100000
namespace L2
open PySem PySem.Spec PyProof.Rows XL
section
variable {X : Cx}
theorem op_le_str : OpR X (compareOp .LtE) (fun x y H Q => ∃ i j, x = .str i ∧ y = .str j ∧ Q (.bl (!decide (j.cps.toList < i.cps.toList))) H) := by
  intro pins s σ H x y v u Q I rx ry h
  obtain ⟨i, j, rfl, rfl, q⟩ := h
  obtain ⟨t, rfl⟩ := rx
  obtain ⟨t', rfl⟩ := ry
  exact PySem.P.le_str (fin_bl I q rfl)
theorem call_range2 : CallR X (.type "range") (fun xs H Q => ∃ i j, xs = [.int i, .int j] ∧ ∀ p, H p = none → Q (.ref p) (upd H p (.rng i j))) := by
  intro pins s σ H xs us Q I r h
  obtain ⟨i, j, rfl, q⟩ := h
  obtain ⟨u, w', rfl, ⟨t, rfl⟩, ⟨t', rfl⟩⟩ := vals2 r
  refine call_range_2 ⟨.ref s.heap.objs.size, _, I.laid (t' := s.toks + 1) (fun b o e => Heap.get?_push_of_some _ e) (Nat.le_refl _) (show ObjOk X.prog X.w _ _ _ (.rng i j) from ⟨_, _, _, Heap.get?_push_size _ rfl⟩), rfl, q _ (I.hok.fresh (Nat.le_refl _))⟩
end
end L2
set_option maxRecDepth 100000
namespace L2
open PySem PySem.Spec PyProof.Rows
variable {q0 : Bool}
section
variable {X : Cx}
theorem vals_of : ∀ {us : List Value} {ys : List V}, us.length = ys.length → (∀ (j : Nat) (y : V) (u : Value), ys[j]? = some y → us[j]? = some u → RelV y u) → Vals ys us
  | [], [], _, _ => .nil
  | u :: us, y :: ys, hl, h => .cons (h 0 y u rfl rfl) (vals_of (Nat.succ.inj hl) fun j y' u' e e' => h (j + 1) y' u' e e')
def rngL (lo hi : Int) : List V := (List.range (hi - lo).toNat).map fun (i : Nat) => V.int (lo + (i : Int))
theorem call_list_rng (hc : X.calm = true) : CallR X (.type "list") (fun xs H Q => ∃ p lo hi, xs = [.ref p] ∧ H p = some (.rng lo hi) ∧ (-(2 ^ 62) ≤ lo ∧ lo < 2 ^ 62 ∧ -(2 ^ 62) ≤ hi ∧ hi < 2 ^ 62) ∧ (hi - lo).toNat ≤ 1000 ∧
    ∀ l, H l = none → Q (.ref l) (upd H l (.lst (rngL lo hi)))) := by
  intro pins s σ H xs us Q I r h
  obtain ⟨p, lo, hi, rfl, hp, ⟨h1, h2, h3, h4⟩, hn, q⟩ := h
  obtain ⟨u, rfl, rx⟩ := vals1 r
  cases rx
  obtain ⟨t1, t2, t3, g⟩ := (show ObjOk X.prog X.w H s.heap p (.rng lo hi) from I.hok p _ hp)
  refine call_list_range (I.ok.hd hc) g (small_one h1 h2 h3 h4) (n := (hi - lo).toNat) (by rw [rangeSize_one]; split <;> omega) (Nat.le_trans hn (by decide)) fun h' tk acc' c' kp e it => ?_
  have len : acc'.toList.length = (rngL lo hi).length := by rw [rngL, List.length_map, List.length_range]; exact it.1
  refine ⟨.ref s.heap.objs.size, _, I.laid (t' := tk) kp (Nat.le_refl _) (show ObjOk X.prog X.w _ h' _ (.lst (rngL lo hi)) from ⟨?_, acc'.toList, c', vals_of len fun j y u ey eu => ?_, by simpa using e⟩), rfl, q _ (I.hok.fresh (Nat.le_refl _))⟩
  · rw [rngL, List.length_map, List.length_range]
    exact Nat.le_trans hn (by decide)
  · have eu' : acc'[j]? = some u := by simpa using eu
    obtain ⟨t, e2⟩ := it.2 j u eu'
    have lt : j < (hi - lo).toNat := by
      have := (List.getElem?_eq_some_iff.mp ey).1
      simpa [rngL] using this
    rw [rngL, List.getElem?_map, List.getElem?_range lt] at ey
    cases ey
    exact ⟨t, by rw [e2, Int.mul_one]⟩
end
end L2
set_option maxRecDepth 100000
namespace L2
open PySem PySem.Spec PyProof.Rows
variable {q0 : Bool}
structure FunD (K : PySem.W.Frag) (x qual : Str) (st : Stmt) (T f : Addr) (fd : FuncData) : Prop where
  ex : ∃ (oc : Value) (od : Option Addr) (kV doc pm : Value) (an : Option Addr) (cdv ct : Value) (osl : Array (Option Value)),
    fd = PySem.W.fnOf x qual (defArgs st) (defBody st) (defScope st) (.ref T) kV doc pm an cdv ct ∧ K.lookup f = some ⟨oc, od, .func fd, osl⟩ ∧ PySem.W.codeIn K cdv qual = true
  kp : PySem.W.keepIn K (.ref f) = true
section
variable {P : Program} {w : World} {K : PySem.W.Frag} {mg : Str → Option Value} {base : Heap}
theorem FunD.okn {x qual : Str} {st : Stmt} {T f : Addr} {fd : FuncData} {N ps : List Str} {k : Nat} {sp : Sp} (F : FunD K x qual st T f fd) (S : FnScope N ps (defScope st)) (len : ∀ vs H Q E, sp vs H Q E → vs.length = ps.length)
    (hbody : ∀ (cdv : Value) (A : Around) (outer : List Env) (s : Shared) (H : Hp) (vs : List V) (Q : VK) (E : XK), Room q0 k (A.deeper (envOfC qual (defScope st) s.heap.objs.size f cdv)) → sp vs H Q E →
      ∃ t, PSs (cxOf q0 (CXo P w) P w K mg base N qual (defScope st) f cdv A outer s H E).nox (defBody st) t ∧ t { nx := fun _ H' => Q .non H', rt := Q } (start N vs) H) : FnOk q0 P w K mg base (CXo P w) (k + 1) f fd ps sp := by
  obtain ⟨oc, od, kV, doc, pm, an, cdv, ct, osl, rfl, lk, hcd⟩ := F.ex
  refine fn_of lk hcd S len fun A outer s H vs Q E hr hsp => ?_
  obtain ⟨t, h, q⟩ := hbody cdv A outer s H vs Q E hr hsp
  exact ⟨t, h.nox, q⟩
theorem FunD.binds {x qual : Str} {st : Stmt} {T f : Addr} {fd : FuncData} {ps : List Str} {o : Obj} {items : Array Value} {n : Nat} {ds : List Value} (F : FunD K x qual st T f fd) (ho : K.lookup T = some o) (hs : o.data = .seq items n) (m : Nat) (hm : m + ds.length = ps.length)
    (h : ∀ (kV doc pm : Value) (an : Option Addr) (cdv ct : Value) (us : List Value), us.length = m →
      ∃ k, bindArgs (PySem.W.fnOf x qual (defArgs st) (defBody st) (defScope st) (.ref T) kV doc pm an cdv ct) ⟨us, []⟩ = seqItems? (.ref T) >>= k ∧ k (some items) = pure (ps.zip (us ++ ds))) : Binds K fd ps ds := by
  obtain ⟨oc, od, kV, doc, pm, an, cdv, ct, osl, rfl, lk, hcd⟩ := F.ex
  intro s us hK hl
  rw [List.length_append] at hl
  obtain ⟨k, h1, h2⟩ := h kV doc pm an cdv ct us (by omega)
  exact BindsTo.of_defaults rfl (hK _ _ ho) hs h1 h2
theorem fund_mk {x qual : Str} {st : Stmt} {T f : Addr} {oc : Value} {od an : Option Addr} {osl : Array (Option Value)} {kV doc pm cdv ct : Value} (l : K.lookup f = some ⟨oc, od, .func (PySem.W.fnOf x qual (defArgs st) (defBody st) (defScope st) (.ref T) kV doc pm an cdv ct), osl⟩)
    (c : PySem.W.codeIn K cdv qual = true) (k : PySem.W.keepIn K (.ref f) = true) : FunD K x qual st T f (PySem.W.fnOf x qual (defArgs st) (defBody st) (defScope st) (.ref T) kV doc pm an cdv ct) := ⟨⟨oc, od, kV, doc, pm, an, cdv, ct, osl, rfl, l, c⟩, k⟩
end
end L2
set_option maxRecDepth 100000
namespace L2
open PySem PySem.Spec PyProof.Rows XL
variable {q0 : Bool}
abbrev Cx.blkG (X : Cx) (scope : Scope) (zs : List Str) (ys : List Str) (C : Addr) (ex : List Addr) (s : Shared) (H : Hp) (pn : List (Addr × Obj)) : Cx where
  prog := X.prog
  w := X.w
  K := X.K
  mg := X.mg
  base := X.base
  A := X.A
  N := zs ++ ys
  s₀ := s
  H₀ := H
  env := compEnvC scope (X.clo scope) C X.env
  outer := X.stack
  stack := X.stack
  ex := ex
  fn := fun _ => false
  calm := X.calm
  pn := pn
  xe := fun _ _ => False
theorem compLoop_testsG {prog : Program} {w : World} {A : Around} {R : Result → Shared → Prop} {s : Shared} {elt target iter : Expr} {ifs : List Expr} {scope : Scope} {pos : Pos} {it acc : Value} {env : Env} (I : Nat → Shared → Prop)
    (turn : ∀ n s, I n s → wpAny (model prog w) A (pyNext it) (fun r s₁ => match r with
      | none => R (.ok .next) s₁
      | some v => wpAny (model prog w) A (letOwnedTupleGo target it v) (fun _ s₀ => wpAny (model prog w) A (assign target env v) (fun _ s₂ =>
          wpAny (model prog w) A (forIn ifs true fun c r => if r = true then do let ok ← isTrue c env (eval c env); pure (ForInStep.yield ok) else pure (ForInStep.yield r)) (fun ok s₃ =>
            if ok = true then wpAny (model prog w) A (eval elt env) (fun x s₄ =>
              wpAny (model prog w) A (call (.builtin "list.append") [acc, x]) (fun _ s₅ => ∃ m, m < n ∧ I m s₅) (notedBy (model prog w) A env fun e s' => R (.error e) s') s₄) (notedBy (model prog w) A env fun e s' => R (.error e) s') s₃
            else ∃ m, m < n ∧ I m s₃) (notedBy (model prog w) A env fun e s' => R (.error e) s') s₂) (notedBy (model prog w) A env fun e s' => R (.error e) s') s₀) (notedBy (model prog w) A env fun e s' => R (.error e) s') s₁) (notedBy (model prog w) A env fun e s' => R (.error e) s') s)
    (n : Nat) (h : I n s) : codeAny (model prog w) A (.compLoop (.ListComp elt [⟨target, iter, ifs, 0⟩] scope pos) 0 it acc env) R s := by
  refine codeAny_loop rfl I (fun n s hI => ?_) n h
  show wpAny _ A ((compTurn (.ListComp elt [⟨target, iter, ifs, 0⟩] scope pos) 0 it acc env).onRaise (fun x => do noteFrame x env; theTreesLotGoes x)) _ _ s
  refine wpAny_noted ?_
  rw [compTurn_list]
  refine wpAny_bind (wpAny_standAt (wpAny_bind (wpAny_mono (turn n s hI) (fun r s₁ h₁ => ?_) fun _ _ h' => h')))
  cases r with
  | none => exact wpAny_pure h₁
  | some v =>
    refine wpAny_bind (wpAny_mono h₁ (fun _ s₀ h₀ => wpAny_bind (wpAny_mono h₀ (fun _ s₂ h₂ => wpAny_bind (wpAny_mono h₂ (fun ok s₃ h₃ => ?_) fun _ _ h' => h')) fun _ _ h' => h')) fun _ _ h' => h')
    cases ok with
    | false => exact wpAny_pure ⟨rfl, h₃⟩
    | true =>
      exact wpAny_bind (wpAny_bind (wpAny_mono h₃ (fun x s₄ h₄ => wpAny_bind (wpAny_mono h₄ (fun _ s₅ h₅ => wpAny_pure (wpAny_pure ⟨rfl, h₅⟩)) fun _ _ h' => h')) fun _ _ h' => h'))
structure BlkG (X : Cx) (scope : Scope) (zs : List Str) (ys : List Str) (fr : List Nat) : Prop where
  kind : scope.kind = .function
  own : ∀ x ∈ zs, scope.names.lookup x = some .local
  ncell : ∀ y ∈ scope.names, y.2 ≠ .cell
  names : ∀ y ∈ scope.names, y.2 = .local → scope.names.lookup y.1 = some .local
  free : ∀ n ∈ frees scope, X.env.scope.names.lookup n = some .cell
  has : ∀ n, ((relabel scope X.env).names.lookup n = some .cell ∨ (relabel scope X.env).names.lookup n = some .free) → n ∈ frees scope
  slots : fr.map (fun i => X.N[i]?) = ys.map some
  ysf : ∀ y ∈ ys, y ∈ frees scope
  ysc : ∀ y ∈ ys, (relabel scope X.env).names.lookup y = some .cell ∨ (relabel scope X.env).names.lookup y = some .free
  nd : X.N.Nodup
  ndb : (zs ++ ys).Nodup
def blk0 (σ : St) (fr : List Nat) (n : Nat) : St := List.replicate n none ++ fr.map fun i => (σ[i]?).join
section
variable {X : Cx} {pins : List (Addr × Obj)} {σ : St} {H : Hp} {s : Shared} {scope : Scope} {zs : List Str} {ys : List Str} {fr : List Nat} {fp : List Addr}
theorem BlkG.cells (B : BlkG X scope zs ys fr) (I : Inv X pins σ H s) : ∀ n ∈ frees scope, ∃ c, X.env.cells.lookup n = some c := fun n hn => I.ok.has n (.inl (B.free n hn))
theorem BlkG.sub (B : BlkG X scope zs ys fr) (I : Inv X pins σ H s) {n : Str} {c : Addr} (h : (X.clo scope).lookup n = some c) : X.env.cells.lookup n = some c := by
  obtain ⟨a, b⟩ := clo_mem h
  obtain ⟨d, e⟩ := B.cells I n a
  rw [e] at b
  rw [b, e]
  rfl
theorem Inv.blkG {h1 : Heap} {m1 : Str → Option Value} {t' : Nat} (B : BlkG X scope zs ys fr) (I : Inv X pins σ H s) (hf : ∀ b ∈ fp, FpOk X pins H b) (hz : ∀ b ∈ fp, b < s.heap.objs.size) (n1 : h1.Ns s.heap.objs.size m1) (k1 : ∀ b o, s.heap.get? b = some o → h1.get? b = some o) :
    Inv (X.blkG scope zs ys s.heap.objs.size fp s H (X.pn ++ pins)) [] (blk0 σ fr zs.length) H { s with heap := h1, toks := t' } := by
  have sub : ∀ n c, (X.clo scope).lookup n = some c → X.env.cells.lookup n = some c := fun n c h => B.sub I h
  have cz : ∀ n c, X.env.cells.lookup n = some c → c < s.heap.objs.size := fun n c e => by
    obtain ⟨v, o, ho, _⟩ := I.cell n c e
    exact Heap.lt_size ho
  have nfs : ∀ b ∈ fp, b ∉ frs X.stack := fun b hb z => (List.mem_cons.mp (I.stkSub b z)).elim (hf b hb).2.1 (hf b hb).2.2.1
  have fz : ∀ b, b ∈ frs X.stack → b < s.heap.objs.size := fun b hb => by
    obtain ⟨_, o, ho, _⟩ := I.stack.mem hb
    exact Heap.lt_size ho
  refine ⟨⟨I.ok.mod, B.kind, I.ok.glob, I.ok.blt, Nat.le_refl _, fun y z c h1 h2 => I.ok.inj y z c (sub y c h1) (sub z c h2), fun y hy => ?_, (fun y c hy _ => nomatch hy), I.ok.hd, I.ok.frames, .inl rfl, fun b hb => ⟨?_, fun y c h => (hf b hb).2.2.2.2.1 y c (sub y c h)⟩,
      I.bs, Nat.le_trans I.ok.bsz I.sz, fun b o e hb => ?_, fun b hb => nfs b hb, I.stack, I.stkFree⟩,
    rfl, I.bare, Un.kept k1, ⟨m1, n1, fun i y v e1 e2 e3 => ?_⟩, fun y c h => ?_, I.hok.fresh (Nat.le_refl _), fun y c h => I.freeC y c (sub y c h), fun p hp => ?_, I.hok.kept k1, ?_⟩
  · obtain ⟨c, e⟩ := B.cells I y (B.has y hy)
    exact ⟨c, clo_get (B.has y hy) e⟩
  · exact Nat.ne_of_lt (hz b hb)
  · rcases (hf b hb).2.2.2.1 with z | z
    · exact I.ok.noex b o e z
    · exact absurd (Nat.lt_of_lt_of_le (Heap.lt_size (I.ok.bs b o e).1) z) (Nat.lt_irrefl _)
  · have ln : (List.replicate zs.length (none : Option V)).length = zs.length := List.length_replicate
    by_cases lt : i < zs.length
    · have e2' : (blk0 σ fr zs.length)[i]? = some (some v) := e2
      unfold blk0 at e2'
      rw [List.getElem?_append_left (by rw [ln]; exact lt), List.getElem?_replicate] at e2'
      split at e2' <;> cases e2'
    · obtain ⟨k, rfl⟩ : ∃ k, i = zs.length + k := ⟨i - zs.length, by omega⟩
      have e2' : (fr.map fun i => (σ[i]?).join)[k]? = some (some v) := by
        have z : (blk0 σ fr zs.length)[zs.length + k]? = some (some v) := e2
        unfold blk0 at z
        rw [List.getElem?_append_right (by rw [ln]; omega), ln] at z
        simpa using z
      have e1' : ys[k]? = some y := by
        have z : (zs ++ ys)[zs.length + k]? = some y := e1
        rw [List.getElem?_append_right (by omega)] at z
        simpa using z
      rw [List.getElem?_map] at e2'
      obtain ⟨j, hj, ej⟩ := Option.map_eq_some_iff.mp e2'
      have ev : σ[j]? = some (some v) := by
        cases q : σ[j]? with
        | none => rw [q] at ej; cases ej
        | some w => rw [q] at ej; exact congrArg some ej
      have eN : X.N[j]? = some y := by
        have z := congrArg (fun l => l[k]?) B.slots
        simp only [List.getElem?_map, hj, e1', Option.map_some] at z
        exact Option.some.inj z
      have my : y ∈ ys := List.mem_of_getElem? e1'
      obtain ⟨m, _, lk⟩ := I.loc
      obtain ⟨u, r, l⟩ := lk j y v eN ev (.inr (.inl (B.free y (B.ysf y my))))
      refine ⟨u, r, .inr ⟨B.ysc y my, ?_⟩⟩
      rcases l with ⟨kk, _⟩ | ⟨_, c, e, o, ho, hd⟩
      · have z := B.free y (B.ysf y my)
        rw [show X.env.scope.names.lookup y = some .local from kk] at z
        cases z
      · exact ⟨c, clo_get (B.ysf y my) e, o, k1 c o ho, hd⟩
  · obtain ⟨v, o, ho, hd⟩ := I.cell y c (sub y c h)
    exact ⟨v, o, k1 c o ho, hd⟩
  · have hp' : p ∈ X.pn ++ pins := by simpa using hp
    obtain ⟨a1, a2, a3, a4, a5⟩ := I.pin p hp'
    exact ⟨k1 _ _ a1, a2, Nat.ne_of_lt (Heap.lt_size a1), fun z => (List.mem_cons.mp (I.stkSub _ z)).elim a3 a4, a5⟩
  · have z := congrArg List.length B.slots
    simp only [List.length_map] at z
    simp [blk0, z]
end
section
variable {X : Cx} {pins : List (Addr × Obj)} {σ : St} {H : Hp} {s : Shared} {scope : Scope} {zs : List Str} {ys : List Str} {fr : List Nat} {fp : List Addr}
theorem Inv.unblkG {C : Addr} {s' : Shared} {h2 : Heap} {σ' : St} {H' : Hp} {pl : List (Addr × Obj)} (I : Inv X pins σ H s) (hf : ∀ b ∈ fp, FpOk X pins H b) (hC : s.heap.objs.size ≤ C) (J : Inv (X.blkG scope zs ys C fp s H (X.pn ++ pins)) pl σ' H' s') (sb : Heap.SameBut C s'.heap h2) :
    Inv X pins σ H' { s' with heap := h2 } := by
  have kp : ∀ b o, b ≠ C → s'.heap.get? b = some o → h2.get? b = some o := fun b o nb g => (sb.2 b nb).trans g
  have old : ∀ b o, s.heap.get? b = some o → b ≠ C := fun b o g => Nat.ne_of_lt (Nat.lt_of_lt_of_le (Heap.lt_size g) hC)
  have trk : ∀ b u, H' b = some u → b ≠ C := fun b u hb z => by
    have f : H' C = none := J.free
    rw [z, f] at hb
    cases hb
  refine I.call' (s' := { s' with heap := h2 }) J.os (ch := fp) ⟨fun b o e n hb hx => kp b o (old b o e) (J.base.keep b o e n hb hx), fun b o e n hb hx => ?_, fun b o e n hx => J.base.free b o e n hx, fun b o e hx => ?_, J.base.tups, J.base.frzs, J.base.tbls⟩ (fun b u hb => ?_) J.bare fun b hb => ?_
  · obtain ⟨sl, q⟩ := J.base.slot b o e n hb hx
    exact ⟨sl, kp b _ (old b o e) q⟩
  · obtain ⟨o', q⟩ := J.base.there b o e hx
    exact ⟨o', kp b o' (old b o e) q⟩
  · refine (J.hok b u hb).stay (fun c v hc q => ?_) (fun c q => q) fun c xs q => q
    rcases hc with rfl | hc
    · exact kp c v (trk c u hb) q
    · exact kp c v (trk c _ hc) q
  · obtain ⟨_, a1, _, a3, a4, a5⟩ := hf b hb
    exact ⟨a3, a1, a4, a5⟩
end
def GOk (n : Nat) (g : TG) : Prop := ∀ v σ H Q, g v σ H Q → g v σ H (fun σ' H' => Q σ' H' ∧ σ'.length = σ.length ∧ ∀ i, n ≤ i → σ'[i]? = σ[i]?)
theorem gok_name {i n : Nat} (h : i < n) : GOk n (gName i) := fun v σ H Q q => ⟨q, by simp, fun j hj => by rw [List.getElem?_set_ne (by omega)]⟩
def CompG (J : It) (n : Nat) (g : TG) (σ : St) (fr : List Nat) (tc : TT) (te : TE) (l : Addr) (H1 : Hp) (Q : VK) : Prop := ∃ W : Nat → Nat → List V → Hp → Prop, (∃ m, W 0 m [] (upd H1 l (.lst []))) ∧ ∀ i m xs H2, W i m xs H2 →
  (J.stop i H2 ∧ Q (.ref l) H2) ∨ (J.go i H2 ∧ ∀ v H3, J.yld i H2 v H3 → g v (blk0 σ fr n) H3 fun σ' H3' => tc σ' H3' fun b H4 => if b = true then
    (te σ' H4 fun y H5 => H5 l = some (.lst xs) ∧ xs.length < sizeLine ∧ ∃ m', m' < m ∧ W (i + 1) m' (xs ++ [y]) (upd H5 l (.lst (xs ++ [y])))) else ∃ m', m' < m ∧ W (i + 1) m' xs H4)
def tCompG (wi : TI) (n : Nat) (g : TG) (fr : List Nat) (tc : TT) (te : TE) : TE := fun σ H Q => wi σ H fun J H1 => ∀ l, H1 l = none → CompG J n g σ fr tc te l H1 Q
section
variable {X : Cx} {scope : Scope} {zs : List Str} {ys : List Str} {fr : List Nat} {elt iter tg : Expr} {g : TG} {ifs : List Expr} {px pos : Pos} {wi : TI} {tc : TT} {te : TE}
theorem comp_coreG {pins : List (Addr × Obj)} {s : Shared} {σ : St} {H : Hp} {Q : VK} {U : Option (Value → Sem Unit)} {R : Value → Shared → Prop} (hc : X.calm = true) (B : BlkG X scope zs ys fr) (hi : PI X tg iter wi) (hg : ∀ C ex s H pn, (∀ x ∈ zs, (relabel scope X.env).names.lookup x = some .local) → (zs ++ ys).Nodup → PG (X.blkG scope zs ys C ex s H pn) tg g) (gok : GOk zs.length g)
    (hif : ∀ C ex s H pn, PIf (X.blkG scope zs ys C ex s H pn) ifs tc) (he : ∀ C ex s H pn, PE (X.blkG scope zs ys C ex s H pn) elt te) (I : Inv X pins σ H s) (h : tCompG wi zs.length g fr tc te σ H Q)
    (fin : ∀ C l H' s' m, (X.s₀.heap.objs.size ≤ C ∧ C ≠ X.env.locals ∧ (∀ x c, X.env.cells.lookup x = some c → c ≠ C) ∧ ∀ p ∈ X.pn ++ pins, p.1 ≠ C) → H' C = none → s'.heap.Ns C m → (∀ h2, Heap.SameBut C s'.heap h2 → Inv X pins σ H' { s' with heap := h2 }) → Q (.ref l) H' → compPost (model X.prog X.w) X.A X.xe U R (.ref l) C (.ok .next) s') :
    wpAny (model X.prog X.w) X.A (eval iter X.env) (fun v s1 => wpAny (model X.prog X.w) X.A (pyIter v) (fun it s2 => wpAny (model X.prog X.w) X.A (newList []) (fun acc s3 =>
      wpAny (model X.prog X.w) X.A (newFunctionEnv scope X.env.globals (X.clo scope) [] X.env.qual none .none (some X.env)) (fun cenv s4 =>
        codeAny (model X.prog X.w) X.A (.compStart (.ListComp elt [⟨tg, iter, ifs, 0⟩] scope pos) 0 it acc { cenv with scope := relabel scope X.env }) (compPost (model X.prog X.w) X.A X.xe U R acc cenv.locals) s4) X.xe s3) X.xe s2) X.xe s1) X.xe s := by
  refine thn (hi pins s σ H _ I h) fun v s1 h1 => thn h1 fun itv s2 h2 => ?_
  obtain ⟨it, fp, tn, J, H2, rfl, I2, T, st2, f2, body⟩ := h2
  have hN : H2 s2.heap.objs.size = none := I2.hok.fresh (Nat.le_refl _)
  obtain ⟨W, ⟨m0, w0⟩, turn⟩ := body s2.heap.objs.size hN
  refine wpAny_newObj_type ?_
  generalize hs3 : ({ s2 with heap := s2.heap.push { cls := .type "list", data := .seq ([] : List Value).toArray } } : Shared) = s3
  have k3 : ∀ b o, s2.heap.get? b = some o → s3.heap.get? b = some o := fun b o g => by rw [← hs3]; exact Heap.get?_push_of_some _ g
  have I3 : Inv X pins σ (upd H2 s2.heap.objs.size (.lst [])) s3 := by
    rw [← hs3]
    exact I2.laid (t' := s2.toks) (fun b u e => Heap.get?_push_of_some _ e) (Nat.le_refl _) ⟨Nat.zero_le _, [], 0, .nil, Heap.get?_push_size _ rfl⟩
  have z2 : ∀ b ∈ fp, b < s2.heap.objs.size := fun b hb => by
    obtain ⟨o, g, _⟩ := T.obj 0 _ st2 b hb
    exact Heap.lt_size g
  have z3 : ∀ b ∈ fp, b < s3.heap.objs.size := fun b hb => by
    obtain ⟨o, g, _⟩ := T.obj 0 _ st2 b hb
    exact Heap.lt_size (k3 b o g)
  have f3 : ∀ b ∈ fp, FpOk X pins (upd H2 s2.heap.objs.size (.lst [])) b := fun b hb => ⟨by rw [upd_ne (Nat.ne_of_lt (z2 b hb))]; exact (f2 b hb).1, (f2 b hb).2⟩
  have st3 : tn 0 s3.heap := T.keep _ _ _ st2 fun b _ o g => k3 b o g
  refine wpAny_newFunctionEnv B.ncell (by intro y hy; simp at hy) (fun h1 n1 sb1 => ?_) B.kind
  have k4 : ∀ b o, s3.heap.get? b = some o → h1.get? b = some o := fun b o g => sb1.extBut b o (Nat.ne_of_lt (Heap.lt_size g)) (Heap.get?_push_of_some _ g)
  have I4 := I3.blkG (t' := s3.toks + ([] : List (Str × Value)).length) B f3 z3 n1 k4
  have st4 : tn 0 h1 := T.keep _ _ _ st3 fun b _ o g => k4 b o g
  have own' : ∀ x ∈ zs, (relabel scope X.env).names.lookup x = some .local := fun x hx => lookup_relabel_local (B.own x hx)
  -- the iterator's objects, through the loop
  have stat : ∀ {H' : Hp}, (∀ b ∈ fp, H' b = none) → ∀ b ∈ fp, FpOk (X.blkG scope zs ys s3.heap.objs.size fp s3 (upd H2 s2.heap.objs.size (.lst [])) (X.pn ++ pins)) [] H' b := fun hn b hb => by
    obtain ⟨_, a1, a2, a3, a4, a5⟩ := f3 b hb
    exact ⟨hn b hb, Nat.ne_of_lt (z3 b hb), fun z => (List.mem_cons.mp (I3.stkSub b z)).elim a1 a2, .inl hb, fun y c h => a4 y c (B.sub I3 h), fun p hp => a5 p (by simpa using hp)⟩
  have loop : ∀ s4 : Shared, s4 = { s3 with heap := h1, toks := s3.toks + ([] : List (Str × Value)).length } →
      codeAny (model X.prog X.w) X.A (.compLoop (.ListComp elt [⟨tg, iter, ifs, 0⟩] scope pos) 0 (.ref it) (.ref s2.heap.objs.size) (compEnvC scope (X.clo scope) s3.heap.objs.size X.env))
        (compPost (model X.prog X.w) X.A X.xe U R (.ref s2.heap.objs.size) s3.heap.objs.size) s4 := by
    rintro s4 rfl
    refine compLoop_testsG (fun n s' => ∃ i xs H', Inv (X.blkG scope zs ys s3.heap.objs.size fp s3 (upd H2 s2.heap.objs.size (.lst [])) (X.pn ++ pins)) [] (blk0 σ fr zs.length) H' s' ∧ tn i s'.heap ∧ (∀ b ∈ fp, H' b = none) ∧ W i n xs H') ?_ m0
      ⟨0, [], _, I4, st4, fun b hb => (f3 b hb).1, w0⟩
    rintro n s5 ⟨i, xs, H5, I5, st5, fr5, w5⟩
    rcases turn i n xs H5 w5 with ⟨stop, q⟩ | ⟨go, step⟩
    · refine wpAny_mono (T.done (X.blkG scope zs ys s3.heap.objs.size fp s3 (upd H2 s2.heap.objs.size (.lst [])) (X.pn ++ pins)) rfl rfl rfl hc i [] s5 _ H5 (fun _ _ => False) I5 (stat fr5) st5 stop) (fun r s6 ⟨hr, I6⟩ => ?_) fun _ _ z => z.elim
      subst hr
      obtain ⟨m, hm, _⟩ := I6.loc
      exact fin _ _ H5 s6 m ⟨I3.sz, (I3.size_lt (Nat.le_refl _)).2⟩ I6.free hm (fun h2 sb => I3.unblkG f3 (Nat.le_refl _) I6 sb) q
    · refine wpAny_mono (T.item (X.blkG scope zs ys s3.heap.objs.size fp s3 (upd H2 s2.heap.objs.size (.lst [])) (X.pn ++ pins)) rfl rfl rfl hc i [] s5 _ H5 (fun _ _ => False) I5 (stat fr5) st5 go) (fun r s6 ⟨u, hr, h6⟩ => ?_) fun _ _ z => z.elim
      subst hr
      refine wpAny_mono h6 (fun _ s7 ⟨y, H7, I7, r7, y7, st7, fr7⟩ => ?_) fun _ _ z => z.elim
      have I7' := I7.pinned (stat fr7) (T.obj _ _ st7)
      refine wpAny_mono (hg _ _ _ _ _ own' B.ndb _ s7 _ H7 y u _ I7' r7 (gok _ _ _ _ (step y H7 y7))) (fun _ s8 ⟨σ8, H8, I8, q8, l8, k8⟩ => ?_) fun _ _ z => z.elim
      have back : ∀ {s9 : Shared} {H9 : Hp} {xs' : List V}, Inv (X.blkG scope zs ys s3.heap.objs.size fp s3 (upd H2 s2.heap.objs.size (.lst [])) (X.pn ++ pins)) ([] ++ pinsAt fp s7.heap) σ8 H9 s9 → (∃ m', m' < n ∧ W (i + 1) m' xs' H9) →
          ∃ m, m < n ∧ ∃ i xs H', Inv (X.blkG scope zs ys s3.heap.objs.size fp s3 (upd H2 s2.heap.objs.size (.lst [])) (X.pn ++ pins)) [] (blk0 σ fr zs.length) H' s9 ∧ tn i s9.heap ∧ (∀ b ∈ fp, H' b = none) ∧ W i m xs H' := fun {s9 H9 xs'} I9 ⟨m', lt, w9⟩ => by
        refine ⟨m', lt, i + 1, xs', H9, I9.unpinned.weak l8.symm (fun j v e => ?_), T.keep _ _ _ st7 fun b hb o e => (I9.pin (b, o) (List.mem_append_right _ (List.mem_append_right _ (mem_pinsAt hb e)))).1, fun b hb => ?_, w9⟩
        · by_cases lj : j < zs.length
          · unfold blk0 at e
            rw [List.getElem?_append_left (by rw [List.length_replicate]; exact lj), List.getElem?_replicate] at e
            split at e <;> cases e
          · rw [k8 j (by omega)]
            exact e
        obtain ⟨o, e, d⟩ := T.obj _ _ st7 b hb
        exact (I9.pin (b, o) (List.mem_append_right _ (List.mem_append_right _ (mem_pinsAt hb e)))).2.1
      refine wpAny_mono (hif _ _ _ _ _ _ s8 _ H8 _ I8 q8) (fun ok s9 ⟨H9, I9, q9⟩ => ?_) fun _ _ z => z.elim
      cases ok with
      | false =>
        rw [if_neg (by decide)] at q9 ⊢
        exact back I9 q9
      | true =>
        rw [if_pos rfl] at q9 ⊢
        refine wpAny_mono (he _ _ _ _ _ _ s9 _ H9 _ I9 q9) (fun ev s10 ⟨yv, H10, I10, r10, hl, len, w10⟩ => ?_) fun _ _ z => z.elim
        refine wpAny_mono (mt_append (X := X.blkG scope zs ys s3.heap.objs.size fp s3 (upd H2 s2.heap.objs.size (.lst [])) (X.pn ++ pins)) _ s10 _ H10 (.ref s2.heap.objs.size) [yv] (.ref s2.heap.objs.size) [ev] (fun v H' => H' = upd H10 s2.heap.objs.size (.lst (xs ++ [yv]))) I10 rfl (.cons r10 .nil) ⟨_, xs, yv, rfl, rfl, hl, len, rfl⟩)
          (fun _ s11 ⟨_, H11, I11, _, e11⟩ => ?_) fun _ _ z => z.elim
        subst e11
        exact back I11 w10
  exact codeAny_compStart_list (loop _ rfl) (T.self _ 0 _ _ _ st4 (loop _ rfl))
theorem pe_compG (hc : X.calm = true) (B : BlkG X scope zs ys fr) (hi : PI X tg iter wi) (hg : ∀ C ex s H pn, (∀ x ∈ zs, (relabel scope X.env).names.lookup x = some .local) → (zs ++ ys).Nodup → PG (X.blkG scope zs ys C ex s H pn) tg g) (gok : GOk zs.length g) (hif : ∀ C ex s H pn, PIf (X.blkG scope zs ys C ex s H pn) ifs tc) (he : ∀ C ex s H pn, PE (X.blkG scope zs ys C ex s H pn) elt te)
    (hs : ∀ x, foldedSetIterable iter X.env x = pure x := by intro _; rfl) : PE X (.ListComp elt [⟨tg, iter, ifs, 0⟩] scope pos) (tCompG wi zs.length g fr tc te) := by
  intro pins s σ H Q I h
  rw [eval_ListComp]
  refine wpAny_comprehension_free (use := none) rfl hs (clo_of (B.cells I)) B.kind B.names (comp_coreG hc B hi hg gok hif he I h fun C l H' s' m _ _ hm iv q => ?_)
  exact ⟨m, hm, fun h2 sb => ⟨.ref l, H', iv h2 sb, rfl, q⟩⟩
theorem ps_setcG {j : Nat} {y : Str} {py spos : Pos} (hc : X.calm = true) (B : BlkG X scope zs ys fr) (hi : PI X tg iter wi) (hg : ∀ C ex s H pn, (∀ x ∈ zs, (relabel scope X.env).names.lookup x = some .local) → (zs ++ ys).Nodup → PG (X.blkG scope zs ys C ex s H pn) tg g) (gok : GOk zs.length g) (hif : ∀ C ex s H pn, PIf (X.blkG scope zs ys C ex s H pn) ifs tc) (he : ∀ C ex s H pn, PE (X.blkG scope zs ys C ex s H pn) elt te)
    (hj : X.N[j]? = some y) (hy : Loc X.env.scope y) (hf : X.fn y = true ∨ X.env.scope.names.lookup y = some .local := by first | exact .inl rfl | exact .inr rfl | assumption)
    (hsw : swapsWith (.ListComp elt [⟨tg, iter, ifs, 0⟩] scope pos) (some (.Name y py)) spos.line X.env = pure true := by rfl)
    (hs : ∀ x, foldedSetIterable iter X.env x = pure x := by intro _; rfl) : PS X (.Assign [.Name y py] (.ListComp elt [⟨tg, iter, ifs, 0⟩] scope pos) spos) (tAsg (tCompG wi zs.length g fr tc te) (gName j)) := by
  intro pins s σ H D I h
  rw [exec_Assign_Name_used _ _ _ _ hsw]
  refine wpAny_bind (wpAny_standAt (wpAny_bind ?_))
  show wpAny _ _ (do let _ ← comprehension (.ListComp elt [⟨tg, iter, ifs, 0⟩] scope pos) scope X.env _ (newList []) false (eval iter X.env) (some (assign (.Name y py) X.env))) _ _ s
  refine wpAny_bind (wpAny_mono (wpAny_comprehension_free (use := some (assign (.Name y py) X.env)) (Q := fun _ s' => SP X pins D .next s') rfl hs (clo_of (B.cells I)) B.kind B.names
    (comp_coreG hc B hi hg gok hif he I h fun C l H' s' m hC hn hm iv q => ?_)) (fun _ s' z => wpAny_pure (wpAny_pure z)) fun _ _ e => e)
  show wpAny _ _ (assign (.Name y py) X.env (.ref l)) _ _ _
  have J : Inv X pins σ H' s' := iv s'.heap (.refl ..)
  refine wpAny_assign_Name (store_ok2 (v := V.ref l) J B.nd hj hy rfl (fun s2 J2 ⟨a, sb, ha⟩ => ?_) hf)
  have na : a ≠ C := by
    rcases ha with z | z
    · rw [z]; exact Ne.symm hC.2.1
    · exact hC.2.2.1 _ _ z
  refine ⟨m, ?_, fun h2 s3 => ?_⟩
  · obtain ⟨o, es, ep, g, r⟩ := hm
    exact ⟨o, es, ep, (sb.2 C (Ne.symm na)).trans g, r⟩
  · exact ⟨_, H', J2.turned (t' := s2.toks) (fun b o nb g => (s3.2 b nb).trans g) hn (hC.2.1) (.inr hC.1) hC.2.2.1 hC.2.2.2, q⟩
end
def blkOkG (scope sc0 : Scope) (N0 : List Str) (zs : List Str) (ys : List Str) (fr : List Nat) : Bool :=
  scope.kind == .function && zs.all (fun x => scope.names.lookup x == some .local) && scope.names.all (fun y => y.2 != .cell) && scope.names.all (fun y => y.2 != .local || scope.names.lookup y.1 == some .local) &&
  (frees scope).all (fun n => sc0.names.lookup n == some .cell) && fr.map (fun i => N0[i]?) == ys.map some && ys.all (fun y => scope.names.lookup y == some .free) && decide N0.Nodup && decide (zs ++ ys).Nodup
theorem blkG_ofN {X : Cx} {scope sc0 : Scope} {N0 : List Str} {zs : List Str} {ys : List Str} {fr : List Nat} (chk : blkOkG scope sc0 N0 zs ys fr = true) (es : X.env.scope = sc0) (eN : X.N = N0) : BlkG X scope zs ys fr := by
  unfold blkOkG at chk
  simp only [Bool.and_eq_true, beq_iff_eq, List.all_eq_true, decide_eq_true_eq] at chk
  obtain ⟨⟨⟨⟨⟨⟨⟨⟨a1, a2⟩, a3⟩, a4⟩, a5⟩, a6⟩, a7⟩, a8⟩, a9⟩ := chk
  have nc : ∀ y ∈ scope.names, y.2 ≠ .cell := fun y hy => by simpa using a3 y hy
  refine ⟨a1, a2, nc, fun y hy hl => ?_, fun n hn => by rw [es]; exact a5 n hn, fun n h => relab_has nc n h, by rw [eN]; exact a6, fun y hy => ?_, fun y hy => relab_free (a7 y hy), by rw [eN]; exact a8, a9⟩
  · have z := a4 y hy
    rw [hl] at z
    simpa using z
  · exact List.mem_map.mpr ⟨(y, .free), List.mem_filter.mpr ⟨PySem.mem_of_lookup (a7 y hy), by simp⟩, rfl⟩
theorem blkG_of {X : Cx} {scope sc0 : Scope} {N0 : List Str} {zs : List Str} {ys : List Str} {fr : List Nat} (chk : blkOkG scope sc0 N0 zs ys fr = true) (es : X.env.scope = sc0) (eN : X.N = N0) (_ : X.stack = X.env :: X.outer) : BlkG X scope zs ys fr := blkG_ofN chk es eN
theorem gok_tup {K : PySem.W.Frag} {m n : Nat} {t : TGs} (h : ∀ vs σ H Q, t vs σ H Q → t vs σ H (fun σ' H' => Q σ' H' ∧ σ'.length = σ.length ∧ ∀ i, n ≤ i → σ'[i]? = σ[i]?)) : GOk n (gTup K m t) := fun v σ H Q q => by
  obtain ⟨a, xs, e, hs, hl, q⟩ := q
  exact ⟨a, xs, e, hs, hl, h _ _ _ _ q⟩
theorem goks_nil {n : Nat} : ∀ vs σ H Q, gNil vs σ H Q → gNil vs σ H (fun σ' H' => Q σ' H' ∧ σ'.length = σ.length ∧ ∀ i, n ≤ i → σ'[i]? = σ[i]?) := fun vs σ H Q q => ⟨q.1, q.2, rfl, fun _ _ => rfl⟩
theorem goks_cons {i n : Nat} (hi : i < n) {t : TGs} (h : ∀ vs σ H Q, t vs σ H Q → t vs σ H (fun σ' H' => Q σ' H' ∧ σ'.length = σ.length ∧ ∀ i, n ≤ i → σ'[i]? = σ[i]?)) :
    ∀ vs σ H Q, gCons (gName i) t vs σ H Q → gCons (gName i) t vs σ H (fun σ' H' => Q σ' H' ∧ σ'.length = σ.length ∧ ∀ i, n ≤ i → σ'[i]? = σ[i]?) := fun vs σ H Q q => by
  obtain ⟨v, r, e, q⟩ := q
  refine ⟨v, r, e, ?_⟩
  have z := h _ _ _ _ q
  have e2 : ∀ (j : Nat), n ≤ j → (σ.set i (some v))[j]? = σ[j]? := fun j hj => by rw [List.getElem?_set_ne (by omega)]
  have e1 : (σ.set i (some v)).length = σ.length := by simp
  have key : (fun σ' H' => Q σ' H' ∧ σ'.length = (σ.set i (some v)).length ∧ ∀ j, n ≤ j → σ'[j]? = (σ.set i (some v))[j]?) = (fun σ' (H' : Hp) => Q σ' H' ∧ σ'.length = σ.length ∧ ∀ j, n ≤ j → σ'[j]? = σ[j]?) := by
    funext σ' H'
    rw [e1]
    refine propext ⟨fun ⟨a, b, c⟩ => ⟨a, b, fun j hj => (c j hj).trans (e2 j hj)⟩, fun ⟨a, b, c⟩ => ⟨a, b, fun j hj => (c j hj).trans (e2 j hj).symm⟩⟩
  rw [key] at z
  exact z
theorem compG_by {J : It} {n : Nat} {g : TG} {σ : St} {fr : List Nat} {tc : TT} {te : TE} {l : Addr} {H1 : Hp} {Q : VK} (len : Nat) (Pv : Nat → List V → Hp → Prop) (h0 : Pv 0 [] (upd H1 l (.lst []))) (hgo : ∀ i xs H, i < len → Pv i xs H → J.go i H)
    (step : ∀ i xs H2 v H3, i < len → Pv i xs H2 → J.yld i H2 v H3 → ∀ N : List V → Hp → Prop, (∀ xs' H', Pv (i + 1) xs' H' → N xs' H') → g v (blk0 σ fr n) H3 fun σ' H3' => tc σ' H3' fun b H4 => if b = true then
      (te σ' H4 fun y H5 => H5 l = some (.lst xs) ∧ xs.length < sizeLine ∧ N (xs ++ [y]) (upd H5 l (.lst (xs ++ [y])))) else N xs H4)
    (fin : ∀ xs H2, Pv len xs H2 → J.stop len H2 ∧ Q (.ref l) H2) : CompG J n g σ fr tc te l H1 Q := by
  refine ⟨fun i m xs H => m = len - i ∧ i ≤ len ∧ Pv i xs H, ⟨len, by simp, Nat.zero_le _, h0⟩, ?_⟩
  rintro i m xs H2 ⟨rfl, hi, p⟩
  by_cases lt : i < len
  · exact .inr ⟨hgo i xs H2 lt p, fun v H3 y => step i xs H2 v H3 lt p y (fun xs' H' => ∃ m', m' < len - i ∧ m' = len - (i + 1) ∧ i + 1 ≤ len ∧ Pv (i + 1) xs' H') fun xs' H' q => ⟨_, by omega, rfl, lt, q⟩⟩
  · have e : i = len := by omega
    subst e
    exact .inl (fin xs H2 p)
end L2
set_option maxRecDepth 100000
namespace L2
open PySem PySem.Spec PyProof.Rows XL
variable {q0 : Bool}
section
variable {X : Cx} {pins : List (Addr × Obj)} {σ : St} {H : Hp} {s : Shared}
theorem Inv.adopt {p : Addr} {o : HO} (I : Inv X pins σ H s) (n : H p = none) (h0 : X.s₀.heap.objs.size ≤ p) (hL : p ≠ X.env.locals) (hC : ∀ x c, X.env.cells.lookup x = some c → c ≠ p) (hp : ∀ q ∈ X.pn ++ pins, q.1 ≠ p)
    (new : ObjOk X.prog X.w (upd H p o) s.heap p o) : Inv X pins σ (upd H p o) s := by
  have ne : ∀ b u, H b = some u → b ≠ p := fun b u e => ne_of_none e n
  refine ⟨I.ok, I.os, I.bare, ⟨I.base.keep, I.base.slot, fun b ob e hn hx => ?_, I.base.there, fun b xs e => ?_, fun b ob u e => ?_, fun b ps e => ?_⟩, I.loc, I.cell, ?_, fun x c e => ?_, fun q hq => ?_, fun b u e => ?_, I.len⟩
  · rw [upd_ne (Nat.ne_of_lt (Nat.lt_of_lt_of_le (Heap.lt_size e) h0))]
    exact I.base.free b ob e hn hx
  · have z := I.base.tups b xs e
    rw [upd_ne (ne b _ z)]
    exact z
  · have z := I.base.frzs b ob u e
    rw [upd_ne (ne b _ z)]
    exact z
  · obtain ⟨m, z⟩ := I.base.tbls b ps e
    exact ⟨m, by rw [upd_ne (ne b _ z)]; exact z⟩
  · rw [upd_ne (Ne.symm hL)]
    exact I.free
  · rw [upd_ne (hC x c e)]
    exact I.freeC x c e
  · obtain ⟨a1, a2, a3⟩ := I.pin q hq
    exact ⟨a1, by rw [upd_ne (hp q hq)]; exact a2, a3⟩
  · by_cases hb : b = p
    · subst hb
      rw [upd_same] at e
      cases e
      exact new
    · rw [upd_ne hb] at e
      exact (I.hok b u e).stay (fun c v _ q => q) (fun c q => by rw [upd_ne (ne c _ q)]; exact q) fun c xs q => by rw [upd_ne (ne c _ q)]; exact q
theorem Inv.thaw {d : Addr} {o : Obj} {u : HO} (I : Inv X pins σ H s) (e : H d = some (.frz o u)) (nf : ∀ o' u', X.H₀ d ≠ some (.frz o' u')) : Inv X pins σ (upd H d u) s := by
  have ne : ∀ b v, H b = some v → (∀ o' u', v ≠ .frz o' u') → b ≠ d := fun b v h1 h2 z => by
    subst z
    rw [e] at h1
    cases h1
    exact h2 _ _ rfl
  have ne0 : ∀ b, H b = none → b ≠ d := fun b h1 z => by
    subst z
    rw [e] at h1
    cases h1
  refine ⟨I.ok, I.os, I.bare, ⟨I.base.keep, I.base.slot, fun b ob q hn hx => ?_, I.base.there, fun b xs q => ?_, fun b ob v q => ?_, fun b ps q => ?_⟩, I.loc, I.cell, ?_, fun x c q => ?_, fun p hp => ?_, fun b v q => ?_, I.len⟩
  · have z := I.base.free b ob q hn hx
    rw [upd_ne (ne0 b z)]
    exact z
  · have z := I.base.tups b xs q
    rw [upd_ne (ne b _ z (fun _ _ h => nomatch h))]
    exact z
  · have z := I.base.frzs b ob v q
    have hb : b ≠ d := fun w => by
      subst w
      exact nf _ _ q
    rw [upd_ne hb]
    exact z
  · obtain ⟨m, z⟩ := I.base.tbls b ps q
    exact ⟨m, by rw [upd_ne (ne b _ z (fun _ _ h => nomatch h))]; exact z⟩
  · rw [upd_ne (ne0 _ I.free)]
    exact I.free
  · rw [upd_ne (ne0 _ (I.freeC x c q))]
    exact I.freeC x c q
  · obtain ⟨a1, a2, a3⟩ := I.pin p hp
    exact ⟨a1, by rw [upd_ne (ne0 _ a2)]; exact a2, a3⟩
  · have st : ∀ (a : Addr) (v : HO), ObjOk X.prog X.w H s.heap a v → ObjOk X.prog X.w (upd H d u) s.heap a v := fun a v k =>
      k.stay (fun c v _ q => q) (fun c q => by rw [upd_ne (ne c _ q (fun _ _ h => nomatch h))]; exact q) fun c xs q => by rw [upd_ne (ne c _ q (fun _ _ h => nomatch h))]; exact q
    by_cases hb : b = d
    · subst hb
      rw [upd_same] at q
      cases q
      obtain ⟨g, ok⟩ := I.hok b _ e
      exact st _ _ ok
    · rw [upd_ne hb] at q
      exact st _ _ (I.hok b v q)
theorem Inv.nofrz {d : Addr} {kvs : List (Key × V)} (I : Inv X pins σ H s) (e : H d = some (.dK kvs)) : ∀ o' u', X.H₀ d ≠ some (.frz o' u') := fun o' u' z => by
  have q := I.base.frzs d o' u' z
  rw [e] at q
  cases q
theorem KV.get : ∀ {kvs : List (Key × V)} {vs : List (Key × Value)} {i : Nat} {k : Key} {x : V}, KV kvs vs → kvs[i]? = some (k, x) → ∃ u, vs[i]? = some (k, u) ∧ RelV x u
  | _, _, _, _, _, .nil, e => by simp at e
  | _, (_, _) :: _, 0, _, _, .cons r _, e => by
    simp at e
    subst e
    obtain ⟨r1, r2⟩ := r
    dsimp only at r1 r2
    subst r1
    exact ⟨_, rfl, r2⟩
  | _, _, i + 1, k, x, .cons _ t, e => by
    obtain ⟨u, h1, h2⟩ := KV.get (i := i) (k := k) (x := x) t (by simpa using e)
    exact ⟨u, by simpa using h1, h2⟩
theorem kV_rel {P : Program} {w : World} {k : Key} {u : Value} (h : (mixKind P w).is k u = true) : RelV (kV k) u := by
  rcases keyIs_shape (show keyIs k u = true from h) with ⟨i, t, rfl, rfl⟩ | ⟨x, t, rfl, rfl⟩
  · exact ⟨t, rfl⟩
  · exact ⟨t, rfl⟩
theorem frz_at {d : Addr} {o : Obj} {kvs : List (Key × V)} {ep : Nat} (I : Inv X pins σ H s) (e : H d = some (.frz o (.dK kvs))) (hep : ∃ es, o.data = .dict es ep) : ∃ vs, KV kvs vs ∧ s.heap.DictAt (mixKind X.prog X.w) d vs ep := by
  obtain ⟨g, _, _, vs, rel, o', es', ep', g', ex, hdat, hk, hp, hn⟩ := I.hok d _ e
  rw [g] at g'
  cases g'
  obtain ⟨es, he⟩ := hep
  rw [he] at hdat
  cases hdat
  exact ⟨vs, rel, o, _, g, ex, he, hk, hp, hn⟩
end
def Iti (d : Addr) (o : Obj) (kvs : List (Key × V)) : It :=
  ⟨fun i H => H d = some (.frz o (.dK kvs)) ∧ i < kvs.length, fun i H v H' => ∃ p k x, kvs[i]? = some (k, x) ∧ v = .ref p ∧ H p = none ∧ H' = upd H p (.tup [kV k, x]), fun i H => H d = some (.frz o (.dK kvs)) ∧ kvs.length ≤ i⟩
theorem turn_items {P : Program} {w : World} {K : PySem.W.Frag} {elts : List Expr} {x1} {tpos : Pos} (d it : Addr) (o : Obj) (kvs : List (Key × V)) (ep : Nat) (hep : ∃ es, o.data = .dict es ep) :
    Turn P w K (.Tuple elts x1 tpos) (Iti d o kvs) [it] it (fun i h => ∃ ok ov, IsItemIter h it d i kvs.length ep ok ov) where
  mem := by simp
  obj := fun i h st b hb => by
    have e : b = it := by simpa using hb
    subst e
    obtain ⟨ok, ov, st⟩ := st
    exact ⟨_, st, fun v z => by
      have z' : Data.fields _ = Data.cell v := z
      cases z'⟩
  keep := fun i h h' ⟨ok, ov, st⟩ k => ⟨ok, ov, k it (by simp) _ st⟩
  item := by
    intro X hP hw hK hc i pins s σ H E I hf st hg
    subst hP hw hK
    obtain ⟨ok, ov, st⟩ := st
    obtain ⟨e, lt⟩ := hg
    obtain ⟨vs, rel, da⟩ := frz_at I e hep
    obtain ⟨f0, f1, f2, f3, f4, f5⟩ := hf it (by simp)
    have hl : kvs.length = vs.length := rel.length
    obtain ⟨⟨k, x⟩, q⟩ : ∃ y, kvs[i] = y := ⟨_, rfl⟩
    have hx : kvs[i]? = some (k, x) := by rw [List.getElem?_eq_getElem lt, q]
    obtain ⟨u, hv, ru⟩ := rel.get hx
    rw [hl] at st
    refine wpAny_pyNext_items_item st da hv fun key h' hkey hout ht hz hkp => ?_
    refine ⟨_, rfl, wpAny_letOwnedTupleGo_items hout fun h'' hit' hsb => ?_⟩
    have kk : ∀ b o, b ≠ it → s.heap.get? b = some o → h''.get? b = some o := fun b o hb g => (hsb.2 b hb).trans (hkp b o hb g)
    have I1 : Inv X pins σ H { s with heap := h'' } := I.turned (t' := s.toks) kk f0 f1 f3 f4 f5
    obtain ⟨n0, nL, nC, nP⟩ := I.size_lt (Nat.le_refl s.heap.objs.size)
    have itlt : it < s.heap.objs.size := Heap.lt_size st
    have pne : s.heap.objs.size ≠ it := Nat.ne_of_gt itlt
    have hp : h''.get? s.heap.objs.size = some { cls := .type "tuple", data := .seq #[key, u] } := (hsb.2 _ pne).trans ht
    refine ⟨.ref s.heap.objs.size, upd H s.heap.objs.size (.tup [kV k, x]), I1.adopt n0 I.sz nL nC nP ⟨by show 2 ≤ sizeLine; decide, [key, u], .cons (kV_rel hkey) (.cons ru .nil), _, hp, rfl, _, rfl⟩, rfl, ⟨_, k, x, hx, rfl, n0, rfl⟩, ?_, fun b hb => ?_⟩
    · rw [← hl] at hit'
      exact ⟨_, _, hit'⟩
    · have e : b = it := by simpa using hb
      subst e
      rw [upd_ne (Ne.symm pne)]
      exact f0
  done := by
    intro X hP hw hK hc i pins s σ H E I hf st hg
    subst hP hw hK
    obtain ⟨ok, ov, st⟩ := st
    obtain ⟨e, le⟩ := hg
    obtain ⟨vs, rel, da⟩ := frz_at I e hep
    obtain ⟨f0, f1, f2, f3, f4, f5⟩ := hf it (by simp)
    have hl : kvs.length = vs.length := rel.length
    rw [hl] at st
    exact wpAny_pyNext_items_end (I.ok.hd hc) st da (by simpa using (by omega : vs.length ≤ i)) fun h' eb => ⟨rfl, I.turned (t' := s.toks) (fun b o hb e => eb b o hb e) f0 f1 f3 f4 f5⟩
  self := fun _ _ _ _ _ ⟨ok, ov, st⟩ h => PySem.W.kcp_self st h
def iItems (X : Cx) (to : TE) : TI := fun σ H R => to σ H fun x H1 => ∃ d kvs, x = .ref d ∧ H1 d = some (.dK kvs) ∧ ∀ ob, (∀ o' u', X.H₀ d ≠ some (.frz o' u')) → R (Iti d ob kvs) (upd H1 d (.frz ob (.dK kvs)))
section
variable {X : Cx} {o : Expr} {to : TE} {elts : List Expr} {x1 : _} {tpos apos cpos : Pos}
theorem pi_items (ho : PE X o to) (hbase : attributeBase o "items" X.env (eval o X.env) = eval o X.env := by rfl) (hline : (apos.endLine == cpos.line) = true := by rfl) :
    PI X (.Tuple elts x1 tpos) (.Call (.Attribute o "items" apos) [] [] cpos) (iItems X to) := by
  intro pins s σ H R I h
  refine wpAny_Call_method0_late hbase hline (thn (ho pins s σ H _ I h) fun v s1 ⟨x, H1, I1, r1, q1⟩ => ?_)
  obtain ⟨d, kvs, e1, e, q⟩ := q1
  subst e1
  cases r1
  obtain ⟨z, hd, vs, rel, dd⟩ := dk_of I1.hok e
  obtain ⟨ob, es, ep, g, ex, hdat, hk, hp, hn⟩ := id dd
  refine ⟨"dict", "dict.items", PySem.F.plainAttrs_dict, PySem.F.slot_dict_items, PySem.F.type_dict_items, dd.typeIs, fun a e2 => ?_, Calls.callWith_builtin rfl (PySem.evalArgs_none ?_)⟩
  · cases e2
    exact ⟨ob, g, ex.2.1⟩
  refine call_meetsIn PySem.F.slot_dict_items dd.typeIs PySem.F.entry_dict_items (PySem.F.args_dict_items_1 _) (meets_dict_items (mixKind X.prog X.w) d hd) ⟨⟨vs, dd⟩, ?_⟩
  have da : (s1.heap.push { cls := .type "dict_items", data := .fields #[.ref d] }).DictAt (mixKind X.prog X.w) d vs ep := ⟨ob, es, Heap.get?_push_of_some _ g, ex, hdat, hk, hp, hn⟩
  refine wpAny_pyIter_items (s := { s1 with heap := s1.heap.push { cls := .type "dict_items", data := .fields #[.ref d] } }) ⟨_, Heap.get?_push_size _ rfl, rfl, rfl⟩ da ?_
  have I2 : Inv X pins σ H1 { s1 with heap := s1.heap.push { cls := .type "dict_items", data := .fields #[.ref d] } } := I1.kept (t' := s1.toks) fun b o e => Heap.get?_push_of_some _ e
  generalize hs2 : ({ s1 with heap := s1.heap.push { cls := .type "dict_items", data := .fields #[.ref d] } } : Shared) = s2 at I2
  have g2 : s2.heap.get? d = some ob := by rw [← hs2]; exact Heap.get?_push_of_some _ g
  have I3 : Inv X pins σ (upd H1 d (.frz ob (.dK kvs))) s2 := I2.write (t' := s2.toks) (x := d) (e := d) (by rw [e]; exact True.intro) (.inl rfl) (fun b u _ q => q) ⟨ob, g2⟩ ⟨g2, I2.hok d _ e⟩
  have I4 : Inv X pins σ (upd H1 d (.frz ob (.dK kvs))) { s2 with heap := s2.heap.push { cls := .type "dict_itemiterator", data := .fields #[.none, .bool false, .ref d, .int 0 0, .int vs.length 0, .int ep 0, .none, .none] } } :=
    I3.kept (t' := s2.toks) fun b o e => Heap.get?_push_of_some _ e
  have fin : PIE X pins σ (.Tuple elts x1 tpos) R (.ref s2.heap.objs.size) { s2 with heap := s2.heap.push { cls := .type "dict_itemiterator", data := .fields #[.none, .bool false, .ref d, .int 0 0, .int vs.length 0, .int ep 0, .none, .none] } } := by
    refine ⟨s2.heap.objs.size, [s2.heap.objs.size], _, _, upd H1 d (.frz ob (.dK kvs)), rfl, I4, turn_items d _ ob kvs ep ⟨es, hdat⟩, ⟨.none, .none, ?_⟩, fun b hb => ?_, q ob (I1.nofrz e)⟩
    · have hl : kvs.length = vs.length := rel.length
      show IsItemIter _ _ d 0 kvs.length ep .none .none
      rw [hl]
      exact Heap.get?_push_size _ rfl
    · have eb : b = s2.heap.objs.size := by simpa using hb
      subst eb
      exact I3.fpOk (Nat.le_refl _) (I3.hok.fresh (Nat.le_refl _))
  exact fin
theorem thaw_end {pins : List (Addr × Obj)} {σ : St} {Q : VK} {u : Value} {s : Shared} (h : EP X pins σ (fun v H2 => ∃ d ob u, H2 d = some (.frz ob u) ∧ (∀ o' u', X.H₀ d ≠ some (.frz o' u')) ∧ Q v (upd H2 d u)) u s) : EP X pins σ Q u s := by
  obtain ⟨v, H2, I2, r2, d, ob, u', e, nf, q⟩ := h
  exact ⟨v, _, I2.thaw e nf, r2, q⟩
theorem pe_thaw {e : Expr} {t : TE} (h : PE X e t) : PE X e (fun σ H Q => t σ H fun v H2 => ∃ d ob u, H2 d = some (.frz ob u) ∧ (∀ o' u', X.H₀ d ≠ some (.frz o' u')) ∧ Q v (upd H2 d u)) := fun pins s σ H Q I q =>
  thn (h pins s σ H _ I q) fun _ _ z => thaw_end z
end
end L2
set_option maxRecDepth 100000
namespace PySem.F
theorem xl_plain_dict_loop : plainId "dict.update.loop" = true := by decide +kernel
theorem xl_entry_dict_loop : entryFor table "dict.update.loop" = some Builtin.«dict.update.loop» := entryFor_of_tree (by kernel_rfl)
theorem xl_list_nokeys : typeLookup (.type "list") "keys" = pure none := by rw [typeLookup_type, builtinLookup_eq_fast]; kernel_rfl
end PySem.F
namespace L2
open PySem PySem.Spec PyProof.Rows XL
variable {q0 : Bool}
theorem keys_miss {prog : Program} {w : World} {A : Around} {E : Value → Shared → Prop} {s : Shared} {a : Addr} {o : Obj} {xs : Array Value} {k : Nat} {Q : Option Value → Shared → Prop}
    (hx : s.heap.get? a = some o) (hc : o.cls = .type "list") (hdat : o.data = .seq xs k) (hd : o.dict = none) (hA : A.handled = none)
    (h : ∀ h' tk, (∀ b o, s.heap.get? b = some o → h'.get? b = some o) → Q none { s with heap := h', toks := tk }) : wpAny (model prog w) A (getAttr? (.ref a) "keys") Q E s := by
  obtain ⟨c, dct, dat, sl⟩ := o
  simp only at hc hdat hd
  subst hc hdat hd
  obtain ⟨hp, g, d, tk, os⟩ := s
  have hT : ∀ tk', (⟨hp, g, d, tk', os⟩ : Shared).TypeIs (.ref a) "list" := fun _ => ⟨_, hx, rfl⟩
  have f1 := sub_AttributeError
  have f3 := F.slot_list_getattribute.lookup
  have f4 := F.slot_list_getattribute.bind (.ref a)
  have f5 := am_list_getattr_none
  unfold getAttr? getAttrBy? getAttrBy
  repeat (any_goals (first | assumption | exact hT _ | ((with_reducible show wpAny _ _ (call (Value.builtin "list.__getattribute__") _ _) _ _ _); refine call_meets F.slot_list_getattribute (hT _) am_entry_list_getattribute (F.args_list_getattribute_2 _ _) (meets_getattribute_miss_list a xs k sl "keys" _ F.xl_list_nokeys (by decide +kernel) (by size_fits)) ⟨hx, hA, fun h' tk' e hx' => ?_⟩) | wp_step))
  obtain ⟨t', u', he⟩ := hx'.there
  have hk := hx'.of.keeps
  show wpAny _ _ (getattributeRaised _ _ _ _ _ _ _) _ _ _
  unfold getattributeRaised
  repeat (any_goals (first | assumption | wp_step))
  exact h _ _ hk
section
variable {X : Cx} {pins : List (Addr × Obj)} {σ : St} {H : Hp} {s : Shared} {a : Addr} {y v : V} {u r : Value} {A : Around} {E : Value → Shared → Prop}
theorem d_dictSet {H' : Hp} {Q : Unit → Shared → Prop} (hu : A.units < cLine) (I : Inv X pins σ H s) (g : DPut H a y v H') (ry : RelV y u) (rv : RelV v r) (h : ∀ s', Inv X pins σ H' s' → Q () s') :
    wpAny (model X.prog X.w) A (dictSet a u r) Q E s := by
  rcases g with ⟨kvs, k, e, ey, l, eH⟩ | ⟨kvs, k, b, e, ey, eb, l, eH⟩
  · subst ey eH
    obtain ⟨z, hd, vs, rel, dd⟩ := dk_of I.hok e
    have hz : vs.length ≤ sizeLine := by rw [← rel.length]; exact z
    have hl : (putK kvs k v).length ≤ sizeLine := by have := length_putK kvs k v; omega
    refine wpAny_dictSet_pairs (hsz := hz) (kV_is ry) dd fun h' dd' hs => h _ ?_
    have he : ∃ q, h'.get? a = some q := let ⟨q, _, _, hq, _⟩ := dd'; ⟨q, hq⟩
    exact d_write I (by rw [e]; exact True.intro) hs he (dk_new hl hd (rel.put k rv) dd')
  · subst ey eH
    cases (show u = Value.ref b from ry)
    obtain ⟨z, hd, xs, rel, dd⟩ := dt_of I.hok e
    have hz : xs.length ≤ sizeLine := by rw [← Paired.length rel]; exact z
    have hl : (putK kvs k v).length ≤ sizeLine := by have := length_putK kvs k v; omega
    refine wpAny_dictSet_heap (hsz := hz) (show (tupleKind (mixKind X.prog X.w)).room A from hu) (key_of I.hok eb) dd fun h' dd' hs => h _ ?_
    obtain ⟨q, es, ep, hq, h2, h3, h4, _, h5⟩ := dd'
    refine d_write I (by rw [e]; exact True.intro) hs ⟨q, hq⟩ ⟨hl, hd, _, (rel.put k eb rv).keeps fun c ys ec => ?_, q, es, ep, hq, h2, h3, h4, h5⟩
    rw [upd_ne (ne_of ec e (fun z => nomatch z))]
    exact ec
theorem DPut.stay {d b : Addr} {H' : Hp} {o : HO} (g : DPut H d y v H') (e : H b = some o) (n1 : ∀ kvs, o ≠ .dK kvs) (n2 : ∀ kvs, o ≠ .dT kvs) : H' b = some o := by
  rcases g with ⟨kvs, k, e2, _, _, rfl⟩ | ⟨kvs, k, b2, e2, _, _, _, rfl⟩
  · rw [upd_ne (ne_of e e2 (n1 _))]
    exact e
  · rw [upd_ne (ne_of e e2 (n2 _))]
    exact e
theorem DPut.free {d b : Addr} {H' : Hp} (g : DPut H d y v H') (e : H b = none) : H' b = none := by
  rcases g with ⟨kvs, k, e2, _, _, rfl⟩ | ⟨kvs, k, b2, e2, _, _, _, rfl⟩
  · rw [upd_ne (Ne.symm (ne_of_none e2 e))]
    exact e
  · rw [upd_ne (Ne.symm (ne_of_none e2 e))]
    exact e
end
inductive DPuts (d : Addr) : Hp → List (V × V) → Hp → Prop
  | nil {H : Hp} : DPuts d H [] H
  | cons {H H1 H2 : Hp} {y v : V} {r : List (V × V)} : DPut H d y v H1 → DPuts d H1 r H2 → DPuts d H ((y, v) :: r) H2
theorem update_loop {X : Cx} {pins : List (Addr × Obj)} {σ : St} {A : Around} {R : Result → Shared → Prop} (hh : A.in1.handled = none) (hu : A.in1.units < cLine) {l it d : Addr} :
    ∀ (ps : List (Addr × V × V)) (pre : List V) (j : Int) (H H2 : Hp) (s : Shared), Inv X pins σ H s → H l = some (.lst (pre ++ ps.map fun p => .ref p.1)) → (∀ p ∈ ps, H p.1 = some (.tup [p.2.1, p.2.2])) → DPuts d H (ps.map (·.2)) H2 →
      s.heap.IsListIter it l pre.length → FpOk X pins H it → (∀ s', Inv X pins σ H2 s' → R (.ok (.ret .none)) s') →
      codeAny (model X.prog X.w) A (.builtin "dict.update.loop" ⟨[.ref d, .ref it, rawInt j, .none], []⟩) R s
  | [], pre, j, H, H2, s, I, hl, hp, dp, st, fo, fin => by
    cases dp
    obtain ⟨z, its, n, r, hl2, e⟩ := I.lstM hl
    obtain ⟨f0, f1, f2, f3, f4, f5⟩ := fo
    refine codeAny_builtin F.xl_entry_dict_loop ?_
    rw [Around.under_plainId F.xl_plain_dict_loop _]
    show wpAny _ A.in1 (pyNext (.ref it) >>= _) _ _ s
    refine wpAny_bind (wpAny_pyNext_list_end hh st ⟨_, e, rfl, _, rfl⟩ (by simp at hl2 ⊢; omega) fun h' eb => ?_)
    show wpAny _ A.in1 (Builtin.Dict.addKeywords d [] >>= _) _ _ _
    exact wpAny_bind (wpAny_pure (wpAny_pure (fin _ (I.turned (t' := s.toks) (fun b o hb e => eb b o hb e) f0 f1 f3 f4 f5))))
  | (a, y, v) :: ps, pre, j, H, H2, s, I, hl, hp, dp, st, fo, fin => by
    have fo' := fo
    obtain ⟨f0, f1, f2, f3, f4, f5⟩ := fo
    cases dp with
    | @cons _ H1 _ _ _ _ g dp =>
    obtain ⟨z, its, n, r, hl2, e⟩ := I.lstM hl
    obtain ⟨u, hu1, ru⟩ := r.get (i := pre.length) (x := .ref a) (by simp)
    obtain rfl : u = Value.ref a := ru
    refine codeAny_builtin F.xl_entry_dict_loop ?_
    rw [Around.under_plainId F.xl_plain_dict_loop _]
    show wpAny _ A.in1 (pyNext (.ref it) >>= _) _ _ s
    refine wpAny_bind (wpAny_pyNext_list_item st ⟨_, e, rfl, _, rfl⟩ (x := .ref a) (by simpa using hu1) fun h' st' sb => ?_)
    have I1 : Inv X pins σ H { s with heap := h' } := I.turned (t' := s.toks) (fun b o hb e => (sb.2 b hb).trans e) f0 f1 f3 f4 f5
    obtain ⟨z2, ts, rt, ot, et, ct, nt, dt⟩ := I1.hok a _ (hp _ List.mem_cons_self)
    obtain ⟨uk, uv, rfl, rk, rv⟩ := vals2 rt
    show wpAny _ A.in1 (holding [.ref a] _ >>= _) _ _ _
    refine wpAny_bind (wpAny_holding ?_)
    refine wpAny_bind (wpAny_tryCatch ?_)
    unfold Builtin.Dict.pairItems
    refine wpAny_bind (wpAny_typeOf (T := "tuple") ⟨ot, et, ct⟩ ?_)
    rw [if_pos (by decide)]
    refine wpAny_bind (wpAny_seqItems et dt (wpAny_pure ?_))
    show wpAny _ A.in1 (holding [uk, uv] (dictSet d uk uv)) _ _ _
    have ob : ∀ b ∈ [it], ∃ o, h'.get? b = some o ∧ ∀ v, o.data ≠ .cell v := fun b hb => by
      have e : b = it := by simpa using hb
      subst e
      obtain ⟨o, e, c, d⟩ := id st'
      exact ⟨o, e, fun v z => by rw [d] at z; cases z⟩
    have I1' := I1.pinned (fp := [it]) (fun b hb => by
      have e : b = it := by simpa using hb
      subst e
      exact fo') ob
    refine wpAny_holding (d_dictSet hu I1' g rk rv fun s' I2 => ?_)
    refine wpAny_pure ⟨plainId_quiet F.xl_plain_dict_loop _, ?_⟩
    have fo2 : FpOk X pins H1 it := ⟨g.free f0, f1, f2, f3, f4, f5⟩
    have st2 : s'.heap.IsListIter it l (pre ++ [V.ref a]).length := by
      rw [List.length_append]
      exact st'.at fun o e => (I2.pin (it, o) (List.mem_append_right _ (List.mem_append_right _ (mem_pinsAt (by simp) e)))).1
    refine update_loop hh hu ps (pre ++ [V.ref a]) (j + 1) H1 H2 s' I2.unpinned ?_ (fun p hp' => ?_) dp st2 fo2 fin
    · have z := g.stay hl (fun _ q => nomatch q) (fun _ q => nomatch q)
      rw [z]
      simp
    · exact g.stay (hp p (List.mem_cons_of_mem _ hp')) (fun _ q => nomatch q) (fun _ q => nomatch q)
def rDictOf : List V → Hp → VK → Prop := fun xs H Q => ∃ (l : Addr) (ps : List (Addr × V × V)), xs = [.ref l] ∧ H l = some (.lst (ps.map fun p => .ref p.1)) ∧ (∀ p ∈ ps, H p.1 = some (.tup [p.2.1, p.2.2])) ∧
  ∀ d, H d = none → ∃ e H2, (e = .dK [] ∨ e = .dT []) ∧ DPuts d (upd H d e) (ps.map (·.2)) H2 ∧ Q (.ref d) H2
theorem call_dictOf {X : Cx} (hc : X.calm = true) (hu : X.A.units + 3 < cLine) : CallR X (.type "dict") rDictOf := by
  intro pins s σ H xs us Q I r h
  obtain ⟨l, ps, rfl, hl, hp, q⟩ := h
  obtain ⟨u, rfl, rx⟩ := vals1 r
  obtain rfl : u = Value.ref l := rx
  refine callType_codes (Q₁ := fun obj s₁ => obj = .ref s.heap.objs.size ∧ s₁ = { s with heap := s.heap.push { cls := .type "dict", data := .dict #[] } }) F.kt_called_dict (F.kt_typeCall_dict_1 _) F.entry_dict_init (kt_code_dict_new _ ⟨rfl, rfl⟩) ?_
  rintro obj s₁ ⟨rfl, rfl⟩
  obtain ⟨e, H2, he, dps, q2⟩ := q s.heap.objs.size I.fresh
  have I1 : Inv X pins σ (upd H s.heap.objs.size e) { s with heap := s.heap.push { cls := .type "dict", data := .dict #[] } } := by
    refine I.laid (t' := s.toks) (fun b u e => Heap.get?_push_of_some _ e) (Nat.le_refl _) ?_
    rcases he with rfl | rfl
    · exact dk_empty s.heap I.big
    · exact dt_empty s.heap I.big
  have hT : (Shared.mk (s.heap.push { cls := .type "dict", data := .dict #[] }) s.gens s.drawn s.toks s.os).TypeIs (.ref s.heap.objs.size) "dict" := ⟨_, Heap.get?_push_size _ rfl, rfl⟩
  have nl : l ≠ s.heap.objs.size := fun z => by
    rw [z, I.fresh] at hl
    cases hl
  have hl1 : upd H s.heap.objs.size e l = some (.lst (ps.map fun p => .ref p.1)) := by rw [upd_ne nl]; exact hl
  obtain ⟨z, its, n, rr, hll, el⟩ := I1.lstM hl1
  refine ⟨hT, F.args_dict_init_2 _ _, ?_⟩
  unfold Builtin.«dict.__init__»
  refine wpAny_bind ?_
  unfold Builtin.Dict.selfAndRest
  refine wpAny_bind (wpAny_notOrdered_dict hT ?_)
  show wpAny _ _ (pure (s.heap.objs.size, [Value.ref l])) _ _ _
  refine wpAny_pure ?_
  show wpAny _ _ (Builtin.Dict.updateFrom "dict.__init__" s.heap.objs.size (.ref l) [] .none) _ _ _
  unfold Builtin.Dict.updateFrom
  refine wpAny_bind (wpAny_typeOf (T := "list") ⟨_, el, rfl⟩ ?_)
  rw [if_pos (by decide)]
  refine wpAny_bind (keys_miss el rfl rfl rfl (I.ok.hd hc) fun h' tk hk => ?_)
  have I2 := I1.kept (h' := h') (t' := tk) hk
  show wpAny _ _ (rule _ >>= _) _ _ _
  refine wpAny_bind (wpAny_rule ?_)
  refine wpAny_bind (wpAny_pyIter_list ⟨_, hk _ _ el, rfl, _, rfl⟩ ?_)
  refine wpAny_pure ⟨plainId_quiet F.xl_plain_dict_loop _, ?_⟩
  have I3 : Inv X pins σ (upd H s.heap.objs.size e) _ := I2.kept (t' := tk) (h' := h'.push { cls := .type "list_iterator", data := .fields #[.ref l, .int 0 0] }) fun b o e => Heap.get?_push_of_some _ e
  refine update_loop (A := X.A.in1) (I.ok.hd hc) (by show X.A.units + 1 + 1 < cLine; omega) ps [] 0 _ H2 _ I3 (by simpa using hl1) (fun p hp' => ?_) dps ?_ ?_ fun s' I' => ?_
  · rw [upd_ne (ne_of_none (hp p hp') I.fresh)]
    exact hp p hp'
  · exact ⟨_, Heap.get?_push_size _ rfl, rfl, rfl⟩
  · exact I2.fpOk (Nat.le_refl _) (I2.hok.fresh (Nat.le_refl _))
  · exact ⟨rfl, ⟨.ref _, H2, I', rfl, q2⟩⟩
end L2
set_option maxRecDepth 100000
namespace L2
open PySem PySem.Spec PyProof.Rows XL
variable {q0 : Bool}
section
variable {X : Cx} {tg : Expr}
end
theorem vals_at {xs : List V} {us : List Value} (r : Vals xs us) {j : Nat} (h : j < us.toArray.size) : ∃ x, xs[j]? = some x ∧ RelV x us.toArray[j] := by
  have hl := r.length
  have hj : j < xs.length := by simp at h; omega
  obtain ⟨u, h1, h2⟩ := r.get (x := xs[j]) (List.getElem?_eq_getElem hj)
  refine ⟨xs[j], List.getElem?_eq_getElem hj, ?_⟩
  have : us.toArray[j] = u := by
    have z := List.getElem?_eq_some_iff.mp h1
    obtain ⟨z1, z2⟩ := z
    simpa using z2
  rw [this]
  exact h2
section
variable {X : Cx} {pins : List (Addr × Obj)} {σ : St} {H : Hp} {s : Shared}
end
theorem hu3_of {A : Around} {k : Nat} (hr : Room q0 k A) : A.units + 3 < cLine := by have := hr.un; omega
theorem hu20_of {A : Around} {k : Nat} (hr : Room q0 k A) : A.units + 20 < cLine := by have := hr.un; omega
theorem call_lenD {X : Cx} : CallR X (.builtin "len") (fun xs H Q => ∃ a kvs, xs = [.ref a] ∧ H a = some (.dK kvs) ∧ Q (.int kvs.length) H) := by
  intro pins s σ H xs us Q I r h
  obtain ⟨a, kvs, rfl, e, q⟩ := h
  obtain ⟨u, rfl, rx⟩ := vals1 r
  obtain rfl : u = Value.ref a := rx
  exact d_len I (.inl e) fun t s' I' => ⟨.int _, H, I', ⟨t, rfl⟩, q⟩
inductive Ents (w : World) : List DictEntry → List (Key × V) → Prop
  | nil : Ents w [] []
  | cons {k : Key} {x : V} {key val : Value} {h : Int} {es : List DictEntry} {kvs : List (Key × V)} (hh : h = keyH w k) (hk : RelV (kV k) key) (hv : RelV x val) (r : Ents w es kvs) : Ents w (⟨h, key, val⟩ :: es) ((k, x) :: kvs)
def GDict (w : World) (K : PySem.W.Frag) (D : Addr) (kvs : List (Key × V)) : Prop := (D == sysModules) = false ∧ ∃ (es : Array DictEntry) (ep : Nat), K.lookup D = some ⟨.type "dict", none, .dict es ep, #[]⟩ ∧ Ents w es.toList kvs ∧ (kvs.map (·.1)).Nodup
theorem Ents.ok {P : Program} {w : World} {es : List DictEntry} {kvs : List (Key × V)} (h : Ents w es kvs) : ∃ vs, KV kvs vs ∧ Pairs (mixKind P w) es vs ∧ ∀ e ∈ es, ∃ k, (mixKind P w).is k e.key = true ∧ e.hash = (mixKind P w).hash k := by
  induction h with
  | nil => exact ⟨[], .nil, .nil, fun e z => nomatch z⟩
  | @cons k x key val h es kvs hh hk hv _ ih =>
    obtain ⟨vs, a, b, c⟩ := ih
    refine ⟨(k, val) :: vs, .cons ⟨rfl, hv⟩ a, .cons (kV_is hk) rfl b, fun e he => ?_⟩
    rcases List.mem_cons.mp he with rfl | z
    · exact ⟨k, kV_is hk, hh⟩
    · exact c e z
section
variable {X : Cx} {pins : List (Addr × Obj)} {σ : St} {H : Hp} {s : Shared} {D : Addr} {kvs : List (Key × V)}
theorem gdict_at (I : Inv X pins σ H s) (g : GDict X.w X.K D kvs) : ∃ vs, KV kvs vs ∧ s.heap.DictOf (mixKind X.prog X.w) D vs := by
  obtain ⟨_, es, ep, l, en, nd⟩ := g
  obtain ⟨vs, a, b, c⟩ := en.ok (P := X.prog)
  refine ⟨vs, a, _, es, ep, I.kIn _ _ l, ⟨rfl, rfl, rfl⟩, rfl, fun e he => c e (by simpa using he), b, ?_⟩
  rw [← a.keys]
  exact nd
def tGIn (kvs : List (Key × V)) (neg : Bool) (ty : TE) : TE := fun σ H Q => ty σ H fun y H1 => ∃ k : Key, y = kV k ∧ Q (.bl (if neg then !(valV kvs k).isSome else (valV kvs k).isSome)) H1
theorem pc_gnotin {i : Expr} {ty : TE} {x : Str} {p : Pos} (hi : PE X i ty) (hg : Gl X x) (hm : X.mg x = some (.ref D)) (g : GDict X.w X.K D kvs) (hd : (x == ("__debug__" : Str)) = false := by decide) : PC X .NotIn i (.Name x p) (tGIn kvs true ty) := by
  intro pins s σ H Q I h
  refine thn (hi pins s σ H _ I h) fun iv s1 ⟨y, H1, I1, ry, k, ey, q1⟩ => thn (pe_glob (v := .ref D) hg hm rfl hd pins s1 σ H1 (fun v H2 => v = .ref D ∧ H2 = H1) I1 ⟨rfl, rfl⟩) fun u s2 ⟨x, H2, I2, rx, e1, e2⟩ => ?_
  subst ey e1 e2
  obtain rfl : u = Value.ref D := rx
  obtain ⟨vs, rel, dd⟩ := gdict_at I2 g
  refine wpAny_notIn_of (kV_is ry) g.1 dd.mapOf ?_
  rw [← (rel.val k).isSome_eq]
  exact ⟨.bl _, _, I2.tok _, rfl, q1⟩
end
end L2
set_option maxRecDepth 100000
namespace L2
open PySem PySem.Spec PyProof.Rows XL
variable {q0 : Bool}
end L2
set_option maxRecDepth 100000
namespace L2
open PySem PySem.Spec PyProof.Rows XL
variable {q0 : Bool}
section
variable {X : Cx} {pins : List (Addr × Obj)} {σ : St} {H : Hp} {s : Shared} {h' : Heap}
theorem Inv.turnedL {t' : Nat} {ch : List Addr} (I : Inv X pins σ H s) (k : ∀ b o, b ∉ ch → s.heap.get? b = some o → h'.get? b = some o) (hf : ∀ b ∈ ch, FpOk X pins H b) : Inv X pins σ H { s with heap := h', toks := t' } := by
  have nit : ∀ b u, H b = some u → b ∉ ch := fun b u e z => by
    have := (hf b z).1
    rw [this] at e
    cases e
  refine I.step (g' := s.gens) (d' := s.drawn) (ch := ch) (fun b hb => ?_) (fun b o _ _ hc e _ => k b o hc e) (fun b o _ _ hc e _ => ⟨o.slots, k b o hc e⟩) (fun _ _ _ _ n => n)
    (fun b o hc e => ⟨o, k b o hc e⟩) (fun _ _ e => e) (fun _ _ _ e => e) (fun b ps e => ⟨#[], by rw [e]; simp⟩) (fun m hm => ?_) (fun b u e => ?_) I.bare
  · obtain ⟨f0, f1, f2, f3, f4, f5⟩ := hf b hb
    exact ⟨f3, f1, f4, f5⟩
  · obtain ⟨o, es, ep, ho, r⟩ := hm
    exact ⟨o, es, ep, k _ o (fun z => (hf _ z).2.1 rfl) ho, r⟩
  · refine (I.hok b u e).stay (fun c v hc q => k c v ?_ q) (fun _ q => q) fun _ _ q => q
    rcases hc with z | z
    · rw [z]; exact nit b u e
    · exact nit c _ z
end
def Itv (K : PySem.W.Frag) (a : Addr) (n : Nat) : It :=
  ⟨fun i H => i < n ∧ ∃ xs, SqL K H a xs ∧ xs.length = n, fun i H x H' => H' = H ∧ ∀ xs, SqL K H a xs → xs[n - 1 - i]? = some x, fun i _ => i = n⟩
theorem turn_rev {P : Program} {w : World} {K : PySem.W.Frag} {tg : Expr} (a it : Addr) (n : Nat) : Turn P w K tg (Itv K a n) [it] it (fun i h => h.IsRevIter it a ((n : Int) - 1 - (i : Int))) where
  mem := by simp
  obj := fun i h st b hb => by
    have e : b = it := by simpa using hb
    subst e
    obtain ⟨o, e, c, d⟩ := st
    exact ⟨o, e, fun v z => by rw [d] at z; cases z⟩
  keep := fun i h h' st k => st.at fun o e => k it (by simp) o e
  item := by
    intro X hP hw hK hc i pins s σ H E I hf st hg
    subst hP hw hK
    obtain ⟨lt, xs, hq, hn⟩ := hg
    obtain ⟨its, rv, p, hz⟩ := I.list hq
    have hx : xs[n - 1 - i]? = some (xs[n - 1 - i]'(by omega)) := List.getElem?_eq_getElem (by omega)
    generalize (xs[n - 1 - i]'(by omega)) = x at hx
    obtain ⟨u, hu, ru⟩ := rv.get hx
    obtain ⟨f0, f1, f2, f3, f4, f5⟩ := hf it (by simp)
    have e : (n : Int) - 1 - (i : Int) = ((n - 1 - i : Nat) : Int) := by omega
    rw [e] at st
    refine wpAny_pyNext_rev_item st p.isList (x := u) (by simpa using hu) fun h' st' sb => ?_
    have e2 : ((n - 1 - i : Nat) : Int) - 1 = (n : Int) - 1 - ((i + 1 : Nat) : Int) := by omega
    rw [e2] at st'
    have I1 : Inv X pins σ H { s with heap := h' } := I.turned (t' := s.toks) (fun b o hb e => (sb.2 b hb).trans e) f0 f1 f3 f4 f5
    obtain ⟨o, e, c, d⟩ := id st'
    exact ⟨u, rfl, go_of (s := { s with heap := h' }) e c d (by decide) ⟨x, H, I1, ru, ⟨rfl, fun ys hy => by rw [I.list_inj hy hq]; exact hx⟩, st', fun b hb => (hf b hb).1⟩⟩
  done := by
    intro X hP hw hK hc i pins s σ H E I hf st hg
    subst hP hw hK
    obtain rfl : i = n := hg
    obtain ⟨f0, f1, f2, f3, f4, f5⟩ := hf it (by simp)
    have e : (i : Int) - 1 - (i : Int) = -1 := by omega
    rw [e] at st
    exact wpAny_pyNext_rev_end (I.ok.hd hc) st fun h' eb => ⟨rfl, I.turned (t' := s.toks) (fun b o hb e => eb b o hb e) f0 f1 f3 f4 f5⟩
  self := fun _ _ _ _ _ st h => wpAny_pyIter_revIter st h
def iRev (K : PySem.W.Frag) (ta : TA) : TI := fun σ H R => ta σ H fun vs H1 => ∃ a xs, vs = [.ref a] ∧ SqL K H1 a xs ∧ R (Itv K a xs.length) H1
section
variable {X : Cx} {tg : Expr}
theorem pi_reversed {a : Expr} {ta : TA} {p pos : Pos} (hg : Gl X "reversed") (hm : X.mg "reversed" = none) (ha : PA X [a] ta) (hs : starEach [a] X.env = [(false, eval a X.env)] := by rfl) : PI X tg (.Call (.Name "reversed" p) [a] [] pos) (iRev X.K ta) := by
  intro pins s σ H R I h
  refine Call_ (ld_blt I hg hm PyProof.Rows.Boot.«reversed» (PyProof.Rows.callWith_type1 (thn (ha pos pins s σ H _ I h) fun us s1 ⟨vs, H1, I1, r1, q1⟩ => ?_) hs rfl))
  obtain ⟨l, xs, e, hq, q⟩ := q1
  subst e
  obtain ⟨u, rfl, ru⟩ := vals1 r1
  obtain rfl : u = Value.ref l := ru
  obtain ⟨its, rv, p, hz⟩ := I1.list hq
  have hl := rv.length
  refine call_reversed_list p.isList ?_
  have hit : Heap.IsRevIter (s1.heap.push (revObj l ((its.toArray.size : Int) - 1))) s1.heap.objs.size l ((its.toArray.size : Int) - 1) := ⟨_, Heap.get?_push_size _ rfl, rfl, rfl⟩
  refine wpAny_pyIter_revIter (s := { s1 with heap := s1.heap.push (revObj l ((its.toArray.size : Int) - 1)) }) hit ?_
  refine ⟨s1.heap.objs.size, [s1.heap.objs.size], _, _, H1, rfl, I1.kept (t' := s1.toks) fun b o e => Heap.get?_push_of_some _ e, turn_rev l _ xs.length, ?_, fun b hb => ?_, q⟩
  · have e : (its.toArray.size : Int) - 1 = (xs.length : Int) - 1 - ((0 : Nat) : Int) := by rw [List.size_toArray]; omega
    rw [e] at hit ⊢
    exact hit
  · have e : b = s1.heap.objs.size := by simpa using hb
    subst e
    exact I1.fpOk (Nat.le_refl _) (I1.hok.fresh (Nat.le_refl _))
end
theorem for_rev {K : PySem.W.Frag} {a : Addr} {xs : List V} {g : TG} {tb : TS} {D : Ends} {σ : St} {H : Hp} (Pv : Nat → St → Hp → Prop) (h0 : Pv 0 σ H) (hl : ∀ i σ H, i ≤ xs.length → Pv i σ H → SqL K H a xs)
    (hs : ∀ i x σ H, i < xs.length → xs[xs.length - 1 - i]? = some x → Pv i σ H → g x σ H fun σ2 H2 => tb { D with nx := Pv (i + 1), ct := Pv (i + 1), bk := D.nx } σ2 H2) (hd : ∀ σ H, Pv xs.length σ H → D.nx σ H) :
    ∃ W : Nat → Nat → St → Hp → Prop, (∃ m, W 0 m σ H) ∧ ∀ i m σ H, W i m σ H →
      ((Itv K a xs.length).stop i H ∧ D.nx σ H) ∨ ((Itv K a xs.length).go i H ∧ ∃ N : St → Hp → Prop, (∀ σ' H', N σ' H' → ∃ m', m' < m ∧ W (i + 1) m' σ' H') ∧ ∀ x H', (Itv K a xs.length).yld i H x H' → g x σ H' fun σ2 H2 => tb { D with nx := N, ct := N, bk := D.nx } σ2 H2) := by
  refine ⟨fun i m σ H => m = xs.length - i ∧ i ≤ xs.length ∧ Pv i σ H, ⟨xs.length, by simp, Nat.zero_le _, h0⟩, ?_⟩
  rintro i m σ H ⟨rfl, hi, p⟩
  have q := hl i σ H hi p
  by_cases hlt : i < xs.length
  · refine .inr ⟨⟨hlt, xs, q, rfl⟩, Pv (i + 1), fun σ' H' p' => ⟨xs.length - (i + 1), by omega, rfl, hlt, p'⟩, fun x H' y => ?_⟩
    obtain ⟨e, y⟩ := y
    subst e
    exact hs i x σ _ hlt (y xs q) p
  · have e : i = xs.length := by omega
    subst e
    exact .inl ⟨rfl, hd σ H p⟩
theorem ne_num {a b : Nat} (h : a ≠ b) : (a : Addr) ≠ (b : Addr) := h
section
variable {X : Cx} {elts : List Expr} {x1 : _} {tpos : Pos}
end
end L2
set_option maxRecDepth 100000
namespace L2
open PySem PySem.Spec PyProof.Rows XL
variable {q0 : Bool}
def Ite (K : PySem.W.Frag) (a : Addr) : It :=
  ⟨fun i H => ∃ xs x, SqL K H a xs ∧ xs[i]? = some x, fun i H v H' => ∃ p x, (∀ xs, SqL K H a xs → xs[i]? = some x) ∧ v = .ref p ∧ H p = none ∧ H' = upd H p (.tup [.int i, x]), fun i H => ∃ xs, SqL K H a xs ∧ xs.length ≤ i⟩
theorem turn_enum {P : Program} {w : World} {K : PySem.W.Frag} {elts : List Expr} {x1} {tpos : Pos} (e it l : Addr) (hei : e ≠ it) :
    Turn P w K (.Tuple elts x1 tpos) (Ite K l) [e, it] e (fun i h => (∃ old, IsEnum h e it i old) ∧ h.IsListIter it l i) where
  mem := by simp
  obj := fun i h st b hb => by
    obtain ⟨⟨old, he⟩, ⟨o1, e1, c1, d1⟩⟩ := st
    simp only [List.mem_cons, List.not_mem_nil, or_false] at hb
    rcases hb with rfl | rfl
    · exact ⟨_, he, fun v k => by have k' : Data.fields _ = Data.cell v := k; cases k'⟩
    · exact ⟨_, e1, fun v k => by rw [d1] at k; cases k⟩
  keep := fun i h h' ⟨⟨old, he⟩, h1⟩ k => ⟨⟨old, k e (by simp) _ he⟩, h1.at fun o z => k it (by simp) o z⟩
  item := by
    intro X hP hw hK hc i pins s σ H E I hf st hg
    subst hP hw hK
    obtain ⟨xs, x, hq, hx⟩ := hg
    obtain ⟨its, rv, p, hz1⟩ := I.list hq
    obtain ⟨u, hu, ru⟩ := rv.get hx
    obtain ⟨⟨old, he⟩, h1⟩ := id st
    refine wpAny_pyNext_enum_item he h1 p.isList (x := u) (by simpa using hu) hei fun h' ho hit' hT hsz hk => ?_
    refine ⟨_, rfl, wpAny_letOwnedTupleGo_enum (s := { s with heap := h', toks := s.toks + 1 }) ho fun h'' he' hs' => ?_⟩
    have elt : e < s.heap.objs.size := Heap.lt_size he
    have pne : s.heap.objs.size ≠ e := Nat.ne_of_gt elt
    have kk : ∀ b o, b ∉ [e, it] → s.heap.get? b = some o → h''.get? b = some o := fun b o hb g => by
      simp only [List.mem_cons, List.not_mem_nil, or_false, not_or] at hb
      exact (hs'.2 b hb.1).trans (hk b o hb.1 hb.2 g)
    have I1 : Inv X pins σ H { s with heap := h'', toks := s.toks + 1 } := I.turnedL kk hf
    obtain ⟨n0, nL, nC, nP⟩ := I.size_lt (Nat.le_refl s.heap.objs.size)
    have hp : h''.get? s.heap.objs.size = some { cls := .type "tuple", data := .seq #[.int i s.toks, u] } := (hs'.2 _ pne).trans hT
    refine ⟨.ref s.heap.objs.size, upd H s.heap.objs.size (.tup [.int i, x]), I1.adopt n0 I.sz nL nC nP ⟨by show 2 ≤ sizeLine; decide, [.int i s.toks, u], .cons ⟨_, rfl⟩ (.cons ru .nil), _, hp, rfl, _, rfl⟩, rfl,
      ⟨_, x, fun zs hz => by rw [I.list_inj hz hq]; exact hx, rfl, n0, rfl⟩, ?_, fun b hb => ?_⟩
    · exact ⟨⟨_, by simpa using he'⟩, hit'.at fun o y => (hs'.2 it (Ne.symm hei)).trans y⟩
    · obtain ⟨o, ho⟩ : ∃ o, s.heap.get? b = some o := by
        obtain ⟨o1, e1, c1, d1⟩ := h1
        simp only [List.mem_cons, List.not_mem_nil, or_false] at hb
        rcases hb with rfl | rfl
        · exact ⟨_, he⟩
        · exact ⟨_, e1⟩
      rw [upd_ne (Nat.ne_of_lt (Heap.lt_size ho))]
      exact (hf b hb).1
  done := by
    intro X hP hw hK hc i pins s σ H E I hf st hg
    subst hP hw hK
    obtain ⟨xs, hq, hl⟩ := hg
    obtain ⟨its, rv, p, hz1⟩ := I.list hq
    have e1 := rv.length
    obtain ⟨⟨old, he⟩, h1⟩ := id st
    refine wpAny_pyNext_enum_end (I.ok.hd hc) he h1 p.isList (by simp; omega) fun h' hx => ⟨rfl, I.turnedL (t' := s.toks) (fun b o hb g => ?_) hf⟩
    simp only [List.mem_cons, List.not_mem_nil, or_false, not_or] at hb
    exact hx b o hb.2 g
  self := fun _ _ _ _ _ ⟨⟨_, st⟩, _⟩ h => wpAny_pyIter_enum st h
def iEnum (K : PySem.W.Frag) (ta : TA) : TI := fun σ H R => ta σ H fun vs H1 => ∃ a xs, vs = [.ref a] ∧ SqL K H1 a xs ∧ R (Ite K a) H1
section
variable {X : Cx} {elts : List Expr} {x1 : _} {tpos : Pos}
theorem pi_enumerate {a : Expr} {ta : TA} {p pos : Pos} (hg : Gl X "enumerate") (hm : X.mg "enumerate" = none) (ha : PA X [a] ta) (hs : starEach [a] X.env = [(false, eval a X.env)] := by rfl) :
    PI X (.Tuple elts x1 tpos) (.Call (.Name "enumerate" p) [a] [] pos) (iEnum X.K ta) := by
  intro pins s σ H R I h
  refine Call_ (ld_blt I hg hm PyProof.Rows.Boot.«enumerate» (PyProof.Rows.callWith_type1 (thn (ha pos pins s σ H _ I h) fun us s1 ⟨vs, H1, I1, r1, q1⟩ => ?_) hs rfl))
  obtain ⟨l, xs, e, hq, q⟩ := q1
  subst e
  obtain ⟨u, rfl, ru⟩ := vals1 r1
  obtain rfl : u = Value.ref l := ru
  obtain ⟨its, rv, p1, hz1⟩ := I1.list hq
  refine call_enumerate_list p1.isList fun h' he h1 hsz hk => ?_
  refine wpAny_pyIter_enum (s := { s1 with heap := h' }) he ?_
  have I2 : Inv X pins σ H1 { s1 with heap := h' } := I1.kept (t' := s1.toks) hk
  refine ⟨_, [s1.heap.objs.size + 1, s1.heap.objs.size], _, _, H1, rfl, I2, turn_enum _ _ l (ne_num (by omega)), ⟨⟨_, he⟩, h1⟩, fun b hb => ?_, q⟩
  have hb' : s1.heap.objs.size ≤ b := by
    simp only [List.mem_cons, List.not_mem_nil, or_false] at hb
    rcases hb with rfl | rfl
    · exact Nat.le_add_right _ 1
    · exact Nat.le_refl _
  exact I1.fpOk hb' (I1.hok.fresh hb')
end
theorem for_enum {K : PySem.W.Frag} {a : Addr} {xs : List V} {g : TG} {tb : TS} {D : Ends} {σ : St} {H : Hp} (Pv : Nat → St → Hp → Prop) (h0 : Pv 0 σ H) (hl : ∀ i σ H, i ≤ xs.length → Pv i σ H → SqL K H a xs)
    (hs : ∀ i x p σ H, xs[i]? = some x → H p = none → Pv i σ H → g (.ref p) σ (upd H p (.tup [.int i, x])) fun σ2 H2 => tb { D with nx := Pv (i + 1), ct := Pv (i + 1), bk := D.nx } σ2 H2) (hd : ∀ σ H, Pv xs.length σ H → D.nx σ H) :
    ∃ W : Nat → Nat → St → Hp → Prop, (∃ m, W 0 m σ H) ∧ ∀ i m σ H, W i m σ H →
      ((Ite K a).stop i H ∧ D.nx σ H) ∨ ((Ite K a).go i H ∧ ∃ N : St → Hp → Prop, (∀ σ' H', N σ' H' → ∃ m', m' < m ∧ W (i + 1) m' σ' H') ∧ ∀ x H', (Ite K a).yld i H x H' → g x σ H' fun σ2 H2 => tb { D with nx := N, ct := N, bk := D.nx } σ2 H2) := by
  refine ⟨fun i m σ H => m = xs.length - i ∧ i ≤ xs.length ∧ Pv i σ H, ⟨xs.length, by simp, Nat.zero_le _, h0⟩, ?_⟩
  rintro i m σ H ⟨rfl, hi, p⟩
  have q := hl i σ H hi p
  by_cases hlt : i < xs.length
  · refine .inr ⟨⟨xs, xs[i], q, by simp [hlt]⟩, Pv (i + 1), fun σ' H' p' => ⟨xs.length - (i + 1), by omega, rfl, hlt, p'⟩, fun x H' y => ?_⟩
    obtain ⟨r, x', e1, rfl, hr, rfl⟩ := y
    exact hs i x' r σ H (e1 _ q) hr p
  · have e : i = xs.length := by omega
    subst e
    exact .inl ⟨⟨xs, q, Nat.le_refl _⟩, hd σ H p⟩
end L2
namespace L2
open PySem PySem.Spec PyProof.Rows XL
end L2
set_option maxRecDepth 100000
namespace L2
open PySem PySem.Spec PyProof.Rows XL
def tMid (t : TS) : TS := fun D σ H => ∃ Pv : St → Hp → Prop, t { D with nx := Pv } σ H ∧ ∀ σ' H', Pv σ' H' → D.nx σ' H'
theorem ps_mid {X : Cx} {st : Stmt} {t : TS} (h : PS X st t) : PS X st (tMid t) := by
  intro pins s σ H D I q
  obtain ⟨Pv, q1, q2⟩ := q
  refine thn (h pins s σ H { D with nx := Pv } I q1) fun fl s1 z => ?_
  cases fl with
  | next =>
    obtain ⟨σ', H', I', r⟩ := z
    exact ⟨σ', H', I', q2 _ _ r⟩
  | _ => exact z
end L2
set_option maxRecDepth 100000
namespace XL
open PySem PySem.W
section
variable {prog : Program} {w : World} {A : Around} {E : Value → Shared → Prop} {h : Heap} {g : Array GenState} {d : Drawn} {t : Nat} {os : OsState}
variable {nm qn : Str} {C N : Addr} {bs bm bmB : List Value} {hz : Bool} {sn : List Str} {sub : List Value} {ab : Bool} {col : Option Bool} {dd : Option Addr} {k0 k1 k2 k3 k5 : Option Value} {B ni ii : String}
end
end XL
namespace L2
open PySem PySem.Spec PyProof.Rows XL
variable {q0 : Bool}
section
variable {X : Cx} {C : Addr} {x : Str} {p pos : Pos}
end
section
variable {X : Cx} {pos np hpos np1 np2 hpos1 hpos2 : Pos} {body hbody hbody1 hbody2 : List Stmt} {b0 b1 b2 : Stmt} {cx cx1 cx2 n : Str} {C0 C1 C2 : Addr} {j : Nat} {E : St → XK} {tb th th1 th2 : TS} {rest : List ExceptHandler}
end
end L2
set_option maxRecDepth 100000
namespace L2
open PySem PySem.Spec PyProof.Rows XL
section
variable {X : Cx} {a b c d : Expr} {ta tb tc td : TE} {pos : Pos}
end
end L2
set_option maxRecDepth 100000
set_option maxHeartbeats 4000000
namespace L2
open PySem PySem.Calls PyProof PyProof.Rows
def eU (e : V → Bool) (u : Value) : Bool := match absV u with | some y => e y | none => false
theorem eU_of {e : V → Bool} {y : V} {u : Value} (r : RelV y u) : eU e u = e y := by unfold eU; rw [r.abs]
theorem any_eU {e : V → Bool} : ∀ {xs : List V} {us : List Value}, Vals xs us → us.any (eU e) = xs.any e
  | _, _, .nil => rfl
  | y :: xs, u :: us, .cons r t => by rw [List.any_cons, List.any_cons, eU_of r, any_eU t]
theorem mem_rel : ∀ {xs : List V} {us : List Value}, Vals xs us → ∀ u ∈ us, ∃ y ∈ xs, RelV y u
  | _, _, .nil => fun u hu => nomatch hu
  | y :: xs, u :: us, .cons r t => fun u' hu => by
    rcases List.mem_cons.mp hu with rfl | hu
    · exact ⟨y, List.mem_cons_self, r⟩
    · obtain ⟨z, h1, h2⟩ := mem_rel t u' hu
      exact ⟨z, List.mem_cons_of_mem _ h1, h2⟩
section
variable {X : Cx}
end
end L2
set_option maxRecDepth 100000
namespace PySem.F
end PySem.F
namespace L2
open PySem PySem.Spec PyProof.Rows XL
variable {q0 : Bool}
end L2
set_option maxRecDepth 100000
namespace L2
open PySem PySem.Spec PyProof.Rows XL
variable {q0 : Bool}
section
variable {z TI TO i1 i2 l1 l2 : Addr} {P : Nat → Prop} {i : Nat} {h : Heap}
end
end L2
set_option maxRecDepth 100000
namespace L2
open PySem PySem.Spec PyProof.Rows XL
variable {q0 : Bool}
end L2
set_option maxRecDepth 100000
namespace L2
open PySem PySem.Spec PyProof.Rows XL
variable {q0 : Bool}
section
variable {X : Cx} {pos np1 np2 np3 hpos1 hpos2 hpos3 : Pos} {body hbody1 hbody2 hbody3 : List Stmt} {rest : List ExceptHandler} {b1 b2 b3 : Stmt} {cx1 cx2 cx3 n : Str} {C1 C2 C3 : Addr} {j : Nat} {E : St → XK} {tb th1 th2 th3 : TS}
end
end L2
set_option maxRecDepth 100000
namespace L2
open PySem PySem.Spec PyProof.Rows XL PySem.W
variable {q0 : Bool}
theorem list_sort_tups {prog : Program} {w : World} {A : Around} {E : Value → Shared → Prop} {s : Shared} {a : Addr} {vs : List Value} {n : Nat} {P : PySem.Fin → Shared → Prop}
    (h : s.heap.get? a = some (seqObj "list" vs.toArray n)) (h2 : 2 ≤ vs.length) (h64 : vs.length < 64)
    (hk : ∀ s' : Shared, s'.heap = (((s.heap.update a (Obj.mapSeq fun x => #[])).push (seqObj "tuple" vs.toArray 0)).push (seqObj "list" #[] 0)) → s' = { s with heap := s'.heap } →
      wpAny (model prog w) A (keyKind' vs.toArray) (fun κ s'' => s'' = s' ∧ KasT.kasWp (kas_ask prog w A κ vs) (kas_sort vs.length) (fun p s3 => s3 = s' ∧ P (.done (.ret .none)) { s with heap := sortedHeap s.heap a vs (p.map fun i => vs.getD i .none) }) s'') (fun _ _ => False) s') :
    wpAny (model prog w) A (Builtin.«list.sort» { pos := [.ref a] }) P E s := by
  obtain ⟨hp, g, d, tk, os⟩ := s
  rw [list_sort_plain]
  repeat (any_goals (first | assumption | wp_step))
  have z : ¬ vs.toArray.toList.toArray.size > sizeLine := by
    simp
    exact Nat.le_of_lt (Nat.lt_trans h64 (by decide))
  rw [if_neg z]
  generalize keyKind' vs.toArray = kk at hk ⊢
  repeat (any_goals (first | assumption | wp_step))
  have hk' := hk { heap := ((hp.update a (Obj.mapSeq fun x => #[])).push (seqObj "tuple" vs.toArray 0)).push (seqObj "list" #[] 0), gens := g, drawn := d, toks := tk, os := os } rfl rfl
  refine wpAny_mono hk' (fun κ s'' z => ?_) (fun _ _ z => z.elim)
  obtain ⟨e, q⟩ := z
  subst e
  show wpAny _ _ (StateT.run (if vs.toArray.size < 2 then pure () else sortRuns') _ >>= _) _ _ _
  rw [if_neg (by simp; omega)]
  refine wpAny_bind (wpAny_mono (kat_run (E := E) (Q := fun st' s' => ∃ p : Array Nat, p.size = vs.length ∧ arrOf st' = Array.map (kas_item (vs.toArray.zip vs.toArray)) p ∧ failedOf st' = none ∧ s' = _ ∧ P (.done (.ret .none)) { heap := sortedHeap hp a vs (p.map fun i => vs.getD i .none), gens := g, drawn := d, toks := tk, os := os }) rfl h2 h64 (fun p st' s' hp' e f q' => ⟨p, hp', e, f, q'.1, q'.2⟩) q) (fun r s' z => ?_) fun _ _ z => z)
  obtain ⟨u, st⟩ := r
  obtain ⟨p, psz, e, f, rfl, q'⟩ := z
  have al : a < hp.objs.size := Heap.lt_size h
  have g1 : (((hp.update a (Obj.mapSeq fun x => #[])).push (seqObj "tuple" vs.toArray 0)).push (seqObj "list" #[] 0)).get? a = some (seqObj "list" #[] (n + 1)) := by
    refine Heap.get?_push_of_some _ (Heap.get?_push_of_some _ ?_)
    rw [Heap.get?_update_self _ h rfl]
    have z : ((0 : Nat) == vs.length) = false := by
      cases vs with
      | nil => simp at h2
      | cons => rfl
    simp [Obj.mapSeq, z]
  have e2 : (if (((fun x => #[]) vs.toArray : Array Value).size == vs.toArray.size) = true then n else n + 1) = n + 1 := by
    rw [if_neg]
    simp
    omega
  simp only [e2, f]
  have e3 : Array.map (fun x => x.snd) (arrOf st) = p.map fun i => vs.getD i .none := by
    rw [e, Array.map_map]
    congr 1
    funext i
    show (kas_item (vs.toArray.zip vs.toArray) i).snd = _
    unfold kas_item
    by_cases c : i < vs.length
    · simp [List.getElem?_eq_getElem c, c]
    · simp [List.getElem?_eq_none (by omega : vs.length ≤ i), c]
  simp only [e3]
  repeat (any_goals (first | assumption | wp_step))
  have e4 : (Obj.mapSeq (fun x => Array.map (fun i => vs.getD i Value.none) p) (seqObj "list" #[] (n + 1))).data.pastItsLine = none := by
    show (if (Array.map (fun i => vs.getD i Value.none) p).size > sizeLine + 1 then _ else none) = none
    rw [if_neg]
    rw [Array.size_map, psz]
    have : vs.length < sizeLine := Nat.lt_trans h64 (by decide)
    omega
  rw [e4]
  refine wpAny_pure ?_
  rw [f]
  show wpAny _ _ (if (n + 1 != n + 1) = true then _ else _) _ _ _
  rw [if_neg (by simp)]
  exact wpAny_pure q'
theorem keyNext_item {prog : Program} {w : World} {A : Around} {E : Value → Shared → Prop} {s : Shared} {it d : Addr} {i ep : Nat} {o : Obj} {es : Array DictEntry} {en : DictEntry} {Q : Option Value → Shared → Prop}
    (st : s.heap.IsKeyIter it d i es.size ep) (hd : s.heap.get? d = some o) (hx : o.ExactDict) (hdat : o.data = .dict es ep) (hi : es[i]? = some en)
    (h : ∀ h', h'.IsKeyIter it d (i + 1) es.size ep → Heap.SameBut it s.heap h' → Q (some en.key) { s with heap := h' }) : wpAny (model prog w) A (pyNext (.ref it)) Q E s := by
  unfold pyNext
  refine wpAny_bind (wpAny_attempt (wpAny_callSpecial?_slot st.typeIs F.slot_dict_keyiterator_next ?_))
  refine wpAny_call_entry F.slot_dict_keyiterator_next st.typeIs F.entry_dict_keyiterator_next ?_ (F.args_dict_keyiterator_next_1 _)
  have ti := st.typeIs
  obtain ⟨hp, g, dr, tk, os⟩ := s
  obtain ⟨⟨c, dct, dat, sl⟩, hit, ci, di⟩ := st
  simp only at ci di
  subst ci di
  unfold Builtin.«dict_keyiterator.__next__»
  repeat (any_goals (first | assumption | (with_reducible refine wpAny_typeNameOfWhole_keyiter ti ?_) | (with_reducible refine wpAny_isOneOf_keyiter ti ?_) | (with_reducible refine wpAny_dictEntries hd hdat ?_) | (with_reducible refine wpAny_dictEpoch hd hdat ?_) | wp_step))
  have e1 : (if (i : Int) < 0 then none else es[(i : Int).toNat]?) = some en := by
    rw [if_neg (by omega), Int.toNat_natCast]
    exact hi
  rw [e1]
  repeat (any_goals (first | assumption | (with_reducible refine wpAny_typeNameOfWhole_keyiter ti ?_) | (with_reducible refine wpAny_isOneOf_keyiter ti ?_) | (with_reducible refine wpAny_dictEntries hd hdat ?_) | (with_reducible refine wpAny_dictEpoch hd hdat ?_) | wp_step))
  refine ⟨_, rfl, wpAny_pure (h _ ?_ (Heap.SameBut.update _ _ _))⟩
  refine ⟨_, Heap.get?_update_self _ hit rfl, rfl, ?_⟩
  rfl
theorem keyNext_end {prog : Program} {w : World} {A : Around} {E : Value → Shared → Prop} {s : Shared} {it d : Addr} {ep : Nat} {o : Obj} {es : Array DictEntry} {Q : Option Value → Shared → Prop}
    (hA : A.handled = none) (st : s.heap.IsKeyIter it d es.size es.size ep) (hd : s.heap.get? d = some o) (hx : o.ExactDict) (hdat : o.data = .dict es ep)
    (h : ∀ h', Heap.ExtBut it s.heap h' → Q none { s with heap := h' }) : wpAny (model prog w) A (pyNext (.ref it)) Q E s := by
  unfold pyNext
  refine wpAny_bind (wpAny_attempt (wpAny_callSpecial?_slot st.typeIs F.slot_dict_keyiterator_next ?_))
  refine wpAny_call_entry F.slot_dict_keyiterator_next st.typeIs F.entry_dict_keyiterator_next ?_ (F.args_dict_keyiterator_next_1 _)
  have ti := st.typeIs
  obtain ⟨hp, g, dr, tk, os⟩ := s
  obtain ⟨⟨c, dct, dat, sl⟩, hit, ci, di⟩ := st
  simp only at ci di
  subst ci di
  unfold Builtin.«dict_keyiterator.__next__»
  repeat (any_goals (first | assumption | (with_reducible refine wpAny_typeNameOfWhole_keyiter ti ?_) | (with_reducible refine wpAny_isOneOf_keyiter ti ?_) | (with_reducible refine wpAny_dictEntries hd hdat ?_) | (with_reducible refine wpAny_dictEpoch hd hdat ?_) | wp_step))
  have e1 : (if (es.size : Int) < 0 then none else es[(es.size : Int).toNat]?) = none := by
    rw [if_neg (by omega), Int.toNat_natCast]
    simp
  rw [e1]
  repeat (any_goals (first | assumption | (with_reducible refine wpAny_typeNameOfWhole_keyiter ti ?_) | (with_reducible refine wpAny_isOneOf_keyiter ti ?_) | (with_reducible refine wpAny_dictEntries hd hdat ?_) | (with_reducible refine wpAny_dictEpoch hd hdat ?_) | wp_step))
  refine wpAny_raiseNew_none hA ?_
  refine wpAny_bind (wpAny_isInstance ⟨_, Heap.get?_push_size _ rfl, rfl⟩ isSubtype_stop (wpAny_pure (h _ fun b o nb e => ?_)))
  refine Heap.get?_push_of_some _ (Heap.get?_push_of_some _ ?_)
  rw [Heap.get?_update_other _ _ (Ne.symm nb)]
  exact e
theorem dictIter {prog : Program} {w : World} {A : Around} {E : Value → Shared → Prop} {s : Shared} {d : Addr} {ep : Nat} {o : Obj} {es : Array DictEntry} {Q : Value → Shared → Prop}
    (hs : (d == sysModules) = false) (hd : s.heap.get? d = some o) (hx : o.ExactDict) (hdat : o.data = .dict es ep) 
    (h : Q (.ref s.heap.objs.size) { s with heap := s.heap.push { cls := .type "dict_keyiterator", data := .fields #[.ref d, .int 0 0, .int es.size 0, .int ep 0] } }) : wpAny (model prog w) A (pyIter (.ref d)) Q E s := by
  have ti : s.TypeIs (.ref d) "dict" := ⟨o, hd, hx.1⟩
  obtain ⟨c, dct, dat, sl⟩ := o
  obtain ⟨x1, x2, x3⟩ := hx
  simp only at x1 x2 x3 hdat
  subst x1 x2 x3 hdat
  refine wpAny_pyIter_slot ti F.slot_dict_iter ?_
  refine wpAny_call_entry F.slot_dict_iter ti F.entry_dict_iter ?_ (F.args_dict_iter_1 _)
  obtain ⟨hp, g, dr, tk, os⟩ := s
  unfold Builtin.«dict.__iter__»
  repeat (any_goals (first | assumption | (with_reducible refine wpAny_notOrdered_dict ti ?_) | (with_reducible refine wpAny_dictEntries hd rfl ?_) | (with_reducible refine wpAny_dictEpoch hd rfl ?_) | wp_step))
  exact ⟨_, rfl, _, _, ⟨_, Heap.get?_push_size _ rfl, rfl⟩, F.slot_dict_keyiterator_next.lookup, h⟩
theorem kdl_raw {prog : Program} {w : World} {d : Addr} {ep : Nat} {o : Obj} {es : Array DictEntry} (hs : (d == sysModules) = false) (hx : o.ExactDict) (hdat : o.data = .dict es ep) :
    KdlSrc prog w "dict" d d es.size (fun i v => ∃ en, es[i]? = some en ∧ v = en.key) (fun h => h.get? d = some o) where
  type := fun s h => ⟨o, h, hx.1⟩
  there := fun h e => ⟨Heap.lt_size e, Heap.lt_size e⟩
  keep := fun h h' e k => k d (.inl rfl) o e
  notList := by decide
  notTuple := by decide
  hint := fun A E s Q h q => kdl_hint_dict ⟨o, h, hx.1⟩ q
  iter := fun A s hA h => by
    have dl := Heap.lt_size h
    refine ⟨{ cls := .type "dict_keyiterator", data := .fields #[.ref d, .int 0 0, .int es.size 0, .int ep 0] }, fun i h => h.IsKeyIter s.heap.objs.size d i es.size ep ∧ h.get? d = some o, fun E Q q => dictIter hs h hx hdat q, ?_, ⟨_, Heap.get?_push_size _ rfl, rfl, rfl⟩, Heap.get?_push_of_some _ h⟩
    have dn : d ≠ s.heap.objs.size := Nat.ne_of_lt dl
    exact {
      sub := fun b hb => by
        have e : b = s.heap.objs.size := by simpa using hb
        rw [e]
        simp
      frame := fun i h h' st k => ⟨st.1.at fun o e => k _ (by simp) o e, k _ (by simp) _ st.2⟩
      item := fun i s' Q E hi st q => by
        refine keyNext_item st.1 st.2 hx hdat (Array.getElem?_eq_getElem hi) fun h' st' sb => q _ h' s'.toks ⟨_, Array.getElem?_eq_getElem hi, rfl⟩ ⟨st', (sb.2 d dn).trans st.2⟩ fun b o hb e => ?_
        exact (sb.2 b (by simpa using hb)).trans e
      done := fun s' Q E st q => by
        refine keyNext_end hA st.1 st.2 hx hdat fun h' eb => q h' s'.toks fun b o hb e => ?_
        exact eb b o (by simpa using hb) e
      self := fun i s' Q E st q => wpAny_pyIter_keyiter st.1 q }
end L2
set_option maxRecDepth 100000
namespace L2
open PySem PySem.Spec PyProof.Rows XL PySem.W
variable {q0 : Bool}
def kLess : Key → Key → Bool
  | .inl a, .inl b => decide (a < b)
  | .inr a, .inr b => decide (a.cps.toList < b.cps.toList)
  | _, _ => false
def lexK : List Key → List Key → Bool
  | [], [] => false
  | [], _ :: _ => true
  | _ :: _, [] => false
  | x :: xs, y :: ys => if x = y then lexK xs ys else kLess x y
abbrev shp (k : List Key) : List Bool := k.map Sum.isLeft
theorem str_cps {a b : Str} (h : a.cps.toList = b.cps.toList) : a = b := by
  cases a
  cases b
  simp at h
  rw [h]
theorem kLess_irr (x : Key) : kLess x x = false := by
  cases x with
  | inl a => simp [kLess]
  | inr a => exact PyProof.Rows.strKind.irrefl a.cps.toList
theorem kLess_tr {x y z : Key} (h1 : kLess x y = true) (h2 : kLess y z = true) : kLess x z = true := by
  cases x <;> cases y <;> cases z <;> simp only [kLess, Bool.false_eq_true] at h1 h2
  · have a := of_decide_eq_true h1
    have b := of_decide_eq_true h2
    exact decide_eq_true (Int.lt_trans a b)
  · exact PyProof.Rows.strKind.trans _ _ _ h1 h2
theorem kLess_tot {x y : Key} (hs : x.isLeft = y.isLeft) (ne : x ≠ y) (h : kLess x y = false) : kLess y x = true := by
  cases x with
  | inl a =>
    cases y with
    | inl b =>
      have h' : ¬ a < b := of_decide_eq_false h
      have n' : a ≠ b := fun e => ne (by rw [e])
      exact decide_eq_true (show b < a by omega)
    | inr b => cases hs
  | inr a =>
    cases y with
    | inl b => cases hs
    | inr b =>
      cases e : kLess (.inr b) (.inr a) with
      | true => rfl
      | false => exact absurd (by rw [str_cps (PyProof.Rows.strKind.total _ _ h e)]) ne
theorem lexK_irr : ∀ x : List Key, lexK x x = false
  | [] => rfl
  | x :: xs => by
    unfold lexK
    rw [if_pos rfl]
    exact lexK_irr xs
theorem lexK_tr : ∀ {x y z : List Key}, shp x = shp y → shp y = shp z → lexK x y = true → lexK y z = true → lexK x z = true
  | [], [], _, _, _, h, _ => by cases h
  | [], _ :: _, _, h, _, _, _ => by cases h
  | _ :: _, [], _, h, _, _, _ => by cases h
  | _ :: _, _ :: _, [], _, h, _, _ => by cases h
  | x :: xs, y :: ys, z :: zs, h1, h2, h3, h4 => by
    simp only [shp, List.map_cons, List.cons.injEq] at h1 h2
    unfold lexK at h3 h4 ⊢
    by_cases xy : x = y
    · subst xy
      rw [if_pos rfl] at h3
      by_cases yz : x = z
      · rw [if_pos yz] at h4 ⊢
        exact lexK_tr h1.2 h2.2 h3 h4
      · rw [if_neg yz] at h4 ⊢
        exact h4
    · rw [if_neg xy] at h3
      by_cases yz : y = z
      · subst yz
        rw [if_neg xy]
        exact h3
      · rw [if_neg yz] at h4
        have h5 := kLess_tr h3 h4
        rw [if_neg (fun e => by rw [e, kLess_irr] at h5; cases h5)]
        exact h5
theorem lexK_tot : ∀ {x y : List Key}, shp x = shp y → x ≠ y → lexK x y = false → lexK y x = true
  | [], [], _, h, _ => absurd rfl h
  | [], _ :: _, h, _, _ => by cases h
  | _ :: _, [], h, _, _ => by cases h
  | x :: xs, y :: ys, h1, h2, h3 => by
    simp only [shp, List.map_cons, List.cons.injEq] at h1
    unfold lexK at h3 ⊢
    by_cases xy : x = y
    · subst xy
      rw [if_pos rfl] at h3 ⊢
      exact lexK_tot h1.2 (fun e => h2 (by rw [e])) h3
    · rw [if_neg xy] at h3
      rw [if_neg (fun e => xy e.symm)]
      exact kLess_tot h1.1 xy h3
theorem lex_wp {prog : Program} {w : World} {A : Around} {s : Shared} {b : Bool} {Q : Bool → Shared → Prop} : ∀ (xs ys : List Key) (us vs : List Value) (i : Nat), shp xs = shp ys → Vals (xs.map kV) us → Vals (ys.map kV) vs → Q (lexK xs ys) s → KatLex prog w A b false Q (us.zip vs) i s
  | [], [], _, _, i, _, .nil, .nil, q => kat_nil q
  | [], _ :: _, _, _, _, h, _, _, _ => by cases h
  | _ :: _, [], _, _, _, h, _, _, _ => by cases h
  | x :: xs, y :: ys, _, _, i, h, .cons ru r, .cons rv r', q => by
    simp only [shp, List.map_cons, List.cons.injEq] at h
    unfold lexK at q
    cases x with
    | inl a =>
      cases y with
      | inr c => cases h.1
      | inl c =>
        obtain ⟨t, rfl⟩ := ru
        obtain ⟨t', rfl⟩ := rv
        refine kat_cons (wpAny_eqBool_int ?_)
        unfold KatGo
        by_cases e : a = c
        · subst e
          rw [if_pos rfl] at q
          rw [if_pos (by simp)]
          exact lex_wp xs ys _ _ (i + 1) h.2 r r' q
        · rw [if_neg (fun z => e (Sum.inl.inj z))] at q
          rw [if_neg (by simpa using e)]
          cases (b && i == 0) with
          | true => exact oneLt_int q
          | false => exact kat_one _ _ (lt_int q)
    | inr a =>
      cases y with
      | inl c => cases h.1
      | inr c =>
        obtain ⟨t, rfl⟩ := ru
        obtain ⟨t', rfl⟩ := rv
        refine kat_cons (wpAny_eqBool_str ?_)
        unfold KatGo
        by_cases e : a = c
        · subst e
          rw [if_pos rfl] at q
          rw [if_pos (by simp)]
          exact lex_wp xs ys _ _ (i + 1) h.2 r r' q
        · rw [if_neg (fun z => e (Sum.inr.inj z))] at q
          rw [if_neg (by simpa using e)]
          cases (b && i == 0) with
          | true => exact oneLt_str q
          | false => exact kat_one _ _ (lt_str q)
theorem list_sort_few {prog : Program} {w : World} {A : Around} {E : Value → Shared → Prop} {s : Shared} {a : Addr} {vs : List Value} {n : Nat} {P : PySem.Fin → Shared → Prop}
    (h : s.heap.get? a = some (seqObj "list" vs.toArray n)) (h2 : vs.length < 2) (q' : P (.done (.ret .none)) { s with heap := sortedHeap s.heap a vs vs.toArray }) :
    wpAny (model prog w) A (Builtin.«list.sort» { pos := [.ref a] }) P E s := by
  obtain ⟨hp, g, d, tk, os⟩ := s
  rcases vs with _ | ⟨v, _ | ⟨v', r⟩⟩
  · rw [list_sort_plain]
    repeat (any_goals (first | assumption | wp_step))
    show wpAny _ _ (pure (PUnit.unit, SortSt.mk' general' ((#[] : Array Value).zip #[]) #[] 7 none)) _ _ _
    refine wpAny_pure ?_
    have e3 : Array.map (fun x => x.snd) (arrOf (SortSt.mk' general' ((#[] : Array Value).zip #[]) #[] 7 none)) = #[] := by
      show Array.map (fun x => x.snd) ((#[] : Array Value).zip #[]) = #[]
      simp
    simp only [e3]
    have g1 : (((hp.update a (Obj.mapSeq fun x => #[])).push (seqObj "tuple" #[] 0)).push (seqObj "list" #[] 0)).get? a = some (seqObj "list" #[] (n)) := by
      refine Heap.get?_push_of_some _ (Heap.get?_push_of_some _ ?_)
      rw [Heap.get?_update_self _ h rfl]
      rfl
    show wpAny _ _ (seqEpoch a >>= _) _ _ _
    repeat (any_goals (first | assumption | wp_step))
  · rw [list_sort_plain]
    repeat (any_goals (first | assumption | wp_step))
    show wpAny _ _ (pure (PUnit.unit, SortSt.mk' general' ((#[v] : Array Value).zip #[v]) #[] 7 none)) _ _ _
    refine wpAny_pure ?_
    have e3 : Array.map (fun x => x.snd) (arrOf (SortSt.mk' general' ((#[v] : Array Value).zip #[v]) #[] 7 none)) = #[v] := by
      show Array.map (fun x => x.snd) ((#[v] : Array Value).zip #[v]) = #[v]
      simp
    simp only [e3]
    have g1 : (((hp.update a (Obj.mapSeq fun x => #[])).push (seqObj "tuple" #[v] 0)).push (seqObj "list" #[] 0)).get? a = some (seqObj "list" #[] (n + 1)) := by
      refine Heap.get?_push_of_some _ (Heap.get?_push_of_some _ ?_)
      rw [Heap.get?_update_self _ h rfl]
      rfl
    show wpAny _ _ (seqEpoch a >>= _) _ _ _
    repeat (any_goals (first | assumption | wp_step))
  · simp at h2
    omega
theorem vals_refs {α : Type} (f : α → Addr) : ∀ (es : List α), Vals (es.map fun x => V.ref (f x)) (es.map fun x => Value.ref (f x))
  | [] => .nil
  | x :: r => .cons rfl (vals_refs f r)
theorem kt_mem {H : Hp} {kvs : List (List Key × V)} {es : List (List Key × Addr × Value)} (h : KT H kvs es) : (∀ x ∈ es, H x.2.1 = some (.tup (x.1.map kV))) ∧ es.map (·.1) = kvs.map (·.1) := by
  induction h with
  | nil => exact ⟨(fun _ z => nomatch z), rfl⟩
  | @cons p x kvs es hp r ih =>
    obtain ⟨e1, e2, _⟩ := hp
    refine ⟨fun y hy => ?_, by rw [List.map_cons, List.map_cons, ih.2, e1]⟩
    rcases List.mem_cons.mp hy with rfl | z
    · rw [← e1]
      exact e2
    · exact ih.1 y z
theorem kat_of {P : Program} {w : World} {H : Hp} {h : Heap} (ok : HOk P w H h) {b : Bool} {sh : List Bool} : ∀ (es : List (List Key × Addr × Value)), (∀ x ∈ es, H x.2.1 = some (.tup (x.1.map kV))) → (∀ x ∈ es, shp x.1 = b :: sh) →
    ∃ fs, KatTups h (es.map fun x => Value.ref x.2.1) fs ∧ fs.length = es.length ∧ ∀ v ∈ fs, if b = true then ∃ i t, v = Value.int i t else ∃ i t, v = Value.str i t
  | [], _, _ => ⟨[], KatTups.nil, rfl, fun _ z => nomatch z⟩
  | x :: es, h1, h2 => by
    obtain ⟨fs, k, l, m⟩ := kat_of ok es (fun y hy => h1 y (List.mem_cons_of_mem _ hy)) (fun y hy => h2 y (List.mem_cons_of_mem _ hy))
    obtain ⟨z2, ts, rt, ot, et, ct, nt, dt⟩ := ok x.2.1 _ (h1 x List.mem_cons_self)
    have s1 := h2 x List.mem_cons_self
    obtain ⟨k1, a1, v1⟩ := x
    cases k1 with
    | nil => cases s1
    | cons k0 kr =>
      simp only [shp, List.map_cons, List.cons.injEq] at s1
      simp only [List.map_cons] at rt
      cases rt with
      | @cons _ u _ us ru rr =>
        refine ⟨u :: fs, KatTups.cons et ct dt (by simp) k, by simp [l], fun v hv => ?_⟩
        rcases List.mem_cons.mp hv with rfl | hv'
        · cases k0 with
          | inl i =>
            obtain ⟨t, rfl⟩ := ru
            rw [if_pos (show b = true from s1.1.symm)]
            exact ⟨i, t, rfl⟩
          | inr i =>
            obtain ⟨t, rfl⟩ := ru
            rw [if_neg (show ¬ b = true by rw [← s1.1]; simp)]
            exact ⟨i, t, rfl⟩
        · exact m v hv'
theorem sort_core {X : Cx} {pins : List (Addr × Obj)} {σ : St} {H : Hp} {s : Shared} {h1 : Heap} {tk : Nat} {Q : VK} {sh : List Bool} (es' : List (List Key × Addr × Value)) (I1 : Inv X pins σ H { s with heap := h1, toks := tk })
    (hl : es'.length < 64) (km : ∀ x ∈ es', H x.2.1 = some (.tup (x.1.map kV))) (shE : ∀ x ∈ es', shp x.1 = sh) (hpos : 0 < sh.length) (hnd : (List.map (fun x => x.fst) es').Nodup)
    (q : ∀ (l : Addr) (ts : List (List Key × Addr)), H l = none → ts.Perm (es'.map fun x => (x.1, x.2.1)) → (ts.map (·.1)).Pairwise (fun x y => lexK x y = true) → Q (.ref l) (upd H l (.lst (ts.map fun t => .ref t.2)))) :
    wpAny (model X.prog X.w) X.A.in1 (newList (es'.map fun x => Value.ref x.2.1) >>= fun l => holding [l] (call (.builtin "list.sort") [l] []) >>= fun _ => ret l) (fun fin s' => ∃ v, fin = Fin.done (Flow.ret v) ∧ EP X pins σ Q v s') X.xe { s with heap := h1, toks := tk } := by
  have hz : es'.length ≤ sizeLine := Nat.le_of_lt (Nat.lt_trans hl (by decide))
  have vals : Vals (es'.map fun x => V.ref x.2.1) (es'.map fun x => Value.ref x.2.1) := vals_refs (fun x => x.2.1) es'
  have I2 := I1.lnew (t' := tk) vals (by rw [List.length_map]; exact hz)
  refine wpAny_bind (wpAny_newList ?_ (by rw [List.length_map]; exact hz))
  have fr : H h1.objs.size = none := I1.fresh
  have gl : (h1.push { cls := .type "list", data := .seq (es'.map fun x => Value.ref x.2.1).toArray }).get? h1.objs.size = some (seqObj "list" (es'.map fun x => Value.ref x.2.1).toArray 0) := Heap.get?_push_size _ rfl
  refine wpAny_bind (wpAny_holding (wpAny_call_entry slot_list_sort ⟨_, gl, rfl⟩ entry_list_sort ?_ (args_list_sort _)))
  have J1 := I2.lset (l := h1.objs.size) (its := es'.map fun x => Value.ref x.2.1) (its' := []) (ys := []) (f := fun _ => #[]) (t' := tk) upd_same gl rfl .nil (Nat.zero_le _)
  have J2 := J1.kept (t' := tk) (h' := (((h1.push { cls := .type "list", data := .seq (es'.map fun x => Value.ref x.2.1).toArray }).update h1.objs.size (Obj.mapSeq fun _ => #[])).push (seqObj "tuple" (es'.map fun x => Value.ref x.2.1).toArray 0)).push (seqObj "list" #[] 0)) fun b u e => Heap.get?_push_of_some _ (Heap.get?_push_of_some _ e)
  obtain ⟨z9, its9, n9, r9, hl9, e9⟩ := J2.lstM upd_same
  have done : ∀ (ts : List (List Key × Addr)), ts.Perm (es'.map fun x => (x.1, x.2.1)) → (ts.map (·.1)).Pairwise (fun x y => lexK x y = true) →
      EP X pins σ Q (.ref h1.objs.size) { s with heap := sortedHeap (h1.push { cls := .type "list", data := .seq (es'.map fun x => Value.ref x.2.1).toArray }) h1.objs.size (es'.map fun x => Value.ref x.2.1) (ts.map fun t => Value.ref t.2).toArray, toks := tk } := by
    intro ts pm pw
    have tl : ts.length = es'.length := by rw [pm.length_eq, List.length_map]
    have J3 := J2.lset (l := h1.objs.size) (its := its9) (its' := ts.map fun t => Value.ref t.2) (ys := ts.map fun t => V.ref t.2) (f := fun _ => (ts.map fun t => Value.ref t.2).toArray) (t' := tk) upd_same e9 rfl (vals_refs (fun t => t.2) ts) (by rw [List.length_map, tl]; exact hz)
    rw [upd_upd, upd_upd] at J3
    exact ⟨.ref h1.objs.size, _, J3, rfl, q _ ts fr pm pw⟩
  by_cases few : es'.length < 2
  · refine list_sort_few gl (by rw [List.length_map]; exact few) ⟨_, rfl, wpAny_pure ⟨_, rfl, ?_⟩⟩
    have := done (es'.map fun x => (x.1, x.2.1)) (List.Perm.refl _) ?_
    · rw [List.map_map] at this
      exact this
    · match es', few with
      | [], _ => exact .nil
      | [x], _ => exact List.pairwise_singleton _ _
      | _ :: _ :: _, h => exact absurd h (by simp)
  · refine list_sort_tups gl (by rw [List.length_map]; omega) (by rw [List.length_map]; exact hl) fun s' es1 es2 => ?_
    obtain ⟨b, sh0, rfl⟩ : ∃ b sh0, sh = b :: sh0 := by
      cases sh with
      | nil => simp at hpos
      | cons b r => exact ⟨b, r, rfl⟩
    rw [es1] at es2
    subst es2
    have km2 : ∀ x ∈ es', upd (upd H h1.objs.size (.lst (es'.map fun x => V.ref x.2.1))) h1.objs.size (.lst []) x.2.1 = some (.tup (x.1.map kV)) := fun x hx => by
      rw [upd_ne (ne_of_none (km x hx) fr), upd_ne (ne_of_none (km x hx) fr)]
      exact km x hx
    obtain ⟨fs, kt, fl, fm⟩ := kat_of J2.hok es' km2 shE
    have few' : 2 ≤ es'.length := by omega
    refine kat_kind (T := if b = true then .type "int" else .type "str") kt (by omega) (fun v hv => ?_) (by cases b <;> rfl) ⟨rfl, ?_⟩
    · have z := fm v hv
      cases b with
      | true =>
        obtain ⟨i, t, rfl⟩ := z
        exact fun A Q E s _ q => wpAny_typeOf (T := "int") rfl q
      | false =>
        obtain ⟨i, t, rfl⟩ := z
        exact fun A Q E s _ q => wpAny_typeOf (T := "str") rfl q
    rw [List.length_map]
    have eAt : ∀ i, i < es'.length → es'[i]? = some (es'.getD i ([], 0, .none)) := fun i hi => by
      rw [List.getD_eq_getElem?_getD, List.getElem?_eq_getElem hi]
      rfl
    have eM : ∀ i, i < es'.length → es'.getD i ([], 0, .none) ∈ es' := fun i hi => List.mem_of_getElem? (eAt i hi)
    have vAt : ∀ i, i < es'.length → (es'.map fun x => Value.ref x.2.1).getD i .none = .ref (es'.getD i ([], 0, .none)).2.1 := fun i hi => by
      rw [List.getD_eq_getElem?_getD, List.getElem?_map, eAt i hi]
      rfl
    have shI : ∀ i j, i < es'.length → j < es'.length → shp (es'.getD i ([], 0, .none)).1 = shp (es'.getD j ([], 0, .none)).1 := fun i j hi hj => by rw [shE _ (eM i hi), shE _ (eM j hj)]
    refine Srt.sort_wp (lt := fun i j => lexK (es'.getD i ([], 0, .none)).1 (es'.getD j ([], 0, .none)).1) ⟨fun i hi => lexK_irr _, fun i j k hi hj hk => lexK_tr (shI i j hi hj) (shI j k hj hk), fun i j hi hj ne => lexK_tot (shI i j hi hj) fun e => ne ?_⟩ (fun i j hi hj Q' q' => ?_) few' fun p arr srt => ⟨rfl, _, rfl, wpAny_pure ⟨_, rfl, ?_⟩⟩
    · have e1 : (es'.map (·.1))[i]? = (es'.map (·.1))[j]? := by rw [List.getElem?_map, List.getElem?_map, eAt i hi, eAt j hj]; exact congrArg some e
      exact (List.getElem?_inj (by rw [List.length_map]; exact hi) hnd).mp e1
    · show wpAny _ _ (keyLt' _ ((es'.map fun x => Value.ref x.2.1).getD i .none) ((es'.map fun x => Value.ref x.2.1).getD j .none)) _ _ _
      rw [vAt i hi, vAt j hj]
      obtain ⟨_, ti, ri, oi, ei, _, ni, di⟩ := J2.hok _ _ (km2 _ (eM i hi))
      obtain ⟨_, tj, rj, oj, ej, _, nj, dj⟩ := J2.hok _ _ (km2 _ (eM j hj))
      have l1 := Vals.length ri
      have l2 := Vals.length rj
      have l3 := congrArg List.length (shI i j hi hj)
      simp only [List.length_map] at l1 l2 l3
      refine kat_lt ei di ej dj ?_
      rw [decide_eq_false (by simp; omega)]
      exact lex_wp _ _ _ _ 0 (shI i j hi hj) ri rj q'
    have pl : ∀ i ∈ p.toList, i < es'.length := fun i hi => by
      have := (Array.Perm.mem_iff arr.pm).mp (Array.mem_toList_iff.mp hi)
      simpa using this
    have := done (p.toList.map fun i => ((es'.getD i ([], 0, .none)).1, (es'.getD i ([], 0, .none)).2.1)) ?_ ?_
    · rw [List.map_map] at this
      have e2 : (p.map fun i => (es'.map fun x => Value.ref x.2.1).getD i .none) = (p.toList.map ((fun t : List Key × Addr => Value.ref t.2) ∘ fun i => ((es'.getD i ([], 0, .none)).1, (es'.getD i ([], 0, .none)).2.1))).toArray := by
        rw [← Array.toList_inj, Array.toList_map]
        exact List.map_congr_left fun i hi => vAt i (pl i hi)
      rw [e2]
      exact this
    · have e3 : (es'.map fun x => (x.1, x.2.1)) = (List.range es'.length).map fun i => ((es'.getD i ([], 0, .none)).1, (es'.getD i ([], 0, .none)).2.1) := by
        refine List.ext_getElem? fun i => ?_
        by_cases c : i < es'.length
        · rw [List.getElem?_map, eAt i c, List.getElem?_map, List.getElem?_range c]
          rfl
        · rw [List.getElem?_eq_none (by rw [List.length_map]; omega), List.getElem?_eq_none (by simp; omega)]
      rw [e3]
      refine List.Perm.map _ ?_
      have := Array.Perm.toList arr.pm
      simpa using this
    · rw [List.map_map, List.pairwise_map, List.pairwise_iff_getElem]
      intro i j hi hj hij
      have z := srt i j hij (by rw [← arr.sz]; simpa using hj)
      have gi : Srt.g p i = p.toList[i] := Srt.g_at (by rw [← Array.getElem?_toList]; exact List.getElem?_eq_getElem hi)
      have gj : Srt.g p j = p.toList[j] := Srt.g_at (by rw [← Array.getElem?_toList]; exact List.getElem?_eq_getElem hj)
      rw [gi, gj] at z
      exact z
def rSortedD : List V → Hp → VK → Prop := fun xs H Q => ∃ (d : Addr) (kvs : List (List Key × V)) (sh : List Bool), xs = [.ref d] ∧ H d = some (.dT kvs) ∧ kvs.length < 64 ∧ (∀ p ∈ kvs, shp p.1 = sh) ∧ 0 < sh.length ∧
  ∀ (l : Addr) (ts : List (List Key × Addr)), H l = none → (∀ t ∈ ts, H t.2 = some (.tup (t.1.map kV))) → (ts.map (·.1)).Perm (kvs.map (·.1)) → (ts.map (·.1)).Pairwise (fun x y => lexK x y = true) → Q (.ref l) (upd H l (.lst (ts.map fun t => .ref t.2)))
theorem call_sortedD {X : Cx} (hc : X.calm = true) : CallR X (.builtin "sorted") rSortedD := by
  intro pins s σ H xs us Q I r h
  obtain ⟨d, kvs, sh, rfl, hd, hl, hsh, hpos, q⟩ := h
  obtain ⟨u, rfl, ru⟩ := vals1 r
  obtain rfl : u = Value.ref d := ru
  obtain ⟨z, hsys, es', rel, dd⟩ := dt_of I.hok hd
  obtain ⟨o, es, ep, ho, hx, hdat, hes, hkk, hnd⟩ := dd
  have ln := Paired.length rel
  have esz : es.size = es'.length := by rw [← Array.length_toList, hes, List.length_map]
  refine Calls.call_function_entry kind_sorted plain_sorted entry_sorted (args_sorted1 _) ?_
  unfold Builtin.sorted
  refine wpAny_bind (wpAny_pure ?_)
  show wpAny _ _ (collect (.ref d) >>= _) _ _ _
  refine wpAny_bind (kdu_collect (kdl_raw hsys hx hdat) (I.ok.hd hc) ho (by rw [esz, ← ln]; exact z) fun h1 tk acc keep items => ?_)
  have acl : acc.toList = es'.map fun x => Value.ref x.2.1 := by
    refine List.ext_getElem? fun j => ?_
    obtain ⟨i1, i2⟩ := items
    by_cases c : j < es'.length
    · have c' : j < acc.size := by rw [i1, esz]; exact c
      have e : acc[j]? = some acc[j] := Array.getElem?_eq_getElem c'
      obtain ⟨en, he, hv⟩ := i2 j acc[j] e
      rw [Array.getElem?_toList, e, hv]
      have he' : es.toList[j]? = some en := by rw [Array.getElem?_toList]; exact he
      rw [hes, List.getElem?_map, List.getElem?_eq_getElem c] at he'
      rw [List.getElem?_map, List.getElem?_eq_getElem c]
      have := Option.some.inj he'
      rw [← this]
      rfl
    · rw [List.getElem?_eq_none (by rw [Array.length_toList, i1, esz]; omega), List.getElem?_eq_none (by rw [List.length_map]; omega)]
  rw [acl]
  have I1 : Inv X pins σ H { s with heap := h1, toks := tk } := I.kept keep
  obtain ⟨km, ke⟩ := kt_mem rel
  have shE : ∀ x ∈ es', shp x.1 = sh := fun x hx => by
    have m : x.1 ∈ kvs.map (·.1) := by rw [← ke]; exact List.mem_map.mpr ⟨x, hx, rfl⟩
    obtain ⟨p, hp, e⟩ := List.mem_map.mp m
    rw [← e]
    exact hsh p hp
  refine sort_core es' I1 (by rw [← ln]; exact hl) km shE hpos hnd fun l ts fr pm pw => q l ts fr (fun t ht => ?_) ?_ pw
  · obtain ⟨x, hx, rfl⟩ := List.mem_map.mp (pm.mem_iff.mp ht)
    exact km x hx
  · have := pm.map (·.1)
    rw [List.map_map] at this
    rw [← ke]
    exact this
end L2
set_option maxRecDepth 100000
namespace L2
open PySem PySem.Spec PyProof.Rows XL PySem.W
variable {q0 : Bool}
theorem valV_ix {κ : Type} [DecidableEq κ] : ∀ {kvs : List (κ × V)} {k : κ} {v : V}, valV kvs k = some v → ∃ i : Nat, kvs[i]? = some (k, v)
  | [], k, v, h => by cases h
  | p :: r, k, v, h => by
    by_cases e : p.1 = k
    · rw [valV_pos e] at h
      cases h
      exact ⟨0, by simp [← e]⟩
    · rw [valV_neg e] at h
      obtain ⟨i, hi⟩ := valV_ix h
      exact ⟨i + 1, by simpa using hi⟩
section
variable {X : Cx} {o e : Expr} {td ty : TE} {apos cpos : Pos}
end
end L2
set_option maxRecDepth 100000
namespace L2
open PySem PySem.Spec PyProof.Rows XL PySem.W
variable {q0 : Bool}
end L2
set_option maxRecDepth 100000
set_option maxHeartbeats 1000000
namespace L2
open PySem PySem.Spec PyProof.Rows XL PySem.W
inductive DV where
  | non
  | bl (b : Bool)
  | int (i : Int)
  | str (x : Str)
  | tup (xs : List DV)
  | lst (xs : List DV)
mutual
def dEq : DV → DV → Bool
  | .non, .non => true
  | .bl a, .bl b => a == b
  | .bl a, .int b => (if a then 1 else 0) == b
  | .int a, .bl b => a == (if b then 1 else 0)
  | .int a, .int b => a == b
  | .str a, .str b => a == b
  | .tup xs, .tup ys => dEqs xs ys
  | .lst xs, .lst ys => dEqs xs ys
  | _, _ => false
def dEqs : List DV → List DV → Bool
  | [], [] => true
  | x :: xs, y :: ys => dEq x y && dEqs xs ys
  | _, _ => false
end
mutual
theorem dEq_refl : ∀ d, dEq d d = true
  | .non => rfl
  | .bl _ => by simp [dEq]
  | .int _ => by simp [dEq]
  | .str _ => by simp [dEq]
  | .tup xs => by simp only [dEq]; exact dEqs_refl xs
  | .lst xs => by simp only [dEq]; exact dEqs_refl xs
theorem dEqs_refl : ∀ xs, dEqs xs xs = true
  | [] => rfl
  | x :: xs => by simp only [dEqs, Bool.and_eq_true]; exact ⟨dEq_refl x, dEqs_refl xs⟩
end
mutual
def DV.pl : DV → Bool
  | .bl _ => false
  | .tup xs => pls xs
  | .lst xs => pls xs
  | _ => true
def pls : List DV → Bool
  | [] => true
  | x :: xs => x.pl && pls xs
end
mutual
theorem dEq_eq : ∀ {d e : DV}, d.pl = true → e.pl = true → dEq d e = true → d = e
  | .non, .non, _, _, _ => rfl
  | .int a, .int b, _, _, h => by simp only [dEq, beq_iff_eq] at h; rw [h]
  | .str a, .str b, _, _, h => by simp only [dEq, beq_iff_eq] at h; rw [h]
  | .tup xs, .tup ys, p, q, h => by
    simp only [dEq] at h
    simp only [DV.pl] at p q
    rw [dEqs_eq p q h]
  | .lst xs, .lst ys, p, q, h => by
    simp only [dEq] at h
    simp only [DV.pl] at p q
    rw [dEqs_eq p q h]
  | .bl _, _, p, _, _ => by simp [DV.pl] at p
  | .non, .bl _, _, q, _ => by simp [DV.pl] at q
  | .int _, .bl _, _, q, _ => by simp [DV.pl] at q
  | .str _, .bl _, _, q, _ => by simp [DV.pl] at q
  | .tup _, .bl _, _, q, _ => by simp [DV.pl] at q
  | .lst _, .bl _, _, q, _ => by simp [DV.pl] at q
  | .non, .int _, _, _, h => by simp [dEq] at h
  | .non, .str _, _, _, h => by simp [dEq] at h
  | .non, .tup _, _, _, h => by simp [dEq] at h
  | .non, .lst _, _, _, h => by simp [dEq] at h
  | .int _, .non, _, _, h => by simp [dEq] at h
  | .int _, .str _, _, _, h => by simp [dEq] at h
  | .int _, .tup _, _, _, h => by simp [dEq] at h
  | .int _, .lst _, _, _, h => by simp [dEq] at h
  | .str _, .non, _, _, h => by simp [dEq] at h
  | .str _, .int _, _, _, h => by simp [dEq] at h
  | .str _, .tup _, _, _, h => by simp [dEq] at h
  | .str _, .lst _, _, _, h => by simp [dEq] at h
  | .tup _, .non, _, _, h => by simp [dEq] at h
  | .tup _, .int _, _, _, h => by simp [dEq] at h
  | .tup _, .str _, _, _, h => by simp [dEq] at h
  | .tup _, .lst _, _, _, h => by simp [dEq] at h
  | .lst _, .non, _, _, h => by simp [dEq] at h
  | .lst _, .int _, _, _, h => by simp [dEq] at h
  | .lst _, .str _, _, _, h => by simp [dEq] at h
  | .lst _, .tup _, _, _, h => by simp [dEq] at h
theorem dEqs_eq : ∀ {xs ys : List DV}, pls xs = true → pls ys = true → dEqs xs ys = true → xs = ys
  | [], [], _, _, _ => rfl
  | x :: xs, y :: ys, p, q, h => by
    simp only [pls, Bool.and_eq_true] at p q
    simp only [dEqs, Bool.and_eq_true] at h
    rw [dEq_eq p.1 q.1 h.1, dEqs_eq p.2 q.2 h.2]
  | [], _ :: _, _, _, h => by simp [dEqs] at h
  | _ :: _, [], _, _, h => by simp [dEqs] at h
end
theorem dEq_dec {d e : DV} {α : Type} {x y : α} [DecidableEq α] (p : d.pl = true) (q : e.pl = true) (f : d = e ↔ x = y) : dEq d e = decide (x = y) := by
  by_cases c : x = y
  · rw [decide_eq_true c, f.mpr c]
    exact dEq_refl _
  · rw [decide_eq_false c]
    cases z : dEq d e with
    | false => rfl
    | true => exact absurd (f.mp (dEq_eq p q z)) c
theorem dEqs_all : ∀ {xs ys : List DV} {e : Nat → Bool}, (∀ (j : Nat) (x y : DV), xs[j]? = some x → ys[j]? = some y → e j = dEq x y) → ((List.range (min xs.length ys.length)).all e && xs.length == ys.length) = dEqs xs ys
  | [], [], _, _ => rfl
  | [], _ :: _, _, _ => by simp [dEqs]
  | _ :: _, [], _, _ => by simp [dEqs]
  | x :: xs, y :: ys, e, h => by
    have ih := dEqs_all (xs := xs) (ys := ys) (e := fun j => e (j + 1)) (fun j a b ha hb => h (j + 1) a b (by simpa using ha) (by simpa using hb))
    have h0 := h 0 x y rfl rfl
    rw [List.length_cons, List.length_cons, show min (xs.length + 1) (ys.length + 1) = min xs.length ys.length + 1 by omega, List.range_succ_eq_map, List.all_cons, List.all_map]
    show _ = (dEq x y && dEqs xs ys)
    rw [← ih, h0]
    have z : ((xs.length + 1 == ys.length + 1) : Bool) = (xs.length == ys.length) := by
      rw [Bool.eq_iff_iff]
      simp
    rw [z, Bool.and_assoc]
    rfl
theorem dEqs_len : ∀ {xs ys : List DV}, xs.length ≠ ys.length → dEqs xs ys = false
  | [], [], h => absurd rfl h
  | [], _ :: _, _ => rfl
  | _ :: _, [], _ => rfl
  | x :: xs, y :: ys, h => by
    show (dEq x y && dEqs xs ys) = false
    rw [dEqs_len (xs := xs) (ys := ys) (fun z => h (by simp [z]))]
    exact Bool.and_false _
inductive Dv (K : PySem.W.Frag) (H : Hp) : Nat → V → DV → Prop
  | non {n : Nat} : Dv K H n .non .non
  | bl {n : Nat} {b : Bool} : Dv K H n (.bl b) (.bl b)
  | int {n : Nat} {b : Int} : Dv K H n (.int b) (.int b)
  | str {n : Nat} {b : Str} : Dv K H n (.str b) (.str b)
  | tup {n : Nat} {a : Addr} {xs : List V} {ds : List DV} (ha : SqT K H a xs) (hl : xs.length = ds.length) (h : ∀ (j : Nat) (x : V) (d : DV), xs[j]? = some x → ds[j]? = some d → Dv K H n x d) : Dv K H (n + 1) (.ref a) (.tup ds)
  | lst {n : Nat} {a : Addr} {xs : List V} {ds : List DV} (ha : SqL K H a xs) (hl : xs.length = ds.length) (h : ∀ (j : Nat) (x : V) (d : DV), xs[j]? = some x → ds[j]? = some d → Dv K H n x d) : Dv K H (n + 1) (.ref a) (.lst ds)
section
variable {X : Cx} {pins : List (Addr × Obj)} {σ : St} {H : Hp} {s : Shared}
theorem two_kinds {h : Heap} {a : Addr} {i j : Array Value} (p : h.IsTuple a i) (q : PlainL h a j) : False := by
  obtain ⟨o, e, c, _⟩ := p
  obtain ⟨o', n, e', c', _⟩ := q
  rw [e] at e'
  cases e'
  rw [c] at c'
  exact absurd c' (by decide)
theorem ext_of {xs ys : List DV} (h : xs.length = ys.length) (f : ∀ (j : Nat) (x y : DV), xs[j]? = some x → ys[j]? = some y → x = y) : xs = ys := by
  refine List.ext_getElem? fun j => ?_
  by_cases c : j < xs.length
  · rw [List.getElem?_eq_getElem c, List.getElem?_eq_getElem (by omega), f j _ _ (List.getElem?_eq_getElem c) (List.getElem?_eq_getElem (by omega))]
  · rw [List.getElem?_eq_none (by omega), List.getElem?_eq_none (by omega)]
theorem dv_fun (I : Inv X pins σ H s) {n : Nat} {x : V} {d : DV} (h : Dv X.K H n x d) : ∀ {m : Nat} {e : DV}, Dv X.K H m x e → d = e := by
  induction h with
  | non => intro m e h; cases h; rfl
  | bl => intro m e h; cases h; rfl
  | int => intro m e h; cases h; rfl
  | str => intro m e h; cases h; rfl
  | @tup n a xs ds ha hl h ih =>
    intro m e h2
    cases h2 with
    | @tup m _ ys es hb kl k =>
      obtain rfl := I.tuple_inj ha hb
      refine congrArg DV.tup (ext_of (by omega) fun j d e h1 h2 => ?_)
      have lt : j < xs.length := by
        have := (List.getElem?_eq_some_iff.mp h1).1
        omega
      exact ih j xs[j] d (List.getElem?_eq_getElem lt) h1 (k j xs[j] e (List.getElem?_eq_getElem lt) h2)
    | @lst m _ ys es hb kl k =>
      obtain ⟨its, _, t1, _⟩ := I.tuple ha
      obtain ⟨its2, _, t2, _⟩ := I.list hb
      exact (two_kinds t1 t2).elim
  | @lst n a xs ds ha hl h ih =>
    intro m e h2
    cases h2 with
    | @lst m _ ys es hb kl k =>
      obtain rfl := I.list_inj ha hb
      refine congrArg DV.lst (ext_of (by omega) fun j d e h1 h2 => ?_)
      have lt : j < xs.length := by
        have := (List.getElem?_eq_some_iff.mp h1).1
        omega
      exact ih j xs[j] d (List.getElem?_eq_getElem lt) h1 (k j xs[j] e (List.getElem?_eq_getElem lt) h2)
    | @tup m _ ys es hb kl k =>
      obtain ⟨its, _, t1, _⟩ := I.tuple hb
      obtain ⟨its2, _, t2, _⟩ := I.list ha
      exact (two_kinds t1 t2).elim
def at2 (f : DV → DV → Bool) (ds es : List DV) (j : Nat) : Bool := match ds[j]?, es[j]? with | some d, some e => f d e | _, _ => false
theorem at2_of {f : DV → DV → Bool} {ds es : List DV} {j : Nat} {d e : DV} (h : ds[j]? = some d) (h2 : es[j]? = some e) : at2 f ds es j = f d e := by
  unfold at2
  rw [h, h2]
theorem dv_at (I : Inv X pins σ H s) {n : Nat} {x : V} {d : DV} (h : Dv X.K H n x d) : ∀ {m : Nat} {y : V} {e : DV}, Dv X.K H m y e → ∀ {A : Around} {u v : Value}, A.units + n + m < cLine → RelV x u → RelV y v →
    SeqAt.EqAt A s u v (dEq d e) ∧ SeqAt.RcAt A s u v (dEq d e) ∧ SeqAt.RcNeAt A s u v (!dEq d e) := by
  induction h with
  | @non n =>
    intro m y e h2 A u v hu rx ry
    obtain rfl : u = Value.none := rx
    cases h2 with
    | @non  =>
      obtain rfl : v = Value.none := ry
      exact ⟨SeqAt.EqAt.same _, SeqAt.RcAt.none_none, SeqAt.RcNeAt.none_none⟩
    | @bl _ b2 =>
      obtain rfl : v = Value.bool _ := ry
      exact ⟨SeqAt.EqAt.none_bool _, SeqAt.RcAt.none_bool _, SeqAt.RcNeAt.none_bool _⟩
    | @int _ b2 =>
      obtain ⟨_, rfl⟩ := ry
      exact ⟨SeqAt.EqAt.none_int _ _, SeqAt.RcAt.none_int _ _, SeqAt.RcNeAt.none_int _ _⟩
    | @str _ b2 =>
      obtain ⟨_, rfl⟩ := ry
      exact ⟨SeqAt.EqAt.none_str _ _, SeqAt.RcAt.none_str _ _, SeqAt.RcNeAt.none_str _ _⟩
    | @tup m b ys es hb kl k =>
      obtain rfl : v = Value.ref _ := ry
      obtain ⟨its2, r2, t2, z2⟩ := I.tuple hb
      have l2 := r2.length
      exact ⟨SeqAt.EqAt.none_tuple t2 (by omega), SeqAt.RcAt.none_tuple t2 (by omega), SeqAt.RcNeAt.none_tuple t2 (by omega)⟩
    | @lst m b ys es hb kl k =>
      obtain rfl : v = Value.ref _ := ry
      obtain ⟨its2, r2, t2, z2⟩ := I.list hb
      have l2 := r2.length
      exact ⟨SeqAt.EqAt.none_list t2.isList (by omega), SeqAt.RcAt.none_list t2.isList (by omega), SeqAt.RcNeAt.none_list t2.isList (by omega)⟩
  | @bl n b1 =>
    intro m y e h2 A u v hu rx ry
    obtain rfl : u = Value.bool _ := rx
    cases h2 with
    | @non  =>
      obtain rfl : v = Value.none := ry
      exact ⟨SeqAt.EqAt.bool_none _, SeqAt.RcAt.bool_none _, SeqAt.RcNeAt.bool_none _⟩
    | @bl _ b2 =>
      obtain rfl : v = Value.bool _ := ry
      exact ⟨SeqAt.EqAt.bool_bool _ _, SeqAt.RcAt.bool_bool _ _, SeqAt.RcNeAt.bool_bool _ _⟩
    | @int _ b2 =>
      obtain ⟨_, rfl⟩ := ry
      exact ⟨SeqAt.EqAt.bool_int _ _ _, SeqAt.RcAt.bool_int _ _ _, SeqAt.RcNeAt.bool_int _ _ _⟩
    | @str _ b2 =>
      obtain ⟨_, rfl⟩ := ry
      exact ⟨SeqAt.EqAt.bool_str _ _ _, SeqAt.RcAt.bool_str _ _ _, SeqAt.RcNeAt.bool_str _ _ _⟩
    | @tup m b ys es hb kl k =>
      obtain rfl : v = Value.ref _ := ry
      obtain ⟨its2, r2, t2, z2⟩ := I.tuple hb
      have l2 := r2.length
      exact ⟨SeqAt.EqAt.bool_tuple _ t2 (by omega), SeqAt.RcAt.bool_tuple _ t2 (by omega), SeqAt.RcNeAt.bool_tuple _ t2 (by omega)⟩
    | @lst m b ys es hb kl k =>
      obtain rfl : v = Value.ref _ := ry
      obtain ⟨its2, r2, t2, z2⟩ := I.list hb
      have l2 := r2.length
      exact ⟨SeqAt.EqAt.bool_list _ t2.isList (by omega), SeqAt.RcAt.bool_list _ t2.isList (by omega), SeqAt.RcNeAt.bool_list _ t2.isList (by omega)⟩
  | @int n b1 =>
    intro m y e h2 A u v hu rx ry
    obtain ⟨_, rfl⟩ := rx
    cases h2 with
    | @non  =>
      obtain rfl : v = Value.none := ry
      exact ⟨SeqAt.EqAt.int_none _ _, SeqAt.RcAt.int_none _ _, SeqAt.RcNeAt.int_none _ _⟩
    | @bl _ b2 =>
      obtain rfl : v = Value.bool _ := ry
      exact ⟨SeqAt.EqAt.int_bool _ _ _, SeqAt.RcAt.int_bool _ _ _, SeqAt.RcNeAt.int_bool _ _ _⟩
    | @int _ b2 =>
      obtain ⟨_, rfl⟩ := ry
      exact ⟨SeqAt.EqAt.int_int _ _ _ _, SeqAt.RcAt.int_int _ _ _ _, SeqAt.RcNeAt.int_int _ _ _ _⟩
    | @str _ b2 =>
      obtain ⟨_, rfl⟩ := ry
      exact ⟨SeqAt.EqAt.int_str _ _ _ _, SeqAt.RcAt.int_str _ _ _ _, SeqAt.RcNeAt.int_str _ _ _ _⟩
    | @tup m b ys es hb kl k =>
      obtain rfl : v = Value.ref _ := ry
      obtain ⟨its2, r2, t2, z2⟩ := I.tuple hb
      have l2 := r2.length
      exact ⟨SeqAt.EqAt.int_tuple _ _ t2 (by omega), SeqAt.RcAt.int_tuple _ _ t2 (by omega), SeqAt.RcNeAt.int_tuple _ _ t2 (by omega)⟩
    | @lst m b ys es hb kl k =>
      obtain rfl : v = Value.ref _ := ry
      obtain ⟨its2, r2, t2, z2⟩ := I.list hb
      have l2 := r2.length
      exact ⟨SeqAt.EqAt.int_list _ _ t2.isList (by omega), SeqAt.RcAt.int_list _ _ t2.isList (by omega), SeqAt.RcNeAt.int_list _ _ t2.isList (by omega)⟩
  | @str n b1 =>
    intro m y e h2 A u v hu rx ry
    obtain ⟨_, rfl⟩ := rx
    cases h2 with
    | @non  =>
      obtain rfl : v = Value.none := ry
      exact ⟨SeqAt.EqAt.str_none _ _, SeqAt.RcAt.str_none _ _, SeqAt.RcNeAt.str_none _ _⟩
    | @bl _ b2 =>
      obtain rfl : v = Value.bool _ := ry
      exact ⟨SeqAt.EqAt.str_bool _ _ _, SeqAt.RcAt.str_bool _ _ _, SeqAt.RcNeAt.str_bool _ _ _⟩
    | @int _ b2 =>
      obtain ⟨_, rfl⟩ := ry
      exact ⟨SeqAt.EqAt.str_int _ _ _ _, SeqAt.RcAt.str_int _ _ _ _, SeqAt.RcNeAt.str_int _ _ _ _⟩
    | @str _ b2 =>
      obtain ⟨_, rfl⟩ := ry
      exact ⟨SeqAt.EqAt.str_str _ _ _ _, SeqAt.RcAt.str_str _ _ _ _, SeqAt.RcNeAt.str_str _ _ _ _⟩
    | @tup m b ys es hb kl k =>
      obtain rfl : v = Value.ref _ := ry
      obtain ⟨its2, r2, t2, z2⟩ := I.tuple hb
      have l2 := r2.length
      exact ⟨SeqAt.EqAt.str_tuple _ _ t2 (by omega), SeqAt.RcAt.str_tuple _ _ t2 (by omega), SeqAt.RcNeAt.str_tuple _ _ t2 (by omega)⟩
    | @lst m b ys es hb kl k =>
      obtain rfl : v = Value.ref _ := ry
      obtain ⟨its2, r2, t2, z2⟩ := I.list hb
      have l2 := r2.length
      exact ⟨SeqAt.EqAt.str_list _ _ t2.isList (by omega), SeqAt.RcAt.str_list _ _ t2.isList (by omega), SeqAt.RcNeAt.str_list _ _ t2.isList (by omega)⟩
  | @tup n a xs ds ha hl h ih =>
    intro m y e h2 A u v hu rx ry
    obtain rfl : u = Value.ref _ := rx
    obtain ⟨its, r1, t1, z1⟩ := I.tuple ha
    have l1 := r1.length
    cases h2 with
    | @non  =>
      obtain rfl : v = Value.none := ry
      exact ⟨SeqAt.EqAt.tuple_none t1 (by omega), SeqAt.RcAt.tuple_none t1 (by omega), SeqAt.RcNeAt.tuple_none t1 (by omega)⟩
    | @bl _ b2 =>
      obtain rfl : v = Value.bool _ := ry
      exact ⟨SeqAt.EqAt.tuple_bool _ t1 (by omega), SeqAt.RcAt.tuple_bool _ t1 (by omega), SeqAt.RcNeAt.tuple_bool _ t1 (by omega)⟩
    | @int _ b2 =>
      obtain ⟨_, rfl⟩ := ry
      exact ⟨SeqAt.EqAt.tuple_int _ _ t1 (by omega), SeqAt.RcAt.tuple_int _ _ t1 (by omega), SeqAt.RcNeAt.tuple_int _ _ t1 (by omega)⟩
    | @str _ b2 =>
      obtain ⟨_, rfl⟩ := ry
      exact ⟨SeqAt.EqAt.tuple_str _ _ t1 (by omega), SeqAt.RcAt.tuple_str _ _ t1 (by omega), SeqAt.RcNeAt.tuple_str _ _ t1 (by omega)⟩
    | @tup m b ys es hb kl k =>
      obtain rfl : v = Value.ref _ := ry
      obtain ⟨its2, r2, t2, z2⟩ := I.tuple hb
      have l2 := r2.length
      have step : ∀ (j : Nat) (h1 : j < its.toArray.size) (h2 : j < its2.toArray.size), SeqAt.EqAt A.in1 s its.toArray[j] its2.toArray[j] (at2 dEq ds es j) := fun j h1 h2 => by
        obtain ⟨x, hx, rx⟩ := vals_at r1 h1
        obtain ⟨y, hy, ry⟩ := vals_at r2 h2
        have j1 : j < ds.length := by simp at h1; omega
        have j2 : j < es.length := by simp at h2; omega
        rw [at2_of (List.getElem?_eq_getElem j1) (List.getElem?_eq_getElem j2)]
        exact (ih j x _ hx (List.getElem?_eq_getElem j1) (k j y _ hy (List.getElem?_eq_getElem j2)) (A := A.in1) (by show A.units + 1 + n + m < cLine; omega) rx ry).1
      have all := dEqs_all (xs := ds) (ys := es) (e := at2 dEq ds es) fun j x y h1 h2 => at2_of h1 h2
      have both : SeqAt.RcAt A s (.ref a) (.ref b) (dEqs ds es) ∧ SeqAt.RcNeAt A s (.ref a) (.ref b) (!dEqs ds es) := by
        have z1 := SeqAt.RcAt.tuples (A := A) (e := at2 dEq ds es) (show s.heap.IsTuple a its.toArray from t1) (show s.heap.IsTuple b its2.toArray from t2) (by omega) step
        have z2 := SeqAt.RcNeAt.tuples (A := A) (e := at2 dEq ds es) (show s.heap.IsTuple a its.toArray from t1) (show s.heap.IsTuple b its2.toArray from t2) (by omega) step
        have e1 : its.toArray.size = ds.length := by simp; omega
        have e2 : its2.toArray.size = es.length := by simp; omega
        rw [e1, e2, all] at z1 z2
        exact ⟨z1, z2⟩
      simp only [dEq]
      refine ⟨?_, both⟩
      by_cases q : a = b
      · subst q
        have ed : DV.tup ds = DV.tup es := dv_fun I (Dv.tup ha hl h) (Dv.tup hb kl k)
        rw [show es = ds by injection ed with z; exact z.symm, dEqs_refl]
        exact SeqAt.EqAt.same _
      · exact .of_refs q both.1
    | @lst m b ys es hb kl k =>
      obtain rfl : v = Value.ref _ := ry
      obtain ⟨its2, r2, t2, z2⟩ := I.list hb
      have l2 := r2.length
      exact ⟨SeqAt.EqAt.tuple_list t1 t2.isList (by omega), SeqAt.RcAt.tuple_list t1 t2.isList (by omega), SeqAt.RcNeAt.tuple_list t1 t2.isList (by omega)⟩
  | @lst n a xs ds ha hl h ih =>
    intro m y e h2 A u v hu rx ry
    obtain rfl : u = Value.ref _ := rx
    obtain ⟨its, r1, t1, z1⟩ := I.list ha
    have l1 := r1.length
    cases h2 with
    | @non  =>
      obtain rfl : v = Value.none := ry
      exact ⟨SeqAt.EqAt.list_none t1.isList (by omega), SeqAt.RcAt.list_none t1.isList (by omega), SeqAt.RcNeAt.list_none t1.isList (by omega)⟩
    | @bl _ b2 =>
      obtain rfl : v = Value.bool _ := ry
      exact ⟨SeqAt.EqAt.list_bool _ t1.isList (by omega), SeqAt.RcAt.list_bool _ t1.isList (by omega), SeqAt.RcNeAt.list_bool _ t1.isList (by omega)⟩
    | @int _ b2 =>
      obtain ⟨_, rfl⟩ := ry
      exact ⟨SeqAt.EqAt.list_int _ _ t1.isList (by omega), SeqAt.RcAt.list_int _ _ t1.isList (by omega), SeqAt.RcNeAt.list_int _ _ t1.isList (by omega)⟩
    | @str _ b2 =>
      obtain ⟨_, rfl⟩ := ry
      exact ⟨SeqAt.EqAt.list_str _ _ t1.isList (by omega), SeqAt.RcAt.list_str _ _ t1.isList (by omega), SeqAt.RcNeAt.list_str _ _ t1.isList (by omega)⟩
    | @tup m b ys es hb kl k =>
      obtain rfl : v = Value.ref _ := ry
      obtain ⟨its2, r2, t2, z2⟩ := I.tuple hb
      have l2 := r2.length
      exact ⟨SeqAt.EqAt.list_tuple t1.isList t2 (by omega), SeqAt.RcAt.list_tuple t1.isList t2 (by omega), SeqAt.RcNeAt.list_tuple t1.isList t2 (by omega)⟩
    | @lst m b ys es hb kl k =>
      obtain rfl : v = Value.ref _ := ry
      obtain ⟨its2, r2, t2, z2⟩ := I.list hb
      have l2 := r2.length
      have step : ∀ (j : Nat) (h1 : j < its.toArray.size) (h2 : j < its2.toArray.size), SeqAt.EqAt A.in1 s its.toArray[j] its2.toArray[j] (at2 dEq ds es j) := fun j h1 h2 => by
        obtain ⟨x, hx, rx⟩ := vals_at r1 h1
        obtain ⟨y, hy, ry⟩ := vals_at r2 h2
        have j1 : j < ds.length := by simp at h1; omega
        have j2 : j < es.length := by simp at h2; omega
        rw [at2_of (List.getElem?_eq_getElem j1) (List.getElem?_eq_getElem j2)]
        exact (ih j x _ hx (List.getElem?_eq_getElem j1) (k j y _ hy (List.getElem?_eq_getElem j2)) (A := A.in1) (by show A.units + 1 + n + m < cLine; omega) rx ry).1
      have all := dEqs_all (xs := ds) (ys := es) (e := at2 dEq ds es) fun j x y h1 h2 => at2_of h1 h2
      have both : SeqAt.RcAt A s (.ref a) (.ref b) (dEqs ds es) ∧ SeqAt.RcNeAt A s (.ref a) (.ref b) (!dEqs ds es) := by
        have e1 : its.toArray.size = ds.length := by simp; omega
        have e2 : its2.toArray.size = es.length := by simp; omega
        by_cases c : ds.length = es.length
        · have z1 := SeqAt.RcAt.lists (A := A) (e := at2 dEq ds es) t1.isList t2.isList (by omega) (by omega) step
          have z2 := SeqAt.RcNeAt.lists (A := A) (e := at2 dEq ds es) t1.isList t2.isList (by omega) (by omega) step
          have all' : (List.range ds.length).all (at2 dEq ds es) = dEqs ds es := by
            rw [← all, c, Nat.min_self]
            simp
          rw [e1, all'] at z1 z2
          exact ⟨z1, z2⟩
        · rw [dEqs_len c]
          exact ⟨SeqAt.RcAt.lists_lengths (A := A) t1.isList t2.isList (by rw [e1, e2]; simpa using c) (by omega), SeqAt.RcNeAt.lists_lengths (A := A) t1.isList t2.isList (by rw [e1, e2]; simpa using c) (by omega)⟩
      simp only [dEq]
      refine ⟨?_, both⟩
      by_cases q : a = b
      · subst q
        have ed : DV.lst ds = DV.lst es := dv_fun I (Dv.lst ha hl h) (Dv.lst hb kl k)
        rw [show es = ds by injection ed with z; exact z.symm, dEqs_refl]
        exact SeqAt.EqAt.same _
      · exact .of_refs q both.1
end
theorem Same.seqL {K : PySem.W.Frag} {H H' : Hp} {a : Addr} {xs : List V} (s : Same H H') (h : SqL K H a xs) : SqL K H' a xs := by
  rcases h with (h | ⟨ob, h⟩) | h
  · exact .inl (.inl (s _ _ h))
  · exact .inl (.inr ⟨ob, s _ _ h⟩)
  · exact .inr h
def rEqV (K : PySem.W.Frag) : R2 := fun x y H Q => ∃ (n m : Nat) (d e : DV), Dv K H n x d ∧ Dv K H m y e ∧ n ≤ 9 ∧ m ≤ 9 ∧ Q (.bl (dEq d e)) H
def rNeV (K : PySem.W.Frag) : R2 := fun x y H Q => ∃ (n m : Nat) (d e : DV), Dv K H n x d ∧ Dv K H m y e ∧ n ≤ 9 ∧ m ≤ 9 ∧ Q (.bl (!dEq d e)) H
def rInV (K : PySem.W.Frag) (neg : Bool) : R2 := fun x y H Q => ∃ (n m : Nat) (d : DV) (es : List DV), Dv K H n x d ∧ Dv K H m y (.lst es) ∧ n ≤ 9 ∧ m ≤ 9 ∧ Q (.bl (if neg then !es.any (fun z => dEq z d) else es.any fun z => dEq z d)) H
section
variable {X : Cx}
theorem op_eqV (hu : X.A.units + 20 < cLine) : OpR X (compareOp .Eq) (rEqV X.K) := by
  intro pins s σ H x y u v Q I rx ry h
  obtain ⟨n, m, d, e, h1, h2, hn, hm, q⟩ := h
  exact (dv_at I h1 h2 (A := X.A) (by omega) rx ry).2.1 X.prog X.w X.xe _ ⟨.bl _, H, I, rfl, q⟩
theorem op_neV (hu : X.A.units + 20 < cLine) : OpR X (compareOp .NotEq) (rNeV X.K) := by
  intro pins s σ H x y u v Q I rx ry h
  obtain ⟨n, m, d, e, h1, h2, hn, hm, q⟩ := h
  exact PySem.W.cmp_ofNotEq ((dv_at I h1 h2 (A := X.A) (by omega) rx ry).2.2 X.prog X.w X.xe _ ⟨.bl _, H, I, rfl, q⟩)
theorem any_ix {α β : Type} {f : α → Bool} {g : β → Bool} : ∀ {xs : List α} {ys : List β}, xs.length = ys.length → (∀ (j : Nat) (x : α) (y : β), xs[j]? = some x → ys[j]? = some y → f x = g y) → xs.any f = ys.any g
  | [], [], _, _ => rfl
  | [], _ :: _, h, _ => by cases h
  | _ :: _, [], h, _ => by cases h
  | x :: xs, y :: ys, h, k => by
    rw [List.any_cons, List.any_cons, k 0 x y rfl rfl, any_ix (xs := xs) (ys := ys) (by simpa using h) fun j a b h1 h2 => k (j + 1) a b (by simpa using h1) (by simpa using h2)]
noncomputable def eOf (K : PySem.W.Frag) (H : Hp) (m : Nat) (d : DV) (z : V) : Bool := @dite Bool (∃ e, Dv K H m z e) (Classical.propDecidable _) (fun h => dEq h.choose d) fun _ => false
theorem eOf_of {pins : List (Addr × Obj)} {σ : St} {H : Hp} {s : Shared} (I : Inv X pins σ H s) {m : Nat} {d e : DV} {z : V} (h : Dv X.K H m z e) : eOf X.K H m d z = dEq e d := by
  unfold eOf
  rw [dif_pos ⟨e, h⟩]
  have ex : ∃ e, Dv X.K H m z e := ⟨e, h⟩
  rw [dv_fun I ex.choose_spec h]
theorem op_inV (hu : X.A.units + 20 < cLine) : OpR X (compareOp .In) (rInV X.K false) := by
  intro pins s σ H x y v u Q I rx ry h
  obtain ⟨n, m, d, es, h1, h2, hn, hm, q⟩ := h
  cases h2 with
  | @lst m a xs _ ha hl k =>
    cases ry
    obtain ⟨its, r, pl, hz⟩ := I.list ha
    have get : ∀ z ∈ xs, ∃ (j : Nat) (e : DV), xs[j]? = some z ∧ es[j]? = some e ∧ Dv X.K H m z e := fun z hz => by
      obtain ⟨j, hj⟩ := List.getElem?_of_mem hz
      have lt : j < es.length := by rw [← hl]; exact (List.getElem?_eq_some_iff.mp hj).1
      exact ⟨j, es[j], hj, List.getElem?_eq_getElem lt, k j z _ hj (List.getElem?_eq_getElem lt)⟩
    refine SeqAt.in_listAt (eU (eOf X.K H m d)) pl.isList (fun w hw => ?_) ⟨.bl _, H, I, rfl, ?_⟩
    · obtain ⟨z, m1, m2⟩ := mem_rel r w (by simpa using hw)
      obtain ⟨j, e, _, _, he⟩ := get z m1
      rw [eU_of m2, eOf_of I he]
      exact (dv_at I he h1 (A := X.A.in1) (by show X.A.units + 1 + m + n < cLine; omega) m2 rx).1
    · rw [show its.toArray.any (eU (eOf X.K H m d)) = its.any (eU (eOf X.K H m d)) by simp, any_eU r, any_ix (g := fun z => dEq z d) hl fun j z e g1 g2 => eOf_of I (k j z e g1 g2)]
      exact q
theorem op_notInV (hu : X.A.units + 20 < cLine) : OpR X (compareOp .NotIn) (rInV X.K true) := by
  intro pins s σ H x y v u Q I rx ry h
  obtain ⟨n, m, d, es, h1, h2, hn, hm, q⟩ := h
  cases h2 with
  | @lst m a xs _ ha hl k =>
    cases ry
    obtain ⟨its, r, pl, hz⟩ := I.list ha
    have get : ∀ z ∈ xs, ∃ (j : Nat) (e : DV), xs[j]? = some z ∧ es[j]? = some e ∧ Dv X.K H m z e := fun z hz => by
      obtain ⟨j, hj⟩ := List.getElem?_of_mem hz
      have lt : j < es.length := by rw [← hl]; exact (List.getElem?_eq_some_iff.mp hj).1
      exact ⟨j, es[j], hj, List.getElem?_eq_getElem lt, k j z _ hj (List.getElem?_eq_getElem lt)⟩
    refine SeqAt.notIn_listAt (eU (eOf X.K H m d)) pl.isList (fun w hw => ?_) ⟨.bl _, H, I, rfl, ?_⟩
    · obtain ⟨z, m1, m2⟩ := mem_rel r w (by simpa using hw)
      obtain ⟨j, e, _, _, he⟩ := get z m1
      rw [eU_of m2, eOf_of I he]
      exact (dv_at I he h1 (A := X.A.in1) (by show X.A.units + 1 + m + n < cLine; omega) m2 rx).1
    · rw [show its.toArray.any (eU (eOf X.K H m d)) = its.any (eU (eOf X.K H m d)) by simp, any_eU r, any_ix (g := fun z => dEq z d) hl fun j z e g1 g2 => eOf_of I (k j z e g1 g2)]
      exact q
end
end L2
set_option maxRecDepth 100000
set_option maxHeartbeats 1000000
namespace L2
open PySem PySem.Spec PyProof.Rows XL PySem.W
def Tp (H H' : Hp) : Prop := ∀ b xs, H b = some (.tup xs) → H' b = some (.tup xs)
theorem Same.tp {H H' : Hp} (s : Same H H') : Tp H H' := fun b xs e => s b _ e
theorem Tp.trans {H H' H'' : Hp} (s : Tp H H') (r : Tp H' H'') : Tp H H'' := fun b xs e => r b xs (s b xs e)
theorem tp_lst {H : Hp} {l : Addr} {xs ys : List V} (h : H l = some (.lst xs)) : Tp H (upd H l (.lst ys)) := fun b zs e => by
  rw [upd_ne (fun z => by rw [z, h] at e; cases e)]
  exact e
section
variable {J : It} {n : Nat} {g : TG} {σ : St} {fr : List Nat} {tc : TT} {te : TE} {l : Addr} {H1 : Hp} {Q : VK}
theorem comp_go (len : Nat) (hlen : len < sizeLine) (hl : H1 l = none) (x : Nat → V) (hgo : ∀ i H, i < len → Same H1 H → J.go i H) (hy : ∀ i H v H', i < len → Same H1 H → J.yld i H v H' → H' = H ∧ v = x i) (hst : ∀ H, Same H1 H → J.stop len H)
    (p : Nat → Bool) (F : Nat → V → Hp → Prop) (stab : ∀ i y H H', Tp H H' → F i y H → F i y H')
    (step : ∀ i H2, i < len → Same H1 H2 → ∀ (N : V → Hp → Prop) (M : Hp → Prop), (∀ y H', Same H2 H' → p i = true → F i y H' → N y H') → (∀ H', Same H2 H' → p i = false → M H') →
      g (x i) (blk0 σ fr n) H2 fun σ' H3 => tc σ' H3 fun b H4 => if b = true then te σ' H4 N else M H4)
    (fin : ∀ ys H2, Same H1 H2 → H2 l = some (.lst ys) → ys.length = ((List.range len).filter p).length → (∀ (j : Nat) (y : V) (i : Nat), ys[j]? = some y → ((List.range len).filter p)[j]? = some i → F i y H2) → Q (.ref l) H2) : CompG J n g σ fr tc te l H1 Q := by
  refine compG_by len (fun i ys H2 => Same H1 H2 ∧ H2 l = some (.lst ys) ∧ ys.length = ((List.range i).filter p).length ∧ ∀ (j : Nat) (y : V) (k : Nat), ys[j]? = some y → ((List.range i).filter p)[j]? = some k → F k y H2) ?_ ?_ ?_ ?_
  · refine ⟨fun b u e => ?_, upd_same, rfl, fun j y k e => by simp at e⟩
    rw [upd_ne (ne_of_none e hl)]
    exact e
  · rintro i ys H2 lt ⟨s, _⟩
    exact hgo i H2 lt s
  · rintro i ys H2 v H3 lt ⟨s, el, ly, f⟩ yl N hN
    obtain ⟨rfl, rfl⟩ := hy i H2 v H3 lt s yl
    refine step i H3 lt s _ _ (fun y H' s' pt hf => ?_) (fun H' s' pf => ?_)
    · have el' := s' _ _ el
      have ylen : ys.length < sizeLine := by
        rw [ly]
        refine Nat.lt_of_le_of_lt (List.length_filter_le _ _) ?_
        rw [List.length_range]
        omega
      refine ⟨el', ylen, hN _ _ ⟨fun b u e => ?_, upd_same, ?_, fun j z k e1 e2 => ?_⟩⟩
      · rw [upd_ne (ne_of_none e hl)]
        exact s' _ _ (s _ _ e)
      · rw [List.range_succ, List.filter_append, List.length_append, List.length_append, ly, List.filter_cons_of_pos pt]
        rfl
      · rw [List.range_succ, List.filter_append, List.filter_cons_of_pos pt] at e2
        by_cases c : j < ys.length
        · rw [List.getElem?_append_left c] at e1
          rw [List.getElem?_append_left (by omega)] at e2
          exact stab _ _ _ _ ((Same.tp s').trans (tp_lst el')) (f j z k e1 e2)
        · rw [List.getElem?_append_right (by omega)] at e1 e2
          rw [← ly] at e2
          cases hj : j - ys.length with
          | zero =>
            rw [hj] at e1 e2
            simp at e1 e2
            subst e1 e2
            exact stab _ _ _ _ (tp_lst el') hf
          | succ m =>
            rw [hj] at e1
            simp at e1
    · refine hN _ _ ⟨s.trans s', s' _ _ el, ?_, fun j z k e1 e2 => ?_⟩
      · rw [List.range_succ, List.filter_append, List.filter_cons_of_neg (by simp [pf])]
        simpa using ly
      · rw [List.range_succ, List.filter_append, List.filter_cons_of_neg (by simp [pf])] at e2
        simp only [List.filter_nil, List.append_nil] at e2
        exact stab _ _ _ _ (Same.tp s') (f j z k e1 e2)
  · rintro ys H2 ⟨s, el, ly, f⟩
    exact ⟨hst _ s, fin ys H2 s el ly f⟩
theorem comp_listF {K : PySem.W.Frag} {a : Addr} {xs : List V} (hs : SqL K H1 a xs) (hlen : xs.length < sizeLine) (hl : H1 l = none) (p : Nat → Bool) (F : Nat → V → Hp → Prop) (stab : ∀ i y H H', Tp H H' → F i y H → F i y H')
    (step : ∀ (i : Nat) (x : V) (H2 : Hp), xs[i]? = some x → Same H1 H2 → ∀ (N : V → Hp → Prop) (M : Hp → Prop), (∀ y H', Same H2 H' → p i = true → F i y H' → N y H') → (∀ H', Same H2 H' → p i = false → M H') →
      g x (blk0 σ fr n) H2 fun σ' H3 => tc σ' H3 fun b H4 => if b = true then te σ' H4 N else M H4)
    (fin : ∀ ys H2, Same H1 H2 → H2 l = some (.lst ys) → ys.length = ((List.range xs.length).filter p).length → (∀ (j : Nat) (y : V) (i : Nat), ys[j]? = some y → ((List.range xs.length).filter p)[j]? = some i → F i y H2) → Q (.ref l) H2) : CompG (Itl K a) n g σ fr tc te l H1 Q := by
  refine comp_go xs.length hlen hl (fun i => xs.getD i .non) (fun i H lt s => ⟨xs, xs[i], Same.seqL s hs, List.getElem?_eq_getElem lt⟩) (fun i H v H' lt s y => ?_) (fun H s => ⟨xs, Same.seqL s hs, Nat.le_refl _⟩) p F stab (fun i H2 lt s N M h1 h2 => ?_) fin
  · obtain ⟨e, f⟩ := y
    have z := f xs (Same.seqL s hs)
    refine ⟨e, ?_⟩
    simp [z]
  · have e : xs[i]? = some (xs.getD i .non) := by simp [List.getElem?_eq_getElem lt]
    exact step i _ H2 e s N M h1 h2
theorem cut_true {i : Nat} {x : V} {σ0 : St} {H2 : Hp} {N : V → Hp → Prop} {M : Hp → Prop} {g : TG} {te : TE} (h : g x σ0 H2 fun σ' H3 => te σ' H3 N) : g x σ0 H2 fun σ' H3 => tTrue σ' H3 fun b H4 => if b = true then te σ' H4 N else M H4 := by
  have e : (fun (σ' : St) (H3 : Hp) => tTrue σ' H3 fun b H4 => if b = true then te σ' H4 N else M H4) = fun σ' H3 => te σ' H3 N := by
    funext σ' H3
    show (if true = true then te σ' H3 N else M H3) = te σ' H3 N
    rw [if_pos rfl]
  rw [e]
  exact h
theorem filter_all (m : Nat) : (List.range m).filter (fun _ => true) = List.range m := by simp
theorem comp_list {K : PySem.W.Frag} {a : Addr} {xs : List V} (hs : SqL K H1 a xs) (hlen : xs.length < sizeLine) (hl : H1 l = none) (F : Nat → V → Hp → Prop) (stab : ∀ i y H H', Tp H H' → F i y H → F i y H')
    (step : ∀ (i : Nat) (x : V) (H2 : Hp), xs[i]? = some x → Same H1 H2 → ∀ (N : V → Hp → Prop), (∀ y H', Same H2 H' → F i y H' → N y H') → g x (blk0 σ fr n) H2 fun σ' H3 => te σ' H3 N)
    (fin : ∀ ys H2, Same H1 H2 → H2 l = some (.lst ys) → ys.length = xs.length → (∀ (i : Nat) (y : V), ys[i]? = some y → F i y H2) → Q (.ref l) H2) : CompG (Itl K a) n g σ fr tTrue te l H1 Q := by
  refine comp_listF hs hlen hl (fun _ => true) F stab (fun i x H2 hx s N M h1 h2 => cut_true (i := i) (step i x H2 hx s N fun y H' s' f => h1 y H' s' rfl f)) (fun ys H2 s e ly f => ?_)
  rw [filter_all, List.length_range] at ly
  refine fin ys H2 s e ly fun i y hy => f i y i hy ?_
  rw [filter_all, List.getElem?_range (by have := (List.getElem?_eq_some_iff.mp hy).1; omega)]
end
theorem ys_eq {α : Type} {f : α → V} : ∀ {as : List α} {ys : List V}, ys.length = as.length → (∀ (i : Nat) (y : V) (a : α), ys[i]? = some y → as[i]? = some a → y = f a) → ys = as.map f
  | [], [], _, _ => rfl
  | [], _ :: _, h, _ => by cases h
  | _ :: _, [], h, _ => by cases h
  | a :: as, y :: ys, h, k => by
    rw [List.map_cons, k 0 y a rfl rfl, ys_eq (as := as) (ys := ys) (by simpa using h) fun i y' a' h1 h2 => k (i + 1) y' a' (by simpa using h1) (by simpa using h2)]
theorem filt_ix {α : Type} (q : α → Bool) : ∀ (as : List α) (p : Nat → Bool), (∀ (i : Nat) (a : α), as[i]? = some a → p i = q a) → ((List.range as.length).filter p).filterMap (fun i => as[i]?) = as.filter q
  | [], _, _ => rfl
  | a :: as, p, h => by
    have ih := filt_ix q as (fun i => p (i + 1)) fun i b hb => h (i + 1) b (by simpa using hb)
    rw [List.length_cons, List.range_succ_eq_map]
    have e : ((List.range as.length).map Nat.succ).filter p = ((List.range as.length).filter (fun i => p (i + 1))).map Nat.succ := by
      rw [List.filter_map]
      rfl
    have h0 := h 0 a rfl
    by_cases c : q a = true
    · rw [List.filter_cons_of_pos (by rw [h0]; exact c), List.filter_cons_of_pos c, e, List.filterMap_cons]
      simp only [List.getElem?_cons_zero, List.filterMap_map]
      rw [← ih]
      rfl
    · rw [List.filter_cons_of_neg (by rw [h0]; exact c), List.filter_cons_of_neg c, e, List.filterMap_map, ← ih]
      rfl
theorem ix_filt {α : Type} (q : α → Bool) {as : List α} {p : Nat → Bool} (h : ∀ (i : Nat) (a : α), as[i]? = some a → p i = q a) : ((List.range as.length).filter p).length = (as.filter q).length ∧ ∀ j i : Nat, ((List.range as.length).filter p)[j]? = some i → as[i]? = (as.filter q)[j]? := by
  rw [← filt_ix q as p h]
  have all : ∀ i ∈ (List.range as.length).filter p, ∃ a, as[i]? = some a := fun i hi => by
    have := List.mem_range.mp (List.mem_filter.mp hi).1
    exact ⟨as[i], List.getElem?_eq_getElem this⟩
  generalize (List.range as.length).filter p = is at all
  induction is with
  | nil => exact ⟨rfl, fun j i e => by simp at e⟩
  | cons i is ih =>
    obtain ⟨a, ha⟩ := all i List.mem_cons_self
    obtain ⟨h1, h2⟩ := ih fun k hk => all k (List.mem_cons_of_mem _ hk)
    rw [List.filterMap_cons, ha]
    refine ⟨by simp [h1], fun j k e => ?_⟩
    cases j with
    | zero =>
      simp at e
      subst e
      exact ha
    | succ m => exact h2 m k (by simpa using e)
end L2
set_option maxRecDepth 100000
set_option maxHeartbeats 1000000
namespace XL
open PySem PySem.MeetsSeq PySem.MeetsSeq2 PySem.MeetsSeq3 PySem.SeqAt
open AutoSeq1 (wpAny_loadPart')
end XL
namespace L2
open PySem PySem.Spec PyProof.Rows XL PySem.W
def plainE : Expr → Bool
  | .Starred _ _ => false
  | _ => true
theorem star_plain {e : Expr} {es : List Expr} {env : Env} (h : plainE e = true) : starEach (e :: es) env = (false, eval e env) :: starEach es env := by
  cases e <;> first | rfl | cases h
theorem pa_consP {X : Cx} {e : Expr} {es : List Expr} {te : TE} {t : TA} (ha : PE X e te) (hr : PA X es t) (hn : plainE e = true) : PA X (e :: es) (tCons te t) := pa_cons ha hr (star_plain hn)
section
variable {X : Cx}
end
section
variable {J : It} {n : Nat} {g : TG} {σ : St} {fr : List Nat} {tc : TT} {te : TE} {l : Addr} {H1 : Hp} {Q : VK}
end
end L2
set_option maxRecDepth 100000
set_option maxHeartbeats 1000000
namespace XL
open PySem L2
open PyProof.Rows (assign_Tuple)
section
variable {prog : Program} {w : World} {A : Around} {E : Value → Shared → Prop}
end
section
variable {X : Cx} {pos : Pos}
end
end XL
set_option maxRecDepth 100000
set_option maxHeartbeats 1000000
namespace L2
open PySem PySem.Spec PyProof.Rows XL PySem.W
section
variable {J : It} {n : Nat} {g : TG} {σ : St} {fr : List Nat} {tc : TT} {te : TE} {l : Addr} {H1 : Hp} {Q : VK}
end
end L2
set_option maxRecDepth 100000
set_option maxHeartbeats 1000000
namespace L2
open PySem PySem.Spec PyProof.Rows XL PySem.W
section
variable {J : It} {n : Nat} {g : TG} {σ : St} {fr : List Nat} {tc : TT} {te : TE} {l : Addr} {H1 : Hp} {Q : VK}
end
end L2
set_option maxRecDepth 100000
set_option maxHeartbeats 1000000
namespace L2
open PySem PySem.Spec PyProof.Rows XL PySem.W PySem.Builtin PySem.Builtin.Str
section
variable {prog : Program} {w : World} {A : Around} {E : Value → Shared → Prop} {s : Shared} {x y : Str} {t u : Tok} {Q : Value → Shared → Prop}
end
section
variable {X : Cx}
end
end L2
set_option maxRecDepth 100000
set_option maxHeartbeats 1000000
namespace L2
open PySem PySem.Spec PyProof.Rows XL
open AutoSeq1 (wpAny_loadPart')
section
variable {prog : Program} {w : World} {A : Around} {E : Value → Shared → Prop} {s : Shared}
end
section
variable {prog : Program} {w : World} {A : Around} {E : Value → Shared → Prop} {s : Shared}
end
section
variable {prog : Program} {w : World} {K : Type} [DecidableEq K] {knd : KeyKind prog w K} {A : Around} {E : Value → Shared → Prop} {s : Shared}
end
section
variable {X : Cx} {elts : List Expr} {x1 : _} {tpos : Pos}
end
section
variable {X : Cx} {o : Expr} {to : TE} {tg : Expr} {apos cpos : Pos}
end
end L2
set_option maxRecDepth 100000
set_option maxHeartbeats 1000000
namespace L2
open PySem PySem.Spec PyProof.Rows XL
section
variable {prog : Program} {w : World} {A : Around} {E : Value → Shared → Prop} {s : Shared}
end
section
variable {X : Cx}
end
end L2
set_option maxRecDepth 100000
set_option maxHeartbeats 1000000
namespace L2
open PySem PySem.Spec PyProof.Rows XL
section
variable {X : Cx} {o : Expr} {to : TE} {tg : Expr}
end
end L2
set_option maxRecDepth 100000
set_option maxHeartbeats 1000000
namespace L2
open PySem PySem.Spec PyProof.Rows XL
open AutoSeq1 (wpAny_loadPart')
section
variable {M : Model} {A : Around} {E : Value → Shared → Prop} {s : Shared} {env : Env}
end
section
variable {prog : Program} {w : World} {A : Around} {E : Value → Shared → Prop} {s : Shared}
end
section
variable {prog : Program} {w : World} {A : Around} {E : Value → Shared → Prop} {s : Shared}
end
end L2
set_option maxRecDepth 100000
set_option maxHeartbeats 1000000
namespace L2
open PySem PySem.Spec PyProof.Rows XL
section
variable {X : Cx} {elts : List Expr} {x1 : _} {tpos : Pos}
end
end L2
set_option maxRecDepth 100000
set_option maxHeartbeats 1000000
namespace L2
open PySem PySem.Spec PyProof.Rows XL
end L2
set_option maxRecDepth 100000
set_option maxHeartbeats 1000000
namespace L2
open PySem PySem.Spec PyProof.Rows XL PySem.W PySem.Builtin PySem.Builtin.Str
section
variable {J : It} {n : Nat} {g : TG} {σ : St} {fr : List Nat} {tc : TT} {te : TE} {l : Addr} {H1 : Hp} {Q : VK}
theorem comp_listL {K : PySem.W.Frag} {a : Addr} {xs : List V} (hs : SqL K H1 a xs) (hlen : xs.length < sizeLine) (hl : H1 l = none) (F : Nat → List V → Hp → Prop) (F0 : ∀ H, Same H1 H → F 0 [] H) (stab : ∀ i ys zs H H', H l = some (.lst zs) → (∀ b u, b ≠ l → H b = some u → H' b = some u) → F i ys H → F i ys H')
    (step : ∀ (i : Nat) (x : V) (ys : List V) H2, xs[i]? = some x → Same H1 H2 → H2 l = some (.lst ys) → F i ys H2 → ∀ (N : V → Hp → Prop), (∀ y H', Same H2 H' → F (i + 1) (ys ++ [y]) H' → N y H') → g x (blk0 σ fr n) H2 fun σ' H3 => te σ' H3 N)
    (fin : ∀ ys H2, Same H1 H2 → H2 l = some (.lst ys) → ys.length = xs.length → F xs.length ys H2 → Q (.ref l) H2) : CompG (Itl K a) n g σ fr tTrue te l H1 Q := by
  refine compG_by xs.length (fun i ys H2 => Same H1 H2 ∧ H2 l = some (.lst ys) ∧ ys.length = i ∧ F i ys H2) ?_ ?_ ?_ ?_
  · have s0 : Same H1 (upd H1 l (.lst [])) := fun b u e => by
      rw [upd_ne (ne_of_none e hl)]
      exact e
    exact ⟨s0, upd_same, rfl, F0 _ s0⟩
  · rintro i ys H2 lt ⟨s, _⟩
    exact ⟨xs, xs[i], Same.seqL s hs, List.getElem?_eq_getElem lt⟩
  · rintro i ys H2 v H3 lt ⟨s, el, ly, f⟩ ⟨rfl, yv⟩ N hN
    have hv := yv xs (Same.seqL s hs)
    refine cut_true (i := i) (step i v ys H3 hv s el f _ fun y H' s' f' => ?_)
    have el' := s' _ _ el
    refine ⟨el', by omega, hN _ _ ⟨fun b u e => ?_, upd_same, by simp [ly], stab _ _ _ _ _ el' (fun b u nb e => ?_) f'⟩⟩
    · rw [upd_ne (ne_of_none e hl)]
      exact s' _ _ (s _ _ e)
    · rw [upd_ne nb]
      exact e
  · rintro ys H2 ⟨s, el, ly, f⟩
    exact ⟨⟨xs, Same.seqL s hs, Nat.le_refl _⟩, fin ys H2 s el ly f⟩
end
end L2
set_option maxRecDepth 100000
set_option maxHeartbeats 1000000
namespace L2
open PySem PySem.Spec PyProof.Rows XL PySem.W PySem.Builtin PySem.Builtin.Str
section
variable {X : Cx}
end
end L2
namespace L2
open PySem PySem.Spec PyProof.Rows XL PySem.W
end L2
set_option maxRecDepth 100000
set_option maxHeartbeats 1000000
namespace L2
open PySem PySem.Spec PyProof.Rows XL PySem.W
section
variable {X : Cx}
end
end L2
namespace L2
open PySem PySem.Spec PyProof.Rows XL PySem.W
section
variable {X : Cx}
def sgnL (x : Str) : List V := x.cps.toList.map fun c => V.str ⟨#[c]⟩
theorem call_list_txt (hc : X.calm = true) : CallR X (.type "list") (fun xs H Q => ∃ x : Str, xs = [.str x] ∧ x.length ≤ 1000 ∧ ∀ l, H l = none → Q (.ref l) (upd H l (.lst (sgnL x)))) := by
  intro pins s σ H xs us Q I r h
  obtain ⟨x, rfl, hn, q⟩ := h
  obtain ⟨u, rfl, t, rfl⟩ := vals1 r
  refine PySem.call_list_str (I.ok.hd hc) x t (fun h' tk acc' c' kp e it => ?_) (Nat.le_trans hn (by decide))
  have len : acc'.toList.length = (sgnL x).length := by
    rw [sgnL, List.length_map]
    have := it.1
    simpa using this
  refine ⟨.ref s.heap.objs.size, _, I.laid (t' := tk) kp (Nat.le_refl _) (show ObjOk X.prog X.w _ h' _ (.lst (sgnL x)) from ⟨?_, acc'.toList, c', vals_of len fun j y u ey eu => ?_, by simpa using e⟩), rfl, q _ (I.hok.fresh (Nat.le_refl _))⟩
  · rw [sgnL, List.length_map]
    have : x.cps.toList.length = x.length := by simp [Str.length]
    exact Nat.le_trans (by omega : _ ≤ 1000) (by decide)
  · have eu' : acc'[j]? = some u := by simpa using eu
    obtain ⟨c, t2, e1, e2⟩ := it.2 j u eu'
    rw [sgnL, List.getElem?_map, Array.getElem?_toList, e1] at ey
    cases ey
    exact ⟨t2, e2⟩
end
end L2
set_option maxRecDepth 100000
set_option maxHeartbeats 1000000
namespace L2
open PySem PySem.Spec PyProof.Rows XL PySem.W
section
variable {J : It} {n : Nat} {g : TG} {σ : St} {fr : List Nat} {tc : TT} {te : TE} {l : Addr} {H1 : Hp} {Q : VK} {α : Type}
end
end L2
set_option maxRecDepth 100000
set_option maxHeartbeats 1000000
namespace L2
open PySem PySem.Spec PyProof.Rows XL PySem.W PySem.Builtin PySem.Builtin.Str
section
variable {X : Cx}
end
end L2
set_option maxRecDepth 100000
set_option maxHeartbeats 1000000
namespace L2
open PySem PySem.Spec PyProof.Rows XL PySem.W PySem.Builtin PySem.Builtin.Str
end L2
set_option maxRecDepth 100000
set_option maxHeartbeats 1000000
namespace L2
open PySem PySem.Spec PyProof.Rows XL PySem.W PySem.Builtin PySem.Builtin.Str
section
variable {prog : Program} {w : World} {K : Type} [DecidableEq K] {A : Around} {E : Value → Shared → Prop} {s : Shared}
end
section
variable {prog : Program} {w : World} {K : Type} [DecidableEq K] {kk : KeyKind prog w K} {A : Around} {E : Value → Shared → Prop} {s : Shared}
end
end L2
set_option maxRecDepth 100000
namespace L2
open PySem
def th (a b : Int) : Int := reduceHash (Builtin.Tuple.tupleHashOf [hashInt a, hashInt b])
end L2
set_option maxRecDepth 100000
set_option maxHeartbeats 4000000
namespace XL
open PySem PySem.Spec PyProof.Rows
def oneEach (acc : List Str) (x : Str) : List Str := if acc.any (· == x) = true then acc else acc ++ [x]
def firsts (val : Nat → Str) (i : Nat) : List Str := ((List.range i).map val).foldl oneEach []
theorem firsts_succ (val : Nat → Str) (i : Nat) : firsts val (i + 1) = oneEach (firsts val i) (val i) := by
  unfold firsts
  rw [List.range_succ, List.map_append, List.foldl_append]
  rfl
theorem oneEach_any (acc : List Str) (v k : Str) : (oneEach acc v).any (· == k) = (acc.any (· == k) || decide (k = v)) := by
  unfold oneEach
  split
  · rename_i h
    by_cases e : k = v
    · rw [e, h]
      simp
    · simp [e]
  · rw [List.any_append]
    by_cases e : k = v
    · subst e
      simp
    · have ne : (v == k) = false := beq_eq_false_iff_ne.mpr fun z => e z.symm
      simp [ne, e]
theorem oneEach_len (acc : List Str) (v : Str) : (oneEach acc v).length = if acc.any (· == v) then acc.length else acc.length + 1 := by
  unfold oneEach
  split <;> simp
theorem firsts_le (val : Nat → Str) : ∀ i, (firsts val i).length ≤ i
  | 0 => Nat.le_refl _
  | i + 1 => by
    have ih := firsts_le val i
    rw [firsts_succ, oneEach_len]
    split <;> omega
section
variable {pr : Program} {wd : World} {ar : Around} {R : Result → Shared → Prop} {it : Addr} {fp wr : List Addr} {G : Array GenState → Array GenState → Prop} {n : Nat} {P : Nat → Value → Prop} {St : Nat → Shared → Prop}
theorem loop_texts (wk : WalksS pr wd ar.in1 it fp wr G n P St) (d : Addr) (nd : d ∉ fp) (val : Nat → Str) (hv : ∀ i v, P i v → ∃ t, v = .str (val i) t) (small : n + 1 < scanBound) :
    ∀ (k i : Nat) (s : Shared), n - i = k → i ≤ n → St i s → s.heap.SetOf (strKind pr wd) d (fun z => (firsts val i).any (· == z)) (firsts val i).length →
      (∀ s2, Moved (d :: wr) G s s2 → s2.heap.SetOf (strKind pr wd) d (fun z => (firsts val n).any (· == z)) (firsts val n).length → R (.ok (.ret .none)) s2) →
      codeAny (model pr wd) ar (.builtin "set.update.loop" ⟨[.ref d, .ref it], []⟩) R s := by
  have nw : d ∉ wr := fun z => nd (wk.sub _ z)
  have more : ∀ b ∈ wr, b ∈ d :: wr := fun b z => List.mem_cons_of_mem _ z
  intro k
  induction k with
  | zero =>
    intro i s ek le st so fin
    obtain rfl : i = n := by omega
    refine codeAny_builtin F.entry_set_update_loop ?_
    rw [Around.under_plainId F.plain_set_update_loop _]
    refine wpAny_bind (m := pyNext (.ref it)) (wk.done s _ _ st fun s2 mv => ?_)
    refine wpAny_pure (fin s2 (mv.mono more) ?_)
    obtain ⟨o, es, ep, t, ho, rest⟩ := so
    exact ⟨o, es, ep, t, mv.heap d _ nw ho, rest⟩
  | succ k ih =>
    intro i s ek le st so fin
    have lt : i < n := by omega
    refine codeAny_builtin F.entry_set_update_loop ?_
    rw [Around.under_plainId F.plain_set_update_loop _]
    refine wpAny_bind (m := pyNext (.ref it)) (wk.item i s _ _ lt st fun v s2 pv st2 mv => ?_)
    obtain ⟨t, rfl⟩ := hv i v pv
    have so2 : s2.heap.SetOf (strKind pr wd) d (fun z => (firsts val i).any (· == z)) (firsts val i).length := by
      obtain ⟨o, es, ep, tb, ho, rest⟩ := so
      exact ⟨o, es, ep, tb, mv.heap d _ nw ho, rest⟩
    show wpAny _ ar.in1 (holding [Value.str (val i) t] (setAdd d (.str (val i) t)) >>= _) _ _ s2
    refine wpAny_bind (wpAny_holding ?_)
    unfold setAdd
    refine wpAny_holding (wpAny_bind ((strKind pr wd).pyHash (k := val i) (strKind_is _ _ _ _) ?_))
    have room : (firsts val i).length + 1 < scanBound := by have := firsts_le val i; omega
    refine wpAny_setAddHashed_of (knd := strKind pr wd) (s := { s2 with toks := s2.toks + 1 }) (strKind_is _ _ _ _) rfl so2 room fun h2 sb so3 => ?_
    have so4 : h2.SetOf (strKind pr wd) d (fun z => (firsts val (i + 1)).any (· == z)) (firsts val (i + 1)).length := SetOf_congr so3 (fun z => by rw [firsts_succ, oneEach_any]) (by rw [firsts_succ, oneEach_len])
    refine wpAny_pure ⟨plainId_quiet F.plain_set_update_loop _, ih (i + 1) _ (by omega) lt (wk.frame _ s2 _ _ st2 (Nat.le_succ _) fun b z o e => ?_) so4 fun s3 mv3 so5 => ?_⟩
    · rw [sb.2 b (fun e2 : b = d => nd (e2 ▸ z))]
      exact e
    · refine fin s3 (Moved.trans wk.gtrans ((mv.mono more).then_heap (Nat.le_succ _) fun b o z e => ?_) mv3) so5
      rw [sb.2 b (fun e2 : b = d => z (e2 ▸ List.mem_cons_self))]
      exact e
end
section
variable {pr : Program} {wd : World} {ar : Around} {E : Value → Shared → Prop} {s : Shared}
theorem call_set_texts {l : Addr} {its : Array Value} {val : Nat → Str} {Q : Value → Shared → Prop} (hd : ar.handled = none) (hl : s.heap.IsList l its) (hi : ∀ (i : Nat) (v : Value), its[i]? = some v → ∃ t, v = .str (val i) t) (small : its.size + 1 < scanBound)
    (h : ∀ (h2 : Heap) (tk : Nat), h2.SetOf (strKind pr wd) s.heap.objs.size (fun z => (firsts val its.size).any (· == z)) (firsts val its.size).length → (∀ b o, b < s.heap.objs.size → s.heap.get? b = some o → h2.get? b = some o) → Q (.ref s.heap.objs.size) { s with heap := h2, toks := tk }) :
    wpAny (model pr wd) ar (call (.type "set") [.ref l]) Q E s := by
  obtain ⟨c0, tl0, mro0⟩ := F.called_set.mro
  have made0 := F.called_set.made
  have sub0 := F.called_set.sub
  refine wpAny_call (codeAny_of_tree ?_)
  show wpAny _ _ (callAny (.type "set") _) _ _ _
  refine wpAny_pure ⟨Code.quiet_builtin _ (by decide +kernel), codeAny_builtin F.entry_type_call ?_⟩
  rw [Around.under_plain (weight_type_call_type "set" [.ref l] []) rfl]
  have k1 := F.called_set.notType
  have k2 := F.called_set.canCreate
  have k3 := F.typeCall_set_1 (.ref l)
  repeat (any_goals (first | assumption | wp_step))
  refine codeAny_mono (code_set_new_1 (.ref l) (E := E) (Q₁ := fun ob s1 => ∃ led : Bool, ob = .ref s.heap.objs.size ∧ s1 = { s with heap := s.heap.push { cls := .type "set", dict := none, data := .set #[] 0 (.fresh 0 0 led) } }) fun led => ⟨led, rfl, rfl⟩) fun r s1 hr => ?_
  cases r with
  | error e => exact hr
  | ok fl =>
    cases fl with
    | ret ob =>
      obtain ⟨led, rfl, rfl⟩ := hr
      have g0 : (s.heap.push { cls := .type "set", dict := none, data := .set #[] 0 (.fresh 0 0 led) }).get? s.heap.objs.size = some { cls := .type "set", dict := none, data := .set #[] 0 (.fresh 0 0 led) } := Heap.get?_push_size _ rfl
      have ty0 : Shared.TypeIs { s with heap := s.heap.push { cls := .type "set", dict := none, data := .set #[] 0 (.fresh 0 0 led) } } (.ref s.heap.objs.size) "set" := ⟨_, g0, rfl⟩
      have li0 := F.called_set.init.lookup
      have bi0 := F.called_set.init.bind (.ref s.heap.objs.size)
      repeat (any_goals (first | assumption | wp_step))
      refine codeAny_mono (codeAny_call_builtin (R := wants (fun r s2 => r = .none ∧ ∃ h2 tk, s2 = { s with heap := h2, toks := tk } ∧ h2.SetOf (strKind pr wd) s.heap.objs.size (fun z => (firsts val its.size).any (· == z)) (firsts val its.size).length ∧ (∀ b o, b < s.heap.objs.size → s.heap.get? b = some o → h2.get? b = some o)) E) F.called_set.init.plain F.entry_set_init (check_set_init_1 ty0 ?_)) fun r2 s2 hr2 => ?_
      · obtain ⟨ol, gl, cl, nl, dl⟩ := hl
        obtain ⟨ocls, odict, odata, oslots⟩ := ol
        simp only at cl dl
        subst cl dl
        have gl1 : (s.heap.push { cls := .type "set", dict := none, data := .set #[] 0 (.fresh 0 0 led) }).get? l = some { cls := .type "list", dict := odict, data := .seq its nl, slots := oslots } := Heap.get?_push_of_some _ gl
        have a1 := F.sub_list_set
        have a2 := F.sub_list_frozenset
        have a3 : (Value.type "list" == Value.type "dict") = false := by decide
        have l1 : (s.heap.push { cls := .type "set", dict := none, data := .set #[] 0 (.fresh 0 0 led) }).IsList l its := ⟨_, gl1, rfl, nl, rfl⟩
        unfold Builtin.«set.__init__» noKeywords Builtin.Frozenset.updateFrom
        generalize ePI : pyIter = PI
        wp_walk
        subst ePI
        refine wpAny_pyIter_list l1 (wpAny_bind (wpAny_runValue ?_))
        have ll : l < s.heap.objs.size := Heap.lt_size gl
        have h3 : ar.in1.in1.in1.handled = none := by simp [hd]
        have n1 : l ≠ (s.heap.push { cls := .type "set", dict := none, data := .set #[] 0 (.fresh 0 0 led) }).objs.size := by
          rw [Heap.size_push]
          exact Nat.ne_of_lt (Nat.lt_of_lt_of_le ll (Nat.le_succ _))
        have n2 : s.heap.objs.size ∉ [(s.heap.push { cls := .type "set", dict := none, data := .set #[] 0 (.fresh 0 0 led) }).objs.size, l] := by
          rw [Heap.size_push]
          simp only [List.mem_cons, List.not_mem_nil, or_false, not_or]
          exact ⟨Nat.ne_of_lt (Nat.lt_succ_self _), Nat.ne_of_gt ll⟩
        refine loop_texts ((Walks.list h3 _ l n1 its).toS) s.heap.objs.size n2 val hi small (its.size - 0) 0 _ (by omega) (Nat.zero_le _) ⟨⟨_, Heap.get?_push_size _ rfl, rfl, rfl⟩, (l1.push _)⟩ ?hS ?hE
        case hS =>
          have g1 : ((s.heap.push { cls := .type "set", dict := none, data := .set #[] 0 (.fresh 0 0 led) }).push { cls := .type "list_iterator", data := .fields #[.ref l, .int 0 0] }).get? s.heap.objs.size = some { cls := .type "set", dict := none, data := .set #[] 0 (.fresh 0 0 led) } := Heap.get?_push_of_some _ g0
          exact SetOf_congr ((setObjOf_fresh (knd := strKind pr wd) led).setOf g1 (by unfold scanBound; omega)) (fun _ => rfl) rfl
        case hE =>
          intro s3 mv so
          obtain ⟨hp3, gn3, dr3, tk3, os3⟩ := s3
          obtain rfl : gn3 = s.gens := mv.gens
          obtain rfl : dr3 = s.drawn := mv.drawn
          obtain rfl : os3 = s.os := mv.os
          refine wpAny_pure (wpAny_pure ⟨rfl, hp3, tk3, rfl, so, fun b o lb e => mv.heap b o ?_ (Heap.get?_push_of_some _ (Heap.get?_push_of_some _ e))⟩)
          rw [Heap.size_push]
          simp only [List.mem_cons, List.not_mem_nil, or_false, not_or]
          exact ⟨Nat.ne_of_lt lb, Nat.ne_of_lt (Nat.lt_of_lt_of_le lb (Nat.le_succ _))⟩
      · cases r2 with
        | error e => exact hr2
        | ok fl2 =>
          cases fl2 with
          | ret r =>
            obtain ⟨rfl, h2, tk, rfl, so, kp⟩ := hr2
            repeat (any_goals (first | assumption | wp_step))
            exact h _ _ so kp
          | _ => exact hr2.elim
    | _ => exact hr.elim
end
end XL
set_option maxRecDepth 100000
set_option maxHeartbeats 4000000
namespace L2
open PySem PySem.Spec PyProof.Rows XL
theorem firsts_is (xs : List Str) : firsts (fun i => xs.getD i (Str.ofString "")) xs.length = xs.foldl oneEach [] := by
  unfold firsts
  congr 1
  refine List.ext_getElem (by simp) fun i h1 h2 => ?_
  simp [List.getElem?_eq_getElem h2]
theorem oneEach_nd : ∀ (xs acc : List Str), (xs.foldl oneEach acc).length = acc.length + xs.length ↔ (∀ x ∈ xs, x ∉ acc) ∧ xs.Nodup
  | [], acc => by simp
  | x :: r, acc => by
    have le : ∀ (xs acc : List Str), (xs.foldl oneEach acc).length ≤ acc.length + xs.length := by
      intro xs
      induction xs with
      | nil => intro acc; exact Nat.le_refl _
      | cons x r ih =>
        intro acc
        refine Nat.le_trans (ih _) ?_
        rw [oneEach_len, List.length_cons]
        split <;> omega
    show ((r.foldl oneEach (oneEach acc x)).length = _) ↔ _
    rw [List.length_cons, List.nodup_cons]
    by_cases h : acc.any (· == x) = true
    · have hx : x ∈ acc := by
        obtain ⟨y, hy, e⟩ := List.any_eq_true.mp h
        rw [← eq_of_beq e]
        exact hy
      have e : oneEach acc x = acc := if_pos h
      rw [e]
      constructor
      · intro z
        have := le r acc
        omega
      · intro z
        exact absurd hx (z.1 x (List.mem_cons_self ..))
    · have hx : x ∉ acc := fun z => h (List.any_eq_true.mpr ⟨x, z, beq_self_eq_true x⟩)
      have e : oneEach acc x = acc ++ [x] := if_neg h
      rw [e]
      have ih := oneEach_nd r (acc ++ [x])
      rw [List.length_append, List.length_singleton] at ih
      rw [show acc.length + (r.length + 1) = acc.length + 1 + r.length by omega, ih]
      constructor
      · rintro ⟨h1, h2⟩
        refine ⟨fun y hy => ?_, fun z => h1 x z (List.mem_append_right _ (List.mem_singleton.mpr rfl)), h2⟩
        rcases List.mem_cons.mp hy with rfl | hy
        · exact hx
        · exact fun z => h1 y hy (List.mem_append_left _ z)
      · rintro ⟨h1, h2, h3⟩
        refine ⟨fun y hy z => ?_, h3⟩
        rcases List.mem_append.mp z with z | z
        · exact h1 y (List.mem_cons_of_mem _ hy) z
        · rw [List.mem_singleton.mp z] at hy
          exact h2 hy
def unlike (xs : List Str) : Nat := (xs.foldl oneEach []).length
theorem unlike_nd {xs : List Str} (h : xs.Nodup) : unlike xs = xs.length := by
  have := (oneEach_nd xs []).mpr ⟨fun _ _ z => (nomatch z), h⟩
  unfold unlike
  simpa using this
def tLenSet (K : PySem.W.Frag) (ta : TA) : TE := fun σ H Q => ta σ H fun vs H1 => ∃ a xs, vs = [.ref a] ∧ SqL K H1 a (xs.map V.str) ∧ xs.length ≤ 1000 ∧ Q (.int (unlike xs : Int)) H1
section
variable {X : Cx}
theorem pe_lenSet {a : Expr} {ta : TA} {p p2 pos pos2 : Pos} (hc : X.calm = true) (hg : Gl X "len") (hm : X.mg "len" = none) (hg2 : Gl X "set") (hm2 : X.mg "set" = none) (ha : PA X [a] ta)
    (hs : starEach [a] X.env = [(false, eval a X.env)] := by rfl) (hs3 : starEach [.Call (.Name "set" p2) [a] [] pos2] X.env = [(false, eval (.Call (.Name "set" p2) [a] [] pos2) X.env)] := by rfl) :
    PE X (.Call (.Name "len" p) [.Call (.Name "set" p2) [a] [] pos2] [] pos) (tLenSet X.K ta) := by
  intro pins s σ H Q I h
  refine wpAny_Call_Name_kw (ld_blt I hg hm PyProof.Rows.Boot.«len» ?_)
  refine PyProof.Rows.callWith_builtin1 ?_ (by rw [hs3]; rfl) rfl
  rw [hs3]
  show wpAny _ _ (spliced ((false, eval (.Call (.Name "set" p2) [a] [] pos2) X.env) :: backTo pos [])) _ _ s
  refine Calls.spliced_cons ?_
  refine Call_ (ld_blt I hg2 hm2 PyProof.Rows.Boot.«set» (PyProof.Rows.callWith_type1 (thn (ha pos2 pins s σ H _ I h) fun us s1 ⟨vs, H1, I1, r1, q1⟩ => ?_) hs rfl))
  obtain ⟨l, xs, e, hq, hx, q⟩ := q1
  subst e
  obtain ⟨u, rfl, ru⟩ := vals1 r1
  obtain rfl : u = Value.ref l := ru
  obtain ⟨its, rv, pl, hz⟩ := I1.list hq
  have hlen := rv.length
  rw [List.length_map] at hlen
  have sz : its.toArray.size = xs.length := by rw [List.size_toArray, hlen]
  refine call_set_texts (I.ok.hd hc) pl.isList (val := fun i => xs.getD i (Str.ofString "")) (fun i v e => ?_) (by rw [sz]; unfold scanBound; omega) fun h2 tk so kp => ?_
  · have e' : its[i]? = some v := by simpa using e
    have lt : i < xs.length := by
      have := (List.getElem?_eq_some_iff.mp e').1
      omega
    obtain ⟨v', hv', rv'⟩ := rv.get (i := i) (x := V.str xs[i]) (by rw [List.getElem?_map, List.getElem?_eq_getElem lt]; rfl)
    rw [e'] at hv'
    cases hv'
    obtain ⟨t, rfl⟩ := rv'
    exact ⟨t, by simp [List.getElem?_eq_getElem lt]⟩
  refine Calls.spliced_nil ?_
  rw [sz, firsts_is] at so
  have I2 : Inv X pins σ H1 { s1 with heap := h2, toks := tk } := I1.kept (t' := tk) fun b o e => kp b o (Heap.lt_size e) e
  obtain ⟨o, es, ep, tb, ho, ex, hd, _, _, sb, ft, en⟩ := so
  refine call_len_set ho ex hd ft ?_ ⟨.int (unlike xs : Int), H1, I2.tok _, ⟨tk + 1, by rw [en]; rfl⟩, q⟩
  unfold scanBound at sb
  omega
end
end L2
set_option maxRecDepth 100000
set_option maxHeartbeats 4000000
namespace L2
open PySem PySem.Spec PyProof.Rows XL
end L2
namespace Geo
def dn (y r : Int) : Int := if y < r then 1 else -1
def upN (y r : Int) : Nat := if y < r then (r - y).toNat else (y - r).toNat
def wayI (b : Bool) : Int := if b then -1 else 1
def lvN (w x : Int) (b : Bool) : Nat := if b then (x + 1).toNat else (w + 2 - x).toNat
def upL (x y r : Int) : List (Int × Int) := (List.range (upN y r)).map fun (i : Nat) => (x, y + (i : Int) * dn y r)
def lvL (w x : Int) (b : Bool) (r : Int) : List (Int × Int) := (List.range (lvN w x b)).map fun (i : Nat) => (x + (i : Int) * wayI b, r)
def cells (w x y : Int) (b : Bool) (r : Int) : List (Int × Int) := upL x y r ++ lvL w x b r
def btw (v a b : Int) : Prop := min a b ≤ v ∧ v ≤ max a b
instance (v a b : Int) : Decidable (btw v a b) := inferInstanceAs (Decidable (_ ∧ _))
end Geo
namespace Drw
variable {S : Type}
abbrev Cl := Int × Int
def at_ (c : Cl) (L : List (Cl × S)) : List S := (L.filter fun x => decide (x.1 = c)).map (·.2)
def no : Cl → Option S := fun _ => none
def ls (sp sb sm : S) (x r : Int) (c : Cl) : S := if c = (x, r) then sp else if c.1 = x then sb else sm
theorem nd_map {α β : Type} {f : α → β} (inj : ∀ a b, f a = f b → a = b) {l : List α} (h : l.Nodup) : (l.map f).Nodup := by
  rw [List.Nodup, List.pairwise_map]
  exact h.imp fun ne e => ne (inj _ _ e)
end Drw
namespace Kp
def pc (n : Nat) : Nat := if h : n = 0 then 0 else n % 2 + pc (n / 2)
termination_by n
decreasing_by omega
theorem pc_0 : pc 0 = 0 := by unfold pc; simp
theorem pc_step (n : Nat) : pc n = n % 2 + pc (n / 2) := by
  by_cases h : n = 0
  · subst h
    rw [pc_0]
  · rw [pc]
    simp [h]
theorem pc_pred : ∀ n : Nat, 0 < n → pc (n &&& (n - 1)) + 1 = pc n := by
  intro n
  induction n using Nat.strongRecOn with
  | ind n ih =>
    intro h
    rw [pc_step (n &&& (n - 1)), pc_step n, Nat.and_div_two]
    have par : (n &&& (n - 1)) % 2 = 0 := by
      have e := Nat.and_mod_two_pow (a := n) (b := n - 1) (n := 1)
      rw [Nat.pow_one] at e
      rw [e]
      have : n % 2 = 0 ∨ n % 2 = 1 := by omega
      rcases this with z | z
      · rw [z, Nat.zero_and]
      · rw [show (n - 1) % 2 = 0 by omega, Nat.and_zero]
    rw [par]
    have : n % 2 = 0 ∨ n % 2 = 1 := by omega
    rcases this with z | z
    · rw [show (n - 1) / 2 = n / 2 - 1 by omega]
      have := ih (n / 2) (by omega) (by omega)
      omega
    · rw [show (n - 1) / 2 = n / 2 by omega, Nat.and_self]
      omega
theorem pc_count : ∀ (k m : Nat), (∀ i, k ≤ i → m.testBit i = false) → pc m = (List.range k).countP fun i => m.testBit i
  | 0, m, h => by
    have : m = 0 := Nat.eq_of_testBit_eq fun i => by rw [h i (Nat.zero_le _), Nat.zero_testBit]
    rw [this, pc_0]
    rfl
  | k + 1, m, h => by
    rw [pc_step, pc_count k (m / 2) (fun i hi => by rw [← Nat.testBit_succ]; exact h (i + 1) (by omega)), List.range_succ_eq_map, List.countP_cons, List.countP_map]
    have e : (List.countP ((fun i => m.testBit i) ∘ Nat.succ) (List.range k)) = List.countP (fun i => (m / 2).testBit i) (List.range k) := by
      congr 1
      funext i
      exact Nat.testBit_succ m i
    rw [e, Nat.testBit_zero]
    have : m % 2 = 0 ∨ m % 2 = 1 := by omega
    rcases this with z | z <;> simp [z] <;> omega
def Msk {α : Type} (m : Nat) (l : List α) (f : α → Bool) : Prop := ∀ i, m.testBit i = ((l[i]?).map f).getD false
theorem Msk.pc {α : Type} {m : Nat} {l : List α} {f : α → Bool} (h : Msk m l f) : pc m = l.countP f := by
  rw [pc_count l.length m (fun i hi => by rw [h i, List.getElem?_eq_none hi]; rfl)]
  have e : (fun i => m.testBit i) = fun i => ((l[i]?).map f).getD false := by
    funext i
    exact h i
  rw [e]
  clear e h
  induction l with
  | nil => rfl
  | cons a l ih =>
    rw [List.length_cons, List.range_succ_eq_map, List.countP_cons, List.countP_map, List.countP_cons, ← ih]
    rfl
theorem Msk.zero {α : Type} {l : List α} {f : α → Bool} (h : ∀ a ∈ l, f a = false) : Msk 0 l f := fun i => by
  rw [Nat.zero_testBit]
  cases e : l[i]? with
  | none => rfl
  | some a => exact (h a (List.mem_of_getElem? e)).symm
theorem Msk.congr {α : Type} {m : Nat} {l : List α} {f g : α → Bool} (h : Msk m l f) (e : ∀ a ∈ l, f a = g a) : Msk m l g := fun i => by
  rw [h i]
  cases z : l[i]? with
  | none => rfl
  | some a => exact e a (List.mem_of_getElem? z)
theorem msk_bit (m k i : Nat) : (m ||| 2 ^ k).testBit i = (m.testBit i || decide (i = k)) := by
  rw [Nat.testBit_or, Nat.testBit_two_pow]
  congr 1
  by_cases h : k = i
  · simp [h]
  · have h' : ¬ i = k := fun z => h z.symm
    simp [h, h']
def subs {α : Type} : List α → List (List α)
  | [] => [[]]
  | a :: l => subs l ++ (subs l).map (a :: ·)
theorem subs_mem {α : Type} : ∀ {l S : List α}, S ∈ subs l → (∀ a ∈ S, a ∈ l) ∧ S.length ≤ l.length
  | [], S, h => by
    rw [List.mem_singleton.mp h]
    exact ⟨fun _ z => (nomatch z), Nat.le_refl _⟩
  | b :: l, S, h => by
    rcases List.mem_append.mp h with h | h
    · have := subs_mem h
      exact ⟨fun a ha => List.mem_cons_of_mem _ (this.1 a ha), Nat.le_succ_of_le this.2⟩
    · obtain ⟨S', hS, rfl⟩ := List.mem_map.mp h
      have := subs_mem hS
      refine ⟨fun a ha => ?_, Nat.succ_le_succ this.2⟩
      rcases List.mem_cons.mp ha with rfl | ha
      · exact List.mem_cons_self ..
      · exact List.mem_cons_of_mem _ (this.1 a ha)
theorem subs_nd {α : Type} : ∀ {l S : List α}, l.Nodup → S ∈ subs l → S.Nodup
  | [], S, _, h => by
    rw [List.mem_singleton.mp h]
    exact List.nodup_nil
  | b :: l, S, nd, h => by
    rw [List.nodup_cons] at nd
    rcases List.mem_append.mp h with h | h
    · exact subs_nd nd.2 h
    · obtain ⟨S', hS, rfl⟩ := List.mem_map.mp h
      exact List.nodup_cons.mpr ⟨fun z => nd.1 ((subs_mem hS).1 _ z), subs_nd nd.2 hS⟩
theorem subs_all {α : Type} [DecidableEq α] : ∀ {l : List α} {T : List α}, T.Nodup → (∀ a ∈ T, a ∈ l) → ∃ S ∈ subs l, S.Perm T
  | [], T, _, h => by
    cases T with
    | nil => exact ⟨[], List.mem_singleton.mpr rfl, List.Perm.refl _⟩
    | cons a T => exact nomatch h a (List.mem_cons_self ..)
  | b :: l, T, nd, h => by
    by_cases hb : b ∈ T
    · have p := List.perm_cons_erase hb
      have nd' : (b :: T.erase b).Nodup := p.nodup_iff.mp nd
      rw [List.nodup_cons] at nd'
      obtain ⟨S, hS, pS⟩ := subs_all (l := l) (T := T.erase b) nd'.2 (fun a ha => by
        rcases List.mem_cons.mp (h a (List.mem_of_mem_erase ha)) with rfl | z
        · exact absurd ha nd'.1
        · exact z)
      exact ⟨b :: S, List.mem_append_right _ (List.mem_map.mpr ⟨S, hS, rfl⟩), (pS.cons b).trans p.symm⟩
    · obtain ⟨S, hS, pS⟩ := subs_all (l := l) (T := T) nd (fun a ha => by
        rcases List.mem_cons.mp (h a ha) with rfl | z
        · exact absurd ha hb
        · exact z)
      exact ⟨S, List.mem_append_left _ hS, pS⟩
section
variable {N S : Type} [DecidableEq N] [DecidableEq S]
structure Mt (room : N → List S) (so : N → Option S) (ho : S → Option N) : Prop where
  iff : ∀ n s, so n = some s ↔ ho s = some n
  rm : ∀ n s, so n = some s → s ∈ room n
theorem Mt.inj {room : N → List S} {so : N → Option S} {ho : S → Option N} (m : Mt room so ho) {a b : N} {s : S} (ha : so a = some s) (hb : so b = some s) : a = b := by
  have x := (m.iff a s).mp ha
  rw [(m.iff b s).mp hb] at x
  exact (Option.some.inj x).symm
theorem filterMap_nd {so : N → Option S} : ∀ {T : List N}, T.Nodup → (∀ a ∈ T, ∀ b ∈ T, ∀ s, so a = some s → so b = some s → a = b) → (T.filterMap so).Nodup
  | [], _, _ => List.nodup_nil
  | a :: T, nd, inj => by
    rw [List.nodup_cons] at nd
    have ih := filterMap_nd nd.2 fun x hx y hy => inj x (List.mem_cons_of_mem _ hx) y (List.mem_cons_of_mem _ hy)
    rw [List.filterMap_cons]
    cases e : so a with
    | none => exact ih
    | some s =>
      refine List.nodup_cons.mpr ⟨fun z => ?_, ih⟩
      obtain ⟨b, hb, eb⟩ := List.mem_filterMap.mp z
      rw [inj a (List.mem_cons_self ..) b (List.mem_cons_of_mem _ hb) s e eb] at nd
      exact nd.1 hb
theorem filterMap_len {so : N → Option S} : ∀ {T : List N}, (∀ a ∈ T, (so a).isSome) → (T.filterMap so).length = T.length
  | [], _ => rfl
  | a :: T, h => by
    rw [List.filterMap_cons]
    cases e : so a with
    | none =>
      have := h a (List.mem_cons_self ..)
      rw [e] at this
      cases this
    | some s =>
      show (s :: T.filterMap so).length = _
      rw [List.length_cons, List.length_cons, filterMap_len fun b hb => h b (List.mem_cons_of_mem _ hb)]
def tog (room : N → List S) (T : List N) (s : S) : Bool := T.any fun n => decide (s ∈ room n)
theorem hall {room : N → List S} {so : N → Option S} {ho : S → Option N} (m : Mt room so ho) {ss : List S} (hr : ∀ n s, s ∈ room n → s ∈ ss) {T : List N} (nd : T.Nodup) (h : ∀ a ∈ T, (so a).isSome) : T.length ≤ ss.countP (tog room T) := by
  rw [List.countP_eq_length_filter, ← filterMap_len h]
  refine List.Nodup.length_le_of_subset (filterMap_nd nd fun a _ b _ s ha hb => m.inj ha hb) fun s hs => ?_
  obtain ⟨n, hn, e⟩ := List.mem_filterMap.mp hs
  have r := m.rm n s e
  exact List.mem_filter.mpr ⟨hr n s r, List.any_eq_true.mpr ⟨n, hn, decide_eq_true r⟩⟩
structure Crowd (room : N → List S) (so : N → Option S) (name : N) (hs : List N) : Prop where
  nd : (name :: hs).Nodup
  has : ∀ h ∈ hs, (so h).isSome
  all : ∀ c ∈ name :: hs, ∀ s ∈ room c, ∃ h ∈ hs, so h = some s
theorem Crowd.count {room : N → List S} {so : N → Option S} {ho : S → Option N} (m : Mt room so ho) {name : N} {hs : List N} (c : Crowd room so name hs) {ss : List S} (nd : ss.Nodup) (hr : ∀ n s, s ∈ room n → s ∈ ss) : ss.countP (tog room (name :: hs)) = hs.length := by
  rw [List.countP_eq_length_filter]
  have ndh := (List.nodup_cons.mp c.nd).2
  refine Nat.le_antisymm ?_ ?_
  · rw [← filterMap_len c.has]
    refine List.Nodup.length_le_of_subset (List.Pairwise.filter _ nd) fun s hs' => ?_
    obtain ⟨n, hn, e⟩ := List.any_eq_true.mp (List.mem_filter.mp hs').2
    obtain ⟨h, hh, e'⟩ := c.all n hn s (of_decide_eq_true e)
    exact List.mem_filterMap.mpr ⟨h, hh, e'⟩
  · rw [← filterMap_len c.has]
    refine List.Nodup.length_le_of_subset (filterMap_nd ndh fun a _ b _ s ha hb => m.inj ha hb) fun s hs' => ?_
    obtain ⟨n, hn, e⟩ := List.mem_filterMap.mp hs'
    have r := m.rm n s e
    exact List.mem_filter.mpr ⟨hr n s r, List.any_eq_true.mpr ⟨n, List.mem_cons_of_mem _ hn, decide_eq_true r⟩⟩
theorem tog_perm {room : N → List S} {T T' : List N} (p : T.Perm T') (s : S) : tog room T s = tog room T' s := by
  unfold tog
  rw [Bool.eq_iff_iff, List.any_eq_true, List.any_eq_true]
  constructor
  · rintro ⟨n, h, e⟩
    exact ⟨n, p.mem_iff.mp h, e⟩
  · rintro ⟨n, h, e⟩
    exact ⟨n, p.mem_iff.mpr h, e⟩
def upd1 {α β : Type} [DecidableEq α] (f : α → Option β) (a : α) (b : β) : α → Option β := fun z => if z = a then some b else f z
structure Hand (room : N → List S) (dom : N → Bool) (so : N → Option S) (ho : S → Option N) (wait : S) : Prop where
  iff : ∀ n s, s ≠ wait → (so n = some s ↔ ho s = some n)
  rm : ∀ n s, so n = some s → s ∈ room n
  no : ∀ n, so n ≠ some wait
  dm : ∀ n, (so n).isSome = dom n
theorem Mt.hand {room : N → List S} {so : N → Option S} {ho : S → Option N} (m : Mt room so ho) {s : S} (h : ho s = none) : Hand room (fun n => (so n).isSome) so ho s :=
  ⟨fun n s _ => m.iff n s, m.rm, fun n e => (by rw [(m.iff n s).mp e] at h; cases h), fun _ => rfl⟩
theorem Hand.step {room : N → List S} {dom : N → Bool} {so : N → Option S} {ho : S → Option N} {s s1 : S} {a : N} (g : Hand room dom so ho s) (ra : s ∈ room a) (e : so a = some s1) : Hand room dom (upd1 so a s) (upd1 ho s a) s1 := by
  have ne : s1 ≠ s := fun z => g.no a (z ▸ e)
  refine ⟨fun n x hx => ?_, fun n x hx => ?_, fun n hx => ?_, fun n => ?_⟩
  · unfold upd1
    by_cases h1 : n = a
    · subst h1
      rw [if_pos rfl]
      by_cases h2 : x = s
      · rw [if_pos h2, h2]
        simp
      · rw [if_neg h2]
        constructor
        · intro z
          exact absurd (Option.some.inj z).symm h2
        · intro z
          have := (g.iff n x h2).mpr z
          rw [e] at this
          exact absurd (Option.some.inj this).symm hx
    · rw [if_neg h1]
      by_cases h2 : x = s
      · subst h2
        rw [if_pos rfl]
        constructor
        · intro z
          exact absurd z (g.no n)
        · intro z
          exact absurd (Option.some.inj z).symm h1
      · rw [if_neg h2]
        exact g.iff n x h2
  · unfold upd1 at hx
    split at hx
    · rename_i h1
      rw [h1, ← Option.some.inj hx]
      exact ra
    · exact g.rm n x hx
  · unfold upd1 at hx
    split at hx
    · exact ne (Option.some.inj hx).symm
    · rename_i h1
      have x1 := (g.iff n s1 ne).mp hx
      rw [(g.iff a s1 ne).mp e] at x1
      exact h1 (Option.some.inj x1).symm
  · unfold upd1
    split
    · rename_i h1
      rw [h1, ← g.dm a, e]
      rfl
    · exact g.dm n
theorem Hand.last {room : N → List S} {dom : N → Bool} {so : N → Option S} {ho : S → Option N} {s : S} {a : N} (g : Hand room dom so ho s) (ra : s ∈ room a) (e : so a = none) : Mt room (upd1 so a s) (upd1 ho s a) ∧ ∀ n, (upd1 so a s n).isSome = (decide (n = a) || dom n) := by
  refine ⟨⟨fun n x => ?_, fun n x hx => ?_⟩, fun n => ?_⟩
  · unfold upd1
    by_cases h1 : n = a
    · subst h1
      rw [if_pos rfl]
      by_cases h2 : x = s
      · rw [if_pos h2, h2]
        simp
      · rw [if_neg h2]
        constructor
        · intro z
          exact absurd (Option.some.inj z).symm h2
        · intro z
          have := (g.iff n x h2).mpr z
          rw [e] at this
          cases this
    · rw [if_neg h1]
      by_cases h2 : x = s
      · subst h2
        rw [if_pos rfl]
        constructor
        · intro z
          exact absurd z (g.no n)
        · intro z
          exact absurd (Option.some.inj z).symm h1
      · rw [if_neg h2]
        exact g.iff n x h2
  · unfold upd1 at hx
    split at hx
    · rename_i h1
      rw [h1, ← Option.some.inj hx]
      exact ra
    · exact g.rm n x hx
  · unfold upd1
    split
    · rename_i h1
      simp [h1]
    · rename_i h1
      rw [← g.dm n]
      simp [h1]
end
end Kp
namespace Kp
inductive Rch {α : Type} (f : α → Option α) : α → α → Prop
  | refl (a : α) : Rch f a a
  | step {a b c : α} : Rch f a b → f b = some c → Rch f a c
theorem Rch.trans {α : Type} {f : α → Option α} {a b c : α} (h : Rch f a b) (g : Rch f b c) : Rch f a c := by
  induction g with
  | refl => exact h
  | step _ e ih => exact .step ih e
theorem Rch.head {α : Type} {f : α → Option α} {a b : α} (h : Rch f a b) : a = b ∨ ∃ d, f a = some d ∧ Rch f d b := by
  induction h with
  | refl => exact .inl rfl
  | step g e ih =>
    rcases ih with rfl | ⟨d, e1, g1⟩
    · exact .inr ⟨_, e, .refl _⟩
    · exact .inr ⟨d, e1, .step g1 e⟩
theorem Rch.lin {α : Type} {f : α → Option α} {a b c : α} (h : Rch f a b) (g : Rch f a c) : Rch f b c ∨ Rch f c b := by
  induction h with
  | refl => exact .inl g
  | step h e ih =>
    rcases ih with z | z
    · rcases z.head with rfl | ⟨d, e1, g1⟩
      · exact .inr (.step (.refl _) e)
      · rw [e] at e1
        cases e1
        exact .inl g1
    · exact .inr (.step z e)
theorem Rch.det {α : Type} {f : α → Option α} {a b c : α} (h : Rch f a b) (n1 : f b = none) (g : Rch f a c) (n2 : f c = none) : b = c := by
  rcases h.lin g with z | z
  · rcases z.head with e | ⟨d, e1, _⟩
    · exact e
    · rw [n1] at e1
      cases e1
  · rcases z.head with e | ⟨d, e1, _⟩
    · exact e.symm
    · rw [n2] at e1
      cases e1
inductive KS (N S : Type) where
  | ask (crowd : List N) (asked : S → Option N) (i j : Nat)
  | hand (so : N → Option S) (ho : S → Option N) (asked : S → Option N) (s : S)
  | out (crowd : List N)
  | fin (so : N → Option S) (ho : S → Option N)
section
variable {N S : Type} [DecidableEq N] [DecidableEq S]
def kstep (room : N → List S) (so : N → Option S) (ho : S → Option N) : KS N S → Option (KS N S)
  | .ask crowd asked i j => match crowd[i]? with
    | none => some (.out crowd)
    | some a => match (room a)[j]? with
      | none => some (.ask crowd asked (i + 1) 0)
      | some s => match asked s with
        | some _ => some (.ask crowd asked i (j + 1))
        | none => match ho s with
          | none => some (.hand so ho (upd1 asked s a) s)
          | some h => some (.ask (crowd ++ [h]) (upd1 asked s a) i (j + 1))
  | .hand so1 ho1 asked s => match asked s with
    | none => none
    | some a => match so1 a with
      | none => some (.fin (upd1 so1 a s) (upd1 ho1 s a))
      | some l => some (.hand (upd1 so1 a s) (upd1 ho1 s a) asked l)
  | .out _ => none
  | .fin _ _ => none
variable {room : N → List S} {so so1 : N → Option S} {ho ho1 asked : S → Option N} {crowd : List N} {i j : Nat} {a h : N} {s l : S}
theorem k_end (e : crowd[i]? = none) : kstep room so ho (.ask crowd asked i j) = some (.out crowd) := by
  simp only [kstep, e]
theorem k_next (e : crowd[i]? = some a) (e2 : (room a)[j]? = none) : kstep room so ho (.ask crowd asked i j) = some (.ask crowd asked (i + 1) 0) := by
  simp only [kstep, e, e2]
theorem k_old (e : crowd[i]? = some a) (e2 : (room a)[j]? = some s) (e3 : asked s = some h) : kstep room so ho (.ask crowd asked i j) = some (.ask crowd asked i (j + 1)) := by
  simp only [kstep, e, e2, e3]
theorem k_free (e : crowd[i]? = some a) (e2 : (room a)[j]? = some s) (e3 : asked s = none) (e4 : ho s = none) : kstep room so ho (.ask crowd asked i j) = some (.hand so ho (upd1 asked s a) s) := by
  simp only [kstep, e, e2, e3, e4]
theorem k_grow (e : crowd[i]? = some a) (e2 : (room a)[j]? = some s) (e3 : asked s = none) (e4 : ho s = some h) : kstep room so ho (.ask crowd asked i j) = some (.ask (crowd ++ [h]) (upd1 asked s a) i (j + 1)) := by
  simp only [kstep, e, e2, e3, e4]
theorem k_hand (e : asked s = some a) (e2 : so1 a = some l) : kstep room so ho (.hand so1 ho1 asked s) = some (.hand (upd1 so1 a s) (upd1 ho1 s a) asked l) := by
  simp only [kstep, e, e2]
theorem k_fin (e : asked s = some a) (e2 : so1 a = none) : kstep room so ho (.hand so1 ho1 asked s) = some (.fin (upd1 so1 a s) (upd1 ho1 s a)) := by
  simp only [kstep, e, e2]
end
end Kp
set_option maxRecDepth 100000
set_option maxHeartbeats 4000000
namespace S34
open PySem L2 XL
def top (i : Nat) : Stmt := PySem.Challenge.pw_rimnotes_k34_whole_no_more_have_seats.main.body.getD i (.Pass ⟨0, 0, 0, 0⟩)
abbrev s_Seating_init : Stmt := inClass (top 2) 0
abbrev s_Seating_hand_on : Stmt := inClass (top 2) 1
abbrev s_Seating_crowd_with : Stmt := inClass (top 2) 2
abbrev s_crowds : Stmt := top 3
abbrev s_fits : Stmt := top 4
abbrev s_left_out : Stmt := top 5
abbrev s_kept : Stmt := top 6
abbrev s_Side_init : Stmt := inClass (top 23) 0
abbrev s_side_of : Stmt := top 26
abbrev s_is_whole : Stmt := top 28
abbrev s_is_name : Stmt := top 29
abbrev s_Picture_init : Stmt := inClass (top 35) 0
abbrev s_Picture_put : Stmt := inClass (top 35) 1
abbrev s_Picture_open_seat : Stmt := inClass (top 35) 4
abbrev s_Picture_points : Stmt := inClass (top 35) 6
abbrev s_Picture_seats : Stmt := inClass (top 35) 7
abbrev s_Picture_may : Stmt := inClass (top 35) 9
abbrev s_Picture_seats_for : Stmt := inClass (top 35) 11
abbrev s_Picture_check_name : Stmt := inClass (top 35) 15
abbrev s_Picture_check_cell : Stmt := inClass (top 35) 16
abbrev s_Picture_check_lines : Stmt := inClass (top 35) 17
abbrev s_Picture_check_seat : Stmt := inClass (top 35) 18
abbrev s_law_cell_at : Stmt := top 37
abbrev s_law_mix : Stmt := top 38
abbrev s_law_frame : Stmt := top 39
abbrev s_law_seats : Stmt := top 40
abbrev s_law_numbers : Stmt := top 41
abbrev s_law_point : Stmt := top 42
abbrev s_law_points : Stmt := top 43
abbrev s_law_put : Stmt := top 44
abbrev s_law_picture : Stmt := top 45
abbrev s_law_may : Stmt := top 46
abbrev s_law_room : Stmt := top 47
abbrev s_law_many : Stmt := top 48
abbrev s_law_names : Stmt := top 49
abbrev s_law_crowd : Stmt := top 50
abbrev s_law_drawn_names : Stmt := top 51
abbrev s_law_full : Stmt := top 52
abbrev s_law_right : Stmt := top 53
abbrev s_law : Stmt := top 54
set_option genInjectivity false in
set_option genSizeOf false in
structure Adr where
  f_Seating_init : Addr
  d_Seating_init : FuncData
  f_Seating_hand_on : Addr
  d_Seating_hand_on : FuncData
  f_Seating_crowd_with : Addr
  d_Seating_crowd_with : FuncData
  f_crowds : Addr
  d_crowds : FuncData
  f_fits : Addr
  d_fits : FuncData
  f_left_out : Addr
  d_left_out : FuncData
  f_kept : Addr
  d_kept : FuncData
  f_Side_init : Addr
  d_Side_init : FuncData
  f_side_of : Addr
  d_side_of : FuncData
  f_is_whole : Addr
  d_is_whole : FuncData
  f_is_name : Addr
  d_is_name : FuncData
  f_Picture_init : Addr
  d_Picture_init : FuncData
  f_Picture_put : Addr
  d_Picture_put : FuncData
  T_Picture_put : Addr
  f_Picture_open_seat : Addr
  d_Picture_open_seat : FuncData
  f_Picture_points : Addr
  d_Picture_points : FuncData
  f_Picture_seats : Addr
  d_Picture_seats : FuncData
  f_Picture_may : Addr
  d_Picture_may : FuncData
  f_Picture_seats_for : Addr
  d_Picture_seats_for : FuncData
  f_Picture_check_name : Addr
  d_Picture_check_name : FuncData
  f_Picture_check_cell : Addr
  d_Picture_check_cell : FuncData
  f_Picture_check_lines : Addr
  d_Picture_check_lines : FuncData
  f_Picture_check_seat : Addr
  d_Picture_check_seat : FuncData
  f_law_cell_at : Addr
  d_law_cell_at : FuncData
  f_law_mix : Addr
  d_law_mix : FuncData
  f_law_frame : Addr
  d_law_frame : FuncData
  f_law_seats : Addr
  d_law_seats : FuncData
  f_law_numbers : Addr
  d_law_numbers : FuncData
  f_law_point : Addr
  d_law_point : FuncData
  f_law_points : Addr
  d_law_points : FuncData
  f_law_put : Addr
  d_law_put : FuncData
  f_law_picture : Addr
  d_law_picture : FuncData
  f_law_may : Addr
  d_law_may : FuncData
  f_law_room : Addr
  d_law_room : FuncData
  f_law_many : Addr
  d_law_many : FuncData
  f_law_names : Addr
  d_law_names : FuncData
  f_law_crowd : Addr
  d_law_crowd : FuncData
  f_law_drawn_names : Addr
  d_law_drawn_names : FuncData
  f_law_full : Addr
  d_law_full : FuncData
  f_law_right : Addr
  d_law_right : FuncData
  f_law : Addr
  d_law : FuncData
  C_Seating : Addr
  C_Side : Addr
  C_LeftSide : Addr
  C_RightSide : Addr
  C_Picture : Addr
  D_MIRRORED_SIDES : Addr
structure Txt (w : World) (K : PySem.W.Frag) (mg : Str → Option Value) (t : Adr) : Prop where
  g_Seating : mg "Seating" = some (.ref t.C_Seating)
  g_Side : mg "Side" = some (.ref t.C_Side)
  g_LeftSide : mg "LeftSide" = some (.ref t.C_LeftSide)
  g_RightSide : mg "RightSide" = some (.ref t.C_RightSide)
  g_Picture : mg "Picture" = some (.ref t.C_Picture)
  F_Seating_init : Fun K "__init__" "Seating.__init__" s_Seating_init t.f_Seating_init t.d_Seating_init
  b_Seating_init : Binds K t.d_Seating_init ["self"] []
  F_Seating_hand_on : Fun K "hand_on" "Seating.hand_on" s_Seating_hand_on t.f_Seating_hand_on t.d_Seating_hand_on
  b_Seating_hand_on : Binds K t.d_Seating_hand_on ["self", "asked_by", "free_seat"] []
  F_Seating_crowd_with : Fun K "crowd_with" "Seating.crowd_with" s_Seating_crowd_with t.f_Seating_crowd_with t.d_Seating_crowd_with
  b_Seating_crowd_with : Binds K t.d_Seating_crowd_with ["self", "name", "rooms"] []
  g_crowds : mg "crowds" = some (.ref t.f_crowds)
  F_crowds : Fun K "crowds" "crowds" s_crowds t.f_crowds t.d_crowds
  b_crowds : Binds K t.d_crowds ["picture", "names"] []
  g_fits : mg "fits" = some (.ref t.f_fits)
  F_fits : Fun K "fits" "fits" s_fits t.f_fits t.d_fits
  b_fits : Binds K t.d_fits ["picture", "names"] []
  g_left_out : mg "left_out" = some (.ref t.f_left_out)
  F_left_out : Fun K "left_out" "left_out" s_left_out t.f_left_out t.d_left_out
  b_left_out : Binds K t.d_left_out ["picture"] []
  g_kept : mg "kept" = some (.ref t.f_kept)
  F_kept : Fun K "kept" "kept" s_kept t.f_kept t.d_kept
  b_kept : Binds K t.d_kept ["picture"] []
  F_Side_init : Fun K "__init__" "Side.__init__" s_Side_init t.f_Side_init t.d_Side_init
  b_Side_init : Binds K t.d_Side_init ["self", "width"] []
  g_side_of : mg "side_of" = some (.ref t.f_side_of)
  F_side_of : Fun K "side_of" "side_of" s_side_of t.f_side_of t.d_side_of
  b_side_of : Binds K t.d_side_of ["word", "width"] []
  g_is_whole : mg "is_whole" = some (.ref t.f_is_whole)
  F_is_whole : Fun K "is_whole" "is_whole" s_is_whole t.f_is_whole t.d_is_whole
  b_is_whole : Binds K t.d_is_whole ["thing", "low", "high"] []
  g_is_name : mg "is_name" = some (.ref t.f_is_name)
  F_is_name : Fun K "is_name" "is_name" s_is_name t.f_is_name t.d_is_name
  b_is_name : Binds K t.d_is_name ["thing"] []
  F_Picture_init : Fun K "__init__" "Picture.__init__" s_Picture_init t.f_Picture_init t.d_Picture_init
  b_Picture_init : Binds K t.d_Picture_init ["self", "width", "height"] []
  F_Picture_put : FunD K "put" "Picture.put" s_Picture_put t.T_Picture_put t.f_Picture_put t.d_Picture_put
  b_Picture_put_4 : ∃ ds, Vals [.str "both", .int 1, .non] ds ∧ Binds K t.d_Picture_put ["self", "name", "x", "y", "sides", "low", "high"] ds
  b_Picture_put : Binds K t.d_Picture_put ["self", "name", "x", "y", "sides", "low", "high"] []
  F_Picture_open_seat : Fun K "open_seat" "Picture.open_seat" s_Picture_open_seat t.f_Picture_open_seat t.d_Picture_open_seat
  b_Picture_open_seat : Binds K t.d_Picture_open_seat ["self", "side", "row"] []
  F_Picture_points : Fun K "points" "Picture.points" s_Picture_points t.f_Picture_points t.d_Picture_points
  b_Picture_points : Binds K t.d_Picture_points ["self"] []
  F_Picture_seats : Fun K "seats" "Picture.seats" s_Picture_seats t.f_Picture_seats t.d_Picture_seats
  b_Picture_seats : Binds K t.d_Picture_seats ["self"] []
  F_Picture_may : Fun K "may" "Picture.may" s_Picture_may t.f_Picture_may t.d_Picture_may
  b_Picture_may : Binds K t.d_Picture_may ["self", "name", "side", "row"] []
  F_Picture_seats_for : Fun K "seats_for" "Picture.seats_for" s_Picture_seats_for t.f_Picture_seats_for t.d_Picture_seats_for
  b_Picture_seats_for : Binds K t.d_Picture_seats_for ["self", "name"] []
  F_Picture_check_name : Fun K "check_name" "Picture.check_name" s_Picture_check_name t.f_Picture_check_name t.d_Picture_check_name
  b_Picture_check_name : Binds K t.d_Picture_check_name ["self", "name"] []
  F_Picture_check_cell : Fun K "check_cell" "Picture.check_cell" s_Picture_check_cell t.f_Picture_check_cell t.d_Picture_check_cell
  b_Picture_check_cell : Binds K t.d_Picture_check_cell ["self", "x", "y"] []
  F_Picture_check_lines : Fun K "check_lines" "Picture.check_lines" s_Picture_check_lines t.f_Picture_check_lines t.d_Picture_check_lines
  b_Picture_check_lines : Binds K t.d_Picture_check_lines ["self", "name", "x", "y"] []
  F_Picture_check_seat : Fun K "check_seat" "Picture.check_seat" s_Picture_check_seat t.f_Picture_check_seat t.d_Picture_check_seat
  b_Picture_check_seat : Binds K t.d_Picture_check_seat ["self", "side", "row"] []
  g_law_cell_at : mg "_law_cell_at" = some (.ref t.f_law_cell_at)
  F_law_cell_at : Fun K "_law_cell_at" "_law_cell_at" s_law_cell_at t.f_law_cell_at t.d_law_cell_at
  b_law_cell_at : Binds K t.d_law_cell_at ["_law_script", "_law_k"] []
  g_law_mix : mg "_law_mix" = some (.ref t.f_law_mix)
  F_law_mix : Fun K "_law_mix" "_law_mix" s_law_mix t.f_law_mix t.d_law_mix
  b_law_mix : Binds K t.d_law_mix ["_law_cell", "_law_k"] []
  g_law_frame : mg "_law_frame" = some (.ref t.f_law_frame)
  F_law_frame : Fun K "_law_frame" "_law_frame" s_law_frame t.f_law_frame t.d_law_frame
  b_law_frame : Binds K t.d_law_frame ["_law_script"] []
  g_law_seats : mg "_law_seats" = some (.ref t.f_law_seats)
  F_law_seats : Fun K "_law_seats" "_law_seats" s_law_seats t.f_law_seats t.d_law_seats
  b_law_seats : Binds K t.d_law_seats ["_law_script", "_law_height"] []
  g_law_numbers : mg "_law_numbers" = some (.ref t.f_law_numbers)
  F_law_numbers : Fun K "_law_numbers" "_law_numbers" s_law_numbers t.f_law_numbers t.d_law_numbers
  b_law_numbers : Binds K t.d_law_numbers ["_law_cell", "_law_digits", "_law_bases"] []
  g_law_point : mg "_law_point" = some (.ref t.f_law_point)
  F_law_point : Fun K "_law_point" "_law_point" s_law_point t.f_law_point t.d_law_point
  b_law_point : Binds K t.d_law_point ["_law_numbers_here", "_law_name", "_law_x", "_law_y", "_law_height"] []
  g_law_points : mg "_law_points" = some (.ref t.f_law_points)
  F_law_points : Fun K "_law_points" "_law_points" s_law_points t.f_law_points t.d_law_points
  b_law_points : Binds K t.d_law_points ["_law_cells", "_law_digits", "_law_width", "_law_height"] []
  g_law_put : mg "_law_put" = some (.ref t.f_law_put)
  F_law_put : Fun K "_law_put" "_law_put" s_law_put t.f_law_put t.d_law_put
  b_law_put : Binds K t.d_law_put ["_law_picture_here", "_law_point_here"] []
  g_law_picture : mg "_law_picture" = some (.ref t.f_law_picture)
  F_law_picture : Fun K "_law_picture" "_law_picture" s_law_picture t.f_law_picture t.d_law_picture
  b_law_picture : Binds K t.d_law_picture ["_law_width", "_law_height", "_law_points_here", "_law_seats_here"] []
  g_law_may : mg "_law_may" = some (.ref t.f_law_may)
  F_law_may : Fun K "_law_may" "_law_may" s_law_may t.f_law_may t.d_law_may
  b_law_may : Binds K t.d_law_may ["_law_point_here", "_law_seat"] []
  g_law_room : mg "_law_room" = some (.ref t.f_law_room)
  F_law_room : Fun K "_law_room" "_law_room" s_law_room t.f_law_room t.d_law_room
  b_law_room : Binds K t.d_law_room ["_law_points_here", "_law_seats_here", "_law_names_here"] []
  g_law_many : mg "_law_many" = some (.ref t.f_law_many)
  F_law_many : Fun K "_law_many" "_law_many" s_law_many t.f_law_many t.d_law_many
  b_law_many : Binds K t.d_law_many ["_law_mask"] []
  g_law_names : mg "_law_names" = some (.ref t.f_law_names)
  F_law_names : Fun K "_law_names" "_law_names" s_law_names t.f_law_names t.d_law_names
  b_law_names : Binds K t.d_law_names ["_law_found", "_law_some"] []
  g_law_crowd : mg "_law_crowd" = some (.ref t.f_law_crowd)
  F_law_crowd : Fun K "_law_crowd" "_law_crowd" s_law_crowd t.f_law_crowd t.d_law_crowd
  b_law_crowd : Binds K t.d_law_crowd ["_law_points_here", "_law_seats_here", "_law_found", "_law_some"] []
  g_law_drawn_names : mg "_law_drawn_names" = some (.ref t.f_law_drawn_names)
  F_law_drawn_names : Fun K "_law_drawn_names" "_law_drawn_names" s_law_drawn_names t.f_law_drawn_names t.d_law_drawn_names
  b_law_drawn_names : Binds K t.d_law_drawn_names ["_law_points_here", "_law_cell", "_law_digits"] []
  g_law_full : mg "_law_full" = some (.ref t.f_law_full)
  F_law_full : Fun K "_law_full" "_law_full" s_law_full t.f_law_full t.d_law_full
  b_law_full : Binds K t.d_law_full ["_law_points_here", "_law_seats_here", "_law_out"] []
  g_law_right : mg "_law_right" = some (.ref t.f_law_right)
  F_law_right : Fun K "_law_right" "_law_right" s_law_right t.f_law_right t.d_law_right
  b_law_right : Binds K t.d_law_right ["_law_picture_here", "_law_points_here", "_law_seats_here", "_law_names_here", "_law_most"] []
  g_law : mg "law" = some (.ref t.f_law)
  F_law : Fun K "law" "law" s_law t.f_law t.d_law
  b_law : Binds K t.d_law ["_law_script"] []
  c_Seating : Cls K t.C_Seating
  ca_Seating : PySem.W.findIn K (.ref t.C_Seating) "__class__" = some (some (.builtin "object.__class__"))
  mo_Seating : PySem.W.mroIn K t.C_Seating (.type "object") = some true
  k_Seating : Mk K t.C_Seating t.f_Seating_init
  m_Seating_hand_on : Meth K t.C_Seating "hand_on" t.f_Seating_hand_on
  m_Seating_crowd_with : Meth K t.C_Seating "crowd_with" t.f_Seating_crowd_with
  c_Side : Cls K t.C_Side
  ca_Side : PySem.W.findIn K (.ref t.C_Side) "__class__" = some (some (.builtin "object.__class__"))
  mo_Side : PySem.W.mroIn K t.C_Side (.type "object") = some true
  k_Side : Mk K t.C_Side t.f_Side_init
  c_LeftSide : Cls K t.C_LeftSide
  ca_LeftSide : PySem.W.findIn K (.ref t.C_LeftSide) "__class__" = some (some (.builtin "object.__class__"))
  mo_LeftSide : PySem.W.mroIn K t.C_LeftSide (.type "object") = some true
  k_LeftSide : Mk K t.C_LeftSide t.f_Side_init
  c_RightSide : Cls K t.C_RightSide
  ca_RightSide : PySem.W.findIn K (.ref t.C_RightSide) "__class__" = some (some (.builtin "object.__class__"))
  mo_RightSide : PySem.W.mroIn K t.C_RightSide (.type "object") = some true
  k_RightSide : Mk K t.C_RightSide t.f_Side_init
  c_Picture : Cls K t.C_Picture
  ca_Picture : PySem.W.findIn K (.ref t.C_Picture) "__class__" = some (some (.builtin "object.__class__"))
  mo_Picture : PySem.W.mroIn K t.C_Picture (.type "object") = some true
  k_Picture : Mk K t.C_Picture t.f_Picture_init
  m_Picture_put : Meth K t.C_Picture "put" t.f_Picture_put
  m_Picture_open_seat : Meth K t.C_Picture "open_seat" t.f_Picture_open_seat
  m_Picture_points : Meth K t.C_Picture "points" t.f_Picture_points
  m_Picture_seats : Meth K t.C_Picture "seats" t.f_Picture_seats
  m_Picture_may : Meth K t.C_Picture "may" t.f_Picture_may
  m_Picture_seats_for : Meth K t.C_Picture "seats_for" t.f_Picture_seats_for
  m_Picture_check_name : Meth K t.C_Picture "check_name" t.f_Picture_check_name
  m_Picture_check_cell : Meth K t.C_Picture "check_cell" t.f_Picture_check_cell
  m_Picture_check_lines : Meth K t.C_Picture "check_lines" t.f_Picture_check_lines
  m_Picture_check_seat : Meth K t.C_Picture "check_seat" t.f_Picture_check_seat
  cg : PySem.W.specialIn K (.builtin "object.__class__") "__get__" = some (some (.builtin "getset_descriptor.__get__"))
  ct : PySem.W.takesIn K (.builtin "object.__class__") = some true
  n_Picture_placed : PySem.W.findIn K (.ref t.C_Picture) "placed" = some none
  n_Picture_height : PySem.W.findIn K (.ref t.C_Picture) "height" = some none
  n_Picture_width : PySem.W.findIn K (.ref t.C_Picture) "width" = some none
  n_Picture_opened : PySem.W.findIn K (.ref t.C_Picture) "opened" = some none
  n_Seating_holder_of : PySem.W.findIn K (.ref t.C_Seating) "holder_of" = some none
  n_Seating_seat_of : PySem.W.findIn K (.ref t.C_Seating) "seat_of" = some none
  n_Side_width : PySem.W.findIn K (.ref t.C_Side) "width" = some none
  n_LeftSide_width : PySem.W.findIn K (.ref t.C_LeftSide) "width" = some none
  n_RightSide_width : PySem.W.findIn K (.ref t.C_RightSide) "width" = some none
  n_bool : mg "bool" = none
  n_dict : mg "dict" = none
  n_enumerate : mg "enumerate" = none
  n_int : mg "int" = none
  n_isinstance : mg "isinstance" = none
  n_len : mg "len" = none
  n_list : mg "list" = none
  n_min : mg "min" = none
  n_range : mg "range" = none
  n_reversed : mg "reversed" = none
  n_set : mg "set" = none
  n_sorted : mg "sorted" = none
  n_str : mg "str" = none
  v_MOST_ROWS : ∃ tk, mg "MOST_ROWS" = some (.int 16 tk)
  v_MOST_COLUMNS : ∃ tk, mg "MOST_COLUMNS" = some (.int 30 tk)
  v_MOST_POINTS : ∃ tk, mg "MOST_POINTS" = some (.int 12 tk)
  g_MIRRORED_SIDES : mg "MIRRORED_SIDES" = some (.ref t.D_MIRRORED_SIDES)
  D_MIRRORED_SIDES : GDict w K t.D_MIRRORED_SIDES [(.inr "left", .str "right"), (.inr "right", .str "left"), (.inr "both", .str "both")]
theorem txt_mk {w : World} {K : PySem.W.Frag} {h : Heap} {mg : Str → Option Value} (X : K.In h) (G : h.Ns mainGlobals mg) {C_Seating C_Side C_LeftSide C_RightSide C_Picture f_Seating_init f_Seating_hand_on f_Seating_crowd_with f_crowds f_fits f_left_out f_kept f_Side_init f_side_of f_is_whole f_is_name f_Picture_init f_Picture_put T_Picture_put f_Picture_open_seat f_Picture_points f_Picture_seats f_Picture_may f_Picture_seats_for f_Picture_check_name f_Picture_check_cell f_Picture_check_lines f_Picture_check_seat f_law_cell_at f_law_mix f_law_frame f_law_seats f_law_numbers f_law_point f_law_points f_law_put f_law_picture f_law_may f_law_room f_law_many f_law_names f_law_crowd f_law_drawn_names f_law_full f_law_right f_law : Addr} {oc_Seating_init kv_Seating_init dc_Seating_init pm_Seating_init cd_Seating_init ct_Seating_init : Value} {od_Seating_init an_Seating_init : Option Addr} {sl_Seating_init : Array (Option Value)} {oc_Seating_hand_on kv_Seating_hand_on dc_Seating_hand_on pm_Seating_hand_on cd_Seating_hand_on ct_Seating_hand_on : Value} {od_Seating_hand_on an_Seating_hand_on : Option Addr} {sl_Seating_hand_on : Array (Option Value)} {oc_Seating_crowd_with kv_Seating_crowd_with dc_Seating_crowd_with pm_Seating_crowd_with cd_Seating_crowd_with ct_Seating_crowd_with : Value} {od_Seating_crowd_with an_Seating_crowd_with : Option Addr} {sl_Seating_crowd_with : Array (Option Value)} {oc_crowds kv_crowds dc_crowds pm_crowds cd_crowds ct_crowds : Value} {od_crowds an_crowds : Option Addr} {sl_crowds : Array (Option Value)} {oc_fits kv_fits dc_fits pm_fits cd_fits ct_fits : Value} {od_fits an_fits : Option Addr} {sl_fits : Array (Option Value)} {oc_left_out kv_left_out dc_left_out pm_left_out cd_left_out ct_left_out : Value} {od_left_out an_left_out : Option Addr} {sl_left_out : Array (Option Value)} {oc_kept kv_kept dc_kept pm_kept cd_kept ct_kept : Value} {od_kept an_kept : Option Addr} {sl_kept : Array (Option Value)} {oc_Side_init kv_Side_init dc_Side_init pm_Side_init cd_Side_init ct_Side_init : Value} {od_Side_init an_Side_init : Option Addr} {sl_Side_init : Array (Option Value)} {oc_side_of kv_side_of dc_side_of pm_side_of cd_side_of ct_side_of : Value} {od_side_of an_side_of : Option Addr} {sl_side_of : Array (Option Value)} {oc_is_whole kv_is_whole dc_is_whole pm_is_whole cd_is_whole ct_is_whole : Value} {od_is_whole an_is_whole : Option Addr} {sl_is_whole : Array (Option Value)} {oc_is_name kv_is_name dc_is_name pm_is_name cd_is_name ct_is_name : Value} {od_is_name an_is_name : Option Addr} {sl_is_name : Array (Option Value)} {oc_Picture_init kv_Picture_init dc_Picture_init pm_Picture_init cd_Picture_init ct_Picture_init : Value} {od_Picture_init an_Picture_init : Option Addr} {sl_Picture_init : Array (Option Value)} {oc_Picture_put kv_Picture_put dc_Picture_put pm_Picture_put cd_Picture_put ct_Picture_put : Value} {od_Picture_put an_Picture_put : Option Addr} {sl_Picture_put : Array (Option Value)} {oc_Picture_open_seat kv_Picture_open_seat dc_Picture_open_seat pm_Picture_open_seat cd_Picture_open_seat ct_Picture_open_seat : Value} {od_Picture_open_seat an_Picture_open_seat : Option Addr} {sl_Picture_open_seat : Array (Option Value)} {oc_Picture_points kv_Picture_points dc_Picture_points pm_Picture_points cd_Picture_points ct_Picture_points : Value} {od_Picture_points an_Picture_points : Option Addr} {sl_Picture_points : Array (Option Value)} {oc_Picture_seats kv_Picture_seats dc_Picture_seats pm_Picture_seats cd_Picture_seats ct_Picture_seats : Value} {od_Picture_seats an_Picture_seats : Option Addr} {sl_Picture_seats : Array (Option Value)} {oc_Picture_may kv_Picture_may dc_Picture_may pm_Picture_may cd_Picture_may ct_Picture_may : Value} {od_Picture_may an_Picture_may : Option Addr} {sl_Picture_may : Array (Option Value)} {oc_Picture_seats_for kv_Picture_seats_for dc_Picture_seats_for pm_Picture_seats_for cd_Picture_seats_for ct_Picture_seats_for : Value} {od_Picture_seats_for an_Picture_seats_for : Option Addr} {sl_Picture_seats_for : Array (Option Value)} {oc_Picture_check_name kv_Picture_check_name dc_Picture_check_name pm_Picture_check_name cd_Picture_check_name ct_Picture_check_name : Value} {od_Picture_check_name an_Picture_check_name : Option Addr} {sl_Picture_check_name : Array (Option Value)} {oc_Picture_check_cell kv_Picture_check_cell dc_Picture_check_cell pm_Picture_check_cell cd_Picture_check_cell ct_Picture_check_cell : Value} {od_Picture_check_cell an_Picture_check_cell : Option Addr} {sl_Picture_check_cell : Array (Option Value)} {oc_Picture_check_lines kv_Picture_check_lines dc_Picture_check_lines pm_Picture_check_lines cd_Picture_check_lines ct_Picture_check_lines : Value} {od_Picture_check_lines an_Picture_check_lines : Option Addr} {sl_Picture_check_lines : Array (Option Value)} {oc_Picture_check_seat kv_Picture_check_seat dc_Picture_check_seat pm_Picture_check_seat cd_Picture_check_seat ct_Picture_check_seat : Value} {od_Picture_check_seat an_Picture_check_seat : Option Addr} {sl_Picture_check_seat : Array (Option Value)} {oc_law_cell_at kv_law_cell_at dc_law_cell_at pm_law_cell_at cd_law_cell_at ct_law_cell_at : Value} {od_law_cell_at an_law_cell_at : Option Addr} {sl_law_cell_at : Array (Option Value)} {oc_law_mix kv_law_mix dc_law_mix pm_law_mix cd_law_mix ct_law_mix : Value} {od_law_mix an_law_mix : Option Addr} {sl_law_mix : Array (Option Value)} {oc_law_frame kv_law_frame dc_law_frame pm_law_frame cd_law_frame ct_law_frame : Value} {od_law_frame an_law_frame : Option Addr} {sl_law_frame : Array (Option Value)} {oc_law_seats kv_law_seats dc_law_seats pm_law_seats cd_law_seats ct_law_seats : Value} {od_law_seats an_law_seats : Option Addr} {sl_law_seats : Array (Option Value)} {oc_law_numbers kv_law_numbers dc_law_numbers pm_law_numbers cd_law_numbers ct_law_numbers : Value} {od_law_numbers an_law_numbers : Option Addr} {sl_law_numbers : Array (Option Value)} {oc_law_point kv_law_point dc_law_point pm_law_point cd_law_point ct_law_point : Value} {od_law_point an_law_point : Option Addr} {sl_law_point : Array (Option Value)} {oc_law_points kv_law_points dc_law_points pm_law_points cd_law_points ct_law_points : Value} {od_law_points an_law_points : Option Addr} {sl_law_points : Array (Option Value)} {oc_law_put kv_law_put dc_law_put pm_law_put cd_law_put ct_law_put : Value} {od_law_put an_law_put : Option Addr} {sl_law_put : Array (Option Value)} {oc_law_picture kv_law_picture dc_law_picture pm_law_picture cd_law_picture ct_law_picture : Value} {od_law_picture an_law_picture : Option Addr} {sl_law_picture : Array (Option Value)} {oc_law_may kv_law_may dc_law_may pm_law_may cd_law_may ct_law_may : Value} {od_law_may an_law_may : Option Addr} {sl_law_may : Array (Option Value)} {oc_law_room kv_law_room dc_law_room pm_law_room cd_law_room ct_law_room : Value} {od_law_room an_law_room : Option Addr} {sl_law_room : Array (Option Value)} {oc_law_many kv_law_many dc_law_many pm_law_many cd_law_many ct_law_many : Value} {od_law_many an_law_many : Option Addr} {sl_law_many : Array (Option Value)} {oc_law_names kv_law_names dc_law_names pm_law_names cd_law_names ct_law_names : Value} {od_law_names an_law_names : Option Addr} {sl_law_names : Array (Option Value)} {oc_law_crowd kv_law_crowd dc_law_crowd pm_law_crowd cd_law_crowd ct_law_crowd : Value} {od_law_crowd an_law_crowd : Option Addr} {sl_law_crowd : Array (Option Value)} {oc_law_drawn_names kv_law_drawn_names dc_law_drawn_names pm_law_drawn_names cd_law_drawn_names ct_law_drawn_names : Value} {od_law_drawn_names an_law_drawn_names : Option Addr} {sl_law_drawn_names : Array (Option Value)} {oc_law_full kv_law_full dc_law_full pm_law_full cd_law_full ct_law_full : Value} {od_law_full an_law_full : Option Addr} {sl_law_full : Array (Option Value)} {oc_law_right kv_law_right dc_law_right pm_law_right cd_law_right ct_law_right : Value} {od_law_right an_law_right : Option Addr} {sl_law_right : Array (Option Value)} {oc_law kv_law dc_law pm_law cd_law ct_law : Value} {od_law an_law : Option Addr} {sl_law : Array (Option Value)} {tk0_Picture_put : Tok} {tk1_Picture_put : Tok} {toc_Picture_put : Value} {tod_Picture_put : Option Addr} {tn_Picture_put : Nat} {tsl_Picture_put : Array (Option Value)} {tkc_MOST_ROWS : Tok} {tkc_MOST_COLUMNS : Tok} {tkc_MOST_POINTS : Tok} {D_MIRRORED_SIDES : Addr} {ta0_MIRRORED_SIDES tb0_MIRRORED_SIDES : Tok} {ta1_MIRRORED_SIDES tb1_MIRRORED_SIDES : Tok} {ta2_MIRRORED_SIDES tb2_MIRRORED_SIDES : Tok} {ep_MIRRORED_SIDES : Nat}
    (g_Seating : PySem.W.nsIn K mainGlobals "Seating" = some (some (.ref C_Seating)))
    (g_Side : PySem.W.nsIn K mainGlobals "Side" = some (some (.ref C_Side)))
    (g_LeftSide : PySem.W.nsIn K mainGlobals "LeftSide" = some (some (.ref C_LeftSide)))
    (g_RightSide : PySem.W.nsIn K mainGlobals "RightSide" = some (some (.ref C_RightSide)))
    (g_Picture : PySem.W.nsIn K mainGlobals "Picture" = some (some (.ref C_Picture)))
    (a_Seating_init : PySem.W.findIn K (.ref C_Seating) "__init__" = some (some (.ref f_Seating_init)))
    (l_Seating_init : K.lookup f_Seating_init = some ⟨oc_Seating_init, od_Seating_init, .func (PySem.W.fnOf "__init__" "Seating.__init__" (defArgs s_Seating_init) (defBody s_Seating_init) (defScope s_Seating_init) .none kv_Seating_init dc_Seating_init pm_Seating_init an_Seating_init cd_Seating_init ct_Seating_init), sl_Seating_init⟩)
    (c_Seating_init : PySem.W.codeIn K cd_Seating_init "Seating.__init__" = true)
    (k_Seating_init : PySem.W.keepIn K (.ref f_Seating_init) = true)
    (i_Seating_init : PySem.W.isFn K (.ref f_Seating_init) = true)
    (a_Seating_hand_on : PySem.W.findIn K (.ref C_Seating) "hand_on" = some (some (.ref f_Seating_hand_on)))
    (l_Seating_hand_on : K.lookup f_Seating_hand_on = some ⟨oc_Seating_hand_on, od_Seating_hand_on, .func (PySem.W.fnOf "hand_on" "Seating.hand_on" (defArgs s_Seating_hand_on) (defBody s_Seating_hand_on) (defScope s_Seating_hand_on) .none kv_Seating_hand_on dc_Seating_hand_on pm_Seating_hand_on an_Seating_hand_on cd_Seating_hand_on ct_Seating_hand_on), sl_Seating_hand_on⟩)
    (c_Seating_hand_on : PySem.W.codeIn K cd_Seating_hand_on "Seating.hand_on" = true)
    (k_Seating_hand_on : PySem.W.keepIn K (.ref f_Seating_hand_on) = true)
    (i_Seating_hand_on : PySem.W.isFn K (.ref f_Seating_hand_on) = true)
    (a_Seating_crowd_with : PySem.W.findIn K (.ref C_Seating) "crowd_with" = some (some (.ref f_Seating_crowd_with)))
    (l_Seating_crowd_with : K.lookup f_Seating_crowd_with = some ⟨oc_Seating_crowd_with, od_Seating_crowd_with, .func (PySem.W.fnOf "crowd_with" "Seating.crowd_with" (defArgs s_Seating_crowd_with) (defBody s_Seating_crowd_with) (defScope s_Seating_crowd_with) .none kv_Seating_crowd_with dc_Seating_crowd_with pm_Seating_crowd_with an_Seating_crowd_with cd_Seating_crowd_with ct_Seating_crowd_with), sl_Seating_crowd_with⟩)
    (c_Seating_crowd_with : PySem.W.codeIn K cd_Seating_crowd_with "Seating.crowd_with" = true)
    (k_Seating_crowd_with : PySem.W.keepIn K (.ref f_Seating_crowd_with) = true)
    (i_Seating_crowd_with : PySem.W.isFn K (.ref f_Seating_crowd_with) = true)
    (a_crowds : PySem.W.nsIn K mainGlobals "crowds" = some (some (.ref f_crowds)))
    (l_crowds : K.lookup f_crowds = some ⟨oc_crowds, od_crowds, .func (PySem.W.fnOf "crowds" "crowds" (defArgs s_crowds) (defBody s_crowds) (defScope s_crowds) .none kv_crowds dc_crowds pm_crowds an_crowds cd_crowds ct_crowds), sl_crowds⟩)
    (c_crowds : PySem.W.codeIn K cd_crowds "crowds" = true)
    (k_crowds : PySem.W.keepIn K (.ref f_crowds) = true)
    (i_crowds : PySem.W.isFn K (.ref f_crowds) = true)
    (a_fits : PySem.W.nsIn K mainGlobals "fits" = some (some (.ref f_fits)))
    (l_fits : K.lookup f_fits = some ⟨oc_fits, od_fits, .func (PySem.W.fnOf "fits" "fits" (defArgs s_fits) (defBody s_fits) (defScope s_fits) .none kv_fits dc_fits pm_fits an_fits cd_fits ct_fits), sl_fits⟩)
    (c_fits : PySem.W.codeIn K cd_fits "fits" = true)
    (k_fits : PySem.W.keepIn K (.ref f_fits) = true)
    (i_fits : PySem.W.isFn K (.ref f_fits) = true)
    (a_left_out : PySem.W.nsIn K mainGlobals "left_out" = some (some (.ref f_left_out)))
    (l_left_out : K.lookup f_left_out = some ⟨oc_left_out, od_left_out, .func (PySem.W.fnOf "left_out" "left_out" (defArgs s_left_out) (defBody s_left_out) (defScope s_left_out) .none kv_left_out dc_left_out pm_left_out an_left_out cd_left_out ct_left_out), sl_left_out⟩)
    (c_left_out : PySem.W.codeIn K cd_left_out "left_out" = true)
    (k_left_out : PySem.W.keepIn K (.ref f_left_out) = true)
    (i_left_out : PySem.W.isFn K (.ref f_left_out) = true)
    (a_kept : PySem.W.nsIn K mainGlobals "kept" = some (some (.ref f_kept)))
    (l_kept : K.lookup f_kept = some ⟨oc_kept, od_kept, .func (PySem.W.fnOf "kept" "kept" (defArgs s_kept) (defBody s_kept) (defScope s_kept) .none kv_kept dc_kept pm_kept an_kept cd_kept ct_kept), sl_kept⟩)
    (c_kept : PySem.W.codeIn K cd_kept "kept" = true)
    (k_kept : PySem.W.keepIn K (.ref f_kept) = true)
    (i_kept : PySem.W.isFn K (.ref f_kept) = true)
    (a_Side_init : PySem.W.findIn K (.ref C_Side) "__init__" = some (some (.ref f_Side_init)))
    (l_Side_init : K.lookup f_Side_init = some ⟨oc_Side_init, od_Side_init, .func (PySem.W.fnOf "__init__" "Side.__init__" (defArgs s_Side_init) (defBody s_Side_init) (defScope s_Side_init) .none kv_Side_init dc_Side_init pm_Side_init an_Side_init cd_Side_init ct_Side_init), sl_Side_init⟩)
    (c_Side_init : PySem.W.codeIn K cd_Side_init "Side.__init__" = true)
    (k_Side_init : PySem.W.keepIn K (.ref f_Side_init) = true)
    (i_Side_init : PySem.W.isFn K (.ref f_Side_init) = true)
    (a_side_of : PySem.W.nsIn K mainGlobals "side_of" = some (some (.ref f_side_of)))
    (l_side_of : K.lookup f_side_of = some ⟨oc_side_of, od_side_of, .func (PySem.W.fnOf "side_of" "side_of" (defArgs s_side_of) (defBody s_side_of) (defScope s_side_of) .none kv_side_of dc_side_of pm_side_of an_side_of cd_side_of ct_side_of), sl_side_of⟩)
    (c_side_of : PySem.W.codeIn K cd_side_of "side_of" = true)
    (k_side_of : PySem.W.keepIn K (.ref f_side_of) = true)
    (i_side_of : PySem.W.isFn K (.ref f_side_of) = true)
    (a_is_whole : PySem.W.nsIn K mainGlobals "is_whole" = some (some (.ref f_is_whole)))
    (l_is_whole : K.lookup f_is_whole = some ⟨oc_is_whole, od_is_whole, .func (PySem.W.fnOf "is_whole" "is_whole" (defArgs s_is_whole) (defBody s_is_whole) (defScope s_is_whole) .none kv_is_whole dc_is_whole pm_is_whole an_is_whole cd_is_whole ct_is_whole), sl_is_whole⟩)
    (c_is_whole : PySem.W.codeIn K cd_is_whole "is_whole" = true)
    (k_is_whole : PySem.W.keepIn K (.ref f_is_whole) = true)
    (i_is_whole : PySem.W.isFn K (.ref f_is_whole) = true)
    (a_is_name : PySem.W.nsIn K mainGlobals "is_name" = some (some (.ref f_is_name)))
    (l_is_name : K.lookup f_is_name = some ⟨oc_is_name, od_is_name, .func (PySem.W.fnOf "is_name" "is_name" (defArgs s_is_name) (defBody s_is_name) (defScope s_is_name) .none kv_is_name dc_is_name pm_is_name an_is_name cd_is_name ct_is_name), sl_is_name⟩)
    (c_is_name : PySem.W.codeIn K cd_is_name "is_name" = true)
    (k_is_name : PySem.W.keepIn K (.ref f_is_name) = true)
    (i_is_name : PySem.W.isFn K (.ref f_is_name) = true)
    (a_Picture_init : PySem.W.findIn K (.ref C_Picture) "__init__" = some (some (.ref f_Picture_init)))
    (l_Picture_init : K.lookup f_Picture_init = some ⟨oc_Picture_init, od_Picture_init, .func (PySem.W.fnOf "__init__" "Picture.__init__" (defArgs s_Picture_init) (defBody s_Picture_init) (defScope s_Picture_init) .none kv_Picture_init dc_Picture_init pm_Picture_init an_Picture_init cd_Picture_init ct_Picture_init), sl_Picture_init⟩)
    (c_Picture_init : PySem.W.codeIn K cd_Picture_init "Picture.__init__" = true)
    (k_Picture_init : PySem.W.keepIn K (.ref f_Picture_init) = true)
    (i_Picture_init : PySem.W.isFn K (.ref f_Picture_init) = true)
    (a_Picture_put : PySem.W.findIn K (.ref C_Picture) "put" = some (some (.ref f_Picture_put)))
    (l_Picture_put : K.lookup f_Picture_put = some ⟨oc_Picture_put, od_Picture_put, .func (PySem.W.fnOf "put" "Picture.put" (defArgs s_Picture_put) (defBody s_Picture_put) (defScope s_Picture_put) (.ref T_Picture_put) kv_Picture_put dc_Picture_put pm_Picture_put an_Picture_put cd_Picture_put ct_Picture_put), sl_Picture_put⟩)
    (c_Picture_put : PySem.W.codeIn K cd_Picture_put "Picture.put" = true)
    (k_Picture_put : PySem.W.keepIn K (.ref f_Picture_put) = true)
    (i_Picture_put : PySem.W.isFn K (.ref f_Picture_put) = true)
    (t_Picture_put : K.lookup T_Picture_put = some ⟨toc_Picture_put, tod_Picture_put, .seq #[.str "both" tk0_Picture_put, .int 1 tk1_Picture_put, .none] tn_Picture_put, tsl_Picture_put⟩)
    (a_Picture_open_seat : PySem.W.findIn K (.ref C_Picture) "open_seat" = some (some (.ref f_Picture_open_seat)))
    (l_Picture_open_seat : K.lookup f_Picture_open_seat = some ⟨oc_Picture_open_seat, od_Picture_open_seat, .func (PySem.W.fnOf "open_seat" "Picture.open_seat" (defArgs s_Picture_open_seat) (defBody s_Picture_open_seat) (defScope s_Picture_open_seat) .none kv_Picture_open_seat dc_Picture_open_seat pm_Picture_open_seat an_Picture_open_seat cd_Picture_open_seat ct_Picture_open_seat), sl_Picture_open_seat⟩)
    (c_Picture_open_seat : PySem.W.codeIn K cd_Picture_open_seat "Picture.open_seat" = true)
    (k_Picture_open_seat : PySem.W.keepIn K (.ref f_Picture_open_seat) = true)
    (i_Picture_open_seat : PySem.W.isFn K (.ref f_Picture_open_seat) = true)
    (a_Picture_points : PySem.W.findIn K (.ref C_Picture) "points" = some (some (.ref f_Picture_points)))
    (l_Picture_points : K.lookup f_Picture_points = some ⟨oc_Picture_points, od_Picture_points, .func (PySem.W.fnOf "points" "Picture.points" (defArgs s_Picture_points) (defBody s_Picture_points) (defScope s_Picture_points) .none kv_Picture_points dc_Picture_points pm_Picture_points an_Picture_points cd_Picture_points ct_Picture_points), sl_Picture_points⟩)
    (c_Picture_points : PySem.W.codeIn K cd_Picture_points "Picture.points" = true)
    (k_Picture_points : PySem.W.keepIn K (.ref f_Picture_points) = true)
    (i_Picture_points : PySem.W.isFn K (.ref f_Picture_points) = true)
    (a_Picture_seats : PySem.W.findIn K (.ref C_Picture) "seats" = some (some (.ref f_Picture_seats)))
    (l_Picture_seats : K.lookup f_Picture_seats = some ⟨oc_Picture_seats, od_Picture_seats, .func (PySem.W.fnOf "seats" "Picture.seats" (defArgs s_Picture_seats) (defBody s_Picture_seats) (defScope s_Picture_seats) .none kv_Picture_seats dc_Picture_seats pm_Picture_seats an_Picture_seats cd_Picture_seats ct_Picture_seats), sl_Picture_seats⟩)
    (c_Picture_seats : PySem.W.codeIn K cd_Picture_seats "Picture.seats" = true)
    (k_Picture_seats : PySem.W.keepIn K (.ref f_Picture_seats) = true)
    (i_Picture_seats : PySem.W.isFn K (.ref f_Picture_seats) = true)
    (a_Picture_may : PySem.W.findIn K (.ref C_Picture) "may" = some (some (.ref f_Picture_may)))
    (l_Picture_may : K.lookup f_Picture_may = some ⟨oc_Picture_may, od_Picture_may, .func (PySem.W.fnOf "may" "Picture.may" (defArgs s_Picture_may) (defBody s_Picture_may) (defScope s_Picture_may) .none kv_Picture_may dc_Picture_may pm_Picture_may an_Picture_may cd_Picture_may ct_Picture_may), sl_Picture_may⟩)
    (c_Picture_may : PySem.W.codeIn K cd_Picture_may "Picture.may" = true)
    (k_Picture_may : PySem.W.keepIn K (.ref f_Picture_may) = true)
    (i_Picture_may : PySem.W.isFn K (.ref f_Picture_may) = true)
    (a_Picture_seats_for : PySem.W.findIn K (.ref C_Picture) "seats_for" = some (some (.ref f_Picture_seats_for)))
    (l_Picture_seats_for : K.lookup f_Picture_seats_for = some ⟨oc_Picture_seats_for, od_Picture_seats_for, .func (PySem.W.fnOf "seats_for" "Picture.seats_for" (defArgs s_Picture_seats_for) (defBody s_Picture_seats_for) (defScope s_Picture_seats_for) .none kv_Picture_seats_for dc_Picture_seats_for pm_Picture_seats_for an_Picture_seats_for cd_Picture_seats_for ct_Picture_seats_for), sl_Picture_seats_for⟩)
    (c_Picture_seats_for : PySem.W.codeIn K cd_Picture_seats_for "Picture.seats_for" = true)
    (k_Picture_seats_for : PySem.W.keepIn K (.ref f_Picture_seats_for) = true)
    (i_Picture_seats_for : PySem.W.isFn K (.ref f_Picture_seats_for) = true)
    (a_Picture_check_name : PySem.W.findIn K (.ref C_Picture) "check_name" = some (some (.ref f_Picture_check_name)))
    (l_Picture_check_name : K.lookup f_Picture_check_name = some ⟨oc_Picture_check_name, od_Picture_check_name, .func (PySem.W.fnOf "check_name" "Picture.check_name" (defArgs s_Picture_check_name) (defBody s_Picture_check_name) (defScope s_Picture_check_name) .none kv_Picture_check_name dc_Picture_check_name pm_Picture_check_name an_Picture_check_name cd_Picture_check_name ct_Picture_check_name), sl_Picture_check_name⟩)
    (c_Picture_check_name : PySem.W.codeIn K cd_Picture_check_name "Picture.check_name" = true)
    (k_Picture_check_name : PySem.W.keepIn K (.ref f_Picture_check_name) = true)
    (i_Picture_check_name : PySem.W.isFn K (.ref f_Picture_check_name) = true)
    (a_Picture_check_cell : PySem.W.findIn K (.ref C_Picture) "check_cell" = some (some (.ref f_Picture_check_cell)))
    (l_Picture_check_cell : K.lookup f_Picture_check_cell = some ⟨oc_Picture_check_cell, od_Picture_check_cell, .func (PySem.W.fnOf "check_cell" "Picture.check_cell" (defArgs s_Picture_check_cell) (defBody s_Picture_check_cell) (defScope s_Picture_check_cell) .none kv_Picture_check_cell dc_Picture_check_cell pm_Picture_check_cell an_Picture_check_cell cd_Picture_check_cell ct_Picture_check_cell), sl_Picture_check_cell⟩)
    (c_Picture_check_cell : PySem.W.codeIn K cd_Picture_check_cell "Picture.check_cell" = true)
    (k_Picture_check_cell : PySem.W.keepIn K (.ref f_Picture_check_cell) = true)
    (i_Picture_check_cell : PySem.W.isFn K (.ref f_Picture_check_cell) = true)
    (a_Picture_check_lines : PySem.W.findIn K (.ref C_Picture) "check_lines" = some (some (.ref f_Picture_check_lines)))
    (l_Picture_check_lines : K.lookup f_Picture_check_lines = some ⟨oc_Picture_check_lines, od_Picture_check_lines, .func (PySem.W.fnOf "check_lines" "Picture.check_lines" (defArgs s_Picture_check_lines) (defBody s_Picture_check_lines) (defScope s_Picture_check_lines) .none kv_Picture_check_lines dc_Picture_check_lines pm_Picture_check_lines an_Picture_check_lines cd_Picture_check_lines ct_Picture_check_lines), sl_Picture_check_lines⟩)
    (c_Picture_check_lines : PySem.W.codeIn K cd_Picture_check_lines "Picture.check_lines" = true)
    (k_Picture_check_lines : PySem.W.keepIn K (.ref f_Picture_check_lines) = true)
    (i_Picture_check_lines : PySem.W.isFn K (.ref f_Picture_check_lines) = true)
    (a_Picture_check_seat : PySem.W.findIn K (.ref C_Picture) "check_seat" = some (some (.ref f_Picture_check_seat)))
    (l_Picture_check_seat : K.lookup f_Picture_check_seat = some ⟨oc_Picture_check_seat, od_Picture_check_seat, .func (PySem.W.fnOf "check_seat" "Picture.check_seat" (defArgs s_Picture_check_seat) (defBody s_Picture_check_seat) (defScope s_Picture_check_seat) .none kv_Picture_check_seat dc_Picture_check_seat pm_Picture_check_seat an_Picture_check_seat cd_Picture_check_seat ct_Picture_check_seat), sl_Picture_check_seat⟩)
    (c_Picture_check_seat : PySem.W.codeIn K cd_Picture_check_seat "Picture.check_seat" = true)
    (k_Picture_check_seat : PySem.W.keepIn K (.ref f_Picture_check_seat) = true)
    (i_Picture_check_seat : PySem.W.isFn K (.ref f_Picture_check_seat) = true)
    (a_law_cell_at : PySem.W.nsIn K mainGlobals "_law_cell_at" = some (some (.ref f_law_cell_at)))
    (l_law_cell_at : K.lookup f_law_cell_at = some ⟨oc_law_cell_at, od_law_cell_at, .func (PySem.W.fnOf "_law_cell_at" "_law_cell_at" (defArgs s_law_cell_at) (defBody s_law_cell_at) (defScope s_law_cell_at) .none kv_law_cell_at dc_law_cell_at pm_law_cell_at an_law_cell_at cd_law_cell_at ct_law_cell_at), sl_law_cell_at⟩)
    (c_law_cell_at : PySem.W.codeIn K cd_law_cell_at "_law_cell_at" = true)
    (k_law_cell_at : PySem.W.keepIn K (.ref f_law_cell_at) = true)
    (i_law_cell_at : PySem.W.isFn K (.ref f_law_cell_at) = true)
    (a_law_mix : PySem.W.nsIn K mainGlobals "_law_mix" = some (some (.ref f_law_mix)))
    (l_law_mix : K.lookup f_law_mix = some ⟨oc_law_mix, od_law_mix, .func (PySem.W.fnOf "_law_mix" "_law_mix" (defArgs s_law_mix) (defBody s_law_mix) (defScope s_law_mix) .none kv_law_mix dc_law_mix pm_law_mix an_law_mix cd_law_mix ct_law_mix), sl_law_mix⟩)
    (c_law_mix : PySem.W.codeIn K cd_law_mix "_law_mix" = true)
    (k_law_mix : PySem.W.keepIn K (.ref f_law_mix) = true)
    (i_law_mix : PySem.W.isFn K (.ref f_law_mix) = true)
    (a_law_frame : PySem.W.nsIn K mainGlobals "_law_frame" = some (some (.ref f_law_frame)))
    (l_law_frame : K.lookup f_law_frame = some ⟨oc_law_frame, od_law_frame, .func (PySem.W.fnOf "_law_frame" "_law_frame" (defArgs s_law_frame) (defBody s_law_frame) (defScope s_law_frame) .none kv_law_frame dc_law_frame pm_law_frame an_law_frame cd_law_frame ct_law_frame), sl_law_frame⟩)
    (c_law_frame : PySem.W.codeIn K cd_law_frame "_law_frame" = true)
    (k_law_frame : PySem.W.keepIn K (.ref f_law_frame) = true)
    (i_law_frame : PySem.W.isFn K (.ref f_law_frame) = true)
    (a_law_seats : PySem.W.nsIn K mainGlobals "_law_seats" = some (some (.ref f_law_seats)))
    (l_law_seats : K.lookup f_law_seats = some ⟨oc_law_seats, od_law_seats, .func (PySem.W.fnOf "_law_seats" "_law_seats" (defArgs s_law_seats) (defBody s_law_seats) (defScope s_law_seats) .none kv_law_seats dc_law_seats pm_law_seats an_law_seats cd_law_seats ct_law_seats), sl_law_seats⟩)
    (c_law_seats : PySem.W.codeIn K cd_law_seats "_law_seats" = true)
    (k_law_seats : PySem.W.keepIn K (.ref f_law_seats) = true)
    (i_law_seats : PySem.W.isFn K (.ref f_law_seats) = true)
    (a_law_numbers : PySem.W.nsIn K mainGlobals "_law_numbers" = some (some (.ref f_law_numbers)))
    (l_law_numbers : K.lookup f_law_numbers = some ⟨oc_law_numbers, od_law_numbers, .func (PySem.W.fnOf "_law_numbers" "_law_numbers" (defArgs s_law_numbers) (defBody s_law_numbers) (defScope s_law_numbers) .none kv_law_numbers dc_law_numbers pm_law_numbers an_law_numbers cd_law_numbers ct_law_numbers), sl_law_numbers⟩)
    (c_law_numbers : PySem.W.codeIn K cd_law_numbers "_law_numbers" = true)
    (k_law_numbers : PySem.W.keepIn K (.ref f_law_numbers) = true)
    (i_law_numbers : PySem.W.isFn K (.ref f_law_numbers) = true)
    (a_law_point : PySem.W.nsIn K mainGlobals "_law_point" = some (some (.ref f_law_point)))
    (l_law_point : K.lookup f_law_point = some ⟨oc_law_point, od_law_point, .func (PySem.W.fnOf "_law_point" "_law_point" (defArgs s_law_point) (defBody s_law_point) (defScope s_law_point) .none kv_law_point dc_law_point pm_law_point an_law_point cd_law_point ct_law_point), sl_law_point⟩)
    (c_law_point : PySem.W.codeIn K cd_law_point "_law_point" = true)
    (k_law_point : PySem.W.keepIn K (.ref f_law_point) = true)
    (i_law_point : PySem.W.isFn K (.ref f_law_point) = true)
    (a_law_points : PySem.W.nsIn K mainGlobals "_law_points" = some (some (.ref f_law_points)))
    (l_law_points : K.lookup f_law_points = some ⟨oc_law_points, od_law_points, .func (PySem.W.fnOf "_law_points" "_law_points" (defArgs s_law_points) (defBody s_law_points) (defScope s_law_points) .none kv_law_points dc_law_points pm_law_points an_law_points cd_law_points ct_law_points), sl_law_points⟩)
    (c_law_points : PySem.W.codeIn K cd_law_points "_law_points" = true)
    (k_law_points : PySem.W.keepIn K (.ref f_law_points) = true)
    (i_law_points : PySem.W.isFn K (.ref f_law_points) = true)
    (a_law_put : PySem.W.nsIn K mainGlobals "_law_put" = some (some (.ref f_law_put)))
    (l_law_put : K.lookup f_law_put = some ⟨oc_law_put, od_law_put, .func (PySem.W.fnOf "_law_put" "_law_put" (defArgs s_law_put) (defBody s_law_put) (defScope s_law_put) .none kv_law_put dc_law_put pm_law_put an_law_put cd_law_put ct_law_put), sl_law_put⟩)
    (c_law_put : PySem.W.codeIn K cd_law_put "_law_put" = true)
    (k_law_put : PySem.W.keepIn K (.ref f_law_put) = true)
    (i_law_put : PySem.W.isFn K (.ref f_law_put) = true)
    (a_law_picture : PySem.W.nsIn K mainGlobals "_law_picture" = some (some (.ref f_law_picture)))
    (l_law_picture : K.lookup f_law_picture = some ⟨oc_law_picture, od_law_picture, .func (PySem.W.fnOf "_law_picture" "_law_picture" (defArgs s_law_picture) (defBody s_law_picture) (defScope s_law_picture) .none kv_law_picture dc_law_picture pm_law_picture an_law_picture cd_law_picture ct_law_picture), sl_law_picture⟩)
    (c_law_picture : PySem.W.codeIn K cd_law_picture "_law_picture" = true)
    (k_law_picture : PySem.W.keepIn K (.ref f_law_picture) = true)
    (i_law_picture : PySem.W.isFn K (.ref f_law_picture) = true)
    (a_law_may : PySem.W.nsIn K mainGlobals "_law_may" = some (some (.ref f_law_may)))
    (l_law_may : K.lookup f_law_may = some ⟨oc_law_may, od_law_may, .func (PySem.W.fnOf "_law_may" "_law_may" (defArgs s_law_may) (defBody s_law_may) (defScope s_law_may) .none kv_law_may dc_law_may pm_law_may an_law_may cd_law_may ct_law_may), sl_law_may⟩)
    (c_law_may : PySem.W.codeIn K cd_law_may "_law_may" = true)
    (k_law_may : PySem.W.keepIn K (.ref f_law_may) = true)
    (i_law_may : PySem.W.isFn K (.ref f_law_may) = true)
    (a_law_room : PySem.W.nsIn K mainGlobals "_law_room" = some (some (.ref f_law_room)))
    (l_law_room : K.lookup f_law_room = some ⟨oc_law_room, od_law_room, .func (PySem.W.fnOf "_law_room" "_law_room" (defArgs s_law_room) (defBody s_law_room) (defScope s_law_room) .none kv_law_room dc_law_room pm_law_room an_law_room cd_law_room ct_law_room), sl_law_room⟩)
    (c_law_room : PySem.W.codeIn K cd_law_room "_law_room" = true)
    (k_law_room : PySem.W.keepIn K (.ref f_law_room) = true)
    (i_law_room : PySem.W.isFn K (.ref f_law_room) = true)
    (a_law_many : PySem.W.nsIn K mainGlobals "_law_many" = some (some (.ref f_law_many)))
    (l_law_many : K.lookup f_law_many = some ⟨oc_law_many, od_law_many, .func (PySem.W.fnOf "_law_many" "_law_many" (defArgs s_law_many) (defBody s_law_many) (defScope s_law_many) .none kv_law_many dc_law_many pm_law_many an_law_many cd_law_many ct_law_many), sl_law_many⟩)
    (c_law_many : PySem.W.codeIn K cd_law_many "_law_many" = true)
    (k_law_many : PySem.W.keepIn K (.ref f_law_many) = true)
    (i_law_many : PySem.W.isFn K (.ref f_law_many) = true)
    (a_law_names : PySem.W.nsIn K mainGlobals "_law_names" = some (some (.ref f_law_names)))
    (l_law_names : K.lookup f_law_names = some ⟨oc_law_names, od_law_names, .func (PySem.W.fnOf "_law_names" "_law_names" (defArgs s_law_names) (defBody s_law_names) (defScope s_law_names) .none kv_law_names dc_law_names pm_law_names an_law_names cd_law_names ct_law_names), sl_law_names⟩)
    (c_law_names : PySem.W.codeIn K cd_law_names "_law_names" = true)
    (k_law_names : PySem.W.keepIn K (.ref f_law_names) = true)
    (i_law_names : PySem.W.isFn K (.ref f_law_names) = true)
    (a_law_crowd : PySem.W.nsIn K mainGlobals "_law_crowd" = some (some (.ref f_law_crowd)))
    (l_law_crowd : K.lookup f_law_crowd = some ⟨oc_law_crowd, od_law_crowd, .func (PySem.W.fnOf "_law_crowd" "_law_crowd" (defArgs s_law_crowd) (defBody s_law_crowd) (defScope s_law_crowd) .none kv_law_crowd dc_law_crowd pm_law_crowd an_law_crowd cd_law_crowd ct_law_crowd), sl_law_crowd⟩)
    (c_law_crowd : PySem.W.codeIn K cd_law_crowd "_law_crowd" = true)
    (k_law_crowd : PySem.W.keepIn K (.ref f_law_crowd) = true)
    (i_law_crowd : PySem.W.isFn K (.ref f_law_crowd) = true)
    (a_law_drawn_names : PySem.W.nsIn K mainGlobals "_law_drawn_names" = some (some (.ref f_law_drawn_names)))
    (l_law_drawn_names : K.lookup f_law_drawn_names = some ⟨oc_law_drawn_names, od_law_drawn_names, .func (PySem.W.fnOf "_law_drawn_names" "_law_drawn_names" (defArgs s_law_drawn_names) (defBody s_law_drawn_names) (defScope s_law_drawn_names) .none kv_law_drawn_names dc_law_drawn_names pm_law_drawn_names an_law_drawn_names cd_law_drawn_names ct_law_drawn_names), sl_law_drawn_names⟩)
    (c_law_drawn_names : PySem.W.codeIn K cd_law_drawn_names "_law_drawn_names" = true)
    (k_law_drawn_names : PySem.W.keepIn K (.ref f_law_drawn_names) = true)
    (i_law_drawn_names : PySem.W.isFn K (.ref f_law_drawn_names) = true)
    (a_law_full : PySem.W.nsIn K mainGlobals "_law_full" = some (some (.ref f_law_full)))
    (l_law_full : K.lookup f_law_full = some ⟨oc_law_full, od_law_full, .func (PySem.W.fnOf "_law_full" "_law_full" (defArgs s_law_full) (defBody s_law_full) (defScope s_law_full) .none kv_law_full dc_law_full pm_law_full an_law_full cd_law_full ct_law_full), sl_law_full⟩)
    (c_law_full : PySem.W.codeIn K cd_law_full "_law_full" = true)
    (k_law_full : PySem.W.keepIn K (.ref f_law_full) = true)
    (i_law_full : PySem.W.isFn K (.ref f_law_full) = true)
    (a_law_right : PySem.W.nsIn K mainGlobals "_law_right" = some (some (.ref f_law_right)))
    (l_law_right : K.lookup f_law_right = some ⟨oc_law_right, od_law_right, .func (PySem.W.fnOf "_law_right" "_law_right" (defArgs s_law_right) (defBody s_law_right) (defScope s_law_right) .none kv_law_right dc_law_right pm_law_right an_law_right cd_law_right ct_law_right), sl_law_right⟩)
    (c_law_right : PySem.W.codeIn K cd_law_right "_law_right" = true)
    (k_law_right : PySem.W.keepIn K (.ref f_law_right) = true)
    (i_law_right : PySem.W.isFn K (.ref f_law_right) = true)
    (a_law : PySem.W.nsIn K mainGlobals "law" = some (some (.ref f_law)))
    (l_law : K.lookup f_law = some ⟨oc_law, od_law, .func (PySem.W.fnOf "law" "law" (defArgs s_law) (defBody s_law) (defScope s_law) .none kv_law dc_law pm_law an_law cd_law ct_law), sl_law⟩)
    (c_law : PySem.W.codeIn K cd_law "law" = true)
    (k_law : PySem.W.keepIn K (.ref f_law) = true)
    (i_law : PySem.W.isFn K (.ref f_law) = true)
    (kc_Seating : PySem.W.keepIn K (.ref C_Seating) = true)
    (pg_Seating : PySem.W.plainGet K C_Seating Str.empty = true)
    (hd_Seating : PySem.W.hasDictIn K C_Seating = true)
    (po_Seating : PySem.W.plainOver K C_Seating = true)
    (sa_Seating : PySem.W.findIn K (.ref C_Seating) "__setattr__" = some (some (.builtin "object.__setattr__")))
    (mk_Seating : PySem.W.makesIn K C_Seating = true)
    (ca_Seating : PySem.W.findIn K (.ref C_Seating) "__class__" = some (some (.builtin "object.__class__")))
    (mo_Seating : PySem.W.mroIn K C_Seating (.type "object") = some true)
    (kc_Side : PySem.W.keepIn K (.ref C_Side) = true)
    (pg_Side : PySem.W.plainGet K C_Side Str.empty = true)
    (hd_Side : PySem.W.hasDictIn K C_Side = true)
    (po_Side : PySem.W.plainOver K C_Side = true)
    (sa_Side : PySem.W.findIn K (.ref C_Side) "__setattr__" = some (some (.builtin "object.__setattr__")))
    (mk_Side : PySem.W.makesIn K C_Side = true)
    (ca_Side : PySem.W.findIn K (.ref C_Side) "__class__" = some (some (.builtin "object.__class__")))
    (mo_Side : PySem.W.mroIn K C_Side (.type "object") = some true)
    (kc_LeftSide : PySem.W.keepIn K (.ref C_LeftSide) = true)
    (pg_LeftSide : PySem.W.plainGet K C_LeftSide Str.empty = true)
    (hd_LeftSide : PySem.W.hasDictIn K C_LeftSide = true)
    (po_LeftSide : PySem.W.plainOver K C_LeftSide = true)
    (sa_LeftSide : PySem.W.findIn K (.ref C_LeftSide) "__setattr__" = some (some (.builtin "object.__setattr__")))
    (mk_LeftSide : PySem.W.makesIn K C_LeftSide = true)
    (ca_LeftSide : PySem.W.findIn K (.ref C_LeftSide) "__class__" = some (some (.builtin "object.__class__")))
    (mo_LeftSide : PySem.W.mroIn K C_LeftSide (.type "object") = some true)
    (a_LeftSide_init : PySem.W.findIn K (.ref C_LeftSide) "__init__" = some (some (.ref f_Side_init)))
    (kc_RightSide : PySem.W.keepIn K (.ref C_RightSide) = true)
    (pg_RightSide : PySem.W.plainGet K C_RightSide Str.empty = true)
    (hd_RightSide : PySem.W.hasDictIn K C_RightSide = true)
    (po_RightSide : PySem.W.plainOver K C_RightSide = true)
    (sa_RightSide : PySem.W.findIn K (.ref C_RightSide) "__setattr__" = some (some (.builtin "object.__setattr__")))
    (mk_RightSide : PySem.W.makesIn K C_RightSide = true)
    (ca_RightSide : PySem.W.findIn K (.ref C_RightSide) "__class__" = some (some (.builtin "object.__class__")))
    (mo_RightSide : PySem.W.mroIn K C_RightSide (.type "object") = some true)
    (a_RightSide_init : PySem.W.findIn K (.ref C_RightSide) "__init__" = some (some (.ref f_Side_init)))
    (kc_Picture : PySem.W.keepIn K (.ref C_Picture) = true)
    (pg_Picture : PySem.W.plainGet K C_Picture Str.empty = true)
    (hd_Picture : PySem.W.hasDictIn K C_Picture = true)
    (po_Picture : PySem.W.plainOver K C_Picture = true)
    (sa_Picture : PySem.W.findIn K (.ref C_Picture) "__setattr__" = some (some (.builtin "object.__setattr__")))
    (mk_Picture : PySem.W.makesIn K C_Picture = true)
    (ca_Picture : PySem.W.findIn K (.ref C_Picture) "__class__" = some (some (.builtin "object.__class__")))
    (mo_Picture : PySem.W.mroIn K C_Picture (.type "object") = some true)
    (cg : PySem.W.specialIn K (.builtin "object.__class__") "__get__" = some (some (.builtin "getset_descriptor.__get__")))
    (ct : PySem.W.takesIn K (.builtin "object.__class__") = some true)
    (n_Picture_placed : PySem.W.findIn K (.ref C_Picture) "placed" = some none)
    (n_Picture_height : PySem.W.findIn K (.ref C_Picture) "height" = some none)
    (n_Picture_width : PySem.W.findIn K (.ref C_Picture) "width" = some none)
    (n_Picture_opened : PySem.W.findIn K (.ref C_Picture) "opened" = some none)
    (n_Seating_holder_of : PySem.W.findIn K (.ref C_Seating) "holder_of" = some none)
    (n_Seating_seat_of : PySem.W.findIn K (.ref C_Seating) "seat_of" = some none)
    (n_Side_width : PySem.W.findIn K (.ref C_Side) "width" = some none)
    (n_LeftSide_width : PySem.W.findIn K (.ref C_LeftSide) "width" = some none)
    (n_RightSide_width : PySem.W.findIn K (.ref C_RightSide) "width" = some none)
    (n_bool : PySem.W.nsIn K mainGlobals "bool" = some none)
    (n_dict : PySem.W.nsIn K mainGlobals "dict" = some none)
    (n_enumerate : PySem.W.nsIn K mainGlobals "enumerate" = some none)
    (n_int : PySem.W.nsIn K mainGlobals "int" = some none)
    (n_isinstance : PySem.W.nsIn K mainGlobals "isinstance" = some none)
    (n_len : PySem.W.nsIn K mainGlobals "len" = some none)
    (n_list : PySem.W.nsIn K mainGlobals "list" = some none)
    (n_min : PySem.W.nsIn K mainGlobals "min" = some none)
    (n_range : PySem.W.nsIn K mainGlobals "range" = some none)
    (n_reversed : PySem.W.nsIn K mainGlobals "reversed" = some none)
    (n_set : PySem.W.nsIn K mainGlobals "set" = some none)
    (n_sorted : PySem.W.nsIn K mainGlobals "sorted" = some none)
    (n_str : PySem.W.nsIn K mainGlobals "str" = some none)
    (v_MOST_ROWS : PySem.W.nsIn K mainGlobals "MOST_ROWS" = some (some (.int 16 tkc_MOST_ROWS)))
    (v_MOST_COLUMNS : PySem.W.nsIn K mainGlobals "MOST_COLUMNS" = some (some (.int 30 tkc_MOST_COLUMNS)))
    (v_MOST_POINTS : PySem.W.nsIn K mainGlobals "MOST_POINTS" = some (some (.int 12 tkc_MOST_POINTS)))
    (g_MIRRORED_SIDES : PySem.W.nsIn K mainGlobals "MIRRORED_SIDES" = some (some (.ref D_MIRRORED_SIDES)))
    (l_MIRRORED_SIDES : K.lookup D_MIRRORED_SIDES = some ⟨.type "dict", none, .dict #[⟨hashStr w "left", .str "left" ta0_MIRRORED_SIDES, .str "right" tb0_MIRRORED_SIDES⟩, ⟨hashStr w "right", .str "right" ta1_MIRRORED_SIDES, .str "left" tb1_MIRRORED_SIDES⟩, ⟨hashStr w "both", .str "both" ta2_MIRRORED_SIDES, .str "both" tb2_MIRRORED_SIDES⟩] ep_MIRRORED_SIDES, #[]⟩)
    (ns_MIRRORED_SIDES : (D_MIRRORED_SIDES == sysModules) = false)
    : ∃ t, Txt w K mg t :=
  ⟨⟨f_Seating_init, _, f_Seating_hand_on, _, f_Seating_crowd_with, _, f_crowds, _, f_fits, _, f_left_out, _, f_kept, _, f_Side_init, _, f_side_of, _, f_is_whole, _, f_is_name, _, f_Picture_init, _, f_Picture_put, _, T_Picture_put, f_Picture_open_seat, _, f_Picture_points, _, f_Picture_seats, _, f_Picture_may, _, f_Picture_seats_for, _, f_Picture_check_name, _, f_Picture_check_cell, _, f_Picture_check_lines, _, f_Picture_check_seat, _, f_law_cell_at, _, f_law_mix, _, f_law_frame, _, f_law_seats, _, f_law_numbers, _, f_law_point, _, f_law_points, _, f_law_put, _, f_law_picture, _, f_law_may, _, f_law_room, _, f_law_many, _, f_law_names, _, f_law_crowd, _, f_law_drawn_names, _, f_law_full, _, f_law_right, _, f_law, _, C_Seating, C_Side, C_LeftSide, C_RightSide, C_Picture, D_MIRRORED_SIDES⟩, {
    g_Seating := PySem.W.mg_of X G g_Seating
    g_Side := PySem.W.mg_of X G g_Side
    g_LeftSide := PySem.W.mg_of X G g_LeftSide
    g_RightSide := PySem.W.mg_of X G g_RightSide
    g_Picture := PySem.W.mg_of X G g_Picture
    F_Seating_init := fun_mk (st := s_Seating_init) l_Seating_init c_Seating_init k_Seating_init
    b_Seating_init := (fun_mk (st := s_Seating_init) l_Seating_init c_Seating_init k_Seating_init).binds (ps := ["self"]) fun _ _ _ _ _ _ us hl => match us, hl with | [_], _ => rfl
    F_Seating_hand_on := fun_mk (st := s_Seating_hand_on) l_Seating_hand_on c_Seating_hand_on k_Seating_hand_on
    b_Seating_hand_on := (fun_mk (st := s_Seating_hand_on) l_Seating_hand_on c_Seating_hand_on k_Seating_hand_on).binds (ps := ["self", "asked_by", "free_seat"]) fun _ _ _ _ _ _ us hl => match us, hl with | [_, _, _], _ => rfl
    F_Seating_crowd_with := fun_mk (st := s_Seating_crowd_with) l_Seating_crowd_with c_Seating_crowd_with k_Seating_crowd_with
    b_Seating_crowd_with := (fun_mk (st := s_Seating_crowd_with) l_Seating_crowd_with c_Seating_crowd_with k_Seating_crowd_with).binds (ps := ["self", "name", "rooms"]) fun _ _ _ _ _ _ us hl => match us, hl with | [_, _, _], _ => rfl
    g_crowds := PySem.W.mg_of X G a_crowds
    F_crowds := fun_mk (st := s_crowds) l_crowds c_crowds k_crowds
    b_crowds := (fun_mk (st := s_crowds) l_crowds c_crowds k_crowds).binds (ps := ["picture", "names"]) fun _ _ _ _ _ _ us hl => match us, hl with | [_, _], _ => rfl
    g_fits := PySem.W.mg_of X G a_fits
    F_fits := fun_mk (st := s_fits) l_fits c_fits k_fits
    b_fits := (fun_mk (st := s_fits) l_fits c_fits k_fits).binds (ps := ["picture", "names"]) fun _ _ _ _ _ _ us hl => match us, hl with | [_, _], _ => rfl
    g_left_out := PySem.W.mg_of X G a_left_out
    F_left_out := fun_mk (st := s_left_out) l_left_out c_left_out k_left_out
    b_left_out := (fun_mk (st := s_left_out) l_left_out c_left_out k_left_out).binds (ps := ["picture"]) fun _ _ _ _ _ _ us hl => match us, hl with | [_], _ => rfl
    g_kept := PySem.W.mg_of X G a_kept
    F_kept := fun_mk (st := s_kept) l_kept c_kept k_kept
    b_kept := (fun_mk (st := s_kept) l_kept c_kept k_kept).binds (ps := ["picture"]) fun _ _ _ _ _ _ us hl => match us, hl with | [_], _ => rfl
    F_Side_init := fun_mk (st := s_Side_init) l_Side_init c_Side_init k_Side_init
    b_Side_init := (fun_mk (st := s_Side_init) l_Side_init c_Side_init k_Side_init).binds (ps := ["self", "width"]) fun _ _ _ _ _ _ us hl => match us, hl with | [_, _], _ => rfl
    g_side_of := PySem.W.mg_of X G a_side_of
    F_side_of := fun_mk (st := s_side_of) l_side_of c_side_of k_side_of
    b_side_of := (fun_mk (st := s_side_of) l_side_of c_side_of k_side_of).binds (ps := ["word", "width"]) fun _ _ _ _ _ _ us hl => match us, hl with | [_, _], _ => rfl
    g_is_whole := PySem.W.mg_of X G a_is_whole
    F_is_whole := fun_mk (st := s_is_whole) l_is_whole c_is_whole k_is_whole
    b_is_whole := (fun_mk (st := s_is_whole) l_is_whole c_is_whole k_is_whole).binds (ps := ["thing", "low", "high"]) fun _ _ _ _ _ _ us hl => match us, hl with | [_, _, _], _ => rfl
    g_is_name := PySem.W.mg_of X G a_is_name
    F_is_name := fun_mk (st := s_is_name) l_is_name c_is_name k_is_name
    b_is_name := (fun_mk (st := s_is_name) l_is_name c_is_name k_is_name).binds (ps := ["thing"]) fun _ _ _ _ _ _ us hl => match us, hl with | [_], _ => rfl
    F_Picture_init := fun_mk (st := s_Picture_init) l_Picture_init c_Picture_init k_Picture_init
    b_Picture_init := (fun_mk (st := s_Picture_init) l_Picture_init c_Picture_init k_Picture_init).binds (ps := ["self", "width", "height"]) fun _ _ _ _ _ _ us hl => match us, hl with | [_, _, _], _ => rfl
    F_Picture_put := (fund_mk (st := s_Picture_put) l_Picture_put c_Picture_put k_Picture_put)
    b_Picture_put_4 := ⟨_, .cons (⟨_, rfl⟩) (.cons (⟨_, rfl⟩) (.cons (rfl) (.nil))), (fund_mk (st := s_Picture_put) l_Picture_put c_Picture_put k_Picture_put).binds t_Picture_put rfl 4 rfl fun _ _ _ _ _ _ us hl => match us, hl with | [_, _, _, _], _ => ⟨_, rfl, rfl⟩⟩
    b_Picture_put := (fund_mk (st := s_Picture_put) l_Picture_put c_Picture_put k_Picture_put).binds t_Picture_put rfl 7 rfl fun _ _ _ _ _ _ us hl => match us, hl with | [_, _, _, _, _, _, _], _ => ⟨_, rfl, rfl⟩
    F_Picture_open_seat := fun_mk (st := s_Picture_open_seat) l_Picture_open_seat c_Picture_open_seat k_Picture_open_seat
    b_Picture_open_seat := (fun_mk (st := s_Picture_open_seat) l_Picture_open_seat c_Picture_open_seat k_Picture_open_seat).binds (ps := ["self", "side", "row"]) fun _ _ _ _ _ _ us hl => match us, hl with | [_, _, _], _ => rfl
    F_Picture_points := fun_mk (st := s_Picture_points) l_Picture_points c_Picture_points k_Picture_points
    b_Picture_points := (fun_mk (st := s_Picture_points) l_Picture_points c_Picture_points k_Picture_points).binds (ps := ["self"]) fun _ _ _ _ _ _ us hl => match us, hl with | [_], _ => rfl
    F_Picture_seats := fun_mk (st := s_Picture_seats) l_Picture_seats c_Picture_seats k_Picture_seats
    b_Picture_seats := (fun_mk (st := s_Picture_seats) l_Picture_seats c_Picture_seats k_Picture_seats).binds (ps := ["self"]) fun _ _ _ _ _ _ us hl => match us, hl with | [_], _ => rfl
    F_Picture_may := fun_mk (st := s_Picture_may) l_Picture_may c_Picture_may k_Picture_may
    b_Picture_may := (fun_mk (st := s_Picture_may) l_Picture_may c_Picture_may k_Picture_may).binds (ps := ["self", "name", "side", "row"]) fun _ _ _ _ _ _ us hl => match us, hl with | [_, _, _, _], _ => rfl
    F_Picture_seats_for := fun_mk (st := s_Picture_seats_for) l_Picture_seats_for c_Picture_seats_for k_Picture_seats_for
    b_Picture_seats_for := (fun_mk (st := s_Picture_seats_for) l_Picture_seats_for c_Picture_seats_for k_Picture_seats_for).binds (ps := ["self", "name"]) fun _ _ _ _ _ _ us hl => match us, hl with | [_, _], _ => rfl
    F_Picture_check_name := fun_mk (st := s_Picture_check_name) l_Picture_check_name c_Picture_check_name k_Picture_check_name
    b_Picture_check_name := (fun_mk (st := s_Picture_check_name) l_Picture_check_name c_Picture_check_name k_Picture_check_name).binds (ps := ["self", "name"]) fun _ _ _ _ _ _ us hl => match us, hl with | [_, _], _ => rfl
    F_Picture_check_cell := fun_mk (st := s_Picture_check_cell) l_Picture_check_cell c_Picture_check_cell k_Picture_check_cell
    b_Picture_check_cell := (fun_mk (st := s_Picture_check_cell) l_Picture_check_cell c_Picture_check_cell k_Picture_check_cell).binds (ps := ["self", "x", "y"]) fun _ _ _ _ _ _ us hl => match us, hl with | [_, _, _], _ => rfl
    F_Picture_check_lines := fun_mk (st := s_Picture_check_lines) l_Picture_check_lines c_Picture_check_lines k_Picture_check_lines
    b_Picture_check_lines := (fun_mk (st := s_Picture_check_lines) l_Picture_check_lines c_Picture_check_lines k_Picture_check_lines).binds (ps := ["self", "name", "x", "y"]) fun _ _ _ _ _ _ us hl => match us, hl with | [_, _, _, _], _ => rfl
    F_Picture_check_seat := fun_mk (st := s_Picture_check_seat) l_Picture_check_seat c_Picture_check_seat k_Picture_check_seat
    b_Picture_check_seat := (fun_mk (st := s_Picture_check_seat) l_Picture_check_seat c_Picture_check_seat k_Picture_check_seat).binds (ps := ["self", "side", "row"]) fun _ _ _ _ _ _ us hl => match us, hl with | [_, _, _], _ => rfl
    g_law_cell_at := PySem.W.mg_of X G a_law_cell_at
    F_law_cell_at := fun_mk (st := s_law_cell_at) l_law_cell_at c_law_cell_at k_law_cell_at
    b_law_cell_at := (fun_mk (st := s_law_cell_at) l_law_cell_at c_law_cell_at k_law_cell_at).binds (ps := ["_law_script", "_law_k"]) fun _ _ _ _ _ _ us hl => match us, hl with | [_, _], _ => rfl
    g_law_mix := PySem.W.mg_of X G a_law_mix
    F_law_mix := fun_mk (st := s_law_mix) l_law_mix c_law_mix k_law_mix
    b_law_mix := (fun_mk (st := s_law_mix) l_law_mix c_law_mix k_law_mix).binds (ps := ["_law_cell", "_law_k"]) fun _ _ _ _ _ _ us hl => match us, hl with | [_, _], _ => rfl
    g_law_frame := PySem.W.mg_of X G a_law_frame
    F_law_frame := fun_mk (st := s_law_frame) l_law_frame c_law_frame k_law_frame
    b_law_frame := (fun_mk (st := s_law_frame) l_law_frame c_law_frame k_law_frame).binds (ps := ["_law_script"]) fun _ _ _ _ _ _ us hl => match us, hl with | [_], _ => rfl
    g_law_seats := PySem.W.mg_of X G a_law_seats
    F_law_seats := fun_mk (st := s_law_seats) l_law_seats c_law_seats k_law_seats
    b_law_seats := (fun_mk (st := s_law_seats) l_law_seats c_law_seats k_law_seats).binds (ps := ["_law_script", "_law_height"]) fun _ _ _ _ _ _ us hl => match us, hl with | [_, _], _ => rfl
    g_law_numbers := PySem.W.mg_of X G a_law_numbers
    F_law_numbers := fun_mk (st := s_law_numbers) l_law_numbers c_law_numbers k_law_numbers
    b_law_numbers := (fun_mk (st := s_law_numbers) l_law_numbers c_law_numbers k_law_numbers).binds (ps := ["_law_cell", "_law_digits", "_law_bases"]) fun _ _ _ _ _ _ us hl => match us, hl with | [_, _, _], _ => rfl
    g_law_point := PySem.W.mg_of X G a_law_point
    F_law_point := fun_mk (st := s_law_point) l_law_point c_law_point k_law_point
    b_law_point := (fun_mk (st := s_law_point) l_law_point c_law_point k_law_point).binds (ps := ["_law_numbers_here", "_law_name", "_law_x", "_law_y", "_law_height"]) fun _ _ _ _ _ _ us hl => match us, hl with | [_, _, _, _, _], _ => rfl
    g_law_points := PySem.W.mg_of X G a_law_points
    F_law_points := fun_mk (st := s_law_points) l_law_points c_law_points k_law_points
    b_law_points := (fun_mk (st := s_law_points) l_law_points c_law_points k_law_points).binds (ps := ["_law_cells", "_law_digits", "_law_width", "_law_height"]) fun _ _ _ _ _ _ us hl => match us, hl with | [_, _, _, _], _ => rfl
    g_law_put := PySem.W.mg_of X G a_law_put
    F_law_put := fun_mk (st := s_law_put) l_law_put c_law_put k_law_put
    b_law_put := (fun_mk (st := s_law_put) l_law_put c_law_put k_law_put).binds (ps := ["_law_picture_here", "_law_point_here"]) fun _ _ _ _ _ _ us hl => match us, hl with | [_, _], _ => rfl
    g_law_picture := PySem.W.mg_of X G a_law_picture
    F_law_picture := fun_mk (st := s_law_picture) l_law_picture c_law_picture k_law_picture
    b_law_picture := (fun_mk (st := s_law_picture) l_law_picture c_law_picture k_law_picture).binds (ps := ["_law_width", "_law_height", "_law_points_here", "_law_seats_here"]) fun _ _ _ _ _ _ us hl => match us, hl with | [_, _, _, _], _ => rfl
    g_law_may := PySem.W.mg_of X G a_law_may
    F_law_may := fun_mk (st := s_law_may) l_law_may c_law_may k_law_may
    b_law_may := (fun_mk (st := s_law_may) l_law_may c_law_may k_law_may).binds (ps := ["_law_point_here", "_law_seat"]) fun _ _ _ _ _ _ us hl => match us, hl with | [_, _], _ => rfl
    g_law_room := PySem.W.mg_of X G a_law_room
    F_law_room := fun_mk (st := s_law_room) l_law_room c_law_room k_law_room
    b_law_room := (fun_mk (st := s_law_room) l_law_room c_law_room k_law_room).binds (ps := ["_law_points_here", "_law_seats_here", "_law_names_here"]) fun _ _ _ _ _ _ us hl => match us, hl with | [_, _, _], _ => rfl
    g_law_many := PySem.W.mg_of X G a_law_many
    F_law_many := fun_mk (st := s_law_many) l_law_many c_law_many k_law_many
    b_law_many := (fun_mk (st := s_law_many) l_law_many c_law_many k_law_many).binds (ps := ["_law_mask"]) fun _ _ _ _ _ _ us hl => match us, hl with | [_], _ => rfl
    g_law_names := PySem.W.mg_of X G a_law_names
    F_law_names := fun_mk (st := s_law_names) l_law_names c_law_names k_law_names
    b_law_names := (fun_mk (st := s_law_names) l_law_names c_law_names k_law_names).binds (ps := ["_law_found", "_law_some"]) fun _ _ _ _ _ _ us hl => match us, hl with | [_, _], _ => rfl
    g_law_crowd := PySem.W.mg_of X G a_law_crowd
    F_law_crowd := fun_mk (st := s_law_crowd) l_law_crowd c_law_crowd k_law_crowd
    b_law_crowd := (fun_mk (st := s_law_crowd) l_law_crowd c_law_crowd k_law_crowd).binds (ps := ["_law_points_here", "_law_seats_here", "_law_found", "_law_some"]) fun _ _ _ _ _ _ us hl => match us, hl with | [_, _, _, _], _ => rfl
    g_law_drawn_names := PySem.W.mg_of X G a_law_drawn_names
    F_law_drawn_names := fun_mk (st := s_law_drawn_names) l_law_drawn_names c_law_drawn_names k_law_drawn_names
    b_law_drawn_names := (fun_mk (st := s_law_drawn_names) l_law_drawn_names c_law_drawn_names k_law_drawn_names).binds (ps := ["_law_points_here", "_law_cell", "_law_digits"]) fun _ _ _ _ _ _ us hl => match us, hl with | [_, _, _], _ => rfl
    g_law_full := PySem.W.mg_of X G a_law_full
    F_law_full := fun_mk (st := s_law_full) l_law_full c_law_full k_law_full
    b_law_full := (fun_mk (st := s_law_full) l_law_full c_law_full k_law_full).binds (ps := ["_law_points_here", "_law_seats_here", "_law_out"]) fun _ _ _ _ _ _ us hl => match us, hl with | [_, _, _], _ => rfl
    g_law_right := PySem.W.mg_of X G a_law_right
    F_law_right := fun_mk (st := s_law_right) l_law_right c_law_right k_law_right
    b_law_right := (fun_mk (st := s_law_right) l_law_right c_law_right k_law_right).binds (ps := ["_law_picture_here", "_law_points_here", "_law_seats_here", "_law_names_here", "_law_most"]) fun _ _ _ _ _ _ us hl => match us, hl with | [_, _, _, _, _], _ => rfl
    g_law := PySem.W.mg_of X G a_law
    F_law := fun_mk (st := s_law) l_law c_law k_law
    b_law := (fun_mk (st := s_law) l_law c_law k_law).binds (ps := ["_law_script"]) fun _ _ _ _ _ _ us hl => match us, hl with | [_], _ => rfl
    c_Seating := ⟨pg_Seating, hd_Seating, po_Seating, sa_Seating⟩
    ca_Seating := ca_Seating
    mo_Seating := mo_Seating
    k_Seating := ⟨mk_Seating, a_Seating_init, i_Seating_init, kc_Seating⟩
    m_Seating_hand_on := ⟨a_Seating_hand_on, i_Seating_hand_on, k_Seating_hand_on⟩
    m_Seating_crowd_with := ⟨a_Seating_crowd_with, i_Seating_crowd_with, k_Seating_crowd_with⟩
    c_Side := ⟨pg_Side, hd_Side, po_Side, sa_Side⟩
    ca_Side := ca_Side
    mo_Side := mo_Side
    k_Side := ⟨mk_Side, a_Side_init, i_Side_init, kc_Side⟩
    c_LeftSide := ⟨pg_LeftSide, hd_LeftSide, po_LeftSide, sa_LeftSide⟩
    ca_LeftSide := ca_LeftSide
    mo_LeftSide := mo_LeftSide
    k_LeftSide := ⟨mk_LeftSide, a_LeftSide_init, i_Side_init, kc_LeftSide⟩
    c_RightSide := ⟨pg_RightSide, hd_RightSide, po_RightSide, sa_RightSide⟩
    ca_RightSide := ca_RightSide
    mo_RightSide := mo_RightSide
    k_RightSide := ⟨mk_RightSide, a_RightSide_init, i_Side_init, kc_RightSide⟩
    c_Picture := ⟨pg_Picture, hd_Picture, po_Picture, sa_Picture⟩
    ca_Picture := ca_Picture
    mo_Picture := mo_Picture
    k_Picture := ⟨mk_Picture, a_Picture_init, i_Picture_init, kc_Picture⟩
    m_Picture_put := ⟨a_Picture_put, i_Picture_put, k_Picture_put⟩
    m_Picture_open_seat := ⟨a_Picture_open_seat, i_Picture_open_seat, k_Picture_open_seat⟩
    m_Picture_points := ⟨a_Picture_points, i_Picture_points, k_Picture_points⟩
    m_Picture_seats := ⟨a_Picture_seats, i_Picture_seats, k_Picture_seats⟩
    m_Picture_may := ⟨a_Picture_may, i_Picture_may, k_Picture_may⟩
    m_Picture_seats_for := ⟨a_Picture_seats_for, i_Picture_seats_for, k_Picture_seats_for⟩
    m_Picture_check_name := ⟨a_Picture_check_name, i_Picture_check_name, k_Picture_check_name⟩
    m_Picture_check_cell := ⟨a_Picture_check_cell, i_Picture_check_cell, k_Picture_check_cell⟩
    m_Picture_check_lines := ⟨a_Picture_check_lines, i_Picture_check_lines, k_Picture_check_lines⟩
    m_Picture_check_seat := ⟨a_Picture_check_seat, i_Picture_check_seat, k_Picture_check_seat⟩
    cg := cg
    ct := ct
    n_Picture_placed := n_Picture_placed
    n_Picture_height := n_Picture_height
    n_Picture_width := n_Picture_width
    n_Picture_opened := n_Picture_opened
    n_Seating_holder_of := n_Seating_holder_of
    n_Seating_seat_of := n_Seating_seat_of
    n_Side_width := n_Side_width
    n_LeftSide_width := n_LeftSide_width
    n_RightSide_width := n_RightSide_width
    n_bool := PySem.W.mg_none_of X G n_bool
    n_dict := PySem.W.mg_none_of X G n_dict
    n_enumerate := PySem.W.mg_none_of X G n_enumerate
    n_int := PySem.W.mg_none_of X G n_int
    n_isinstance := PySem.W.mg_none_of X G n_isinstance
    n_len := PySem.W.mg_none_of X G n_len
    n_list := PySem.W.mg_none_of X G n_list
    n_min := PySem.W.mg_none_of X G n_min
    n_range := PySem.W.mg_none_of X G n_range
    n_reversed := PySem.W.mg_none_of X G n_reversed
    n_set := PySem.W.mg_none_of X G n_set
    n_sorted := PySem.W.mg_none_of X G n_sorted
    n_str := PySem.W.mg_none_of X G n_str
    v_MOST_ROWS := ⟨_, PySem.W.mg_of X G v_MOST_ROWS⟩
    v_MOST_COLUMNS := ⟨_, PySem.W.mg_of X G v_MOST_COLUMNS⟩
    v_MOST_POINTS := ⟨_, PySem.W.mg_of X G v_MOST_POINTS⟩
    g_MIRRORED_SIDES := PySem.W.mg_of X G g_MIRRORED_SIDES
    D_MIRRORED_SIDES := ⟨ns_MIRRORED_SIDES, _, _, l_MIRRORED_SIDES, .cons rfl ⟨_, rfl⟩ ⟨_, rfl⟩ (.cons rfl ⟨_, rfl⟩ ⟨_, rfl⟩ (.cons rfl ⟨_, rfl⟩ ⟨_, rfl⟩ (.nil))), by decide⟩ }⟩
theorem sc_Seating_init : FnScope ["self"] ["self"] (defScope s_Seating_init) := ⟨rfl, rfl, rfl, by decide +kernel, rfl, by decide +kernel, by decide +kernel⟩
theorem sc_Seating_hand_on : FnScope ["self", "asked_by", "free_seat", "seat", "name", "left_behind"] ["self", "asked_by", "free_seat"] (defScope s_Seating_hand_on) := ⟨rfl, rfl, rfl, by decide +kernel, rfl, by decide +kernel, by decide +kernel⟩
theorem sc_Seating_crowd_with : FnScope ["self", "name", "rooms", "crowd", "asked_by", "number", "asker", "seat"] ["self", "name", "rooms"] (defScope s_Seating_crowd_with) := ⟨rfl, rfl, rfl, by decide +kernel, rfl, by decide +kernel, by decide +kernel⟩
theorem sc_crowds : FnScope ["picture", "names", "rooms", "seating", "found", "name", "crowd"] ["picture", "names"] (defScope s_crowds) := ⟨rfl, rfl, rfl, by decide +kernel, rfl, by decide +kernel, by decide +kernel⟩
theorem sc_fits : FnScope ["picture", "names", "found"] ["picture", "names"] (defScope s_fits) := ⟨rfl, rfl, rfl, by decide +kernel, rfl, by decide +kernel, by decide +kernel⟩
theorem sc_left_out : FnScope ["picture", "names"] ["picture"] (defScope s_left_out) := ⟨rfl, rfl, rfl, by decide +kernel, rfl, by decide +kernel, by decide +kernel⟩
theorem sc_kept : FnScope ["picture", "out"] ["picture"] (defScope s_kept) := ⟨rfl, rfl, rfl, by decide +kernel, rfl, by decide +kernel, by decide +kernel⟩
theorem sc_Side_init : FnScope ["self", "width"] ["self", "width"] (defScope s_Side_init) := ⟨rfl, rfl, rfl, by decide +kernel, rfl, by decide +kernel, by decide +kernel⟩
theorem sc_side_of : FnScope ["word", "width"] ["word", "width"] (defScope s_side_of) := ⟨rfl, rfl, rfl, by decide +kernel, rfl, by decide +kernel, by decide +kernel⟩
theorem sc_is_whole : FnScope ["thing", "low", "high"] ["thing", "low", "high"] (defScope s_is_whole) := ⟨rfl, rfl, rfl, by decide +kernel, rfl, by decide +kernel, by decide +kernel⟩
theorem sc_is_name : FnScope ["thing"] ["thing"] (defScope s_is_name) := ⟨rfl, rfl, rfl, by decide +kernel, rfl, by decide +kernel, by decide +kernel⟩
theorem sc_Picture_init : FnScope ["self", "width", "height"] ["self", "width", "height"] (defScope s_Picture_init) := ⟨rfl, rfl, rfl, by decide +kernel, rfl, by decide +kernel, by decide +kernel⟩
theorem sc_Picture_put : FnScope ["self", "name", "x", "y", "sides", "low", "high", "highest"] ["self", "name", "x", "y", "sides", "low", "high"] (defScope s_Picture_put) := ⟨rfl, rfl, rfl, by decide +kernel, rfl, by decide +kernel, by decide +kernel⟩
theorem sc_Picture_open_seat : FnScope ["self", "side", "row"] ["self", "side", "row"] (defScope s_Picture_open_seat) := ⟨rfl, rfl, rfl, by decide +kernel, rfl, by decide +kernel, by decide +kernel⟩
theorem sc_Picture_points : FnScope ["self"] ["self"] (defScope s_Picture_points) := ⟨rfl, rfl, rfl, by decide +kernel, rfl, by decide +kernel, by decide +kernel⟩
theorem sc_Picture_seats : FnScope ["self"] ["self"] (defScope s_Picture_seats) := ⟨rfl, rfl, rfl, by decide +kernel, rfl, by decide +kernel, by decide +kernel⟩
theorem sc_Picture_may : FnScope ["self", "name", "side", "row", "x", "y", "sides", "low", "high"] ["self", "name", "side", "row"] (defScope s_Picture_may) := ⟨rfl, rfl, rfl, by decide +kernel, rfl, by decide +kernel, by decide +kernel⟩
theorem sc_Picture_seats_for : FnScope ["self", "name"] ["self", "name"] (defScope s_Picture_seats_for) := ⟨rfl, rfl, rfl, by decide +kernel, rfl, by decide +kernel, by decide +kernel⟩
theorem sc_Picture_check_name : FnScope ["self", "name"] ["self", "name"] (defScope s_Picture_check_name) := ⟨rfl, rfl, rfl, by decide +kernel, rfl, by decide +kernel, by decide +kernel⟩
theorem sc_Picture_check_cell : FnScope ["self", "x", "y"] ["self", "x", "y"] (defScope s_Picture_check_cell) := ⟨rfl, rfl, rfl, by decide +kernel, rfl, by decide +kernel, by decide +kernel⟩
theorem sc_Picture_check_lines : FnScope ["self", "name", "x", "y", "others", "other"] ["self", "name", "x", "y"] (defScope s_Picture_check_lines) := ⟨rfl, rfl, rfl, by decide +kernel, rfl, by decide +kernel, by decide +kernel⟩
theorem sc_Picture_check_seat : FnScope ["self", "side", "row"] ["self", "side", "row"] (defScope s_Picture_check_seat) := ⟨rfl, rfl, rfl, by decide +kernel, rfl, by decide +kernel, by decide +kernel⟩
theorem sc_law_cell_at : FnScope ["_law_script", "_law_k"] ["_law_script", "_law_k"] (defScope s_law_cell_at) := ⟨rfl, rfl, rfl, by decide +kernel, rfl, by decide +kernel, by decide +kernel⟩
theorem sc_law_mix : FnScope ["_law_cell", "_law_k", "_law_number"] ["_law_cell", "_law_k"] (defScope s_law_mix) := ⟨rfl, rfl, rfl, by decide +kernel, rfl, by decide +kernel, by decide +kernel⟩
theorem sc_law_frame : FnScope ["_law_script", "_law_cell", "_law_width", "_law_height"] ["_law_script"] (defScope s_law_frame) := ⟨rfl, rfl, rfl, by decide +kernel, rfl, by decide +kernel, by decide +kernel⟩
theorem sc_law_seats : FnScope ["_law_script", "_law_height", "_law_cell", "_law_digits", "_law_thick", "_law_seats_here", "_law_k", "_law_side", "_law_row"] ["_law_script", "_law_height"] (defScope s_law_seats) := ⟨rfl, rfl, rfl, by decide +kernel, rfl, by decide +kernel, by decide +kernel⟩
theorem sc_law_numbers : FnScope ["_law_cell", "_law_digits", "_law_bases", "_law_numbers_here", "_law_k", "_law_base"] ["_law_cell", "_law_digits", "_law_bases"] (defScope s_law_numbers) := ⟨rfl, rfl, rfl, by decide +kernel, rfl, by decide +kernel, by decide +kernel⟩
theorem sc_law_point : FnScope ["_law_numbers_here", "_law_name", "_law_x", "_law_y", "_law_height", "_law_sides", "_law_low", "_law_high", "_law_way"] ["_law_numbers_here", "_law_name", "_law_x", "_law_y", "_law_height"] (defScope s_law_point) := ⟨rfl, rfl, rfl, by decide +kernel, rfl, by decide +kernel, by decide +kernel⟩
theorem sc_law_points : FnScope ["_law_cells", "_law_digits", "_law_width", "_law_height", "_law_columns", "_law_rows", "_law_letters", "_law_points_here", "_law_cell", "_law_numbers_here", "_law_x", "_law_y", "_law_name"] ["_law_cells", "_law_digits", "_law_width", "_law_height"] (defScope s_law_points) := ⟨rfl, rfl, rfl, by decide +kernel, rfl, by decide +kernel, by decide +kernel⟩
theorem sc_law_put : FnScope ["_law_picture_here", "_law_point_here", "_law_name", "_law_x", "_law_y", "_law_sides", "_law_low", "_law_high"] ["_law_picture_here", "_law_point_here"] (defScope s_law_put) := ⟨rfl, rfl, rfl, by decide +kernel, rfl, by decide +kernel, by decide +kernel⟩
theorem sc_law_picture : FnScope ["_law_width", "_law_height", "_law_points_here", "_law_seats_here", "_law_picture_here", "_law_side", "_law_row", "_law_point_here"] ["_law_width", "_law_height", "_law_points_here", "_law_seats_here"] (defScope s_law_picture) := ⟨rfl, rfl, rfl, by decide +kernel, rfl, by decide +kernel, by decide +kernel⟩
theorem sc_law_may : FnScope ["_law_point_here", "_law_seat", "_law_side", "_law_row"] ["_law_point_here", "_law_seat"] (defScope s_law_may) := ⟨rfl, rfl, rfl, by decide +kernel, rfl, by decide +kernel, by decide +kernel⟩
theorem sc_law_room : FnScope ["_law_points_here", "_law_seats_here", "_law_names_here", "_law_mask", "_law_point_here", "_law_k", "_law_seat"] ["_law_points_here", "_law_seats_here", "_law_names_here"] (defScope s_law_room) := ⟨rfl, rfl, rfl, by decide +kernel, rfl, by decide +kernel, by decide +kernel⟩
theorem sc_law_many : FnScope ["_law_mask", "_law_many_here"] ["_law_mask"] (defScope s_law_many) := ⟨rfl, rfl, rfl, by decide +kernel, rfl, by decide +kernel, by decide +kernel⟩
theorem sc_law_names : FnScope ["_law_found", "_law_some", "_law_name"] ["_law_found", "_law_some"] (defScope s_law_names) := ⟨rfl, rfl, rfl, by decide +kernel, rfl, by decide +kernel, by decide +kernel⟩
theorem sc_law_crowd : FnScope ["_law_points_here", "_law_seats_here", "_law_found", "_law_some"] ["_law_points_here", "_law_seats_here", "_law_found", "_law_some"] (defScope s_law_crowd) := ⟨rfl, rfl, rfl, by decide +kernel, rfl, by decide +kernel, by decide +kernel⟩
theorem sc_law_drawn_names : FnScope ["_law_points_here", "_law_cell", "_law_digits", "_law_names_here", "_law_some", "_law_k", "_law_place", "_law_chance", "_law_name"] ["_law_points_here", "_law_cell", "_law_digits"] (defScope s_law_drawn_names) := ⟨rfl, rfl, rfl, by decide +kernel, rfl, by decide +kernel, by decide +kernel⟩
theorem sc_law_full : FnScope ["_law_points_here", "_law_seats_here", "_law_out", "_law_holders", "_law_name", "_law_some", "_law_gone"] ["_law_points_here", "_law_seats_here", "_law_out"] (defScope s_law_full) := ⟨rfl, rfl, rfl, by decide +kernel, rfl, by decide +kernel, by decide +kernel⟩
theorem sc_law_right : FnScope ["_law_picture_here", "_law_points_here", "_law_seats_here", "_law_names_here", "_law_most", "_law_found"] ["_law_picture_here", "_law_points_here", "_law_seats_here", "_law_names_here", "_law_most"] (defScope s_law_right) := ⟨rfl, rfl, rfl, by decide +kernel, rfl, by decide +kernel, by decide +kernel⟩
theorem sc_law : FnScope ["_law_script", "_law_width", "_law_height", "_law_seats_here", "_law_digits", "_law_points_here", "_law_picture_here", "_law_keep", "_law_out", "_law_lists", "_law_cell", "_law_names_here", "_law_name", "_law_holders"] ["_law_script"] (defScope s_law) := ⟨rfl, rfl, rfl, by decide +kernel, rfl, by decide +kernel, by decide +kernel⟩
end S34
set_option maxRecDepth 100000
set_option maxHeartbeats 4000000
namespace S34
open PySem L2 XL PyProof.Rows
theorem kit_same {K : PySem.W.Frag} {v : Value} : PySem.W.kitOne K v v = some true := if_pos (by simp)
theorem same_upd {H H' : Hp} {p : Addr} {o : HO} (s : Same H H') (hp : H' p = none) : Same H (L2.upd H' p o) := fun b u z => by
  have z' := s b u z
  rw [upd_ne (ne_of_none z' hp)]
  exact z'
theorem same2 {H : Hp} {x dx : Addr} {a b c : HO} (hx : H x = none) (hd : H dx = none) : Same H (upd (upd (upd H dx a) x b) x c) := fun y o e => by
  rw [upd_ne (ne_of_none e hx), upd_ne (ne_of_none e hx), upd_ne (ne_of_none e hd)]
  exact e
def sideW (b : Bool) : Str := if b then "left" else "right"
def SideAt (t : Adr) (H : Hp) (p : Addr) (b : Bool) (w : Int) : Prop := ∃ dx, H p = some (.ins (if b then t.C_LeftSide else t.C_RightSide) dx [("width", .int w)])
def spInit (K : PySem.W.Frag) : Sp := fun vs H Q _ => ∃ (p C dx : Addr) (n : Int), vs = [.ref p, .int n] ∧ H p = some (.ins C dx []) ∧ Cls K C ∧ NoAttr K C "width" ∧ Q .non (upd H p (.ins C dx [("width", .int n)]))
def sp1 (v : V) : Sp := fun vs H Q _ => ∃ p : V, vs = [p] ∧ Q v H
def spSideOf (t : Adr) : Sp := fun vs H Q _ => ∃ (b : Bool) (n : Int), vs = [.str (sideW b), .int n] ∧ ∀ p H', H p = none → SideAt t H' p b n → Same H H' → Q (.ref p) H'
section
variable {P : Program} {w : World} {K : PySem.W.Frag} {mg : Str → Option Value} {base : Heap} {t : Adr}
theorem ok_Side_init (T : Txt w K mg t) : FnOk true P w K mg base (CXo P w) 1 t.f_Side_init t.d_Side_init ["self", "width"] (spInit K) := by
  refine T.F_Side_init.okn (k := 0) sc_Side_init (fun vs H Q E h => ?_) (fun cdv A outer s H vs Q E hr h => ?_)
  · obtain ⟨p, C, dx, n, rfl, _⟩ := h
    rfl
  · obtain ⟨p, C, dx, n, rfl, h⟩ := h
    refine ⟨_, pss_one (ps_fld (pv 0) (pv 1) rfl), ?_⟩
    obtain ⟨hp, c, na, q⟩ := h
    exact ⟨_, rfl, _, rfl, p, C, dx, [], rfl, hp, c, na, (by show 0 < 1000; decide), q⟩
theorem ok_side_of (T : Txt w K mg t) : FnOk true P w K mg base (CXo P w) 3 t.f_side_of t.d_side_of ["word", "width"] (spSideOf t) := by
  refine T.F_side_of.okn (k := 2) sc_side_of (fun vs H Q E h => ?_) (fun cdv A outer s H vs Q E hr h => ?_)
  · obtain ⟨b, n, rfl, _⟩ := h
    rfl
  · obtain ⟨b, n, rfl, h⟩ := h
    refine ⟨_, pss_cons (ps_if (pt_val (pe_callB call_isin rfl T.n_isinstance boot_isinstance (pa_cons (pv 0) (pa_cons (pe_bltn (v := .ty "str") rfl T.n_str boot_str rfl) (pa_nil))))) (pss_cons (ps_if (pt_cmpR op_eq (pv 0) (pe_str) (nomark _)) (pss_one (ps_ret (pe_make T.k_LeftSide (ok_Side_init T) (hr.mono (by decide)) rfl T.g_LeftSide T.b_Side_init .nil pass_none (pa_cons (pv 1) (pa_nil))))) (pss_nil))
      (pss_one (ps_if (pt_cmpR op_eq (pv 0) (pe_str) (nomark _)) (pss_one (ps_ret (pe_make T.k_RightSide (ok_Side_init T) (hr.mono (by decide)) rfl T.g_RightSide T.b_Side_init .nil pass_none (pa_cons (pv 1) (pa_nil))))) (pss_nil)))) (pss_nil))
      (pss_one (ps_never)), ?_⟩
    cases b with
    | true =>
      refine ⟨_, rfl, _, _, rfl, .inl ⟨_, _, true, .str _, rfl, kit_same, true, rfl, iteT ?_⟩⟩
      refine ⟨_, rfl, rfl, _, rfl, ?_⟩
      refine ifP (by decide +kernel) ?_
      exact ⟨_, rfl, fun x dx hx hdx ne => ⟨x, t.C_LeftSide, dx, n, rfl, upd_same, T.c_LeftSide, T.n_LeftSide_width, rfl, h x _ hx ⟨dx, upd_same⟩ (same2 hx hdx)⟩⟩
    | false =>
      refine ⟨_, rfl, _, _, rfl, .inl ⟨_, _, true, .str _, rfl, kit_same, true, rfl, iteT ?_⟩⟩
      refine ⟨_, rfl, rfl, _, rfl, ?_⟩
      refine ifN (by decide +kernel) ?_
      refine ⟨_, rfl, rfl, _, rfl, ?_⟩
      refine ifP (by decide +kernel) ?_
      exact ⟨_, rfl, fun x dx hx hdx ne => ⟨x, t.C_RightSide, dx, n, rfl, upd_same, T.c_RightSide, T.n_RightSide_width, rfl, h x _ hx ⟨dx, upd_same⟩ (same2 hx hdx)⟩⟩
end
def isNm (x : Str) : Bool := decide (x.length = 1) && (!decide (x.cps.toList < [97]) && !decide ([122] < x.cps.toList))
def spIsW : Sp := fun vs H Q _ => ∃ (i lo hi : Int), vs = [.int i, .int lo, .int hi] ∧ lo ≤ i ∧ i ≤ hi ∧ Q (.bl true) H
def spIsN : Sp := fun vs H Q _ => ∃ (x : Str), vs = [.str x] ∧ isNm x = true ∧ Q (.bl true) H
theorem a_cps : ("a" : Str).cps.toList = [97] := by decide +kernel
theorem z_cps : ("z" : Str).cps.toList = [122] := by decide +kernel
section
variable {P : Program} {w : World} {K : PySem.W.Frag} {mg : Str → Option Value} {base : Heap} {t : Adr}
theorem ok_is_whole (T : Txt w K mg t) : FnOk true P w K mg base (CXo P w) 1 t.f_is_whole t.d_is_whole ["thing", "low", "high"] (spIsW) := by
  refine T.F_is_whole.okn (k := 0) sc_is_whole (fun vs H Q E h => ?_) (fun cdv A outer s H vs Q E hr h => ?_)
  · obtain ⟨i, lo, hi, rfl, _⟩ := h
    rfl
  · obtain ⟨i, lo, hi, rfl, h⟩ := h
    refine ⟨_, pss_one (ps_ret (pe_and (pe_callB call_isin rfl T.n_isinstance boot_isinstance (pa_cons (pv 0) (pa_cons (pe_bltn (v := .ty "int") rfl T.n_int boot_int rfl) (pa_nil)))) (pe_and (pe_not (pe_callB call_isin rfl T.n_isinstance boot_isinstance (pa_cons (pv 0) (pa_cons (pe_bltn (v := .ty "bool") rfl T.n_bool boot_bool rfl) (pa_nil))))) (pe_one (pe_chain op_le op_le (pv 1) (pv 0) (pv 2)))))), ?_⟩
    obtain ⟨c1, c2, q⟩ := h
    refine ⟨_, rfl, _, _, rfl, .inl ⟨_, _, true, .int i, rfl, kit_same, true, rfl, iteT ?_⟩⟩
    refine ⟨_, rfl, _, _, rfl, .inl ⟨_, _, false, .int i, rfl, (by rfl), false, rfl, true, rfl, iteT ?_⟩⟩
    refine ⟨_, rfl, _, rfl, _, _, rfl, rfl, _, rfl, ite2 (fun c => ?_) (fun c => ?_)⟩
    · refine ⟨_, rfl, _, _, rfl, rfl, ?_⟩
      show Q (.bl (decide (i ≤ hi))) H
      rw [decide_eq_true c2]
      exact q
    · exact absurd (decide_eq_true c1) c
theorem ok_is_name (T : Txt w K mg t) : FnOk true P w K mg base (CXo P w) 1 t.f_is_name t.d_is_name ["thing"] (spIsN) := by
  refine T.F_is_name.okn (k := 0) sc_is_name (fun vs H Q E h => ?_) (fun cdv A outer s H vs Q E hr h => ?_)
  · obtain ⟨x, rfl, _⟩ := h
    rfl
  · obtain ⟨x, rfl, h⟩ := h
    refine ⟨_, pss_one (ps_ret (pe_and (pe_callB call_isin rfl T.n_isinstance boot_isinstance (pa_cons (pv 0) (pa_cons (pe_bltn (v := .ty "str") rfl T.n_str boot_str rfl) (pa_nil)))) (pe_and (pe_cmpR op_eq (pe_callB call_len_str rfl T.n_len boot_len (pa_cons (pv 0) (pa_nil))) (pe_int) (nomark _)) (pe_one (pe_chain op_le_str op_le_str (pe_str) (pv 0) (pe_str)))))), ?_⟩
    obtain ⟨hn, q⟩ := h
    unfold isNm at hn
    simp only [Bool.and_eq_true, decide_eq_true_eq, Bool.not_eq_true', decide_eq_false_iff_not] at hn
    obtain ⟨l1, n1, n2⟩ := hn
    refine ⟨_, rfl, _, _, rfl, .inl ⟨_, _, true, .str x, rfl, kit_same, true, rfl, iteT ?_⟩⟩
    refine ⟨_, rfl, _, rfl, (by rw [l1]; decide), rfl, _, rfl, ite2 (fun c => ?_) (fun c => ?_)⟩
    · refine ⟨_, rfl, _, _, rfl, rfl, _, rfl, ite2 (fun d => ?_) (fun d => ?_)⟩
      · refine ⟨_, _, rfl, rfl, ?_⟩
        rw [z_cps, decide_eq_false n2]
        exact q
      · rw [a_cps, decide_eq_false n1] at d
        exact absurd rfl d
    · exact absurd (decide_eq_true (by rw [l1]; rfl)) c
end
section
end
end S34
set_option maxRecDepth 100000
set_option maxHeartbeats 4000000
namespace S34
open PySem L2 XL PyProof.Rows
structure Pt where
  nm : Str
  x : Int
  y : Int
  sd : Str
  lo : Int
  hi : Int
def ptV (p : Pt) : List V := [.int p.x, .int p.y, .str p.sd, .int p.lo, .int p.hi]
inductive Pl (H : Hp) : List Pt → List (Key × V) → Prop
  | nil : Pl H [] []
  | cons {p : Pt} {q : Addr} {ps : List Pt} {kvs : List (Key × V)} (h : H q = some (.tup (ptV p))) (r : Pl H ps kvs) : Pl H (p :: ps) ((.inr p.nm, .ref q) :: kvs)
inductive PtsL (H : Hp) : List Pt → List Addr → Prop
  | nil : PtsL H [] []
  | cons {p : Pt} {q : Addr} {ps : List Pt} {qs : List Addr} (h : H q = some (.tup (.str p.nm :: ptV p))) (r : PtsL H ps qs) : PtsL H (p :: ps) (q :: qs)
theorem tT_if {σ : L2.St} {H : Hp} {A B : Hp → Prop} (h : A H) : tTrue σ H (fun b H4 => if b = true then A H4 else B H4) := by
  show if true = true then A H else B H
  rw [if_pos rfl]
  exact h
def Tups (H H' : Hp) : Prop := ∀ b xs, H b = some (.tup xs) → H' b = some (.tup xs)
theorem Pl.keep {H H' : Hp} (s : Tups H H') {ps : List Pt} {kvs : List (Key × V)} (h : Pl H ps kvs) : Pl H' ps kvs := by
  induction h with
  | nil => exact .nil
  | cons h _ ih => exact .cons (s _ _ h) ih
theorem PtsL.keep {H H' : Hp} (s : Tups H H') {ps : List Pt} {qs : List Addr} (h : PtsL H ps qs) : PtsL H' ps qs := by
  induction h with
  | nil => exact .nil
  | cons h _ ih => exact .cons (s _ _ h) ih
theorem Pl.len {H : Hp} {ps : List Pt} {kvs : List (Key × V)} (h : Pl H ps kvs) : kvs.length = ps.length := by
  induction h with
  | nil => rfl
  | cons _ _ ih => simp [ih]
theorem PtsL.len {H : Hp} {ps : List Pt} {qs : List Addr} (h : PtsL H ps qs) : qs.length = ps.length := by
  induction h with
  | nil => rfl
  | cons _ _ ih => simp [ih]
theorem Pl.find {H : Hp} {ps : List Pt} {kvs : List (Key × V)} (h : Pl H ps kvs) {nm : Str} {pt : Pt} (e : ps.find? (fun p => decide (p.nm = nm)) = some pt) : ∃ q, valV kvs (.inr nm) = some (.ref q) ∧ H q = some (.tup (ptV pt)) := by
  induction h with
  | nil => simp at e
  | @cons p q ps kvs h _ ih =>
    by_cases c : p.nm = nm
    · rw [List.find?_cons_of_pos (by simpa using c)] at e
      cases e
      exact ⟨q, valV_pos (by rw [c]), h⟩
    · rw [List.find?_cons_of_neg (by simpa using c)] at e
      obtain ⟨q', h1, h2⟩ := ih e
      exact ⟨q', by rw [valV_neg (fun z => c (Sum.inr.inj z))]; exact h1, h2⟩
theorem Pl.no {H : Hp} {ps : List Pt} {kvs : List (Key × V)} (h : Pl H ps kvs) {nm : Str} (e : ∀ p ∈ ps, p.nm ≠ nm) : valV kvs (.inr nm) = none := by
  induction h with
  | nil => rfl
  | @cons p q ps kvs h _ ih =>
    rw [valV_neg (fun z => e p List.mem_cons_self (Sum.inr.inj z))]
    exact ih fun p' hp => e p' (List.mem_cons_of_mem _ hp)
theorem Pl.get {H : Hp} {ps : List Pt} {kvs : List (Key × V)} (h : Pl H ps kvs) {i : Nat} {k : Key} {x : V} (e : kvs[i]? = some (k, x)) : ∃ p q, ps[i]? = some p ∧ k = .inr p.nm ∧ x = .ref q ∧ H q = some (.tup (ptV p)) := by
  induction h generalizing i with
  | nil => simp at e
  | @cons p q ps kvs h _ ih =>
    cases i with
    | zero =>
      simp at e
      exact ⟨p, q, rfl, e.1.symm, e.2.symm, h⟩
    | succ j => exact ih (by simpa using e)
theorem PtsL.get {H : Hp} {ps : List Pt} {qs : List Addr} (h : PtsL H ps qs) {i : Nat} {q : Addr} (e : qs[i]? = some q) : ∃ p, ps[i]? = some p ∧ H q = some (.tup (.str p.nm :: ptV p)) := by
  induction h generalizing i with
  | nil => simp at e
  | @cons p q' ps qs h _ ih =>
    cases i with
    | zero =>
      simp at e
      subst e
      exact ⟨p, rfl, h⟩
    | succ j => exact ih (by simpa using e)
theorem Pl.snoc {H : Hp} {ps : List Pt} {kvs : List (Key × V)} (h : Pl H ps kvs) {p : Pt} {q : Addr} (e : H q = some (.tup (ptV p))) : Pl H (ps ++ [p]) (kvs ++ [(.inr p.nm, .ref q)]) := by
  induction h with
  | nil => exact .cons e .nil
  | cons h _ ih => exact .cons h ih
theorem PtsL.snoc {H : Hp} {ps : List Pt} {qs : List Addr} (h : PtsL H ps qs) {p : Pt} {q : Addr} (e : H q = some (.tup (.str p.nm :: ptV p))) : PtsL H (ps ++ [p]) (qs ++ [q]) := by
  induction h with
  | nil => exact .cons e .nil
  | cons h _ ih => exact .cons h ih
abbrev picF (w h : Int) (dp do_ : Addr) : List (Str × V) := [("width", .int w), ("height", .int h), ("placed", .ref dp), ("opened", .ref do_)]
structure Pic (t : Adr) (H : Hp) (a dp do_ : Addr) (w h : Int) (ps : List Pt) : Prop where
  ins : ∃ dx, H a = some (.ins t.C_Picture dx (picF w h dp do_))
  pl : ∃ kvs, H dp = some (.dK kvs) ∧ Pl H ps kvs
  w1 : 1 ≤ w
  w2 : w ≤ 30
  h1 : 1 ≤ h
  h2 : h ≤ 16
  len : ps.length ≤ 12
theorem Same.tups {H H' : Hp} (s : Same H H') : Tups H H' := fun b xs e => s b _ e
theorem Pic.same {t : Adr} {H H' : Hp} {a dp do_ : Addr} {w h : Int} {ps : List Pt} (s : Same H H') (p : Pic t H a dp do_ w h ps) : Pic t H' a dp do_ w h ps :=
  ⟨let ⟨dx, e⟩ := p.ins; ⟨dx, s _ _ e⟩, let ⟨kvs, e, q⟩ := p.pl; ⟨kvs, s _ _ e, q.keep (Same.tups s)⟩, p.w1, p.w2, p.h1, p.h2, p.len⟩
theorem lk_no {w h : Int} {dp do_ : Addr} {m : Str} (e : ((["width", "height", "placed", "opened"] : List Str).all fun k => !(m == k)) = true) : (picF w h dp do_).lookup m = none := by
  simp only [List.all_cons, List.all_nil, Bool.and_eq_true, Bool.not_eq_true'] at e
  obtain ⟨e1, e2, e3, e4, _⟩ := e
  unfold picF
  rw [List.lookup_cons, e1]
  show List.lookup m [("height", V.int h), ("placed", V.ref dp), ("opened", V.ref do_)] = none
  rw [List.lookup_cons, e2]
  show List.lookup m [("placed", V.ref dp), ("opened", V.ref do_)] = none
  rw [List.lookup_cons, e3]
  show List.lookup m [("opened", V.ref do_)] = none
  rw [List.lookup_cons, e4]
  rfl
theorem lkW {w h : Int} {dp do_ : Addr} : (picF w h dp do_).lookup ("width" : Str) = some (.int w) := by
  unfold picF
  rw [List.lookup_cons, show (("width" : Str) == "width") = true from by decide +kernel]
theorem lkH {w h : Int} {dp do_ : Addr} : (picF w h dp do_).lookup ("height" : Str) = some (.int h) := by
  unfold picF
  rw [List.lookup_cons, show (("height" : Str) == "width") = false from by decide +kernel]
  show List.lookup ("height" : Str) [("height", V.int h), ("placed", V.ref dp), ("opened", V.ref do_)] = _
  rw [List.lookup_cons, show (("height" : Str) == "height") = true from by decide +kernel]
theorem lkP {w h : Int} {dp do_ : Addr} : (picF w h dp do_).lookup ("placed" : Str) = some (.ref dp) := by
  unfold picF
  rw [List.lookup_cons, show (("placed" : Str) == "width") = false from by decide +kernel]
  show List.lookup ("placed" : Str) [("height", V.int h), ("placed", V.ref dp), ("opened", V.ref do_)] = _
  rw [List.lookup_cons, show (("placed" : Str) == "height") = false from by decide +kernel]
  show List.lookup ("placed" : Str) [("placed", V.ref dp), ("opened", V.ref do_)] = _
  rw [List.lookup_cons, show (("placed" : Str) == "placed") = true from by decide +kernel]
def spPInit (t : Adr) : Sp := fun vs H Q _ => ∃ (p dx : Addr) (w h : Int), vs = [.ref p, .int w, .int h] ∧ H p = some (.ins t.C_Picture dx []) ∧ 1 ≤ w ∧ w ≤ 30 ∧ 1 ≤ h ∧ h ≤ 16 ∧
  ∀ H' dp do_, H dp = none → H do_ = none → (∀ b u, b ≠ p → H b = some u → H' b = some u) → Pic t H' p dp do_ w h [] → H' do_ = some (.dT []) → Q .non H'
def spCN (t : Adr) : Sp := fun vs H Q _ => ∃ (a dp do_ : Addr) (pw ph : Int) (ps : List Pt) (nm : Str) (pt : Pt), vs = [.ref a, .str nm] ∧ Pic t H a dp do_ pw ph ps ∧ isNm nm = true ∧ ps.find? (fun p => decide (p.nm = nm)) = some pt ∧ Q .non H
def spCC (t : Adr) : Sp := fun vs H Q _ => ∃ (a dp do_ : Addr) (pw ph : Int) (ps : List Pt) (x y : Int), vs = [.ref a, .int x, .int y] ∧ Pic t H a dp do_ pw ph ps ∧ 1 ≤ x ∧ x ≤ pw ∧ 1 ≤ y ∧ y ≤ ph ∧ Q .non H
def spPts (t : Adr) : Sp := fun vs H Q _ => ∃ (a dp do_ : Addr) (pw ph : Int) (ps : List Pt), vs = [.ref a] ∧ Pic t H a dp do_ pw ph ps ∧ ∀ H' l qs, Same H H' → H' l = some (.lst (qs.map V.ref)) → PtsL H' ps qs → Q (.ref l) H'
def spCL (t : Adr) : Sp := fun vs H Q _ => ∃ (a dp do_ : Addr) (pw ph : Int) (ps : List Pt) (nm : Str) (x y : Int), vs = [.ref a, .str nm, .int x, .int y] ∧ Pic t H a dp do_ pw ph ps ∧ (∀ p ∈ ps, p.nm ≠ nm → p.x ≠ x ∧ p.y ≠ y) ∧ ∀ H', Same H H' → Q .non H'
def spCS (t : Adr) : Sp := fun vs H Q _ => ∃ (a dp do_ : Addr) (pw ph : Int) (ps : List Pt) (b : Bool) (r : Int), vs = [.ref a, .str (sideW b), .int r] ∧ Pic t H a dp do_ pw ph ps ∧ 1 ≤ r ∧ r ≤ ph ∧ ∀ H', Same H H' → Q .non H'
def spPut (t : Adr) : Sp := fun vs H Q _ => ∃ (a dp do_ : Addr) (pw ph : Int) (ps : List Pt) (nm : Str) (x y : Int) (sd : Str) (lo hi : Int) (hv : V), vs = [.ref a, .str nm, .int x, .int y, .str sd, .int lo, hv] ∧ Pic t H a dp do_ pw ph ps ∧
  ((hv = .non ∧ hi = ph) ∨ hv = .int hi) ∧ isNm nm = true ∧ 1 ≤ x ∧ x ≤ pw ∧ 1 ≤ y ∧ y ≤ ph ∧ (sd = "left" ∨ sd = "right" ∨ sd = "both") ∧ 1 ≤ lo ∧ lo ≤ hi ∧ hi ≤ ph ∧ (∀ p ∈ ps, p.nm ≠ nm ∧ p.x ≠ x ∧ p.y ≠ y) ∧ ps.length < 12 ∧
  ∀ H', (∀ b u, b ≠ dp → H b = some u → H' b = some u) → Pic t H' a dp do_ pw ph (ps ++ [⟨nm, x, y, sd, lo, hi⟩]) → Q .non H'
section
variable {P : Program} {w : World} {K : PySem.W.Frag} {mg : Str → Option Value} {base : Heap} {t : Adr}
theorem ok_Picture_init (T : Txt w K mg t) : FnOk true P w K mg base (CXo P w) 2 t.f_Picture_init t.d_Picture_init ["self", "width", "height"] (spPInit t) := by
  refine T.F_Picture_init.okn (k := 1) sc_Picture_init (fun vs H Q E h => ?_) (fun cdv A outer s H vs Q E hr h => ?_)
  · obtain ⟨p, dx, pw, ph, rfl, _⟩ := h
    rfl
  · obtain ⟨p, dx, pw, ph, rfl, h⟩ := h
    refine ⟨_, pss_cons (ps_if (PW.pt (pw_or (pt_not (pt_val (pe_call (ok_is_whole T) (hr.mono (by decide)) rfl T.g_is_whole T.F_is_whole.kp T.b_is_whole .nil pass_none (pa_cons (pv 1) (pa_cons (pe_int) (pa_cons (pe_glob (v := .int 30) rfl T.v_MOST_COLUMNS.choose_spec ⟨_, rfl⟩) (pa_nil))))))) (pw_or1 (pt_not (pt_val (pe_call (ok_is_whole T) (hr.mono (by decide)) rfl T.g_is_whole T.F_is_whole.kp T.b_is_whole .nil pass_none (pa_cons (pv 2) (pa_cons (pe_int) (pa_cons (pe_glob (v := .int 16) rfl T.v_MOST_ROWS.choose_spec ⟨_, rfl⟩) (pa_nil)))))))))) (pss_one (ps_never)) (pss_nil))
      (pss_cons (ps_fld (pv 0) (pv 1) rfl)
      (pss_cons (ps_fld (pv 0) (pv 2) rfl)
      (pss_cons (ps_fld (pv 0) (pe_dnewK) rfl)
      (pss_one (ps_fld (pv 0) (pe_dnewT) rfl))))), ?_⟩
    obtain ⟨hp, w1, w2, h1, h2, q⟩ := h
    refine ⟨_, rfl, pw, 1, 30, rfl, w1, w2, true, rfl, iteF ⟨_, rfl, ph, 1, 16, rfl, h1, h2, true, rfl, iteF ?_⟩⟩
    refine ⟨_, rfl, _, rfl, p, _, dx, _, rfl, hp, T.c_Picture, T.n_Picture_width, (by show 0 < 1000; decide), ?_⟩
    refine ⟨_, rfl, _, rfl, p, _, dx, _, rfl, upd_same, T.c_Picture, T.n_Picture_height, (by show 1 < 1000; decide), ?_⟩
    rw [upd_upd]
    refine fun dp hdp => ?_
    have n1 : p ≠ dp := ne_of_none upd_same hdp
    refine ⟨_, rfl, p, _, dx, _, rfl, (by rw [upd_ne n1]; exact upd_same), T.c_Picture, T.n_Picture_placed, (by show 2 < 1000; decide), fun do_ hdo => ?_⟩
    have n2 : p ≠ do_ := ne_of_none upd_same hdo
    have n3 : dp ≠ do_ := ne_of_none (by rw [upd_ne (Ne.symm n1)]; exact upd_same) hdo
    refine ⟨_, rfl, p, _, dx, _, rfl, (by rw [upd_ne n2]; exact upd_same), T.c_Picture, T.n_Picture_opened, (by show 3 < 1000; decide), ?_⟩
    rw [upd_ne (Ne.symm n1)] at hdp
    have hdo' : H do_ = none := by
      have z := hdo
      rw [upd_ne (Ne.symm n2), upd_ne (Ne.symm n3), upd_ne (Ne.symm n2)] at z
      exact z
    refine q _ dp do_ hdp hdo' (fun b u nb e => ?_) ⟨⟨dx, upd_same⟩, ⟨[], ?_, .nil⟩, w1, w2, h1, h2, Nat.zero_le _⟩ ?_
    · have c1 : b ≠ dp := ne_of_none e hdp
      have c2 : b ≠ do_ := fun z => by
        subst z
        rw [upd_ne nb, upd_ne c1, upd_ne nb] at hdo
        rw [e] at hdo
        cases hdo
      rw [upd_ne nb, upd_ne c2, upd_ne nb, upd_ne c1, upd_ne nb]
      exact e
    · rw [upd_ne (Ne.symm n1), upd_ne n3, upd_ne (Ne.symm n1)]
      exact upd_same
    · rw [upd_ne (Ne.symm n2)]
      exact upd_same
theorem ok_Picture_check_name (T : Txt w K mg t) : FnOk true P w K mg base (CXo P w) 2 t.f_Picture_check_name t.d_Picture_check_name ["self", "name"] (spCN t) := by
  refine T.F_Picture_check_name.okn (k := 1) sc_Picture_check_name (fun vs H Q E h => ?_) (fun cdv A outer s H vs Q E hr h => ?_)
  · obtain ⟨a, dp, do_, pw, ph, ps, nm, pt, rfl, _⟩ := h
    rfl
  · obtain ⟨a, dp, do_, pw, ph, ps, nm, pt, rfl, h⟩ := h
    refine ⟨_, pss_one (ps_if (PW.pt (pw_or (pt_not (pt_val (pe_call (ok_is_name T) (hr.mono (by decide)) rfl T.g_is_name T.F_is_name.kp T.b_is_name .nil pass_none (pa_cons (pv 1) (pa_nil))))) (pw_or1 (pt_cmp (pc_dnotin (hu_of hr) (pv 1) (pe_fld (pv 0) rfl)))))) (pss_one (ps_never)) (pss_nil)), ?_⟩
    obtain ⟨pic, hn, hf, q⟩ := h
    obtain ⟨⟨dx, hp⟩, ⟨kvs, hk, pl⟩, _⟩ := id pic
    obtain ⟨q0, e, _⟩ := pl.find hf
    exact ⟨_, rfl, nm, rfl, hn, true, rfl, iteF ⟨_, rfl, _, rfl, a, _, dx, _, _, rfl, hp, T.c_Picture, T.n_Picture_placed, lkP, dp, some (.ref q0), rfl, (by rw [← e]; exact DGet.k (k := .inr nm) hk), false, rfl, iteF q⟩⟩
theorem ok_Picture_check_cell (T : Txt w K mg t) : FnOk true P w K mg base (CXo P w) 2 t.f_Picture_check_cell t.d_Picture_check_cell ["self", "x", "y"] (spCC t) := by
  refine T.F_Picture_check_cell.okn (k := 1) sc_Picture_check_cell (fun vs H Q E h => ?_) (fun cdv A outer s H vs Q E hr h => ?_)
  · obtain ⟨a, dp, do_, pw, ph, ps, x, y, rfl, _⟩ := h
    rfl
  · obtain ⟨a, dp, do_, pw, ph, ps, x, y, rfl, h⟩ := h
    refine ⟨_, pss_one (ps_if (PW.pt (pw_or (pt_not (pt_val (pe_call (ok_is_whole T) (hr.mono (by decide)) rfl T.g_is_whole T.F_is_whole.kp T.b_is_whole .nil pass_none (pa_cons (pv 1) (pa_cons (pe_int) (pa_cons (pe_fld (pv 0) rfl) (pa_nil))))))) (pw_or1 (pt_not (pt_val (pe_call (ok_is_whole T) (hr.mono (by decide)) rfl T.g_is_whole T.F_is_whole.kp T.b_is_whole .nil pass_none (pa_cons (pv 2) (pa_cons (pe_int) (pa_cons (pe_fld (pv 0) rfl) (pa_nil)))))))))) (pss_one (ps_never)) (pss_nil)), ?_⟩
    obtain ⟨pic, x1, x2, y1, y2, q⟩ := h
    obtain ⟨⟨dx, hp⟩, _, _⟩ := id pic
    exact ⟨_, rfl, _, rfl, a, _, dx, _, _, rfl, hp, T.c_Picture, T.n_Picture_width, lkW, x, 1, pw, rfl, x1, x2, true, rfl, iteF ⟨_, rfl, _, rfl, a, _, dx, _, _, rfl, hp, T.c_Picture, T.n_Picture_height, lkH, y, 1, ph, rfl, y1, y2, true, rfl, iteF q⟩⟩
theorem ok_Picture_points (T : Txt w K mg t) : FnOk true P w K mg base (CXo P w) 1 t.f_Picture_points t.d_Picture_points ["self"] (spPts t) := by
  refine T.F_Picture_points.okn (k := 0) sc_Picture_points (fun vs H Q E h => ?_) (fun cdv A outer s H vs Q E hr h => ?_)
  · obtain ⟨a, dp, do_, pw, ph, ps, rfl, _⟩ := h
    rfl
  · obtain ⟨a, dp, do_, pw, ph, ps, rfl, h⟩ := h
    refine ⟨_, pss_one (ps_ret (pe_thaw (pe_compG rfl (blkG_of (zs := ["name", "rest"]) (ys := []) (fr := []) (N0 := ["self"]) (sc0 := defScope s_Picture_points) (by decide +kernel) rfl rfl rfl) (pi_items (pe_fld (pv 0) rfl)) (fun _ _ _ _ _ ow nd => (pg_tup rfl (pgs_cons (pg_name (i := 0) nd rfl (Or.inl (ow _ (by simp))) (Or.inr (ow _ (by simp)))) (pgs_cons (pg_name (i := 1) nd rfl (Or.inl (ow _ (by simp))) (Or.inr (ow _ (by simp)))) (pgs_nil))) : PG _ _ (gTup K 2 _))) (gok_tup (goks_cons (by decide) (goks_cons (by decide) (goks_nil)))) (fun _ _ _ _ _ => pif_nil) (fun _ _ _ _ _ => pe_op (r := rCatT K) op_catT (pe_tup (pa_cons (pv 0) (pa_nil))) (pv 1))))), ?_⟩
    obtain ⟨pic, q⟩ := h
    obtain ⟨⟨dx, hp⟩, ⟨kvs, hk, pl⟩, _⟩ := id pic
    refine ⟨_, rfl, a, _, dx, _, _, rfl, hp, T.c_Picture, T.n_Picture_placed, lkP, dp, kvs, rfl, hk, fun ob nf l hl => ?_⟩
    have nl : l ≠ dp := fun z => by
      rw [z, upd_same] at hl
      cases hl
    have hl0 : H l = none := by rwa [upd_ne nl] at hl
    refine compG_by kvs.length (fun i xs H2 => ∃ qs : List Addr, xs = qs.map V.ref ∧ qs.length ≤ i ∧ H2 dp = some (.frz ob (.dK kvs)) ∧ (∀ b u, b ≠ dp → H b = some u → H2 b = some u) ∧ H2 l = some (.lst xs) ∧ PtsL H2 (ps.take i) qs) ?_ ?_ ?_ ?_
    · refine ⟨[], rfl, Nat.le_refl _, ?_, fun b u nb e => ?_, upd_same, by simpa using PtsL.nil⟩
      · rw [upd_ne (Ne.symm nl)]
        exact upd_same
      · rw [upd_ne (ne_of_none e hl0), upd_ne nb]
        exact e
    · rintro i xs H2 lt ⟨qs, _, _, hd, _⟩
      exact ⟨hd, lt⟩
    · rintro i xs H2 v H3 lt ⟨qs, rfl, ql, hd, sm, hl2, pts⟩ ⟨p, k, x, hx, rfl, hpn, rfl⟩ N hN
      obtain ⟨pt, q0, hpt, rfl, rfl, hq0⟩ := pl.get hx
      have e0 : H2 q0 = some (.tup (ptV pt)) := sm _ _ (ne_of hq0 hk (fun z => nomatch z)) hq0
      refine ⟨p, _, rfl, SqT.of upd_same, rfl, _, _, rfl, _, _, rfl, rfl, ?_⟩
      refine tT_if ?_
      have n0 : q0 ≠ p := ne_of_none e0 hpn
      refine ⟨_, rfl, (by show 1 ≤ sizeLine; decide), fun p1 h1 => ⟨_, rfl, p1, q0, _, ptV pt, rfl, rfl, SqT.of upd_same, SqT.of ?_, (by simp), (by show 1 + 5 ≤ sizeLine; decide), (fun z => nomatch z), fun _ p2 h2 => ?_⟩⟩
      · rw [upd_ne (ne_of_none (by rw [upd_ne n0]; exact e0) h1), upd_ne n0]
        exact e0
      have up : ∀ b u, H2 b = some u → (upd (upd (upd H2 p (.tup [.str pt.nm, .ref q0])) p1 (.tup [.str pt.nm])) p2 (.tup ([.str pt.nm] ++ ptV pt))) b = some u := fun b u e => by
        have c1 : b ≠ p := ne_of_none e hpn
        have e1 : upd H2 p (.tup [.str pt.nm, .ref q0]) b = some u := by rw [upd_ne c1]; exact e
        have c2 : b ≠ p1 := ne_of_none e1 h1
        have e2 : upd (upd H2 p (.tup [.str pt.nm, .ref q0])) p1 (.tup [.str pt.nm]) b = some u := by rw [upd_ne c2]; exact e1
        rw [upd_ne (ne_of_none e2 h2)]
        exact e2
      have c3 : l ≠ p2 := ne_of_none (show upd (upd H2 p (.tup [.str pt.nm, .ref q0])) p1 (.tup [.str pt.nm]) l = some (.lst (qs.map V.ref)) from by
        have c1 : l ≠ p := ne_of_none hl2 hpn
        have e1 : upd H2 p (.tup [.str pt.nm, .ref q0]) l = some (.lst (qs.map V.ref)) := by rw [upd_ne c1]; exact hl2
        rw [upd_ne (ne_of_none e1 h1)]
        exact e1) h2
      have tk : ps.take (i + 1) = ps.take i ++ [pt] := by
        rw [List.take_add_one, hpt]
        rfl
      have ll : qs.length < sizeLine := Nat.lt_trans (by have := pl.len; have := pic.len; omega : qs.length < 13) (by decide)
      refine ⟨up _ _ hl2, by rw [List.length_map]; exact ll, hN _ _ ⟨qs ++ [p2], by simp, by simp; omega, ?_, fun b u nb e => ?_, upd_same, ?_⟩⟩
      · rw [upd_ne (Ne.symm nl)]
        exact up _ _ hd
      · have e2 := up _ _ (sm b u nb e)
        rw [upd_ne (ne_of_none e hl0)]
        exact e2
      · rw [tk]
        refine PtsL.snoc (PtsL.keep (fun b xs e => ?_) pts) ?_
        · have e2 := up _ _ e
          rw [upd_ne (ne_of e2 (up _ _ hl2) (fun z => nomatch z))]
          exact e2
        · rw [upd_ne (Ne.symm c3)]
          exact upd_same
    · rintro xs H2 ⟨qs, rfl, _, hd, sm, hl2, pts⟩
      refine ⟨⟨hd, Nat.le_refl _⟩, dp, ob, _, hd, nf, q _ l qs (fun b u e => ?_) ?_ (PtsL.keep (fun b xs e => ?_) (by rw [pl.len, List.take_length] at pts; exact pts))⟩
      · by_cases c : b = dp
        · subst c
          rw [hk] at e
          cases e
          exact upd_same
        · rw [upd_ne c]
          exact sm b u c e
      · rw [upd_ne nl]
        exact hl2
      · rw [upd_ne (ne_of e hd (fun z => nomatch z))]
        exact e
theorem ok_Picture_check_lines (T : Txt w K mg t) : FnOk true P w K mg base (CXo P w) 2 t.f_Picture_check_lines t.d_Picture_check_lines ["self", "name", "x", "y"] (spCL t) := by
  refine T.F_Picture_check_lines.okn (k := 1) sc_Picture_check_lines (fun vs H Q E h => ?_) (fun cdv A outer s H vs Q E hr h => ?_)
  · obtain ⟨a, dp, do_, pw, ph, ps, nm, x, y, rfl, _⟩ := h
    rfl
  · obtain ⟨a, dp, do_, pw, ph, ps, nm, x, y, rfl, h⟩ := h
    refine ⟨_, pss_cons (ps_setcG rfl (blkG_of (zs := ["other"]) (ys := ["name"]) (fr := [1]) (N0 := ["self", "name", "x", "y", "others", "other"]) (sc0 := defScope s_Picture_check_lines) (by decide +kernel) rfl rfl rfl) (pi_list (pe_meth0 (pv 0) T.c_Picture T.m_Picture_points (ok_Picture_points T) (hr.mono (by decide)) T.b_Picture_points .nil pass_none)) (fun _ _ _ _ _ ow nd => pg_name (i := 0) nd rfl (Or.inl (ow _ (by simp))) (Or.inr (ow _ (by simp)))) (gok_name (by decide)) (fun _ _ _ _ _ => pif_one (pt_cmpR op_ne (pe_ix (r := rIxT K) ix_tup (pv 0) (pe_int) (fun _ _ => rfl)) (pv 1) (nomark _))) (fun _ _ _ _ _ => pv 0) (j := 4) rfl (Or.inl rfl))
      (pss_cons (ps_for PassesOwn.never rfl (pi_list (pv 4)) (pg_name (i := 5) sc_Picture_check_lines.nd rfl (Or.inl rfl)) (pss_one (ps_if (pt_cmpR op_eq (pe_ix ix_tup (pv 5) (pe_int) (fun _ _ => rfl)) (pv 2) (nomark _)) (pss_one (ps_never)) (pss_nil))))
      (pss_one (ps_for PassesOwn.never rfl (pi_list (pv 4)) (pg_name (i := 5) sc_Picture_check_lines.nd rfl (Or.inl rfl)) (pss_one (ps_if (pt_cmpR op_eq (pe_ix ix_tup (pv 5) (pe_int) (fun _ _ => rfl)) (pv 3) (nomark _)) (pss_one (ps_never)) (pss_nil)))))), ?_⟩
    obtain ⟨pic, no, q⟩ := h
    obtain ⟨⟨dx, hp⟩, ⟨kvs, hk, pl⟩, _⟩ := id pic
    refine ⟨_, rfl, a, dx, _, rfl, hp, lk_no (by decide +kernel), a, dp, do_, pw, ph, ps, rfl, pic, fun H1 l1 qs s1 hl1 pt1 => ⟨l1, rfl, ⟨_, SqL.of hl1⟩, fun l hl => ?_⟩⟩
    refine compG_by qs.length (fun i xs H2 => ∃ os : List Addr, xs = os.map V.ref ∧ os.length ≤ i ∧ Same H1 H2 ∧ H2 l = some (.lst xs) ∧ ∀ o ∈ os, ∃ p ∈ ps, p.nm ≠ nm ∧ H1 o = some (.tup (.str p.nm :: ptV p))) ?_ ?_ ?_ ?_
    · exact ⟨[], rfl, Nat.le_refl _, same_upd (Same.refl _) hl, upd_same, fun o z => nomatch z⟩
    · rintro i xs H2 lt ⟨os, _, _, s2, _⟩
      exact ⟨_, .ref qs[i], SqL.of (s2 _ _ hl1), by simp [lt]⟩
    · rintro i xs H2 v H3 lt ⟨os, rfl, ol, s2, hl2, hos⟩ ⟨rfl, hv⟩ N hN
      have hv' := hv _ (SqL.of (s2 _ _ hl1))
      rw [List.getElem?_map] at hv'
      obtain ⟨o, ho, rfl⟩ := Option.map_eq_some_iff.mp hv'
      obtain ⟨p, hpp, ep⟩ := pt1.get ho
      refine ⟨_, rfl, o, _, 0, _, rfl, rfl, SqT.of (s2 _ _ ep), rfl, _, rfl, rfl, _, rfl, ite2 (fun c => ?_) (fun c => ?_)⟩
      · have cn : p.nm ≠ nm := fun z => by
          rw [z] at c
          simp at c
        refine ⟨_, rfl, hl2, (by rw [List.length_map]; exact Nat.lt_trans (by have := pt1.len; have := pic.len; omega : os.length < 13) (by decide)), hN _ _ ⟨os ++ [o], by simp, by simp; omega, ?_, upd_same, ?_⟩⟩
        · intro b u e
          by_cases cb : b = l
          · subst cb
            rw [e] at hl
            cases hl
          · rw [upd_ne cb]
            exact s2 b u e
        · intro o' ho'
          rcases List.mem_append.mp ho' with z | z
          · exact hos o' z
          · have := List.mem_singleton.mp z
            subst this
            exact ⟨p, List.mem_of_getElem? hpp, cn, ep⟩
      · exact hN _ _ ⟨os, rfl, by omega, s2, hl2, hos⟩
    · rintro xs H2 ⟨os, rfl, ol, s2, hl2, hos⟩
      refine ⟨⟨_, SqL.of (s2 _ _ hl1), by simp⟩, ?_⟩
      have loop : ∀ (o : Addr), o ∈ os → ∃ p ∈ ps, p.nm ≠ nm ∧ H2 o = some (.tup (.str p.nm :: ptV p)) := fun o ho => by
        obtain ⟨p, h1, h2, h3⟩ := hos o ho
        exact ⟨p, h1, h2, s2 _ _ h3⟩
      refine ⟨_, rfl, l, rfl, ⟨_, SqL.of hl2⟩, for_list (xs := os.map V.ref) (Pv := fun i σ H3 => ∃ v5 : Option V, σ = [some (.ref a), some (.str nm), some (.int x), some (.int y), some (.ref l), v5] ∧ H2 = H3) ⟨_, rfl, rfl⟩ (fun _ _ _ _ ⟨_, _, z⟩ => by rw [← z]; exact SqL.of hl2) ?_ ?_⟩
      · rintro i v σ _ hv ⟨v5, rfl, rfl⟩
        rw [List.getElem?_map] at hv
        obtain ⟨o, ho, rfl⟩ := Option.map_eq_some_iff.mp hv
        obtain ⟨p, m1, m2, m3⟩ := loop o (List.mem_of_getElem? ho)
        refine ⟨_, rfl, o, _, 1, _, rfl, rfl, SqT.of m3, rfl, _, rfl, rfl, _, rfl, ifN (decide_eq_false fun z => (no p m1 m2).1 (V.int.inj z)) ⟨_, rfl, rfl⟩⟩
      · rintro σ _ ⟨v5, rfl, rfl⟩
        refine ⟨_, rfl, l, rfl, ⟨_, SqL.of hl2⟩, for_list (xs := os.map V.ref) (Pv := fun i σ H3 => ∃ v5 : Option V, σ = [some (.ref a), some (.str nm), some (.int x), some (.int y), some (.ref l), v5] ∧ H2 = H3) ⟨_, rfl, rfl⟩ (fun _ _ _ _ ⟨_, _, z⟩ => by rw [← z]; exact SqL.of hl2) ?_ ?_⟩
        · rintro i v σ _ hv ⟨v5, rfl, rfl⟩
          rw [List.getElem?_map] at hv
          obtain ⟨o, ho, rfl⟩ := Option.map_eq_some_iff.mp hv
          obtain ⟨p, m1, m2, m3⟩ := loop o (List.mem_of_getElem? ho)
          refine ⟨_, rfl, o, _, 2, _, rfl, rfl, SqT.of m3, rfl, _, rfl, rfl, _, rfl, ifN (decide_eq_false fun z => (no p m1 m2).2 (V.int.inj z)) ⟨_, rfl, rfl⟩⟩
        · rintro σ _ ⟨v5, rfl, rfl⟩
          exact q _ (s1.trans s2)
theorem ok_Picture_check_seat (T : Txt w K mg t) : FnOk true P w K mg base (CXo P w) 4 t.f_Picture_check_seat t.d_Picture_check_seat ["self", "side", "row"] (spCS t) := by
  refine T.F_Picture_check_seat.okn (k := 3) sc_Picture_check_seat (fun vs H Q E h => ?_) (fun cdv A outer s H vs Q E hr h => ?_)
  · obtain ⟨a, dp, do_, pw, ph, ps, b, r, rfl, _⟩ := h
    rfl
  · obtain ⟨a, dp, do_, pw, ph, ps, b, r, rfl, h⟩ := h
    refine ⟨_, pss_cons (ps_expr (pe_call (ok_side_of T) (hr.mono (by decide)) rfl T.g_side_of T.F_side_of.kp T.b_side_of .nil pass_none (pa_cons (pv 1) (pa_cons (pe_fld (pv 0) rfl) (pa_nil)))))
      (pss_one (ps_if (pt_not (pt_val (pe_call (ok_is_whole T) (hr.mono (by decide)) rfl T.g_is_whole T.F_is_whole.kp T.b_is_whole .nil pass_none (pa_cons (pv 2) (pa_cons (pe_int) (pa_cons (pe_fld (pv 0) rfl) (pa_nil))))))) (pss_one (ps_never)) (pss_nil))), ?_⟩
    obtain ⟨pic, r1, r2, q⟩ := h
    obtain ⟨⟨dx, hp⟩, _, _⟩ := id pic
    refine ⟨_, rfl, _, rfl, a, _, dx, _, _, rfl, hp, T.c_Picture, T.n_Picture_width, lkW, b, pw, rfl, fun p H1 hp1 sd1 s1 => ?_⟩
    exact ⟨_, rfl, _, rfl, a, _, dx, _, _, rfl, (s1 _ _ hp), T.c_Picture, T.n_Picture_height, lkH, r, 1, ph, rfl, r1, r2, true, rfl, iteF (q H1 s1)⟩
theorem ok_Picture_put (T : Txt w K mg t) : FnOk true P w K mg base (CXo P w) 3 t.f_Picture_put t.d_Picture_put ["self", "name", "x", "y", "sides", "low", "high"] (spPut t) := by
  refine T.F_Picture_put.okn (k := 2) sc_Picture_put (fun vs H Q E h => ?_) (fun cdv A outer s H vs Q E hr h => ?_)
  · obtain ⟨a, dp, do_, pw, ph, ps, nm, x, y, sd, lo, hi, hv, rfl, _⟩ := h
    rfl
  · obtain ⟨a, dp, do_, pw, ph, ps, nm, x, y, sd, lo, hi, hv, rfl, h⟩ := h
    refine ⟨_, pss_cons (ps_set (i := 7) sc_Picture_put.nd rfl (Or.inl rfl) (pe_ifExp (pt_cmpR op_isN (pv 6) (pe_non) (nomark _)) (pe_fld (pv 0) rfl) (pv 6)))
      (pss_cons (ps_if (pt_not (pt_val (pe_call (ok_is_name T) (hr.mono (by decide)) rfl T.g_is_name T.F_is_name.kp T.b_is_name .nil pass_none (pa_cons (pv 1) (pa_nil))))) (pss_one (ps_never)) (pss_nil))
      (pss_cons (ps_expr (pe_meth (pv 0) T.c_Picture T.m_Picture_check_cell (ok_Picture_check_cell T) (hr.mono (by decide)) T.b_Picture_check_cell .nil pass_none (pa_cons (pv 2) (pa_cons (pv 3) (pa_nil)))))
      (pss_cons (ps_if (PW.pt (pw_or (pt_not (pt_val (pe_callB call_isin rfl T.n_isinstance boot_isinstance (pa_cons (pv 4) (pa_cons (pe_bltn (v := .ty "str") rfl T.n_str boot_str rfl) (pa_nil)))))) (pw_or1 (pt_cmp (pc_gnotin (pv 4) rfl T.g_MIRRORED_SIDES T.D_MIRRORED_SIDES))))) (pss_one (ps_never)) (pss_nil))
      (pss_cons (ps_if (PW.pt (pw_or (pt_not (pt_val (pe_call (ok_is_whole T) (hr.mono (by decide)) rfl T.g_is_whole T.F_is_whole.kp T.b_is_whole .nil pass_none (pa_cons (pv 5) (pa_cons (pe_int) (pa_cons (pe_fld (pv 0) rfl) (pa_nil))))))) (pw_or1 (pt_not (pt_val (pe_call (ok_is_whole T) (hr.mono (by decide)) rfl T.g_is_whole T.F_is_whole.kp T.b_is_whole .nil pass_none (pa_cons (pv 7) (pa_cons (pv 5) (pa_cons (pe_fld (pv 0) rfl) (pa_nil)))))))))) (pss_one (ps_never)) (pss_nil))
      (pss_cons (ps_if (pt_cmp (pc_din (hu_of hr) (pv 1) (pe_fld (pv 0) rfl))) (pss_one (ps_never)) (pss_nil))
      (pss_cons (ps_if (pt_cmpR op_ge (pe_callB call_lenD rfl T.n_len boot_len (pa_cons (pe_fld (pv 0) rfl) (pa_nil))) (pe_glob (v := .int 12) rfl T.v_MOST_POINTS.choose_spec ⟨_, rfl⟩) (nomark _)) (pss_one (ps_never)) (pss_nil))
      (pss_cons (ps_expr (pe_meth (pv 0) T.c_Picture T.m_Picture_check_lines (ok_Picture_check_lines T) (hr.mono (by decide)) T.b_Picture_check_lines .nil pass_none (pa_cons (pv 1) (pa_cons (pv 2) (pa_cons (pv 3) (pa_nil))))))
      (pss_one (ps_dput (hu_of hr) (pe_fld (pv 0) rfl) (pv 1) (pe_tup (pa_cons (pv 2) (pa_cons (pv 3) (pa_cons (pv 4) (pa_cons (pv 5) (pa_cons (pv 7) (pa_nil))))))) rfl))))))))), ?_⟩
    obtain ⟨pic, hhv, hn, x1, x2, y1, y2, hsd, l1, l2, l3, no, len, q⟩ := h
    obtain ⟨⟨dx, hp⟩, ⟨kvs, hk, pl⟩, _⟩ := id pic
    have hsd' : (valV ([(Sum.inr "left", V.str "right"), (Sum.inr "right", V.str "left"), (Sum.inr "both", V.str "both")] : List (Key × V)) (Sum.inr sd)).isSome = true := by
      rcases hsd with rfl | rfl | rfl <;> decide +kernel
    rcases hhv with ⟨rfl, e⟩ | rfl
    · obtain rfl := e.symm
      refine ⟨_, rfl, rfl, _, rfl, ifP (by rfl) ⟨_, rfl, a, _, dx, _, _, rfl, hp, T.c_Picture, T.n_Picture_height, lkH, ?_⟩⟩
      refine ⟨_, rfl, nm, rfl, hn, true, rfl, iteF ?_⟩
      refine ⟨_, rfl, a, dx, _, rfl, hp, lk_no (by decide +kernel), _, rfl, _, rfl, a, dp, do_, pw, ph, ps, x, y, rfl, pic, x1, x2, y1, y2, ?_⟩
      refine ⟨_, rfl, _, _, rfl, .inl ⟨_, _, true, .str _, rfl, kit_same, true, rfl, iteF ⟨_, rfl, .inr sd, rfl, false, (by rw [hsd']; rfl), iteF ?_⟩⟩⟩
      refine ⟨_, rfl, _, rfl, a, _, dx, _, _, rfl, hp, T.c_Picture, T.n_Picture_height, lkH, lo, 1, ph, rfl, l1, (by omega), true, rfl, iteF ⟨_, rfl, _, rfl, _, rfl, a, _, dx, _, _, rfl, hp, T.c_Picture, T.n_Picture_height, lkH, ph, lo, ph, rfl, (by omega), (by omega), true, rfl, iteF ?_⟩⟩
      refine ⟨_, rfl, _, rfl, a, _, dx, _, _, rfl, hp, T.c_Picture, T.n_Picture_placed, lkP, dp, none, rfl, (by rw [← pl.no (nm := nm) (fun p hp => (no p hp).1)]; exact DGet.k (k := .inr nm) hk), false, rfl, iteF ?_⟩
      refine ⟨_, rfl, a, _, dx, _, _, rfl, hp, T.c_Picture, T.n_Picture_placed, lkP, dp, kvs, rfl, hk, _, _, rfl, rfl, _, rfl, ifN (decide_eq_false (by have := pl.len; omega)) ?_⟩
      refine ⟨_, rfl, a, dx, _, rfl, hp, lk_no (by decide +kernel), _, rfl, _, rfl, _, rfl, a, dp, do_, pw, ph, ps, nm, x, y, rfl, pic, fun p hp _ => (no p hp).2, fun H1 s1 => ?_⟩
      refine ⟨_, rfl, _, rfl, _, rfl, _, rfl, _, rfl, (by show 5 ≤ sizeLine; decide), fun q1 hq1 => ?_⟩
      have hp1 : upd H1 q1 (.tup [.int x, .int y, .str sd, .int lo, .int ph]) a = some (.ins t.C_Picture dx (picF pw ph dp do_)) := by rw [upd_ne (ne_of_none (s1 _ _ hp) hq1)]; exact s1 _ _ hp
      have hk1 : upd H1 q1 (.tup [.int x, .int y, .str sd, .int lo, .int ph]) dp = some (.dK kvs) := by rw [upd_ne (ne_of_none (s1 _ _ hk) hq1)]; exact s1 _ _ hk
      refine ⟨_, rfl, a, _, dx, _, _, rfl, hp1, T.c_Picture, T.n_Picture_placed, lkP, _, rfl, dp, _, rfl, DPut.k (k := .inr nm) hk1 (Nat.lt_trans (by have := pl.len; omega : kvs.length < 12) (by decide)), ?_⟩
      rw [putK_new (.ref q1) (pl.no (nm := nm) (fun p hp => (no p hp).1))]
      have nq : q1 ≠ dp := fun z => by
        subst z
        rw [s1 _ _ hk] at hq1
        cases hq1
      refine q _ (fun b u nb e => ?_) ⟨⟨dx, ?_⟩, ⟨_, upd_same, Pl.snoc (p := ⟨nm, x, y, sd, lo, ph⟩) (pl.keep (fun b xs e => ?_)) ?_⟩, pic.w1, pic.w2, pic.h1, pic.h2, (by rw [List.length_append]; exact len)⟩
      · rw [upd_ne nb, upd_ne (ne_of_none (s1 _ _ e) hq1)]
        exact s1 _ _ e
      · rw [upd_ne (ne_of hp1 hk1 (fun z => nomatch z))]
        exact hp1
      · have e' := s1 _ _ e
        rw [upd_ne (ne_of e' (s1 _ _ hk) (fun z => nomatch z)), upd_ne (ne_of_none e' hq1)]
        exact e'
      · rw [upd_ne nq]
        exact upd_same
    · refine ⟨_, rfl, rfl, _, rfl, ifN (by rfl) ⟨_, rfl, ?_⟩⟩
      refine ⟨_, rfl, nm, rfl, hn, true, rfl, iteF ?_⟩
      refine ⟨_, rfl, a, dx, _, rfl, hp, lk_no (by decide +kernel), _, rfl, _, rfl, a, dp, do_, pw, ph, ps, x, y, rfl, pic, x1, x2, y1, y2, ?_⟩
      refine ⟨_, rfl, _, _, rfl, .inl ⟨_, _, true, .str _, rfl, kit_same, true, rfl, iteF ⟨_, rfl, .inr sd, rfl, false, (by rw [hsd']; rfl), iteF ?_⟩⟩⟩
      refine ⟨_, rfl, _, rfl, a, _, dx, _, _, rfl, hp, T.c_Picture, T.n_Picture_height, lkH, lo, 1, ph, rfl, l1, (by omega), true, rfl, iteF ⟨_, rfl, _, rfl, _, rfl, a, _, dx, _, _, rfl, hp, T.c_Picture, T.n_Picture_height, lkH, hi, lo, ph, rfl, (by omega), (by omega), true, rfl, iteF ?_⟩⟩
      refine ⟨_, rfl, _, rfl, a, _, dx, _, _, rfl, hp, T.c_Picture, T.n_Picture_placed, lkP, dp, none, rfl, (by rw [← pl.no (nm := nm) (fun p hp => (no p hp).1)]; exact DGet.k (k := .inr nm) hk), false, rfl, iteF ?_⟩
      refine ⟨_, rfl, a, _, dx, _, _, rfl, hp, T.c_Picture, T.n_Picture_placed, lkP, dp, kvs, rfl, hk, _, _, rfl, rfl, _, rfl, ifN (decide_eq_false (by have := pl.len; omega)) ?_⟩
      refine ⟨_, rfl, a, dx, _, rfl, hp, lk_no (by decide +kernel), _, rfl, _, rfl, _, rfl, a, dp, do_, pw, ph, ps, nm, x, y, rfl, pic, fun p hp _ => (no p hp).2, fun H1 s1 => ?_⟩
      refine ⟨_, rfl, _, rfl, _, rfl, _, rfl, _, rfl, (by show 5 ≤ sizeLine; decide), fun q1 hq1 => ?_⟩
      have hp1 : upd H1 q1 (.tup [.int x, .int y, .str sd, .int lo, .int hi]) a = some (.ins t.C_Picture dx (picF pw ph dp do_)) := by rw [upd_ne (ne_of_none (s1 _ _ hp) hq1)]; exact s1 _ _ hp
      have hk1 : upd H1 q1 (.tup [.int x, .int y, .str sd, .int lo, .int hi]) dp = some (.dK kvs) := by rw [upd_ne (ne_of_none (s1 _ _ hk) hq1)]; exact s1 _ _ hk
      refine ⟨_, rfl, a, _, dx, _, _, rfl, hp1, T.c_Picture, T.n_Picture_placed, lkP, _, rfl, dp, _, rfl, DPut.k (k := .inr nm) hk1 (Nat.lt_trans (by have := pl.len; omega : kvs.length < 12) (by decide)), ?_⟩
      rw [putK_new (.ref q1) (pl.no (nm := nm) (fun p hp => (no p hp).1))]
      have nq : q1 ≠ dp := fun z => by
        subst z
        rw [s1 _ _ hk] at hq1
        cases hq1
      refine q _ (fun b u nb e => ?_) ⟨⟨dx, ?_⟩, ⟨_, upd_same, Pl.snoc (p := ⟨nm, x, y, sd, lo, hi⟩) (pl.keep (fun b xs e => ?_)) ?_⟩, pic.w1, pic.w2, pic.h1, pic.h2, (by rw [List.length_append]; exact len)⟩
      · rw [upd_ne nb, upd_ne (ne_of_none (s1 _ _ e) hq1)]
        exact s1 _ _ e
      · rw [upd_ne (ne_of hp1 hk1 (fun z => nomatch z))]
        exact hp1
      · have e' := s1 _ _ e
        rw [upd_ne (ne_of e' (s1 _ _ hk) (fun z => nomatch z)), upd_ne (ne_of_none e' hq1)]
        exact e'
      · rw [upd_ne nq]
        exact upd_same
end
end S34
set_option maxRecDepth 100000
set_option maxHeartbeats 4000000
namespace S34
open PySem L2 XL PyProof.Rows
theorem lkO {w h : Int} {dp do_ : Addr} : (picF w h dp do_).lookup ("opened" : Str) = some (.ref do_) := by
  unfold picF
  rw [List.lookup_cons, show (("opened" : Str) == "width") = false from by decide +kernel]
  show List.lookup ("opened" : Str) [("height", V.int h), ("placed", V.ref dp), ("opened", V.ref do_)] = _
  rw [List.lookup_cons, show (("opened" : Str) == "height") = false from by decide +kernel]
  show List.lookup ("opened" : Str) [("placed", V.ref dp), ("opened", V.ref do_)] = _
  rw [List.lookup_cons, show (("opened" : Str) == "placed") = false from by decide +kernel]
  show List.lookup ("opened" : Str) [("opened", V.ref do_)] = _
  rw [List.lookup_cons, show (("opened" : Str) == "opened") = true from by decide +kernel]
abbrev Seat := Bool × Int
def seatK (s : Seat) : List Key := [.inr (sideW s.1), .inl s.2]
def seatV (s : Seat) : List V := [.str (sideW s.1), .int s.2]
theorem sideW_inj {a b : Bool} (h : sideW a = sideW b) : a = b := by
  cases a <;> cases b <;> first | rfl | exact absurd h (by decide +kernel)
theorem seatK_inj {s t : Seat} (h : seatK s = seatK t) : s = t := by
  simp only [seatK, List.cons.injEq, Sum.inr.injEq, Sum.inl.injEq] at h
  exact Prod.ext (sideW_inj h.1) h.2.1
def Sts (H : Hp) (do_ : Addr) (ss : List Seat) : Prop := ∃ kvs : List (List Key × V), H do_ = some (.dT kvs) ∧ kvs.map (·.1) = ss.map seatK ∧ ss.Nodup ∧ ss.length ≤ 32
theorem Sts.same {H H' : Hp} {do_ : Addr} {ss : List Seat} (s : Same H H') (h : Sts H do_ ss) : Sts H' do_ ss := let ⟨k, e, r⟩ := h; ⟨k, s _ _ e, r⟩
theorem val_no {kvs : List (List Key × V)} {ss : List Seat} (e : kvs.map (·.1) = ss.map seatK) {s : Seat} (h : s ∉ ss) : valV kvs (seatK s) = none := by
  cases z : valV kvs (seatK s) with
  | none => rfl
  | some v =>
    obtain ⟨i, hi⟩ := valV_ix z
    have m : seatK s ∈ kvs.map (·.1) := List.mem_map.mpr ⟨_, List.mem_of_getElem? hi, rfl⟩
    rw [e] at m
    obtain ⟨t, ht, et⟩ := List.mem_map.mp m
    exact absurd ht (by rw [seatK_inj et]; exact h)
theorem val_yes {kvs : List (List Key × V)} {ss : List Seat} (e : kvs.map (·.1) = ss.map seatK) {s : Seat} (h : s ∈ ss) : ∃ v, valV kvs (seatK s) = some v := by
  cases z : valV kvs (seatK s) with
  | some v => exact ⟨v, rfl⟩
  | none =>
    have m : seatK s ∈ kvs.map (·.1) := by rw [e]; exact List.mem_map.mpr ⟨s, h, rfl⟩
    obtain ⟨p, hp, ep⟩ := List.mem_map.mp m
    have a := valV_any (seatK s) kvs
    rw [z] at a
    have : (kvs.any fun kv => decide (kv.1 = seatK s)) = true := List.any_eq_true.mpr ⟨p, hp, by simpa using ep⟩
    rw [this] at a
    cases a
inductive SeatsL (H : Hp) : List Seat → List Addr → Prop
  | nil : SeatsL H [] []
  | cons {s : Seat} {q : Addr} {ss : List Seat} {qs : List Addr} (h : H q = some (.tup (seatV s))) (r : SeatsL H ss qs) : SeatsL H (s :: ss) (q :: qs)
theorem SeatsL.keep {H H' : Hp} (k : Tups H H') {ss : List Seat} {qs : List Addr} (h : SeatsL H ss qs) : SeatsL H' ss qs := by
  induction h with
  | nil => exact .nil
  | cons h _ ih => exact .cons (k _ _ h) ih
theorem SeatsL.len {H : Hp} {ss : List Seat} {qs : List Addr} (h : SeatsL H ss qs) : qs.length = ss.length := by
  induction h with
  | nil => rfl
  | cons _ _ ih => simp [ih]
def seatLt (s t : Seat) : Prop := (s.1 = true ∧ t.1 = false) ∨ (s.1 = t.1 ∧ s.2 < t.2)
theorem lex_seat {s t : Seat} (h : lexK (seatK s) (seatK t) = true) : seatLt s t := by
  obtain ⟨a, i⟩ := s
  obtain ⟨b, j⟩ := t
  unfold seatK at h
  unfold lexK at h
  by_cases e : sideW a = sideW b
  · rw [if_pos (by rw [e])] at h
    unfold lexK at h
    by_cases e2 : i = j
    · rw [if_pos (by rw [e2])] at h
      unfold lexK at h
      cases h
    · rw [if_neg (fun z => e2 (Sum.inl.inj z))] at h
      exact .inr ⟨sideW_inj e, of_decide_eq_true h⟩
  · rw [if_neg (fun z => e (Sum.inr.inj z))] at h
    cases a <;> cases b
    · exact absurd rfl e
    · exact absurd h (by show ¬ kLess (.inr (sideW false)) (.inr (sideW true)) = true; decide +kernel)
    · exact .inl ⟨rfl, rfl⟩
    · exact absurd rfl e
def unK : List Key → Seat
  | [.inr s, .inl r] => (decide (s = "left"), r)
  | _ => (true, 0)
theorem unK_seat (s : Seat) : unK (seatK s) = s := by
  obtain ⟨b, r⟩ := s
  cases b
  · show (decide (("right" : Str) = "left"), r) = _
    rw [decide_eq_false (by decide +kernel)]
  · show (decide (("left" : Str) = "left"), r) = _
    rw [decide_eq_true rfl]
def spOpen (t : Adr) : Sp := fun vs H Q _ => ∃ (a dp do_ : Addr) (pw ph : Int) (ps : List Pt) (ss : List Seat) (b : Bool) (r : Int), vs = [.ref a, .str (sideW b), .int r] ∧ Pic t H a dp do_ pw ph ps ∧ Sts H do_ ss ∧ 1 ≤ r ∧ r ≤ ph ∧ (b, r) ∉ ss ∧ ss.length < 32 ∧
  ∀ H', (∀ c u, c ≠ do_ → H c = some u → H' c = some u) → Pic t H' a dp do_ pw ph ps → Sts H' do_ (ss ++ [(b, r)]) → Q .non H'
def spSeats (t : Adr) : Sp := fun vs H Q _ => ∃ (a dp do_ : Addr) (pw ph : Int) (ps : List Pt) (ss : List Seat), vs = [.ref a] ∧ Pic t H a dp do_ pw ph ps ∧ Sts H do_ ss ∧
  ∀ (l : Addr) (ss' : List Seat) (qs : List Addr), H l = none → SeatsL H ss' qs → ss'.Perm ss → ss'.Pairwise seatLt → Q (.ref l) (upd H l (.lst (qs.map V.ref)))
theorem Pic.but {t : Adr} {H H' : Hp} {a dp do_ : Addr} {w h : Int} {ps : List Pt} {kvs : List (List Key × V)} (e : H do_ = some (.dT kvs)) (s : ∀ c u, c ≠ do_ → H c = some u → H' c = some u) (p : Pic t H a dp do_ w h ps) : Pic t H' a dp do_ w h ps :=
  ⟨let ⟨dx, x⟩ := p.ins; ⟨dx, s _ _ (ne_of x e (fun z => nomatch z)) x⟩, let ⟨k, x, q⟩ := p.pl; ⟨k, s _ _ (ne_of x e (fun z => nomatch z)) x, q.keep fun b xs x => s _ _ (ne_of x e (fun z => nomatch z)) x⟩, p.w1, p.w2, p.h1, p.h2, p.len⟩
section
variable {P : Program} {w : World} {K : PySem.W.Frag} {mg : Str → Option Value} {base : Heap} {t : Adr}
theorem ok_Picture_open_seat (T : Txt w K mg t) : FnOk true P w K mg base (CXo P w) 5 t.f_Picture_open_seat t.d_Picture_open_seat ["self", "side", "row"] (spOpen t) := by
  refine T.F_Picture_open_seat.okn (k := 4) sc_Picture_open_seat (fun vs H Q E h => ?_) (fun cdv A outer s H vs Q E hr h => ?_)
  · obtain ⟨a, dp, do_, pw, ph, ps, ss, b, r, rfl, _⟩ := h
    rfl
  · obtain ⟨a, dp, do_, pw, ph, ps, ss, b, r, rfl, h⟩ := h
    refine ⟨_, pss_cons (ps_expr (pe_meth (pv 0) T.c_Picture T.m_Picture_check_seat (ok_Picture_check_seat T) (hr.mono (by decide)) T.b_Picture_check_seat .nil pass_none (pa_cons (pv 1) (pa_cons (pv 2) (pa_nil)))))
      (pss_cons (ps_if (pt_cmp (pc_din (hu_of hr) (pe_tup (pa_cons (pv 1) (pa_cons (pv 2) (pa_nil)))) (pe_fld (pv 0) rfl))) (pss_one (ps_never)) (pss_nil))
      (pss_one (ps_dput (hu_of hr) (pe_fld (pv 0) rfl) (pe_tup (pa_cons (pv 1) (pa_cons (pv 2) (pa_nil)))) (pe_bl) rfl))), ?_⟩
    obtain ⟨pic, st, r1, r2, no, len, q⟩ := h
    obtain ⟨⟨dx, hp⟩, _, _⟩ := id pic
    obtain ⟨kvs, hk, ek, nd, l32⟩ := id st
    refine ⟨_, rfl, a, dx, _, rfl, hp, lk_no (by decide +kernel), _, rfl, _, rfl, a, dp, do_, pw, ph, ps, b, r, rfl, pic, r1, r2, fun H1 s1 => ?_⟩
    refine ⟨_, rfl, _, rfl, (by show 2 ≤ sizeLine; decide), fun q1 hq1 => ?_⟩
    have s2 : Same H1 (upd H1 q1 (.tup [.str (sideW b), .int r])) := same_upd (Same.refl _) hq1
    have g2 : upd H1 q1 (.tup [.str (sideW b), .int r]) q1 = some (.tup [.str (sideW b), .int r]) := upd_same
    revert s2 g2
    generalize upd H1 q1 (.tup [.str (sideW b), .int r]) = H2
    intro s2 g2
    have hk2 := s2 _ _ (s1 _ _ hk)
    have hp2 := s2 _ _ (s1 _ _ hp)
    have n0 : valV kvs (seatK (b, r)) = none := val_no ek no
    refine ⟨_, rfl, a, _, dx, _, _, rfl, hp2, T.c_Picture, T.n_Picture_opened, lkO, do_, none, rfl, (by rw [← n0]; exact DGet.t (k := seatK (b, r)) hk2 g2), false, rfl, iteF ?_⟩
    refine ⟨_, rfl, a, _, dx, _, _, rfl, hp2, T.c_Picture, T.n_Picture_opened, lkO, _, rfl, _, rfl, (by show 2 ≤ sizeLine; decide), fun q3 hq3 => ?_⟩
    have s3 : Same H2 (upd H2 q3 (.tup [.str (sideW b), .int r])) := same_upd (Same.refl _) hq3
    have g3 : upd H2 q3 (.tup [.str (sideW b), .int r]) q3 = some (.tup [.str (sideW b), .int r]) := upd_same
    revert s3 g3
    generalize upd H2 q3 (.tup [.str (sideW b), .int r]) = H3
    intro s3 g3
    have kl : kvs.length = ss.length := by
      have := congrArg List.length ek
      simpa using this
    refine ⟨do_, _, rfl, DPut.t (k := seatK (b, r)) (s3 _ _ hk2) g3 (Nat.lt_trans (by omega : kvs.length < 33) (by decide)), ?_⟩
    have bt : ∀ c u, c ≠ do_ → H c = some u → upd H3 do_ (.dT (putK kvs (seatK (b, r)) (.bl true))) c = some u := fun c u nc e => by
      rw [upd_ne nc]
      exact s3 _ _ (s2 _ _ (s1 _ _ e))
    refine q _ bt (Pic.but hk bt pic) ⟨_, upd_same, ?_, ?_, ?_⟩
    · rw [putK_new _ n0, List.map_append, List.map_append, ek]
      rfl
    · rw [List.nodup_append]
      exact ⟨nd, by simp, fun x hx y hy => by rw [List.mem_singleton.mp hy]; exact fun e => no (e ▸ hx)⟩
    · rw [List.length_append]
      show ss.length + 1 ≤ 32
      omega
theorem ok_Picture_seats (T : Txt w K mg t) : FnOk true P w K mg base (CXo P w) 1 t.f_Picture_seats t.d_Picture_seats ["self"] (spSeats t) := by
  refine T.F_Picture_seats.okn (k := 0) sc_Picture_seats (fun vs H Q E h => ?_) (fun cdv A outer s H vs Q E hr h => ?_)
  · obtain ⟨a, dp, do_, pw, ph, ps, ss, rfl, _⟩ := h
    rfl
  · obtain ⟨a, dp, do_, pw, ph, ps, ss, rfl, h⟩ := h
    refine ⟨_, pss_one (ps_ret (pe_callB (call_sortedD rfl) rfl T.n_sorted PyProof.Rows.Boot.«sorted» (pa_cons (pe_fld (pv 0) rfl) (pa_nil)))), ?_⟩
    obtain ⟨pic, st, q⟩ := h
    obtain ⟨⟨dx, hp⟩, _, _⟩ := id pic
    obtain ⟨kvs, hk, ek, nd, l32⟩ := id st
    have kl : kvs.length = ss.length := by
      have := congrArg List.length ek
      simpa using this
    refine ⟨_, rfl, a, _, dx, _, _, rfl, hp, T.c_Picture, T.n_Picture_opened, lkO, do_, kvs, [false, true], rfl, hk, by omega, fun p hp' => ?_, by decide, fun l ts fr tm pm pw' => ?_⟩
    · have m : p.1 ∈ kvs.map (·.1) := List.mem_map.mpr ⟨p, hp', rfl⟩
      rw [ek] at m
      obtain ⟨s, _, e⟩ := List.mem_map.mp m
      rw [← e]
      rfl
    rw [ek] at pm
    have back : ∀ t ∈ ts, seatK (unK t.1) = t.1 := fun t ht => by
      obtain ⟨s, _, e⟩ := List.mem_map.mp (pm.mem_iff.mp (List.mem_map.mpr ⟨t, ht, rfl⟩))
      rw [← e, unK_seat]
    have z := q l ((ts.map (·.1)).map unK) (ts.map (·.2)) fr ?_ ?_ ?_
    · rw [List.map_map] at z
      exact z
    · clear pm pw'
      induction ts with
      | nil => exact .nil
      | cons t ts ih =>
        refine .cons ?_ (ih (fun x hx => tm x (List.mem_cons_of_mem _ hx)) fun x hx => back x (List.mem_cons_of_mem _ hx))
        have e := tm t List.mem_cons_self
        rw [← back t List.mem_cons_self] at e
        exact e
    · have z2 := pm.map unK
      have e2 : (ss.map seatK).map unK = ss := by
        rw [List.map_map, show (unK ∘ seatK) = id from funext unK_seat]
        exact List.map_id _
      rw [e2] at z2
      exact z2
    · rw [List.pairwise_map] at pw'
      rw [List.map_map, List.pairwise_map]
      refine pw'.imp_of_mem fun {x y} hx hy hxy => lex_seat ?_
      show lexK (seatK (unK x.1)) (seatK (unK y.1)) = true
      rw [back x hx, back y hy]
      exact hxy
end
end S34
set_option maxRecDepth 100000
set_option maxHeartbeats 4000000
namespace S34
open PySem L2 XL PyProof.Rows
def SsOk (h : Int) (ss : List Seat) : Prop := ss.Nodup ∧ ss.length ≤ 32 ∧ ∀ s ∈ ss, 1 ≤ s.2 ∧ s.2 ≤ h
theorem SeatsL.get {H : Hp} {ss : List Seat} {qs : List Addr} (h : SeatsL H ss qs) {i : Nat} {q : Addr} (e : qs[i]? = some q) : ∃ s, ss[i]? = some s ∧ H q = some (.tup (seatV s)) := by
  induction h generalizing i with
  | nil => simp at e
  | @cons s q' ss qs h _ ih =>
    cases i with
    | zero =>
      simp at e
      subst e
      exact ⟨s, rfl, h⟩
    | succ j => exact ih (by simpa using e)
theorem nd_map {α β : Type} {f : α → β} (inj : ∀ a b, f a = f b → a = b) {l : List α} (h : l.Nodup) : (l.map f).Nodup := by
  rw [List.nodup_iff_pairwise_ne, List.pairwise_map]
  exact h.imp fun hne e => hne (inj _ _ e)
theorem SeatsL.snoc {H : Hp} {ss : List Seat} {qs : List Addr} (h : SeatsL H ss qs) {s : Seat} {q : Addr} (e : H q = some (.tup (seatV s))) : SeatsL H (ss ++ [s]) (qs ++ [q]) := by
  induction h with
  | nil => exact .cons e .nil
  | cons h _ ih => exact .cons h ih
theorem perm_sorted {α : Type} {R : α → α → Prop} (as : ∀ a b, R a b → ¬ R b a) : ∀ {l l' : List α}, l.Perm l' → l.Pairwise R → l'.Pairwise R → l = l'
  | [], l', p, _, _ => (List.Perm.nil_eq p)
  | a :: t, [], p, _, _ => absurd p.symm (by intro z; exact absurd (List.Perm.nil_eq z) (by simp))
  | a :: t, b :: t', p, h, h' => by
    have h1 := List.pairwise_cons.mp h
    have h2 := List.pairwise_cons.mp h'
    by_cases e : a = b
    · subst e
      rw [perm_sorted as ((List.perm_cons a).mp p) h1.2 h2.2]
    · have ma : a ∈ t' := by
        have := p.mem_iff.mp (List.mem_cons_self (a := a) (l := t))
        rcases List.mem_cons.mp this with z | z
        · exact absurd z e
        · exact z
      have mb : b ∈ t := by
        have := p.mem_iff.mpr (List.mem_cons_self (a := b) (l := t'))
        rcases List.mem_cons.mp this with z | z
        · exact absurd z.symm e
        · exact z
      exact absurd (h2.1 a ma) (as _ _ (h1.1 b mb))
theorem seatLt_as (a b : Seat) (h : seatLt a b) : ¬ seatLt b a := by
  rintro (⟨x, y⟩ | ⟨x, y⟩) <;> rcases h with ⟨z, w⟩ | ⟨z, w⟩
  · rw [x] at w; cases w
  · rw [x, y] at z; cases z
  · rw [z, w] at x; cases x
  · omega
theorem SeatsL.pick {H : Hp} : ∀ {ss : List Seat} {ys : List V}, ys.length = ss.length → (∀ (j : Nat) (y : V) (s : Seat), ys[j]? = some y → ss[j]? = some s → ∃ q, y = .ref q ∧ H q = some (.tup (seatV s))) → ∃ rs : List Addr, ys = rs.map V.ref ∧ SeatsL H ss rs
  | [], [], _, _ => ⟨[], rfl, .nil⟩
  | [], _ :: _, h, _ => by cases h
  | _ :: _, [], h, _ => by cases h
  | s :: ss, y :: ys, h, k => by
    obtain ⟨q, e, hq⟩ := k 0 y s rfl rfl
    obtain ⟨rs, e2, r⟩ := SeatsL.pick (ss := ss) (ys := ys) (by simpa using h) fun j y s h1 h2 => k (j + 1) y s (by simpa using h1) (by simpa using h2)
    exact ⟨q :: rs, by rw [e, e2]; rfl, .cons hq r⟩
section
variable {P : Program} {w : World} {K : PySem.W.Frag} {mg : Str → Option Value} {base : Heap} {t : Adr}
end
structure PtOk (w h : Int) (p : Pt) : Prop where
  nm : isNm p.nm = true
  x1 : 1 ≤ p.x
  x2 : p.x ≤ w
  y1 : 1 ≤ p.y
  y2 : p.y ≤ h
  sd : p.sd = "left" ∨ p.sd = "right" ∨ p.sd = "both"
  l1 : 1 ≤ p.lo
  l2 : p.lo ≤ p.hi
  l3 : p.hi ≤ h
structure PtsOk (w h : Int) (ps : List Pt) : Prop where
  ok : ∀ p ∈ ps, PtOk w h p
  nn : (ps.map (·.nm)).Nodup
  nx : (ps.map (·.x)).Nodup
  ny : (ps.map (·.y)).Nodup
  le : ps.length ≤ 12
theorem nd_take {α β : Type} (f : α → β) {ps : List α} (nd : (ps.map f).Nodup) {i : Nat} (hi : i < ps.length) : ∀ p ∈ ps.take i, f p ≠ f ps[i] := fun p hp e => by
  have z := nd
  rw [← List.take_append_drop i ps, List.drop_eq_getElem_cons hi, List.map_append, List.map_cons, List.nodup_append] at z
  exact z.2.2 _ (List.mem_map.mpr ⟨p, hp, rfl⟩) _ List.mem_cons_self e
theorem find_nm {ps : List Pt} (nd : (ps.map (·.nm)).Nodup) {p : Pt} (hp : p ∈ ps) : ps.find? (fun q => decide (q.nm = p.nm)) = some p := by
  induction ps with
  | nil => simp at hp
  | cons a ps ih =>
    rw [List.map_cons, List.nodup_cons] at nd
    rcases List.mem_cons.mp hp with z | z
    · subst z
      rw [List.find?_cons_of_pos (by simp)]
    · have ne : ¬ a.nm = p.nm := fun y => nd.1 (y ▸ List.mem_map.mpr ⟨p, z, rfl⟩)
      rw [List.find?_cons_of_neg (by simpa using ne)]
      exact ih nd.2 z
section
variable {P : Program} {w : World} {K : PySem.W.Frag} {mg : Str → Option Value} {base : Heap} {t : Adr}
end
def wantB (p : Pt) (s : Seat) : Bool := (decide (p.sd = "both") || decide (p.sd = sideW s.1)) && (decide (p.lo ≤ s.2) && decide (s.2 ≤ p.hi))
theorem inV_sd (sd w : Str) : inV (.str sd) [.str "both", .str w] = (decide (sd = "both") || decide (sd = w)) := by
  have e : ∀ a b : Str, (a == b) = decide (b = a) := fun a b => by
    rw [Bool.eq_iff_iff, beq_iff_eq, decide_eq_true_iff]
    exact eq_comm
  show ((("both" : Str) == sd) || ((w == sd) || false)) = _
  rw [Bool.or_false, e, e]
def wantIx (s2 : List Seat) (p : Pt) (i : Nat) : Bool := match s2[i]? with | some s => wantB p s | none => false
theorem wantIx_of {s2 : List Seat} {p : Pt} {s : Seat} {i : Nat} (h : s2[i]? = some s) : wantIx s2 p i = wantB p s := by
  unfold wantIx
  rw [h]
def spMay8 (t : Adr) : Sp := fun vs H Q _ => ∃ (a dp do_ : Addr) (pw ph : Int) (ps : List Pt) (ss : List Seat) (pt : Pt) (b : Bool) (i : Int), vs = [.ref a, .str pt.nm, .str (sideW b), .int i] ∧ Pic t H a dp do_ pw ph ps ∧ Sts H do_ ss ∧ isNm pt.nm = true ∧ ps.find? (fun p => decide (p.nm = pt.nm)) = some pt ∧ 1 ≤ i ∧ i ≤ ph ∧ ∀ H', Same H H' → Q (.bl (decide ((b, i) ∈ ss) && wantB pt (b, i))) H'
def spFor8 (t : Adr) : Sp := fun vs H Q _ => ∃ (a dp do_ : Addr) (pw ph : Int) (ps : List Pt) (ss : List Seat) (pt : Pt), vs = [.ref a, .str pt.nm] ∧ Pic t H a dp do_ pw ph ps ∧ Sts H do_ ss ∧ SsOk ph ss ∧ isNm pt.nm = true ∧ ps.find? (fun p => decide (p.nm = pt.nm)) = some pt ∧
  ∀ (H' : Hp) (l : Addr) (srt : List Seat) (rs : List Addr), Same H H' → H l = none → srt.Perm ss → srt.Pairwise seatLt → H' l = some (.lst (rs.map V.ref)) → SeatsL H' (srt.filter (wantB pt)) rs → Q (.ref l) H'
section
variable {P : Program} {w : World} {K : PySem.W.Frag} {mg : Str → Option Value} {base : Heap} {t : Adr}
theorem ok_Picture_may (T : Txt w K mg t) : FnOk true P w K mg base (CXo P w) 5 t.f_Picture_may t.d_Picture_may ["self", "name", "side", "row"] (spMay8 t) := by
  refine T.F_Picture_may.okn (k := 4) sc_Picture_may (fun vs H Q E h => ?_) (fun cdv A outer s H vs Q E hr h => ?_)
  · obtain ⟨a, dp, do_, pw, ph, ps, ss, pt, b, i, rfl, _⟩ := h
    rfl
  · obtain ⟨a, dp, do_, pw, ph, ps, ss, pt, b, i, rfl, h⟩ := h
    refine ⟨_, pss_cons (ps_expr (pe_meth (pv 0) T.c_Picture T.m_Picture_check_name (ok_Picture_check_name T) (hr.mono (by decide)) T.b_Picture_check_name .nil pass_none (pa_cons (pv 1) (pa_nil))))
      (pss_cons (ps_expr (pe_meth (pv 0) T.c_Picture T.m_Picture_check_seat (ok_Picture_check_seat T) (hr.mono (by decide)) T.b_Picture_check_seat .nil pass_none (pa_cons (pv 2) (pa_cons (pv 3) (pa_nil)))))
      (pss_cons (ps_asg (pe_dget (hu_of hr) (pe_fld (pv 0) rfl) (pv 1) (fun _ _ => rfl)) (pg_tup rfl (pgs_cons (pg_name (i := 4) sc_Picture_may.nd rfl (Or.inl rfl)) (pgs_cons (pg_name (i := 5) sc_Picture_may.nd rfl (Or.inl rfl)) (pgs_cons (pg_name (i := 6) sc_Picture_may.nd rfl (Or.inl rfl)) (pgs_cons (pg_name (i := 7) sc_Picture_may.nd rfl (Or.inl rfl)) (pgs_cons (pg_name (i := 8) sc_Picture_may.nd rfl (Or.inl rfl)) (pgs_nil))))))))
      (pss_one (ps_ret (pe_and (pe_cmp (pc_din (hu_of hr) (pe_tup (pa_cons (pv 2) (pa_cons (pv 3) (pa_nil)))) (pe_fld (pv 0) rfl))) (pe_and (pe_cmpR op_in_seq (pv 6) (pe_tup (pa_cons (pe_str) (pa_cons (pv 2) (pa_nil)))) (by rfl)) (pe_one (pe_chain op_le op_le (pv 7) (pv 3) (pv 8))))))))), ?_⟩
    obtain ⟨pic, st, hn, hf, i1, i2, q⟩ := h
    obtain ⟨⟨dx0, hp⟩, ⟨kvs, hk, pl⟩, _⟩ := id pic
    refine ⟨_, rfl, a, dx0, _, rfl, hp, lk_no (by decide +kernel), _, rfl, a, dp, do_, pw, ph, ps, pt.nm, pt, rfl, pic, hn, hf, ?_⟩
    refine ⟨_, rfl, a, dx0, _, rfl, hp, lk_no (by decide +kernel), _, rfl, _, rfl, a, dp, do_, pw, ph, ps, b, i, rfl, pic, i1, i2, fun H1 s1 => ?_⟩
    obtain ⟨q0, e0, hq0⟩ := pl.find hf
    have hp1 := s1 _ _ hp
    have hk1 := s1 _ _ hk
    refine ⟨_, rfl, a, _, _, _, _, rfl, hp1, T.c_Picture, T.n_Picture_placed, lkP, _, rfl, dp, .ref q0, rfl, (by rw [← e0]; exact DGet.k (k := .inr pt.nm) hk1), q0, _, rfl, SqT.of (s1 _ _ hq0), rfl, _, _, rfl, _, _, rfl, _, _, rfl, _, _, rfl, _, _, rfl, rfl, ?_⟩
    refine ⟨_, rfl, _, rfl, (by show 2 ≤ sizeLine; decide), fun q1 hq1 => ?_⟩
    have s2 : Same H1 (upd H1 q1 (.tup [.str (sideW b), .int i])) := same_upd (Same.refl _) hq1
    have g2 : upd H1 q1 (.tup [.str (sideW b), .int i]) q1 = some (.tup [.str (sideW b), .int i]) := upd_same
    revert s2 g2
    generalize upd H1 q1 (.tup [.str (sideW b), .int i]) = H2
    intro s2 g2
    have hp2 := s2 _ _ hp1
    have s02 := s1.trans s2
    obtain ⟨ko, hko, ek, nd, l32⟩ := id st
    have hko2 := s02 _ _ hko
    have qq := q
    by_cases cin : (b, i) ∈ ss
    · obtain ⟨v, hv⟩ := val_yes ek cin
      refine ⟨_, rfl, a, _, _, _, _, rfl, hp2, T.c_Picture, T.n_Picture_opened, lkO, do_, some v, rfl, (by rw [← hv]; exact DGet.t (k := seatK (b, i)) hko2 g2), true, rfl, iteT ?_⟩
      refine ⟨_, rfl, _, rfl, (by show 2 ≤ sizeLine; decide), fun q3 hq3 => ?_⟩
      have s3 : Same H2 (upd H2 q3 (.tup [.str "both", .str (sideW b)])) := same_upd (Same.refl _) hq3
      have g3 : upd H2 q3 (.tup [.str "both", .str (sideW b)]) q3 = some (.tup [.str "both", .str (sideW b)]) := upd_same
      revert s3 g3
      generalize upd H2 q3 (.tup [.str "both", .str (sideW b)]) = H3
      intro s3 g3
      have z := qq H3 (s02.trans s3)
      rw [decide_eq_true cin, Bool.true_and] at z
      unfold wantB at z
      refine ⟨q3, _, rfl, .inr (SqT.of g3), rfl, rfl, _, rfl, ite2 (fun c => ?_) (fun c => ?_)⟩
      · rw [if_neg (by decide), inV_sd] at c
        dsimp only at z
        rw [c, Bool.true_and] at z
        refine ⟨_, rfl, _, rfl, _, _, rfl, rfl, _, rfl, ite2 (fun c2 => ?_) (fun c2 => ?_)⟩
        · rw [c2, Bool.true_and] at z
          exact ⟨_, rfl, _, _, rfl, rfl, z⟩
        · rw [Bool.eq_false_iff.mpr c2, Bool.false_and] at z
          exact z
      · rw [if_neg (by decide), inV_sd] at c
        dsimp only at z
        rw [Bool.eq_false_iff.mpr c, Bool.false_and] at z
        exact z
    · have n0 : valV ko (seatK (b, i)) = none := val_no ek cin
      have z := qq H2 s02
      rw [decide_eq_false cin, Bool.false_and] at z
      exact ⟨_, rfl, a, _, _, _, _, rfl, hp2, T.c_Picture, T.n_Picture_opened, lkO, do_, none, rfl, (by rw [← n0]; exact DGet.t (k := seatK (b, i)) hko2 g2), false, rfl, iteF z⟩
theorem ok_Picture_seats_for (T : Txt w K mg t) : FnOk true P w K mg base (CXo P w) 6 t.f_Picture_seats_for t.d_Picture_seats_for ["self", "name"] (spFor8 t) := by
  refine T.F_Picture_seats_for.okn (k := 5) sc_Picture_seats_for (fun vs H Q E h => ?_) (fun cdv A outer s H vs Q E hr h => ?_)
  · obtain ⟨a, dp, do_, pw, ph, ps, ss, pt, rfl, _⟩ := h
    rfl
  · obtain ⟨a, dp, do_, pw, ph, ps, ss, pt, rfl, h⟩ := h
    refine ⟨_, pss_cons (ps_expr (pe_meth (pv 0) T.c_Picture T.m_Picture_check_name (ok_Picture_check_name T) (hr.mono (by decide)) T.b_Picture_check_name .nil pass_none (pa_cons (pv 1) (pa_nil))))
      (pss_one (ps_ret (pe_compG rfl (blkG_of (zs := ["side", "row"]) (ys := ["name", "self"]) (fr := [1, 0]) (N0 := ["self", "name"]) (sc0 := defScope s_Picture_seats_for) (by decide +kernel) rfl rfl rfl) (pi_list (pe_meth0 (pv 0) T.c_Picture T.m_Picture_seats (ok_Picture_seats T) (hr.mono (by decide)) T.b_Picture_seats .nil pass_none)) (fun _ _ _ _ _ ow nd => (pg_tup rfl (pgs_cons (pg_name (i := 0) nd rfl (Or.inl (ow _ (by simp))) (Or.inr (ow _ (by simp)))) (pgs_cons (pg_name (i := 1) nd rfl (Or.inl (ow _ (by simp))) (Or.inr (ow _ (by simp)))) (pgs_nil))) : PG _ _ (gTup K 2 _))) (gok_tup (goks_cons (by decide) (goks_cons (by decide) (goks_nil)))) (fun _ _ _ _ _ => pif_one (pt_val (pe_meth (pv 3) T.c_Picture T.m_Picture_may (ok_Picture_may T) (hr.mono (by decide)) T.b_Picture_may .nil pass_none (pa_cons (pv 2) (pa_cons (pv 0) (pa_cons (pv 1) (pa_nil))))))) (fun _ _ _ _ _ => pe_tup (pa_cons (pv 0) (pa_cons (pv 1) (pa_nil))))))), ?_⟩
    obtain ⟨pic, st, sok, hn, hf, q⟩ := h
    obtain ⟨⟨dx0, hp⟩, _, _⟩ := id pic
    refine ⟨_, rfl, a, dx0, _, rfl, hp, lk_no (by decide +kernel), _, rfl, a, dp, do_, pw, ph, ps, pt.nm, pt, rfl, pic, hn, hf, ?_⟩
    refine ⟨_, rfl, a, dx0, _, rfl, hp, lk_no (by decide +kernel), a, dp, do_, pw, ph, ps, ss, rfl, pic, st, fun l1 srt qs1 fr1 sl1 pm1 pw1 => ?_⟩
    have s1 : Same H (upd H l1 (.lst (qs1.map V.ref))) := same_upd (Same.refl _) fr1
    have g1 : upd H l1 (.lst (qs1.map V.ref)) l1 = some (.lst (qs1.map V.ref)) := upd_same
    revert s1 g1
    generalize upd H l1 (.lst (qs1.map V.ref)) = H1
    intro s1 g1
    have sl1' := sl1.keep (Same.tups s1)
    have ql := sl1.len
    have sl32 : srt.length ≤ 32 := by rw [pm1.length_eq]; exact sok.2.1
    refine ⟨l1, rfl, ⟨_, SqL.of g1⟩, fun l2 hl2 => ?_⟩
    refine comp_listF (SqL.of g1) (by rw [List.length_map]; exact Nat.lt_trans (by omega : qs1.length < 33) (by decide)) hl2 (wantIx srt pt) (fun i y H => ∃ s q, srt[i]? = some s ∧ y = .ref q ∧ H q = some (.tup (seatV s))) (fun i y H H' tp ⟨s, q, e1, e2, e3⟩ => ⟨s, q, e1, e2, tp _ _ e3⟩) (fun i x H4 hx s4 N M hN hM => ?_) (fun ys H4 s4 el4 ly f4 => ?_)
    · rw [List.getElem?_map] at hx
      obtain ⟨o, ho, rfl⟩ := Option.map_eq_some_iff.mp hx
      obtain ⟨s0, hs0, ep⟩ := sl1'.get ho
      have s04 := s1.trans s4
      have min : s0 ∈ ss := pm1.mem_iff.mp (List.mem_of_getElem? hs0)
      obtain ⟨sr1, sr2⟩ := sok.2.2 s0 min
      refine ⟨o, _, rfl, SqT.of (s4 _ _ ep), rfl, _, _, rfl, _, _, rfl, rfl, ?_⟩
      refine ⟨_, rfl, a, dx0, _, rfl, s04 _ _ hp, lk_no (by decide +kernel), _, rfl, _, rfl, _, rfl, a, dp, do_, pw, ph, ps, ss, pt, s0.1, s0.2, rfl, Pic.same s04 pic, st.same s04, hn, hf, sr1, sr2, fun H5 s5 => ?_⟩
      · refine ⟨_, rfl, ite2 (fun c => ?_) (fun c => ?_)⟩
        · rw [decide_eq_true (show (s0.1, s0.2) ∈ ss from min), Bool.true_and] at c
          refine ⟨_, rfl, _, rfl, (by show 2 ≤ sizeLine; decide), fun q6 hq6 => ?_⟩
          exact hN _ _ (s5.trans (same_upd (Same.refl _) hq6)) (by rw [wantIx_of hs0]; exact c) ⟨s0, q6, hs0, rfl, upd_same⟩
        · rw [decide_eq_true (show (s0.1, s0.2) ∈ ss from min), Bool.true_and] at c
          exact hM _ s5 (by rw [wantIx_of hs0]; exact Bool.eq_false_iff.mpr c)
    · have fi := ix_filt (wantB pt) (as := srt) (p := wantIx srt pt) (fun i s hs => wantIx_of hs)
      rw [List.length_map, ql] at ly f4
      obtain ⟨rs4, e4, sts4⟩ := SeatsL.pick (H := H4) (ss := srt.filter (wantB pt)) (ys := ys) (by rw [ly, fi.1]) (fun j y s hy hs => by
        have hj : j < ((List.range srt.length).filter (wantIx srt pt)).length := by
          rw [← ly]
          exact (List.getElem?_eq_some_iff.mp hy).1
        obtain ⟨s', q', h1, h2, h3⟩ := f4 j y _ hy (List.getElem?_eq_getElem hj)
        rw [fi.2 j _ (List.getElem?_eq_getElem hj), hs] at h1
        cases h1
        exact ⟨q', h2, h3⟩)
      subst e4
      exact q H4 l2 srt rs4 (s1.trans s4) (s1.free hl2) pm1 pw1 el4 sts4
end
def scD : V → DV
  | .int i => .int i
  | .bl b => .bl b
  | .str s => .str s
  | _ => .non
def scV : V → Bool
  | .int _ => true
  | .bl _ => true
  | .str _ => true
  | .non => true
  | _ => false
theorem sc_dv {K : PySem.W.Frag} {H : Hp} {v : V} (h : scV v = true) : Dv K H 0 v (scD v) := by
  cases v with
  | int i => exact .int
  | bl b => exact .bl
  | str s => exact .str
  | non => exact .non
  | _ => cases h
theorem scs_dv {K : PySem.W.Frag} {H : Hp} {xs : List V} (f : xs.all scV = true) (j : Nat) (x : V) (d : DV) (h1 : xs[j]? = some x) (h2 : (xs.map scD)[j]? = some d) : Dv K H 0 x d := by
  rw [List.getElem?_map, h1] at h2
  cases h2
  exact sc_dv (List.all_eq_true.mp f x (List.mem_of_getElem? h1))
structure Dr (t : Adr) (H : Hp) (a dp do_ : Addr) (w h : Nat) (ps : List Pt) (ss srt : List Seat) : Prop where
  pic : Pic t H a dp do_ (w : Int) (h : Int) ps
  sts : Sts H do_ ss
  ok : SsOk (h : Int) ss
  pm : srt.Perm ss
  lt : srt.Pairwise seatLt
  nm : ∀ p ∈ ps, isNm p.nm = true
theorem Dr.same {t : Adr} {H H' : Hp} {a dp do_ : Addr} {w h : Nat} {ps : List Pt} {ss srt : List Seat} (d : Dr t H a dp do_ w h ps ss srt) (s : Same H H') : Dr t H' a dp do_ w h ps ss srt := ⟨Pic.same s d.pic, d.sts.same s, d.ok, d.pm, d.lt, d.nm⟩
theorem cut_ints (ns : List Int) : ∃ ms : List Int, cutV (ns.map V.int) (some 3) (some 15) = ms.map V.int ∧ ms.length ≤ 12 := by
  refine ⟨(ns.drop (min 3 ns.length)).take (min 15 ns.length - min 3 ns.length), ?_, ?_⟩
  · unfold cutV
    simp only [HT.sIx, List.length_map]
    rw [if_neg (by decide), if_neg (by decide), List.map_take, List.map_drop]
    rfl
  · rw [List.length_take]
    omega
section
variable {P : Program} {w : World} {K : PySem.W.Frag} {mg : Str → Option Value} {base : Heap} {t : Adr}
end
end S34
set_option maxRecDepth 100000
set_option maxHeartbeats 4000000
namespace S34
open PySem L2 XL PyProof.Rows
theorem cm_mod {x d : Int} (h : 0 < d) (h2 : d ≤ 4294967296) : -(2 ^ 64) < x % d ∧ x % d < 2 ^ 64 := by
  have a := Int.emod_nonneg x (show d ≠ 0 by omega)
  have b := Int.emod_lt_of_pos x h
  exact ⟨by omega, by omega⟩
theorem mod_in (x : Int) {d : Int} (h : 0 < d) : 0 ≤ x % d ∧ x % d < d := ⟨Int.emod_nonneg _ (by omega), Int.emod_lt_of_pos _ h⟩
def spCell (K : PySem.W.Frag) : Sp := fun vs H Q _ => ∃ (a : Addr) (ns : List Int) (k : Int), vs = [.ref a, .int k] ∧ SqL K H a (ns.map V.int) ∧ 0 ≤ k ∧ k < 2 ^ 62 ∧ ∀ c : Int, Q (.int c) H
def spMix : Sp := fun vs H Q _ => ∃ c k : Int, vs = [.int c, .int k] ∧ ∀ m : Int, 0 ≤ m → m < 2147483587 → Q (.int m) H
def spFrame (K : PySem.W.Frag) : Sp := fun vs H Q _ => ∃ (a : Addr) (ns : List Int), vs = [.ref a] ∧ SqL K H a (ns.map V.int) ∧ ∀ (w h : Nat) H' p, 1 ≤ w → w ≤ 30 → 1 ≤ h → h ≤ 16 → Same H H' → H' p = some (.tup [.int (w : Int), .int (h : Int)]) → Q (.ref p) H'
def spSeatsL (K : PySem.W.Frag) : Sp := fun vs H Q _ => ∃ (a : Addr) (ns : List Int) (h : Nat), vs = [.ref a, .int (h : Int)] ∧ SqL K H a (ns.map V.int) ∧ h ≤ 16 ∧ ∀ (ss : List Seat) (qs : List Addr) H' l, ss.length ≤ 32 → ss.Pairwise seatLt → (∀ s ∈ ss, 1 ≤ s.2 ∧ s.2 ≤ (h : Int)) → Same H H' → H l = none → H' l = some (.lst (qs.map V.ref)) → SeatsL H' ss qs → Q (.ref l) H'
theorem fr_nat (a m d : Int) (h : 0 < d) (ha : 0 ≤ a) : ∃ x : Nat, a + m % d = (x : Int) ∧ a ≤ x ∧ (x : Int) < a + d := by
  have z := mod_in m h
  exact ⟨(a + m % d).toNat, by omega, by omega, by omega⟩
section
variable {P : Program} {w : World} {K : PySem.W.Frag} {mg : Str → Option Value} {base : Heap} {t : Adr}
theorem ok_law_cell_at (T : Txt w K mg t) : FnOk true P w K mg base (CXo P w) 1 t.f_law_cell_at t.d_law_cell_at ["_law_script", "_law_k"] (spCell K) := by
  refine T.F_law_cell_at.okn (k := 0) sc_law_cell_at (fun vs H Q E h => ?_) (fun cdv A outer s H vs Q E hr h => ?_)
  · obtain ⟨a, ns, k, rfl, _⟩ := h
    rfl
  · obtain ⟨a, ns, k, rfl, h⟩ := h
    refine ⟨_, pss_cons (ps_if (pt_cmpR op_lt (pv 1) (pe_callB call_len_seq rfl T.n_len boot_len (pa_cons (pv 0) (pa_nil))) (nomark _)) (pss_one (ps_ret (pe_ix ix_list (pv 0) (pv 1) (fun _ _ => rfl)))) (pss_nil))
      (pss_one (ps_ret (pe_int))), ?_⟩
    obtain ⟨hs, k0, k1, q⟩ := h
    refine ⟨_, rfl, _, rfl, a, _, rfl, .inl hs, _, _, rfl, rfl, _, rfl, ?_⟩
    refine ite2 (fun c => ?_) (fun c => ?_)
    · have c' : k < (ns.length : Int) := by simpa using c
      obtain ⟨j, rfl⟩ := Int.eq_ofNat_of_zero_le k0
      have lt : j < ns.length := by omega
      exact ⟨_, rfl, _, rfl, a, _, _, _, rfl, rfl, hs, atI_nat (by rw [List.getElem?_map, List.getElem?_eq_getElem lt]; rfl), q _⟩
    · exact q _
theorem ok_law_mix (T : Txt w K mg t) : FnOk true P w K mg base (CXo P w) 1 t.f_law_mix t.d_law_mix ["_law_cell", "_law_k"] (spMix) := by
  refine T.F_law_mix.okn (k := 0) sc_law_mix (fun vs H Q E h => ?_) (fun cdv A outer s H vs Q E hr h => ?_)
  · obtain ⟨c, k, rfl, _⟩ := h
    rfl
  · obtain ⟨c, k, rfl, h⟩ := h
    refine ⟨_, pss_cons (ps_set (i := 2) sc_law_mix.nd rfl (Or.inl rfl) (pe_op op_mod (pe_op op_mul (pe_op op_add (pe_op op_add (pe_op op_mod (pv 0) (pe_int)) (pe_op op_mul (pe_int) (pv 1))) (pe_int)) (pe_int)) (pe_int)))
      (pss_cons (ps_set (i := 2) sc_law_mix.nd rfl (Or.inl rfl) (pe_op op_mod (pe_op op_mul (pv 2) (pv 2)) (pe_int)))
      (pss_one (ps_ret (pe_op op_mod (pe_op op_mul (pv 2) (pe_op op_add (pv 2) (pe_int))) (pe_int))))), ?_⟩
    refine ⟨_, rfl, _, _, rfl, rfl, (by show (0 : Int) < 2147483629; decide), _, rfl, _, _, rfl, rfl, .inl ⟨by decide, by decide⟩, _, _, rfl, rfl, _, _, rfl, rfl, _, _, rfl, rfl, .inr ⟨by decide, by decide⟩, _, _, rfl, rfl, (by show (0 : Int) < 2147483647; decide), ?_⟩
    refine ⟨_, rfl, _, rfl, _, _, rfl, rfl, .inl (cm_mod (by decide) (by decide)), _, _, rfl, rfl, (by show (0 : Int) < 2147483629; decide), ?_⟩
    refine ⟨_, rfl, _, rfl, _, _, rfl, rfl, _, _, rfl, rfl, .inl (cm_mod (by decide) (by decide)), _, _, rfl, rfl, (by show (0 : Int) < 2147483587; decide), ?_⟩
    exact h _ (mod_in _ (by decide)).1 (mod_in _ (by decide)).2
theorem ok_law_frame (T : Txt w K mg t) : FnOk true P w K mg base (CXo P w) 2 t.f_law_frame t.d_law_frame ["_law_script"] (spFrame K) := by
  refine T.F_law_frame.okn (k := 1) sc_law_frame (fun vs H Q E h => ?_) (fun cdv A outer s H vs Q E hr h => ?_)
  · obtain ⟨sc, ns, rfl, _⟩ := h
    rfl
  · obtain ⟨sc, ns, rfl, h⟩ := h
    refine ⟨_, pss_cons (ps_set (i := 1) sc_law_frame.nd rfl (Or.inl rfl) (pe_call (ok_law_cell_at T) (hr.mono (by decide)) rfl T.g_law_cell_at T.F_law_cell_at.kp T.b_law_cell_at .nil pass_none (pa_cons (pv 0) (pa_cons (pe_int) (pa_nil)))))
      (pss_cons (ps_mid (ps_if (pt_cmpR op_eq (pe_op op_mod (pv 1) (pe_int)) (pe_int) (nomark _)) (pss_one (ps_ret (pe_tup (pa_cons (pe_op op_add (pe_int) (pe_op op_mod (pe_op op_fdiv (pv 1) (pe_int)) (pe_int))) (pa_cons (pe_op op_add (pe_int) (pe_op op_mod (pe_op op_fdiv (pv 1) (pe_int)) (pe_int))) (pa_nil)))))) (pss_nil)))
      (pss_cons (ps_set (i := 2) sc_law_frame.nd rfl (Or.inl rfl) (pe_op op_add (pe_int) (pe_op op_mod (pe_call (ok_law_mix T) (hr.mono (by decide)) rfl T.g_law_mix T.F_law_mix.kp T.b_law_mix .nil pass_none (pa_cons (pv 1) (pa_cons (pe_int) (pa_nil)))) (pe_int))))
      (pss_cons (ps_set (i := 3) sc_law_frame.nd rfl (Or.inl rfl) (pe_op op_add (pe_int) (pe_op op_mod (pe_call (ok_law_mix T) (hr.mono (by decide)) rfl T.g_law_mix T.F_law_mix.kp T.b_law_mix .nil pass_none (pa_cons (pv 1) (pa_cons (pe_int) (pa_nil)))) (pe_int))))
      (pss_cons (ps_mid (ps_if (pt_cmpR op_eq (pe_op op_mod (pe_call (ok_law_mix T) (hr.mono (by decide)) rfl T.g_law_mix T.F_law_mix.kp T.b_law_mix .nil pass_none (pa_cons (pv 1) (pa_cons (pe_int) (pa_nil)))) (pe_int)) (pe_int) (nomark _)) (pss_cons (ps_set (i := 2) sc_law_frame.nd rfl (Or.inl rfl) (pe_op op_add (pe_int) (pe_op op_mod (pe_call (ok_law_mix T) (hr.mono (by decide)) rfl T.g_law_mix T.F_law_mix.kp T.b_law_mix .nil pass_none (pa_cons (pv 1) (pa_cons (pe_int) (pa_nil)))) (pe_int))))
      (pss_one (ps_set (i := 3) sc_law_frame.nd rfl (Or.inl rfl) (pe_op op_add (pe_int) (pe_op op_mod (pe_call (ok_law_mix T) (hr.mono (by decide)) rfl T.g_law_mix T.F_law_mix.kp T.b_law_mix .nil pass_none (pa_cons (pv 1) (pa_cons (pe_int) (pa_nil)))) (pe_int)))))) (pss_nil)))
      (pss_one (ps_ret (pe_tup (pa_cons (pv 2) (pa_cons (pv 3) (pa_nil)))))))))), ?_⟩
    obtain ⟨hs, q⟩ := h
    refine ⟨_, rfl, sc, ns, 0, rfl, hs, by decide, by decide, fun c => ?_⟩
    refine ⟨fun σ H1 => H = H1 ∧ σ = [some (.ref sc), some (.int c), none, none], ?_, ?_⟩
    · refine ⟨_, rfl, _, _, rfl, rfl, (by show (0 : Int) < 2; decide), rfl, _, rfl, ite2 (fun y => ?_) (fun y => ⟨rfl, rfl⟩)⟩
      refine ⟨_, rfl, _, _, rfl, rfl, ⟨by decide, by decide⟩, _, _, rfl, rfl, (by show (0 : Int) < 30; decide), _, _, rfl, rfl, ?_⟩
      obtain ⟨w1, ew, w11, w12⟩ := fr_nat 1 (c / 2) 30 (by decide) (by decide)
      simp only [ew]
      refine ⟨_, rfl, _, _, rfl, rfl, ⟨by decide, by decide⟩, _, _, rfl, rfl, (by show (0 : Int) < 16; decide), _, _, rfl, rfl, ?_⟩
      obtain ⟨h1, eh, h11, h12⟩ := fr_nat 1 (c / 60) 16 (by decide) (by decide)
      simp only [eh]
      exact ⟨(by show 2 ≤ sizeLine; decide), fun p hp => q w1 h1 _ p (by omega) (by omega) (by omega) (by omega) (same_upd (Same.refl _) hp) upd_same⟩
    rintro σ _ ⟨rfl, rfl⟩
    refine ⟨_, rfl, c, 1, rfl, fun m1 _ _ => ⟨_, _, rfl, rfl, (by show (0 : Int) < 30; decide), _, _, rfl, rfl, ?_⟩⟩
    obtain ⟨w1, ew, w11, w12⟩ := fr_nat 1 m1 30 (by decide) (by decide)
    simp only [ew]
    refine ⟨_, rfl, c, 2, rfl, fun m2 _ _ => ⟨_, _, rfl, rfl, (by show (0 : Int) < 16; decide), _, _, rfl, rfl, ?_⟩⟩
    obtain ⟨h1, eh, h11, h12⟩ := fr_nat 1 m2 16 (by decide) (by decide)
    simp only [eh]
    refine ⟨fun σ H1 => H = H1 ∧ ∃ w h : Nat, 1 ≤ w ∧ w ≤ 30 ∧ 1 ≤ h ∧ h ≤ 16 ∧ σ = [some (.ref sc), some (.int c), some (.int (w : Int)), some (.int (h : Int))], ?_, ?_⟩
    · refine ⟨_, rfl, c, 3, rfl, fun m3 _ _ => ⟨_, _, rfl, rfl, (by show (0 : Int) < 2; decide), rfl, _, rfl, ite2 (fun y => ?_) (fun y => ⟨rfl, w1, h1, by omega, by omega, by omega, by omega, rfl⟩)⟩⟩
      refine ⟨_, rfl, c, 1, rfl, fun m4 _ _ => ⟨_, _, rfl, rfl, (by show (0 : Int) < 19; decide), _, _, rfl, rfl, ?_⟩⟩
      obtain ⟨w2, ew2, w21, w22⟩ := fr_nat 12 m4 19 (by decide) (by decide)
      simp only [ew2]
      refine ⟨_, rfl, c, 2, rfl, fun m5 _ _ => ⟨_, _, rfl, rfl, (by show (0 : Int) < 5; decide), _, _, rfl, rfl, ?_⟩⟩
      obtain ⟨h2, eh2, h21, h22⟩ := fr_nat 12 m5 5 (by decide) (by decide)
      simp only [eh2]
      exact ⟨rfl, w2, h2, by omega, by omega, by omega, by omega, rfl⟩
    rintro σ _ ⟨rfl, w, h, a1, a2, a3, a4, rfl⟩
    exact ⟨_, rfl, _, rfl, (by show 2 ≤ sizeLine; decide), fun p hp => q w h _ p a1 a2 a3 a4 (same_upd (Same.refl _) hp) upd_same⟩
theorem ok_law_seats (T : Txt w K mg t) : FnOk true P w K mg base (CXo P w) 2 t.f_law_seats t.d_law_seats ["_law_script", "_law_height"] (spSeatsL K) := by
  refine T.F_law_seats.okn (k := 1) sc_law_seats (fun vs H Q E h => ?_) (fun cdv A outer s H vs Q E hr h => ?_)
  · obtain ⟨sc, ns, ph, rfl, _⟩ := h
    rfl
  · obtain ⟨sc, ns, ph, rfl, h⟩ := h
    refine ⟨_, pss_cons (ps_set (i := 2) sc_law_seats.nd rfl (Or.inl rfl) (pe_call (ok_law_cell_at T) (hr.mono (by decide)) rfl T.g_law_cell_at T.F_law_cell_at.kp T.b_law_cell_at .nil pass_none (pa_cons (pv 0) (pa_cons (pe_int) (pa_nil)))))
      (pss_cons (ps_set (i := 3) sc_law_seats.nd rfl (Or.inl rfl) (pe_cmpR op_eq (pe_op op_mod (pe_call (ok_law_cell_at T) (hr.mono (by decide)) rfl T.g_law_cell_at T.F_law_cell_at.kp T.b_law_cell_at .nil pass_none (pa_cons (pv 0) (pa_cons (pe_int) (pa_nil)))) (pe_int)) (pe_int) (nomark _)))
      (pss_cons (ps_set (i := 4) sc_law_seats.nd rfl (Or.inl rfl) (pe_op op_mod (pe_call (ok_law_mix T) (hr.mono (by decide)) rfl T.g_law_mix T.F_law_mix.kp T.b_law_mix .nil pass_none (pa_cons (pv 2) (pa_cons (pe_int) (pa_nil)))) (pe_int)))
      (pss_cons (ps_set (i := 5) sc_law_seats.nd rfl (Or.inl rfl) (pe_lst (pa_nil)))
      (pss_cons (ps_for PassesOwn.never rfl (pi_enumerate rfl T.n_enumerate (pa_cons (pe_lst (pa_cons (pe_str) (pa_cons (pe_str) (pa_nil)))) (pa_nil))) (pg_tup rfl (pgs_cons (pg_name (i := 6) sc_law_seats.nd rfl (Or.inl rfl)) (pgs_cons (pg_name (i := 7) sc_law_seats.nd rfl (Or.inl rfl)) (pgs_nil)))) (pss_one (ps_for PassesOwn.never rfl (pi_range2 rfl T.n_range (pa_cons (pe_int) (pa_cons (pe_op op_add (pv 1) (pe_int)) (pa_nil)))) (pg_name (i := 8) sc_law_seats.nd rfl (Or.inl rfl)) (pss_cons (ps_mid (ps_if (PW.pt (pw_or (PW.pt (pw_and (pt_val (pv 3)) (pw_and1 (pt_cmpR op_eq (pe_op op_mod (pv 2) (pe_int)) (pe_int) (nomark _))))) (pw_or1 (PW.pt (pw_and (pt_not (pt_val (pv 3))) (pw_and1 (pt_cmpR op_lt (pe_op op_mod (pe_call (ok_law_mix T) (hr.mono (by decide)) rfl T.g_law_mix T.F_law_mix.kp T.b_law_mix .nil pass_none (pa_cons (pv 2) (pa_cons (pe_op op_add (pe_op op_mul (pe_int) (pv 8)) (pv 6)) (pa_nil)))) (pe_int)) (pv 4) (nomark _)))))))) (pss_one (ps_expr (pe_bm PySem.F.plainAttrs_list PySem.F.slot_list_append PySem.F.type_list_append mt_append (pv 5) (pa_cons (pe_tup (pa_cons (pv 7) (pa_cons (pv 8) (pa_nil)))) (pa_nil))))) (pss_nil)))
      (pss_one (ps_mid (ps_if (pt_val (pv 3)) (pss_one (ps_set (i := 2) sc_law_seats.nd rfl (Or.inl rfl) (pe_op op_fdiv (pv 2) (pe_int)))) (pss_nil))))))))
      (pss_one (ps_ret (pv 5))))))), ?_⟩
    obtain ⟨hs, h16, q⟩ := h
    refine ⟨_, rfl, sc, ns, 1, rfl, hs, by decide, by decide, fun c => ?_⟩
    refine ⟨_, rfl, sc, ns, 0, rfl, hs, by decide, by decide, fun c0 => ⟨_, _, rfl, rfl, (by show (0 : Int) < 2; decide), rfl, ?_⟩⟩
    generalize (decide (V.int (c0 % 2) = V.int 1)) = dg
    refine ⟨_, rfl, c, 1, rfl, fun m1 _ _ => ⟨_, _, rfl, rfl, (by show (0 : Int) < 7; decide), ?_⟩⟩
    refine ⟨(by show 0 ≤ sizeLine; decide), fun l hl => ?_⟩
    have s1 : Same H (upd H l (.lst [])) := same_upd (Same.refl _) hl
    have g1 : upd H l (.lst []) l = some (.lst []) := upd_same
    revert s1 g1
    generalize upd H l (.lst []) = H1
    intro s1 g1
    refine ⟨(by show 2 ≤ sizeLine; decide), fun le hle => ?_⟩
    have s2 : Same H1 (upd H1 le (.lst [.str (Str.ofString "left"), .str (Str.ofString "right")])) := same_upd (Same.refl _) hle
    have g2 : upd H1 le (.lst [.str (Str.ofString "left"), .str (Str.ofString "right")]) le = some (.lst [.str (Str.ofString "left"), .str (Str.ofString "right")]) := upd_same
    revert s2 g2
    generalize upd H1 le (.lst [.str (Str.ofString "left"), .str (Str.ofString "right")]) = H2
    intro s2 g2
    refine ⟨le, _, rfl, SqL.of g2, ?_⟩
    have nle : le ≠ l := Ne.symm (ne_of_none g1 hle)
    have fle := s1.free hle
    refine for_enum (xs := [.str (Str.ofString "left"), .str (Str.ofString "right")]) (Pv := fun k σ H5 => ∃ (c : Int) (ss : List Seat) (qs : List Addr) (v5 v6 v7 : Option V), σ = [some (.ref sc), some (.int (ph : Int)), some (.int c), some (.bl dg), some (.int (m1 % 7)), some (.ref l), v5, v6, v7] ∧ Same H H5 ∧ H5 le = some (.lst [.str (Str.ofString "left"), .str (Str.ofString "right")]) ∧ H5 l = some (.lst (qs.map V.ref)) ∧ SeatsL H5 ss qs ∧ ss.Pairwise seatLt ∧ (∀ s ∈ ss, 1 ≤ s.2 ∧ s.2 ≤ (ph : Int)) ∧ qs.length ≤ 16 * k ∧ (k = 0 → ss = []) ∧ (k = 1 → ∀ s ∈ ss, s.1 = true)) ?_ ?_ ?_ ?_
    · exact ⟨c, [], [], _, _, _, rfl, s1.trans s2, g2, s2 _ _ g1, .nil, .nil, fun _ z => (nomatch z), Nat.le_refl _, fun _ => rfl, fun z => (nomatch z)⟩
    · rintro i σ H5 _ ⟨_, _, _, _, _, _, rfl, _, e, _⟩
      exact SqL.of e
    · rintro k x p σ H5 hx hp ⟨c, ss, qs, v5, v6, v7, rfl, s5, e5, hl5, sl5, lt5, b5, n5, z0, z1⟩
      have k2 : k < 2 := (List.getElem?_eq_some_iff.mp hx).1
      obtain ⟨b, rfl, hb⟩ : ∃ b, x = .str (sideW b) ∧ ((b = true ∧ k = 0) ∨ (b = false ∧ k = 1)) := by
        match k, k2, hx with
        | 0, _, hx => cases hx; exact ⟨true, rfl, .inl ⟨rfl, rfl⟩⟩
        | 1, _, hx => cases hx; exact ⟨false, rfl, .inr ⟨rfl, rfl⟩⟩
      have s6 : Same H5 (upd H5 p (.tup [.int (k : Int), .str (sideW b)])) := same_upd (Same.refl _) hp
      have g6 : upd H5 p (.tup [.int (k : Int), .str (sideW b)]) p = some (.tup [.int (k : Int), .str (sideW b)]) := upd_same
      revert s6 g6
      generalize upd H5 p (.tup [.int (k : Int), .str (sideW b)]) = H6
      intro s6 g6
      refine ⟨p, _, rfl, SqT.of g6, rfl, _, _, rfl, _, _, rfl, rfl, ?_⟩
      refine ⟨_, rfl, _, _, rfl, rfl, 1, (ph : Int) + 1, rfl, ⟨by decide, by decide, by omega, by omega⟩, ?_⟩
      refine for_range (Pv := fun j σ H7 => ∃ (c : Int) (ss : List Seat) (qs : List Addr) (v7 : Option V), σ = [some (.ref sc), some (.int (ph : Int)), some (.int c), some (.bl dg), some (.int (m1 % 7)), some (.ref l), some (.int (k : Int)), some (.str (sideW b)), v7] ∧ Same H H7 ∧ H7 le = some (.lst [.str (Str.ofString "left"), .str (Str.ofString "right")]) ∧ H7 l = some (.lst (qs.map V.ref)) ∧ SeatsL H7 ss qs ∧ ss.Pairwise seatLt ∧ (∀ s ∈ ss, 1 ≤ s.2 ∧ s.2 ≤ (ph : Int)) ∧ qs.length ≤ 16 * k + j ∧ ∀ s ∈ ss, (s.1 = true ∧ (k = 0 → s.2 ≤ (j : Int))) ∨ (k = 1 ∧ s.1 = false ∧ s.2 ≤ (j : Int))) ?_ ?_ ?_
      · refine ⟨c, ss, qs, _, rfl, s5.trans s6, s6 _ _ e5, s6 _ _ hl5, sl5.keep (Same.tups s6), lt5, b5, by omega, fun s hs => .inl ?_⟩
        rcases hb with ⟨_, rfl⟩ | ⟨_, rfl⟩
        · rw [z0 rfl] at hs
          exact nomatch hs
        · exact ⟨z1 rfl s hs, fun z => (nomatch z)⟩
      · rintro j σ H7 hj ⟨c, ss, qs, v7, rfl, s7, e7, hl7, sl7, lt7, b7, n7, z7⟩
        have jh : j < ph := by omega
        have up : ∀ s ∈ ss, (s.1 = true ∧ (k = 0 → s.2 ≤ ((j + 1 : Nat) : Int))) ∨ (k = 1 ∧ s.1 = false ∧ s.2 ≤ ((j + 1 : Nat) : Int)) := fun s hs => by
          rcases z7 s hs with ⟨a, b⟩ | ⟨a, b, c⟩
          · exact .inl ⟨a, fun z => by have := b z; omega⟩
          · exact .inr ⟨a, b, by omega⟩
        refine ⟨fun σ H9 => ∃ (ss : List Seat) (qs : List Addr), σ = [some (.ref sc), some (.int (ph : Int)), some (.int c), some (.bl dg), some (.int (m1 % 7)), some (.ref l), some (.int (k : Int)), some (.str (sideW b)), some (.int (1 + (j : Int)))] ∧ Same H H9 ∧ H9 le = some (.lst [.str (Str.ofString "left"), .str (Str.ofString "right")]) ∧ H9 l = some (.lst (qs.map V.ref)) ∧ SeatsL H9 ss qs ∧ ss.Pairwise seatLt ∧ (∀ s ∈ ss, 1 ≤ s.2 ∧ s.2 ≤ (ph : Int)) ∧ qs.length ≤ 16 * k + (j + 1) ∧ ∀ s ∈ ss, (s.1 = true ∧ (k = 0 → s.2 ≤ ((j + 1 : Nat) : Int))) ∨ (k = 1 ∧ s.1 = false ∧ s.2 ≤ ((j + 1 : Nat) : Int)), ?_, ?_⟩
        · have no : ∃ (ss' : List Seat) (qs' : List Addr), [some (V.ref sc), some (.int (ph : Int)), some (.int c), some (.bl dg), some (.int (m1 % 7)), some (.ref l), some (.int (k : Int)), some (.str (sideW b)), some (.int (1 + (j : Int)))] = [some (.ref sc), some (.int (ph : Int)), some (.int c), some (.bl dg), some (.int (m1 % 7)), some (.ref l), some (.int (k : Int)), some (.str (sideW b)), some (.int (1 + (j : Int)))] ∧ Same H H7 ∧ H7 le = some (.lst [.str (Str.ofString "left"), .str (Str.ofString "right")]) ∧ H7 l = some (.lst (qs'.map V.ref)) ∧ SeatsL H7 ss' qs' ∧ ss'.Pairwise seatLt ∧ (∀ s ∈ ss', 1 ≤ s.2 ∧ s.2 ≤ (ph : Int)) ∧ qs'.length ≤ 16 * k + (j + 1) ∧ ∀ s ∈ ss', (s.1 = true ∧ (k = 0 → s.2 ≤ ((j + 1 : Nat) : Int))) ∨ (k = 1 ∧ s.1 = false ∧ s.2 ≤ ((j + 1 : Nat) : Int)) := ⟨ss, qs, rfl, s7, e7, hl7, sl7, lt7, b7, by omega, up⟩
          refine ⟨_, rfl, dg, rfl, ?_⟩
          cases dg with
          | true =>
            refine ifP rfl ⟨_, rfl, _, _, rfl, rfl, (by show (0 : Int) < 2; decide), rfl, _, rfl, ite2 (fun y => ?_) (fun y => ⟨_, rfl, true, rfl, ifN (by decide) (ifN (by decide) no)⟩)⟩
            refine ifP rfl ?_
            refine ⟨_, rfl, .inl ⟨rfl, _, SqL.of hl7⟩, _, rfl, _, rfl, (by show 2 ≤ sizeLine; decide), fun qa hqa => ?_⟩
            have s8 : Same H7 (upd H7 qa (.tup [.str (sideW b), .int (1 + (j : Int))])) := same_upd (Same.refl _) hqa
            have g8 : upd H7 qa (.tup [.str (sideW b), .int (1 + (j : Int))]) qa = some (.tup [.str (sideW b), .int (1 + (j : Int))]) := upd_same
            revert s8 g8
            generalize upd H7 qa (.tup [.str (sideW b), .int (1 + (j : Int))]) = H8
            intro s8 g8
            have hl8 := s8 _ _ hl7
            refine ⟨l, _, _, rfl, rfl, hl8, ?_, ?_⟩
            · rw [List.length_map]
              exact Nat.lt_of_le_of_lt (by omega : _ ≤ 1000) (by decide)
            have kt : Tups H8 (upd H8 l (.lst (qs.map V.ref ++ [.ref qa]))) := fun c xs e => by rw [upd_ne (ne_of e hl8 (fun z => nomatch z))]; exact e
            refine ⟨ss ++ [(b, 1 + (j : Int))], qs ++ [qa], rfl, fun c u e => by rw [upd_ne (ne_of_none e hl)]; exact s8 _ _ (s7 _ _ e), by rw [upd_ne nle]; exact s8 _ _ e7, by rw [upd_same, List.map_append]; rfl, ((sl7.keep (Same.tups s8)).keep kt).snoc (kt _ _ g8), ?_, fun s hs => ?_, by rw [List.length_append, List.length_singleton]; omega, fun s hs => ?_⟩
            · rw [List.pairwise_append]
              refine ⟨lt7, List.pairwise_singleton _ _, fun s hs s' hs' => ?_⟩
              rw [List.mem_singleton.mp hs']
              rcases hb with ⟨rfl, rfl⟩ | ⟨rfl, rfl⟩
              · rcases z7 s hs with ⟨a, b⟩ | ⟨a, _⟩
                · exact .inr ⟨a, by have := b rfl; show s.2 < 1 + (j : Int); omega⟩
                · cases a
              · rcases z7 s hs with ⟨a, b⟩ | ⟨_, a, b⟩
                · exact .inl ⟨a, rfl⟩
                · exact .inr ⟨a, by show s.2 < 1 + (j : Int); omega⟩
            · rcases List.mem_append.mp hs with hs | hs
              · exact b7 s hs
              · rw [List.mem_singleton.mp hs]
                exact ⟨by show (1 : Int) ≤ 1 + (j : Int); omega, by show 1 + (j : Int) ≤ _; omega⟩
            · rcases List.mem_append.mp hs with hs | hs
              · exact up s hs
              · rw [List.mem_singleton.mp hs]
                rcases hb with ⟨rfl, rfl⟩ | ⟨rfl, rfl⟩
                · exact .inl ⟨rfl, fun _ => by show 1 + (j : Int) ≤ _; omega⟩
                · exact .inr ⟨rfl, rfl, by show 1 + (j : Int) ≤ _; omega⟩
          | false =>
            refine ifN (by decide) (ifN (by decide) ⟨_, rfl, false, rfl, ifP (by decide) ⟨_, rfl, _, rfl, _, _, rfl, rfl, .inl ⟨by decide, by decide⟩, _, rfl, _, _, rfl, rfl, c, _, rfl, fun m _ _ => ⟨_, _, rfl, rfl, (by show (0 : Int) < 6; decide), _, rfl, _, _, rfl, rfl, _, rfl, ite2 (fun y => ?_) (fun y => no)⟩⟩⟩)
            refine ⟨_, rfl, .inl ⟨rfl, _, SqL.of hl7⟩, _, rfl, _, rfl, (by show 2 ≤ sizeLine; decide), fun qa hqa => ?_⟩
            have s8 : Same H7 (upd H7 qa (.tup [.str (sideW b), .int (1 + (j : Int))])) := same_upd (Same.refl _) hqa
            have g8 : upd H7 qa (.tup [.str (sideW b), .int (1 + (j : Int))]) qa = some (.tup [.str (sideW b), .int (1 + (j : Int))]) := upd_same
            revert s8 g8
            generalize upd H7 qa (.tup [.str (sideW b), .int (1 + (j : Int))]) = H8
            intro s8 g8
            have hl8 := s8 _ _ hl7
            refine ⟨l, _, _, rfl, rfl, hl8, ?_, ?_⟩
            · rw [List.length_map]
              exact Nat.lt_of_le_of_lt (by omega : _ ≤ 1000) (by decide)
            have kt : Tups H8 (upd H8 l (.lst (qs.map V.ref ++ [.ref qa]))) := fun c xs e => by rw [upd_ne (ne_of e hl8 (fun z => nomatch z))]; exact e
            refine ⟨ss ++ [(b, 1 + (j : Int))], qs ++ [qa], rfl, fun c u e => by rw [upd_ne (ne_of_none e hl)]; exact s8 _ _ (s7 _ _ e), by rw [upd_ne nle]; exact s8 _ _ e7, by rw [upd_same, List.map_append]; rfl, ((sl7.keep (Same.tups s8)).keep kt).snoc (kt _ _ g8), ?_, fun s hs => ?_, by rw [List.length_append, List.length_singleton]; omega, fun s hs => ?_⟩
            · rw [List.pairwise_append]
              refine ⟨lt7, List.pairwise_singleton _ _, fun s hs s' hs' => ?_⟩
              rw [List.mem_singleton.mp hs']
              rcases hb with ⟨rfl, rfl⟩ | ⟨rfl, rfl⟩
              · rcases z7 s hs with ⟨a, b⟩ | ⟨a, _⟩
                · exact .inr ⟨a, by have := b rfl; show s.2 < 1 + (j : Int); omega⟩
                · cases a
              · rcases z7 s hs with ⟨a, b⟩ | ⟨_, a, b⟩
                · exact .inl ⟨a, rfl⟩
                · exact .inr ⟨a, by show s.2 < 1 + (j : Int); omega⟩
            · rcases List.mem_append.mp hs with hs | hs
              · exact b7 s hs
              · rw [List.mem_singleton.mp hs]
                exact ⟨by show (1 : Int) ≤ 1 + (j : Int); omega, by show 1 + (j : Int) ≤ _; omega⟩
            · rcases List.mem_append.mp hs with hs | hs
              · exact up s hs
              · rw [List.mem_singleton.mp hs]
                rcases hb with ⟨rfl, rfl⟩ | ⟨rfl, rfl⟩
                · exact .inl ⟨rfl, fun _ => by show 1 + (j : Int) ≤ _; omega⟩
                · exact .inr ⟨rfl, rfl, by show 1 + (j : Int) ≤ _; omega⟩
        rintro σ H9 ⟨ss9, qs9, rfl, s9', e9, hl9, sl9, lt9, b9, n9, z9⟩
        refine ⟨fun σ H10 => H9 = H10 ∧ ∃ c : Int, σ = [some (.ref sc), some (.int (ph : Int)), some (.int c), some (.bl dg), some (.int (m1 % 7)), some (.ref l), some (.int (k : Int)), some (.str (sideW b)), some (.int (1 + (j : Int)))], ?_, ?_⟩
        · refine ⟨_, rfl, dg, rfl, ite2 (fun y => ?_) (fun y => ⟨rfl, c, rfl⟩)⟩
          exact ⟨_, rfl, _, _, rfl, rfl, ⟨by decide, by decide⟩, rfl, _, rfl⟩
        rintro σ _ ⟨rfl, c', rfl⟩
        exact ⟨c', ss9, qs9, _, rfl, s9', e9, hl9, sl9, lt9, b9, by omega, z9⟩
      · rintro σ H7 ⟨c, ss, qs, v7, rfl, s7, e7, hl7, sl7, lt7, b7, n7, z7⟩
        refine ⟨c, ss, qs, _, _, _, rfl, s7, e7, hl7, sl7, lt7, b7, by omega, fun z => by omega, fun z s hs => ?_⟩
        rcases z7 s hs with ⟨a, _⟩ | ⟨a, _⟩
        · exact a
        · omega
    · rintro σ H5 ⟨_, ss, qs, v5, v6, v7, rfl, s5, e5, hl5, sl5, lt5, b5, n5, _⟩
      exact ⟨_, rfl, q ss qs H5 l (by have e := sl5.len; have n6 : qs.length ≤ 16 * 2 := n5; omega) lt5 b5 s5 hl hl5 sl5⟩
end
end S34
set_option maxRecDepth 100000
set_option maxHeartbeats 4000000
namespace S34
open PySem L2 XL PyProof.Rows
def spNumbers (K : PySem.W.Frag) : Sp := fun vs H Q _ => ∃ (c : Int) (dg : Bool) (lb : Addr) (bs : List Int), vs = [.int c, .bl dg, .ref lb] ∧ H lb = some (.lst (bs.map V.int)) ∧ (∀ b ∈ bs, 0 < b ∧ b < 1000) ∧ bs.length ≤ 20 ∧ ∀ H' l (ns : List Int), Same H H' → H l = none → H' l = some (.lst (ns.map V.int)) → ns.length = bs.length → Q (.ref l) H'
def spPoint : Sp := fun vs H Q _ => ∃ (ln : Addr) (ns : List Int) (nm : Str) (x y : Int) (h : Nat), vs = [.ref ln, .str nm, .int x, .int y, .int (h : Int)] ∧ H ln = some (.lst (ns.map V.int)) ∧ 7 ≤ ns.length ∧ 1 ≤ h ∧ ∀ H' q (sd : Str) (lo hi : Int), (sd = "left" ∨ sd = "right" ∨ sd = "both") → 1 ≤ lo → lo ≤ hi → hi ≤ (h : Int) → Same H H' → H' q = some (.tup (.str nm :: ptV ⟨nm, x, y, sd, lo, hi⟩)) → Q (.ref q) H'
theorem bsd_at (c : Int) : ∃ sd : Str, atI [V.str (Str.ofString "both"), V.str (Str.ofString "left"), V.str (Str.ofString "right")] (c % 3) = some (.str sd) ∧ (sd = "left" ∨ sd = "right" ∨ sd = "both") := by
  have b := mod_in c (show (0 : Int) < 3 by decide)
  have : c % 3 = 0 ∨ c % 3 = 1 ∨ c % 3 = 2 := by omega
  rcases this with e | e | e
  · exact ⟨"both", by rw [e]; rfl, .inr (.inr rfl)⟩
  · exact ⟨"left", by rw [e]; rfl, .inl rfl⟩
  · exact ⟨"right", by rw [e]; rfl, .inr (.inl rfl)⟩
theorem erase_okV {α : Type} {ls : List α} {k : Nat} {y : α} (nd : ls.Nodup) (h : ls[k]? = some y) : (ls.eraseIdx k).Nodup ∧ y ∉ ls.eraseIdx k ∧ (∀ z ∈ ls.eraseIdx k, z ∈ ls) ∧ y ∈ ls := by
  obtain ⟨hk, hy⟩ := List.getElem?_eq_some_iff.mp h
  have e : ls.take k ++ y :: ls.drop (k + 1) = ls := by
    rw [← hy, List.getElem_cons_drop, List.take_append_drop]
  have e2 : ls.eraseIdx k = ls.take k ++ ls.drop (k + 1) := List.eraseIdx_eq_take_drop_succ ls k
  have nd2 := nd
  rw [← e, List.nodup_append, List.nodup_cons] at nd2
  obtain ⟨n1, ⟨n2, n3⟩, n4⟩ := nd2
  refine ⟨?_, ?_, fun z hz => List.mem_of_mem_eraseIdx hz, hy ▸ List.getElem_mem hk⟩
  · rw [e2, List.nodup_append]
    exact ⟨n1, n3, fun a ha b hb => n4 a ha b (List.mem_cons_of_mem _ hb)⟩
  · rw [e2, List.mem_append]
    rintro (z | z)
    · exact n4 _ z _ List.mem_cons_self rfl
    · exact n2 z
theorem pop_at {α : Type} (m : Int) {xs : List α} (h : xs ≠ []) (h2 : xs.length ≤ 1000) : ∃ j y, xs[j]? = some y ∧ -(2 ^ 63) ≤ m % (xs.length : Int) ∧ m % (xs.length : Int) < 2 ^ 63 ∧ seqIndex? (m % (xs.length : Int)) xs.length = some j ∧ 0 < (xs.length : Int) := by
  have l0 : 0 < xs.length := List.length_pos_iff.mpr h
  have lp : (0 : Int) < (xs.length : Int) := by omega
  obtain ⟨k0, k1⟩ := mod_in m lp
  obtain ⟨j, hj⟩ := Int.eq_ofNat_of_zero_le k0
  have jl : j < xs.length := by
    have z := k1
    rw [hj] at z
    omega
  exact ⟨j, xs[j], List.getElem?_eq_getElem jl, by omega, by omega, by rw [seqIndex_of k0 k1, hj]; rfl, lp⟩
def abcS : Str := "abcdefghijklmnopqrstuvwxyz"
theorem abc_nm : ∀ c ∈ abcS.cps.toList, isNm ⟨#[c]⟩ = true := by decide +kernel
theorem abc_nd : abcS.cps.toList.Nodup := by decide +kernel
theorem sgn_nd : (sgnL abcS).Nodup := by
  unfold sgnL
  exact Drw.nd_map (fun a b e => by
    have := congrArg (fun s : Str => s.cps.toList) (V.str.inj e)
    exact List.head_eq_of_cons_eq this) abc_nd
theorem rng_nd (n : Nat) : (rngL 1 ((n : Int) + 1)).Nodup := by
  unfold rngL
  exact Drw.nd_map (fun a b e => by
    have := V.int.inj e
    omega) List.nodup_range
theorem rng_mem {n : Nat} {v : V} (h : v ∈ rngL 1 ((n : Int) + 1)) : ∃ x : Int, v = .int x ∧ 1 ≤ x ∧ x ≤ n := by
  unfold rngL at h
  obtain ⟨i, hi, rfl⟩ := List.mem_map.mp h
  rw [List.mem_range] at hi
  exact ⟨1 + (i : Int), rfl, by omega, by omega⟩
structure PI (w h : Nat) (cols rows lts : List V) (ps : List Pt) (i : Nat) : Prop where
  cn : cols.Nodup
  ci : ∀ v ∈ cols, ∃ x : Int, v = .int x ∧ 1 ≤ x ∧ x ≤ w
  rn : rows.Nodup
  ri : ∀ v ∈ rows, ∃ x : Int, v = .int x ∧ 1 ≤ x ∧ x ≤ h
  ln : lts.Nodup
  li : ∀ v ∈ lts, v ∈ sgnL abcS
  ll : lts.length + ps.length = 26
  cl : cols.length ≤ 100
  rl : rows.length ≤ 100
  pl : ps.length ≤ i
  ok : ∀ p ∈ ps, PtOk w h p
  nx : (ps.map (·.x)).Nodup
  ny : (ps.map (·.y)).Nodup
  nn : (ps.map (·.nm)).Nodup
  ox : ∀ p ∈ ps, V.int p.x ∉ cols
  oy : ∀ p ∈ ps, V.int p.y ∉ rows
  on : ∀ p ∈ ps, V.str p.nm ∉ lts
theorem nd_snoc {α β : Type} {f : α → β} {l : List α} {x : α} (h : (l.map f).Nodup) (hx : ∀ y ∈ l, f y ≠ f x) : ((l ++ [x]).map f).Nodup := by
  rw [List.map_append, List.nodup_append]
  refine ⟨h, by simp, fun a ha b hb e => ?_⟩
  obtain ⟨y, hy, rfl⟩ := List.mem_map.mp ha
  have hb : b ∈ [f x] := hb
  rw [List.mem_singleton.mp hb] at e
  exact hx y hy e
theorem PI.up {w h : Nat} {cols rows lts : List V} {ps : List Pt} {i : Nat} (g : PI w h cols rows lts ps i) : PI w h cols rows lts ps (i + 1) := { g with pl := Nat.le_succ_of_le g.pl }
theorem PtsL.snoc1 {H : Hp} {ps : List Pt} {qs : List Addr} (h : PtsL H ps qs) {p : Pt} {q : Addr} (e : H q = some (.tup (.str p.nm :: ptV p))) : PtsL H (ps ++ [p]) (qs ++ [q]) := by
  induction h with
  | nil => exact .cons e .nil
  | cons h _ ih => exact .cons h ih
theorem PI.add {w h : Nat} {cols rows lts : List V} {ps : List Pt} {i jx jy jn : Nat} {p : Pt} (g : PI w h cols rows lts ps i) (hx : cols[jx]? = some (.int p.x)) (hy : rows[jy]? = some (.int p.y)) (hn : lts[jn]? = some (.str p.nm)) (ok : PtOk w h p) : PI w h (cols.eraseIdx jx) (rows.eraseIdx jy) (lts.eraseIdx jn) (ps ++ [p]) (i + 1) := by
  obtain ⟨c1, c2, c3, c4⟩ := erase_okV g.cn hx
  obtain ⟨r1, r2, r3, r4⟩ := erase_okV g.rn hy
  obtain ⟨l1, l2, l3, l4⟩ := erase_okV g.ln hn
  have lj := (List.getElem?_eq_some_iff.mp hn).1
  refine ⟨c1, fun v hv => g.ci v (c3 v hv), r1, fun v hv => g.ri v (r3 v hv), l1, fun v hv => g.li v (l3 v hv), ?_, ?_, ?_, ?_, fun q hq => ?_, nd_snoc g.nx fun y hy e => ?_, nd_snoc g.ny fun y hy e => ?_, nd_snoc g.nn fun y hy e => ?_, fun q hq => ?_, fun q hq => ?_, fun q hq => ?_⟩
  · rw [List.length_eraseIdx_of_lt lj, List.length_append, List.length_singleton]
    have := g.ll
    omega
  · exact Nat.le_trans (List.length_eraseIdx_le _ _) g.cl
  · exact Nat.le_trans (List.length_eraseIdx_le _ _) g.rl
  · rw [List.length_append, List.length_singleton]
    have := g.pl
    omega
  · rcases List.mem_append.mp hq with hq | hq
    · exact g.ok q hq
    · rw [List.mem_singleton.mp hq]; exact ok
  · exact g.ox y hy (e ▸ c4)
  · exact g.oy y hy (e ▸ r4)
  · exact g.on y hy (e ▸ l4)
  · rcases List.mem_append.mp hq with hq | hq
    · exact fun z => g.ox q hq (c3 _ z)
    · rw [List.mem_singleton.mp hq]; exact c2
  · rcases List.mem_append.mp hq with hq | hq
    · exact fun z => g.oy q hq (r3 _ z)
    · rw [List.mem_singleton.mp hq]; exact r2
  · rcases List.mem_append.mp hq with hq | hq
    · exact fun z => g.on q hq (l3 _ z)
    · rw [List.mem_singleton.mp hq]; exact l2
def spPoints (K : PySem.W.Frag) : Sp := fun vs H Q _ => ∃ (lc : Addr) (ns : List Int) (dg : Bool) (w h : Nat), vs = [.ref lc, .bl dg, .int (w : Int), .int (h : Int)] ∧ H lc = some (.lst (ns.map V.int)) ∧ ns.length ≤ 12 ∧ 1 ≤ w ∧ w ≤ 30 ∧ 1 ≤ h ∧ h ≤ 16 ∧
  ∀ H' l ps qs, PtsOk (w : Int) (h : Int) ps → ps.length ≤ ns.length → Same H H' → H l = none → H' l = some (.lst (qs.map V.ref)) → PtsL H' ps qs → Q (.ref l) H'
theorem ne_nil {K : PySem.W.Frag} {H : Hp} {l l2 : Addr} {xs : List V} (h : H l = some (.lst xs)) (h2 : H l2 = some (.lst [])) (f : xs.all scV = true) : ∃ (n m : Nat) (d e : DV), Dv K H n (.ref l) d ∧ Dv K H m (.ref l2) e ∧ n ≤ 9 ∧ m ≤ 9 ∧ (!dEq d e) = !decide (xs = []) := by
  refine ⟨1, 1, .lst (xs.map scD), .lst [], .lst (SqL.of h) (by rw [List.length_map]) (scs_dv f), .lst (SqL.of h2) rfl (scs_dv (xs := []) rfl), by decide, by decide, ?_⟩
  cases xs with
  | nil => rfl
  | cons x r => rfl
def IPt (H : Hp) (lcell lc lr ll lp : Addr) (dg : Bool) (w h : Nat) (i : Nat) (σ : L2.St) (H5 : Hp) : Prop := ∃ (cols rows lts : List V) (ps : List Pt) (qs : List Addr) (v7 v8 v9 v10 v11 : Option V), σ = [some (.ref lcell), some (.bl dg), some (.int (w : Int)), some (.int (h : Int)), some (.ref lc), some (.ref lr), some (.ref ll), some (.ref lp), v7, v8, v9, v10, v11] ∧
  Same H H5 ∧ H5 lc = some (.lst cols) ∧ H5 lr = some (.lst rows) ∧ H5 ll = some (.lst lts) ∧ H5 lp = some (.lst (qs.map V.ref)) ∧ PtsL H5 ps qs ∧ PI w h cols rows lts ps i
theorem nth_int {ns : List Int} {i : Nat} (h : i < ns.length) : ∃ n, atI (ns.map V.int) (i : Int) = some (.int n) := ⟨ns[i], atI_nat (by rw [List.getElem?_map, List.getElem?_eq_getElem h]; rfl)⟩
section
variable {P : Program} {w : World} {K : PySem.W.Frag} {mg : Str → Option Value} {base : Heap} {t : Adr}
theorem ok_law_numbers (T : Txt w K mg t) : FnOk true P w K mg base (CXo P w) 2 t.f_law_numbers t.d_law_numbers ["_law_cell", "_law_digits", "_law_bases"] (spNumbers K) := by
  refine T.F_law_numbers.okn (k := 1) sc_law_numbers (fun vs H Q E h => ?_) (fun cdv A outer s H vs Q E hr h => ?_)
  · obtain ⟨c, dg, lb, bs, rfl, _⟩ := h
    rfl
  · obtain ⟨c, dg, lb, bs, rfl, h⟩ := h
    refine ⟨_, pss_cons (ps_set (i := 3) sc_law_numbers.nd rfl (Or.inl rfl) (pe_lst (pa_nil)))
      (pss_cons (ps_for PassesOwn.never rfl (pi_enumerate rfl T.n_enumerate (pa_cons (pv 2) (pa_nil))) (pg_tup rfl (pgs_cons (pg_name (i := 4) sc_law_numbers.nd rfl (Or.inl rfl)) (pgs_cons (pg_name (i := 5) sc_law_numbers.nd rfl (Or.inl rfl)) (pgs_nil)))) (pss_one (ps_if (pt_val (pv 1)) (pss_cons (ps_expr (pe_bm PySem.F.plainAttrs_list PySem.F.slot_list_append PySem.F.type_list_append mt_append (pv 3) (pa_cons (pe_op op_mod (pv 0) (pv 5)) (pa_nil))))
      (pss_one (ps_set (i := 0) sc_law_numbers.nd rfl (Or.inl rfl) (pe_op op_fdiv (pv 0) (pv 5))))) (pss_one (ps_expr (pe_bm PySem.F.plainAttrs_list PySem.F.slot_list_append PySem.F.type_list_append mt_append (pv 3) (pa_cons (pe_call (ok_law_mix T) (hr.mono (by decide)) rfl T.g_law_mix T.F_law_mix.kp T.b_law_mix .nil pass_none (pa_cons (pv 0) (pa_cons (pe_op op_add (pe_int) (pv 4)) (pa_nil)))) (pa_nil))))))))
      (pss_one (ps_ret (pv 3)))), ?_⟩
    obtain ⟨hlb, bp, b20, q⟩ := h
    refine ⟨(by show 0 ≤ sizeLine; decide), fun l hl => ?_⟩
    have s1 : Same H (upd H l (.lst [])) := same_upd (Same.refl _) hl
    have g1 : upd H l (.lst []) l = some (.lst []) := upd_same
    revert s1 g1
    generalize upd H l (.lst []) = H1
    intro s1 g1
    refine ⟨_, rfl, lb, _, rfl, SqL.of (s1 _ _ hlb), ?_⟩
    refine for_enum (xs := bs.map V.int) (Pv := fun k σ H5 => ∃ (c : Int) (ns : List Int) (v4 v5 : Option V), σ = [some (.int c), some (.bl dg), some (.ref lb), some (.ref l), v4, v5] ∧ Same H H5 ∧ H5 l = some (.lst (ns.map V.int)) ∧ ns.length = k) ⟨c, [], _, _, rfl, s1, g1, rfl⟩ ?_ ?_ ?_
    · rintro i σ H5 _ ⟨_, _, _, _, rfl, s5, _⟩
      exact SqL.of (s5 _ _ hlb)
    · rintro k x p σ H5 hx hp ⟨c, ns, v4, v5, rfl, s5, e5, nl⟩
      rw [List.getElem?_map, Option.map_eq_some_iff] at hx
      obtain ⟨b, hb, rfl⟩ := hx
      have bb := bp b (List.mem_of_getElem? hb)
      have kl := (List.getElem?_eq_some_iff.mp hb).1
      have s6 : Same H5 (upd H5 p (.tup [.int (k : Int), .int b])) := same_upd (Same.refl _) hp
      have g6 : upd H5 p (.tup [.int (k : Int), .int b]) p = some (.tup [.int (k : Int), .int b]) := upd_same
      revert s6 g6
      generalize upd H5 p (.tup [.int (k : Int), .int b]) = H6
      intro s6 g6
      have s06 := s5.trans s6
      have e6 := s6 _ _ e5
      have fin : ∀ n : Int, ∃ (c' : Int) (ns' : List Int), Same H (upd H6 l (.lst (ns.map V.int ++ [.int n]))) ∧ upd H6 l (.lst (ns.map V.int ++ [.int n])) l = some (.lst (ns'.map V.int)) ∧ ns'.length = k + 1 := fun n => ⟨c, ns ++ [n], fun a u e => by rw [upd_ne (ne_of_none e hl)]; exact s06 _ _ e, by rw [upd_same, List.map_append]; rfl, by rw [List.length_append, nl]; rfl⟩
      refine ⟨p, _, rfl, SqT.of g6, rfl, _, _, rfl, _, _, rfl, rfl, ?_⟩
      refine ⟨_, rfl, dg, rfl, ite2 (fun y => ?_) (fun y => ?_)⟩
      · refine ⟨_, rfl, .inl ⟨rfl, _, SqL.of e6⟩, _, rfl, _, rfl, _, _, rfl, rfl, bb.1, l, _, _, rfl, rfl, e6, ?_, ?_⟩
        · rw [List.length_map]
          exact Nat.lt_of_le_of_lt (by omega : _ ≤ 1000) (by decide)
        obtain ⟨_, ns', f1, f2, f3⟩ := fin (c % b)
        exact ⟨_, rfl, _, rfl, _, _, rfl, rfl, ⟨bb.1, by omega⟩, _, ns', _, _, rfl, f1, f2, f3⟩
      · refine ⟨_, rfl, .inl ⟨rfl, _, SqL.of e6⟩, _, rfl, _, rfl, _, _, rfl, rfl, c, _, rfl, fun m _ _ => ⟨l, _, _, rfl, rfl, e6, ?_, ?_⟩⟩
        · rw [List.length_map]
          exact Nat.lt_of_le_of_lt (by omega : _ ≤ 1000) (by decide)
        obtain ⟨_, ns', f1, f2, f3⟩ := fin m
        exact ⟨c, ns', _, _, rfl, f1, f2, f3⟩
    · rintro σ H5 ⟨c, ns, v4, v5, rfl, s5, e5, nl⟩
      rw [List.length_map] at nl
      exact ⟨_, rfl, q H5 l ns s5 hl e5 nl⟩
theorem ok_law_point (T : Txt w K mg t) : FnOk true P w K mg base (CXo P w) 2 t.f_law_point t.d_law_point ["_law_numbers_here", "_law_name", "_law_x", "_law_y", "_law_height"] (spPoint) := by
  refine T.F_law_point.okn (k := 1) sc_law_point (fun vs H Q E h => ?_) (fun cdv A outer s H vs Q E hr h => ?_)
  · obtain ⟨ln, ns, nm, x, y, ph, rfl, _⟩ := h
    rfl
  · obtain ⟨ln, ns, nm, x, y, ph, rfl, h⟩ := h
    refine ⟨_, pss_cons (ps_set (i := 5) sc_law_point.nd rfl (Or.inl rfl) (pe_ix ix_list (pe_lst (pa_cons (pe_str) (pa_cons (pe_str) (pa_cons (pe_str) (pa_nil))))) (pe_op op_mod (pe_op op_mod (pe_ix ix_list (pv 0) (pe_int) (fun _ _ => rfl)) (pe_int)) (pe_int)) (fun _ _ => rfl)))
      (pss_cons (ps_set (i := 6) sc_law_point.nd rfl (Or.inl rfl) (pe_op op_add (pe_int) (pe_op op_mod (pe_ix ix_list (pv 0) (pe_int) (fun _ _ => rfl)) (pv 4))))
      (pss_cons (ps_set (i := 7) sc_law_point.nd rfl (Or.inl rfl) (pe_op op_add (pv 6) (pe_op op_mod (pe_ix ix_list (pv 0) (pe_int) (fun _ _ => rfl)) (pe_op op_add (pe_op op_sub (pv 4) (pv 6)) (pe_int)))))
      (pss_cons (ps_set (i := 8) sc_law_point.nd rfl (Or.inl rfl) (pe_op op_mod (pe_ix ix_list (pv 0) (pe_int) (fun _ _ => rfl)) (pe_int)))
      (pss_cons ((by (with_reducible refine' ps_mid ?m7); (case m7 => ((with_reducible refine' ps_if ?c2 ?a3 ?b4); (case c2 => exact pt_cmpR op_eq (pv 8) (pe_int) (nomark _)); (case a3 => ((with_reducible refine' pss_one ?c5); (case c5 => ((with_reducible refine' ps_ret ?e6); (case e6 => ((exact pe_tup (pa_consP (pv 1) (pa_consP (pv 2) (pa_consP (pv 3) (pa_consP (pv 5) (pa_consP (pe_int) (pa_consP (pv 4) (pa_nil) rfl) rfl) rfl) rfl) rfl) rfl)))))))); (case b4 => ((exact pss_nil)))))))
      (pss_cons (ps_mid (ps_if (pt_cmpR op_eq (pv 8) (pe_int) (nomark _)) (pss_one (ps_set (i := 7) sc_law_point.nd rfl (Or.inl rfl) (pe_callB (call_min2 rfl) rfl T.n_min boot_min (pa_cons (pe_op op_add (pv 6) (pe_int)) (pa_cons (pv 4) (pa_nil)))))) (pss_nil)))
      (pss_one ((by (with_reducible refine' ps_ret ?e1); (case e1 => ((exact pe_tup (pa_consP (pv 1) (pa_consP (pv 2) (pa_consP (pv 3) (pa_consP (pv 5) (pa_consP (pv 6) (pa_consP (pv 7) (pa_nil) rfl) rfl) rfl) rfl) rfl) rfl)))))))))))), ?_⟩
    obtain ⟨hln, n7, h1, q⟩ := h
    obtain ⟨m6, em6⟩ := nth_int (ns := ns) (i := 3) (by omega)
    obtain ⟨m7, em7⟩ := nth_int (ns := ns) (i := 4) (by omega)
    obtain ⟨m8, em8⟩ := nth_int (ns := ns) (i := 5) (by omega)
    obtain ⟨m9, em9⟩ := nth_int (ns := ns) (i := 6) (by omega)
    refine ⟨(by show 3 ≤ sizeLine; decide), fun l0 hl0 => ?_⟩
    have s1 : Same H (upd H l0 (.lst [V.str (Str.ofString "both"), V.str (Str.ofString "left"), V.str (Str.ofString "right")])) := same_upd (Same.refl _) hl0
    have g1 : upd H l0 (.lst [V.str (Str.ofString "both"), V.str (Str.ofString "left"), V.str (Str.ofString "right")]) l0 = some (.lst [V.str (Str.ofString "both"), V.str (Str.ofString "left"), V.str (Str.ofString "right")]) := upd_same
    revert s1 g1
    generalize upd H l0 (.lst [V.str (Str.ofString "both"), V.str (Str.ofString "left"), V.str (Str.ofString "right")]) = H1
    intro s1 g1
    have hln1 := s1 _ _ hln
    obtain ⟨sd, esd, osd⟩ := bsd_at (m6 % 4)
    refine ⟨_, rfl, ln, _, 3, .int m6, rfl, rfl, SqL.of hln1, em6, _, _, rfl, rfl, (by show (0 : Int) < 4; decide), _, _, rfl, rfl, (by show (0 : Int) < 3; decide), l0, _, _, .str sd, rfl, rfl, SqL.of g1, esd, ?_⟩
    refine ⟨_, rfl, ln, _, 4, .int m7, rfl, rfl, SqL.of hln1, em7, _, rfl, _, _, rfl, rfl, (by show (0 : Int) < (ph : Int); omega), _, _, rfl, rfl, ?_⟩
    have b7 := mod_in m7 (show (0 : Int) < (ph : Int) by omega)
    have p8 : (0 : Int) < (ph : Int) - (1 + m7 % (ph : Int)) + 1 := by omega
    refine ⟨_, rfl, _, rfl, ln, _, 5, .int m8, rfl, rfl, SqL.of hln1, em8, _, rfl, _, rfl, _, _, rfl, rfl, _, _, rfl, rfl, _, _, rfl, rfl, p8, _, _, rfl, rfl, ?_⟩
    have b8 := mod_in m8 p8
    refine ⟨_, rfl, ln, _, 6, .int m9, rfl, rfl, SqL.of hln1, em9, _, _, rfl, rfl, (by show (0 : Int) < 3; decide), ?_⟩
    refine ⟨fun σ H5 => H1 = H5 ∧ σ = [some (.ref ln), some (.str nm), some (.int x), some (.int y), some (.int (ph : Int)), some (.str sd), some (.int (1 + m7 % (ph : Int))), some (.int (1 + m7 % (ph : Int) + m8 % ((ph : Int) - (1 + m7 % (ph : Int)) + 1))), some (.int (m9 % 3))], ?_, ?_⟩
    · refine ⟨_, rfl, rfl, _, rfl, ite2 (fun y => ?_) (fun y => ⟨rfl, rfl⟩)⟩
      exact ⟨_, rfl, _, rfl, _, rfl, _, rfl, _, rfl, (by show 6 ≤ sizeLine; decide), fun p hp => q _ p sd 1 (ph : Int) osd (by omega) (by omega) (by omega) (s1.trans (same_upd (Same.refl _) hp)) upd_same⟩
    rintro σ _ ⟨rfl, rfl⟩
    refine ⟨fun σ H5 => H1 = H5 ∧ ∃ hi : Int, 1 + m7 % (ph : Int) ≤ hi ∧ hi ≤ (ph : Int) ∧ σ = [some (.ref ln), some (.str nm), some (.int x), some (.int y), some (.int (ph : Int)), some (.str sd), some (.int (1 + m7 % (ph : Int))), some (.int hi), some (.int (m9 % 3))], ?_, ?_⟩
    · refine ⟨_, rfl, rfl, _, rfl, ite2 (fun y => ?_) (fun y => ⟨rfl, _, by omega, by omega, rfl⟩)⟩
      refine ⟨_, rfl, _, _, rfl, rfl, _, rfl, _, _, rfl, rfl, _, ?_, ?_, rfl⟩
      · split <;> omega
      · split <;> omega
    rintro σ _ ⟨rfl, hi, a1, a2, rfl⟩
    exact ⟨_, rfl, _, rfl, _, rfl, _, rfl, _, rfl, _, rfl, (by show 6 ≤ sizeLine; decide), fun p hp => q _ p sd _ hi osd (by omega) a1 a2 (s1.trans (same_upd (Same.refl _) hp)) upd_same⟩
theorem ok_law_points (T : Txt w K mg t) : FnOk true P w K mg base (CXo P w) 3 t.f_law_points t.d_law_points ["_law_cells", "_law_digits", "_law_width", "_law_height"] (spPoints K) := by
  refine T.F_law_points.okn (k := 2) sc_law_points (fun vs H Q E h => ?_) (fun cdv A outer s H vs Q E hr h => ?_)
  · obtain ⟨lcell, ns, dg, w', h', rfl, _⟩ := h
    rfl
  · obtain ⟨lcell, ns, dg, w', h', rfl, h⟩ := h
    refine ⟨_, pss_cons (ps_set (i := 4) sc_law_points.nd rfl (Or.inl rfl) (pe_callTy (call_list_rng rfl) rfl T.n_list boot_list (pa_cons (pe_callTy call_range2 rfl T.n_range boot_range (pa_cons (pe_int) (pa_cons (pe_op op_add (pv 2) (pe_int)) (pa_nil)))) (pa_nil))))
      (pss_cons (ps_set (i := 5) sc_law_points.nd rfl (Or.inl rfl) (pe_callTy (call_list_rng rfl) rfl T.n_list boot_list (pa_cons (pe_callTy call_range2 rfl T.n_range boot_range (pa_cons (pe_int) (pa_cons (pe_op op_add (pv 3) (pe_int)) (pa_nil)))) (pa_nil))))
      (pss_cons (ps_set (i := 6) sc_law_points.nd rfl (Or.inl rfl) (pe_callTy (call_list_txt rfl) rfl T.n_list boot_list (pa_cons (pe_str) (pa_nil))))
      (pss_cons (ps_set (i := 7) sc_law_points.nd rfl (Or.inl rfl) (pe_lst (pa_nil)))
      (pss_cons (ps_for PassesOwn.never rfl (pi_list (pv 0)) (pg_name (i := 8) sc_law_points.nd rfl (Or.inl rfl)) (pss_one ((by (with_reducible refine' ps_mid ?m26); (case m26 => ((with_reducible refine' ps_if ?c8 ?a9 ?b10); (case c8 => exact PW.pt (pw_and (pt_cmpR (op_neV (hu20_of hr)) (pv 4) (pe_lst (pa_nil)) (nomark _)) (pw_and1 (pt_cmpR (op_neV (hu20_of hr)) (pv 5) (pe_lst (pa_nil)) (nomark _))))); (case a9 => ((with_reducible refine' pss_cons ?a11 ?b12); (case a11 => ((with_reducible refine' ps_set (i := 9) ?n13 ?i14 ?x15 ?e16 ?s17 ?f18); (case n13 => exact sc_law_points.nd); (case i14 => rfl); (case x15 => exact Or.inl rfl); (case f18 => exact Or.inl rfl); (case e16 => ((exact pe_call (ok_law_numbers T) (hr.mono (by decide)) rfl T.g_law_numbers T.F_law_numbers.kp T.b_law_numbers .nil pass_none (pa_cons (pv 8) (pa_cons (pv 1) (pa_cons (pe_lst (pa_consP (pe_int) (pa_consP (pe_int) (pa_consP (pe_int) (pa_consP (pe_int) (pa_consP (pe_int) (pa_consP (pe_int) (pa_consP (pe_int) (pa_nil) rfl) rfl) rfl) rfl) rfl) rfl) rfl)) (pa_nil))))))); (case s17 => rfl))); (case b12 => ((with_reducible refine' pss_cons ?a19 ?b20); (case a19 => ((exact ps_set (i := 10) sc_law_points.nd rfl (Or.inl rfl) (pe_bm PySem.F.plainAttrs_list PySem.F.slot_list_pop PySem.F.type_list_pop mt_popAt (pv 4) (pa_cons (pe_op op_mod (pe_ix ix_list (pv 9) (pe_int) (fun _ _ => rfl)) (pe_callB call_len_seq rfl T.n_len boot_len (pa_cons (pv 4) (pa_nil)))) (pa_nil)))))); (case b20 => ((with_reducible refine' pss_cons ?a21 ?b22); (case a21 => ((exact ps_set (i := 11) sc_law_points.nd rfl (Or.inl rfl) (pe_bm PySem.F.plainAttrs_list PySem.F.slot_list_pop PySem.F.type_list_pop mt_popAt (pv 5) (pa_cons (pe_op op_mod (pe_ix ix_list (pv 9) (pe_int) (fun _ _ => rfl)) (pe_callB call_len_seq rfl T.n_len boot_len (pa_cons (pv 5) (pa_nil)))) (pa_nil)))))); (case b22 => ((with_reducible refine' pss_cons ?a23 ?b24); (case a23 => ((exact ps_set (i := 12) sc_law_points.nd rfl (Or.inl rfl) (pe_bm PySem.F.plainAttrs_list PySem.F.slot_list_pop PySem.F.type_list_pop mt_popAt (pv 6) (pa_cons (pe_op op_mod (pe_ix ix_list (pv 9) (pe_int) (fun _ _ => rfl)) (pe_callB call_len_seq rfl T.n_len boot_len (pa_cons (pv 6) (pa_nil)))) (pa_nil)))))); (case b24 => ((with_reducible refine' pss_one ?c25); (case c25 => ((exact ps_expr (pe_bm PySem.F.plainAttrs_list PySem.F.slot_list_append PySem.F.type_list_append mt_append (pv 7) (pa_cons (pe_call (ok_law_point T) (hr.mono (by decide)) rfl T.g_law_point T.F_law_point.kp T.b_law_point .nil pass_none (pa_cons (pv 9) (pa_cons (pv 12) (pa_cons (pv 10) (pa_cons (pv 11) (pa_cons (pv 3) (pa_nil))))))) (pa_nil)))))))))))))))); (case b10 => ((exact pss_nil)))))))))
      (pss_one (ps_ret (pv 7))))))), ?_⟩
    obtain ⟨hc, n12, w1, w2, h1, h2, q⟩ := h
    refine ⟨_, rfl, _, _, rfl, rfl, 1, (w' : Int) + 1, rfl, fun pr hpr => ?_⟩
    have s1 : Same H (upd H pr (.rng 1 ((w' : Int) + 1))) := same_upd (Same.refl _) hpr
    have g1 : upd H pr (.rng 1 ((w' : Int) + 1)) pr = some (.rng 1 ((w' : Int) + 1)) := upd_same
    revert s1 g1
    generalize upd H pr (.rng 1 ((w' : Int) + 1)) = H1
    intro s1 g1
    refine ⟨pr, _, _, rfl, g1, ⟨by decide, by decide, by omega, by omega⟩, by omega, fun lc hlc => ?_⟩
    have s2 : Same H1 (upd H1 lc (.lst (rngL 1 ((w' : Int) + 1)))) := same_upd (Same.refl _) hlc
    have g2 : upd H1 lc (.lst (rngL 1 ((w' : Int) + 1))) lc = some (.lst (rngL 1 ((w' : Int) + 1))) := upd_same
    revert s2 g2
    generalize upd H1 lc (.lst (rngL 1 ((w' : Int) + 1))) = H2
    intro s2 g2
    refine ⟨_, rfl, _, _, rfl, rfl, 1, (h' : Int) + 1, rfl, fun pr2 hpr2 => ?_⟩
    have s3 : Same H2 (upd H2 pr2 (.rng 1 ((h' : Int) + 1))) := same_upd (Same.refl _) hpr2
    have g3 : upd H2 pr2 (.rng 1 ((h' : Int) + 1)) pr2 = some (.rng 1 ((h' : Int) + 1)) := upd_same
    revert s3 g3
    generalize upd H2 pr2 (.rng 1 ((h' : Int) + 1)) = H3
    intro s3 g3
    refine ⟨pr2, _, _, rfl, g3, ⟨by decide, by decide, by omega, by omega⟩, by omega, fun lr hlr => ?_⟩
    have s4 : Same H3 (upd H3 lr (.lst (rngL 1 ((h' : Int) + 1)))) := same_upd (Same.refl _) hlr
    have g4 : upd H3 lr (.lst (rngL 1 ((h' : Int) + 1))) lr = some (.lst (rngL 1 ((h' : Int) + 1))) := upd_same
    revert s4 g4
    generalize upd H3 lr (.lst (rngL 1 ((h' : Int) + 1))) = H4
    intro s4 g4
    refine ⟨abcS, rfl, by decide +kernel, fun ll hll => ?_⟩
    have s5 : Same H4 (upd H4 ll (.lst (sgnL abcS))) := same_upd (Same.refl _) hll
    have g5 : upd H4 ll (.lst (sgnL abcS)) ll = some (.lst (sgnL abcS)) := upd_same
    revert s5 g5
    generalize upd H4 ll (.lst (sgnL abcS)) = H5
    intro s5 g5
    refine ⟨(by show 0 ≤ sizeLine; decide), fun lp hlp => ?_⟩
    have s6 : Same H5 (upd H5 lp (.lst [])) := same_upd (Same.refl _) hlp
    have g6 : upd H5 lp (.lst []) lp = some (.lst []) := upd_same
    revert s6 g6
    generalize upd H5 lp (.lst []) = H6
    intro s6 g6
    have s06 := (((s1.trans s2).trans s3).trans s4).trans (s5.trans s6)
    have f2 := s1.free hlc
    have f4 := ((s1.trans s2).trans s3).free hlr
    have f5 := (((s1.trans s2).trans s3).trans s4).free hll
    have f6 := ((((s1.trans s2).trans s3).trans s4).trans s5).free hlp
    have e2 := s6 _ _ (s5 _ _ (s4 _ _ (s3 _ _ g2)))
    have e4 := s6 _ _ (s5 _ _ g4)
    have e5 := s6 _ _ g5
    have n24 : lc ≠ lr := ne_of_none (s3 _ _ g2) hlr
    have n25 : lc ≠ ll := ne_of_none (s4 _ _ (s3 _ _ g2)) hll
    have n26 : lc ≠ lp := ne_of_none (s5 _ _ (s4 _ _ (s3 _ _ g2))) hlp
    have n45 : lr ≠ ll := ne_of_none g4 hll
    have n46 : lr ≠ lp := ne_of_none (s5 _ _ g4) hlp
    have n56 : ll ≠ lp := ne_of_none g5 hlp
    refine ⟨_, rfl, lcell, rfl, ⟨_, SqL.of (s06 _ _ hc)⟩, ?_⟩
    refine for_list (xs := ns.map V.int) (Pv := IPt H lcell lc lr ll lp dg w' h') ⟨_, _, _, [], [], _, _, _, _, _, rfl, s06, e2, e4, e5, g6, .nil, ⟨rng_nd _, fun v hv => rng_mem hv, rng_nd _, fun v hv => rng_mem hv, sgn_nd, fun v hv => hv, (by decide +kernel), ?_, ?_, Nat.le_refl _, fun _ z => (nomatch z), .nil, .nil, .nil, fun _ z => (nomatch z), fun _ z => (nomatch z), fun _ z => (nomatch z)⟩⟩ ?_ ?_ ?_
    · unfold rngL
      rw [List.length_map, List.length_range]
      omega
    · unfold rngL
      rw [List.length_map, List.length_range]
      omega
    · rintro i σ H7 _ ⟨_, _, _, _, _, _, _, _, _, _, rfl, s7, _⟩
      exact SqL.of (s7 _ _ hc)
    · rintro i x σ H7 hx ⟨cols, rows, lts, ps, qs, v7, v8, v9, v10, v11, rfl, s7, e7c, e7r, e7l, e7p, pl7, pi⟩
      rw [List.getElem?_map, Option.map_eq_some_iff] at hx
      obtain ⟨c, hc', rfl⟩ := hx
      have i12 : i < 12 := by have := (List.getElem?_eq_some_iff.mp hc').1; omega
      refine ⟨_, ?_, fun _ _ z => z⟩
      have sc1 : cols.all scV = true := List.all_eq_true.mpr fun v hv => by
        obtain ⟨x, rfl, _⟩ := pi.ci v hv
        rfl
      have sc2 : rows.all scV = true := List.all_eq_true.mpr fun v hv => by
        obtain ⟨x, rfl, _⟩ := pi.ri v hv
        rfl
      refine ⟨_, rfl, (by show 0 ≤ sizeLine; decide), fun z1 hz1 => ?_⟩
      have s8 : Same H7 (upd H7 z1 (.lst [])) := same_upd (Same.refl _) hz1
      have g8 : upd H7 z1 (.lst []) z1 = some (.lst []) := upd_same
      revert s8 g8
      generalize upd H7 z1 (.lst []) = H8
      intro s8 g8
      obtain ⟨n, m, d, e, d1, d2, n9, m9, ev⟩ := ne_nil (K := K) (s8 _ _ e7c) g8 sc1
      refine ⟨n, m, d, e, d1, d2, n9, m9, _, rfl, ?_⟩
      rw [ev]
      refine ite2 (fun y1 => ?_) (fun y1 => ⟨cols, rows, lts, ps, qs, _, _, _, _, _, rfl, s7.trans s8, s8 _ _ e7c, s8 _ _ e7r, s8 _ _ e7l, s8 _ _ e7p, pl7.keep (Same.tups s8), pi.up⟩)
      refine ⟨_, rfl, (by show 0 ≤ sizeLine; decide), fun z2 hz2 => ?_⟩
      have s9 : Same H8 (upd H8 z2 (.lst [])) := same_upd (Same.refl _) hz2
      have g9 : upd H8 z2 (.lst []) z2 = some (.lst []) := upd_same
      revert s9 g9
      generalize upd H8 z2 (.lst []) = H9
      intro s9 g9
      have s79 := s8.trans s9
      obtain ⟨n', m', d', e', d1', d2', n9', m9', ev'⟩ := ne_nil (K := K) (s79 _ _ e7r) g9 sc2
      refine ⟨n', m', d', e', d1', d2', n9', m9', _, rfl, ?_⟩
      rw [ev']
      refine ite2 (fun y2 => ?_) (fun y2 => ⟨cols, rows, lts, ps, qs, _, _, _, _, _, rfl, s7.trans s79, s79 _ _ e7c, s79 _ _ e7r, s79 _ _ e7l, s79 _ _ e7p, pl7.keep (Same.tups s79), pi.up⟩)
      have cne : cols ≠ [] := fun z => by rw [z] at y1; exact absurd y1 (by decide)
      have rne : rows ≠ [] := fun z => by rw [z] at y2; exact absurd y2 (by decide)
      have lne : lts ≠ [] := fun z => by
        have l0 : lts.length = 0 := by rw [z]; rfl
        have := pi.ll
        have := pi.pl
        omega
      refine ⟨_, rfl, _, rfl, (by show 7 ≤ sizeLine; decide), fun lb hlb => ?_⟩
      have s30 : Same H9 (upd H9 lb (.lst [.int 30, .int 16, .int 26, .int 4, .int 16, .int 16, .int 3])) := same_upd (Same.refl _) hlb
      have g30 : upd H9 lb (.lst [.int 30, .int 16, .int 26, .int 4, .int 16, .int 16, .int 3]) lb = some (.lst [.int 30, .int 16, .int 26, .int 4, .int 16, .int 16, .int 3]) := upd_same
      revert s30 g30
      generalize upd H9 lb (.lst [.int 30, .int 16, .int 26, .int 4, .int 16, .int 16, .int 3]) = H30
      intro s30 g30
      refine ⟨c, dg, lb, [30, 16, 26, 4, 16, 16, 3], rfl, g30, (by decide), by decide, fun H31 lnn nms s31 flnn e31 nl31 => ?_⟩
      have s79 := s79.trans (s30.trans s31)
      have nl7 : nms.length = 7 := nl31
      obtain ⟨m3, em3⟩ := nth_int (ns := nms) (i := 0) (by omega)
      obtain ⟨m4, em4⟩ := nth_int (ns := nms) (i := 1) (by omega)
      obtain ⟨m5, em5⟩ := nth_int (ns := nms) (i := 2) (by omega)
      have e9c := s79 _ _ e7c
      have e9r := s79 _ _ e7r
      have e9l := s79 _ _ e7l
      have e9p := s79 _ _ e7p
      have p9 := pl7.keep (Same.tups s79)
      have s09 := s7.trans s79
      have nnc : lnn ≠ lc := fun z => by rw [z, s30 _ _ (s9 _ _ (s8 _ _ e7c))] at flnn; cases flnn
      have nnr : lnn ≠ lr := fun z => by rw [z, s30 _ _ (s9 _ _ (s8 _ _ e7r))] at flnn; cases flnn
      have nnl : lnn ≠ ll := fun z => by rw [z, s30 _ _ (s9 _ _ (s8 _ _ e7l))] at flnn; cases flnn
      refine ⟨_, rfl, .inl ⟨rfl, _, SqL.of e9c⟩, _, rfl, lnn, _, 0, .int m3, rfl, rfl, SqL.of e31, em3, ?_⟩
      obtain ⟨jx, vx, gx, a1, a2, a3, a4⟩ := pop_at m3 cne (Nat.le_trans pi.cl (by decide))
      obtain ⟨x, rfl, x1, x2⟩ := pi.ci vx (List.mem_of_getElem? gx)
      refine ⟨_, rfl, lc, _, rfl, .inl (SqL.of e9c), _, _, rfl, rfl, a4, lc, _, _, jx, _, rfl, rfl, e9c, a1, a2, a3, gx, ?_⟩
      have k10 : ∀ c u, c ≠ lc → H31 c = some u → upd H31 lc (.lst (cols.eraseIdx jx)) c = some u := fun c u nc e => by rw [upd_ne nc]; exact e
      have g10 : upd H31 lc (.lst (cols.eraseIdx jx)) lc = some (.lst (cols.eraseIdx jx)) := upd_same
      revert k10 g10
      generalize upd H31 lc (.lst (cols.eraseIdx jx)) = H10
      intro k10 g10
      have e10r := k10 _ _ (Ne.symm n24) e9r
      refine ⟨_, rfl, .inl ⟨rfl, _, SqL.of e10r⟩, _, rfl, lnn, _, 1, .int m4, rfl, rfl, SqL.of (k10 _ _ nnc e31), em4, ?_⟩
      obtain ⟨jy, vy, gy, b1, b2, b3, b4⟩ := pop_at m4 rne (Nat.le_trans pi.rl (by decide))
      obtain ⟨y, rfl, y3, y4⟩ := pi.ri vy (List.mem_of_getElem? gy)
      refine ⟨_, rfl, lr, _, rfl, .inl (SqL.of e10r), _, _, rfl, rfl, b4, lr, _, _, jy, _, rfl, rfl, e10r, b1, b2, b3, gy, ?_⟩
      have k11 : ∀ c u, c ≠ lr → H10 c = some u → upd H10 lr (.lst (rows.eraseIdx jy)) c = some u := fun c u nc e => by rw [upd_ne nc]; exact e
      have g11 : upd H10 lr (.lst (rows.eraseIdx jy)) lr = some (.lst (rows.eraseIdx jy)) := upd_same
      revert k11 g11
      generalize upd H10 lr (.lst (rows.eraseIdx jy)) = H11
      intro k11 g11
      have e11l := k11 _ _ (Ne.symm n45) (k10 _ _ (Ne.symm n25) e9l)
      have e11c := k11 _ _ n24 g10
      refine ⟨_, rfl, .inl ⟨rfl, _, SqL.of e11l⟩, _, rfl, lnn, _, 2, .int m5, rfl, rfl, SqL.of (k11 _ _ nnr (k10 _ _ nnc e31)), em5, ?_⟩
      obtain ⟨jn, vn, gn, c1, c2, c3, c4⟩ := pop_at m5 lne (by have := pi.ll; omega)
      obtain ⟨cc, hcc, rfl⟩ := List.mem_map.mp (pi.li vn (List.mem_of_getElem? gn))
      have inm := abc_nm cc hcc
      refine ⟨_, rfl, ll, _, rfl, .inl (SqL.of e11l), _, _, rfl, rfl, c4, ll, _, _, jn, _, rfl, rfl, e11l, c1, c2, c3, gn, ?_⟩
      have k12 : ∀ c u, c ≠ ll → H11 c = some u → upd H11 ll (.lst (lts.eraseIdx jn)) c = some u := fun c u nc e => by rw [upd_ne nc]; exact e
      have g12 : upd H11 ll (.lst (lts.eraseIdx jn)) ll = some (.lst (lts.eraseIdx jn)) := upd_same
      revert k12 g12
      generalize upd H11 ll (.lst (lts.eraseIdx jn)) = H12
      intro k12 g12
      have e12c := k12 _ _ n25 e11c
      have e12r := k12 _ _ n45 g11
      have e12p := k12 _ _ (Ne.symm n56) (k11 _ _ (Ne.symm n46) (k10 _ _ (Ne.symm n26) e9p))
      have s012 : Same H H12 := fun c u e => k12 _ _ (ne_of_none e f5) (k11 _ _ (ne_of_none e f4) (k10 _ _ (ne_of_none e f2) (s09 _ _ e)))
      have t912 : Tups H31 H12 := fun c xs e => k12 _ _ (ne_of e (s79 _ _ e7l) (fun z => nomatch z)) (k11 _ _ (ne_of e e9r (fun z => nomatch z)) (k10 _ _ (ne_of e e9c (fun z => nomatch z)) e))
      refine ⟨_, rfl, .inl ⟨rfl, _, SqL.of e12p⟩, _, rfl, _, rfl, _, rfl, _, rfl, _, rfl, lnn, nms, ⟨#[cc]⟩, x, y, h', rfl, k12 _ _ nnl (k11 _ _ nnr (k10 _ _ nnc e31)), by omega, h1, fun H13 qa sd lo hi osd o1 o2 o3 s13 hqa => ?_⟩
      have e13p := s13 _ _ e12p
      refine ⟨lp, _, _, rfl, rfl, e13p, ?_, ?_⟩
      · rw [List.length_map, pl7.len]
        exact Nat.lt_of_le_of_lt (by have := pi.pl; omega : _ ≤ 1000) (by decide)
      have kt : Tups H13 (upd H13 lp (.lst (qs.map V.ref ++ [.ref qa]))) := fun c xs e => by rw [upd_ne (ne_of e e13p (fun z => nomatch z))]; exact e
      refine ⟨_, _, _, ps ++ [⟨⟨#[cc]⟩, x, y, sd, lo, hi⟩], qs ++ [qa], _, _, _, _, _, rfl, fun c u e => by rw [upd_ne (ne_of_none e f6)]; exact s13 _ _ (s012 _ _ e), by rw [upd_ne n26]; exact s13 _ _ e12c, by rw [upd_ne n46]; exact s13 _ _ e12r, by rw [upd_ne n56]; exact s13 _ _ g12, by rw [upd_same, List.map_append]; rfl, PtsL.snoc1 (((p9.keep t912).keep (Same.tups s13)).keep kt) (kt _ _ hqa), pi.add (p := ⟨⟨#[cc]⟩, x, y, sd, lo, hi⟩) gx gy gn ⟨inm, x1, x2, y3, y4, osd, o1, o2, o3⟩⟩
    · rintro σ H7 ⟨cols, rows, lts, ps, qs, v7, v8, v9, v10, v11, rfl, s7, e7c, e7r, e7l, e7p, pl7, pi⟩
      have := pi.pl
      rw [List.length_map] at this
      exact ⟨_, rfl, q H7 lp ps qs ⟨pi.ok, pi.nn, pi.nx, pi.ny, by omega⟩ (by omega) s7 f6 e7p pl7⟩
end
end S34
set_option maxRecDepth 100000
set_option maxHeartbeats 4000000
namespace S34
open PySem L2 XL PyProof.Rows
def spLPut (t : Adr) : Sp := fun vs H Q _ => ∃ (a q dp do_ : Addr) (pw ph : Int) (ps : List Pt) (p : Pt), vs = [.ref a, .ref q] ∧ Pic t H a dp do_ pw ph ps ∧ H q = some (.tup (.str p.nm :: ptV p)) ∧ PtOk pw ph p ∧ (∀ z ∈ ps, z.nm ≠ p.nm ∧ z.x ≠ p.x ∧ z.y ≠ p.y) ∧ ps.length < 12 ∧
  ∀ H', (∀ b u, b ≠ dp → H b = some u → H' b = some u) → Pic t H' a dp do_ pw ph (ps ++ [p]) → Q .non H'
def spLPic (t : Adr) : Sp := fun vs H Q _ => ∃ (lp ls : Addr) (w h : Nat) (ps : List Pt) (ss : List Seat) (qs rs : List Addr), vs = [.int (w : Int), .int (h : Int), .ref lp, .ref ls] ∧ 1 ≤ w ∧ w ≤ 30 ∧ 1 ≤ h ∧ h ≤ 16 ∧ H lp = some (.lst (qs.map V.ref)) ∧ PtsL H ps qs ∧ PtsOk (w : Int) (h : Int) ps ∧ H ls = some (.lst (rs.map V.ref)) ∧ SeatsL H ss rs ∧ SsOk (h : Int) ss ∧ ss.Pairwise seatLt ∧
  ∀ H' a dp do_, Same H H' → Dr t H' a dp do_ w h ps ss.reverse ss → Q (.ref a) H'
theorem PtsOk.at_ {w h : Int} {ps : List Pt} (o : PtsOk w h ps) {i : Nat} {p : Pt} (e : ps[i]? = some p) : PtOk w h p ∧ (∀ q ∈ ps.take i, q.nm ≠ p.nm ∧ q.x ≠ p.x ∧ q.y ≠ p.y) ∧ i < 12 := by
  obtain ⟨hi, rfl⟩ := List.getElem?_eq_some_iff.mp e
  refine ⟨o.ok _ (List.getElem_mem hi), fun q hq => ⟨nd_take (·.nm) o.nn hi q hq, nd_take (·.x) o.nx hi q hq, nd_take (·.y) o.ny hi q hq⟩, by have := o.le; omega⟩
theorem lt_nodup {ss : List Seat} (h : ss.Pairwise seatLt) : ss.Nodup := h.imp fun {a b} z e => by
  subst e
  exact seatLt_as _ _ z z
theorem rev_at {α : Type} {l : List α} {i : Nat} (h : i < l.length) {x : α} (e : l[l.length - 1 - i]? = some x) : l.reverse[i]? = some x := by
  rw [List.getElem?_reverse h]
  exact e
section
variable {P : Program} {w : World} {K : PySem.W.Frag} {mg : Str → Option Value} {base : Heap} {t : Adr}
theorem ok_law_put (T : Txt w K mg t) : FnOk true P w K mg base (CXo P w) 4 t.f_law_put t.d_law_put ["_law_picture_here", "_law_point_here"] (spLPut t) := by
  refine T.F_law_put.okn (k := 3) sc_law_put (fun vs H Q E h => ?_) (fun cdv A outer s H vs Q E hr h => ?_)
  · obtain ⟨a, q, dp, do_, pw, ph, ps, p, rfl, _⟩ := h
    rfl
  · obtain ⟨a, q, dp, do_, pw, ph, ps, p, rfl, h⟩ := h
    refine ⟨_, pss_cons (ps_asg (pv 1) (pg_tup rfl (pgs_cons (pg_name (i := 2) sc_law_put.nd rfl (Or.inl rfl)) (pgs_cons (pg_name (i := 3) sc_law_put.nd rfl (Or.inl rfl)) (pgs_cons (pg_name (i := 4) sc_law_put.nd rfl (Or.inl rfl)) (pgs_cons (pg_name (i := 5) sc_law_put.nd rfl (Or.inl rfl)) (pgs_cons (pg_name (i := 6) sc_law_put.nd rfl (Or.inl rfl)) (pgs_cons (pg_name (i := 7) sc_law_put.nd rfl (Or.inl rfl)) (pgs_nil)))))))))
      (pss_one (ps_if (PW.pt (pw_and (pt_cmpR op_eq (pv 5) (pe_str) (nomark _)) (pw_and (pt_cmpR op_eq (pv 6) (pe_int) (nomark _)) (pw_and1 (pt_cmpR op_eq (pv 7) (pe_fld (pv 0) rfl) (nomark _)))))) (pss_one (ps_expr (pe_meth (pv 0) T.c_Picture T.m_Picture_put (ok_Picture_put T) (hr.mono (by decide)) T.b_Picture_put_4.choose_spec.2 T.b_Picture_put_4.choose_spec.1 pass_none (pa_cons (pv 2) (pa_cons (pv 3) (pa_cons (pv 4) (pa_nil))))))) (pss_one (ps_expr (pe_meth (pv 0) T.c_Picture T.m_Picture_put (ok_Picture_put T) (hr.mono (by decide)) T.b_Picture_put .nil pass_none (pa_consP (pv 2) (pa_consP (pv 3) (pa_consP (pv 4) (pa_consP (pv 5) (pa_consP (pv 6) (pa_consP (pv 7) (pa_nil) rfl) rfl) rfl) rfl) rfl) rfl)))))), ?_⟩
    obtain ⟨pic, hq, ok, un, l12, hQ⟩ := h
    obtain ⟨⟨dx, hpi⟩, _⟩ := id pic
    obtain ⟨nm, x, y, sd, lo, hi⟩ := p
    refine ⟨_, rfl, q, _, rfl, SqT.of hq, rfl, _, _, rfl, _, _, rfl, _, _, rfl, _, _, rfl, _, _, rfl, _, _, rfl, rfl, ?_⟩
    have B : ∀ (hv : V) (sd' : Str) (lo' : Int), sd' = sd → lo' = lo → ((hv = .non ∧ hi = ph) ∨ hv = .int hi) → spPut t [.ref a, .str nm, .int x, .int y, .str sd', .int lo', hv] H (fun _ H' => Q .non H') (fun _ _ _ => False) := fun hv sd' lo' e1 e2 e3 => by
      subst e1 e2
      exact ⟨a, dp, do_, pw, ph, ps, nm, x, y, sd', lo', hi, hv, rfl, pic, e3, ok.nm, ok.x1, ok.x2, ok.y1, ok.y2, ok.sd, ok.l1, ok.l2, ok.l3, un, l12, hQ⟩
    have C : ∀ Q' : V → Hp → Prop, (∀ v H', Q .non H' → Q' v H') → True := fun _ _ => trivial
    refine ⟨_, rfl, rfl, _, rfl, ite2 (fun y1 => ⟨_, rfl, rfl, _, rfl, ite2 (fun y2 => ⟨_, rfl, _, rfl, a, _, _, _, _, rfl, hpi, T.c_Picture, T.n_Picture_height, lkH, rfl, _, rfl, ite2 (fun y3 => ?_) (fun y3 => ?_)⟩) (fun y2 => ?_)⟩) (fun y1 => ?_)⟩
    · have e1 : sd = Str.ofString "both" := V.str.inj (of_decide_eq_true y1)
      have e2 : lo = 1 := V.int.inj (of_decide_eq_true y2)
      have e3 : hi = ph := V.int.inj (of_decide_eq_true y3)
      refine ⟨_, rfl, a, dx, _, rfl, hpi, lk_no (by decide +kernel), _, rfl, _, rfl, _, rfl, ?_⟩
      exact ⟨a, dp, do_, pw, ph, ps, nm, x, y, "both", 1, hi, .non, rfl, pic, .inl ⟨rfl, e3⟩, ok.nm, ok.x1, ok.x2, ok.y1, ok.y2, .inr (.inr rfl), by decide, e2 ▸ ok.l2, ok.l3, un, l12, fun H' k pc => hQ H' k (by rw [e1, e2]; exact pc)⟩
    all_goals
      refine ⟨_, rfl, a, dx, _, rfl, hpi, lk_no (by decide +kernel), _, rfl, _, rfl, _, rfl, _, rfl, _, rfl, _, rfl, ?_⟩
      exact ⟨a, dp, do_, pw, ph, ps, nm, x, y, sd, lo, hi, .int hi, rfl, pic, .inr rfl, ok.nm, ok.x1, ok.x2, ok.y1, ok.y2, ok.sd, ok.l1, ok.l2, ok.l3, un, l12, hQ⟩
theorem ok_law_picture (T : Txt w K mg t) : FnOk true P w K mg base (CXo P w) 6 t.f_law_picture t.d_law_picture ["_law_width", "_law_height", "_law_points_here", "_law_seats_here"] (spLPic t) := by
  refine T.F_law_picture.okn (k := 5) sc_law_picture (fun vs H Q E h => ?_) (fun cdv A outer s H vs Q E hr h => ?_)
  · obtain ⟨lp, ls, w', h', ps, ss, qs, rs, rfl, _⟩ := h
    rfl
  · obtain ⟨lp, ls, w', h', ps, ss, qs, rs, rfl, h⟩ := h
    refine ⟨_, pss_cons (ps_set (i := 4) sc_law_picture.nd rfl (Or.inl rfl) (pe_make T.k_Picture (ok_Picture_init T) (hr.mono (by decide)) rfl T.g_Picture T.b_Picture_init .nil pass_none (pa_cons (pv 0) (pa_cons (pv 1) (pa_nil)))))
      (pss_cons (ps_for PassesOwn.never rfl (pi_reversed rfl T.n_reversed (pa_cons (pv 3) (pa_nil))) (pg_tup rfl (pgs_cons (pg_name (i := 5) sc_law_picture.nd rfl (Or.inl rfl)) (pgs_cons (pg_name (i := 6) sc_law_picture.nd rfl (Or.inl rfl)) (pgs_nil)))) (pss_one (ps_expr (pe_meth (pv 4) T.c_Picture T.m_Picture_open_seat (ok_Picture_open_seat T) (hr.mono (by decide)) T.b_Picture_open_seat .nil pass_none (pa_cons (pv 5) (pa_cons (pv 6) (pa_nil)))))))
      (pss_cons (ps_for PassesOwn.never rfl (pi_list (pv 2)) (pg_name (i := 7) sc_law_picture.nd rfl (Or.inl rfl)) (pss_one (ps_expr (pe_call (ok_law_put T) (hr.mono (by decide)) rfl T.g_law_put T.F_law_put.kp T.b_law_put .nil pass_none (pa_cons (pv 4) (pa_cons (pv 7) (pa_nil)))))))
      (pss_one (ps_ret (pv 4))))), ?_⟩
    obtain ⟨w1, w2, h1, h2, hlp, ptl, pok, hls, stl, sok, slt, q⟩ := h
    have sll := stl.len
    have pll := ptl.len
    have nd := lt_nodup slt
    refine ⟨_, rfl, _, rfl, fun a dx ha hdx ne => ?_⟩
    refine ⟨a, dx, w', h', rfl, upd_same, by omega, by omega, by omega, by omega, fun H5 dp do_ hdp hdo k5 pic5 hdt => ⟨rfl, ?_⟩⟩
    have up : ∀ b, upd (upd H dx (.own a)) a (.ins t.C_Picture dx []) b = none → H b = none := fun b z => by
      cases e : H b with
      | none => rfl
      | some u => rw [upd_ne (ne_of_none e ha), upd_ne (ne_of_none e hdx), e] at z; cases z
    have s5 : Same H H5 := fun b u e => k5 b u (ne_of_none e ha) (by rw [upd_ne (ne_of_none e ha), upd_ne (ne_of_none e hdx)]; exact e)
    have fdp := up _ hdp
    have fdo := up _ hdo
    have st5 : Sts H5 do_ [] := ⟨[], hdt, rfl, List.nodup_nil, by decide⟩
    have rnd : (ss.reverse.map id).Nodup := by
      rw [List.map_id]
      exact (List.reverse_perm ss).nodup_iff.mpr nd
    refine ⟨_, rfl, ls, _, rfl, SqL.of (s5 _ _ hls), ?_⟩
    refine for_rev (xs := rs.map V.ref) (Pv := fun i σ H6 => ∃ (v5 v6 v7 : Option V), σ = [some (.int (w' : Int)), some (.int (h' : Int)), some (.ref lp), some (.ref ls), some (.ref a), v5, v6, v7] ∧ Same H H6 ∧ Pic t H6 a dp do_ w' h' [] ∧ Sts H6 do_ (ss.reverse.take i)) ⟨_, _, _, rfl, s5, pic5, st5⟩ ?_ ?_ ?_
    · rintro i σ H6 _ ⟨_, _, _, rfl, s6, _⟩
      exact SqL.of (s6 _ _ hls)
    · rintro i x σ H6 hi hx ⟨v5, v6, v7, rfl, s6, pic6, st6⟩
      rw [List.length_map] at hi hx
      rw [List.getElem?_map, Option.map_eq_some_iff] at hx
      obtain ⟨qa, hqa, rfl⟩ := hx
      obtain ⟨⟨b, r⟩, hs, hsq⟩ := stl.get hqa
      rw [sll] at hs hi
      have hr := rev_at hi hs
      have mem := List.mem_of_getElem? hs
      obtain ⟨⟨dx6, hp6⟩, _⟩ := id pic6
      obtain ⟨ko, hko, _⟩ := id st6
      have hil : i < ss.reverse.length := by rw [List.length_reverse]; exact hi
      have nin : (b, r) ∉ ss.reverse.take i := fun z => by
        have := nd_take id rnd hil (b, r) z
        rw [(List.getElem?_eq_some_iff.mp hr).2] at this
        exact this rfl
      have l32 := sok.2.1
      refine ⟨qa, _, rfl, SqT.of (s6 _ _ hsq), rfl, _, _, rfl, _, _, rfl, rfl, ?_⟩
      refine ⟨_, rfl, a, dx6, _, rfl, hp6, lk_no (by decide +kernel), _, rfl, _, rfl, a, dp, do_, w', h', [], ss.reverse.take i, b, r, rfl, pic6, st6, (sok.2.2 _ mem).1, (sok.2.2 _ mem).2, nin, by rw [List.length_take]; omega, fun H7 k7 pc7 st7 => ⟨_, _, _, rfl, fun c u e => k7 _ _ (ne_of_none e fdo) (s6 _ _ e), pc7, ?_⟩⟩
      rw [List.take_add_one, hr]
      exact st7
    · rintro σ H6 ⟨v5, v6, v7, rfl, s6, pic6, st6⟩
      rw [List.length_map, sll, List.take_of_length_le (by rw [List.length_reverse]; exact Nat.le_refl _)] at st6
      refine ⟨_, rfl, lp, rfl, ⟨_, SqL.of (s6 _ _ hlp)⟩, ?_⟩
      refine for_list (xs := qs.map V.ref) (Pv := fun i σ H7 => ∃ (v5 v6 v7 : Option V), σ = [some (.int (w' : Int)), some (.int (h' : Int)), some (.ref lp), some (.ref ls), some (.ref a), v5, v6, v7] ∧ Same H H7 ∧ Pic t H7 a dp do_ w' h' (ps.take i) ∧ Sts H7 do_ ss.reverse) ⟨_, _, _, rfl, s6, pic6, st6⟩ ?_ ?_ ?_
      · rintro i σ H7 _ ⟨_, _, _, rfl, s7, _⟩
        exact SqL.of (s7 _ _ hlp)
      · rintro i x σ H7 hx ⟨v5, v6, v7, rfl, s7, pic7, st7⟩
        rw [List.getElem?_map, Option.map_eq_some_iff] at hx
        obtain ⟨qa, hqa, rfl⟩ := hx
        obtain ⟨p, hp, hpq⟩ := ptl.get hqa
        obtain ⟨o1, o2, o3⟩ := pok.at_ hp
        obtain ⟨ko, hko, kr⟩ := id st7
        obtain ⟨_, ⟨kp, hkp, _⟩, _⟩ := id pic7
        refine ⟨_, rfl, _, rfl, a, qa, dp, do_, w', h', ps.take i, p, rfl, pic7, s7 _ _ hpq, o1, o2, by rw [List.length_take]; omega, fun H8 k8 pc8 => ⟨_, _, _, rfl, fun c u e => k8 _ _ (ne_of_none e fdp) (s7 _ _ e), ?_, ko, k8 _ _ (ne_of hko hkp (fun z => nomatch z)) hko, kr⟩⟩
        rw [List.take_add_one, hp]
        exact pc8
      · rintro σ H7 ⟨v5, v6, v7, rfl, s7, pic7, st7⟩
        rw [List.length_map, pll, List.take_of_length_le (Nat.le_refl _)] at pic7
        exact ⟨_, rfl, q H7 a dp do_ s7 ⟨pic7, st7, ⟨(List.reverse_perm ss).nodup_iff.mpr nd, by rw [List.length_reverse]; exact sok.2.1, fun s hs => sok.2.2 s (List.mem_reverse.mp hs)⟩, (List.reverse_perm ss).symm, slt, fun p hp => (pok.ok p hp).nm⟩⟩
end
end S34
set_option maxRecDepth 100000
set_option maxHeartbeats 4000000
namespace S34
open PySem L2 XL PyProof.Rows
abbrev seF (d1 d2 : Addr) : List (Str × V) := [("seat_of", .ref d1), ("holder_of", .ref d2)]
theorem lkSo {d1 d2 : Addr} : (seF d1 d2).lookup ("seat_of" : Str) = some (.ref d1) := by
  unfold seF
  rw [List.lookup_cons, show (("seat_of" : Str) == "seat_of") = true from by decide +kernel]
theorem lkHo {d1 d2 : Addr} : (seF d1 d2).lookup ("holder_of" : Str) = some (.ref d2) := by
  unfold seF
  rw [List.lookup_cons, show (("holder_of" : Str) == "seat_of") = false from by decide +kernel]
  show List.lookup ("holder_of" : Str) [("holder_of", V.ref d2)] = _
  rw [List.lookup_cons, show (("holder_of" : Str) == "holder_of") = true from by decide +kernel]
theorem lkS_no {d1 d2 : Addr} {m : Str} (e : ((["seat_of", "holder_of"] : List Str).all fun k => !(m == k)) = true) : (seF d1 d2).lookup m = none := by
  simp only [List.all_cons, List.all_nil, Bool.and_eq_true, Bool.not_eq_true'] at e
  obtain ⟨e1, e2, _⟩ := e
  unfold seF
  rw [List.lookup_cons, e1]
  show List.lookup m [("holder_of", V.ref d2)] = none
  rw [List.lookup_cons, e2]
  rfl
def SoD (H : Hp) (d : Addr) (n : Nat) (so : Str → Option Seat) : Prop := ∃ kvs : List (Key × V), H d = some (.dK kvs) ∧ kvs.length ≤ n ∧ ∀ nm, (so nm = none → valV kvs (.inr nm) = none) ∧ ∀ s, so nm = some s → ∃ q, valV kvs (.inr nm) = some (.ref q) ∧ H q = some (.tup (seatV s))
def HoD (H : Hp) (d : Addr) (n : Nat) (ho : Seat → Option Str) : Prop := ∃ kvs : List (List Key × V), H d = some (.dT kvs) ∧ kvs.length ≤ n ∧ ∀ s, valV kvs (seatK s) = (ho s).map V.str
theorem SoD.keep {H H' : Hp} {d : Addr} {n : Nat} {so : Str → Option Seat} (s : SoD H d n so) (tp : Tups H H') (h : ∀ u, H d = some u → H' d = some u) : SoD H' d n so := by
  obtain ⟨kvs, e, l, f⟩ := s
  exact ⟨kvs, h _ e, l, fun nm => ⟨(f nm).1, fun s hs => let ⟨q, a, b⟩ := (f nm).2 s hs; ⟨q, a, tp _ _ b⟩⟩⟩
theorem HoD.keep {H H' : Hp} {d : Addr} {n : Nat} {ho : Seat → Option Str} (s : HoD H d n ho) (h : ∀ u, H d = some u → H' d = some u) : HoD H' d n ho := by
  obtain ⟨kvs, e, r⟩ := s
  exact ⟨kvs, h _ e, r⟩
theorem HoD.le {H : Hp} {d : Addr} {n k : Nat} {ho : Seat → Option Str} (s : HoD H d n ho) (h : n ≤ k) : HoD H d k ho := by
  obtain ⟨kvs, e, l, r⟩ := s
  exact ⟨kvs, e, by omega, r⟩
theorem SoD.le {H : Hp} {d : Addr} {n k : Nat} {so : Str → Option Seat} (s : SoD H d n so) (h : n ≤ k) : SoD H d k so := by
  obtain ⟨kvs, e, l, r⟩ := s
  exact ⟨kvs, e, by omega, r⟩
theorem HoD.get {H : Hp} {d : Addr} {n : Nat} {ho : Seat → Option Str} (s : HoD H d n ho) {b : Addr} {c : Seat} (eb : H b = some (.tup (seatV c))) : DGet H d (.ref b) ((ho c).map V.str) := by
  obtain ⟨kvs, e, l, f⟩ := s
  rw [← f c]
  exact DGet.t (k := seatK c) e eb
theorem HoD.put {H : Hp} {d : Addr} {n : Nat} {ho : Seat → Option Str} (s : HoD H d n ho) (hn : n < 1000) {b : Addr} {c : Seat} (eb : H b = some (.tup (seatV c))) (x : Str) :
    ∃ H', DPut H d (.ref b) (.str x) H' ∧ HoD H' d (n + 1) (Kp.upd1 ho c x) ∧ (∀ a u, a ≠ d → H a = some u → H' a = some u) ∧ Tups H H' ∧ ∀ a, H a = none → H' a = none := by
  obtain ⟨kvs, e, l, f⟩ := s
  refine ⟨_, DPut.t (k := seatK c) e eb (Nat.lt_of_le_of_lt (by omega : _ ≤ 1000) (by decide)), ⟨_, upd_same, ?_, fun z => ?_⟩, fun a u na ea => by rw [upd_ne na]; exact ea, fun a xs ea => by rw [upd_ne (ne_of ea e (fun z => nomatch z))]; exact ea, fun a ea => by rw [upd_ne (fun z => by rw [z, e] at ea; cases ea)]; exact ea⟩
  · have := length_putK kvs (seatK c) (.str x)
    omega
  · rw [valV_put]
    unfold Kp.upd1
    by_cases zc : z = c
    · rw [if_pos (by rw [zc]), if_pos zc]
      rfl
    · rw [if_neg (fun y => zc (seatK_inj y)), if_neg zc]
      exact f z
theorem SoD.put {H : Hp} {d : Addr} {n : Nat} {so : Str → Option Seat} (s : SoD H d n so) (hn : n < 1000) {b : Addr} {c : Seat} (eb : H b = some (.tup (seatV c))) (x : Str) :
    ∃ H', DPut H d (.str x) (.ref b) H' ∧ SoD H' d (n + 1) (Kp.upd1 so x c) ∧ (∀ a u, a ≠ d → H a = some u → H' a = some u) ∧ Tups H H' ∧ ∀ a, H a = none → H' a = none := by
  obtain ⟨kvs, e, l, f⟩ := s
  have tp : Tups H (upd H d (.dK (putK kvs (.inr x) (.ref b)))) := fun a xs ea => by rw [upd_ne (ne_of ea e (fun z => nomatch z))]; exact ea
  refine ⟨_, DPut.k (k := .inr x) e (Nat.lt_of_le_of_lt (by omega : _ ≤ 1000) (by decide)), ⟨_, upd_same, ?_, fun z => ?_⟩, fun a u na ea => by rw [upd_ne na]; exact ea, tp, fun a ea => by rw [upd_ne (fun z => by rw [z, e] at ea; cases ea)]; exact ea⟩
  · have := length_putK kvs (.inr x) (.ref b)
    omega
  · rw [valV_put]
    unfold Kp.upd1
    by_cases zc : z = x
    · subst zc
      rw [if_pos rfl, if_pos rfl]
      exact ⟨fun y => (nomatch y), fun s hs => ⟨b, rfl, by cases hs; exact tp _ _ eb⟩⟩
    · rw [if_neg (fun y => zc (Sum.inr.inj y)), if_neg zc]
      exact ⟨(f z).1, fun s hs => let ⟨q, a1, a2⟩ := (f z).2 s hs; ⟨q, a1, tp _ _ a2⟩⟩
theorem SoD.get {H : Hp} {d : Addr} {n : Nat} {so : Str → Option Seat} (s : SoD H d n so) (x : Str) : (so x = none ∧ DGet H d (.str x) none) ∨ ∃ c q, so x = some c ∧ DGet H d (.str x) (some (.ref q)) ∧ H q = some (.tup (seatV c)) := by
  obtain ⟨kvs, e, l, f⟩ := s
  have g := DGet.k (k := .inr x) e
  cases z : so x with
  | none =>
    rw [(f x).1 z] at g
    exact .inl ⟨rfl, g⟩
  | some c =>
    obtain ⟨q, e1, e2⟩ := (f x).2 c z
    rw [e1] at g
    exact .inr ⟨c, q, rfl, g, e2⟩
structure Sg (t : Adr) (H : Hp) (p d1 d2 : Addr) (n : Nat) (so : Str → Option Seat) (ho : Seat → Option Str) : Prop where
  ins : ∃ dx, H p = some (.ins t.C_Seating dx (seF d1 d2))
  so : SoD H d1 n so
  ho : HoD H d2 n ho
theorem Sg.keep {t : Adr} {H H' : Hp} {p d1 d2 : Addr} {n : Nat} {so : Str → Option Seat} {ho : Seat → Option Str} (g : Sg t H p d1 d2 n so ho) {d : Addr} (h1 : p ≠ d) (h2 : d1 ≠ d) (h3 : d2 ≠ d) (tp : Tups H H') (k : ∀ b u, b ≠ d → H b = some u → H' b = some u) : Sg t H' p d1 d2 n so ho :=
  ⟨let ⟨dx, e⟩ := g.ins; ⟨dx, k _ _ h1 e⟩, g.so.keep tp (fun u e => k _ _ h2 e), g.ho.keep (fun u e => k _ _ h3 e)⟩
theorem Sg.same {t : Adr} {H H' : Hp} {p d1 d2 : Addr} {n : Nat} {so : Str → Option Seat} {ho : Seat → Option Str} (g : Sg t H p d1 d2 n so ho) (s : Same H H') : Sg t H' p d1 d2 n so ho :=
  ⟨let ⟨dx, e⟩ := g.ins; ⟨dx, s _ _ e⟩, g.so.keep (Same.tups s) (fun u e => s _ _ e), g.ho.keep (fun u e => s _ _ e)⟩
theorem Sg.le {t : Adr} {H : Hp} {p d1 d2 : Addr} {n k : Nat} {so : Str → Option Seat} {ho : Seat → Option Str} (g : Sg t H p d1 d2 n so ho) (h : n ≤ k) : Sg t H p d1 d2 k so ho := ⟨g.ins, g.so.le h, g.ho.le h⟩
def KB (H H' : Hp) (d1 d2 : Addr) : Prop := ∀ b u, b ≠ d1 → b ≠ d2 → H b = some u → H' b = some u
def spSeInit (t : Adr) : Sp := fun vs H Q _ => ∃ (p dx : Addr), vs = [.ref p] ∧ H p = some (.ins t.C_Seating dx []) ∧ ∀ H' d1 d2, H d1 = none → H d2 = none → (∀ b u, b ≠ p → H b = some u → H' b = some u) → Sg t H' p d1 d2 0 (fun _ => none) (fun _ => none) → Q .non H'
structure Chain (room : Str → List Seat) (so : Str → Option Seat) (asked : Seat → Option Str) (rk : Str → Nat) (name : Str) : Prop where
  rm : ∀ s a, asked s = some a → s ∈ room a
  no : ∀ s a, asked s = some a → so a = none → a = name
  up : ∀ s a, asked s = some a → ∀ s1, so a = some s1 → ∃ a1, asked s1 = some a1 ∧ rk a1 < rk a
  le : ∀ s a, asked s = some a → rk a ≤ 20
def spHand (t : Adr) : Sp := fun vs H Q _ => ∃ (p d1 d2 d3 q : Addr) (n m : Nat) (room : Str → List Seat) (so : Str → Option Seat) (ho asked : Seat → Option Str) (rk : Str → Nat) (name a : Str) (s : Seat), vs = [.ref p, .ref d3, .ref q] ∧ H q = some (.tup (seatV s)) ∧ Sg t H p d1 d2 n so ho ∧ HoD H d3 m asked ∧ d3 ≠ d2 ∧ n ≤ 600 ∧ Kp.Mt room so ho ∧ ho s = none ∧ asked s = some a ∧ Chain room so asked rk name ∧
  ∀ H' so' ho', KB H H' d1 d2 → (∀ b, H b = none → H' b = none) → Sg t H' p d1 d2 (n + 30) so' ho' → Kp.Mt room so' ho' → (∀ z, (so' z).isSome = (decide (z = name) || (so z).isSome)) → Kp.Rch (Kp.kstep room so ho) (.hand so ho asked s) (.fin so' ho') → Q .non H'
section
variable {P : Program} {w : World} {K : PySem.W.Frag} {mg : Str → Option Value} {base : Heap} {t : Adr}
theorem ok_Seating_init (T : Txt w K mg t) : FnOk true P w K mg base (CXo P w) 1 t.f_Seating_init t.d_Seating_init ["self"] (spSeInit t) := by
  refine T.F_Seating_init.okn (k := 0) sc_Seating_init (fun vs H Q E h => ?_) (fun cdv A outer s H vs Q E hr h => ?_)
  · obtain ⟨p, dx, rfl, _⟩ := h
    rfl
  · obtain ⟨p, dx, rfl, h⟩ := h
    refine ⟨_, pss_cons (ps_fld (pv 0) (pe_dnewK) rfl)
      (pss_one (ps_fld (pv 0) (pe_dnewT) rfl)), ?_⟩
    obtain ⟨hp, q⟩ := h
    refine fun d1 hd1 => ?_
    have n1 : p ≠ d1 := ne_of_none hp hd1
    refine ⟨_, rfl, p, _, dx, _, rfl, (by rw [upd_ne n1]; exact hp), T.c_Seating, T.n_Seating_seat_of, (by show 0 < 1000; decide), fun d2 hd2 => ?_⟩
    have n2 : p ≠ d2 := ne_of_none upd_same hd2
    have n3 : d1 ≠ d2 := ne_of_none (by rw [upd_ne (Ne.symm n1)]; exact upd_same) hd2
    refine ⟨_, rfl, p, _, dx, _, rfl, (by rw [upd_ne n2]; exact upd_same), T.c_Seating, T.n_Seating_holder_of, (by show 1 < 1000; decide), ?_⟩
    have hd2' : H d2 = none := by
      have z := hd2
      rw [upd_ne (Ne.symm n2), upd_ne (Ne.symm n3)] at z
      exact z
    refine q _ d1 d2 hd1 hd2' (fun b u nb e => ?_) ⟨⟨dx, upd_same⟩, ⟨[], ?_, Nat.le_refl _, fun nm => ⟨fun _ => rfl, fun s z => (nomatch z)⟩⟩, ⟨[], ?_, Nat.le_refl _, fun s => rfl⟩⟩
    · rw [upd_ne nb, upd_ne (ne_of_none e hd2'), upd_ne nb, upd_ne (ne_of_none e hd1)]
      exact e
    · rw [upd_ne (Ne.symm n1), upd_ne n3, upd_ne (Ne.symm n1)]
      exact upd_same
    · rw [upd_ne (Ne.symm n2)]
      exact upd_same
theorem ok_Seating_hand_on (T : Txt w K mg t) : FnOk true P w K mg base (CXo P w) 1 t.f_Seating_hand_on t.d_Seating_hand_on ["self", "asked_by", "free_seat"] (spHand t) := by
  refine T.F_Seating_hand_on.okn (k := 0) sc_Seating_hand_on (fun vs H Q E h => ?_) (fun cdv A outer s H vs Q E hr h => ?_)
  · obtain ⟨p, d1, d2, d3, q0, n, m, room, so, ho, asked, rk, name, a0, s0, rfl, _⟩ := h
    rfl
  · obtain ⟨p, d1, d2, d3, q0, n, m, room, so, ho, asked, rk, name, a0, s0, rfl, h⟩ := h
    refine ⟨_, pss_cons (ps_set (i := 3) sc_Seating_hand_on.nd rfl (Or.inl rfl) (pv 2))
      (pss_one (ps_while PassesOwn.never (pt_cmpR op_notN (pv 3) (pe_non) (nomark _)) (pss_cons (ps_set (i := 4) sc_Seating_hand_on.nd rfl (Or.inl rfl) (pe_dget (hu_of hr) (pv 1) (pv 3) (fun _ _ => rfl)))
      (pss_cons (ps_set (i := 5) sc_Seating_hand_on.nd rfl (Or.inl rfl) (pe_dget1 (hu_of hr) (pe_fld (pv 0) rfl) (pv 4) ⟨rfl, rfl, rfl, rfl⟩))
      (pss_cons (ps_dput (hu_of hr) (pe_fld (pv 0) rfl) (pv 4) (pv 3) rfl)
      (pss_cons (ps_dput (hu_of hr) (pe_fld (pv 0) rfl) (pv 3) (pv 4) rfl)
      (pss_one (ps_set (i := 3) sc_Seating_hand_on.nd rfl (Or.inl rfl) (pv 5))))))))), ?_⟩
    obtain ⟨hq0, sg, had, n32, n600, mt, hs0, as0, ch, q⟩ := h
    refine ⟨_, rfl, ?_⟩
    refine ⟨fun k σ H1 => ∃ v3 v4 v5, σ = [some (.ref p), some (.ref d3), some (.ref q0), some v3, v4, v5] ∧ KB H H1 d1 d2 ∧ (∀ b, H b = none → H1 b = none) ∧ ((v3 = .non ∧ k = 0 ∧ ∃ so' ho', Sg t H1 p d1 d2 (n + 30) so' ho' ∧ Kp.Mt room so' ho' ∧ (∀ z, (so' z).isSome = (decide (z = name) || (so z).isSome)) ∧ Kp.Rch (Kp.kstep room so ho) (.hand so ho asked s0) (.fin so' ho')) ∨ ∃ (qs : Addr) (s : Seat) (a : Str) (so1 : Str → Option Seat) (ho1 : Seat → Option Str) (n1 : Nat), v3 = .ref qs ∧ H1 qs = some (.tup (seatV s)) ∧ asked s = some a ∧ k = rk a + 1 ∧ Kp.Hand room (fun z => (so z).isSome) so1 ho1 s ∧ (∀ b, rk b ≤ rk a → so1 b = so b) ∧ Sg t H1 p d1 d2 n1 so1 ho1 ∧ n1 + rk a ≤ n + 20 ∧ Kp.Rch (Kp.kstep room so ho) (.hand so ho asked s0) (.hand so1 ho1 asked s)), ⟨rk a0 + 1, _, _, _, rfl, fun b u _ _ e => e, fun b e => e, .inr ⟨q0, s0, a0, so, ho, n, rfl, hq0, as0, rfl, mt.hand hs0, fun _ _ => rfl, sg, (by have := ch.le _ _ as0; omega), .refl _⟩⟩, ?_⟩
    rintro k σ H1 ⟨v3, v4, v5, rfl, kb, fr, cs⟩
    refine ⟨_, rfl, rfl, _, rfl, ?_⟩
    rcases cs with ⟨rfl, rfl, so', ho', sg', mt', dm', rc'⟩ | ⟨qs, s, a, so1, ho1, n1, rfl, hqs, asd, rfl, hand, low, sg1, nb, rc1⟩
    · exact ifN (by decide) (q H1 so' ho' kb fr sg' mt' dm' rc')
    · refine ifP (by rw [decide_eq_false (fun z => nomatch z)]; rfl) ⟨fun σ' H' => ∃ k', k' < rk a + 1 ∧ ∃ v3 v4 v5, σ' = [some (.ref p), some (.ref d3), some (.ref q0), some v3, v4, v5] ∧ KB H H' d1 d2 ∧ (∀ b, H b = none → H' b = none) ∧ ((v3 = .non ∧ k' = 0 ∧ ∃ so' ho', Sg t H' p d1 d2 (n + 30) so' ho' ∧ Kp.Mt room so' ho' ∧ (∀ z, (so' z).isSome = (decide (z = name) || (so z).isSome)) ∧ Kp.Rch (Kp.kstep room so ho) (.hand so ho asked s0) (.fin so' ho')) ∨ ∃ (qs : Addr) (s : Seat) (a : Str) (so1 : Str → Option Seat) (ho1 : Seat → Option Str) (n1 : Nat), v3 = .ref qs ∧ H' qs = some (.tup (seatV s)) ∧ asked s = some a ∧ k' = rk a + 1 ∧ Kp.Hand room (fun z => (so z).isSome) so1 ho1 s ∧ (∀ b, rk b ≤ rk a → so1 b = so b) ∧ Sg t H' p d1 d2 n1 so1 ho1 ∧ n1 + rk a ≤ n + 20 ∧ Kp.Rch (Kp.kstep room so ho) (.hand so ho asked s0) (.hand so1 ho1 asked s)), fun σ' H' z => z, ?_⟩
      obtain ⟨dx1, hp1⟩ := sg1.ins
      obtain ⟨ka, hka, _⟩ := id had
      obtain ⟨k1, hk1, _⟩ := id sg1.so
      obtain ⟨k2, hk2, _⟩ := id sg1.ho
      obtain ⟨k10, hk10, _⟩ := id sg.so
      obtain ⟨k20, hk20, _⟩ := id sg.ho
      have n31 : d3 ≠ d1 := ne_of hka hk10 (fun z => nomatch z)
      have n12 : d1 ≠ d2 := ne_of hk1 hk2 (fun z => nomatch z)
      have had1 := had.keep (H' := H1) (fun u e => kb _ _ n31 n32 e)
      have gt := had1.get hqs
      rw [asd] at gt
      refine ⟨_, rfl, _, rfl, d3, .str a, rfl, gt, ?_⟩
      have lowa := low a (Nat.le_refl _)
      have rma := ch.rm _ _ asd
      have np1 : p ≠ d1 := ne_of hp1 hk1 (fun z => nomatch z)
      have np2 : p ≠ d2 := ne_of hp1 hk2 (fun z => nomatch z)
      -- the two puts
      obtain ⟨H2, dp2, so2, kk2, tp2, fr2⟩ := sg1.so.put (by omega) hqs a
      have hp2 := kk2 _ _ np1 hp1
      have hqs2 := tp2 _ _ hqs
      have ho2 := sg1.ho.keep (H' := H2) (fun u e => kk2 _ _ (Ne.symm n12) e)
      obtain ⟨H3, dp3, ho3, kk3, tp3, fr3⟩ := ho2.put (by omega) hqs2 a
      have so3 := so2.keep tp3 (fun u e => kk3 _ _ n12 e)
      have hp3 := kk3 _ _ np2 hp2
      have kb3 : KB H H3 d1 d2 := fun b u b1 b2 e => kk3 _ _ b2 (kk2 _ _ b1 (kb _ _ b1 b2 e))
      have fr03 : ∀ b, H b = none → H3 b = none := fun b e => fr3 _ (fr2 _ (fr _ e))
      have sg3 : Sg t H3 p d1 d2 (n1 + 1) (Kp.upd1 so1 a s) (Kp.upd1 ho1 s a) := ⟨⟨dx1, hp3⟩, so3, ho3⟩
      rcases sg1.so.get a with ⟨e0, g0⟩ | ⟨s1, q1, e1, g1, hq1⟩
      · refine ⟨_, rfl, p, _, dx1, _, _, rfl, hp1, T.c_Seating, T.n_Seating_seat_of, lkSo, d1, rfl, .inl ⟨k1, .inl hk1⟩, _, rfl, none, g0, ?_⟩
        refine ⟨_, rfl, _, rfl, p, _, dx1, _, _, rfl, hp1, T.c_Seating, T.n_Seating_seat_of, lkSo, _, rfl, d1, H2, rfl, dp2, ?_⟩
        refine ⟨_, rfl, _, rfl, p, _, dx1, _, _, rfl, hp2, T.c_Seating, T.n_Seating_holder_of, lkHo, _, rfl, d2, H3, rfl, dp3, ?_⟩
        have an : a = name := ch.no _ _ asd (by rw [← lowa]; exact e0)
        obtain ⟨mt3, dm3⟩ := hand.last rma e0
        exact ⟨_, rfl, 0, by omega, _, _, _, rfl, kb3, fr03, .inl ⟨rfl, rfl, _, _, sg3.le (by omega), mt3, (fun z => by rw [dm3 z, an]), .step rc1 (Kp.k_fin asd e0)⟩⟩
      · refine ⟨_, rfl, p, _, dx1, _, _, rfl, hp1, T.c_Seating, T.n_Seating_seat_of, lkSo, d1, rfl, .inl ⟨k1, .inl hk1⟩, _, rfl, some (.ref q1), g1, ?_⟩
        refine ⟨_, rfl, _, rfl, p, _, dx1, _, _, rfl, hp1, T.c_Seating, T.n_Seating_seat_of, lkSo, _, rfl, d1, H2, rfl, dp2, ?_⟩
        refine ⟨_, rfl, _, rfl, p, _, dx1, _, _, rfl, hp2, T.c_Seating, T.n_Seating_holder_of, lkHo, _, rfl, d2, H3, rfl, dp3, ?_⟩
        obtain ⟨a1, as1, lt⟩ := ch.up _ _ asd s1 (by rw [← lowa]; exact e1)
        refine ⟨_, rfl, rk a1 + 1, by omega, _, _, _, rfl, kb3, fr03, .inr ⟨q1, s1, a1, _, _, n1 + 1, rfl, tp3 _ _ (tp2 _ _ hq1), as1, rfl, hand.step rma e1, fun b hb => ?_, sg3, by omega, .step rc1 (Kp.k_hand asd e1)⟩⟩
        have nba : b ≠ a := fun z => by rw [z] at hb; omega
        show Kp.upd1 so1 a s b = so b
        unfold Kp.upd1
        rw [if_neg nba]
        exact low b (by omega)
end
end S34
set_option maxRecDepth 100000
set_option maxHeartbeats 4000000
namespace S34
open PySem L2 XL PyProof.Rows
structure Bf (room : Str → List Seat) (ho : Seat → Option Str) (name : Str) (crowd : List Str) (al : List Seat) (asked : Seat → Option Str) : Prop where
  cr : crowd.length = al.length + 1
  c0 : crowd[0]? = some name
  hd : ∀ (j : Nat) (s : Seat), al[j]? = some s → ∃ h, crowd[j + 1]? = some h ∧ ho s = some h
  nd : al.Nodup
  no : ∀ s, s ∉ al → asked s = none
  ak : ∀ (j : Nat) (s : Seat), al[j]? = some s → ∃ k a, k ≤ j ∧ crowd[k]? = some a ∧ asked s = some a ∧ s ∈ room a
theorem nd_ix {α : Type} {l : List α} (nd : l.Nodup) {i j : Nat} (hi : i < l.length) (hj : j < l.length) (e : l[i] = l[j]) : i = j := by
  rcases Nat.lt_trichotomy i j with h | h | h
  · exact absurd e (List.pairwise_iff_getElem.mp nd i j hi hj h)
  · exact h
  · exact absurd e.symm (List.pairwise_iff_getElem.mp nd j i hj hi h)
section
variable {room : Str → List Seat} {so : Str → Option Seat} {ho asked : Seat → Option Str} {name : Str} {crowd : List Str} {al : List Seat}
theorem Bf.start : Bf room ho name [name] [] (fun _ => none) := ⟨rfl, rfl, fun j s e => by simp at e, List.nodup_nil, fun _ _ => rfl, fun j s e => by simp at e⟩
theorem Bf.at_ (b : Bf room ho name crowd al asked) (mt : Kp.Mt room so ho) {k : Nat} {a : Str} (e : crowd[k]? = some a) : (k = 0 ∧ a = name) ∨ ∃ j s, k = j + 1 ∧ al[j]? = some s ∧ so a = some s := by
  cases k with
  | zero =>
    left
    rw [b.c0] at e
    exact ⟨rfl, (Option.some.inj e).symm⟩
  | succ j =>
    right
    have lt : j < al.length := by
      have := (List.getElem?_eq_some_iff.mp e).1
      have := b.cr
      omega
    obtain ⟨h, e1, e2⟩ := b.hd j _ (List.getElem?_eq_getElem lt)
    rw [e] at e1
    cases e1
    exact ⟨j, _, rfl, List.getElem?_eq_getElem lt, (mt.iff _ _).mpr e2⟩
theorem Bf.inj (b : Bf room ho name crowd al asked) (mt : Kp.Mt room so ho) (sn : so name = none) {k l : Nat} {a : Str} (e : crowd[k]? = some a) (e' : crowd[l]? = some a) : k = l := by
  rcases b.at_ mt e with ⟨rfl, rfl⟩ | ⟨j, s, rfl, h1, h2⟩ <;> rcases b.at_ mt e' with ⟨rfl, h⟩ | ⟨j', s', rfl, h1', h2'⟩
  · rfl
  · rw [sn] at h2'
    cases h2'
  · rw [h, sn] at h2
    cases h2
  · rw [h2] at h2'
    cases h2'
    obtain ⟨x, hx⟩ := List.getElem?_eq_some_iff.mp h1
    obtain ⟨y, hy⟩ := List.getElem?_eq_some_iff.mp h1'
    have := (nd_ix b.nd x y (by rw [hx, hy]))
    omega
theorem Bf.nodup (b : Bf room ho name crowd al asked) (mt : Kp.Mt room so ho) (sn : so name = none) : crowd.Nodup := by
  refine List.pairwise_iff_getElem.mpr fun i j hi hj lt e => ?_
  have := b.inj mt sn (List.getElem?_eq_getElem hi) (by rw [e]; exact List.getElem?_eq_getElem hj)
  omega
theorem Bf.add (b : Bf room ho name crowd al asked) {i : Nat} {a h : Str} {s : Seat} (ea : crowd[i]? = some a) (ra : s ∈ room a) (ns : s ∉ al) (hh : ho s = some h) : Bf room ho name (crowd ++ [h]) (al ++ [s]) (Kp.upd1 asked s a) := by
  have cr := b.cr
  have il := (List.getElem?_eq_some_iff.mp ea).1
  have lft : ∀ {k : Nat} {x : Str}, crowd[k]? = some x → (crowd ++ [h])[k]? = some x := fun {k x} e => by
    rw [List.getElem?_append_left (List.getElem?_eq_some_iff.mp e).1]
    exact e
  refine ⟨by rw [List.length_append, List.length_append, cr]; rfl, lft b.c0, fun j z e => ?_, ?_, fun z nz => ?_, fun j z e => ?_⟩
  · by_cases c : j < al.length
    · rw [List.getElem?_append_left c] at e
      obtain ⟨h', e1, e2⟩ := b.hd j z e
      exact ⟨h', lft e1, e2⟩
    · have jl := (List.getElem?_eq_some_iff.mp e).1
      rw [List.length_append, List.length_singleton] at jl
      have : j = al.length := by omega
      subst this
      rw [List.getElem?_append_right (Nat.le_refl _), Nat.sub_self] at e
      cases e
      refine ⟨h, ?_, hh⟩
      rw [← cr, List.getElem?_append_right (Nat.le_refl _), Nat.sub_self]
      rfl
  · rw [List.nodup_append]
    exact ⟨b.nd, by simp, fun x hx y hy e => ns (by rw [List.mem_singleton.mp hy] at e; exact e ▸ hx)⟩
  · unfold Kp.upd1
    rw [if_neg (fun e => nz (by rw [e]; exact List.mem_append_right _ (List.mem_singleton.mpr rfl)))]
    exact b.no z fun y => nz (List.mem_append_left _ y)
  · by_cases c : j < al.length
    · rw [List.getElem?_append_left c] at e
      obtain ⟨k, x, e1, e2, e3, e4⟩ := b.ak j z e
      refine ⟨k, x, e1, lft e2, ?_, e4⟩
      unfold Kp.upd1
      rw [if_neg (fun y => ns (by rw [← y]; exact List.mem_of_getElem? e))]
      exact e3
    · have jl := (List.getElem?_eq_some_iff.mp e).1
      rw [List.length_append, List.length_singleton] at jl
      have : j = al.length := by omega
      subst this
      rw [List.getElem?_append_right (Nat.le_refl _), Nat.sub_self] at e
      cases e
      refine ⟨i, a, by omega, lft ea, ?_, ra⟩
      unfold Kp.upd1
      rw [if_pos rfl]
theorem Bf.chain (b : Bf room ho name crowd al asked) (mt : Kp.Mt room so ho) (sn : so name = none) (c20 : crowd.length ≤ 20) {i : Nat} {a : Str} {s : Seat} (ea : crowd[i]? = some a) (ra : s ∈ room a) (ns : s ∉ al) : Chain room so (Kp.upd1 asked s a) (fun z => crowd.idxOf z) name := by
  have ix : ∀ {k : Nat} {x : Str}, crowd[k]? = some x → crowd.idxOf x = k := fun {k x} e => by
    have m := List.mem_of_getElem? e
    have lt := List.idxOf_lt_length_of_mem m
    refine b.inj mt sn (a := x) ?_ e
    rw [List.getElem?_eq_getElem lt, List.getElem_idxOf]
  have key : ∀ s' a', Kp.upd1 asked s a s' = some a' → s' ∈ room a' ∧ ∃ k, crowd[k]? = some a' := fun s' a' e => by
    unfold Kp.upd1 at e
    split at e
    · rename_i h
      cases e
      rw [h]
      exact ⟨ra, i, ea⟩
    · by_cases h : s' ∈ al
      · obtain ⟨j, hj, ej⟩ := List.getElem_of_mem h
        obtain ⟨k, x, e1, e2, e3, e4⟩ := b.ak j s' (by rw [List.getElem?_eq_getElem hj, ej])
        rw [e] at e3
        cases e3
        exact ⟨e4, k, e2⟩
      · rw [b.no s' h] at e
        cases e
  refine ⟨fun s' a' e => (key s' a' e).1, fun s' a' e z => ?_, fun s' a' e s1 z => ?_, fun s' a' e => ?_⟩
  · obtain ⟨_, k, ek⟩ := key s' a' e
    rcases b.at_ mt ek with ⟨_, h⟩ | ⟨j, s2, _, _, h⟩
    · exact h
    · rw [z] at h
      cases h
  · obtain ⟨_, k, ek⟩ := key s' a' e
    rcases b.at_ mt ek with ⟨_, h⟩ | ⟨j, s2, rfl, hj, h⟩
    · rw [h, sn] at z
      cases z
    · rw [z] at h
      cases h
      obtain ⟨k2, a2, e1, e2, e3, _⟩ := b.ak j s1 hj
      refine ⟨a2, ?_, ?_⟩
      · unfold Kp.upd1
        rw [if_neg (fun y => ns (by rw [← y]; exact List.mem_of_getElem? hj))]
        exact e3
      · show crowd.idxOf a2 < crowd.idxOf a'
        rw [ix e2, ix ek]
        omega
  · obtain ⟨_, k, ek⟩ := key s' a' e
    show crowd.idxOf a' ≤ 20
    rw [ix ek]
    have := (List.getElem?_eq_some_iff.mp ek).1
    omega
theorem Bf.done (b : Bf room ho name crowd al asked) (mt : Kp.Mt room so ho) (sn : so name = none) (all : ∀ (k : Nat) (a : Str), crowd[k]? = some a → ∀ s ∈ room a, s ∈ al) : ∃ hs, crowd = name :: hs ∧ Kp.Crowd room so name hs := by
  have nd := b.nodup mt sn
  cases crowd with
  | nil =>
    have := b.c0
    simp at this
  | cons x hs =>
    have e0 := b.c0
    rw [List.getElem?_cons_zero] at e0
    cases e0
    refine ⟨hs, rfl, nd, fun h hh => ?_, fun c hc s hs' => ?_⟩
    · obtain ⟨j, hj, ej⟩ := List.getElem_of_mem hh
      have e : (name :: hs)[j + 1]? = some h := by
        rw [List.getElem?_cons_succ, List.getElem?_eq_getElem hj, ej]
      rcases b.at_ mt e with ⟨z, _⟩ | ⟨_, s, _, _, z⟩
      · omega
      · rw [z]
        rfl
    · obtain ⟨k, hk, ek⟩ := List.getElem_of_mem hc
      have sal := all k c (by rw [List.getElem?_eq_getElem hk, ek]) s hs'
      obtain ⟨j, hj, ej⟩ := List.getElem_of_mem sal
      obtain ⟨h, e1, e2⟩ := b.hd j s (by rw [List.getElem?_eq_getElem hj, ej])
      rw [List.getElem?_cons_succ] at e1
      exact ⟨h, List.mem_of_getElem? e1, (mt.iff _ _).mpr e2⟩
end
def RmD (H : Hp) (d : Addr) (names : List Str) (room : Str → List Seat) : Prop := ∃ kvs : List (Key × V), H d = some (.dK kvs) ∧ ∀ nm ∈ names, ∃ l rs, valV kvs (.inr nm) = some (.ref l) ∧ H l = some (.lst (rs.map V.ref)) ∧ SeatsL H (room nm) rs
def spCrowd (t : Adr) : Sp := fun vs H Q _ => ∃ (p d1 d2 rm : Addr) (n : Nat) (room : Str → List Seat) (so : Str → Option Seat) (ho : Seat → Option Str) (names : List Str) (name : Str), vs = [.ref p, .str name, .ref rm] ∧ Sg t H p d1 d2 n so ho ∧ n ≤ 600 ∧ Kp.Mt room so ho ∧ so name = none ∧ RmD H rm names room ∧ rm ≠ d1 ∧ (∀ z, (so z).isSome → z ∈ names) ∧ name ∈ names ∧ names.length ≤ 12 ∧ (∀ z, (room z).length ≤ 32) ∧
  (∀ H' l so' ho', KB H H' d1 d2 → H l = none → H' l = some (.lst []) → Sg t H' p d1 d2 (n + 30) so' ho' → Kp.Mt room so' ho' → (∀ z, (so' z).isSome = (decide (z = name) || (so z).isSome)) → Kp.Rch (Kp.kstep room so ho) (.ask [name] (fun _ => none) 0 0) (.fin so' ho') → Q (.ref l) H') ∧
  ∀ H' l hs, Same H H' → H l = none → H' l = some (.lst ((name :: hs).map V.str)) → Kp.Crowd room so name hs → Kp.Rch (Kp.kstep room so ho) (.ask [name] (fun _ => none) 0 0) (.out (name :: hs)) → Q (.ref l) H'
def ICr (t : Adr) (H : Hp) (p d1 d2 rm lc da : Addr) (n : Nat) (room : Str → List Seat) (so : Str → Option Seat) (ho : Seat → Option Str) (name : Str) (i j : Nat) (crowd : List Str) (al : List Seat) (asked : Seat → Option Str) (H1 : Hp) : Prop :=
  Same H H1 ∧ H1 lc = some (.lst (crowd.map V.str)) ∧ HoD H1 da al.length asked ∧ Bf room ho name crowd al asked ∧ (∀ (k : Nat) (a : Str), k < i → crowd[k]? = some a → ∀ s ∈ room a, s ∈ al) ∧ Kp.Rch (Kp.kstep room so ho) (.ask [name] (fun _ => none) 0 0) (.ask crowd asked i j)
section
variable {P : Program} {w : World} {K : PySem.W.Frag} {mg : Str → Option Value} {base : Heap} {t : Adr}
theorem ok_Seating_crowd_with (T : Txt w K mg t) : FnOk true P w K mg base (CXo P w) 2 t.f_Seating_crowd_with t.d_Seating_crowd_with ["self", "name", "rooms"] (spCrowd t) := by
  refine T.F_Seating_crowd_with.okn (k := 1) sc_Seating_crowd_with (fun vs H Q E h => ?_) (fun cdv A outer s H vs Q E hr h => ?_)
  · obtain ⟨p, d1, d2, rm, n, room, so, ho, names, name, rfl, _⟩ := h
    rfl
  · obtain ⟨p, d1, d2, rm, n, room, so, ho, names, name, rfl, h⟩ := h
    refine ⟨_, pss_cons (ps_set (i := 3) sc_Seating_crowd_with.nd rfl (Or.inl rfl) (pe_lst (pa_cons (pv 1) (pa_nil))))
      (pss_cons (ps_set (i := 4) sc_Seating_crowd_with.nd rfl (Or.inl rfl) (pe_dnewT))
      (pss_cons (ps_set (i := 5) sc_Seating_crowd_with.nd rfl (Or.inl rfl) (pe_int))
      (pss_cons (ps_while PassesOwn.never (pt_cmpR op_lt (pv 5) (pe_callB call_len_seq rfl T.n_len boot_len (pa_cons (pv 3) (pa_nil))) (nomark _)) (pss_cons (ps_set (i := 6) sc_Seating_crowd_with.nd rfl (Or.inl rfl) (pe_ix ix_list (pv 3) (pv 5) (fun _ _ => rfl)))
      (pss_cons (ps_for PassesOwn.never rfl (pi_list (pe_dget (hu_of hr) (pv 2) (pv 6) (fun _ _ => rfl))) (pg_name (i := 7) sc_Seating_crowd_with.nd rfl (Or.inl rfl)) (pss_one (ps_if (pt_cmp (pc_dnotin (hu_of hr) (pv 7) (pv 4))) (pss_cons (ps_dput (hu_of hr) (pv 4) (pv 7) (pv 6) rfl)
      (pss_cons (ps_if (pt_cmp (pc_dnotin (hu_of hr) (pv 7) (pe_fld (pv 0) rfl))) (pss_cons (ps_expr (pe_meth (pv 0) T.c_Seating T.m_Seating_hand_on (ok_Seating_hand_on T) (hr.mono (by decide)) T.b_Seating_hand_on .nil pass_none (pa_cons (pv 4) (pa_cons (pv 7) (pa_nil)))))
      (pss_one (ps_ret (pe_lst (pa_nil))))) (pss_nil))
      (pss_one (ps_expr (pe_bm PySem.F.plainAttrs_list PySem.F.slot_list_append PySem.F.type_list_append mt_append (pv 3) (pa_cons (pe_dget (hu_of hr) (pe_fld (pv 0) rfl) (pv 7) (fun _ _ => rfl)) (pa_nil))))))) (pss_nil))))
      (pss_one (ps_aug (i := 5) sc_Seating_crowd_with.nd rfl (Or.inl rfl) (pe_int) iop_add)))))
      (pss_one (ps_ret (pv 3)))))), ?_⟩
    obtain ⟨sg, n600, mt, sn, rmd, nrm, dom, nin, n12, r32, qA, qB⟩ := h
    refine ⟨_, rfl, (by show 1 ≤ sizeLine; decide), fun lc hlc => ?_⟩
    have s1 : Same H (upd H lc (.lst [.str name])) := same_upd (Same.refl _) hlc
    have g1 : upd H lc (.lst [.str name]) lc = some (.lst [.str name]) := upd_same
    revert s1 g1
    generalize upd H lc (.lst [.str name]) = H1
    intro s1 g1
    refine fun da hda => ?_
    have s2 : Same H1 (upd H1 da (.dT [])) := same_upd (Same.refl _) hda
    have g2 : upd H1 da (.dT []) da = some (.dT []) := upd_same
    revert s2 g2
    generalize upd H1 da (.dT []) = H2
    intro s2 g2
    have fda := s1.free hda
    have s02 := s1.trans s2
    have ncd : lc ≠ da := ne_of_none g1 hda
    have cl12 : ∀ {crowd : List Str} {al : List Seat} {asked : Seat → Option Str}, Bf room ho name crowd al asked → crowd.length ≤ 12 := fun {crowd al asked} b => by
      refine Nat.le_trans ((b.nodup mt sn).length_le_of_subset (l₂ := names) fun x hx => ?_) n12
      obtain ⟨k, hk, ek⟩ := List.getElem_of_mem hx
      rcases b.at_ mt (show crowd[k]? = some x by rw [List.getElem?_eq_getElem hk, ek]) with ⟨_, e⟩ | ⟨j, s, _, _, e⟩
      · rw [e]
        exact nin
      · exact dom x (by rw [e]; rfl)
    refine ⟨fun m σ H3 => ∃ (i : Nat) (crowd : List Str) (al : List Seat) (asked : Seat → Option Str) (v6 v7 : Option V), m + i = 13 ∧ i ≤ crowd.length ∧ σ = [some (.ref p), some (.str name), some (.ref rm), some (.ref lc), some (.ref da), some (.int (i : Int)), v6, v7] ∧ ICr t H p d1 d2 rm lc da n room so ho name i 0 crowd al asked H3, ⟨13, 0, [name], [], fun _ => none, _, _, rfl, Nat.zero_le _, rfl, s02, s2 _ _ g1, ⟨[], g2, Nat.le_refl _, fun _ => rfl⟩, .start, (fun k a z => by omega), .refl _⟩, ?_⟩
    rintro m σ H3 ⟨i, crowd, al, asked, v6, v7, mi, il, rfl, s3, hlc3, had3, bf, cov, rc3⟩
    have c12 := cl12 bf
    refine ⟨_, rfl, _, rfl, lc, _, rfl, .inl (SqL.of hlc3), _, _, rfl, rfl, _, rfl, ite2 (fun y => ?_) (fun y => ?_)⟩
    · have ic : i < crowd.length := by
        have z := of_decide_eq_true y
        rw [List.length_map] at z
        omega
      refine ⟨fun σ' H' => ∃ m', m' < m ∧ ∃ (i : Nat) (crowd : List Str) (al : List Seat) (asked : Seat → Option Str) (v6 v7 : Option V), m' + i = 13 ∧ i ≤ crowd.length ∧ σ' = [some (.ref p), some (.str name), some (.ref rm), some (.ref lc), some (.ref da), some (.int (i : Int)), v6, v7] ∧ ICr t H p d1 d2 rm lc da n room so ho name i 0 crowd al asked H', fun σ' H' z => z, ?_⟩
      obtain ⟨a, ea⟩ : ∃ a, crowd[i]? = some a := ⟨_, List.getElem?_eq_getElem ic⟩
      refine ⟨_, rfl, _, rfl, lc, _, _, .str a, rfl, rfl, SqL.of hlc3, atI_nat (by rw [List.getElem?_map, ea]; rfl), ?_⟩
      have ain : a ∈ names := by
        rcases bf.at_ mt ea with ⟨_, e⟩ | ⟨j, s, _, _, e⟩
        · rw [e]
          exact nin
        · exact dom a (by rw [e]; rfl)
      obtain ⟨kr, hkr, fr⟩ := id rmd
      obtain ⟨lr, rs, er, hlr, slr⟩ := fr a ain
      have gr := DGet.k (k := .inr a) (s3 _ _ hkr)
      rw [er] at gr
      refine ⟨_, rfl, _, rfl, rm, .ref lr, rfl, gr, lr, rfl, ⟨_, SqL.of (s3 _ _ hlr)⟩, ?_⟩
      have rll := slr.len
      refine for_list (xs := rs.map V.ref) (Pv := fun j σ H4 => ∃ (crowd : List Str) (al : List Seat) (asked : Seat → Option Str) (v7 : Option V), crowd[i]? = some a ∧ (∀ s ∈ (room a).take j, s ∈ al) ∧ σ = [some (.ref p), some (.str name), some (.ref rm), some (.ref lc), some (.ref da), some (.int (i : Int)), some (.str a), v7] ∧ ICr t H p d1 d2 rm lc da n room so ho name i j crowd al asked H4) ⟨crowd, al, asked, _, ea, (fun s hs => by rw [List.take_zero] at hs; exact nomatch hs), rfl, s3, hlc3, had3, bf, cov, rc3⟩ ?_ ?_ ?_
      · rintro j σ H4 _ ⟨_, _, _, _, _, _, rfl, s4, _⟩
        exact SqL.of (s4 _ _ hlr)
      · rintro j x σ H4 hx ⟨crowd, al, asked, v7, ea, tk, rfl, s4, hlc4, had4, bf, cov, rc4⟩
        rw [List.getElem?_map, Option.map_eq_some_iff] at hx
        obtain ⟨qs, hqs, rfl⟩ := hx
        obtain ⟨s, hs, hsq⟩ := slr.get hqs
        have hsq4 := s4 _ _ hsq
        have ra : s ∈ room a := List.mem_of_getElem? hs
        have c12 := cl12 bf
        have cr := bf.cr
        have tk1 : ∀ al' : List Seat, (∀ z ∈ al, z ∈ al') → s ∈ al' → ∀ z ∈ (room a).take (j + 1), z ∈ al' := fun al' h1 h2 z hz => by
          rw [List.take_add_one, hs] at hz
          rcases List.mem_append.mp hz with hz | hz
          · exact h1 _ (tk z hz)
          · have hz : z ∈ [s] := hz
            rw [List.mem_singleton.mp hz]
            exact h2
        refine ⟨_, rfl, _, rfl, da, _, rfl, had4.get hsq4, _, rfl, ite2 (fun y => ?_) (fun y => ?_)⟩
        · have ns : s ∉ al := fun z => by
            obtain ⟨k, hk, ek⟩ := List.getElem_of_mem z
            obtain ⟨_, x, _, _, e3, _⟩ := bf.ak k s (by rw [List.getElem?_eq_getElem hk, ek])
            rw [e3] at y
            exact absurd y (by simp)
          obtain ⟨H5, dp5, had5, k5, tp5, fr5⟩ := had4.put (by omega) hsq4 a
          refine ⟨_, rfl, _, rfl, _, rfl, da, H5, rfl, dp5, ?_⟩
          have sg4 := sg.same s4
          obtain ⟨dx4, hp4⟩ := sg4.ins
          obtain ⟨kq1, hkq1, _⟩ := id sg.so
          obtain ⟨kq2, hkq2, _⟩ := id sg.ho
          obtain ⟨dxp, hpp⟩ := sg.ins
          have sg5 : Sg t H5 p d1 d2 n so ho := sg4.keep (d := da) (ne_of_none hpp fda) (ne_of_none hkq1 fda) (ne_of_none hkq2 fda) tp5 k5
          have hp5 := k5 _ _ (ne_of_none hpp fda) hp4
          have hsq5 := tp5 _ _ hsq4
          have hlc5 := k5 _ _ ncd hlc4
          have s5 : Same H H5 := fun c u e => k5 _ _ (ne_of_none e fda) (s4 _ _ e)
          refine ⟨_, rfl, _, rfl, p, _, dx4, _, _, rfl, hp5, T.c_Seating, T.n_Seating_holder_of, lkHo, d2, _, rfl, sg5.ho.get hsq5, _, rfl, ite2 (fun y2 => ?_) (fun y2 => ?_)⟩
          · have hn : ho s = none := by
              cases e : ho s with
              | none => rfl
              | some h =>
                rw [e] at y2
                exact absurd y2 (by simp)
            refine ⟨_, rfl, p, dx4, _, rfl, hp5, lkS_no (by decide +kernel), _, rfl, _, rfl, p, d1, d2, da, qs, n, _, room, so, ho, _, _, name, a, s, rfl, hsq5, sg5, had5, Ne.symm (ne_of_none hkq2 fda), n600, mt, hn, by unfold Kp.upd1; rw [if_pos rfl], bf.chain mt sn (by omega) ea ra ns, fun H6 so' ho' kb6 fr6 sg6 mt6 dm6 rc6 => ?_⟩
            refine ⟨(by show 0 ≤ sizeLine; decide), fun l hl => ?_⟩
            have kb : KB H H6 d1 d2 := fun b u b1 b2 e => kb6 _ _ b1 b2 (s5 _ _ e)
            have hl0 : H l = none := by
              cases e : H l with
              | none => rfl
              | some u =>
                by_cases e1 : l = d1
                · obtain ⟨kz, hkz, _⟩ := sg6.so
                  rw [← e1, hl] at hkz
                  cases hkz
                · by_cases e2 : l = d2
                  · obtain ⟨kz, hkz, _⟩ := sg6.ho
                    rw [← e2, hl] at hkz
                    cases hkz
                  · rw [kb _ _ e1 e2 e] at hl
                    cases hl
            exact qA _ l so' ho' (fun b u b1 b2 e => by rw [upd_ne (ne_of_none e hl0)]; exact kb _ _ b1 b2 e) hl0 upd_same (sg6.same (same_upd (Same.refl _) hl)) mt6 dm6 ((Kp.Rch.step rc4 (Kp.k_free ea hs (bf.no s ns) hn)).trans rc6)
          · obtain ⟨h, eh⟩ : ∃ h, ho s = some h := by
              cases e : ho s with
              | none =>
                rw [e] at y2
                exact absurd rfl y2
              | some h => exact ⟨h, rfl⟩
            have gh := sg5.ho.get hsq5
            rw [eh] at gh
            refine ⟨_, rfl, .inl ⟨rfl, _, SqL.of hlc5⟩, _, rfl, p, _, dx4, _, _, rfl, hp5, T.c_Seating, T.n_Seating_holder_of, lkHo, _, rfl, d2, .str h, rfl, gh, lc, _, _, rfl, rfl, hlc5, ?_, ?_⟩
            · rw [List.length_map]
              exact Nat.lt_of_le_of_lt (by omega : _ ≤ 1000) (by decide)
            have kl : ∀ c u, c ≠ lc → H5 c = some u → upd H5 lc (.lst (crowd.map V.str ++ [.str h])) c = some u := fun c u nc e => by rw [upd_ne nc]; exact e
            refine ⟨crowd ++ [h], al ++ [s], _, _, ?_, tk1 _ (fun z hz => List.mem_append_left _ hz) (List.mem_append_right _ (List.mem_singleton.mpr rfl)), rfl, fun c u e => kl _ _ (ne_of_none e hlc) (s5 _ _ e), by rw [upd_same, List.map_append]; rfl, ?_, bf.add ea ra ns eh, fun k b hk eb z hz => ?_, .step rc4 (Kp.k_grow ea hs (bf.no s ns) eh)⟩
            · rw [List.getElem?_append_left (List.getElem?_eq_some_iff.mp ea).1]
              exact ea
            · rw [List.length_append, List.length_singleton]
              exact had5.keep (fun u e => kl _ _ (Ne.symm ncd) e)
            · have hkl : k < crowd.length := by
                have := (List.getElem?_eq_some_iff.mp ea).1
                omega
              rw [List.getElem?_append_left hkl] at eb
              exact List.mem_append_left _ (cov k b hk eb z hz)
        · have sin : s ∈ al := by
            by_cases z : s ∈ al
            · exact z
            · rw [bf.no s z] at y
              exact absurd rfl y
          obtain ⟨kk, hkk, ekk⟩ := List.getElem_of_mem sin
          obtain ⟨_, xx, _, _, e3, _⟩ := bf.ak kk s (by rw [List.getElem?_eq_getElem hkk, ekk])
          exact ⟨crowd, al, asked, _, ea, tk1 al (fun z hz => hz) sin, rfl, s4, hlc4, had4, bf, cov, .step rc4 (Kp.k_old ea hs e3)⟩
      · rintro σ H4 ⟨crowd, al, asked, v7, ea, tk, rfl, s4, hlc4, had4, bf, cov, rc4⟩
        rw [List.length_map, rll] at rc4
        rw [List.length_map, rll, List.take_of_length_le (Nat.le_refl _)] at tk
        have ic := (List.getElem?_eq_some_iff.mp ea).1
        refine ⟨_, rfl, _, _, rfl, rfl, m - 1, by omega, i + 1, crowd, al, asked, _, _, by omega, by omega, rfl, s4, hlc4, had4, bf, fun k b hk eb z hz => ?_, .step rc4 (Kp.k_next ea (List.getElem?_eq_none (Nat.le_refl _)))⟩
        by_cases c : k = i
        · subst c
          rw [ea] at eb
          cases eb
          exact tk z hz
        · exact cov k b (by omega) eb z hz
    · have ic : i = crowd.length := by
        by_cases z : i < crowd.length
        · exact absurd (decide_eq_true (by rw [List.length_map]; omega)) y
        · omega
      obtain ⟨hs, ec, cw⟩ := bf.done mt sn fun k a e z hz => cov k a (by have := (List.getElem?_eq_some_iff.mp e).1; omega) e z hz
      refine ⟨_, rfl, qB H3 lc hs s3 hlc (by rw [← ec]; exact hlc3) cw ?_⟩
      rw [← ec]
      exact .step rc3 (Kp.k_end (List.getElem?_eq_none (by omega)))
end
end S34
set_option maxRecDepth 100000
set_option maxHeartbeats 4000000
namespace S34
open PySem L2 XL PyProof.Rows
inductive Run (room : Str → List Seat) : List Str → (Str → Option Seat) → (Seat → Option Str) → List (Str × List Str) → Prop
  | nil : Run room [] (fun _ => none) (fun _ => none) []
  | inn {ns : List Str} {so so' : Str → Option Seat} {ho ho' : Seat → Option Str} {cs : List (Str × List Str)} {nm : Str} (r : Run room ns so ho cs) (mt : Kp.Mt room so' ho') (dm : ∀ z, (so' z).isSome = (decide (z = nm) || (so z).isSome)) (rc : Kp.Rch (Kp.kstep room so ho) (.ask [nm] (fun _ => none) 0 0) (.fin so' ho')) : Run room (ns ++ [nm]) so' ho' cs
  | out {ns : List Str} {so : Str → Option Seat} {ho : Seat → Option Str} {cs : List (Str × List Str)} {nm : Str} {hs : List Str} (r : Run room ns so ho cs) (c : Kp.Crowd room so nm hs) (rc : Kp.Rch (Kp.kstep room so ho) (.ask [nm] (fun _ => none) 0 0) (.out (nm :: hs))) : Run room (ns ++ [nm]) so ho (cs ++ [(nm, hs)])
theorem Run.mt {room : Str → List Seat} {ns : List Str} {so : Str → Option Seat} {ho : Seat → Option Str} {cs : List (Str × List Str)} (r : Run room ns so ho cs) : Kp.Mt room so ho := by
  induction r with
  | nil => exact ⟨fun n s => ⟨fun z => (nomatch z), fun z => (nomatch z)⟩, fun n s z => (nomatch z)⟩
  | inn _ mt _ _ _ => exact mt
  | out _ _ _ ih => exact ih
theorem Run.outs {room : Str → List Seat} {ns : List Str} {so : Str → Option Seat} {ho : Seat → Option Str} {cs : List (Str × List Str)} (r : Run room ns so ho cs) : (∀ z ∈ cs.map (·.1), z ∈ ns) ∧ cs.length ≤ ns.length := by
  induction r with
  | nil => exact ⟨fun _ z => (nomatch z), Nat.le_refl _⟩
  | inn _ _ _ _ ih => exact ⟨fun z hz => List.mem_append_left _ (ih.1 z hz), by rw [List.length_append]; have := ih.2; omega⟩
  | out _ _ _ ih =>
    refine ⟨fun z hz => ?_, by rw [List.length_append, List.length_append]; have := ih.2; simp; omega⟩
    rw [List.map_append] at hz
    rcases List.mem_append.mp hz with hz | hz
    · exact List.mem_append_left _ (ih.1 z hz)
    · exact List.mem_append_right _ hz
theorem Run.dom {room : Str → List Seat} {ns : List Str} {so : Str → Option Seat} {ho : Seat → Option Str} {cs : List (Str × List Str)} (r : Run room ns so ho cs) (nd : ns.Nodup) : ∀ z, (so z).isSome = (decide (z ∈ ns) && !decide (z ∈ cs.map (·.1))) := by
  induction r with
  | nil => intro z; rfl
  | @inn ns so so' ho ho' cs nm r mt dm rc ih =>
    intro z
    rw [List.nodup_append] at nd
    rw [dm z, ih nd.1 z]
    by_cases e : z = nm
    · subst e
      have h1 : z ∉ ns := fun h => nd.2.2 z h z (List.mem_singleton.mpr rfl) rfl
      have h2 : z ∉ cs.map (·.1) := fun h => h1 (r.outs.1 z h)
      simp [h2]
    · simp [e]
  | @out ns so ho cs nm hs r c rc ih =>
    intro z
    rw [List.nodup_append] at nd
    rw [ih nd.1 z]
    by_cases e : z = nm
    · subst e
      have h1 : z ∉ ns := fun h => nd.2.2 z h z (List.mem_singleton.mpr rfl) rfl
      simp [h1]
    · rw [List.map_append]
      have e1 : decide (z ∈ ns ++ [nm]) = decide (z ∈ ns) := by simp [e]
      have e2 : decide (z ∈ cs.map (·.1) ++ [(nm, hs)].map (·.1)) = decide (z ∈ cs.map (·.1)) := by
        rw [decide_eq_decide, List.mem_append]
        exact ⟨fun h => h.elim id fun h => absurd (List.mem_singleton.mp h) e, .inl⟩
      rw [e1, e2]
theorem Run.det {room : Str → List Seat} {l : List Str} {so : Str → Option Seat} {ho : Seat → Option Str} {cs : List (Str × List Str)} (r : Run room l so ho cs) : ∀ {so2 : Str → Option Seat} {ho2 : Seat → Option Str} {cs2 : List (Str × List Str)}, Run room l so2 ho2 cs2 → so = so2 ∧ ho = ho2 ∧ cs = cs2 := by
  have inv : ∀ {l : List Str} {so : Str → Option Seat} {ho : Seat → Option Str} {cs : List (Str × List Str)}, Run room l so ho cs → (l = [] ∧ so = (fun _ => none) ∧ ho = (fun _ => none) ∧ cs = []) ∨ (∃ ns nm so0 ho0, l = ns ++ [nm] ∧ Run room ns so0 ho0 cs ∧ Kp.Rch (Kp.kstep room so0 ho0) (.ask [nm] (fun _ => none) 0 0) (.fin so ho)) ∨ ∃ ns nm hs cs0, l = ns ++ [nm] ∧ Run room ns so ho cs0 ∧ Kp.Rch (Kp.kstep room so ho) (.ask [nm] (fun _ => none) 0 0) (.out (nm :: hs)) ∧ cs = cs0 ++ [(nm, hs)] := fun r => by
    cases r with
    | nil => exact .inl ⟨rfl, rfl, rfl, rfl⟩
    | inn r mt dm rc => exact .inr (.inl ⟨_, _, _, _, rfl, r, rc⟩)
    | out r c rc => exact .inr (.inr ⟨_, _, _, _, rfl, r, rc, rfl⟩)
  induction r with
  | nil =>
    intro so2 ho2 cs2 r2
    rcases inv r2 with ⟨_, rfl, rfl, rfl⟩ | ⟨ns, nm, _, _, e, _⟩ | ⟨ns, nm, _, _, e, _⟩
    · exact ⟨rfl, rfl, rfl⟩
    · exact absurd e.symm (by simp)
    · exact absurd e.symm (by simp)
  | @inn ns so so' ho ho' cs nm r mt dm rc ih =>
    intro so2 ho2 cs2 r2
    rcases inv r2 with ⟨e, _⟩ | ⟨ns2, nm2, so0, ho0, e, r0, rc0⟩ | ⟨ns2, nm2, hs, cs0, e, r0, rc0, _⟩
    · exact absurd e (by simp)
    · obtain ⟨rfl, e2⟩ := List.append_inj' e rfl
      cases e2
      obtain ⟨rfl, rfl, rfl⟩ := ih r0
      have z := rc.det rfl rc0 rfl
      injection z with z1 z2
      exact ⟨z1, z2, rfl⟩
    · obtain ⟨rfl, e2⟩ := List.append_inj' e rfl
      cases e2
      obtain ⟨rfl, rfl, rfl⟩ := ih r0
      have z := rc.det rfl rc0 rfl
      cases z
  | @out ns so ho cs nm hs r c rc ih =>
    intro so2 ho2 cs2 r2
    rcases inv r2 with ⟨e, _⟩ | ⟨ns2, nm2, so0, ho0, e, r0, rc0⟩ | ⟨ns2, nm2, hs2, cs0, e, r0, rc0, rfl⟩
    · exact absurd e (by simp)
    · obtain ⟨rfl, e2⟩ := List.append_inj' e rfl
      cases e2
      obtain ⟨rfl, rfl, rfl⟩ := ih r0
      have z := rc.det rfl rc0 rfl
      cases z
    · obtain ⟨rfl, e2⟩ := List.append_inj' e rfl
      cases e2
      obtain ⟨rfl, rfl, rfl⟩ := ih r0
      have z := rc.det rfl rc0 rfl
      injection z with z1
      injection z1 with _ z2
      exact ⟨rfl, rfl, by rw [z2]⟩
def keptOf (ns : List Str) (cs : List (Str × List Str)) : List Str := ns.filter fun z => !decide (z ∈ cs.map (·.1))
def roomOf (ps : List Pt) (srt : List Seat) (nm : Str) : List Seat := match ps.find? (fun p => decide (p.nm = nm)) with
  | some p => srt.filter (wantB p)
  | none => []
theorem roomOf_len {ps : List Pt} {srt : List Seat} (h : srt.length ≤ 32) (nm : Str) : (roomOf ps srt nm).length ≤ 32 := by
  unfold roomOf
  split
  · exact Nat.le_trans (List.length_filter_le _ _) h
  · exact Nat.zero_le _
inductive CrL (H : Hp) : List (Str × List Str) → List Addr → Prop
  | nil : CrL H [] []
  | cons {c : Str × List Str} {q : Addr} {cs : List (Str × List Str)} {qs : List Addr} (h : H q = some (.lst ((c.1 :: c.2).map V.str))) (r : CrL H cs qs) : CrL H (c :: cs) (q :: qs)
theorem CrL.len {H : Hp} {cs : List (Str × List Str)} {qs : List Addr} (h : CrL H cs qs) : qs.length = cs.length := by
  induction h with
  | nil => rfl
  | cons _ _ ih => simp [ih]
theorem CrL.snoc {H : Hp} {cs : List (Str × List Str)} {qs : List Addr} (h : CrL H cs qs) {c : Str × List Str} {q : Addr} (e : H q = some (.lst ((c.1 :: c.2).map V.str))) : CrL H (cs ++ [c]) (qs ++ [q]) := by
  induction h with
  | nil => exact .cons e .nil
  | cons h _ ih => exact .cons h ih
theorem CrL.get {H : Hp} {cs : List (Str × List Str)} {qs : List Addr} (h : CrL H cs qs) {i : Nat} {q : Addr} (e : qs[i]? = some q) : ∃ c, cs[i]? = some c ∧ H q = some (.lst ((c.1 :: c.2).map V.str)) := by
  induction h generalizing i with
  | nil => simp at e
  | @cons c q' cs qs h _ ih =>
    cases i with
    | zero =>
      simp at e
      subst e
      exact ⟨c, rfl, h⟩
    | succ j => exact ih (by simpa using e)
theorem CrL.keep {H H' : Hp} {cs : List (Str × List Str)} {qs : List Addr} (h : CrL H cs qs) (k : ∀ q ∈ qs, ∀ u, H q = some u → H' q = some u) : CrL H' cs qs := by
  induction h with
  | nil => exact .nil
  | cons h r ih => exact .cons (k _ (List.mem_cons_self ..) _ h) (ih fun q hq => k q (List.mem_cons_of_mem _ hq))
def spCrowds (t : Adr) : Sp := fun vs H Q _ => ∃ (a ln dp do_ : Addr) (w h : Nat) (ps : List Pt) (ss srt : List Seat) (names : List Str), vs = [.ref a, .ref ln] ∧ Dr t H a dp do_ w h ps ss srt ∧ H ln = some (.lst (names.map V.str)) ∧ (∀ nm ∈ names, ∃ p ∈ ps, p.nm = nm) ∧ names.Nodup ∧ names.length ≤ 12 ∧
  ∀ H' l qs cs so ho, Same H H' → H l = none → H' l = some (.lst (qs.map V.ref)) → CrL H' cs qs → (∀ q ∈ qs, H q = none) → Run (roomOf ps srt) names so ho cs → Q (.ref l) H'
theorem find_of {ps : List Pt} {nm : Str} (h : ∃ p ∈ ps, p.nm = nm) : ∃ p, ps.find? (fun z => decide (z.nm = nm)) = some p ∧ p ∈ ps ∧ p.nm = nm := by
  cases e : ps.find? (fun z => decide (z.nm = nm)) with
  | none =>
    obtain ⟨p, hp, en⟩ := h
    exact absurd (decide_eq_true en) (List.find?_eq_none.mp e p hp)
  | some p => exact ⟨p, rfl, List.mem_of_find?_eq_some e, of_decide_eq_true (List.find?_some (p := fun z : Pt => decide (z.nm = nm)) e)⟩
def FRm (l2 : Addr) (ps : List Pt) (srt : List Seat) (names : List Str) (i : Nat) (ys : List V) (H : Hp) : Prop := ∃ L : List (Addr × Addr × Str × List Addr), ys = L.map (fun x => V.ref x.1) ∧ L.length = i ∧ L.map (fun x => x.2.2.1) = names.take i ∧ ∀ x ∈ L, x.2.1 ≠ l2 ∧ x.1 ≠ l2 ∧ H x.1 = some (.tup [.str x.2.2.1, .ref x.2.1]) ∧ H x.2.1 = some (.lst (x.2.2.2.map V.ref)) ∧ SeatsL H (roomOf ps srt x.2.2.1) x.2.2.2
theorem rm_puts {d : Addr} : ∀ (L : List (Str × Addr)) {H : Hp} {kvs : List (Key × V)}, H d = some (.dK kvs) → kvs.length + L.length ≤ 1000 →
    ∃ H2 kvs2, DPuts d H (L.map fun x => (V.str x.1, V.ref x.2)) H2 ∧ H2 d = some (.dK kvs2) ∧ (∀ b u, b ≠ d → H b = some u → H2 b = some u) ∧ ((L.map (·.1)).Nodup → ∀ x ∈ L, valV kvs2 (.inr x.1) = some (.ref x.2)) ∧ ∀ k, (∀ x ∈ L, k ≠ .inr x.1) → valV kvs2 k = valV kvs k
  | [], H, kvs, e, _ => ⟨H, kvs, .nil, e, fun _ _ _ e => e, fun _ _ z => (nomatch z), fun _ _ => rfl⟩
  | x :: L, H, kvs, e, hn => by
    rw [List.length_cons] at hn
    have lp := length_putK kvs (.inr x.1) (.ref x.2)
    obtain ⟨H2, kvs2, dps, e2, k2, v2, o2⟩ := rm_puts L (H := upd H d (.dK (putK kvs (.inr x.1) (.ref x.2)))) upd_same (by omega)
    refine ⟨H2, kvs2, .cons (DPut.k (k := .inr x.1) e (Nat.lt_of_le_of_lt (by omega : _ ≤ 1000) (by decide))) dps, e2, fun b u nb eb => k2 _ _ nb (by rw [upd_ne nb]; exact eb), fun nd y hy => ?_, fun k hk => ?_⟩
    · rw [List.map_cons, List.nodup_cons] at nd
      rcases List.mem_cons.mp hy with rfl | hy
      · rw [o2 _ (fun z hz e => nd.1 (by rw [Sum.inr.inj e]; exact List.mem_map.mpr ⟨z, hz, rfl⟩)), valV_put, if_pos rfl]
      · exact v2 nd.2 y hy
    · rw [o2 k fun y hy => hk y (List.mem_cons_of_mem _ hy), valV_put, if_neg (hk x (List.mem_cons_self ..))]
section
variable {P : Program} {w : World} {K : PySem.W.Frag} {mg : Str → Option Value} {base : Heap} {t : Adr}
theorem ok_crowds (T : Txt w K mg t) : FnOk true P w K mg base (CXo P w) 7 t.f_crowds t.d_crowds ["picture", "names"] (spCrowds t) := by
  refine T.F_crowds.okn (k := 6) sc_crowds (fun vs H Q E h => ?_) (fun cdv A outer s H vs Q E hr h => ?_)
  · obtain ⟨a, ln, dp, do_, w', h', ps, ss, srt, names, rfl, _⟩ := h
    rfl
  · obtain ⟨a, ln, dp, do_, w', h', ps, ss, srt, names, rfl, h⟩ := h
    refine ⟨_, pss_cons (ps_set (i := 2) sc_crowds.nd rfl (Or.inl rfl) (pe_callTy (call_dictOf rfl (hu3_of hr)) rfl T.n_dict boot_dict (pa_cons (pe_compG rfl (blkG_of (zs := ["name"]) (ys := ["picture"]) (fr := [0]) (N0 := ["picture", "names", "rooms", "seating", "found", "name", "crowd"]) (sc0 := defScope s_crowds) (by decide +kernel) rfl rfl rfl) (pi_list (pv 1)) (fun _ _ _ _ _ ow nd => pg_name (i := 0) nd rfl (Or.inl (ow _ (by simp))) (Or.inr (ow _ (by simp)))) (gok_name (by decide)) (fun _ _ _ _ _ => pif_nil) (fun _ _ _ _ _ => pe_tup (pa_cons (pv 0) (pa_cons (pe_meth (pv 1) T.c_Picture T.m_Picture_seats_for (ok_Picture_seats_for T) (hr.mono (by decide)) T.b_Picture_seats_for .nil pass_none (pa_cons (pv 0) (pa_nil))) (pa_nil))))) (pa_nil))))
      (pss_cons (ps_set (i := 3) sc_crowds.nd rfl (Or.inl rfl) (pe_make0 T.k_Seating (ok_Seating_init T) (hr.mono (by decide)) rfl T.g_Seating T.b_Seating_init .nil pass_none))
      (pss_cons (ps_set (i := 4) sc_crowds.nd rfl (Or.inl rfl) (pe_lst (pa_nil)))
      (pss_cons (ps_for PassesOwn.never rfl (pi_list (pv 1)) (pg_name (i := 5) sc_crowds.nd rfl (Or.inl rfl)) (pss_cons (ps_set (i := 6) sc_crowds.nd rfl (Or.inl rfl) (pe_meth (pv 3) T.c_Seating T.m_Seating_crowd_with (ok_Seating_crowd_with T) (hr.mono (by decide)) T.b_Seating_crowd_with .nil pass_none (pa_cons (pv 5) (pa_cons (pv 2) (pa_nil)))))
      (pss_one (ps_if (pt_truth (pv 6) (fun _ => rfl)) (pss_one (ps_expr (pe_bm PySem.F.plainAttrs_list PySem.F.slot_list_append PySem.F.type_list_append mt_append (pv 4) (pa_cons (pv 6) (pa_nil))))) (pss_nil)))))
      (pss_one (ps_ret (pv 4)))))), ?_⟩
    obtain ⟨dr, hln, nps, nnd, n12, q⟩ := h
    have s32 : srt.length ≤ 32 := by rw [dr.pm.length_eq]; exact dr.ok.2.1
    refine ⟨_, rfl, ln, rfl, ⟨_, SqL.of hln⟩, fun l2 hl2 => ?_⟩
    refine comp_listL (SqL.of hln) (by rw [List.length_map]; exact Nat.lt_of_le_of_lt (by omega : _ ≤ 1000) (by decide)) hl2 (FRm l2 ps srt names) (fun _ _ => ⟨[], rfl, rfl, rfl, fun _ z => (nomatch z)⟩) ?_ (fun i x ys H3 hx s3 el3 f3 N hN => ?_) (fun ys H3 s3 el3 ly3 f3 => ?_)
    · rintro i ys zs H3 H4 hz4 k4 ⟨L, e1, e2, e3, e4⟩
      refine ⟨L, e1, e2, e3, fun x hx => ?_⟩
      obtain ⟨a1, a2, a3, a4, a5⟩ := e4 x hx
      exact ⟨a1, a2, k4 _ _ a2 a3, k4 _ _ a1 a4, a5.keep (fun b xs e => k4 _ _ (ne_of e hz4 (fun z => nomatch z)) e)⟩
    · rw [List.getElem?_map, Option.map_eq_some_iff] at hx
      obtain ⟨nm, hnm, rfl⟩ := hx
      obtain ⟨pt, hf, hpm, epn⟩ := find_of (nps nm (List.mem_of_getElem? hnm))
      subst epn
      have dr3 := dr.same s3
      obtain ⟨⟨dx3, hp3⟩, _⟩ := id dr3.pic
      refine ⟨_, rfl, _, rfl, a, dx3, _, rfl, hp3, lk_no (by decide +kernel), _, rfl, a, dp, do_, w', h', ps, ss, pt, rfl, dr3.pic, dr3.sts, dr.ok, dr.nm _ hpm, hf, fun H4 l4 srt' rs4 s4 fl4 pm4 lt4 e4 sl4 => ?_⟩
      obtain rfl : srt' = srt := perm_sorted seatLt_as (pm4.trans dr.pm.symm) lt4 dr.lt
      refine ⟨(by show 2 ≤ sizeLine; decide), fun u hu => ?_⟩
      have s5 : Same H4 (upd H4 u (.tup [.str pt.nm, .ref l4])) := same_upd (Same.refl _) hu
      have g5 : upd H4 u (.tup [.str pt.nm, .ref l4]) u = some (.tup [.str pt.nm, .ref l4]) := upd_same
      revert s5 g5
      generalize upd H4 u (.tup [.str pt.nm, .ref l4]) = H5
      intro s5 g5
      have e34 : ∀ c u, H3 c = some u → H5 c = some u := fun c u e => s5 _ _ (s4 _ _ e)
      refine hN _ _ (s4.trans s5) ?_
      obtain ⟨L, e1, e2, e3, e6⟩ := f3
      refine ⟨L ++ [(u, l4, pt.nm, rs4)], by rw [e1, List.map_append]; rfl, by rw [List.length_append, e2]; rfl, ?_, fun x hx => ?_⟩
      · rw [List.map_append, e3, List.take_add_one, hnm]
        rfl
      · rcases List.mem_append.mp hx with hx | hx
        · obtain ⟨a1, a2, a3, a4, a5⟩ := e6 x hx
          exact ⟨a1, a2, e34 _ _ a3, e34 _ _ a4, a5.keep (fun b xs e => e34 _ _ e)⟩
        · rw [List.mem_singleton.mp hx]
          refine ⟨Ne.symm (ne_of_none el3 fl4), Ne.symm (ne_of_none (s4 _ _ el3) hu), g5, s5 _ _ e4, ?_⟩
          have er : roomOf ps srt' pt.nm = srt'.filter (wantB pt) := by
            unfold roomOf
            rw [hf]
          show SeatsL H5 (roomOf ps srt' pt.nm) rs4
          rw [er]
          exact sl4.keep (Same.tups s5)
    rw [List.length_map] at f3
    obtain ⟨L, rfl, e2, e3, e4⟩ := f3
    rw [List.take_of_length_le (Nat.le_refl _)] at e3
    refine ⟨l2, L.map fun x => (x.1, V.str x.2.2.1, V.ref x.2.1), rfl, (by rw [List.map_map]; exact el3), ?_, fun d hd => ?_⟩
    · intro p hp
      obtain ⟨x, hx, rfl⟩ := List.mem_map.mp hp
      exact (e4 x hx).2.2.1
    have fd : H d = none := s3.free hd
    obtain ⟨H6, kvs6, dps, e6d, k6, v6, _⟩ := rm_puts (d := d) (L.map fun x => (x.2.2.1, x.2.1)) (H := upd H3 d (.dK [])) upd_same (by rw [List.length_map]; simp; omega)
    refine ⟨.dK [], H6, .inl rfl, ?_, ?_⟩
    · rw [List.map_map] at dps ⊢
      exact dps
    have k36 : ∀ b u, H3 b = some u → H6 b = some u := fun b u e => k6 _ _ (ne_of_none e hd) (by rw [upd_ne (ne_of_none e hd)]; exact e)
    have s06 : Same H H6 := fun b u e => k36 _ _ (s3 _ _ e)
    have rmd : RmD H6 d names (roomOf ps srt) := ⟨kvs6, e6d, fun nm hnm => by
      rw [← e3] at hnm
      obtain ⟨x, hx, rfl⟩ := List.mem_map.mp hnm
      obtain ⟨a1, a2, a3, a4, a5⟩ := e4 x hx
      refine ⟨x.2.1, x.2.2.2, v6 ?_ (x.2.2.1, x.2.1) (List.mem_map.mpr ⟨x, hx, rfl⟩), k36 _ _ a4, a5.keep (fun b xs e => k36 _ _ e)⟩
      rw [List.map_map]
      exact e3 ▸ nnd⟩
    refine fun p dx hp hdx ne => ?_
    refine ⟨p, dx, rfl, upd_same, fun H8 d1 d2 hd1 hd2 k8 sg8 => ⟨rfl, ?_⟩⟩
    have up : ∀ b, upd (upd H6 dx (.own p)) p (.ins t.C_Seating dx []) b = none → H6 b = none := fun b z => by
      cases e : H6 b with
      | none => rfl
      | some u => rw [upd_ne (ne_of_none e hp), upd_ne (ne_of_none e hdx), e] at z; cases z
    have s68 : Same H6 H8 := fun b u e => k8 b u (ne_of_none e hp) (by rw [upd_ne (ne_of_none e hp), upd_ne (ne_of_none e hdx)]; exact e)
    have fd1 := up _ hd1
    have fd2 := up _ hd2
    refine ⟨(by show 0 ≤ sizeLine; decide), fun lf hlf => ?_⟩
    have s9 : Same H8 (upd H8 lf (.lst [])) := same_upd (Same.refl _) hlf
    have g9 : upd H8 lf (.lst []) lf = some (.lst []) := upd_same
    revert s9 g9
    generalize upd H8 lf (.lst []) = H9
    intro s9 g9
    have s69 := s68.trans s9
    have s09 := s06.trans s69
    have nd1 : d ≠ d1 := ne_of_none e6d fd1
    have nd2 : d ≠ d2 := ne_of_none e6d fd2
    have sg9 := sg8.same s9
    obtain ⟨kz1, hkz1, _⟩ := id sg8.so
    obtain ⟨kz2, hkz2, _⟩ := id sg8.ho
    obtain ⟨dxz, hpz⟩ := id sg8.ins
    have nf1 : lf ≠ d1 := Ne.symm (ne_of_none hkz1 hlf)
    have nf2 : lf ≠ d2 := Ne.symm (ne_of_none hkz2 hlf)
    have nfp : lf ≠ p := Ne.symm (ne_of_none hpz hlf)
    have flf : H6 lf = none := s68.free hlf
    have room32 := roomOf_len (ps := ps) s32
    refine ⟨_, rfl, ln, rfl, ⟨_, SqL.of (s09 _ _ hln)⟩, ?_⟩
    refine for_list (xs := names.map V.str) (Pv := fun i σ H10 => ∃ (v5 v6 : Option V) (qs : List Addr) (cs : List (Str × List Str)) (so : Str → Option Seat) (ho : Seat → Option Str), σ = [some (.ref a), some (.ref ln), some (.ref d), some (.ref p), some (.ref lf), v5, v6] ∧ Same H6 H10 ∧ H10 lf = some (.lst (qs.map V.ref)) ∧ CrL H10 cs qs ∧ (∀ q ∈ qs, H6 q = none ∧ q ≠ d1 ∧ q ≠ d2 ∧ q ≠ p ∧ q ≠ lf) ∧ cs.length ≤ i ∧ Sg t H10 p d1 d2 (30 * i) so ho ∧ Run (roomOf ps srt) (names.take i) so ho cs) ⟨_, _, [], [], _, _, rfl, s69, g9, .nil, fun _ z => (nomatch z), Nat.le_refl _, sg9, .nil⟩ ?_ ?_ ?_
    · rintro i σ H10 _ ⟨_, _, _, _, _, _, rfl, s10, _⟩
      exact SqL.of (s10 _ _ (s06 _ _ hln))
    · rintro i x σ H10 hx ⟨v5, v6, qs, cs, so, ho, rfl, s10, e10, cr10, fq, ci, sg10, run⟩
      rw [List.getElem?_map, Option.map_eq_some_iff] at hx
      obtain ⟨nm, hnm, rfl⟩ := hx
      have il := (List.getElem?_eq_some_iff.mp hnm).1
      obtain ⟨dx10, hp10⟩ := sg10.ins
      have tk1 : names.take (i + 1) = names.take i ++ [nm] := by
        rw [List.take_add_one, hnm]
        rfl
      have tnd : (names.take (i + 1)).Nodup := (List.take_sublist _ _).nodup nnd
      have dm := run.dom ((List.take_sublist _ _).nodup nnd)
      have nni : nm ∉ names.take i := fun z => by
        rw [tk1, List.nodup_append] at tnd
        exact tnd.2.2 nm z nm (List.mem_singleton.mpr rfl) rfl
      have sn : so nm = none := by
        have z := dm nm
        rw [decide_eq_false nni, Bool.false_and] at z
        cases e : so nm with
        | none => rfl
        | some s => rw [e] at z; cases z
      have rmd10 : RmD H10 d names (roomOf ps srt) := by
        obtain ⟨kv, e, f⟩ := id rmd
        exact ⟨kv, s10 _ _ e, fun z hz => let ⟨l, rs, b1, b2, b3⟩ := f z hz; ⟨l, rs, b1, s10 _ _ b2, b3.keep (Same.tups s10)⟩⟩
      obtain ⟨kw1, hkw1, _⟩ := id sg10.so
      obtain ⟨kw2, hkw2, _⟩ := id sg10.ho
      refine ⟨_, rfl, p, dx10, _, rfl, hp10, lkS_no (by decide +kernel), _, rfl, _, rfl, p, d1, d2, d, 30 * i, roomOf ps srt, so, ho, names, nm, rfl, sg10, by omega, run.mt, sn, rmd10, nd1, fun z hz => ?_, List.mem_of_getElem? hnm, n12, room32, ?_, ?_⟩
      · rw [dm z, Bool.and_eq_true] at hz
        exact List.mem_of_mem_take (of_decide_eq_true hz.1)
      · intro H11 l11 so' ho' kb fl11 e11 sg11 mt11 dm11 rc11
        refine ⟨_, rfl, _, .inl ⟨_, SqL.of e11, rfl⟩, ifN (by decide) ?_⟩
        have k11 : ∀ b u, H6 b = some u → H11 b = some u := fun b u e => kb _ _ (ne_of_none e fd1) (ne_of_none e fd2) (s10 _ _ e)
        refine ⟨_, _, qs, cs, so', ho', rfl, k11, kb _ _ nf1 nf2 e10, cr10.keep (fun z hz u e => kb _ _ (fq z hz).2.1 (fq z hz).2.2.1 e), fq, by omega, sg11.le (by omega), ?_⟩
        rw [tk1]
        exact .inn run mt11 dm11 rc11
      · intro H11 l11 hs s11 fl11 e11 cw rc11
        refine ⟨_, rfl, _, .inl ⟨_, SqL.of e11, rfl⟩, ifP (by rfl) ?_⟩
        have e11f := s11 _ _ e10
        refine ⟨_, rfl, .inl ⟨rfl, _, SqL.of e11f⟩, _, rfl, lf, _, _, rfl, rfl, e11f, ?_, ?_⟩
        · rw [List.length_map, cr10.len]
          exact Nat.lt_of_le_of_lt (by omega : _ ≤ 1000) (by decide)
        have nl : l11 ≠ lf := Ne.symm (ne_of_none e10 fl11)
        have kl : ∀ c u, c ≠ lf → H11 c = some u → upd H11 lf (.lst (qs.map V.ref ++ [.ref l11])) c = some u := fun c u nc e => by rw [upd_ne nc]; exact e
        have tl : Tups H11 (upd H11 lf (.lst (qs.map V.ref ++ [.ref l11]))) := fun c xs e => kl _ _ (ne_of e e11f (fun z => nomatch z)) e
        refine ⟨_, _, qs ++ [l11], cs ++ [(nm, hs)], so, ho, rfl, fun c u e => kl _ _ (ne_of_none e flf) (s11 _ _ (s10 _ _ e)), by rw [upd_same, List.map_append]; rfl, ((cr10.keep (fun z hz u e => s11 _ _ e)).keep (fun z hz u e => kl _ _ (fq z hz).2.2.2.2 e)).snoc (kl _ _ nl e11), fun z hz => ?_, by rw [List.length_append, List.length_singleton]; omega, ((sg10.same s11).keep (d := lf) (Ne.symm nfp) (Ne.symm nf1) (Ne.symm nf2) tl kl).le (by omega), ?_⟩
        · rcases List.mem_append.mp hz with hz | hz
          · exact fq z hz
          · rw [List.mem_singleton.mp hz]
            exact ⟨s10.free fl11, Ne.symm (ne_of_none hkw1 fl11), Ne.symm (ne_of_none hkw2 fl11), Ne.symm (ne_of_none hp10 fl11), nl⟩
        · rw [tk1]
          exact .out run cw rc11
    · rintro σ H10 ⟨v5, v6, qs, cs, so, ho, rfl, s10, e10, cr10, fq, ci, sg10, run⟩
      rw [List.length_map, List.take_of_length_le (Nat.le_refl _)] at run
      exact ⟨_, rfl, q H10 lf qs cs so ho (s06.trans s10) (s06.free flf) e10 cr10 (fun z hz => s06.free (fq z hz).1) run⟩
end
def nmsOf (ps : List Pt) : List Str := ps.map (·.nm)
inductive OutL (H : Hp) : List (Str × List Str) → List Addr → Prop
  | nil : OutL H [] []
  | cons {c : Str × List Str} {q l : Addr} {cs : List (Str × List Str)} {qs : List Addr} (h : H q = some (.tup [.str c.1, .ref l])) (hl : H l = some (.lst (c.2.map V.str))) (r : OutL H cs qs) : OutL H (c :: cs) (q :: qs)
theorem OutL.len {H : Hp} {cs : List (Str × List Str)} {qs : List Addr} (h : OutL H cs qs) : qs.length = cs.length := by
  induction h with
  | nil => rfl
  | cons _ _ _ ih => simp [ih]
theorem OutL.keep {H H' : Hp} (s : Same H H') {cs : List (Str × List Str)} {qs : List Addr} (h : OutL H cs qs) : OutL H' cs qs := by
  induction h with
  | nil => exact .nil
  | cons h hl _ ih => exact .cons (s _ _ h) (s _ _ hl) ih
theorem OutL.get {H : Hp} {cs : List (Str × List Str)} {qs : List Addr} (h : OutL H cs qs) {i : Nat} {q : Addr} (e : qs[i]? = some q) : ∃ c l, cs[i]? = some c ∧ H q = some (.tup [.str c.1, .ref l]) ∧ H l = some (.lst (c.2.map V.str)) := by
  induction h generalizing i with
  | nil => simp at e
  | @cons c q' l cs qs h hl _ ih =>
    cases i with
    | zero =>
      simp at e
      subst e
      exact ⟨c, l, rfl, h, hl⟩
    | succ j => exact ih (by simpa using e)
def FOu (H0 : Hp) (l2 : Addr) (cs : List (Str × List Str)) (i : Nat) (ys : List V) (H : Hp) : Prop := ∃ L : List (Addr × Addr × Str × List Str), ys = L.map (fun x => V.ref x.1) ∧ L.length = i ∧ L.map (fun x => x.2.2) = cs.take i ∧ ∀ x ∈ L, x.2.1 ≠ l2 ∧ x.1 ≠ l2 ∧ H x.1 = some (.tup [.str x.2.2.1, .ref x.2.1]) ∧ H x.2.1 = some (.lst (x.2.2.2.map V.str)) ∧ H0 x.2.1 = none
def OutF (H0 H : Hp) (l : Addr) (cs : List (Str × List Str)) (qs : List Addr) : Prop := ∃ L : List (Addr × Addr × Str × List Str), qs = L.map (fun x => x.1) ∧ cs = L.map (fun x => x.2.2) ∧ ∀ x ∈ L, H0 x.2.1 = none ∧ x.2.1 ≠ l ∧ H x.1 = some (.tup [.str x.2.2.1, .ref x.2.1]) ∧ H x.2.1 = some (.lst (x.2.2.2.map V.str))
theorem out_of {H : Hp} : ∀ (L : List (Addr × Addr × Str × List Str)), (∀ x ∈ L, H x.1 = some (.tup [.str x.2.2.1, .ref x.2.1]) ∧ H x.2.1 = some (.lst (x.2.2.2.map V.str))) → OutL H (L.map fun x => x.2.2) (L.map fun x => x.1)
  | [], _ => .nil
  | x :: L, h => .cons (h x (List.mem_cons_self ..)).1 (h x (List.mem_cons_self ..)).2 (out_of L fun y hy => h y (List.mem_cons_of_mem _ hy))
def spLeft (t : Adr) : Sp := fun vs H Q _ => ∃ (a dp do_ : Addr) (w h : Nat) (ps : List Pt) (ss srt : List Seat), vs = [.ref a] ∧ Dr t H a dp do_ w h ps ss srt ∧ (nmsOf ps).Nodup ∧
  ∀ H' l qs cs so ho, Same H H' → H l = none → H' l = some (.lst (qs.map V.ref)) → OutL H' cs qs → Run (roomOf ps srt) (nmsOf ps) so ho cs → OutF H H' l cs qs → Q (.ref l) H'
def spKept (t : Adr) : Sp := fun vs H Q _ => ∃ (a dp do_ : Addr) (w h : Nat) (ps : List Pt) (ss srt : List Seat), vs = [.ref a] ∧ Dr t H a dp do_ w h ps ss srt ∧ (nmsOf ps).Nodup ∧
  ∀ H' l cs so ho, Same H H' → H l = none → H' l = some (.lst ((keptOf (nmsOf ps) cs).map V.str)) → Run (roomOf ps srt) (nmsOf ps) so ho cs → Q (.ref l) H'
theorem cut_1 {α : V} {xs : List V} : cutV (α :: xs) (some 1) none = xs := by
  unfold cutV
  simp [HT.sIx]
theorem dEq_sx {a b : Str} : dEq (.str a) (.str b) = decide (a = b) := dEq_dec rfl rfl ⟨fun h => DV.str.inj h, fun h => by rw [h]⟩
section
variable {P : Program} {w : World} {K : PySem.W.Frag} {mg : Str → Option Value} {base : Heap} {t : Adr}
theorem ok_left_out (T : Txt w K mg t) : FnOk true P w K mg base (CXo P w) 8 t.f_left_out t.d_left_out ["picture"] (spLeft t) := by
  refine T.F_left_out.okn (k := 7) sc_left_out (fun vs H Q E h => ?_) (fun cdv A outer s H vs Q E hr h => ?_)
  · obtain ⟨a, dp, do_, w', h', ps, ss, srt, rfl, _⟩ := h
    rfl
  · obtain ⟨a, dp, do_, w', h', ps, ss, srt, rfl, h⟩ := h
    refine ⟨_, pss_cons (ps_setcG rfl (blkG_of (zs := ["point"]) (ys := []) (fr := []) (N0 := ["picture", "names"]) (sc0 := defScope s_left_out) (by decide +kernel) rfl rfl rfl) (pi_list (pe_meth0 (pv 0) T.c_Picture T.m_Picture_points (ok_Picture_points T) (hr.mono (by decide)) T.b_Picture_points .nil pass_none)) (fun _ _ _ _ _ ow nd => pg_name (i := 0) nd rfl (Or.inl (ow _ (by simp))) (Or.inr (ow _ (by simp)))) (gok_name (by decide)) (fun _ _ _ _ _ => pif_nil) (fun _ _ _ _ _ => pe_ix (r := rIxT K) ix_tup (pv 0) (pe_int) (fun _ _ => rfl)) (j := 1) rfl (Or.inl rfl))
      (pss_one (ps_ret (pe_compG rfl (blkG_of (zs := ["crowd"]) (ys := []) (fr := []) (N0 := ["picture", "names"]) (sc0 := defScope s_left_out) (by decide +kernel) rfl rfl rfl) (pi_list (pe_call (ok_crowds T) (hr.mono (by decide)) rfl T.g_crowds T.F_crowds.kp T.b_crowds .nil pass_none (pa_cons (pv 0) (pa_cons (pv 1) (pa_nil))))) (fun _ _ _ _ _ ow nd => pg_name (i := 0) nd rfl (Or.inl (ow _ (by simp))) (Or.inr (ow _ (by simp)))) (gok_name (by decide)) (fun _ _ _ _ _ => pif_nil) (fun _ _ _ _ _ => pe_tup (pa_cons (pe_ix (r := rIxL K) ix_list (pv 0) (pe_int) (fun _ _ => rfl)) (pa_cons (pe_slice (r := rSlL K) sl_list (pv 0) (po_some (pe_int)) po_none) (pa_nil))))))), ?_⟩
    obtain ⟨dr, nnd, q⟩ := h
    have p12 := dr.pic.len
    obtain ⟨⟨dx, hpi⟩, _⟩ := id dr.pic
    refine ⟨_, rfl, a, dx, _, rfl, hpi, lk_no (by decide +kernel), a, dp, do_, w', h', ps, rfl, dr.pic, fun H1 l1 ds s1 e1 pt1 => ?_⟩
    have dll := pt1.len
    refine ⟨l1, rfl, ⟨_, SqL.of e1⟩, fun l2 hl2 => ?_⟩
    refine comp_list (SqL.of e1) (by rw [List.length_map]; exact Nat.lt_of_le_of_lt (by omega : _ ≤ 1000) (by decide)) hl2 (fun i y _ => ∃ p, ps[i]? = some p ∧ y = .str p.nm) (fun _ _ _ _ _ z => z) (fun i x H2 hx s2 N hN => ?_) (fun ys H2 s2 e2 ly fy => ?_)
    · rw [List.getElem?_map, Option.map_eq_some_iff] at hx
      obtain ⟨qa, hqa, rfl⟩ := hx
      obtain ⟨p, hp, hpq⟩ := pt1.get hqa
      exact ⟨_, rfl, qa, _, 0, .str p.nm, rfl, rfl, SqT.of (s2 _ _ hpq), rfl, hN _ _ (Same.refl _) ⟨p, hp, rfl⟩⟩
    have ey : ys = (nmsOf ps).map V.str := by
      refine ys_eq (by rw [ly, List.length_map, dll]; unfold nmsOf; rw [List.length_map]) fun i y b hy hb => ?_
      obtain ⟨p, hp, rfl⟩ := fy i y hy
      unfold nmsOf at hb
      rw [List.getElem?_map, hp] at hb
      cases hb
      rfl
    rw [ey] at e2
    have s02 := s1.trans s2
    refine ⟨_, rfl, _, rfl, a, l2, dp, do_, w', h', ps, ss, srt, nmsOf ps, rfl, dr.same s02, e2, fun nm hnm => ?_, nnd, by unfold nmsOf; rw [List.length_map]; exact p12, fun H3 l3 qs cs so ho s3 fl3 e3 cr3 fq3 run => ?_⟩
    · obtain ⟨p, hp, e⟩ := List.mem_map.mp hnm
      exact ⟨p, hp, e⟩
    have ol := run.outs.2
    have nl : (nmsOf ps).length = ps.length := by unfold nmsOf; rw [List.length_map]
    have qcl := cr3.len
    have s03 := s02.trans s3
    refine ⟨l3, rfl, ⟨_, SqL.of e3⟩, fun l4 hl4 => ?_⟩
    refine comp_listL (SqL.of e3) (by rw [List.length_map]; exact Nat.lt_of_le_of_lt (by omega : _ ≤ 1000) (by decide)) hl4 (FOu H l4 cs) (fun _ _ => ⟨[], rfl, rfl, rfl, fun _ z => (nomatch z)⟩) ?_ (fun i x ys H5 hx s5 el5 f5 N hN => ?_) (fun ys H5 s5 el5 ly5 f5 => ?_)
    · rintro i ys zs H5 H6 hz k6 ⟨L, b1, b2, b3, b4⟩
      refine ⟨L, b1, b2, b3, fun x hx => ?_⟩
      obtain ⟨a1, a2, a3, a4, a5⟩ := b4 x hx
      exact ⟨a1, a2, k6 _ _ a2 a3, k6 _ _ a1 a4, a5⟩
    · rw [List.getElem?_map, Option.map_eq_some_iff] at hx
      obtain ⟨qa, hqa, rfl⟩ := hx
      obtain ⟨c, hc, hcq⟩ := cr3.get hqa
      have hcq5 := s5 _ _ hcq
      refine ⟨_, rfl, qa, _, 0, .str c.1, rfl, rfl, SqL.of hcq5, atI_nat (j := 0) rfl, _, rfl, 1, rfl, qa, _, rfl, SqL.of hcq5, fun lh hlh => ?_⟩
      rw [List.map_cons, cut_1]
      have s6 : Same H5 (upd H5 lh (.lst (c.2.map V.str))) := same_upd (Same.refl _) hlh
      have g6 : upd H5 lh (.lst (c.2.map V.str)) lh = some (.lst (c.2.map V.str)) := upd_same
      revert s6 g6
      generalize upd H5 lh (.lst (c.2.map V.str)) = H6
      intro s6 g6
      refine ⟨(by show 2 ≤ sizeLine; decide), fun u hu => ?_⟩
      have s7 : Same H6 (upd H6 u (.tup [.str c.1, .ref lh])) := same_upd (Same.refl _) hu
      have g7 : upd H6 u (.tup [.str c.1, .ref lh]) u = some (.tup [.str c.1, .ref lh]) := upd_same
      revert s7 g7
      generalize upd H6 u (.tup [.str c.1, .ref lh]) = H7
      intro s7 g7
      refine hN _ _ (s6.trans s7) ?_
      obtain ⟨L, b1, b2, b3, b4⟩ := f5
      refine ⟨L ++ [(u, lh, c)], by rw [b1, List.map_append]; rfl, by rw [List.length_append, b2]; rfl, ?_, fun x hx => ?_⟩
      · rw [List.map_append, b3, List.take_add_one, hc]
        rfl
      · rcases List.mem_append.mp hx with hx | hx
        · obtain ⟨a1, a2, a3, a4, a5⟩ := b4 x hx
          exact ⟨a1, a2, s7 _ _ (s6 _ _ a3), s7 _ _ (s6 _ _ a4), a5⟩
        · rw [List.mem_singleton.mp hx]
          exact ⟨Ne.symm (ne_of_none el5 hlh), Ne.symm (ne_of_none (s6 _ _ el5) hu), g7, s7 _ _ g6, (s03.trans s5).free hlh⟩
    rw [List.length_map] at f5
    obtain ⟨L, rfl, b2, b3, b4⟩ := f5
    rw [qcl, List.take_of_length_le (Nat.le_refl _)] at b3
    have ol5 := out_of L fun x hx => ⟨(b4 x hx).2.2.1, (b4 x hx).2.2.2.1⟩
    rw [b3] at ol5
    exact q H5 l4 (L.map fun x => x.1) cs so ho (s03.trans s5) (s03.free hl4) (by rw [el5, List.map_map]; rfl) ol5 run ⟨L, rfl, b3.symm, fun x hx => ⟨(b4 x hx).2.2.2.2, (b4 x hx).1, (b4 x hx).2.2.1, (b4 x hx).2.2.2.1⟩⟩
theorem ok_kept (T : Txt w K mg t) : FnOk true P w K mg base (CXo P w) 9 t.f_kept t.d_kept ["picture"] (spKept t) := by
  refine T.F_kept.okn (k := 8) sc_kept (fun vs H Q E h => ?_) (fun cdv A outer s H vs Q E hr h => ?_)
  · obtain ⟨a, dp, do_, w', h', ps, ss, srt, rfl, _⟩ := h
    rfl
  · obtain ⟨a, dp, do_, w', h', ps, ss, srt, rfl, h⟩ := h
    refine ⟨_, pss_cons (ps_set (i := 1) sc_kept.nd rfl (Or.inr rfl) (pe_compG rfl (blkG_of (zs := ["name", "holders"]) (ys := []) (fr := []) (N0 := ["picture", "out"]) (sc0 := defScope s_kept) (by decide +kernel) rfl rfl rfl) (pi_list (pe_call (ok_left_out T) (hr.mono (by decide)) rfl T.g_left_out T.F_left_out.kp T.b_left_out .nil pass_none (pa_cons (pv 0) (pa_nil)))) (fun _ _ _ _ _ ow nd => (pg_tup rfl (pgs_cons (pg_name (i := 0) nd rfl (Or.inl (ow _ (by simp))) (Or.inr (ow _ (by simp)))) (pgs_cons (pg_name (i := 1) nd rfl (Or.inl (ow _ (by simp))) (Or.inr (ow _ (by simp)))) (pgs_nil))) : PG _ _ (gTup K 2 _))) (gok_tup (goks_cons (by decide) (goks_cons (by decide) (goks_nil)))) (fun _ _ _ _ _ => pif_nil) (fun _ _ _ _ _ => pv 0)))
      (pss_one (ps_ret (pe_compG rfl (blkG_of (zs := ["point"]) (ys := ["out"]) (fr := [1]) (N0 := ["picture", "out"]) (sc0 := defScope s_kept) (by decide +kernel) rfl rfl rfl) (pi_list (pe_meth0 (pv 0) T.c_Picture T.m_Picture_points (ok_Picture_points T) (hr.mono (by decide)) T.b_Picture_points .nil pass_none)) (fun _ _ _ _ _ ow nd => pg_name (i := 0) nd rfl (Or.inl (ow _ (by simp))) (Or.inr (ow _ (by simp)))) (gok_name (by decide)) (fun _ _ _ _ _ => pif_one (pt_cmpR (r := rInV K true) (op_notInV (hu20_of hr)) (pe_ix (r := rIxT K) ix_tup (pv 0) (pe_int) (fun _ _ => rfl)) (pv 1) (by rfl))) (fun _ _ _ _ _ => pe_ix (r := rIxT K) ix_tup (pv 0) (pe_int) (fun _ _ => rfl))))), ?_⟩
    obtain ⟨dr, nnd, q⟩ := h
    have p12 := dr.pic.len
    refine ⟨_, rfl, a, dp, do_, w', h', ps, ss, srt, rfl, dr, nnd, fun H1 l1 qs cs so ho s1 fl1 e1 ol1 run _ => ?_⟩
    have ol := run.outs.2
    have nl : (nmsOf ps).length = ps.length := by unfold nmsOf; rw [List.length_map]
    have qcl := ol1.len
    refine ⟨l1, rfl, ⟨_, SqL.of e1⟩, fun l2 hl2 => ?_⟩
    refine comp_list (SqL.of e1) (by rw [List.length_map]; exact Nat.lt_of_le_of_lt (by omega : _ ≤ 1000) (by decide)) hl2 (fun i y _ => ∃ c, cs[i]? = some c ∧ y = .str c.1) (fun _ _ _ _ _ z => z) (fun i x H2 hx s2 N hN => ?_) (fun ys H2 s2 e2 ly fy => ?_)
    · rw [List.getElem?_map, Option.map_eq_some_iff] at hx
      obtain ⟨qa, hqa, rfl⟩ := hx
      obtain ⟨c, lh, hc, hcq, _⟩ := ol1.get hqa
      exact ⟨qa, _, rfl, SqT.of (s2 _ _ hcq), rfl, _, _, rfl, _, _, rfl, rfl, _, rfl, hN _ _ (Same.refl _) ⟨c, hc, rfl⟩⟩
    have ey : ys = (cs.map (·.1)).map V.str := by
      refine ys_eq (by rw [ly, List.length_map, List.length_map, qcl]) fun i y b hy hb => ?_
      obtain ⟨c, hc, rfl⟩ := fy i y hy
      rw [List.getElem?_map, hc] at hb
      cases hb
      rfl
    rw [ey] at e2
    have s02 := s1.trans s2
    have dr2 := dr.same s02
    obtain ⟨⟨dx, hpi⟩, _⟩ := id dr2.pic
    refine ⟨_, rfl, a, dx, _, rfl, hpi, lk_no (by decide +kernel), a, dp, do_, w', h', ps, rfl, dr2.pic, fun H3 l3 ds s3 e3 pt3 => ?_⟩
    have dll := pt3.len
    have e23 := s3 _ _ e2
    have s03 := s02.trans s3
    refine ⟨l3, rfl, ⟨_, SqL.of e3⟩, fun l4 hl4 => ?_⟩
    have odv : ∀ {H5 : Hp}, Same H3 H5 → Dv K H5 1 (.ref l2) (.lst ((cs.map (·.1)).map DV.str)) := fun {H5} s5 => .lst (SqL.of (s5 _ _ e23)) (by simp) fun j x d h1 h2 => by
      rw [List.getElem?_map, Option.map_eq_some_iff] at h1 h2
      obtain ⟨z, hz, rfl⟩ := h1
      obtain ⟨z', hz', rfl⟩ := h2
      rw [hz] at hz'
      cases hz'
      exact .str
    have oin : ∀ nm : Str, (((cs.map (·.1)).map DV.str).any fun z => dEq z (.str nm)) = decide (nm ∈ cs.map (·.1)) := fun nm => by
      rw [Bool.eq_iff_iff, List.any_eq_true, decide_eq_true_iff]
      constructor
      · rintro ⟨d, hd, e⟩
        obtain ⟨z, hz, rfl⟩ := List.mem_map.mp hd
        rw [dEq_sx] at e
        rw [← of_decide_eq_true e]
        exact hz
      · intro hm
        exact ⟨_, List.mem_map.mpr ⟨_, hm, rfl⟩, dEq_refl _⟩
    refine comp_listF (SqL.of e3) (by rw [List.length_map]; exact Nat.lt_of_le_of_lt (by omega : _ ≤ 1000) (by decide)) hl4 (fun i => ((ps[i]?).map fun p => !decide (p.nm ∈ cs.map (·.1))).getD false) (fun i y _ => ∃ p, ps[i]? = some p ∧ y = .str p.nm) (fun _ _ _ _ _ z => z) (fun i x H5 hx s5 N M hN hM => ?_) (fun ys H5 s5 e5 ly fy => ?_)
    · rw [List.getElem?_map, Option.map_eq_some_iff] at hx
      obtain ⟨qa, hqa, rfl⟩ := hx
      obtain ⟨p, hp, hpq⟩ := pt3.get hqa
      have hpq5 := s5 _ _ hpq
      refine ⟨_, rfl, qa, _, 0, .str p.nm, rfl, rfl, SqT.of hpq5, rfl, _, rfl, 0, 1, .str p.nm, _, .str, odv s5, by decide, by decide, _, rfl, ite2 (fun y => ?_) (fun y => ?_)⟩
      · rw [if_pos rfl, oin] at y
        exact ⟨_, rfl, qa, _, 0, .str p.nm, rfl, rfl, SqT.of hpq5, rfl, hN _ _ (Same.refl _) (by rw [hp]; exact y) ⟨p, hp, rfl⟩⟩
      · rw [if_pos rfl, oin] at y
        exact hM _ (Same.refl _) (by rw [hp]; exact Bool.eq_false_iff.mpr y)
    have fi := ix_filt (fun p : Pt => !decide (p.nm ∈ cs.map (·.1))) (as := ps) (p := fun i => ((ps[i]?).map fun p => !decide (p.nm ∈ cs.map (·.1))).getD false) (fun i p hp => by rw [hp]; rfl)
    rw [List.length_map, dll] at ly fy
    have ek : keptOf (nmsOf ps) cs = (ps.filter fun p => !decide (p.nm ∈ cs.map (·.1))).map (·.nm) := by
      unfold keptOf nmsOf
      rw [List.filter_map]
      rfl
    have ey2 : ys = (keptOf (nmsOf ps) cs).map V.str := by
      rw [ek]
      refine ys_eq (by rw [ly, List.length_map, fi.1]) fun i y b hy hb => ?_
      have hj : i < ((List.range ps.length).filter fun i => ((ps[i]?).map fun p => !decide (p.nm ∈ cs.map (·.1))).getD false).length := by
        rw [← ly]
        exact (List.getElem?_eq_some_iff.mp hy).1
      obtain ⟨p, hp, rfl⟩ := fy i y _ hy (List.getElem?_eq_getElem hj)
      rw [fi.2 i _ (List.getElem?_eq_getElem hj)] at hp
      rw [List.getElem?_map, hp] at hb
      cases hb
      rfl
    rw [ey2] at e5
    exact q H5 l4 cs so ho (s03.trans s5) (s03.free hl4) e5 run
end
end S34
set_option maxRecDepth 100000
set_option maxHeartbeats 4000000
namespace S34
open PySem L2 XL PyProof.Rows
theorem bOr (a b : Nat) : Builtin.bitOr (a : Int) (b : Int) = ((a ||| b : Nat) : Int) := by
  unfold Builtin.bitOr Builtin.bitAnd Builtin.bitNot
  have h1 : decide (0 ≤ -(a : Int) - 1) = false := decide_eq_false (by omega)
  have h2 : decide (0 ≤ -(b : Int) - 1) = false := decide_eq_false (by omega)
  simp only [h1, h2]
  have e1 : (-(-(a : Int) - 1) - 1).toNat = a := by omega
  have e2 : (-(-(b : Int) - 1) - 1).toNat = b := by omega
  rw [e1, e2]
  omega
theorem bAnd (a b : Nat) : Builtin.bitAnd (a : Int) (b : Int) = ((a &&& b : Nat) : Int) := rfl
def spMayL : Sp := fun vs H Q _ => ∃ (q u : Addr) (p : Pt) (s : Seat), vs = [.ref q, .ref u] ∧ H q = some (.tup (.str p.nm :: ptV p)) ∧ H u = some (.tup (seatV s)) ∧ Q (.bl (wantB p s)) H
def inRm (nms : List Str) (p : Pt) (s : Seat) : Bool := decide (p.nm ∈ nms) && wantB p s
def spRoomL : Sp := fun vs H Q _ => ∃ (lp ls ln : Addr) (ps : List Pt) (ss : List Seat) (qs rs : List Addr) (nms : List Str), vs = [.ref lp, .ref ls, .ref ln] ∧ H lp = some (.lst (qs.map V.ref)) ∧ PtsL H ps qs ∧ H ls = some (.lst (rs.map V.ref)) ∧ SeatsL H ss rs ∧ ss.length ≤ 32 ∧ H ln = some (.lst (nms.map V.str)) ∧
  ∀ H' (m : Nat), Same H H' → Kp.Msk m ss (fun s => ps.any fun p => inRm nms p s) → Q (.int (m : Int)) H'
def spManyL : Sp := fun vs H Q _ => ∃ m : Nat, vs = [.int (m : Int)] ∧ Q (.int (Kp.pc m : Int)) H
theorem nms_dv {K : PySem.W.Frag} {H : Hp} {l : Addr} {nms : List Str} (e : H l = some (.lst (nms.map V.str))) : Dv K H 1 (.ref l) (.lst (nms.map DV.str)) := .lst (SqL.of e) (by rw [List.length_map, List.length_map]) fun j x d h1 h2 => by
  rw [List.getElem?_map, Option.map_eq_some_iff] at h1 h2
  obtain ⟨z, hz, rfl⟩ := h1
  obtain ⟨z', hz', rfl⟩ := h2
  rw [hz] at hz'
  cases hz'
  exact .str
theorem nms_in (nms : List Str) (nm : Str) : ((nms.map DV.str).any fun z => dEq z (.str nm)) = decide (nm ∈ nms) := by
  rw [Bool.eq_iff_iff, List.any_eq_true, decide_eq_true_iff]
  constructor
  · rintro ⟨d, hd, e⟩
    obtain ⟨z, hz, rfl⟩ := List.mem_map.mp hd
    rw [dEq_sx] at e
    rw [← of_decide_eq_true e]
    exact hz
  · intro hm
    exact ⟨_, List.mem_map.mpr ⟨_, hm, rfl⟩, dEq_refl _⟩
section
variable {P : Program} {w : World} {K : PySem.W.Frag} {mg : Str → Option Value} {base : Heap} {t : Adr}
theorem ok_law_may (T : Txt w K mg t) : FnOk true P w K mg base (CXo P w) 1 t.f_law_may t.d_law_may ["_law_point_here", "_law_seat"] (spMayL) := by
  refine T.F_law_may.okn (k := 0) sc_law_may (fun vs H Q E h => ?_) (fun cdv A outer s H vs Q E hr h => ?_)
  · obtain ⟨q, u, p, s, rfl, _⟩ := h
    rfl
  · obtain ⟨q, u, p, s, rfl, h⟩ := h
    refine ⟨_, pss_cons (ps_asg (pv 1) (pg_tup rfl (pgs_cons (pg_name (i := 2) sc_law_may.nd rfl (Or.inl rfl)) (pgs_cons (pg_name (i := 3) sc_law_may.nd rfl (Or.inl rfl)) (pgs_nil)))))
      (pss_one (ps_ret (pe_and (pe_or (pe_cmpR op_eq (pe_ix ix_tup (pv 0) (pe_int) (fun _ _ => rfl)) (pe_str) (nomark _)) (pe_one (pe_cmpR op_eq (pe_ix ix_tup (pv 0) (pe_int) (fun _ _ => rfl)) (pv 2) (nomark _)))) (pe_one (pe_chain op_le op_le (pe_ix ix_tup (pv 0) (pe_int) (fun _ _ => rfl)) (pv 3) (pe_ix ix_tup (pv 0) (pe_int) (fun _ _ => rfl))))))), ?_⟩
    obtain ⟨hq, hu, z⟩ := h
    obtain ⟨b, r⟩ := s
    unfold wantB at z
    refine ⟨_, rfl, u, _, rfl, SqT.of hu, rfl, _, _, rfl, _, _, rfl, rfl, ?_⟩
    have e1 : ∀ t : Str, (decide (V.str p.sd = V.str t)) = decide (p.sd = t) := fun t => by
      rw [decide_eq_decide]
      exact ⟨fun h => V.str.inj h, fun h => by rw [h]⟩
    have fin : (decide (p.sd = "both") || decide (p.sd = sideW b)) = true → _ := fun c => by
      have z' := z
      dsimp only at z'
      rw [c, Bool.true_and] at z'
      exact z'
    refine ⟨_, rfl, q, _, 3, .str p.sd, rfl, rfl, SqT.of hq, rfl, rfl, _, rfl, ite2 (fun c => ?_) (fun c => ?_)⟩
    · rw [e1] at c
      have f := fin (by rw [c]; rfl)
      refine ⟨true, rfl, ifP rfl ⟨_, rfl, q, _, 4, .int p.lo, rfl, rfl, SqT.of hq, rfl, _, rfl, _, _, rfl, rfl, _, rfl, ite2 (fun c2 => ?_) (fun c2 => ?_)⟩⟩
      · rw [c2, Bool.true_and] at f
        exact ⟨_, rfl, q, _, 5, .int p.hi, rfl, rfl, SqT.of hq, rfl, _, _, rfl, rfl, f⟩
      · rw [Bool.eq_false_iff.mpr c2, Bool.false_and] at f
        exact f
    · rw [e1] at c
      refine ⟨_, rfl, q, _, 3, .str p.sd, rfl, rfl, SqT.of hq, rfl, _, rfl, rfl, _, rfl, ite2 (fun c1 => ?_) (fun c1 => ?_)⟩
      · rw [e1] at c1
        have c1 : decide (p.sd = sideW b) = true := c1
        have f := fin (by rw [c1, Bool.or_true])
        refine ⟨_, rfl, q, _, 4, .int p.lo, rfl, rfl, SqT.of hq, rfl, _, rfl, _, _, rfl, rfl, _, rfl, ite2 (fun c2 => ?_) (fun c2 => ?_)⟩
        · rw [c2, Bool.true_and] at f
          exact ⟨_, rfl, q, _, 5, .int p.hi, rfl, rfl, SqT.of hq, rfl, _, _, rfl, rfl, f⟩
        · rw [Bool.eq_false_iff.mpr c2, Bool.false_and] at f
          exact f
      · rw [e1] at c1
        have c1 : decide (p.sd = sideW b) = false := Bool.eq_false_iff.mpr c1
        have c0 : decide (p.sd = "both") = false := Bool.eq_false_iff.mpr c
        dsimp only at z
        rw [c0, c1, Bool.or_false, Bool.false_and] at z
        exact z
theorem ok_law_many (T : Txt w K mg t) : FnOk true P w K mg base (CXo P w) 1 t.f_law_many t.d_law_many ["_law_mask"] (spManyL) := by
  refine T.F_law_many.okn (k := 0) sc_law_many (fun vs H Q E h => ?_) (fun cdv A outer s H vs Q E hr h => ?_)
  · obtain ⟨m, rfl, _⟩ := h
    rfl
  · obtain ⟨m, rfl, h⟩ := h
    refine ⟨_, pss_cons (ps_set (i := 1) sc_law_many.nd rfl (Or.inl rfl) (pe_int))
      (pss_cons (ps_while PassesOwn.never (pt_cmpR op_gt (pv 0) (pe_int) (nomark _)) (pss_cons (ps_set (i := 0) sc_law_many.nd rfl (Or.inl rfl) (pe_op op_and (pv 0) (pe_op op_sub (pv 0) (pe_int))))
      (pss_one (ps_set (i := 1) sc_law_many.nd rfl (Or.inl rfl) (pe_op op_add (pv 1) (pe_int))))))
      (pss_one (ps_ret (pv 1)))), ?_⟩
    refine ⟨fun k σ H1 => H = H1 ∧ ∃ x c : Nat, σ = [some (.int (x : Int)), some (.int (c : Int))] ∧ k = Kp.pc x ∧ c + Kp.pc x = Kp.pc m, ⟨_, rfl, m, 0, rfl, rfl, by omega⟩, ?_⟩
    rintro k σ H1 ⟨rfl, x, c, rfl, rfl, e⟩
    refine ⟨_, rfl, _, _, rfl, rfl, _, rfl, ite2 (fun y => ?_) (fun y => ?_)⟩
    · have x0 : 0 < x := by
        have := of_decide_eq_true y
        omega
      have pp := Kp.pc_pred x x0
      refine ⟨fun σ' H' => ∃ k', k' < Kp.pc x ∧ H = H' ∧ ∃ x c : Nat, σ' = [some (.int (x : Int)), some (.int (c : Int))] ∧ k' = Kp.pc x ∧ c + Kp.pc x = Kp.pc m, fun σ' H' z => z, ?_⟩
      refine ⟨_, rfl, _, rfl, _, _, rfl, rfl, _, _, rfl, rfl, ?_⟩
      have eb : Builtin.bitAnd (x : Int) ((x : Int) - 1) = ((x &&& (x - 1) : Nat) : Int) := by rw [show (x : Int) - 1 = ((x - 1 : Nat) : Int) by omega, bAnd]
      simp only [eb]
      refine ⟨_, rfl, _, _, rfl, rfl, Kp.pc (x &&& (x - 1)), by omega, rfl, x &&& (x - 1), c + 1, ?_, rfl, by omega⟩
      simp
    · have x0 : x = 0 := by
        by_cases z : x = 0
        · exact z
        · exact absurd (decide_eq_true (by omega)) y
      subst x0
      rw [Kp.pc_0] at e
      have e' : Kp.pc m = c := by omega
      rw [e'] at h
      exact ⟨_, rfl, h⟩
end
end S34
set_option maxRecDepth 100000
set_option maxHeartbeats 4000000
namespace S34
open PySem L2 XL PyProof.Rows
section
variable {P : Program} {w : World} {K : PySem.W.Frag} {mg : Str → Option Value} {base : Heap} {t : Adr}
theorem ok_law_room (T : Txt w K mg t) : FnOk true P w K mg base (CXo P w) 2 t.f_law_room t.d_law_room ["_law_points_here", "_law_seats_here", "_law_names_here"] (spRoomL) := by
  refine T.F_law_room.okn (k := 1) sc_law_room (fun vs H Q E h => ?_) (fun cdv A outer s H vs Q E hr h => ?_)
  · obtain ⟨lp, ls, ln, ps, ss, qs, rs, nms, rfl, _⟩ := h
    rfl
  · obtain ⟨lp, ls, ln, ps, ss, qs, rs, nms, rfl, h⟩ := h
    refine ⟨_, pss_cons (ps_set (i := 3) sc_law_room.nd rfl (Or.inl rfl) (pe_int))
      (pss_cons (ps_for PassesOwn.never rfl (pi_list (pv 0)) (pg_name (i := 4) sc_law_room.nd rfl (Or.inl rfl)) (pss_one (ps_if (pt_cmpR (op_inV (hu20_of hr)) (pe_ix ix_tup (pv 4) (pe_int) (fun _ _ => rfl)) (pv 2) (by rfl)) (pss_one (ps_for PassesOwn.never rfl (pi_enumerate rfl T.n_enumerate (pa_cons (pv 1) (pa_nil))) (pg_tup rfl (pgs_cons (pg_name (i := 5) sc_law_room.nd rfl (Or.inl rfl)) (pgs_cons (pg_name (i := 6) sc_law_room.nd rfl (Or.inl rfl)) (pgs_nil)))) (pss_one (ps_if (pt_val (pe_call (ok_law_may T) (hr.mono (by decide)) rfl T.g_law_may T.F_law_may.kp T.b_law_may .nil pass_none (pa_cons (pv 4) (pa_cons (pv 6) (pa_nil))))) (pss_one (ps_set (i := 3) sc_law_room.nd rfl (Or.inl rfl) (pe_op op_or (pv 3) (pe_op op_shl (pe_int) (pv 5))))) (pss_nil))))) (pss_nil))))
      (pss_one (ps_ret (pv 3)))), ?_⟩
    obtain ⟨hlp, ptl, hls, stl, s32, hln, q⟩ := h
    have pll := ptl.len
    have sll := stl.len
    refine ⟨_, rfl, lp, rfl, ⟨_, SqL.of hlp⟩, ?_⟩
    refine for_list (xs := qs.map V.ref) (Pv := fun i σ H5 => ∃ (m : Nat) (v4 v5 v6 : Option V), σ = [some (.ref lp), some (.ref ls), some (.ref ln), some (.int (m : Int)), v4, v5, v6] ∧ Same H H5 ∧ Kp.Msk m ss (fun s => (ps.take i).any fun p => inRm nms p s)) ⟨0, _, _, _, rfl, Same.refl _, Kp.Msk.zero fun _ _ => rfl⟩ ?_ ?_ ?_
    · rintro i σ H5 _ ⟨_, _, _, _, rfl, s5, _⟩
      exact SqL.of (s5 _ _ hlp)
    · rintro i x σ H5 hx ⟨m, v4, v5, v6, rfl, s5, mk⟩
      rw [List.getElem?_map, Option.map_eq_some_iff] at hx
      obtain ⟨qa, hqa, rfl⟩ := hx
      obtain ⟨p, hp, hpq⟩ := ptl.get hqa
      have tk : ps.take (i + 1) = ps.take i ++ [p] := by
        rw [List.take_add_one, hp]
        rfl
      refine ⟨_, rfl, qa, _, 0, .str p.nm, rfl, rfl, SqT.of (s5 _ _ hpq), rfl, _, rfl, 0, 1, .str p.nm, _, .str, nms_dv (s5 _ _ hln), by decide, by decide, _, rfl, ite2 (fun y => ?_) (fun y => ?_)⟩
      · rw [if_neg (by decide), nms_in] at y
        refine ⟨_, rfl, ls, _, rfl, SqL.of (s5 _ _ hls), ?_⟩
        refine for_enum (xs := rs.map V.ref) (Pv := fun k σ H7 => ∃ (m7 : Nat) (v5 v6 : Option V), σ = [some (.ref lp), some (.ref ls), some (.ref ln), some (.int (m7 : Int)), some (.ref qa), v5, v6] ∧ Same H H7 ∧ ∀ j, m7.testBit j = (m.testBit j || (decide (j < k) && ((ss[j]?).map (wantB p)).getD false))) ⟨m, _, _, rfl, s5, fun j => by simp⟩ ?_ ?_ ?_
        · rintro k σ H7 _ ⟨_, _, _, rfl, s7, _⟩
          exact SqL.of (s7 _ _ hls)
        · rintro k x u σ H7 hx hu ⟨m7, v5, v6, rfl, s7, b7⟩
          rw [List.getElem?_map, Option.map_eq_some_iff] at hx
          obtain ⟨qs', hqs, rfl⟩ := hx
          obtain ⟨s, hs, hsq⟩ := stl.get hqs
          have k32 : k < 32 := by have := (List.getElem?_eq_some_iff.mp hs).1; omega
          have s8 : Same H7 (upd H7 u (.tup [.int (k : Int), .ref qs'])) := same_upd (Same.refl _) hu
          have g8 : upd H7 u (.tup [.int (k : Int), .ref qs']) u = some (.tup [.int (k : Int), .ref qs']) := upd_same
          revert s8 g8
          generalize upd H7 u (.tup [.int (k : Int), .ref qs']) = H8
          intro s8 g8
          have s08 := s7.trans s8
          refine ⟨u, _, rfl, SqT.of g8, rfl, _, _, rfl, _, _, rfl, rfl, ?_⟩
          have up : ∀ (b : Bool), b = wantB p s → ∀ j, (m7.testBit j || (decide (j = k) && b)) = (m.testBit j || (decide (j < k + 1) && ((ss[j]?).map (wantB p)).getD false)) := fun b eb j => by
            rw [b7 j]
            by_cases e : j = k
            · subst e
              rw [hs, eb]
              simp
            · have e2 : decide (j < k + 1) = decide (j < k) := by
                rw [decide_eq_decide]
                omega
              rw [e2]
              simp [e]
          refine ⟨_, rfl, _, rfl, qa, qs', p, s, rfl, s08 _ _ hpq, s08 _ _ hsq, _, rfl, ite2 (fun c => ?_) (fun c => ?_)⟩
          · refine ⟨_, rfl, _, rfl, _, _, rfl, rfl, ⟨by omega, by omega, by decide⟩, _, _, rfl, rfl, ?_⟩
            have eb : Builtin.bitOr (m7 : Int) ((1 : Int) * 2 ^ (k : Int).toNat) = ((m7 ||| 2 ^ k : Nat) : Int) := by
              rw [Int.toNat_natCast, Int.one_mul, ← bOr, Int.natCast_pow]
              rfl
            simp only [eb]
            refine ⟨m7 ||| 2 ^ k, _, _, rfl, s08, fun j => ?_⟩
            rw [Kp.msk_bit, ← up true c.symm j]
            simp
          · refine ⟨m7, _, _, rfl, s08, fun j => ?_⟩
            rw [← up false (Bool.eq_false_iff.mpr c).symm j]
            simp
        · rintro σ H7 ⟨m7, v5, v6, rfl, s7, b7⟩
          refine ⟨m7, _, _, _, rfl, s7, fun j => ?_⟩
          rw [b7 j, mk j, List.length_map, sll]
          cases e : ss[j]? with
          | none => simp
          | some s =>
            have jl := (List.getElem?_eq_some_iff.mp e).1
            show (((ps.take i).any fun p => inRm nms p s) || (decide (j < ss.length) && wantB p s)) = ((ps.take (i + 1)).any fun p => inRm nms p s)
            rw [tk, List.any_append, decide_eq_true jl]
            congr 1
            simp [inRm, of_decide_eq_true y]
      · rw [if_neg (by decide), nms_in] at y
        refine ⟨m, _, _, _, rfl, s5, mk.congr fun s _ => ?_⟩
        rw [tk, List.any_append]
        have : ¬ p.nm ∈ nms := fun z => y (decide_eq_true z)
        simp [inRm, this]
    · rintro σ H5 ⟨m, v4, v5, v6, rfl, s5, mk⟩
      rw [List.length_map, pll, List.take_of_length_le (Nat.le_refl _)] at mk
      exact ⟨_, rfl, q H5 m s5 mk⟩
end
end S34
set_option maxRecDepth 100000
set_option maxHeartbeats 4000000
namespace S34
open PySem L2 XL PyProof.Rows
def spNamesL : Sp := fun vs H Q _ => ∃ (lf lo : Addr) (nms sm : List Str), vs = [.ref lf, .ref lo] ∧ H lf = some (.lst (nms.map V.str)) ∧ H lo = some (.lst (sm.map V.str)) ∧ nms.Nodup ∧ nms.length ≤ 1000 ∧ (∀ x ∈ nms, x ∈ sm) ∧ Q (.bl true) H
theorem Run.crowd {room : Str → List Seat} {ns : List Str} {so : Str → Option Seat} {ho : Seat → Option Str} {cs : List (Str × List Str)} (r : Run room ns so ho cs) (nd : ns.Nodup) : ∀ c ∈ cs, ∃ so0 ho0, Kp.Mt room so0 ho0 ∧ Kp.Crowd room so0 c.1 c.2 ∧ ∀ z ∈ c.1 :: c.2, z ∈ ns := by
  induction r with
  | nil => exact fun _ z => nomatch z
  | inn _ _ _ _ ih =>
    intro c hc
    rw [List.nodup_append] at nd
    obtain ⟨so0, ho0, a1, a2, a3⟩ := ih nd.1 c hc
    exact ⟨so0, ho0, a1, a2, fun z hz => List.mem_append_left _ (a3 z hz)⟩
  | @out ns so ho cs nm hs r cw rc ih =>
    intro c hc
    rw [List.nodup_append] at nd
    rcases List.mem_append.mp hc with hc | hc
    · obtain ⟨so0, ho0, a1, a2, a3⟩ := ih nd.1 c hc
      exact ⟨so0, ho0, a1, a2, fun z hz => List.mem_append_left _ (a3 z hz)⟩
    · rw [List.mem_singleton.mp hc]
      refine ⟨so, ho, r.mt, cw, fun z hz => ?_⟩
      rcases List.mem_cons.mp hz with rfl | hz
      · exact List.mem_append_right _ (List.mem_singleton.mpr rfl)
      · have k := cw.has z hz
        rw [r.dom nd.1 z, Bool.and_eq_true] at k
        exact List.mem_append_left _ (of_decide_eq_true k.1)
theorem tog_iff {room : Str → List Seat} {T : List Str} {s : Seat} : Kp.tog room T s = true ↔ ∃ n ∈ T, s ∈ room n := by
  unfold Kp.tog
  rw [List.any_eq_true]
  simp only [decide_eq_true_iff]
theorem room_any {ps : List Pt} {ss : List Seat} (nd : (nmsOf ps).Nodup) {nms : List Str} (hn : ∀ x ∈ nms, x ∈ nmsOf ps) (s : Seat) (hs : s ∈ ss) : (ps.any fun z => inRm nms z s) = Kp.tog (roomOf ps ss) nms s := by
  rw [Bool.eq_iff_iff, List.any_eq_true, tog_iff]
  constructor
  · rintro ⟨z, hz, e⟩
    unfold inRm at e
    rw [Bool.and_eq_true] at e
    refine ⟨z.nm, of_decide_eq_true e.1, ?_⟩
    unfold roomOf
    rw [find_nm nd hz]
    exact List.mem_filter.mpr ⟨hs, e.2⟩
  · rintro ⟨n, hn', z⟩
    obtain ⟨p, hp, en⟩ := List.mem_map.mp (hn n hn')
    have en : p.nm = n := en
    subst en
    unfold roomOf at z
    rw [find_nm nd hp] at z
    refine ⟨p, hp, ?_⟩
    unfold inRm
    rw [decide_eq_true hn', (List.mem_filter.mp z).2]
    rfl
theorem room_in {ps : List Pt} {ss : List Seat} (n : Str) (s : Seat) (h : s ∈ roomOf ps ss n) : s ∈ ss := by
  unfold roomOf at h
  split at h
  · exact (List.mem_filter.mp h).1
  · exact nomatch h
theorem Run.ahead {room : Str → List Seat} {ns : List Str} {so : Str → Option Seat} {ho : Seat → Option Str} {cs : List (Str × List Str)} (r : Run room ns so ho cs) (nd : ns.Nodup) : ∀ c ∈ cs, ∀ h ∈ c.2, h ∈ keptOf ns cs ∧ ns.idxOf h < ns.idxOf c.1 := by
  have ix : ∀ {ns : List Str} {nm h : Str}, h ∈ ns → (ns ++ [nm]).idxOf h = ns.idxOf h := fun {ns nm h} m => by rw [List.idxOf_append, if_pos m]
  induction r with
  | nil => exact fun _ z => nomatch z
  | @inn ns so so' ho ho' cs nm r mt dm rc ih =>
    intro c hc h hh
    rw [List.nodup_append] at nd
    obtain ⟨a1, a2⟩ := ih nd.1 c hc h hh
    have m1 := (List.mem_filter.mp a1).1
    have m2 : c.1 ∈ ns := r.outs.1 _ (List.mem_map.mpr ⟨c, hc, rfl⟩)
    rw [ix m1, ix m2]
    exact ⟨List.mem_filter.mpr ⟨List.mem_append_left _ m1, (List.mem_filter.mp a1).2⟩, a2⟩
  | @out ns so ho cs nm hs r cw rc ih =>
    intro c hc h hh
    rw [List.nodup_append] at nd
    have h1 : nm ∉ ns := fun h => nd.2.2 nm h nm (List.mem_singleton.mpr rfl) rfl
    have up : ∀ z, z ∈ keptOf ns cs → z ∈ keptOf (ns ++ [nm]) (cs ++ [(nm, hs)]) := fun z hz => by
      have k := List.mem_filter.mp hz
      refine List.mem_filter.mpr ⟨List.mem_append_left _ k.1, ?_⟩
      have ne : z ≠ nm := fun e => h1 (e ▸ k.1)
      have k2 := k.2
      rw [List.map_append]
      simp only [Bool.not_eq_true', decide_eq_false_iff_not] at k2 ⊢
      intro m
      rcases List.mem_append.mp m with m | m
      · exact k2 m
      · exact ne (List.mem_singleton.mp m)
    rcases List.mem_append.mp hc with hc | hc
    · obtain ⟨a1, a2⟩ := ih nd.1 c hc h hh
      have m1 := (List.mem_filter.mp a1).1
      have m2 : c.1 ∈ ns := r.outs.1 _ (List.mem_map.mpr ⟨c, hc, rfl⟩)
      rw [ix m1, ix m2]
      exact ⟨up h a1, a2⟩
    · have hc := List.mem_singleton.mp hc
      subst hc
      have k := cw.has h hh
      rw [r.dom nd.1 h, Bool.and_eq_true] at k
      have m1 := of_decide_eq_true k.1
      refine ⟨up h (List.mem_filter.mpr ⟨m1, k.2⟩), ?_⟩
      rw [ix m1, List.idxOf_append, if_neg h1]
      have := List.idxOf_lt_length_of_mem m1
      omega
section
variable {P : Program} {w : World} {K : PySem.W.Frag} {mg : Str → Option Value} {base : Heap} {t : Adr}
theorem ok_law_names (T : Txt w K mg t) : FnOk true P w K mg base (CXo P w) 1 t.f_law_names t.d_law_names ["_law_found", "_law_some"] (spNamesL) := by
  refine T.F_law_names.okn (k := 0) sc_law_names (fun vs H Q E h => ?_) (fun cdv A outer s H vs Q E hr h => ?_)
  · obtain ⟨lf, lo, nms, sm, rfl, _⟩ := h
    rfl
  · obtain ⟨lf, lo, nms, sm, rfl, h⟩ := h
    refine ⟨_, pss_cons (ps_if (PW.pt (pw_or (pt_not (pt_val (pe_callB call_isin rfl T.n_isinstance boot_isinstance (pa_cons (pv 0) (pa_cons (pe_bltn (v := .ty "list") rfl T.n_list boot_list rfl) (pa_nil)))))) (pw_or1 (pt_cmpR op_ne (pe_lenSet rfl rfl T.n_len rfl T.n_set (pa_cons (pv 0) (pa_nil))) (pe_callB call_len_seq rfl T.n_len boot_len (pa_cons (pv 0) (pa_nil))) (nomark _))))) (pss_one (ps_ret (pe_bl))) (pss_nil))
      (pss_cons (ps_for PassesOwn.never rfl (pi_list (pv 0)) (pg_name (i := 2) sc_law_names.nd rfl (Or.inl rfl)) (pss_one (ps_if (PW.pt (pw_or (pt_not (pt_val (pe_callB call_isin rfl T.n_isinstance boot_isinstance (pa_cons (pv 2) (pa_cons (pe_bltn (v := .ty "str") rfl T.n_str boot_str rfl) (pa_nil)))))) (pw_or1 (pt_cmpR (op_notInV (hu20_of hr)) (pv 2) (pv 1) (by rfl))))) (pss_one (ps_ret (pe_bl))) (pss_nil))))
      (pss_one (ps_ret (pe_bl)))), ?_⟩
    obtain ⟨hlf, hlo, nnd, n1000, sub, q⟩ := h
    refine ⟨_, rfl, _, _, rfl, .inl ⟨_, _, true, .lst hlf, rfl, kit_same, true, rfl, ifN (by decide) ?_⟩⟩
    refine ⟨_, rfl, lf, nms, rfl, SqL.of hlf, n1000, _, rfl, lf, _, rfl, .inl (SqL.of hlf), rfl, _, rfl, ifN (by rw [unlike_nd nnd, List.length_map]; simp) ?_⟩
    refine ⟨_, rfl, lf, rfl, ⟨_, SqL.of hlf⟩, ?_⟩
    refine for_list (xs := nms.map V.str) (Pv := fun i σ H5 => H = H5 ∧ ∃ v2 : Option V, σ = [some (.ref lf), some (.ref lo), v2]) ⟨rfl, _, rfl⟩ ?_ ?_ ?_
    · rintro i σ _ _ ⟨rfl, _, rfl⟩
      exact SqL.of hlf
    · rintro i x σ _ hx ⟨rfl, v2, rfl⟩
      rw [List.getElem?_map, Option.map_eq_some_iff] at hx
      obtain ⟨nm, hnm, rfl⟩ := hx
      refine ⟨_, rfl, _, _, rfl, .inl ⟨_, _, true, .str _, rfl, kit_same, true, rfl, ifN (by decide) ?_⟩⟩
      exact ⟨_, rfl, _, rfl, 0, 1, .str nm, _, .str, nms_dv hlo, by decide, by decide, _, rfl, ifN (by rw [if_pos rfl, nms_in, decide_eq_true (sub nm (List.mem_of_getElem? hnm))]; decide) ⟨rfl, _, rfl⟩⟩
    · rintro σ _ ⟨rfl, v2, rfl⟩
      exact q
end
def spFits (t : Adr) : Sp := fun vs H Q _ => ∃ (a ln dp do_ : Addr) (w h : Nat) (ps : List Pt) (ss srt : List Seat) (names : List Str), vs = [.ref a, .ref ln] ∧ Dr t H a dp do_ w h ps ss srt ∧ H ln = some (.lst (names.map V.str)) ∧ (∀ nm ∈ names, ∃ p ∈ ps, p.nm = nm) ∧ names.Nodup ∧ names.length ≤ 12 ∧
  ∀ H' v cs so ho, Same H H' → Run (roomOf ps srt) names so ho cs → ((cs = [] ∧ v = .non) ∨ ∃ l c r, cs = c :: r ∧ v = .ref l ∧ H l = none ∧ H' l = some (.lst ((c.1 :: c.2).map V.str))) → Q v H'
def spCrowdL : Sp := fun vs H Q _ => ∃ (lp ls lf lo : Addr) (ps : List Pt) (ss : List Seat) (qs rs : List Addr) (nms sm : List Str), vs = [.ref lp, .ref ls, .ref lf, .ref lo] ∧ H lp = some (.lst (qs.map V.ref)) ∧ PtsL H ps qs ∧ H ls = some (.lst (rs.map V.ref)) ∧ SeatsL H ss rs ∧ ss.length ≤ 32 ∧ H lf = some (.lst (nms.map V.str)) ∧ H lo = some (.lst (sm.map V.str)) ∧ nms.Nodup ∧ nms.length ≤ 1000 ∧ (∀ x ∈ nms, x ∈ sm) ∧
  (ss.countP fun s => ps.any fun p => inRm nms p s) < nms.length ∧ ∀ H', Same H H' → Q (.bl true) H'
section
variable {P : Program} {w : World} {K : PySem.W.Frag} {mg : Str → Option Value} {base : Heap} {t : Adr}
theorem ok_fits (T : Txt w K mg t) : FnOk true P w K mg base (CXo P w) 8 t.f_fits t.d_fits ["picture", "names"] (spFits t) := by
  refine T.F_fits.okn (k := 7) sc_fits (fun vs H Q E h => ?_) (fun cdv A outer s H vs Q E hr h => ?_)
  · obtain ⟨a, ln, dp, do_, w', h', ps, ss, srt, names, rfl, _⟩ := h
    rfl
  · obtain ⟨a, ln, dp, do_, w', h', ps, ss, srt, names, rfl, h⟩ := h
    refine ⟨_, pss_cons (ps_set (i := 2) sc_fits.nd rfl (Or.inl rfl) (pe_call (ok_crowds T) (hr.mono (by decide)) rfl T.g_crowds T.F_crowds.kp T.b_crowds .nil pass_none (pa_cons (pv 0) (pa_cons (pv 1) (pa_nil)))))
      (pss_one (ps_ret (pe_ifExp (pt_truth (pv 2) (fun _ => rfl)) (pe_ix ix_list (pv 2) (pe_int) (fun _ _ => rfl)) (pe_non)))), ?_⟩
    obtain ⟨dr, hln, nps, nnd, n12, q⟩ := h
    refine ⟨_, rfl, _, rfl, a, ln, dp, do_, w', h', ps, ss, srt, names, rfl, dr, hln, nps, nnd, n12, fun H1 l1 qs cs so ho s1 fl1 e1 cr1 fq1 run => ?_⟩
    refine ⟨_, rfl, _, .inl ⟨_, SqL.of e1, rfl⟩, ?_⟩
    cases cr1 with
    | nil => exact ifN (by decide) (q H1 .non [] so ho s1 run (.inl ⟨rfl, rfl⟩))
    | @cons c q0 cs qs h r =>
      refine ifP (by rfl) ⟨_, rfl, l1, _, 0, .ref q0, rfl, rfl, SqL.of e1, atI_nat (j := 0) rfl, q H1 (.ref q0) (c :: cs) so ho s1 run (.inr ⟨q0, c, cs, rfl, rfl, fq1 q0 (List.mem_cons_self ..), h⟩)⟩
theorem ok_law_crowd (T : Txt w K mg t) : FnOk true P w K mg base (CXo P w) 3 t.f_law_crowd t.d_law_crowd ["_law_points_here", "_law_seats_here", "_law_found", "_law_some"] (spCrowdL) := by
  refine T.F_law_crowd.okn (k := 2) sc_law_crowd (fun vs H Q E h => ?_) (fun cdv A outer s H vs Q E hr h => ?_)
  · obtain ⟨lp, ls, lf, lo, ps, ss, qs, rs, nms, sm, rfl, _⟩ := h
    rfl
  · obtain ⟨lp, ls, lf, lo, ps, ss, qs, rs, nms, sm, rfl, h⟩ := h
    refine ⟨_, pss_cons (ps_if (pt_not (pt_val (pe_call (ok_law_names T) (hr.mono (by decide)) rfl T.g_law_names T.F_law_names.kp T.b_law_names .nil pass_none (pa_cons (pv 2) (pa_cons (pv 3) (pa_nil)))))) (pss_one (ps_ret (pe_bl))) (pss_nil))
      (pss_one (ps_ret (pe_cmpR op_lt (pe_call (ok_law_many T) (hr.mono (by decide)) rfl T.g_law_many T.F_law_many.kp T.b_law_many .nil pass_none (pa_cons (pe_call (ok_law_room T) (hr.mono (by decide)) rfl T.g_law_room T.F_law_room.kp T.b_law_room .nil pass_none (pa_cons (pv 0) (pa_cons (pv 1) (pa_cons (pv 2) (pa_nil))))) (pa_nil))) (pe_callB call_len_seq rfl T.n_len boot_len (pa_cons (pv 2) (pa_nil))) (nomark _)))), ?_⟩
    obtain ⟨hlp, ptl, hls, stl, s32, hlf, hlo, nnd, n1000, sub, few, q⟩ := h
    refine ⟨_, rfl, _, rfl, lf, lo, nms, sm, rfl, hlf, hlo, nnd, n1000, sub, _, rfl, ifN (by decide) ?_⟩
    refine ⟨_, rfl, _, rfl, _, rfl, lp, ls, lf, ps, ss, qs, rs, nms, rfl, hlp, ptl, hls, stl, s32, hlf, fun H1 m s1 mk => ?_⟩
    refine ⟨m, rfl, _, rfl, lf, _, rfl, .inl (SqL.of (s1 _ _ hlf)), _, _, rfl, rfl, ?_⟩
    have e : decide ((Kp.pc m : Int) < ((nms.map V.str).length : Int)) = true := decide_eq_true (by rw [mk.pc, List.length_map]; omega)
    simp only [e]
    exact q H1 s1
end
end S34
set_option maxRecDepth 100000
set_option maxHeartbeats 4000000
namespace S34
open PySem L2 XL PyProof.Rows
theorem Run.few {room : Str → List Seat} {ss : List Seat} (snd : ss.Nodup) (hr : ∀ n s, s ∈ room n → s ∈ ss) {ns : List Str} {so : Str → Option Seat} {ho : Seat → Option Str} {cs : List (Str × List Str)} (r : Run room ns so ho cs) (nd : ns.Nodup) : (∃ S ∈ Kp.subs ns.reverse, ss.countP (Kp.tog room S) < S.length) ↔ cs ≠ [] := by
  constructor
  · rintro ⟨S, hS, lt⟩ e
    subst e
    have rnd : ns.reverse.Nodup := (List.reverse_perm _).nodup_iff.mpr nd
    have := Kp.hall r.mt hr (Kp.subs_nd rnd hS) fun a ha => by
      rw [r.dom nd a, decide_eq_true (List.mem_reverse.mp ((Kp.subs_mem hS).1 a ha))]
      simp
    omega
  · intro ne
    cases cs with
    | nil => exact absurd rfl ne
    | cons c cs =>
      obtain ⟨so0, ho0, a1, a2, a3⟩ := r.crowd nd c (List.mem_cons_self ..)
      obtain ⟨S, hS, pS⟩ := Kp.subs_all (l := ns.reverse) a2.nd fun a ha => List.mem_reverse.mpr (a3 a ha)
      refine ⟨S, hS, ?_⟩
      have ec : ss.countP (Kp.tog room S) = ss.countP (Kp.tog room (c.1 :: c.2)) := by
        congr 1
        funext s
        exact Kp.tog_perm pS s
      rw [ec, a2.count a1 snd hr, pS.length_eq, List.length_cons]
      omega
theorem sub_back {α : Type} [DecidableEq α] {l m : List α} (nd : l.Nodup) (h : ∀ x ∈ l, x ∈ m) (le : m.length ≤ l.length) : ∀ x ∈ m, x ∈ l := fun x hx => by
  by_cases c : x ∈ l
  · exact c
  · have := (List.nodup_cons.mpr ⟨c, nd⟩).length_le_of_subset (l₂ := m) fun z hz => by
      rcases List.mem_cons.mp hz with rfl | hz
      · exact hx
      · exact h z hz
    rw [List.length_cons] at this
    omega
theorem Run.tight {room : Str → List Seat} {ss : List Seat} (snd : ss.Nodup) (hr : ∀ n s, s ∈ room n → s ∈ ss) {ns : List Str} {so : Str → Option Seat} {ho : Seat → Option Str} {cs : List (Str × List Str)} (r : Run room ns so ho cs) (nd : ns.Nodup) : ∀ c ∈ cs, (∀ h ∈ c.2, (so h).isSome) ∧ ∀ z ∈ c.1 :: c.2, ∀ s ∈ room z, ∃ h ∈ c.2, so h = some s := by
  intro c hc
  obtain ⟨so0, ho0, a1, a2, a3⟩ := r.crowd nd c hc
  have kept : ∀ h ∈ c.2, (so h).isSome := fun h hh => by
    have k := List.mem_filter.mp (r.ahead nd c hc h hh).1
    rw [r.dom nd h, decide_eq_true k.1, k.2]
    rfl
  refine ⟨kept, fun z hz s hs => ?_⟩
  have cnt := a2.count a1 snd hr
  rw [List.countP_eq_length_filter] at cnt
  have hnd := (List.nodup_cons.mp a2.nd).2
  have back := sub_back (l := c.2.filterMap so) (m := ss.filter (Kp.tog room (c.1 :: c.2))) (Kp.filterMap_nd hnd fun a _ b _ s ha hb => r.mt.inj ha hb) (fun x hx => by
    obtain ⟨h, hh, e⟩ := List.mem_filterMap.mp hx
    have rm := r.mt.rm h x e
    exact List.mem_filter.mpr ⟨hr h x rm, tog_iff.mpr ⟨h, List.mem_cons_of_mem _ hh, rm⟩⟩) (by rw [Kp.filterMap_len kept, cnt]; exact Nat.le_refl _)
  obtain ⟨h, hh, e⟩ := List.mem_filterMap.mp (back s (List.mem_filter.mpr ⟨hr z s hs, tog_iff.mpr ⟨z, hz, hs⟩⟩))
  exact ⟨h, hh, e⟩
def addNew (acc hs : List Str) : List Str := acc ++ hs.filter fun z => !decide (z ∈ acc)
def allH (cs : List (Str × List Str)) : List Str := cs.foldl (fun acc c => addNew acc c.2) []
theorem allH_ok {cs : List (Str × List Str)} (nd : ∀ c ∈ cs, c.2.Nodup) : (allH cs).Nodup ∧ ∀ z, z ∈ allH cs ↔ ∃ c ∈ cs, z ∈ c.2 := by
  have key : ∀ (cs : List (Str × List Str)) (acc : List Str), (∀ c ∈ cs, c.2.Nodup) → acc.Nodup → (cs.foldl (fun acc c => addNew acc c.2) acc).Nodup ∧ ∀ z, z ∈ cs.foldl (fun acc c => addNew acc c.2) acc ↔ z ∈ acc ∨ ∃ c ∈ cs, z ∈ c.2 := by
    intro cs
    induction cs with
    | nil => exact fun acc _ h => ⟨h, fun z => ⟨.inl, fun y => y.elim id fun ⟨_, h, _⟩ => nomatch h⟩⟩
    | cons c cs ih =>
      intro acc hn ha
      have an : (addNew acc c.2).Nodup := by
        unfold addNew
        rw [List.nodup_append]
        refine ⟨ha, List.Pairwise.filter _ (hn c (List.mem_cons_self ..)), fun x hx y hy e => ?_⟩
        have k := (List.mem_filter.mp hy).2
        rw [← e] at k
        simp [hx] at k
      obtain ⟨h1, h2⟩ := ih (addNew acc c.2) (fun d hd => hn d (List.mem_cons_of_mem _ hd)) an
      refine ⟨h1, fun z => (h2 z).trans ?_⟩
      unfold addNew
      rw [List.mem_append, List.mem_filter]
      constructor
      · rintro ((h | ⟨h, _⟩) | ⟨d, hd, h⟩)
        · exact .inl h
        · exact .inr ⟨c, List.mem_cons_self .., h⟩
        · exact .inr ⟨d, List.mem_cons_of_mem _ hd, h⟩
      · rintro (h | ⟨d, hd, h⟩)
        · exact .inl (.inl h)
        · rcases List.mem_cons.mp hd with rfl | hd
          · by_cases k : z ∈ acc
            · exact .inl (.inl k)
            · exact .inl (.inr ⟨h, by simp [k]⟩)
          · exact .inr ⟨d, hd, h⟩
  obtain ⟨h1, h2⟩ := key cs [] nd List.nodup_nil
  exact ⟨h1, fun z => (h2 z).trans ⟨fun y => y.elim (fun k => nomatch k) id, .inr⟩⟩
structure Full (room : Str → List Seat) (ss : List Seat) (so : Str → Option Seat) (keep gone hs : List Str) : Prop where
  nd : hs.Nodup
  kp : ∀ h ∈ hs, h ∈ keep
  has : ∀ h ∈ hs, (so h).isSome
  all : ∀ z ∈ hs ++ gone, ∀ s ∈ room z, ∃ h ∈ hs, so h = some s
theorem Run.full {room : Str → List Seat} {ss : List Seat} (snd : ss.Nodup) (hr : ∀ n s, s ∈ room n → s ∈ ss) {ns : List Str} {so : Str → Option Seat} {ho : Seat → Option Str} {cs : List (Str × List Str)} (r : Run room ns so ho cs) (nd : ns.Nodup) : Full room ss so (keptOf ns cs) (cs.map (·.1)) (allH cs) := by
  have cn : ∀ c ∈ cs, c.2.Nodup := fun c hc => by
    obtain ⟨_, _, _, a2, _⟩ := r.crowd nd c hc
    exact (List.nodup_cons.mp a2.nd).2
  obtain ⟨h1, h2⟩ := allH_ok cn
  refine ⟨h1, fun h hh => ?_, fun h hh => ?_, fun z hz s hs => ?_⟩
  · obtain ⟨c, hc, hm⟩ := (h2 h).mp hh
    exact (r.ahead nd c hc h hm).1
  · obtain ⟨c, hc, hm⟩ := (h2 h).mp hh
    exact (r.tight snd hr nd c hc).1 h hm
  · have key : ∃ c ∈ cs, z ∈ c.1 :: c.2 := by
      rcases List.mem_append.mp hz with hz | hz
      · obtain ⟨c, hc, hm⟩ := (h2 z).mp hz
        exact ⟨c, hc, List.mem_cons_of_mem _ hm⟩
      · obtain ⟨c, hc, rfl⟩ := List.mem_map.mp hz
        exact ⟨c, hc, List.mem_cons_self ..⟩
    obtain ⟨c, hc, hm⟩ := key
    obtain ⟨h, hh, e⟩ := (r.tight snd hr nd c hc).2 z hm s hs
    exact ⟨h, (h2 h).mpr ⟨c, hc, hh⟩, e⟩
theorem Full.count {room : Str → List Seat} {ss : List Seat} (snd : ss.Nodup) (hr : ∀ n s, s ∈ room n → s ∈ ss) {so : Str → Option Seat} {ho : Seat → Option Str} (mt : Kp.Mt room so ho) {keep gone hs : List Str} (f : Full room ss so keep gone hs) : ss.countP (Kp.tog room (hs ++ gone)) = hs.length := by
  rw [List.countP_eq_length_filter, ← Kp.filterMap_len f.has]
  refine Nat.le_antisymm ?_ ?_
  · refine List.Nodup.length_le_of_subset (List.Pairwise.filter _ snd) fun s hs' => ?_
    obtain ⟨n, hn, e⟩ := tog_iff.mp (List.mem_filter.mp hs').2
    obtain ⟨h, hh, e'⟩ := f.all n hn s e
    exact List.mem_filterMap.mpr ⟨h, hh, e'⟩
  · refine List.Nodup.length_le_of_subset (Kp.filterMap_nd f.nd fun a _ b _ s ha hb => mt.inj ha hb) fun s hs' => ?_
    obtain ⟨n, hn, e⟩ := List.mem_filterMap.mp hs'
    have rm := mt.rm n s e
    exact List.mem_filter.mpr ⟨hr n s rm, tog_iff.mpr ⟨n, List.mem_append_left _ hn, rm⟩⟩
theorem len_split {α : Type} (p : α → Bool) : ∀ l : List α, l.length = (l.filter p).length + (l.filter fun z => !p z).length
  | [] => rfl
  | a :: l => by
    have ih := len_split p l
    cases e : p a
    · rw [List.filter_cons_of_neg (by rw [e]; decide), List.filter_cons_of_pos (by rw [e]; rfl), List.length_cons, List.length_cons]
      omega
    · rw [List.filter_cons_of_pos e, List.filter_cons_of_neg (by rw [e]; decide), List.length_cons, List.length_cons]
      omega
theorem Run.most {room : Str → List Seat} {ss : List Seat} (snd : ss.Nodup) (hr : ∀ n s, s ∈ room n → s ∈ ss) {ns : List Str} {so : Str → Option Seat} {ho : Seat → Option Str} {cs : List (Str × List Str)} (r : Run room ns so ho cs) (nd : ns.Nodup) {T : List Str} (tnd : T.Nodup) (tin : ∀ x ∈ T, x ∈ ns) {so2 : Str → Option Seat} {ho2 : Seat → Option Str} (r2 : Run room T so2 ho2 []) : T.length ≤ (keptOf ns cs).length := by
  have f := r.full snd hr nd
  generalize hF : allH cs ++ cs.map (·.1) = F at *
  have has2 : ∀ a ∈ T, (so2 a).isSome := fun a ha => by
    rw [r2.dom tnd a, decide_eq_true ha]
    simp
  -- those of T within F have seats among those of the holders
  have inF : (T.filter fun z => decide (z ∈ F)).length ≤ (allH cs).length := by
    have h1 : ∀ a ∈ T.filter fun z => decide (z ∈ F), (so2 a).isSome := fun a ha => has2 a (List.mem_filter.mp ha).1
    rw [← Kp.filterMap_len h1, ← Kp.filterMap_len f.has]
    refine List.Nodup.length_le_of_subset (Kp.filterMap_nd (List.Pairwise.filter _ tnd) fun a _ b _ s ha hb => r2.mt.inj ha hb) fun s hs => ?_
    obtain ⟨a, ha, e⟩ := List.mem_filterMap.mp hs
    have aF : a ∈ F := of_decide_eq_true (List.mem_filter.mp ha).2
    obtain ⟨h, hh, e'⟩ := f.all a (hF ▸ aF) s (r2.mt.rm a s e)
    exact List.mem_filterMap.mpr ⟨h, hh, e'⟩
  have knd : (keptOf ns cs).Nodup := List.Pairwise.filter _ nd
  have outF : (T.filter fun z => !decide (z ∈ F)).length ≤ ((keptOf ns cs).filter fun z => !decide (z ∈ allH cs)).length := by
    refine List.Nodup.length_le_of_subset (List.Pairwise.filter _ tnd) fun a ha => ?_
    obtain ⟨h1, h2⟩ := List.mem_filter.mp ha
    have nF : a ∉ F := by simpa using h2
    rw [← hF, List.mem_append, not_or] at nF
    exact List.mem_filter.mpr ⟨List.mem_filter.mpr ⟨tin a h1, by simpa using nF.2⟩, by simpa using nF.1⟩
  have hin : (allH cs).length ≤ ((keptOf ns cs).filter fun z => decide (z ∈ allH cs)).length := List.Nodup.length_le_of_subset f.nd fun h hh => List.mem_filter.mpr ⟨f.kp h hh, decide_eq_true hh⟩
  have sp1 := len_split (fun z => decide (z ∈ F)) T
  have sp2 := len_split (fun z => decide (z ∈ allH cs)) (keptOf ns cs)
  omega
def spDrawnD : Sp := fun vs H Q _ => ∃ (lp : Addr) (ps : List Pt) (qs : List Addr) (c : Int) (dg : Bool), vs = [.ref lp, .int c, .bl dg] ∧ H lp = some (.lst (qs.map V.ref)) ∧ PtsL H ps qs ∧ (nmsOf ps).Nodup ∧ ps.length ≤ 12 ∧
  ∀ H' l (nms : List Str), Same H H' → H l = none → H' l = some (.lst (nms.map V.str)) → nms.Nodup → (∀ x ∈ nms, x ∈ nmsOf ps) → nms.length ≤ 12 → Q (.ref l) H'
section
variable {P : Program} {w : World} {K : PySem.W.Frag} {mg : Str → Option Value} {base : Heap} {t : Adr}
theorem ok_law_drawn_names (T : Txt w K mg t) : FnOk true P w K mg base (CXo P w) 2 t.f_law_drawn_names t.d_law_drawn_names ["_law_points_here", "_law_cell", "_law_digits"] (spDrawnD) := by
  refine T.F_law_drawn_names.okn (k := 1) sc_law_drawn_names (fun vs H Q E h => ?_) (fun cdv A outer s H vs Q E hr h => ?_)
  · obtain ⟨lp, ps, qs, c, dg, rfl, _⟩ := h
    rfl
  · obtain ⟨lp, ps, qs, c, dg, rfl, h⟩ := h
    refine ⟨_, pss_cons (ps_setcG rfl (blkG_of (zs := ["_law_point_here"]) (ys := []) (fr := []) (N0 := ["_law_points_here", "_law_cell", "_law_digits", "_law_names_here", "_law_some", "_law_k", "_law_place", "_law_chance", "_law_name"]) (sc0 := defScope s_law_drawn_names) (by decide +kernel) rfl rfl rfl) (pi_list (pv 0)) (fun _ _ _ _ _ ow nd => pg_name (i := 0) nd rfl (Or.inl (ow _ (by simp))) (Or.inr (ow _ (by simp)))) (gok_name (by decide)) (fun _ _ _ _ _ => pif_nil) (fun _ _ _ _ _ => pe_ix (r := rIxT K) ix_tup (pv 0) (pe_int) (fun _ _ => rfl)) (j := 3) rfl (Or.inl rfl))
      (pss_cons (ps_set (i := 4) sc_law_drawn_names.nd rfl (Or.inl rfl) (pe_lst (pa_nil)))
      (pss_cons (ps_for PassesOwn.never rfl (pi_range1 rfl T.n_range (pa_cons (pe_callB call_len_seq rfl T.n_len boot_len (pa_cons (pv 0) (pa_nil))) (pa_nil))) (pg_name (i := 5) sc_law_drawn_names.nd rfl (Or.inl rfl)) (pss_cons (ps_set (i := 6) sc_law_drawn_names.nd rfl (Or.inl rfl) (pe_call (ok_law_mix T) (hr.mono (by decide)) rfl T.g_law_mix T.F_law_mix.kp T.b_law_mix .nil pass_none (pa_cons (pv 1) (pa_cons (pe_op op_add (pe_int) (pv 5)) (pa_nil)))))
      (pss_cons (ps_set (i := 7) sc_law_drawn_names.nd rfl (Or.inl rfl) (pe_call (ok_law_mix T) (hr.mono (by decide)) rfl T.g_law_mix T.F_law_mix.kp T.b_law_mix .nil pass_none (pa_cons (pv 1) (pa_cons (pe_op op_add (pe_int) (pv 5)) (pa_nil)))))
      (pss_cons (ps_mid (ps_if (pt_val (pv 2)) (pss_cons (ps_set (i := 6) sc_law_drawn_names.nd rfl (Or.inl rfl) (pv 1))
      (pss_cons (ps_set (i := 7) sc_law_drawn_names.nd rfl (Or.inl rfl) (pe_op op_fdiv (pv 1) (pe_callB call_len_seq rfl T.n_len boot_len (pa_cons (pv 3) (pa_nil)))))
      (pss_one (ps_set (i := 1) sc_law_drawn_names.nd rfl (Or.inl rfl) (pe_op op_fdiv (pv 1) (pe_op op_mul (pe_int) (pe_callB call_len_seq rfl T.n_len boot_len (pa_cons (pv 3) (pa_nil))))))))) (pss_nil)))
      (pss_cons (ps_set (i := 8) sc_law_drawn_names.nd rfl (Or.inl rfl) (pe_bm PySem.F.plainAttrs_list PySem.F.slot_list_pop PySem.F.type_list_pop mt_popAt (pv 3) (pa_cons (pe_op op_mod (pv 6) (pe_callB call_len_seq rfl T.n_len boot_len (pa_cons (pv 3) (pa_nil)))) (pa_nil))))
      (pss_one (ps_mid (ps_if (pt_cmpR op_gt (pe_op op_mod (pv 7) (pe_int)) (pe_int) (nomark _)) (pss_one (ps_expr (pe_bm PySem.F.plainAttrs_list PySem.F.slot_list_append PySem.F.type_list_append mt_append (pv 4) (pa_cons (pv 8) (pa_nil))))) (pss_nil)))))))))
      (pss_one (ps_ret (pv 4))))), ?_⟩
    obtain ⟨hlp, ptl, nnd, p12, q⟩ := h
    have pll := ptl.len
    refine ⟨_, rfl, lp, rfl, ⟨_, SqL.of hlp⟩, fun l2 hl2 => ?_⟩
    refine comp_list (SqL.of hlp) (by rw [List.length_map]; exact Nat.lt_of_le_of_lt (by omega : _ ≤ 1000) (by decide)) hl2 (fun i y _ => ∃ p, ps[i]? = some p ∧ y = .str p.nm) (fun _ _ _ _ _ z => z) (fun i x H2 hx s2 N hN => ?_) (fun ys H2 s2 e2 ly fy => ?_)
    · rw [List.getElem?_map, Option.map_eq_some_iff] at hx
      obtain ⟨qa, hqa, rfl⟩ := hx
      obtain ⟨p, hp, hpq⟩ := ptl.get hqa
      exact ⟨_, rfl, qa, _, 0, .str p.nm, rfl, rfl, SqT.of (s2 _ _ hpq), rfl, hN _ _ (Same.refl _) ⟨p, hp, rfl⟩⟩
    have ey : ys = (nmsOf ps).map V.str := by
      refine ys_eq (by rw [ly, List.length_map, pll]; unfold nmsOf; rw [List.length_map]) fun i y b hy hb => ?_
      obtain ⟨p, hp, rfl⟩ := fy i y hy
      unfold nmsOf at hb
      rw [List.getElem?_map, hp] at hb
      cases hb
      rfl
    rw [ey] at e2
    have nn : (nmsOf ps).length = ps.length := by unfold nmsOf; rw [List.length_map]
    refine ⟨(by show 0 ≤ sizeLine; decide), fun l3 hl3 => ?_⟩
    have s3 : Same H2 (upd H2 l3 (.lst [])) := same_upd (Same.refl _) hl3
    have g3 : upd H2 l3 (.lst []) l3 = some (.lst []) := upd_same
    revert s3 g3
    generalize upd H2 l3 (.lst []) = H3
    intro s3 g3
    have n23 : l2 ≠ l3 := ne_of_none e2 hl3
    have s03 := s2.trans s3
    have fl3 := s2.free hl3
    refine ⟨_, rfl, lp, _, rfl, .inl (SqL.of (s03 _ _ hlp)), _, rfl, by rw [List.length_map]; omega, by rw [List.length_map]; omega, ?_⟩
    refine for_range (Pv := fun k σ H5 => ∃ (c : Int) (rest some_ : List Str) (v4 v5 v6 v7 : Option V), σ = [some (.ref lp), some (.int c), some (.bl dg), some (.ref l2), some (.ref l3), v4, v5, v6, v7] ∧ Same H H5 ∧ H5 l2 = some (.lst (rest.map V.str)) ∧ H5 l3 = some (.lst (some_.map V.str)) ∧ rest.length + k = ps.length ∧ some_.length ≤ k ∧ rest.Nodup ∧ some_.Nodup ∧ (∀ x ∈ some_, x ∉ rest) ∧ (∀ x ∈ rest, x ∈ nmsOf ps) ∧ ∀ x ∈ some_, x ∈ nmsOf ps) ⟨c, nmsOf ps, [], _, _, _, _, rfl, s03, s3 _ _ e2, g3, by omega, Nat.le_refl _, nnd, List.nodup_nil, fun _ z => (nomatch z), fun _ z => z, fun _ z => (nomatch z)⟩ ?_ ?_
    · rintro k σ H5 hk ⟨c, rest, some_, v4, v5, v6, v7, rfl, s5, e5r, e5s, rl, sl, rnd, snd, dis, rin, sin⟩
      rw [List.length_map] at hk
      have kp : k < ps.length := by omega
      have rne : rest ≠ [] := fun z => by
        rw [z] at rl
        simp at rl
        omega
      have rp : (0 : Int) < (((rest.map V.str).length : Nat) : Int) := by
        rw [List.length_map]
        have := List.length_pos_iff.mpr rne
        omega
      refine ⟨_, rfl, _, rfl, _, _, rfl, rfl, c, _, rfl, fun m0 _ _ => ?_⟩
      refine ⟨_, rfl, _, rfl, _, _, rfl, rfl, c, _, rfl, fun m1 _ _ => ?_⟩
      refine ⟨fun σ H6 => H5 = H6 ∧ ∃ c' m m2 : Int, σ = [some (.ref lp), some (.int c'), some (.bl dg), some (.ref l2), some (.ref l3), some (.int (0 + (k : Int))), some (.int m), some (.int m2), v7], ?_, ?_⟩
      · refine ⟨_, rfl, dg, rfl, ite2 (fun y => ?_) (fun y => ⟨rfl, c, m0, m1, rfl⟩)⟩
        refine ⟨_, rfl, _, rfl, _, rfl, l2, _, rfl, .inl (SqL.of e5r), _, _, rfl, rfl, ⟨rp, by rw [List.length_map]; omega⟩, ?_⟩
        exact ⟨_, rfl, _, rfl, l2, _, rfl, .inl (SqL.of e5r), _, _, rfl, rfl, .inl ⟨by decide, by decide⟩, _, _, rfl, rfl, ⟨by omega, by rw [List.length_map]; omega⟩, rfl, _, _, _, rfl⟩
      rintro σ _ ⟨rfl, c', m, mc, rfl⟩
      refine ⟨_, rfl, .inl ⟨rfl, _, SqL.of e5r⟩, _, rfl, ?_⟩
      obtain ⟨j, vj, gj, a1, a2, a3, a4⟩ := pop_at m (xs := rest.map V.str) (fun z => rne (List.map_eq_nil_iff.mp z)) (by rw [List.length_map]; omega)
      rw [List.getElem?_map, Option.map_eq_some_iff] at gj
      obtain ⟨nm, hnm, rfl⟩ := gj
      refine ⟨_, rfl, l2, _, rfl, .inl (SqL.of e5r), _, _, rfl, rfl, a4, l2, _, _, j, .str nm, rfl, rfl, e5r, a1, a2, a3, (by rw [List.getElem?_map, hnm]; rfl), ?_⟩
      have ee : (rest.map V.str).eraseIdx j = (rest.eraseIdx j).map V.str := by
        rw [List.eraseIdx_eq_take_drop_succ, List.eraseIdx_eq_take_drop_succ, List.map_append, List.map_take, List.map_drop]
      rw [ee]
      have k6 : ∀ b u, b ≠ l2 → H5 b = some u → upd H5 l2 (.lst ((rest.eraseIdx j).map V.str)) b = some u := fun b u nb e => by rw [upd_ne nb]; exact e
      have g6 : upd H5 l2 (.lst ((rest.eraseIdx j).map V.str)) l2 = some (.lst ((rest.eraseIdx j).map V.str)) := upd_same
      revert k6 g6
      generalize upd H5 l2 (.lst ((rest.eraseIdx j).map V.str)) = H6
      intro k6 g6
      obtain ⟨o1, o2, o3, o4⟩ := erase_okV rnd hnm
      have jl := (List.getElem?_eq_some_iff.mp hnm).1
      have el : (rest.eraseIdx j).length + 1 = rest.length := by
        rw [List.length_eraseIdx, if_pos jl]
        omega
      have s6 : Same H H6 := fun b u e => k6 _ _ (ne_of_none e hl2) (s5 _ _ e)
      have e6s := k6 _ _ (Ne.symm n23) e5s
      refine ⟨_, ?_, fun _ _ z => z⟩
      refine ⟨_, rfl, _, _, rfl, rfl, (by show (0 : Int) < 4; decide), _, _, rfl, rfl, _, rfl, ite2 (fun y => ?_) (fun y => ?_)⟩
      · refine ⟨_, rfl, .inl ⟨rfl, _, SqL.of e6s⟩, _, rfl, l3, _, _, rfl, rfl, e6s, ?_, ?_⟩
        · rw [List.length_map]
          exact Nat.lt_of_le_of_lt (by omega : _ ≤ 1000) (by decide)
        refine ⟨c', rest.eraseIdx j, some_ ++ [nm], _, _, _, _, rfl, fun b u e => by rw [upd_ne (ne_of_none e fl3)]; exact s6 _ _ e, by rw [upd_ne n23]; exact g6, by rw [upd_same, List.map_append]; rfl, by omega, by rw [List.length_append, List.length_singleton]; omega, o1, ?_, fun x hx => ?_, fun x hx => rin x (o3 x hx), fun x hx => ?_⟩
        · rw [List.nodup_append]
          exact ⟨snd, by simp, fun x hx y hy e => dis x hx (by rw [e, List.mem_singleton.mp hy]; exact o4)⟩
        · rcases List.mem_append.mp hx with hx | hx
          · exact fun z => dis x hx (o3 x z)
          · rw [List.mem_singleton.mp hx]
            exact o2
        · rcases List.mem_append.mp hx with hx | hx
          · exact sin x hx
          · rw [List.mem_singleton.mp hx]
            exact rin nm o4
      · exact ⟨c', rest.eraseIdx j, some_, _, _, _, _, rfl, s6, g6, e6s, by omega, by omega, o1, snd, fun x hx z => dis x hx (o3 x z), fun x hx => rin x (o3 x hx), sin⟩
    · rintro σ H5 ⟨_, rest, some_, v4, v5, v6, v7, rfl, s5, e5r, e5s, rl, sl, rnd, snd, dis, rin, sin⟩
      rw [List.length_map] at sl
      exact ⟨_, rfl, q H5 l3 some_ s5 fl3 e5s snd sin (by omega)⟩
end
end S34
set_option maxRecDepth 100000
set_option maxHeartbeats 4000000
namespace S34
open PySem L2 XL PyProof.Rows
def outD (c : Str × List Str) : DV := .tup [.str c.1, .lst (c.2.map DV.str)]
theorem OutL.dv {K : PySem.W.Frag} {H : Hp} {cs : List (Str × List Str)} {qs : List Addr} (h : OutL H cs qs) {l : Addr} (e : H l = some (.lst (qs.map V.ref))) : Dv K H 3 (.ref l) (.lst (cs.map outD)) := by
  refine .lst (SqL.of e) (by rw [List.length_map, List.length_map, h.len]) fun j x d h1 h2 => ?_
  rw [List.getElem?_map] at h1 h2
  obtain ⟨q, hq, rfl⟩ := Option.map_eq_some_iff.mp h1
  obtain ⟨c, hc, rfl⟩ := Option.map_eq_some_iff.mp h2
  obtain ⟨c', lh, hc', e1, e2⟩ := h.get hq
  rw [hc] at hc'
  cases hc'
  refine .tup (SqT.of e1) rfl fun j x d h1 h2 => ?_
  match j, h1, h2 with
  | 0, h1, h2 => cases h1; cases h2; exact .str
  | 1, h1, h2 => cases h1; cases h2; exact nms_dv e2
  | j + 2, h1, h2 => simp at h1
theorem flt_is {nms : List Str} {f : Str → Bool} {ys : List V} (ly : ys.length = ((List.range nms.length).filter fun i => ((nms[i]?).map f).getD false).length) (fy : ∀ (j : Nat) (y : V) (i : Nat), ys[j]? = some y → ((List.range nms.length).filter fun i => ((nms[i]?).map f).getD false)[j]? = some i → ∃ z, nms[i]? = some z ∧ y = .str z) : ys = (nms.filter f).map V.str := by
  have fi := ix_filt f (as := nms) (p := fun i => ((nms[i]?).map f).getD false) (fun i p hp => by rw [hp]; rfl)
  refine ys_eq (by rw [ly, fi.1]) fun i y b hy hb => ?_
  have hj : i < ((List.range nms.length).filter fun i => ((nms[i]?).map f).getD false).length := by
    rw [← ly]
    exact (List.getElem?_eq_some_iff.mp hy).1
  obtain ⟨z, hz, rfl⟩ := fy i y _ hy (List.getElem?_eq_getElem hj)
  rw [fi.2 i _ (List.getElem?_eq_getElem hj), hb] at hz
  cases hz
  rfl
theorem cut_hdk (qs : List Addr) (k : Nat) : cutV (qs.map V.ref) none (some (k : Int)) = (qs.take k).map V.ref := by
  unfold cutV
  simp only [HT.sIx, List.length_map]
  rw [if_neg (by omega), List.drop_zero, Nat.sub_zero, List.map_take, Int.toNat_natCast]
  by_cases c : k ≤ qs.length
  · rw [Nat.min_eq_left c]
  · rw [Nat.min_eq_right (by omega), List.take_of_length_le (by rw [List.length_map]; omega), List.take_of_length_le (by rw [List.length_map]; omega)]
theorem cut_more (ns : List Int) : ∃ ms : List Int, cutV (ns.map V.int) (some 15) (some 40) = ms.map V.int ∧ ms.length ≤ 25 := by
  refine ⟨(ns.drop (min 15 ns.length)).take (min 40 ns.length - min 15 ns.length), ?_, ?_⟩
  · unfold cutV
    simp only [HT.sIx, List.length_map]
    rw [if_neg (by decide), if_neg (by decide), List.map_take, List.map_drop]
    rfl
  · rw [List.length_take]
    omega
theorem allH_len {k : Nat} : ∀ {cs : List (Str × List Str)}, (∀ c ∈ cs, c.2.length ≤ k) → (allH cs).length ≤ k * cs.length := by
  have key : ∀ (cs : List (Str × List Str)) (acc : List Str), (∀ c ∈ cs, c.2.length ≤ k) → (cs.foldl (fun acc c => addNew acc c.2) acc).length ≤ acc.length + k * cs.length := by
    intro cs
    induction cs with
    | nil => exact fun acc _ => by simp
    | cons c cs ih =>
      intro acc h
      refine Nat.le_trans (ih (addNew acc c.2) fun d hd => h d (List.mem_cons_of_mem _ hd)) ?_
      have e : (addNew acc c.2).length ≤ acc.length + c.2.length := by
        unfold addNew
        rw [List.length_append]
        have := List.length_filter_le (fun z => !decide (z ∈ acc)) c.2
        omega
      have := h c (List.mem_cons_self ..)
      rw [List.length_cons, Nat.mul_succ]
      omega
  intro cs h
  have := key cs [] h
  unfold allH
  simpa using this
theorem allH_snoc (cs : List (Str × List Str)) (c : Str × List Str) : allH (cs ++ [c]) = addNew (allH cs) c.2 := by
  unfold allH
  rw [List.foldl_append]
  rfl
def spFullL : Sp := fun vs H Q _ => ∃ (lp ls lo : Addr) (ps : List Pt) (ss : List Seat) (qs rs os : List Addr) (cs : List (Str × List Str)), vs = [.ref lp, .ref ls, .ref lo] ∧ H lp = some (.lst (qs.map V.ref)) ∧ PtsL H ps qs ∧ H ls = some (.lst (rs.map V.ref)) ∧ SeatsL H ss rs ∧ ss.length ≤ 32 ∧ H lo = some (.lst (os.map V.ref)) ∧ OutL H cs os ∧ cs.length ≤ 12 ∧ (∀ c ∈ cs, c.2.length ≤ 12) ∧
  (cs ≠ [] → (ss.countP fun s => ps.any fun p => inRm (allH cs ++ cs.map (·.1)) p s) = (allH cs).length) ∧ ∀ H', Same H H' → Q (.bl true) H'
def spRightL (t : Adr) : Sp := fun vs H Q _ => ∃ (a lp ls ln dp do_ : Addr) (w h : Nat) (ps : List Pt) (st ss : List Seat) (qs rs : List Addr) (names : List Str) (most : Nat), vs = [.ref a, .ref lp, .ref ls, .ref ln, .int (most : Int)] ∧ Dr t H a dp do_ w h ps st ss ∧ H lp = some (.lst (qs.map V.ref)) ∧ PtsL H ps qs ∧ (nmsOf ps).Nodup ∧ H ls = some (.lst (rs.map V.ref)) ∧ SeatsL H ss rs ∧ ss.Nodup ∧ ss.length ≤ 32 ∧ H ln = some (.lst (names.map V.str)) ∧ names.Nodup ∧ (∀ x ∈ names, x ∈ nmsOf ps) ∧ names.length ≤ 12 ∧
  (∀ so2 ho2, Run (roomOf ps ss) names so2 ho2 [] → names.length ≤ most) ∧ ∀ H', Same H H' → Q (.bl true) H'
theorem Run.isCrowd {ps : List Pt} {ss : List Seat} (pnd : (nmsOf ps).Nodup) (snd : ss.Nodup) {names : List Str} {so : Str → Option Seat} {ho : Seat → Option Str} {c : Str × List Str} {r : List (Str × List Str)} (run : Run (roomOf ps ss) names so ho (c :: r)) (nnd : names.Nodup) (nin : ∀ x ∈ names, x ∈ nmsOf ps) (n13 : names.length ≤ 13) : (c.1 :: c.2).Nodup ∧ (c.1 :: c.2).length ≤ 1000 ∧ (∀ x ∈ c.1 :: c.2, x ∈ names) ∧ (ss.countP fun s => ps.any fun p => inRm (c.1 :: c.2) p s) < (c.1 :: c.2).length := by
  obtain ⟨so0, ho0, a1, a2, a3⟩ := run.crowd nnd c (List.mem_cons_self ..)
  have cle : (c.1 :: c.2).length ≤ 13 := Nat.le_trans (a2.nd.length_le_of_subset fun z hz => a3 z hz) n13
  refine ⟨a2.nd, by omega, a3, ?_⟩
  have ec : (ss.countP fun s => ps.any fun p => inRm (c.1 :: c.2) p s) = ss.countP (Kp.tog (roomOf ps ss) (c.1 :: c.2)) := List.countP_congr fun s hs => by rw [room_any pnd (fun x hx => nin x (a3 x hx)) s hs]
  rw [ec, a2.count a1 snd room_in, List.length_cons]
  omega
section
variable {P : Program} {w : World} {K : PySem.W.Frag} {mg : Str → Option Value} {base : Heap} {t : Adr}
theorem ok_law_full (T : Txt w K mg t) : FnOk true P w K mg base (CXo P w) 3 t.f_law_full t.d_law_full ["_law_points_here", "_law_seats_here", "_law_out"] (spFullL) := by
  refine T.F_law_full.okn (k := 2) sc_law_full (fun vs H Q E h => ?_) (fun cdv A outer s H vs Q E hr h => ?_)
  · obtain ⟨lp, ls, lo, ps, ss, qs, rs, os, cs, rfl, _⟩ := h
    rfl
  · obtain ⟨lp, ls, lo, ps, ss, qs, rs, os, cs, rfl, h⟩ := h
    refine ⟨_, pss_cons (ps_set (i := 3) sc_law_full.nd rfl (Or.inr rfl) (pe_lst (pa_nil)))
      (pss_cons (ps_for PassesOwn.never rfl (pi_list (pv 2)) (pg_tup rfl (pgs_cons (pg_name (i := 4) sc_law_full.nd rfl (Or.inl rfl)) (pgs_cons (pg_name (i := 5) sc_law_full.nd rfl (Or.inl rfl)) (pgs_nil)))) (pss_one (ps_set (i := 3) sc_law_full.nd rfl (Or.inr rfl) (pe_op op_cat (pv 3) (pe_compG rfl (blkG_of (zs := ["_law_one"]) (ys := ["_law_holders"]) (fr := [3]) (N0 := ["_law_points_here", "_law_seats_here", "_law_out", "_law_holders", "_law_name", "_law_some", "_law_gone"]) (sc0 := defScope s_law_full) (by decide +kernel) rfl rfl rfl) (pi_list (pv 5)) (fun _ _ _ _ _ ow nd => pg_name (i := 0) nd rfl (Or.inl (ow _ (by simp))) (Or.inr (ow _ (by simp)))) (gok_name (by decide)) (fun _ _ _ _ _ => pif_one (pt_cmpR (r := rInV K true) (op_notInV (hu20_of hr)) (pv 0) (pv 1) (by rfl))) (fun _ _ _ _ _ => pv 0))))))
      (pss_cons (ps_setcG rfl (blkG_of (zs := ["_law_row"]) (ys := []) (fr := []) (N0 := ["_law_points_here", "_law_seats_here", "_law_out", "_law_holders", "_law_name", "_law_some", "_law_gone"]) (sc0 := defScope s_law_full) (by decide +kernel) rfl rfl rfl) (pi_list (pv 2)) (fun _ _ _ _ _ ow nd => pg_name (i := 0) nd rfl (Or.inl (ow _ (by simp))) (Or.inr (ow _ (by simp)))) (gok_name (by decide)) (fun _ _ _ _ _ => pif_nil) (fun _ _ _ _ _ => pe_ix (r := rIxT K) ix_tup (pv 0) (pe_int) (fun _ _ => rfl)) (j := 6) rfl (Or.inl rfl))
      (pss_one (ps_ret (pe_or (pe_cmpR (op_eqV (hu20_of hr)) (pv 2) (pe_lst (pa_nil)) (nomark _)) (pe_one (pe_cmpR (op_eqV (hu20_of hr)) (pe_call (ok_law_many T) (hr.mono (by decide)) rfl T.g_law_many T.F_law_many.kp T.b_law_many .nil pass_none (pa_cons (pe_call (ok_law_room T) (hr.mono (by decide)) rfl T.g_law_room T.F_law_room.kp T.b_law_room .nil pass_none (pa_cons (pv 0) (pa_cons (pv 1) (pa_cons (pe_op op_cat (pv 3) (pv 6)) (pa_nil))))) (pa_nil))) (pe_callB call_len_seq rfl T.n_len boot_len (pa_cons (pv 3) (pa_nil))) (nomark _)))))))), ?_⟩
    obtain ⟨hlp, ptl, hls, stl, s32, hlo, ol, c12, l12, cnt, q⟩ := h
    have olen := ol.len
    refine ⟨(by show 0 ≤ sizeLine; decide), fun l1 hl1 => ?_⟩
    have s1 : Same H (upd H l1 (.lst [])) := same_upd (Same.refl _) hl1
    have g1 : upd H l1 (.lst []) l1 = some (.lst []) := upd_same
    revert s1 g1
    generalize upd H l1 (.lst []) = H1
    intro s1 g1
    refine ⟨_, rfl, lo, rfl, ⟨_, SqL.of (s1 _ _ hlo)⟩, ?_⟩
    refine for_list (xs := os.map V.ref) (Pv := fun i σ H5 => ∃ (lh : Addr) (v4 v5 : Option V), σ = [some (.ref lp), some (.ref ls), some (.ref lo), some (.ref lh), v4, v5, none] ∧ Same H H5 ∧ H5 lh = some (.lst ((allH (cs.take i)).map V.str))) ⟨l1, _, _, rfl, s1, g1⟩ ?_ ?_ ?_
    · rintro i σ H5 _ ⟨_, _, _, rfl, s5, _⟩
      exact SqL.of (s5 _ _ hlo)
    · rintro i x σ H5 hx ⟨lh, v4, v5, rfl, s5, e5⟩
      rw [List.getElem?_map, Option.map_eq_some_iff] at hx
      obtain ⟨qa, hqa, rfl⟩ := hx
      obtain ⟨c, lc, hc, hcq, hcl⟩ := ol.get hqa
      have cl := l12 c (List.mem_of_getElem? hc)
      have il : i < cs.length := (List.getElem?_eq_some_iff.mp hc).1
      have tk : allH (cs.take (i + 1)) = addNew (allH (cs.take i)) c.2 := by
        rw [List.take_add_one, hc]
        exact allH_snoc _ _
      have al := allH_len (k := 12) (cs := cs.take i) fun c hc => l12 c (List.mem_of_mem_take hc)
      rw [List.length_take] at al
      have hcl5 := s5 _ _ hcl
      refine ⟨qa, _, rfl, SqT.of (s5 _ _ hcq), rfl, _, _, rfl, _, _, rfl, rfl, ?_⟩
      refine ⟨_, rfl, _, rfl, lc, rfl, ⟨_, SqL.of hcl5⟩, fun l6 hl6 => ?_⟩
      refine comp_listF (SqL.of hcl5) (by rw [List.length_map]; exact Nat.lt_of_le_of_lt (by omega : _ ≤ 1000) (by decide)) hl6 (fun j => ((c.2[j]?).map fun z => !decide (z ∈ allH (cs.take i))).getD false) (fun j y _ => ∃ z, c.2[j]? = some z ∧ y = .str z) (fun _ _ _ _ _ z => z) (fun j x H6 hx s6 N M hN hM => ?_) (fun ys H6 s6 e6 ly fy => ?_)
      · rw [List.getElem?_map, Option.map_eq_some_iff] at hx
        obtain ⟨z, hz, rfl⟩ := hx
        refine ⟨_, rfl, _, rfl, 0, 1, .str z, _, .str, nms_dv (s6 _ _ e5), by decide, by decide, _, rfl, ite2 (fun y => ?_) (fun y => ?_)⟩
        · rw [if_pos rfl, nms_in] at y
          exact ⟨_, rfl, hN _ _ (Same.refl _) (by rw [hz]; exact y) ⟨z, hz, rfl⟩⟩
        · rw [if_pos rfl, nms_in] at y
          exact hM _ (Same.refl _) (by rw [hz]; exact Bool.eq_false_iff.mpr y)
      have ey := flt_is (nms := c.2) (f := fun z => !decide (z ∈ allH (cs.take i))) (by rw [List.length_map] at ly; exact ly) (by rw [List.length_map] at fy; exact fy)
      rw [ey] at e6
      refine ⟨lh, l6, _, _, rfl, rfl, s6 _ _ e5, e6, ?_, fun l7 hl7 => ?_⟩
      · rw [List.length_map, List.length_map]
        have := List.length_filter_le (fun z => !decide (z ∈ allH (cs.take i))) c.2
        exact Nat.le_trans (by omega : _ ≤ 1000) (by decide)
      rw [← List.map_append]
      refine ⟨l7, _, _, rfl, (s5.trans s6).trans (same_upd (Same.refl _) hl7), ?_⟩
      rw [upd_same, tk]
      rfl
    rintro σ H5 ⟨lh, v4, v5, rfl, s5, e5⟩
    rw [List.length_map, olen, List.take_of_length_le (Nat.le_refl _)] at e5
    have hlo5 := s5 _ _ hlo
    have ol5 := ol.keep s5
    refine ⟨_, rfl, lo, rfl, ⟨_, SqL.of hlo5⟩, fun l6 hl6 => ?_⟩
    refine comp_list (SqL.of hlo5) (by rw [List.length_map]; exact Nat.lt_of_le_of_lt (by omega : _ ≤ 1000) (by decide)) hl6 (fun i y _ => ∃ c, cs[i]? = some c ∧ y = .str c.1) (fun _ _ _ _ _ z => z) (fun i x H6 hx s6 N hN => ?_) (fun ys H6 s6 e6 ly fy => ?_)
    · rw [List.getElem?_map, Option.map_eq_some_iff] at hx
      obtain ⟨qa, hqa, rfl⟩ := hx
      obtain ⟨c, lc, hc, hcq, _⟩ := ol5.get hqa
      exact ⟨_, rfl, qa, _, 0, .str c.1, rfl, rfl, SqT.of (s6 _ _ hcq), rfl, hN _ _ (Same.refl _) ⟨c, hc, rfl⟩⟩
    have ey : ys = (cs.map (·.1)).map V.str := by
      refine ys_eq (by rw [ly, List.length_map, List.length_map, olen]) fun i y b hy hb => ?_
      obtain ⟨c, hc, rfl⟩ := fy i y hy
      rw [List.getElem?_map, hc] at hb
      cases hb
      rfl
    rw [ey] at e6
    have s06 := s5.trans s6
    refine ⟨_, rfl, (by show 0 ≤ sizeLine; decide), fun l7 hl7 => ?_⟩
    have s7 : Same H6 (upd H6 l7 (.lst [])) := same_upd (Same.refl _) hl7
    have g7 : upd H6 l7 (.lst []) l7 = some (.lst []) := upd_same
    revert s7 g7
    generalize upd H6 l7 (.lst []) = H7
    intro s7 g7
    have s07 := s06.trans s7
    refine ⟨3, 1, _, .lst [], (ol.keep s07).dv (s07 _ _ hlo), .lst (SqL.of g7) rfl (scs_dv (xs := []) rfl), by decide, by decide, _, rfl, ite2 (fun y => q _ s07) (fun y => ?_)⟩
    have cne : cs ≠ [] := fun z => by rw [z] at y; exact y rfl
    have al := allH_len (k := 12) (cs := cs) l12
    have e7h := s7 _ _ (s6 _ _ e5)
    refine ⟨_, rfl, _, rfl, _, rfl, _, rfl, lh, l6, _, _, rfl, rfl, e7h, s7 _ _ e6, ?_, fun l8 hl8 => ?_⟩
    · rw [List.length_map, List.length_map, List.length_map]
      exact Nat.le_trans (by omega : _ ≤ 1000) (by decide)
    rw [← List.map_append]
    have s8 : Same H7 (upd H7 l8 (.lst ((allH cs ++ cs.map (·.1)).map V.str))) := same_upd (Same.refl _) hl8
    have g8 : upd H7 l8 (.lst ((allH cs ++ cs.map (·.1)).map V.str)) l8 = some (.lst ((allH cs ++ cs.map (·.1)).map V.str)) := upd_same
    revert s8 g8
    generalize upd H7 l8 (.lst ((allH cs ++ cs.map (·.1)).map V.str)) = H8
    intro s8 g8
    have s08 := s07.trans s8
    refine ⟨lp, ls, l8, ps, ss, qs, rs, allH cs ++ cs.map (·.1), rfl, s08 _ _ hlp, ptl.keep (Same.tups s08), s08 _ _ hls, stl.keep (Same.tups s08), s32, g8, fun H9 m s9 mk => ?_⟩
    refine ⟨m, rfl, _, rfl, lh, _, rfl, .inl (SqL.of (s9 _ _ (s8 _ _ e7h))), 0, 0, .int (Kp.pc m : Int), .int ((allH cs).length : Int), .int, (by rw [List.length_map]; exact .int), by decide, by decide, ?_⟩
    rw [mk.pc, cnt cne, dEq_refl]
    exact q _ (s08.trans s9)
theorem ok_law_right (T : Txt w K mg t) : FnOk true P w K mg base (CXo P w) 9 t.f_law_right t.d_law_right ["_law_picture_here", "_law_points_here", "_law_seats_here", "_law_names_here", "_law_most"] (spRightL t) := by
  refine T.F_law_right.okn (k := 8) sc_law_right (fun vs H Q E h => ?_) (fun cdv A outer s H vs Q E hr h => ?_)
  · obtain ⟨a, lp, ls, ln, dp, do_, w', h', ps, st, ss, qs, rs, names, most, rfl, _⟩ := h
    rfl
  · obtain ⟨a, lp, ls, ln, dp, do_, w', h', ps, st, ss, qs, rs, names, most, rfl, h⟩ := h
    refine ⟨_, pss_cons (ps_set (i := 5) sc_law_right.nd rfl (Or.inl rfl) (pe_call (ok_fits T) (hr.mono (by decide)) rfl T.g_fits T.F_fits.kp T.b_fits .nil pass_none (pa_cons (pv 0) (pa_cons (pv 3) (pa_nil)))))
      (pss_cons (ps_if (pt_cmpR op_isN (pv 5) (pe_non) (nomark _)) (pss_one (ps_ret (pe_cmpR op_le (pe_callB call_len_seq rfl T.n_len boot_len (pa_cons (pv 3) (pa_nil))) (pv 4) (nomark _)))) (pss_nil))
      (pss_one (ps_ret (pe_call (ok_law_crowd T) (hr.mono (by decide)) rfl T.g_law_crowd T.F_law_crowd.kp T.b_law_crowd .nil pass_none (pa_cons (pv 1) (pa_cons (pv 2) (pa_cons (pv 5) (pa_cons (pv 3) (pa_nil))))))))), ?_⟩
    obtain ⟨dr, hlp, ptl, pnd, hls, stl, snd, s32, hln, nnd, nin, n12, mo, q⟩ := h
    have nps : ∀ nm ∈ names, ∃ p ∈ ps, p.nm = nm := fun nm hnm => List.mem_map.mp (nin nm hnm)
    refine ⟨_, rfl, _, rfl, a, ln, dp, do_, w', h', ps, st, ss, names, rfl, dr, hln, nps, nnd, n12, fun H2 v cs so ho s2 run cse => ?_⟩
    refine ⟨_, rfl, rfl, _, rfl, ?_⟩
    rcases cse with ⟨rfl, rfl⟩ | ⟨lf, c, r, rfl, rfl, flf, elf⟩
    · refine ifP (by rfl) ⟨_, rfl, ln, _, rfl, .inl (SqL.of (s2 _ _ hln)), _, rfl, _, _, rfl, rfl, ?_⟩
      have e : decide (((names.map V.str).length : Int) ≤ (most : Int)) = true := decide_eq_true (by rw [List.length_map]; have := mo so ho run; omega)
      simp only [e]
      exact q H2 s2
    · refine ifN (decide_eq_false (fun z => nomatch z)) ?_
      obtain ⟨b1, b2, b3, b4⟩ := run.isCrowd pnd snd nnd nin (by omega)
      exact ⟨_, rfl, _, rfl, _, rfl, _, rfl, lp, ls, lf, ln, ps, ss, qs, rs, c.1 :: c.2, names, rfl, s2 _ _ hlp, ptl.keep (Same.tups s2), s2 _ _ hls, stl.keep (Same.tups s2), s32, elf, s2 _ _ hln, b1, b2, b3, b4, fun H3 s3 => q H3 (s2.trans s3)⟩
end
end S34
set_option maxRecDepth 100000
set_option maxHeartbeats 4000000
namespace S34
open PySem L2 XL PyProof.Rows
def spLaw (K : PySem.W.Frag) : Sp := fun vs H Q _ => ∃ (a : Addr) (ns : List Int), vs = [.ref a] ∧ SqL K H a (ns.map V.int) ∧ ns.length ≤ 63 ∧ ∀ H', Q (.bl true) H'
def NLs (H : Hp) (ll : Addr) (ps : List Pt) (L : List (Addr × List Str)) : Prop := H ll = some (.lst (L.map fun x => V.ref x.1)) ∧ ∀ x ∈ L, H x.1 = some (.lst (x.2.map V.str)) ∧ x.1 ≠ ll ∧ x.2.Nodup ∧ (∀ z ∈ x.2, z ∈ nmsOf ps) ∧ x.2.length ≤ 12
section
variable {P : Program} {w : World} {K : PySem.W.Frag} {mg : Str → Option Value} {base : Heap} {t : Adr}
theorem ok_law (T : Txt w K mg t) : FnOk true P w K mg base (CXo P w) 10 t.f_law t.d_law ["_law_script"] (spLaw K) := by
  refine T.F_law.okn (k := 9) sc_law (fun vs H Q E h => ?_) (fun cdv A outer s H vs Q E hr h => ?_)
  · obtain ⟨sc, ns, rfl, _⟩ := h
    rfl
  · obtain ⟨sc, ns, rfl, h⟩ := h
    refine ⟨_, pss_cons (ps_asg (pe_call (ok_law_frame T) (hr.mono (by decide)) rfl T.g_law_frame T.F_law_frame.kp T.b_law_frame .nil pass_none (pa_cons (pv 0) (pa_nil))) (pg_tup rfl (pgs_cons (pg_name (i := 1) sc_law.nd rfl (Or.inl rfl)) (pgs_cons (pg_name (i := 2) sc_law.nd rfl (Or.inl rfl)) (pgs_nil)))))
      (pss_cons (ps_set (i := 3) sc_law.nd rfl (Or.inl rfl) (pe_call (ok_law_seats T) (hr.mono (by decide)) rfl T.g_law_seats T.F_law_seats.kp T.b_law_seats .nil pass_none (pa_cons (pv 0) (pa_cons (pv 2) (pa_nil)))))
      (pss_cons (ps_set (i := 4) sc_law.nd rfl (Or.inl rfl) (pe_cmpR op_eq (pe_op op_mod (pe_call (ok_law_cell_at T) (hr.mono (by decide)) rfl T.g_law_cell_at T.F_law_cell_at.kp T.b_law_cell_at .nil pass_none (pa_cons (pv 0) (pa_cons (pe_int) (pa_nil)))) (pe_int)) (pe_int) (nomark _)))
      (pss_cons (ps_set (i := 5) sc_law.nd rfl (Or.inl rfl) (pe_call (ok_law_points T) (hr.mono (by decide)) rfl T.g_law_points T.F_law_points.kp T.b_law_points .nil pass_none (pa_cons (pe_slice sl_list (pv 0) (po_some (pe_int)) (po_some (pe_int))) (pa_cons (pv 4) (pa_cons (pv 1) (pa_cons (pv 2) (pa_nil)))))))
      (pss_cons (ps_set (i := 6) sc_law.nd rfl (Or.inl rfl) (pe_call (ok_law_picture T) (hr.mono (by decide)) rfl T.g_law_picture T.F_law_picture.kp T.b_law_picture .nil pass_none (pa_cons (pv 1) (pa_cons (pv 2) (pa_cons (pv 5) (pa_cons (pv 3) (pa_nil)))))))
      (pss_cons (ps_set (i := 7) sc_law.nd rfl (Or.inl rfl) (pe_call (ok_kept T) (hr.mono (by decide)) rfl T.g_kept T.F_kept.kp T.b_kept .nil pass_none (pa_cons (pv 6) (pa_nil))))
      (pss_cons (ps_set (i := 8) sc_law.nd rfl (Or.inl rfl) (pe_call (ok_left_out T) (hr.mono (by decide)) rfl T.g_left_out T.F_left_out.kp T.b_left_out .nil pass_none (pa_cons (pv 6) (pa_nil))))
      (pss_cons (ps_mid (ps_if (PW.pt (pw_or (pt_cmpR op_notN (pe_call (ok_fits T) (hr.mono (by decide)) rfl T.g_fits T.F_fits.kp T.b_fits .nil pass_none (pa_cons (pv 6) (pa_cons (pv 7) (pa_nil)))) (pe_non) (nomark _)) (pw_or1 (pt_not (pt_val (pe_call (ok_law_full T) (hr.mono (by decide)) rfl T.g_law_full T.F_law_full.kp T.b_law_full .nil pass_none (pa_cons (pv 5) (pa_cons (pv 3) (pa_cons (pv 8) (pa_nil)))))))))) (pss_one (ps_ret (pe_bl))) (pss_nil)))
      (pss_cons (ps_set (i := 9) sc_law.nd rfl (Or.inl rfl) (pe_lst (pa_cons (pe_compG rfl (blkG_of (zs := ["_law_point_here"]) (ys := []) (fr := []) (N0 := ["_law_script", "_law_width", "_law_height", "_law_seats_here", "_law_digits", "_law_points_here", "_law_picture_here", "_law_keep", "_law_out", "_law_lists", "_law_cell", "_law_names_here", "_law_name", "_law_holders"]) (sc0 := defScope s_law) (by decide +kernel) rfl rfl rfl) (pi_list (pv 5)) (fun _ _ _ _ _ ow nd => pg_name (i := 0) nd rfl (Or.inl (ow _ (by simp))) (Or.inr (ow _ (by simp)))) (gok_name (by decide)) (fun _ _ _ _ _ => pif_nil) (fun _ _ _ _ _ => pe_ix (r := rIxT K) ix_tup (pv 0) (pe_int) (fun _ _ => rfl))) (pa_nil))))
      (pss_cons (ps_for PassesOwn.never rfl (pi_list (pe_op op_cat (pe_lst (pa_cons (pe_call (ok_law_cell_at T) (hr.mono (by decide)) rfl T.g_law_cell_at T.F_law_cell_at.kp T.b_law_cell_at .nil pass_none (pa_cons (pv 0) (pa_cons (pe_int) (pa_nil)))) (pa_nil))) (pe_slice sl_list (pv 0) (po_some (pe_int)) (po_some (pe_int))))) (pg_name (i := 10) sc_law.nd rfl (Or.inl rfl)) (pss_one (ps_expr (pe_bm PySem.F.plainAttrs_list PySem.F.slot_list_append PySem.F.type_list_append mt_append (pv 9) (pa_cons (pe_call (ok_law_drawn_names T) (hr.mono (by decide)) rfl T.g_law_drawn_names T.F_law_drawn_names.kp T.b_law_drawn_names .nil pass_none (pa_cons (pv 5) (pa_cons (pv 10) (pa_cons (pv 4) (pa_nil))))) (pa_nil))))))
      (pss_cons (ps_for PassesOwn.never rfl (pi_list (pv 9)) (pg_name (i := 11) sc_law.nd rfl (Or.inl rfl)) (pss_one (ps_mid (ps_if (pt_not (pt_val (pe_call (ok_law_right T) (hr.mono (by decide)) rfl T.g_law_right T.F_law_right.kp T.b_law_right .nil pass_none (pa_cons (pv 6) (pa_cons (pv 5) (pa_cons (pv 3) (pa_cons (pv 11) (pa_cons (pe_callB call_len_seq rfl T.n_len boot_len (pa_cons (pv 7) (pa_nil))) (pa_nil))))))))) (pss_one (ps_ret (pe_bl))) (pss_nil)))))
      (pss_cons (ps_for PassesOwn.never rfl (pi_list (pe_slice sl_list (pv 8) po_none (po_some (pe_int)))) (pg_tup rfl (pgs_cons (pg_name (i := 12) sc_law.nd rfl (Or.inl rfl)) (pgs_cons (pg_name (i := 13) sc_law.nd rfl (Or.inl rfl)) (pgs_nil)))) (pss_one (ps_mid (ps_if (pt_not (pt_val (pe_call (ok_law_crowd T) (hr.mono (by decide)) rfl T.g_law_crowd T.F_law_crowd.kp T.b_law_crowd .nil pass_none (pa_cons (pv 5) (pa_cons (pv 3) (pa_cons (pe_call (ok_fits T) (hr.mono (by decide)) rfl T.g_fits T.F_fits.kp T.b_fits .nil pass_none (pa_cons (pv 6) (pa_cons (pe_op op_cat (pe_lst (pa_cons (pv 12) (pa_nil))) (pv 7)) (pa_nil)))) (pa_cons (pe_op op_cat (pe_lst (pa_cons (pv 12) (pa_nil))) (pv 7)) (pa_nil)))))))) (pss_one (ps_ret (pe_bl))) (pss_nil)))))
      (pss_one (ps_ret (pe_bl)))))))))))))), ?_⟩
    obtain ⟨hs, nl, q⟩ := h
    refine ⟨_, rfl, sc, ns, rfl, hs, fun w' h' H1 p1 w1 w2 h1 h2 s1 g1 => ⟨p1, _, rfl, SqT.of g1, rfl, _, _, rfl, _, _, rfl, rfl, ?_⟩⟩
    refine ⟨_, rfl, _, rfl, sc, ns, h', rfl, Same.seqL s1 hs, h2, fun ss rs H2 ls l32 slt sb s2 fls e2 sl2 => ?_⟩
    have s02 := s1.trans s2
    have sok : SsOk (h' : Int) ss := ⟨lt_nodup slt, l32, sb⟩
    refine ⟨_, rfl, sc, ns, 0, rfl, Same.seqL s02 hs, by decide, by decide, fun c0 => ⟨_, _, rfl, rfl, (by show (0 : Int) < 2; decide), rfl, ?_⟩⟩
    generalize (decide (V.int (c0 % 2) = V.int 1)) = dg
    obtain ⟨ms, ems, m12⟩ := cut_ints ns
    refine ⟨_, rfl, 3, rfl, 15, rfl, sc, _, rfl, Same.seqL s02 hs, fun lc hlc => ?_⟩
    rw [ems]
    have s3 : Same H2 (upd H2 lc (.lst (ms.map V.int))) := same_upd (Same.refl _) hlc
    have g3 : upd H2 lc (.lst (ms.map V.int)) lc = some (.lst (ms.map V.int)) := upd_same
    revert s3 g3
    generalize upd H2 lc (.lst (ms.map V.int)) = H3
    intro s3 g3
    refine ⟨_, rfl, _, rfl, _, rfl, lc, ms, dg, w', h', rfl, g3, m12, w1, w2, h1, h2, fun H4 lp ps qs pok pl9 s4 flp e4 pt4 => ?_⟩
    have s24 := s3.trans s4
    have s04 := s02.trans s24
    have e4s := s24 _ _ e2
    have sl4 := sl2.keep (Same.tups s24)
    refine ⟨_, rfl, _, rfl, _, rfl, _, rfl, lp, ls, w', h', ps, ss, qs, rs, rfl, w1, w2, h1, h2, e4, pt4, pok, e4s, sl4, sok, slt, fun H5 a dp do_ s5 dr5 => ?_⟩
    have pnd : (nmsOf ps).Nodup := pok.nn
    have p12 := pok.le
    have nn : (nmsOf ps).length = ps.length := by unfold nmsOf; rw [List.length_map]
    have s05 := s04.trans s5
    have e5p := s5 _ _ e4
    have pt5 := pt4.keep (Same.tups s5)
    have e5s := s5 _ _ e4s
    have sl5 := sl4.keep (Same.tups s5)
    have pll := pt5.len
    refine ⟨_, rfl, a, dp, do_, w', h', ps, _, ss, rfl, dr5, pnd, fun H6 lk cs so ho s6 flk e6 run => ?_⟩
    refine ⟨_, rfl, a, dp, do_, w', h', ps, _, ss, rfl, dr5.same s6, pnd, fun H7 lo os cs2 so2 ho2 s7 flo e7 ol7 run2 _ => ?_⟩
    obtain ⟨_, _, rfl⟩ := run.det run2
    have s57 := s6.trans s7
    have e7k := s7 _ _ e6
    have col := run.outs.2
    have olen := ol7.len
    have knd : (keptOf (nmsOf ps) cs).Nodup := List.Pairwise.filter _ pnd
    have kin : ∀ x ∈ keptOf (nmsOf ps) cs, x ∈ nmsOf ps := fun x hx => (List.mem_filter.mp hx).1
    have kl : (keptOf (nmsOf ps) cs).length ≤ 12 := Nat.le_trans (List.length_filter_le _ _) (by omega)
    have cn : ∀ c ∈ cs, c.2.length ≤ 12 := fun c hc => by
      obtain ⟨_, _, _, a2, a3⟩ := run.crowd pnd c hc
      have := (List.nodup_cons.mp a2.nd).2.length_le_of_subset (l₂ := nmsOf ps) fun z hz => a3 z (List.mem_cons_of_mem _ hz)
      omega
    have mostK : ∀ {T : List Str}, T.Nodup → (∀ x ∈ T, x ∈ nmsOf ps) → ∀ {so3 ho3}, Run (roomOf ps ss) T so3 ho3 [] → T.length ≤ (keptOf (nmsOf ps) cs).length := fun tn ti _ _ r => run.most sok.1 room_in pnd tn ti r
    refine ⟨fun σ H8 => Same H7 H8 ∧ σ = [some (.ref sc), some (.int (w' : Int)), some (.int (h' : Int)), some (.ref ls), some (.bl dg), some (.ref lp), some (.ref a), some (.ref lk), some (.ref lo), none, none, none, none, none], ?_, ?_⟩
    · refine ⟨_, rfl, _, rfl, a, lk, dp, do_, w', h', ps, _, ss, keptOf (nmsOf ps) cs, rfl, dr5.same s57, e7k, fun nm hnm => List.mem_map.mp (kin nm hnm), knd, kl, fun H8 v cs3 so3 ho3 s8 run3 cse => ?_⟩
      have c0 : cs3 = [] := by
        by_cases z : cs3 = []
        · exact z
        · obtain ⟨S, hS, lt⟩ := (run3.few sok.1 room_in knd).mpr z
          have rnd : (keptOf (nmsOf ps) cs).reverse.Nodup := (List.reverse_perm _).nodup_iff.mpr knd
          have := Kp.hall run.mt room_in (Kp.subs_nd rnd hS) fun x hx => by
            have k := List.mem_filter.mp (List.mem_reverse.mp ((Kp.subs_mem hS).1 x hx))
            rw [run.dom pnd x, decide_eq_true k.1, k.2]
            rfl
          omega
      rcases cse with ⟨_, rfl⟩ | ⟨_, _, _, e3, _⟩
      · have s58 := s57.trans s8
        refine ⟨rfl, _, rfl, ifN (by decide) ⟨_, rfl, _, rfl, _, rfl, lp, ls, lo, ps, ss, qs, rs, os, cs, rfl, s58 _ _ e5p, pt5.keep (Same.tups s58), s58 _ _ e5s, sl5.keep (Same.tups s58), l32, s8 _ _ e7, ol7.keep s8, by omega, cn, fun cne => ?_, fun H9 s9 => ⟨_, rfl, ifN (by decide) ⟨s8.trans s9, rfl⟩⟩⟩⟩
        have f := run.full sok.1 room_in pnd
        rw [← f.count sok.1 room_in run.mt]
        refine List.countP_congr fun s hs => ?_
        rw [room_any pnd (fun x hx => ?_) s hs]
        rcases List.mem_append.mp hx with hx | hx
        · exact kin x (f.kp x hx)
        · exact run.outs.1 x hx
      · rw [c0] at e3
        cases e3
    rintro σ H8 ⟨s8, rfl⟩
    have s58 := s57.trans s8
    have e8p := s58 _ _ e5p
    have pt8 := pt5.keep (Same.tups s58)
    refine ⟨_, rfl, lp, rfl, ⟨_, SqL.of e8p⟩, fun l9 hl9 => ?_⟩
    refine comp_list (SqL.of e8p) (by rw [List.length_map]; exact Nat.lt_of_le_of_lt (by omega : _ ≤ 1000) (by decide)) hl9 (fun i y _ => ∃ p, ps[i]? = some p ∧ y = .str p.nm) (fun _ _ _ _ _ z => z) (fun i x H9 hx s9 N hN => ?_) (fun ys H9 s9 e9 ly fy => ?_)
    · rw [List.getElem?_map, Option.map_eq_some_iff] at hx
      obtain ⟨qa, hqa, rfl⟩ := hx
      obtain ⟨p, hp, hpq⟩ := pt8.get hqa
      exact ⟨_, rfl, qa, _, 0, .str p.nm, rfl, rfl, SqT.of (s9 _ _ hpq), rfl, hN _ _ (Same.refl _) ⟨p, hp, rfl⟩⟩
    have ey : ys = (nmsOf ps).map V.str := by
      refine ys_eq (by rw [ly, List.length_map, pll]; exact nn.symm) fun i y b hy hb => ?_
      obtain ⟨p, hp, rfl⟩ := fy i y hy
      unfold nmsOf at hb
      rw [List.getElem?_map, hp] at hb
      cases hb
      rfl
    rw [ey] at e9
    refine ⟨(by show 1 ≤ sizeLine; decide), fun ll hll => ?_⟩
    have s10 : Same H9 (upd H9 ll (.lst [.ref l9])) := same_upd (Same.refl _) hll
    have g10 : upd H9 ll (.lst [.ref l9]) ll = some (.lst [.ref l9]) := upd_same
    revert s10 g10
    generalize upd H9 ll (.lst [.ref l9]) = H10
    intro s10 g10
    have s510 := (s58.trans s9).trans s10
    have s010 := s05.trans s510
    have fll : H5 ll = none := (s58.trans s9).free hll
    obtain ⟨mm, emm, m25⟩ := cut_more ns
    refine ⟨_, rfl, sc, ns, 2, rfl, Same.seqL s010 hs, by decide, by decide, fun c2 => ?_⟩
    refine ⟨(by show 1 ≤ sizeLine; decide), fun lx hlx => ?_⟩
    have s11 : Same H10 (upd H10 lx (.lst [.int c2])) := same_upd (Same.refl _) hlx
    have g11 : upd H10 lx (.lst [.int c2]) lx = some (.lst [.int c2]) := upd_same
    revert s11 g11
    generalize upd H10 lx (.lst [.int c2]) = H11
    intro s11 g11
    refine ⟨_, rfl, 15, rfl, 40, rfl, sc, _, rfl, Same.seqL (s010.trans s11) hs, fun ly2 hly2 => ?_⟩
    rw [emm]
    have s12 : Same H11 (upd H11 ly2 (.lst (mm.map V.int))) := same_upd (Same.refl _) hly2
    have g12 : upd H11 ly2 (.lst (mm.map V.int)) ly2 = some (.lst (mm.map V.int)) := upd_same
    revert s12 g12
    generalize upd H11 ly2 (.lst (mm.map V.int)) = H12
    intro s12 g12
    refine ⟨lx, ly2, _, _, rfl, rfl, s12 _ _ g11, g12, ?_, fun lz hlz => ?_⟩
    · rw [List.length_map]
      exact Nat.le_trans (by simp; omega : _ ≤ 1000) (by decide)
    have ec : [V.int c2] ++ mm.map V.int = (c2 :: mm).map V.int := rfl
    rw [ec]
    have s13 : Same H12 (upd H12 lz (.lst ((c2 :: mm).map V.int))) := same_upd (Same.refl _) hlz
    have g13 : upd H12 lz (.lst ((c2 :: mm).map V.int)) lz = some (.lst ((c2 :: mm).map V.int)) := upd_same
    revert s13 g13
    generalize upd H12 lz (.lst ((c2 :: mm).map V.int)) = H13
    intro s13 g13
    have s1013 := (s11.trans s12).trans s13
    have s513 := s510.trans s1013
    have flz : H5 lz = none := (s510.trans (s11.trans s12)).free hlz
    have nlz : lz ≠ ll := Ne.symm (ne_of_none (s12 _ _ (s11 _ _ g10)) hlz)
    refine ⟨lz, rfl, ⟨_, SqL.of g13⟩, ?_⟩
    refine for_list (xs := (c2 :: mm).map V.int) (Pv := fun i σ H14 => ∃ (v10 : Option V) (L : List (Addr × List Str)), σ = [some (.ref sc), some (.int (w' : Int)), some (.int (h' : Int)), some (.ref ls), some (.bl dg), some (.ref lp), some (.ref a), some (.ref lk), some (.ref lo), some (.ref ll), v10, none, none, none] ∧ (∀ b u, b ≠ ll → H13 b = some u → H14 b = some u) ∧ NLs H14 ll ps L ∧ L.length ≤ i + 1) ⟨_, [(l9, nmsOf ps)], rfl, fun _ _ _ e => e, ⟨s1013 _ _ g10, fun x hx => ?_⟩, Nat.le_refl _⟩ ?_ ?_ ?_
    · rw [List.mem_singleton.mp hx]
      exact ⟨s1013 _ _ (s10 _ _ e9), ne_of_none e9 hll, pnd, fun _ z => z, by show (nmsOf ps).length ≤ 12; omega⟩
    · rintro i σ H14 _ ⟨_, _, rfl, k14, _⟩
      exact SqL.of (k14 _ _ nlz g13)
    · rintro i x σ H14 hx ⟨v10, L, rfl, k14, ⟨e14, f14⟩, Li⟩
      rw [List.getElem?_map, Option.map_eq_some_iff] at hx
      obtain ⟨cc, hcc, rfl⟩ := hx
      have i26 : i < 26 := by
        have := (List.getElem?_eq_some_iff.mp hcc).1
        rw [List.length_cons] at this
        omega
      have s514 : Same H5 H14 := fun b u e => k14 _ _ (ne_of_none e fll) (s513 _ _ e)
      refine ⟨_, rfl, .inl ⟨rfl, _, SqL.of e14⟩, _, rfl, _, rfl, _, rfl, lp, ps, qs, cc, dg, rfl, s514 _ _ e5p, pt5.keep (Same.tups s514), pnd, p12, fun H15 ld nms s15 fld e15 nnd nin n12 => ?_⟩
      have e15l := s15 _ _ e14
      have nld : ld ≠ ll := Ne.symm (ne_of_none e14 fld)
      refine ⟨ll, _, _, rfl, rfl, e15l, ?_, ?_⟩
      · rw [List.length_map]
        exact Nat.lt_of_le_of_lt (by omega : _ ≤ 1000) (by decide)
      refine ⟨_, L ++ [(ld, nms)], rfl, fun b u nb e => by rw [upd_ne nb]; exact s15 _ _ (k14 _ _ nb e), ⟨by rw [upd_same, List.map_append]; rfl, fun x hx => ?_⟩, by rw [List.length_append, List.length_singleton]; omega⟩
      rcases List.mem_append.mp hx with hx | hx
      · obtain ⟨b1, b2, b3⟩ := f14 x hx
        exact ⟨by rw [upd_ne b2]; exact s15 _ _ b1, b2, b3⟩
      · rw [List.mem_singleton.mp hx]
        exact ⟨by rw [upd_ne nld]; exact e15, nld, nnd, nin, n12⟩
    rintro σ H14 ⟨v10, L, rfl, k14, ⟨e14, f14⟩, Li⟩
    rw [List.length_map, List.length_cons] at Li
    have s514 : Same H5 H14 := fun b u e => k14 _ _ (ne_of_none e fll) (s513 _ _ e)
    have s714 : Same H7 H14 := fun b u e => k14 _ _ (ne_of_none e ((s8.trans s9).free hll)) ((((s8.trans s9).trans s10).trans s1013) _ _ e)
    refine ⟨_, rfl, ll, rfl, ⟨_, SqL.of e14⟩, ?_⟩
    refine for_list (xs := L.map fun x => V.ref x.1) (Pv := fun i σ H15 => ∃ (v11 : Option V), σ = [some (.ref sc), some (.int (w' : Int)), some (.int (h' : Int)), some (.ref ls), some (.bl dg), some (.ref lp), some (.ref a), some (.ref lk), some (.ref lo), some (.ref ll), v10, v11, none, none] ∧ Same H14 H15) ⟨_, rfl, Same.refl _⟩ ?_ ?_ ?_
    · rintro i σ H15 _ ⟨_, rfl, s15⟩
      exact SqL.of (s15 _ _ e14)
    · rintro i x σ H15 hx ⟨v11, rfl, s15⟩
      rw [List.getElem?_map, Option.map_eq_some_iff] at hx
      obtain ⟨y, hy, rfl⟩ := hx
      obtain ⟨b1, b2, b3, b4, b5⟩ := f14 y (List.mem_of_getElem? hy)
      have s515 := s514.trans s15
      refine ⟨_, ?_, fun _ _ z => z⟩
      refine ⟨_, rfl, _, rfl, _, rfl, _, rfl, _, rfl, lk, _, rfl, .inl (SqL.of (s15 _ _ (s714 _ _ e7k))), ?_⟩
      exact ⟨a, lp, ls, y.1, dp, do_, w', h', ps, _, ss, qs, rs, y.2, (keptOf (nmsOf ps) cs).length, (by rw [List.length_map]; rfl), dr5.same s515, s515 _ _ e5p, pt5.keep (Same.tups s515), pnd, s515 _ _ e5s, sl5.keep (Same.tups s515), sok.1, l32, s15 _ _ b1, b3, b4, b5, fun so3 ho3 r3 => mostK b3 b4 r3, fun H16 s16 => ⟨_, rfl, ifN (by decide) ⟨_, rfl, s15.trans s16⟩⟩⟩
    rintro σ H15 ⟨v11, rfl, s15⟩
    have s515 := s514.trans s15
    have s715 := s714.trans s15
    have e15o := s715 _ _ e7
    refine ⟨_, rfl, 2, rfl, lo, _, rfl, SqL.of e15o, fun lq hlq => ?_⟩
    rw [show (some (2 : Int)) = some ((2 : Nat) : Int) from rfl, cut_hdk]
    have s16 : Same H15 (upd H15 lq (.lst ((os.take 2).map V.ref))) := same_upd (Same.refl _) hlq
    have g16 : upd H15 lq (.lst ((os.take 2).map V.ref)) lq = some (.lst ((os.take 2).map V.ref)) := upd_same
    revert s16 g16
    generalize upd H15 lq (.lst ((os.take 2).map V.ref)) = H16
    intro s16 g16
    have s716 := s715.trans s16
    have s516 := s515.trans s16
    refine ⟨lq, rfl, ⟨_, SqL.of g16⟩, ?_⟩
    refine for_list (xs := (os.take 2).map V.ref) (Pv := fun i σ H17 => ∃ (v12 v13 : Option V), σ = [some (.ref sc), some (.int (w' : Int)), some (.int (h' : Int)), some (.ref ls), some (.bl dg), some (.ref lp), some (.ref a), some (.ref lk), some (.ref lo), some (.ref ll), v10, v11, v12, v13] ∧ Same H16 H17) ⟨_, _, rfl, Same.refl _⟩ ?_ ?_ ?_
    · rintro i σ H17 _ ⟨_, _, rfl, s17⟩
      exact SqL.of (s17 _ _ g16)
    · rintro i x σ H17 hx ⟨v12, v13, rfl, s17⟩
      rw [List.getElem?_map, Option.map_eq_some_iff] at hx
      obtain ⟨qa, hqa, rfl⟩ := hx
      have hqa : os[i]? = some qa := by
        rw [List.getElem?_take] at hqa
        split at hqa
        · exact hqa
        · cases hqa
      obtain ⟨c, lc2, hc, hcq, hcl⟩ := ol7.get hqa
      have cm : c.1 ∈ cs.map (·.1) := List.mem_map.mpr ⟨c, List.mem_of_getElem? hc, rfl⟩
      have nk : c.1 ∉ keptOf (nmsOf ps) cs := fun z => by
        have := (List.mem_filter.mp z).2
        simp only [Bool.not_eq_true', decide_eq_false_iff_not] at this
        exact this cm
      have nnd : (c.1 :: keptOf (nmsOf ps) cs).Nodup := List.nodup_cons.mpr ⟨nk, knd⟩
      have nin : ∀ x ∈ c.1 :: keptOf (nmsOf ps) cs, x ∈ nmsOf ps := fun x hx => by
        rcases List.mem_cons.mp hx with rfl | hx
        · exact run.outs.1 _ cm
        · exact kin x hx
      have n12 : (c.1 :: keptOf (nmsOf ps) cs).length ≤ 12 := by
        have := nnd.length_le_of_subset (l₂ := nmsOf ps) fun z hz => nin z hz
        omega
      have s717 := s716.trans s17
      have s517 := s516.trans s17
      have e17k := s717 _ _ e7k
      refine ⟨qa, _, rfl, SqT.of (s717 _ _ hcq), rfl, _, _, rfl, _, _, rfl, rfl, ?_⟩
      refine ⟨_, ?_, fun _ _ z => z⟩
      refine ⟨_, rfl, _, rfl, _, rfl, _, rfl, (by show 1 ≤ sizeLine; decide), fun m1 hm1 => ?_⟩
      have s18 : Same H17 (upd H17 m1 (.lst [.str c.1])) := same_upd (Same.refl _) hm1
      have g18 : upd H17 m1 (.lst [.str c.1]) m1 = some (.lst [.str c.1]) := upd_same
      revert s18 g18
      generalize upd H17 m1 (.lst [.str c.1]) = H18
      intro s18 g18
      refine ⟨_, rfl, m1, lk, _, _, rfl, rfl, g18, s18 _ _ e17k, ?_, fun m2 hm2 => ?_⟩
      · rw [List.length_map]
        exact Nat.le_trans (by simp; omega : _ ≤ 1000) (by decide)
      have ec2 : [V.str c.1] ++ (keptOf (nmsOf ps) cs).map V.str = (c.1 :: keptOf (nmsOf ps) cs).map V.str := rfl
      rw [ec2]
      have s19 : Same H18 (upd H18 m2 (.lst ((c.1 :: keptOf (nmsOf ps) cs).map V.str))) := same_upd (Same.refl _) hm2
      have g19 : upd H18 m2 (.lst ((c.1 :: keptOf (nmsOf ps) cs).map V.str)) m2 = some (.lst ((c.1 :: keptOf (nmsOf ps) cs).map V.str)) := upd_same
      revert s19 g19
      generalize upd H18 m2 (.lst ((c.1 :: keptOf (nmsOf ps) cs).map V.str)) = H19
      intro s19 g19
      have s1719 := s18.trans s19
      have s519 := s517.trans s1719
      refine ⟨a, m2, dp, do_, w', h', ps, _, ss, c.1 :: keptOf (nmsOf ps) cs, rfl, dr5.same s519, g19, fun nm hnm => List.mem_map.mp (nin nm hnm), nnd, n12, fun H20 v cs3 so3 ho3 s20 run3 cse => ?_⟩
      have s1720 := s1719.trans s20
      have s520 := s519.trans s20
      rcases cse with ⟨rfl, rfl⟩ | ⟨lf, c3, r3, rfl, rfl, flf, elf⟩
      · have := mostK nnd nin run3
        rw [List.length_cons] at this
        omega
      · obtain ⟨b1, b2, b3, b4⟩ := run3.isCrowd pnd sok.1 nnd nin (by omega)
        refine ⟨_, rfl, (by show 1 ≤ sizeLine; decide), fun m3 hm3 => ?_⟩
        have s21 : Same H20 (upd H20 m3 (.lst [.str c.1])) := same_upd (Same.refl _) hm3
        have g21 : upd H20 m3 (.lst [.str c.1]) m3 = some (.lst [.str c.1]) := upd_same
        revert s21 g21
        generalize upd H20 m3 (.lst [.str c.1]) = H21
        intro s21 g21
        refine ⟨_, rfl, m3, lk, _, _, rfl, rfl, g21, s21 _ _ (s1720 _ _ e17k), ?_, fun m4 hm4 => ?_⟩
        · rw [List.length_map]
          exact Nat.le_trans (by simp; omega : _ ≤ 1000) (by decide)
        rw [ec2]
        have s22 : Same H21 (upd H21 m4 (.lst ((c.1 :: keptOf (nmsOf ps) cs).map V.str))) := same_upd (Same.refl _) hm4
        have g22 : upd H21 m4 (.lst ((c.1 :: keptOf (nmsOf ps) cs).map V.str)) m4 = some (.lst ((c.1 :: keptOf (nmsOf ps) cs).map V.str)) := upd_same
        revert s22 g22
        generalize upd H21 m4 (.lst ((c.1 :: keptOf (nmsOf ps) cs).map V.str)) = H22
        intro s22 g22
        have s2022 := s21.trans s22
        have s522 := s520.trans s2022
        exact ⟨lp, ls, lf, m4, ps, ss, qs, rs, c3.1 :: c3.2, c.1 :: keptOf (nmsOf ps) cs, rfl, s522 _ _ e5p, pt5.keep (Same.tups s522), s522 _ _ e5s, sl5.keep (Same.tups s522), l32, s2022 _ _ elf, g22, b1, b2, b3, b4, fun H23 s23 => ⟨_, rfl, ifN (by decide) ⟨_, _, rfl, ((s17.trans s1720).trans s2022).trans s23⟩⟩⟩
    · rintro σ H17 ⟨v12, v13, rfl, s17⟩
      exact q _
end
end S34
namespace PySem.W.Fast
def tw11443249164065581573:=0
def tw7450267525483687696:=0
def tw16920517225352321830:=0
def tw2447593688521822508:=0
def tw9841555427617247168:=0
def tw13798903479408218821:=0
def tw13908902463159156702:=0
def tw9533658390842056087:=0
def tw10109828551664419736:=0
def tw15490601301013964962:=0
def tw6876081398608061794:=0
def tw14883662632902491858:=0
def tw15337453447994867175:=0
def tw3069080389157796645:=0
def tw1042556051299747449:=0
def tw16132360445610370492:=0
def tw14314094341664975884:=0
def tw11799969723916393609:=0
def tw532076026088995323:=0
def tw10520980702560896211:=0
def tw17543194336628657914:=0
def tw16284339459638907530:=0
def tw16415271536506666009:=0
def tw16181956901317809048:=0
def tw9553141821772784510:=0
def tw9509709217284338635:=0
def tw14661624320664301977:=0
def tw10083606402693957805:=0
def tw15691939817632542040:=0
def tw10667492188143169942:=0
def tw1876922121057459090:=0
def tw2422175321583763716:=0
def tw3956503706376361959:=0
def tw8223991183415038747:=0
def tw9673292386296694566:=0
def tw872520115412876996:=0
def tw17761707143162834859:=0
def tw16344709000943493430:=0
def tw4726769232996611263:=0
def tw5683305748024561091:=0
def tw12529257823648613954:=0
def tw13680644928454223256:=0
def tw6092765965062433538:=0
def tw6445979651510138852:=0
def tw15397293539554358679:=0
def tw9398345424377779722:=0
def tw1818157851333450086:=0
def tw6893708744003768212:=0
def tw7417420008028313264:=0
def tw10874547958643546224:=0
def tw813010780288498907:=0
def tw10435157653889632696:=0
def tw11689111904921203382:=0
def tw7952821914597143199:=0
def tw10694154163412333644:=0
def tw18022199203273460214:=0
def tw14065345767433175067:=0
def tw2078123972958563912:=0
def tw6095484204852799439:=0
def tw4978905403766426320:=0
def tw2395850433322161627:=0
def tw8225934536896740388:=0
def tw17045592458115429927:=0
def tw15052648930912395617:=0
def tw2199865337373801788:=0
def tw16338103158225699082:=0
def tw10562976422247422170:=0
def tw933545310397265309:=0
def tw8050957593678507654:=0
def tw9647411246920794437:=0
def tw4686902951113496616:=0
def tw11990536780242578532:=0
def tw15879108457490445929:=0
def tw15539638153970290649:=0
def tw728451759446918258:=0
def tw2696260478119637115:=0
def tw12955163124888416950:=0
def tw12994547784462409783:=0
def tw5820636778422193518:=0
def tw6110032502329091946:=0
def tw18090079900183405251:=0
def tw14878236299290971833:=0
def tw13251666227162106608:=0
def tw7945267082985951036:=0
def tw11892236702717938800:=0
def tw1493241639759744523:=0
def tw7277628788718657736:=0
def tw12460053401966184321:=0
def tw5977406712148474328:=0
def tw1796837339677388961:=0
def tw14793787305701712659:=0
def tw15098538944148653708:=0
def tw13418755798732001798:=0
def tw8777364220525455965:=0
def tw5573243605100019763:=0
def tw16105317820013259702:=0
def tw2552565130350996551:=0
def tw3185512718215259879:=0
def tw17290305074396250572:=0
def tw17284517020608855969:=0
def tw12357082632479392705:=0
def tw12701259260869045217:=0
def tw8829765686814231407:=0
def tw13585856413944277861:=0
def tw13104348136660658544:=0
def tw9494387734021955914:=0
def tw13842271603165819479:=0
def tw17781853892423628456:=0
def tw5115234710740240903:=0
def tw926386449027159088:=0
def tw15846761890613275382:=0
def tw1002869682605710842:=0
def tw10790517528720301338:=0
def tw11404695269039380423:=0
def tw1503705731811396722:=0
def tw14579840453613394054:=0
def tw54280881480500009:=0
def tw2908757362928978940:=0
def tw7166727035115316306:=0
def tw1517769788232165170:=0
def tw13586255468575369271:=0
def tw10301372719673549597:=0
def tw13736656941416761087:=0
def tw17917924480348549251:=0
def tw8892775746184179480:=0
def tw7296824951191956153:=0
def tw16289973561060103598:=0
def tw2186016491534102623:=0
def tw7534179333075806602:=0
def tw7648565148574185506:=0
def tw3373560857278675112:=0
def tw4517398135023615014:=0
def tw8402130402736604024:=0
def tw14370170752970213577:=0
def tw5956782168732411094:=0
def tw6774742480265754428:=0
def tw1781716581613866308:=0
def tw16337511534425922240:=0
def tw12533783194264577158:=0
def tw16577168717642270035:=0
def tw15637678765188435118:=0
def tw17974216197964018952:=0
def tw14692071873833823249:=0
def tw14002459748693585951:=0
def tw14502422297100619037:=0
def tw256555715884968082:=0
def tw7944016061061681215:=0
def tw10766373598487690592:=0
def tw8726951719666415859:=0
def tw8822696064772534009:=0
def tw6908630415248747420:=0
def tw16066899804783506655:=0
def tw2308892603574474902:=0
def tw17520222601820781903:=0
def tw2307710625730395044:=0
def tw6029424705922075963:=0
def tw3732110544670519291:=0
def tw7156919883124277699:=0
def tw5295089076913023960:=0
def tw14784618973710908209:=0
def tw7716637665709117178:=0
def tw9890164828506016031:=0
def tw9769416834857428710:=0
def tw10399895504083785650:=0
def tw538875249303571583:=0
def tw9809951223550586278:=0
def tw8275803296262800505:=0
def tw2213316732347843367:=0
def tw6506325805614941385:=0
def tw18275732815771488536:=0
def tw16402000221439605803:=0
def tw3227384036590678854:=0
def tw16642075377235165478:=0
def tw11579130474441101909:=0
def tw8631302346991134935:=0
def tw6735546657880360408:=0
def tw1756493961765506715:=0
def tw5864733621574512007:=0
def tw10693682639454533753:=0
def tw5081961275821173052:=0
def tw12347670450367343520:=0
def tw1135993929117534022:=0
def tw3870399566450093859:=0
def tw17813381946278348201:=0
def tw2777847949010743937:=0
def tw4915666860433504412:=0
def tw999949689509454009:=0
def tw10238398396947737064:=0
def tw6329219217735345787:=0
def tw2844732755859974476:=0
def tw13355987283577130350:=0
def tw338184506055680239:=0
def tw11692200928943071871:=0
def tw3136036339433519022:=0
def tw1598398544524420431:=0
def tw5609186021287410520:=0
def tw7612795445402683564:=0
def tw9748568659139634103:=0
def tw18073908559921986974:=0
def tw11497609433339724318:=0
def tw15484382609884262599:=0
def tw11298796594029560575:=0
def tw1298227042876153142:=0
def tw3477376887178901857:=0
def tw6726807917639829280:=0
def tw15943196647719191021:=0
def tw18187922283477526918:=0
def tw14433540648266496525:=0
def tw10206986207978550665:=0
def tw15392176304127727703:=0
def tw4624220062302008654:=0
def tw2330502382589803219:=0
def tw1061076415029689322:=0
def tw5919162421299801547:=0
def tw2816651968703774078:=0
def tw8784624224459318650:=0
def tw6920903198894386413:=0
def tw18122552186474387892:=0
def tw17729501594591420652:=0
def tw2704296315823896578:=0
def tw17332860036778174792:=0
def tw18068497938678921435:=0
def tw272839226117034116:=0
def tw17922477261736668720:=0
def tw16386377374241267927:=0
def tw15348940440193276609:=0
def tw5692134334140104939:=0
def tw12598156074652101926:=0
def tw2773689887112512359:=0
def tw12583237098830929414:=0
def tw9054697246583987433:=0
def tw8246638586285465024:=0
def tw9276965906443313108:=0
def tw7676553123335067278:=0
def tw16693792728473443550:=0
def tw5551379979020130875:=0
def tw6041873599639226496:=0
def tw14678309709140204927:=0
def tw11369191131777123911:=0
def tw86158376600144942:=0
def tw938152796384184582:=0
def tw13137882742672394404:=0
def tw11087907529736763663:=0
def tw12089274459163552520:=0
def tw13179583529737380635:=0
def tw9808238490157502083:=0
def tw13940759813839114785:=0
def tw3093913505031612857:=0
def tw13092591163742432974:=0
def tw12642518225423720915:=0
def tw6709480533385524856:=0
def tw13125895175270149243:=0
def tw1825379993193160583:=0
def tw7541823402919739189:=0
def tw2239094934822680218:=0
def tw4816614747428887969:=0
def tw12184815214334694915:=0
def tw1363788533320779724:=0
def tw6281949621203947425:=0
def tw8840570758176893183:=0
def tw16728873210962630918:=0
def tw15231373209449758768:=0
def tw15635806542749145188:=0
def tw18081926580576168291:=0
def tw17295996344143457674:=0
def tw1804928322450740815:=0
def tw1609507684668101427:=0
def tw3931236451118930674:=0
def tw12271255018079308343:=0
def tw2998149520024732184:=0
def tw12030826497524553745:=0
def tw15488068015788927287:=0
def tw16888651672973444279:=0
def tw10298282707252048513:=0
def tw2840085884831421830:=0
def tw10472527309775482892:=0
def tw2163062454171054812:=0
def tw9314015678431925202:=0
def tw7571562525369491680:=0
def tw434553741589038254:=0
def tw14661988741256142269:=0
def tw9452791178701028624:=0
def tw11341876954708311860:=0
def tw2958004495795289037:=0
def tw15332420694185496731:=0
def tw1196562878467157168:=0
def tw14566873379155652846:=0
def tw17005570931145082683:=0
def tw7451976885620716500:=0
def tw368204116426419165:=0
def tw8645903624741084516:=0
def tw9495921798172000574:=0
def tw13980777074001176734:=0
def tw8362950065345020528:=0
def tw11152166489066301256:=0
def tw11533196038653913005:=0
def tw15456577869098017810:=0
def tw14175727964213250626:=0
def tw8204535629107987095:=0
def tw10991224424486362668:=0
def tw11900639737685700122:=0
def tw10787275583827259725:=0
def tw18259731317254319117:=0
def tw6693960301596727736:=0
def tw13263146499957942424:=0
def tw11523379125254086192:=0
def tw13118197516642579846:=0
def tw5499089879192643262:=0
def tw3367348129765497170:=0
def tw13034366930533904834:=0
def tw11158630676945909929:=0
def tw7001658793781616144:=0
def tw3534272226990262492:=0
def tw8903115157987425079:=0
def tw16381174604084267150:=0
def tw1818244452681352368:=0
def tw12356056455033139258:=0
def tw1949784057198260856:=0
def tw9943849101872358465:=0
def tw14379973124649524073:=0
def tw14126256276117997108:=0
def tw9577985992120746233:=0
def tw2277125987572924390:=0
def tw11539782080567023230:=0
def tw13689585114480400701:=0
def tw12122876383243133238:=0
def tw14033553437281015445:=0
def tw17200506116555280507:=0
def tw2675103853037484596:=0
def tw1617815697327364709:=0
def tw7872140179128184813:=0
def tw9424431655196865605:=0
def tw1560797441819739112:=0
def tw6996200733362160586:=0
def tw6086340304223047214:=0
def tw8117394039772733802:=0
def tw13113576604717856370:=0
def tw7446163612115958269:=0
def tw14081050473307210855:=0
def tw8674200475858293945:=0
def tw8676536732702441099:=0
def tw15984514952845721335:=0
def tw1832509127998310950:=0
def tw13197514523274439791:=0
def tw5080694552211115566:=0
def tw5663196210429854877:=0
def tw146081273471330155:=0
def tw5396054515673329708:=0
def tw8484088093612739572:=0
def tw11276928444388467094:=0
def tw16596426133449222157:=0
def tw4778452482300670321:=0
def tw2339760805797508782:=0
def tw17526050801628542290:=0
def tw9441722251548707607:=0
def tw8246290547998533423:=0
def tw14489347518401172479:=0
def tw10734534570787202886:=0
def tw1817407864592795334:=0
def tw6475543720540680023:=0
def tw3712710417777745127:=0
def tw4872597415281350196:=0
def tw6368664848758351058:=0
def tw3335912821314806645:=0
def tw9332633252990681436:=0
def tw12273588199906923731:=0
def tw910359348449916035:=0
def tw8537758304597373061:=0
def tw7446478513004834269:=0
def tw6168007014014740840:=0
def tw16641570757941094856:=0
def tw5943026955062659961:=0
def tw6448398999223850321:=0
def tw1144398432455199101:=0
def tw14724233256303144531:=0
def tw15482117154948316429:=0
def tw1587494639622307503:=0
def tw3068907928847657560:=0
def tw4423668164626240144:=0
def tw5218484760717018542:=0
def tw17060062300710920044:=0
def tw12060933790715528608:=0
def tw17756599726577243229:=0
def tw520521517417538355:=0
def tw5421825809905330914:=0
def tw14515939526463264461:=0
def tw7207717765154615503:=0
def tw2413911293340303055:=0
def tw3743457580537285459:=0
def tw14269488226156380709:=0
def tw16959759994186528038:=0
def tw8649588707232646602:=0
def tw9088107716570875880:=0
def tw4133866232113065927:=0
def tw16662121994079465217:=0
def tw18408672758897755156:=0
def tw17341673792225456993:=0
def tw1708972617365868968:=0
def tw6009681562779205334:=0
def tw11427693862410895035:=0
def tw7199778083653521527:=0
def tw9602340537882869762:=0
def tw12022179696283922568:=0
def tw6777014756872548939:=0
def tw12941836313804078262:=0
def tw7002504323102113311:=0
def tw17303418808026204241:=0
def tw8248202856102426637:=0
def tw10888810061307236710:=0
def tw3752201493247017898:=0
def tw8282835299486819009:=0
def tw4580712786894374522:=0
def tw11796902748969668819:=0
def tw8784676149733964235:=0
def tw1639406173743041216:=0
def tw16401809245110700522:=0
def tw3333930677408099137:=0
def tw14029460090021326029:=0
def tw10416636192666782117:=0
def tw2285854953294114546:=0
def tw17552777499858083005:=0
def tw10309745833238996529:=0
def tw14674557161138363387:=0
def tw15505848062524653497:=0
def tw18400630762287739919:=0
def tw4079760681577061302:=0
def tw12755313893200801508:=0
def tw15646943731983477574:=0
def tw7640502529250842440:=0
def tw10453215631609093969:=0
def tw18184072939254056799:=0
def tw3104853858277290669:=0
def tw12867814348119671731:=0
def tw4839826912097665619:=0
def tw9525709205516972053:=0
def tw14538531633948089116:=0
def tw11426707467681055774:=0
def tw13334943143230369223:=0
def tw2115629806463060078:=0
def tw17820684034528283520:=0
def tw3149187518730793920:=0
def tw7311643209141434787:=0
def tw12364363641059485908:=0
def tw15570387575836903234:=0
def tw16198489878504662612:=0
def tw3918298151705597675:=0
def tw11503669334902511521:=0
def tw14549567625256873383:=0
def tw13831243416732709592:=0
def tw9985585580922164746:=0
def tw5383068381935337649:=0
def tw7094560293173546650:=0
def tw4264186068388507304:=0
def tw3188580140846509623:=0
def tw12439516687619112577:=0
def tw17440131278279929833:=0
def tw10132022809441802856:=0
def tw8273651045697162520:=0
def tw6033064247465372577:=0
def tw4170924909742016603:=0
def tw10420313558016838024:=0
def tw978635075976989936:=0
def tw12236600100317245653:=0
def tw9242553964795640571:=0
def tw13854783253239353979:=0
def tw4062450950979121732:=0
def tw13755011796769076507:=0
def tw5301359812885058853:=0
def tw11076352466537083073:=0
def tw8130640711072143961:=0
def tw17034544025106844996:=0
def tw11507137612884797688:=0
def tw4660043668340723108:=0
def tw14406053155398172814:=0
def tw435192333771387710:=0
def tw6152121275447931675:=0
def tw8305203910408226574:=0
def tw14125534909776011053:=0
def tw16876111378985231519:=0
def tw8904240518292029627:=0
def tw2082963017151240764:=0
def tw11517117814027742943:=0
def tw11510497117569782815:=0
def tw5637706900826764020:=0
def tw11124918110152403151:=0
def tw10338991828739158684:=0
def tw11081663661784225917:=0
def tw12857283697297034963:=0
def tw14119248420367676620:=0
def tw15208555242095369327:=0
def tw4488241376770416747:=0
def tw12190700484999967450:=0
def tw5205846052305257131:=0
def tw8151610286895715777:=0
def tw14191655319737917030:=0
def tw13936452154598754137:=0
def tw6375724960644743532:=0
def tw2292643603759265062:=0
def tw2224090164476372971:=0
def tw5278384456726030179:=0
def tw6909828210182282514:=0
def tw140805741433850822:=0
def tw7981054700032030659:=0
def tw2061159630284601039:=0
def tw13463405693390905008:=0
def tw16101362267751213446:=0
def tw16943163292809605384:=0
def tw6096827997765571787:=0
def tw9188683291113731060:=0
def tw14567331769605542814:=0
def tw16662743721190855719:=0
def tw4996183908891667686:=0
def tw4869945941637781078:=0
def tw13880361380034719124:=0
def tw5837329597143533227:=0
def tw8407071196576095975:=0
def tw17135333831380240489:=0
def tw5668592745417835579:=0
def tw12557868795428453427:=0
def tw12101255341194994002:=0
def tw3879710109959206222:=0
def tw1005143517525346434:=0
def tw11585333264256213149:=0
def tw8031643047622442693:=0
def tw17134971739182601923:=0
def tw16050752260894058810:=0
def tw15861986238128182448:=0
def tw13555460583779031565:=0
def tw11013024545091655883:=0
def tw1982805803285575766:=0
def tw2281948347027603677:=0
def tw5178589676375235289:=0
def tw5005409234566606594:=0
def tw11239492465684472032:=0
def tw17106669835092608409:=0
def tw4066524171693827858:=0
def tw14516350718283580356:=0
def tw449029034767119122:=0
def tw6864274638003479968:=0
def tw821275398831570665:=0
def tw3596988797515570132:=0
def tw15516265671969063648:=0
def tw1512474787543282208:=0
def tw13676405290483586327:=0
def tw2193876046574472859:=0
def tw18121188020329445643:=0
def tw9534479338857625066:=0
def tw9146541927457662341:=0
def tw10385720538112486334:=0
def tw16234692448011604847:=0
def tw9295624396771289975:=0
def tw15676206607743464796:=0
def tw14236452358998121623:=0
def tw14334219533151146190:=0
def tw422187554135235209:=0
def tw4024222188646931999:=0
def tw17193897300325802967:=0
def tw13543920588282309372:=0
def tw17743188811172831909:=0
def tw13235711731251506758:=0
def tw14135452824618602553:=0
def tw2744229795595577896:=0
def tw8000946013804900685:=0
def tw9352319602304801588:=0
def tw8379854816596197641:=0
def tw5588860431402194968:=0
def tw10347730836600181549:=0
def tw10896093671693296907:=0
def tw15129115211070365321:=0
def tw2568244297084230234:=0
def tw15181716232422021278:=0
def tw12449020654995260277:=0
def tw17330637892573256972:=0
def tw9098342946840015008:=0
def tw8453574949472077177:=0
def tw11888123944542912406:=0
def tw10259350790531988052:=0
def tw3217947085468514296:=0
def tw13063496007469955701:=0
def tw6101529049523960521:=0
def tw10290672874221442025:=0
def tw14299531208195780950:=0
def tw9767942702775423625:=0
def tw17549989924572133853:=0
def tw12307014666992604708:=0
def tw452300758857626630:=0
def tw17593893398071779464:=0
def tw7342174149002897007:=0
def tw11041748257646383357:=0
def tw16247455870942991014:=0
def tw17019795387513884733:=0
def tw11569392683830046338:=0
def tw7650156223918399165:=0
def tw4691043113292643289:=0
def tw12274773133987902287:=0
def tw1113038924137456283:=0
def tw13276890785942385084:=0
def tw5563304147663232589:=0
def tw10158641111768562868:=0
def tw3872830196713854733:=0
def tw8428200386067538372:=0
def tw11440590122343534578:=0
def tw16142893761834158594:=0
def tw18172621114438955073:=0
def tw13244902638103734475:=0
def tw4009964025122634782:=0
def tw13313637565013824889:=0
def tw2304636135442571504:=0
def tw5676445304902757337:=0
def tw1795389408562314797:=0
def tw13840916032222672749:=0
def tw17597205647519824537:=0
def tw12939581606825581955:=0
def tw7737727045647420009:=0
def tw355960143752750342:=0
def tw6028666116791099313:=0
def tw18374049554440501103:=0
def tw15959549008388413258:=0
def tw16937743389888700996:=0
def tw7292087976198457892:=0
def tw10827945336810480523:=0
def tw8174955922564567120:=0
def tw17369648444720397064:=0
def tw11285686557446067850:=0
def tw4479751924062481758:=0
def tw7014275586807872971:=0
def tw17242395105901294902:=0
def tw15837314918798673920:=0
def tw15114364887604407304:=0
def tw14936464259281132485:=0
def tw9684564826355728596:=0
def tw6402491171504985510:=0
def tw4956857604450200844:=0
def tw5455565821302379215:=0
def tw9670471411632352264:=0
def tw2296209571424709181:=0
def tw212250816379456168:=0
def tw13421477529103249948:=0
def tw14066840118665529804:=0
def tw11816542236337522694:=0
def tw18201081081206481278:=0
def tw7134053019668375837:=0
def tw12166017453598491103:=0
def tw13096839917384427088:=0
def tw7115103613497898502:=0
def tw7992210086647378075:=0
def tw10240576199534769880:=0
def tw5655502073687524128:=0
def tw10194825104544177781:=0
def tw12418126440698798767:=0
def tw17827313104563281285:=0
def tw5973706809447168114:=0
def tw9453840956368140619:=0
def tw17439833024274793509:=0
def tw3632517316887233051:=0
def tw15898432073016305435:=0
def tw11806302256544405749:=0
def tw18299601955171795841:=0
def tw16282403628423279328:=0
def tw1565411621419069621:=0
def tw16418235002861498096:=0
def tw15327017975832118550:=0
def tw616714033866438287:=0
def tw10202133712706683393:=0
def tw5442003154231902305:=0
def tw15461220399828497218:=0
def tw704792531894796323:=0
def tw1867260994137765461:=0
def tw10514844880209048727:=0
def tw9212859285599166398:=0
def tw10846699610442693863:=0
def tw14455220574043536577:=0
def tw1738719619241994293:=0
def tw1395599816576026961:=0
def tw1920050303954736573:=0
def tw7774160472993332505:=0
def tw8361313389142011396:=0
def tw12282990013536755829:=0
def tw4523114397390889348:=0
def tw8814237015074007443:=0
def tw11064903740104829692:=0
def tw1222194569708026960:=0
def tw5638770227350638512:=0
def tw11944559946394350615:=0
def tw15158126768005525939:=0
def tw2649677600619811939:=0
def tw5907591005967385082:=0
def tw11179377683528633650:=0
def tw3886062476464526611:=0
def tw18433746784087010985:=0
def tw4440736615637166742:=0
def tw7742733329159769218:=0
def tw13041622026410267183:=0
def tw8112027868504896956:=0
def tw15035789240423945599:=0
def tw8514591259925871348:=0
def tw12734565736142716807:=0
def tw14314929201117971803:=0
def tw18098663250153261921:=0
def tw17538655528915173118:=0
def tw14353701564804713124:=0
def tw7392621621475854584:=0
def tw3366326112647921787:=0
def tw6752868301368551176:=0
def tw10392181022465133021:=0
def tw5757897454725048295:=0
def tw17822678997133347664:=0
def tw6242068712903221853:=0
def tw13383863526382602613:=0
def tw3476863315012834930:=0
def tw6939369126863306559:=0
def tw15980683824559388426:=0
def tw5457011447435453049:=0
def tw3307705089485418437:=0
def tw10289074790959209384:=0
def tw16133262191757783676:=0
def tw17161189311732247342:=0
def tw2831019781309910216:=0
def tw7083522179278619762:=0
def tw10725657687254646212:=0
def tw1910374885731691083:=0
def tw5217714983467958777:=0
def tw4153716181892451332:=0
def tw8381242781848753339:=0
def tw13064222892987978144:=0
def tw1833193246362351917:=0
def tw3518988109285071723:=0
def tw15639675494032148827:=0
def tw16813997813438270897:=0
def tw8357169412669443742:=0
def tw16578896946163646601:=0
def tw1863851078168753030:=0
def tw11753622627775822913:=0
def tw2296404675837936187:=0
def tw12590245462140307736:=0
def tw4018457732397875878:=0
def tw7899283112793766121:=0
def tw13513151836894210899:=0
def tw1808861084532107287:=0
def tw4089090114354081066:=0
def tw11212722459769193224:=0
def tw14432647356076758405:=0
def tw18331128620521162620:=0
def tw8537920454689013961:=0
def tw15043772186338501503:=0
def tw9650865715048025782:=0
def tw539153555425234731:=0
def tw9737275014924048731:=0
end PySem.W.Fast
namespace S34
open PySem L2 XL
theorem walk {l : PySem.W.OpenLaw} {q : Program} {loose : List Str} {XP : (Str → Option Value) → Heap → Prop} {YP : World → Heap → Prop} {d : DefRec} {K : Params → PySem.W.Frag} (hn : l.most = some 63) (hdf : d.params.defaults = [])
    (hY : ∀ (w : World) (h : Heap), YP w h → (K w.params).In h)
    (F : ∀ (w : World) (mg : Str → Option Value) (fa : Addr) (h : Heap), (K w.params).In h → h.Ns mainGlobals mg → mg d.name = some (.ref fa) →
      ∃ fd : FuncData, (∀ (s : Shared) (u : Value), BindsTo s fd ⟨[u], []⟩ [("_law_script", u)]) ∧ ∀ base : Heap, (K w.params).In base → base.Ns mainGlobals mg → FnOk true l.prog w (K w.params) mg base (CXo l.prog w) 10 fa fd ["_law_script"] (spLaw (K w.params))) :
    PySem.W.WalkO q loose XP YP l.row.toRowW d [] (fun f vs => PySem.call f vs) :=
  L2.walk_of (q0 := true) (n := 63) (k := 10) (x := "_law_script") (CX := fun w => CXo l.prog w) (sp := fun w => spLaw (K w.params)) hn (by decide) hdf ⟨fun _ => rfl, by decide, by decide⟩ hY F (fun _ _ a ns hl _ hS => ⟨a, ns, rfl, hS, hl, fun _ => rfl⟩)
    fun w H s e s' z => by obtain ⟨_, _, _, _, _, _, _, _, _, _, _, _, _, _, q⟩ := z; exact q
theorem all_mk {l : PySem.W.OpenLaw} {w : World} {K : PySem.W.Frag} {h : Heap} {mg : Str → Option Value} {fa : Addr} (hfa : mg "law" = some (.ref fa)) (TT : ∃ t, Txt w K mg t) :
    ∃ fd : FuncData, (∀ (s : Shared) (v : Value), BindsTo s fd ⟨[v], []⟩ [("_law_script", v)]) ∧ ∀ base : Heap, K.In base → base.Ns mainGlobals mg → FnOk true l.prog w K mg base (CXo l.prog w) 10 fa fd ["_law_script"] (spLaw K) := by
  obtain ⟨t, T⟩ := TT
  have e := hfa.symm.trans T.g_law
  cases e
  refine ⟨t.d_law, fun s v => ?_, fun base _ _ => ok_law T⟩
  obtain ⟨oc, od, kV, doc, pm, an, cdv, ct, osl, e, lk, hcd⟩ := T.F_law.ex
  rw [e]
  exact .of_eq rfl
end S34
open PySem PySem.W PyProof.Rows
set_option maxRecDepth 100000 in
set_option maxHeartbeats 0 in
theorem PySem.Challenge.cw_rimnotes_k34_whole_no_more_have_seats_holds : PySem.Challenge.rw_rimnotes_k34_whole_no_more_have_seats.Holds := by
  w_on; o_law; k_head; (case hw => w_witness2)
  k_fill
  refine S34.walk (l := PySem.Challenge.rw_rimnotes_k34_whole_no_more_have_seats) rfl rfl (fun w h Y => PySem.W.kIn_of Y) ?F
  case F =>
    intro w mg fa h KX G hmg
    refine S34.all_mk (h := h) hmg ?TT
    refine' S34.txt_mk (w := w) KX G ?g_Seating ?g_Side ?g_LeftSide ?g_RightSide ?g_Picture ?a_Seating_init ?l_Seating_init ?c_Seating_init ?k_Seating_init ?i_Seating_init ?a_Seating_hand_on ?l_Seating_hand_on ?c_Seating_hand_on ?k_Seating_hand_on ?i_Seating_hand_on ?a_Seating_crowd_with ?l_Seating_crowd_with ?c_Seating_crowd_with ?k_Seating_crowd_with ?i_Seating_crowd_with ?a_crowds ?l_crowds ?c_crowds ?k_crowds ?i_crowds ?a_fits ?l_fits ?c_fits ?k_fits ?i_fits ?a_left_out ?l_left_out ?c_left_out ?k_left_out ?i_left_out ?a_kept ?l_kept ?c_kept ?k_kept ?i_kept ?a_Side_init ?l_Side_init ?c_Side_init ?k_Side_init ?i_Side_init ?a_side_of ?l_side_of ?c_side_of ?k_side_of ?i_side_of ?a_is_whole ?l_is_whole ?c_is_whole ?k_is_whole ?i_is_whole ?a_is_name ?l_is_name ?c_is_name ?k_is_name ?i_is_name ?a_Picture_init ?l_Picture_init ?c_Picture_init ?k_Picture_init ?i_Picture_init ?a_Picture_put ?l_Picture_put ?c_Picture_put ?k_Picture_put ?i_Picture_put ?t_Picture_put ?a_Picture_open_seat ?l_Picture_open_seat ?c_Picture_open_seat ?k_Picture_open_seat ?i_Picture_open_seat ?a_Picture_points ?l_Picture_points ?c_Picture_points ?k_Picture_points ?i_Picture_points ?a_Picture_seats ?l_Picture_seats ?c_Picture_seats ?k_Picture_seats ?i_Picture_seats ?a_Picture_may ?l_Picture_may ?c_Picture_may ?k_Picture_may ?i_Picture_may ?a_Picture_seats_for ?l_Picture_seats_for ?c_Picture_seats_for ?k_Picture_seats_for ?i_Picture_seats_for ?a_Picture_check_name ?l_Picture_check_name ?c_Picture_check_name ?k_Picture_check_name ?i_Picture_check_name ?a_Picture_check_cell ?l_Picture_check_cell ?c_Picture_check_cell ?k_Picture_check_cell ?i_Picture_check_cell ?a_Picture_check_lines ?l_Picture_check_lines ?c_Picture_check_lines ?k_Picture_check_lines ?i_Picture_check_lines ?a_Picture_check_seat ?l_Picture_check_seat ?c_Picture_check_seat ?k_Picture_check_seat ?i_Picture_check_seat ?a_law_cell_at ?l_law_cell_at ?c_law_cell_at ?k_law_cell_at ?i_law_cell_at ?a_law_mix ?l_law_mix ?c_law_mix ?k_law_mix ?i_law_mix ?a_law_frame ?l_law_frame ?c_law_frame ?k_law_frame ?i_law_frame ?a_law_seats ?l_law_seats ?c_law_seats ?k_law_seats ?i_law_seats ?a_law_numbers ?l_law_numbers ?c_law_numbers ?k_law_numbers ?i_law_numbers ?a_law_point ?l_law_point ?c_law_point ?k_law_point ?i_law_point ?a_law_points ?l_law_points ?c_law_points ?k_law_points ?i_law_points ?a_law_put ?l_law_put ?c_law_put ?k_law_put ?i_law_put ?a_law_picture ?l_law_picture ?c_law_picture ?k_law_picture ?i_law_picture ?a_law_may ?l_law_may ?c_law_may ?k_law_may ?i_law_may ?a_law_room ?l_law_room ?c_law_room ?k_law_room ?i_law_room ?a_law_many ?l_law_many ?c_law_many ?k_law_many ?i_law_many ?a_law_names ?l_law_names ?c_law_names ?k_law_names ?i_law_names ?a_law_crowd ?l_law_crowd ?c_law_crowd ?k_law_crowd ?i_law_crowd ?a_law_drawn_names ?l_law_drawn_names ?c_law_drawn_names ?k_law_drawn_names ?i_law_drawn_names ?a_law_full ?l_law_full ?c_law_full ?k_law_full ?i_law_full ?a_law_right ?l_law_right ?c_law_right ?k_law_right ?i_law_right ?a_law ?l_law ?c_law ?k_law ?i_law ?kc_Seating ?pg_Seating ?hd_Seating ?po_Seating ?sa_Seating ?mk_Seating ?ca_Seating ?mo_Seating ?kc_Side ?pg_Side ?hd_Side ?po_Side ?sa_Side ?mk_Side ?ca_Side ?mo_Side ?kc_LeftSide ?pg_LeftSide ?hd_LeftSide ?po_LeftSide ?sa_LeftSide ?mk_LeftSide ?ca_LeftSide ?mo_LeftSide ?a_LeftSide_init ?kc_RightSide ?pg_RightSide ?hd_RightSide ?po_RightSide ?sa_RightSide ?mk_RightSide ?ca_RightSide ?mo_RightSide ?a_RightSide_init ?kc_Picture ?pg_Picture ?hd_Picture ?po_Picture ?sa_Picture ?mk_Picture ?ca_Picture ?mo_Picture ?cg ?ct ?n_Picture_placed ?n_Picture_height ?n_Picture_width ?n_Picture_opened ?n_Seating_holder_of ?n_Seating_seat_of ?n_Side_width ?n_LeftSide_width ?n_RightSide_width ?n_bool ?n_dict ?n_enumerate ?n_int ?n_isinstance ?n_len ?n_list ?n_min ?n_range ?n_reversed ?n_set ?n_sorted ?n_str ?v_MOST_ROWS ?v_MOST_COLUMNS ?v_MOST_POINTS ?g_MIRRORED_SIDES ?l_MIRRORED_SIDES ?ns_MIRRORED_SIDES
    (case g_Seating => k_is)
    (case g_Side => k_is)
    (case g_LeftSide => k_is)
    (case g_RightSide => k_is)
    (case g_Picture => k_is)
    (case a_Seating_init => k_is)
    (case l_Seating_init => k_is)
    (case c_Seating_init => k_is)
    (case k_Seating_init => k_is)
    (case i_Seating_init => k_is)
    (case a_Seating_hand_on => k_is)
    (case l_Seating_hand_on => k_is)
    (case c_Seating_hand_on => k_is)
    (case k_Seating_hand_on => k_is)
    (case i_Seating_hand_on => k_is)
    (case a_Seating_crowd_with => k_is)
    (case l_Seating_crowd_with => k_is)
    (case c_Seating_crowd_with => k_is)
    (case k_Seating_crowd_with => k_is)
    (case i_Seating_crowd_with => k_is)
    (case a_crowds => k_is)
    (case l_crowds => k_is)
    (case c_crowds => k_is)
    (case k_crowds => k_is)
    (case i_crowds => k_is)
    (case a_fits => k_is)
    (case l_fits => k_is)
    (case c_fits => k_is)
    (case k_fits => k_is)
    (case i_fits => k_is)
    (case a_left_out => k_is)
    (case l_left_out => k_is)
    (case c_left_out => k_is)
    (case k_left_out => k_is)
    (case i_left_out => k_is)
    (case a_kept => k_is)
    (case l_kept => k_is)
    (case c_kept => k_is)
    (case k_kept => k_is)
    (case i_kept => k_is)
    (case a_Side_init => k_is)
    (case l_Side_init => k_is)
    (case c_Side_init => k_is)
    (case k_Side_init => k_is)
    (case i_Side_init => k_is)
    (case a_side_of => k_is)
    (case l_side_of => k_is)
    (case c_side_of => k_is)
    (case k_side_of => k_is)
    (case i_side_of => k_is)
    (case a_is_whole => k_is)
    (case l_is_whole => k_is)
    (case c_is_whole => k_is)
    (case k_is_whole => k_is)
    (case i_is_whole => k_is)
    (case a_is_name => k_is)
    (case l_is_name => k_is)
    (case c_is_name => k_is)
    (case k_is_name => k_is)
    (case i_is_name => k_is)
    (case a_Picture_init => k_is)
    (case l_Picture_init => k_is)
    (case c_Picture_init => k_is)
    (case k_Picture_init => k_is)
    (case i_Picture_init => k_is)
    (case a_Picture_put => k_is)
    (case l_Picture_put => k_is)
    (case c_Picture_put => k_is)
    (case k_Picture_put => k_is)
    (case i_Picture_put => k_is)
    (case t_Picture_put => k_is)
    (case a_Picture_open_seat => k_is)
    (case l_Picture_open_seat => k_is)
    (case c_Picture_open_seat => k_is)
    (case k_Picture_open_seat => k_is)
    (case i_Picture_open_seat => k_is)
    (case a_Picture_points => k_is)
    (case l_Picture_points => k_is)
    (case c_Picture_points => k_is)
    (case k_Picture_points => k_is)
    (case i_Picture_points => k_is)
    (case a_Picture_seats => k_is)
    (case l_Picture_seats => k_is)
    (case c_Picture_seats => k_is)
    (case k_Picture_seats => k_is)
    (case i_Picture_seats => k_is)
    (case a_Picture_may => k_is)
    (case l_Picture_may => k_is)
    (case c_Picture_may => k_is)
    (case k_Picture_may => k_is)
    (case i_Picture_may => k_is)
    (case a_Picture_seats_for => k_is)
    (case l_Picture_seats_for => k_is)
    (case c_Picture_seats_for => k_is)
    (case k_Picture_seats_for => k_is)
    (case i_Picture_seats_for => k_is)
    (case a_Picture_check_name => k_is)
    (case l_Picture_check_name => k_is)
    (case c_Picture_check_name => k_is)
    (case k_Picture_check_name => k_is)
    (case i_Picture_check_name => k_is)
    (case a_Picture_check_cell => k_is)
    (case l_Picture_check_cell => k_is)
    (case c_Picture_check_cell => k_is)
    (case k_Picture_check_cell => k_is)
    (case i_Picture_check_cell => k_is)
    (case a_Picture_check_lines => k_is)
    (case l_Picture_check_lines => k_is)
    (case c_Picture_check_lines => k_is)
    (case k_Picture_check_lines => k_is)
    (case i_Picture_check_lines => k_is)
    (case a_Picture_check_seat => k_is)
    (case l_Picture_check_seat => k_is)
    (case c_Picture_check_seat => k_is)
    (case k_Picture_check_seat => k_is)
    (case i_Picture_check_seat => k_is)
    (case a_law_cell_at => k_is)
    (case l_law_cell_at => k_is)
    (case c_law_cell_at => k_is)
    (case k_law_cell_at => k_is)
    (case i_law_cell_at => k_is)
    (case a_law_mix => k_is)
    (case l_law_mix => k_is)
    (case c_law_mix => k_is)
    (case k_law_mix => k_is)
    (case i_law_mix => k_is)
    (case a_law_frame => k_is)
    (case l_law_frame => k_is)
    (case c_law_frame => k_is)
    (case k_law_frame => k_is)
    (case i_law_frame => k_is)
    (case a_law_seats => k_is)
    (case l_law_seats => k_is)
    (case c_law_seats => k_is)
    (case k_law_seats => k_is)
    (case i_law_seats => k_is)
    (case a_law_numbers => k_is)
    (case l_law_numbers => k_is)
    (case c_law_numbers => k_is)
    (case k_law_numbers => k_is)
    (case i_law_numbers => k_is)
    (case a_law_point => k_is)
    (case l_law_point => k_is)
    (case c_law_point => k_is)
    (case k_law_point => k_is)
    (case i_law_point => k_is)
    (case a_law_points => k_is)
    (case l_law_points => k_is)
    (case c_law_points => k_is)
    (case k_law_points => k_is)
    (case i_law_points => k_is)
    (case a_law_put => k_is)
    (case l_law_put => k_is)
    (case c_law_put => k_is)
    (case k_law_put => k_is)
    (case i_law_put => k_is)
    (case a_law_picture => k_is)
    (case l_law_picture => k_is)
    (case c_law_picture => k_is)
    (case k_law_picture => k_is)
    (case i_law_picture => k_is)
    (case a_law_may => k_is)
    (case l_law_may => k_is)
    (case c_law_may => k_is)
    (case k_law_may => k_is)
    (case i_law_may => k_is)
    (case a_law_room => k_is)
    (case l_law_room => k_is)
    (case c_law_room => k_is)
    (case k_law_room => k_is)
    (case i_law_room => k_is)
    (case a_law_many => k_is)
    (case l_law_many => k_is)
    (case c_law_many => k_is)
    (case k_law_many => k_is)
    (case i_law_many => k_is)
    (case a_law_names => k_is)
    (case l_law_names => k_is)
    (case c_law_names => k_is)
    (case k_law_names => k_is)
    (case i_law_names => k_is)
    (case a_law_crowd => k_is)
    (case l_law_crowd => k_is)
    (case c_law_crowd => k_is)
    (case k_law_crowd => k_is)
    (case i_law_crowd => k_is)
    (case a_law_drawn_names => k_is)
    (case l_law_drawn_names => k_is)
    (case c_law_drawn_names => k_is)
    (case k_law_drawn_names => k_is)
    (case i_law_drawn_names => k_is)
    (case a_law_full => k_is)
    (case l_law_full => k_is)
    (case c_law_full => k_is)
    (case k_law_full => k_is)
    (case i_law_full => k_is)
    (case a_law_right => k_is)
    (case l_law_right => k_is)
    (case c_law_right => k_is)
    (case k_law_right => k_is)
    (case i_law_right => k_is)
    (case a_law => k_is)
    (case l_law => k_is)
    (case c_law => k_is)
    (case k_law => k_is)
    (case i_law => k_is)
    (case kc_Seating => k_is)
    (case pg_Seating => k_is)
    (case hd_Seating => k_is)
    (case po_Seating => k_is)
    (case sa_Seating => k_is)
    (case mk_Seating => first | k_is | kernel_rfl)
    (case ca_Seating => k_is)
    (case mo_Seating => k_is)
    (case kc_Side => k_is)
    (case pg_Side => k_is)
    (case hd_Side => k_is)
    (case po_Side => k_is)
    (case sa_Side => k_is)
    (case mk_Side => first | k_is | kernel_rfl)
    (case ca_Side => k_is)
    (case mo_Side => k_is)
    (case kc_LeftSide => k_is)
    (case pg_LeftSide => k_is)
    (case hd_LeftSide => k_is)
    (case po_LeftSide => k_is)
    (case sa_LeftSide => k_is)
    (case mk_LeftSide => first | k_is | kernel_rfl)
    (case ca_LeftSide => k_is)
    (case mo_LeftSide => k_is)
    (case a_LeftSide_init => k_is)
    (case kc_RightSide => k_is)
    (case pg_RightSide => k_is)
    (case hd_RightSide => k_is)
    (case po_RightSide => k_is)
    (case sa_RightSide => k_is)
    (case mk_RightSide => first | k_is | kernel_rfl)
    (case ca_RightSide => k_is)
    (case mo_RightSide => k_is)
    (case a_RightSide_init => k_is)
    (case kc_Picture => k_is)
    (case pg_Picture => k_is)
    (case hd_Picture => k_is)
    (case po_Picture => k_is)
    (case sa_Picture => k_is)
    (case mk_Picture => first | k_is | kernel_rfl)
    (case ca_Picture => k_is)
    (case mo_Picture => k_is)
    (case cg => k_is)
    (case ct => k_is)
    (case n_Picture_placed => k_is)
    (case n_Picture_height => k_is)
    (case n_Picture_width => k_is)
    (case n_Picture_opened => k_is)
    (case n_Seating_holder_of => k_is)
    (case n_Seating_seat_of => k_is)
    (case n_Side_width => k_is)
    (case n_LeftSide_width => k_is)
    (case n_RightSide_width => k_is)
    (case n_bool => k_is)
    (case n_dict => k_is)
    (case n_enumerate => k_is)
    (case n_int => k_is)
    (case n_isinstance => k_is)
    (case n_len => k_is)
    (case n_list => k_is)
    (case n_min => k_is)
    (case n_range => k_is)
    (case n_reversed => k_is)
    (case n_set => k_is)
    (case n_sorted => k_is)
    (case n_str => k_is)
    (case v_MOST_ROWS => k_is)
    (case v_MOST_COLUMNS => k_is)
    (case v_MOST_POINTS => k_is)
    (case g_MIRRORED_SIDES => k_is)
    (case l_MIRRORED_SIDES => first | k_is | kernel_rfl)
    (case ns_MIRRORED_SIDES => kernel_rfl)
