import PyProof.Rows.All
import Wide.All
import OpenK.AllK
import Wide.FinOn
import Lean
import PyProof.EqAt
import PyProof.EqKinds
import PyProof.TupleCall
import PyProof.StationsW
import PyProof.ExcClass2
import PyProof.RulesAs
import PyProof.ExcBaseAll.ValueError
import OpenK.KDescr
import OpenK.KWalk
import PyProof.ExcAttrAll.ValueError
import PyProof.Comp
import PyProof.ListRange
import PyProof.DictItems
import KE.KPairComp
import KE.KDictOf
import PyProof.AttrMissHeap
import PyProof.Rows.Range3
import KE.KRevIter
import PyProof.ZipIter
import OpenK.KEqL
import PyProof.AutoListH
import PyProof.EnumMake
import PyProof.WalksEnum
import PyProof.NeKinds
import PyProof.MaxThree
import KE.KSortTup
import PyProof.StrLawsIn
import PySem.Challenge.RW_rimnotes_k03_points_put
set_option Elab.async false
set_option linter.all false
set_option maxRecDepth 100000
set_option maxHeartbeats 4000000
set_option maxRecDepth 100000
namespace L2
open PySem PySem.Spec PyProof.Rows
variable {q0 : Bool}
abbrev Key := Sum Int Str
def xde : Key → Value → Bool
  | .inl k, v => Value.isInt k v
  | .inr x, v => Value.isStrOf x v
def keyH (w : World) : Key → Int
  | .inl k => hashInt k
  | .inr x => hashStr w x
theorem xa2 : ∀ {k : Key} {v : Value}, xde k v = true → (∃ i t, k = Sum.inl i ∧ v = Value.int i t) ∨ (∃ x t, k = Sum.inr x ∧ v = Value.str x t)
  | .inl i, v, h => by
    obtain ⟨t, e⟩ := Value.isInt_shape (k := i) (v := v) h
    exact .inl ⟨i, t, rfl, e⟩
  | .inr x, v, h => by
    obtain ⟨t, e⟩ := Value.isStrOf_shape (x := x) (v := v) h
    exact .inr ⟨x, t, rfl, e⟩
theorem xic (i : Int) (t : Tok) : xde (.inl i) (.int i t) = true := by simp [xde, Value.isInt]
theorem xjh (x : Str) (t : Tok) : xde (.inr x) (.str x t) = true := by simp [xde, Value.isStrOf]
theorem xlv (a b : Int) : decide ((Sum.inl a : Key) = Sum.inl b) = (a == b) := by
  by_cases e : a = b
  · subst e; simp
  · have h : ¬ (Sum.inl a : Key) = Sum.inl b := fun q => e (Sum.inl.inj q)
    rw [decide_eq_false h]
    exact (beq_eq_false_iff_ne.mpr e).symm
theorem xma (a b : Str) : decide ((Sum.inr a : Key) = Sum.inr b) = decide (a = b) := by
  by_cases e : a = b
  · subst e; simp
  · have h : ¬ (Sum.inr a : Key) = Sum.inr b := fun q => e (Sum.inr.inj q)
    rw [decide_eq_false h, decide_eq_false e]
theorem xl1 (a : Int) (b : Str) : decide ((Sum.inl a : Key) = Sum.inr b) = false := decide_eq_false (fun q => nomatch q)
theorem xmd (a : Str) (b : Int) : decide ((Sum.inr a : Key) = Sum.inl b) = false := decide_eq_false (fun q => nomatch q)
def xax (prog : Program) (w : World) : PySem.KeyKind prog w Key where
  is := xde
  hash := keyH w
  inj := fun v a b ha hb => by
    rcases xa2 ha with ⟨i, t, rfl, rfl⟩ | ⟨x, t, rfl, rfl⟩
    · rcases xa2 hb with ⟨j, u, rfl, e⟩ | ⟨y, u, rfl, e⟩
      · injection e with e1 _; rw [e1]
      · exact nomatch e
    · rcases xa2 hb with ⟨j, u, rfl, e⟩ | ⟨y, u, rfl, e⟩
      · exact nomatch e
      · injection e with e1 _; rw [e1]
  byValue := fun k v h => by
    rcases xa2 h with ⟨i, t, rfl, rfl⟩ | ⟨x, t, rfl, rfl⟩ <;> rfl
  pyHash := fun hv h => by
    rcases xa2 hv with ⟨i, t, rfl, rfl⟩ | ⟨x, t, rfl, rfl⟩
    · exact wpAny_pyHash_int h
    · exact wpAny_pyHash_str h
  eqBool := fun hu hv h => by
    rcases xa2 hu with ⟨i, t, rfl, rfl⟩ | ⟨x, t, rfl, rfl⟩
    · rcases xa2 hv with ⟨j, u, rfl, rfl⟩ | ⟨y, u, rfl, rfl⟩
      · rw [xlv] at h; exact wpAny_eqBool_int h
      · rw [xl1] at h; exact SeqAt.EqAt.int_str i t y u _ _ _ _ h
    · rcases xa2 hv with ⟨j, u, rfl, rfl⟩ | ⟨y, u, rfl, rfl⟩
      · rw [xmd] at h; exact SeqAt.EqAt.str_int x t j u _ _ _ _ h
      · rw [xma] at h; exact wpAny_eqBool_str h
  «strs» := fun k x t v h => by
    rcases xa2 h with ⟨i, u, rfl, e⟩ | ⟨y, u, rfl, e⟩
    · exact nomatch e
    · injection e with e1 _
      subst e1
      cases v <;> rfl
theorem xgt (prog : Program) (w : World) (i : Int) (t : Tok) : (xax prog w).is (.inl i) (.int i t) = true := xic i t
theorem xgr (prog : Program) (w : World) (x : Str) (t : Tok) : (xax prog w).is (.inr x) (.str x t) = true := xjh x t
end L2
namespace L2
open PySem PySem.Spec PyProof.Rows
variable {q0 : Bool}
inductive V where
  | non | bl (b : Bool) | int (i : Int) | str (x : Str) | byt (b : Array UInt8) | flt (b : UInt64) | ref (a : Addr) | ty (n : String)
  deriving DecidableEq
def RelV : V → Value → Prop
  | .non, u => u = Value.none
  | .bl b, u => u = Value.bool b
  | .int i, u => ∃ t, u = Value.int i t
  | .str x, u => ∃ t, u = Value.str x t
  | .byt b, u => ∃ t, u = Value.bytes b t
  | .flt b, u => ∃ t, u = Value.float b t
  | .ref a, u => u = Value.ref a
  | .ty n, u => u = Value.type n
abbrev Vals : List V → List Value → Prop := Paired RelV
theorem Vals.length {xs : List V} {us : List Value} (r : Vals xs us) : xs.length = us.length := Paired.length r
theorem Vals.get : ∀ {xs : List V} {us : List Value} {i : Nat} {x : V}, Vals xs us → xs[i]? = some x → ∃ u, us[i]? = some u ∧ RelV x u
  | _, _, _, _, .nil, e => by simp at e
  | _, _, 0, _, .cons r _, e => by simp at e; subst e; exact ⟨_, rfl, r⟩
  | _, _, i + 1, x, .cons _ t, e => by
    obtain ⟨u, h1, h2⟩ := Vals.get (i := i) (x := x) t (by simpa using e)
    exact ⟨u, by simpa using h1, h2⟩
theorem Vals.set {x : V} {u : Value} (r : RelV x u) : ∀ {xs : List V} {us : List Value} (i : Nat), Vals xs us → Vals (xs.set i x) (us.set i u)
  | _, _, _, .nil => .nil
  | _, _, 0, .cons _ t => .cons r t
  | _, _, i + 1, .cons q t => .cons q (Vals.set r i t)
theorem Vals.append : ∀ {xs ys : List V} {us ws : List Value}, Vals xs us → Vals ys ws → Vals (xs ++ ys) (us ++ ws)
  | _, _, _, _, .nil, s => s
  | _, _, _, _, .cons r t, s => .cons r (Vals.append t s)
def RelO : Option V → Option Value → Prop
  | some v, some u => RelV v u
  | none, none => True
  | _, _ => False
def KV {κ : Type} : List (κ × V) → List (κ × Value) → Prop := Paired fun (p : κ × V) (q : κ × Value) => p.1 = q.1 ∧ RelV p.2 q.2
def kV : Key → V
  | .inl i => .int i
  | .inr x => .str x
inductive HO where
  /-- a list -/
  | lst (xs : List V)
  /-- a tuple (never changes) -/
  | tup (xs : List V)
  /-- a dict whose keys are ints and texts; one whose keys are tuples of ints and texts (the empty one is both) -/
  | dK (kvs : List (Key × V)) | dT (kvs : List (List Key × V))
  /-- a set of ints: its members, its size -/
  | set (S : Int → Bool) (n : Nat)
  /-- an instance of the class at C, its dict at dx, its attributes -/
  | ins (C dx : Addr) (fs : List (Str × V))
  /-- the dict of the instance at x -/
  | own (x : Addr)
  /-- the dict of an exception -/
  | xd (fs : List (Str × V))
  /-- a bound method, f of x -/
  | met (f x : Addr)
  /-- a range object lo, lo + 1, .. below hi -/
  | rng (lo hi : Int)
  /-- a thing that is known to the object (the script; a dict while a loop walks it): read, never written while it is so -/
  | frz (o : Obj) (u : HO)
  /-- a code object's table -/
  | tbl (ps : Array Value)
  /-- any other thing, by what is true of its one object (a def of one's own: SetO a S n := HO.ext fun h => ..) -/
  | ext (φ : Heap → Prop)
abbrev Hp := Addr → Option HO
def upd (H : Hp) (a : Addr) (o : HO) : Hp := fun b => if b = a then some o else H b
theorem xf {H : Hp} {a : Addr} {o : HO} : upd H a o a = some o := by unfold upd; rw [if_pos rfl]
theorem xh {H : Hp} {a b : Addr} {o : HO} (h : b ≠ a) : upd H a o b = H b := by unfold upd; rw [if_neg h]
theorem xdx {H : Hp} {a : Addr} {o u : HO} : upd (upd H a o) a u = upd H a u := by
  funext b; unfold upd; split <;> rfl
theorem xak {H : Hp} {a b : Addr} {o u : HO} (h : H a = some o) (h' : H b = some u) (d : o ≠ u) : a ≠ b := by
  intro e; subst e; rw [h] at h'; exact d (Option.some.inj h')
theorem xk {H : Hp} {a b : Addr} {o : HO} (h : H a = some o) (h' : H b = none) : a ≠ b := by
  intro e; subst e; rw [h] at h'; cases h'
section
variable (P : Program) (w : World)
def xav (H : Hp) (h : Heap) (a : Addr) : HO → Prop
  | .lst xs => xs.length ≤ sizeLine ∧ ∃ (its : List Value) (n : Nat), Vals xs its ∧ h.get? a = some { cls := .type "list", data := .seq its.toArray n }
  | .tup xs => xs.length ≤ sizeLine ∧ ∃ its : List Value, Vals xs its ∧ IsTup h a its.toArray
  | .dK kvs => kvs.length ≤ sizeLine ∧ (a == sysModules) = false ∧ ∃ vs, KV kvs vs ∧ h.DictOf (xax P w) a vs
  | .dT kvs => kvs.length ≤ sizeLine ∧ (a == sysModules) = false ∧ ∃ xs : List (List Key × Addr × Value),
      Paired (fun (p : List Key × V) (q : List Key × Addr × Value) => p.1 = q.1 ∧ H q.2.1 = some (.tup (p.1.map kV)) ∧ RelV p.2 q.2.2) kvs xs ∧
      ∃ o es ep, h.get? a = some o ∧ o.ExactDict ∧ o.data = .dict es ep ∧ es.toList = xs.map (entryOfKey (tupleKind (xax P w))) ∧ (xs.map (·.1)).Nodup
  | .set S n => h.SetOf (intKind P w) a S n
  | .ins C dx fs => H dx = some (.own a) ∧ fs.length ≤ 1000 ∧ dx ≠ a ∧ h.get? a = some (PySem.W.instObj C dx) ∧
      ∃ mA, h.Ns1 dx mA ∧ (∀ f, RelO (fs.lookup f) (mA f)) ∧ PySem.Within mA (fs.map (·.1))
  | .own _ => ∃ o, h.get? a = some o
  | .xd fs => ∃ mA, h.Ns1 a mA ∧ ∀ f, RelO (fs.lookup f) (mA f)
  | .rng lo hi => ∃ t u v, h.get? a = some { cls := .type "range", data := .fields #[.int lo t, .int hi u, .int 1 v] }
  | .frz o u => h.get? a = some o ∧ xav H h a u
  | .tbl ps => h.get? a = some { cls := .none, data := .fields ps }
  | .met f x => h.get? a = some (PySem.W.methodObj (.ref f) (.ref x))
  | .ext φ => φ h ∧ (∃ o, h.get? a = some o) ∧ ∀ h1 h2 : Heap, φ h1 → (∀ o, h1.get? a = some o → h2.get? a = some o) → φ h2
def HOk (H : Hp) (h : Heap) : Prop := ∀ a o, H a = some o → xav P w H h a o
end
section
variable {P : Program} {w : World} {H H' : Hp} {h h' : Heap} {a : Addr} {o : HO}
theorem xav.lt (x : xav P w H h a o) : a < h.objs.size := by
  cases o with
  | lst xs => obtain ⟨_, _, _, _, e⟩ := x; exact Heap.lt_size e
  | tup xs => obtain ⟨_, _, _, p⟩ := x; exact p.lt
  | dK kvs => obtain ⟨_, _, _, _, o, _, _, e, _⟩ := x; exact Heap.lt_size e
  | dT kvs => obtain ⟨_, _, _, _, o, _, _, e, _⟩ := x; exact Heap.lt_size e
  | set S n => obtain ⟨o, _, _, _, e, _⟩ := x; exact Heap.lt_size e
  | ins C dx fs => obtain ⟨_, _, _, e, _⟩ := x; exact Heap.lt_size e
  | own y => obtain ⟨_, e⟩ := x; exact Heap.lt_size e
  | xd fs => obtain ⟨_, ⟨_, _, _, e, _⟩, _⟩ := x; exact Heap.lt_size e
  | rng lo hi => obtain ⟨_, _, _, e⟩ := x; exact Heap.lt_size e
  | frz ob u => obtain ⟨e, _⟩ := x; exact Heap.lt_size e
  | tbl ps => exact Heap.lt_size (show h.get? a = some _ from x)
  | met f y => exact Heap.lt_size (show h.get? a = some _ from x)
  | ext φ => obtain ⟨_, ⟨_, e⟩, _⟩ := x; exact Heap.lt_size e
theorem Paired.mapP {α β : Type} {F G : α → β → Prop} : ∀ {l₁ : List α} {l₂ : List β}, Paired F l₁ l₂ → (∀ a b, F a b → G a b) → Paired G l₁ l₂
  | _, _, .nil, _ => .nil
  | _, _, .cons r t, f => .cons (f _ _ r) (Paired.mapP t f)
theorem xav.stay (x : xav P w H h a o) (k : ∀ b u, (b = a ∨ H b = some (.own a)) → h.get? b = some u → h'.get? b = some u)
    (ho : ∀ b, H b = some (.own a) → H' b = some (.own a)) (ht : ∀ b xs, H b = some (.tup xs) → H' b = some (.tup xs)) : xav P w H' h' a o := by
  induction o with
  | lst xs => obtain ⟨z, its, n, r, e⟩ := x; exact ⟨z, its, n, r, k _ _ (.inl rfl) e⟩
  | tup xs => obtain ⟨z, its, r, ob, e, c⟩ := x; exact ⟨z, its, r, ob, k _ _ (.inl rfl) e, c⟩
  | dK kvs => obtain ⟨z, y, vs, r, ob, es, ep, e, c⟩ := x; exact ⟨z, y, vs, r, ob, es, ep, k _ _ (.inl rfl) e, c⟩
  | dT kvs =>
    obtain ⟨z, y, xs, r, ob, es, ep, e, c⟩ := x
    exact ⟨z, y, xs, Paired.mapP r fun p q z => ⟨z.1, ht _ _ z.2.1, z.2.2⟩, ob, es, ep, k _ _ (.inl rfl) e, c⟩
  | set S n => obtain ⟨ob, es, ep, t, e, c⟩ := x; exact ⟨ob, es, ep, t, k _ _ (.inl rfl) e, c⟩
  | ins C dx fs =>
    obtain ⟨d, z, ne, e, mA, ⟨od, es, ep, e2, c⟩, r⟩ := x
    exact ⟨ho _ d, z, ne, k _ _ (.inl rfl) e, mA, ⟨od, es, ep, k _ _ (.inr d) e2, c⟩, r⟩
  | own y => obtain ⟨ob, e⟩ := x; exact ⟨ob, k _ _ (.inl rfl) e⟩
  | xd fs => obtain ⟨mA, ⟨od, es, ep, e, c⟩, r⟩ := x; exact ⟨mA, ⟨od, es, ep, k _ _ (.inl rfl) e, c⟩, r⟩
  | rng lo hi => obtain ⟨t, u, v, e⟩ := x; exact ⟨t, u, v, k _ _ (.inl rfl) e⟩
  | frz ob u ih => obtain ⟨e, q⟩ := x; exact ⟨k _ _ (.inl rfl) e, ih q⟩
  | tbl ps =>
    have e : h.get? a = some { cls := .none, data := .fields ps } := x
    show h'.get? a = some { cls := .none, data := .fields ps }
    exact k a _ (.inl rfl) e
  | met f y =>
    have e : h.get? a = some (PySem.W.methodObj (.ref f) (.ref y)) := x
    show h'.get? a = some (PySem.W.methodObj (.ref f) (.ref y))
    exact k a _ (.inl rfl) e
  | ext φ => obtain ⟨p, ⟨o, e⟩, st⟩ := x; exact ⟨st _ _ p fun o q => k _ _ (.inl rfl) q, ⟨o, k _ _ (.inl rfl) e⟩, st⟩
theorem HOk.lt (x : HOk P w H h) (e : H a = some o) : a < h.objs.size := (x a o e).lt
theorem HOk.fresh (x : HOk P w H h) (e : h.objs.size ≤ a) : H a = none := by
  cases q : H a with
  | none => rfl
  | some u => exact absurd (Nat.lt_of_lt_of_le (x.lt q) e) (Nat.lt_irrefl _)
theorem HOk.kept (x : HOk P w H h) (k : ∀ b u, h.get? b = some u → h'.get? b = some u) : HOk P w H h' := fun a o e =>
  (x a o e).stay (fun b u _ q => k b u q) (fun _ q => q) fun _ _ q => q
theorem HOk.laid (x : HOk P w H h) (k : ∀ b u, h.get? b = some u → h'.get? b = some u) (hp : h.objs.size ≤ a) (new : xav P w (upd H a o) h' a o) : HOk P w (upd H a o) h' := fun b u e => by
  have hn := x.fresh hp
  by_cases hb : b = a
  · subst hb; rw [xf] at e; cases e; exact new
  · rw [xh hb] at e
    exact (x b u e).stay (fun c v _ q => k c v q) (fun c q => by rw [xh (xk q hn)]; exact q) fun c xs q => by rw [xh (xk q hn)]; exact q
end
def Rd (H : Hp) (a : Addr) (u : HO) : Prop := H a = some u ∨ ∃ o, H a = some (.frz o u)
theorem Rd.ok {P : Program} {w : World} {H : Hp} {h : Heap} {a : Addr} {u : HO} (r : Rd H a u) (x : HOk P w H h) : xav P w H h a u := by
  rcases r with r | ⟨o, r⟩
  · exact x a u r
  · obtain ⟨_, q⟩ := x a _ r
    exact q
def Mut : Option HO → Prop
  | some (.lst _) => True
  | some (.dK _) => True
  | some (.dT _) => True
  | some (.set _ _) => True
  | some (.ins _ _ _) => True
  | some (.ext _) => True
  | _ => False
section
variable {P : Program} {w : World} {H : Hp} {h h' : Heap} {x e : Addr} {o' : HO}
theorem HOk.write (ok : HOk P w H h) (mu : Mut (H x)) (he : e = x ∨ H e = some (.own x)) (k : ∀ b u, b ≠ e → h.get? b = some u → h'.get? b = some u) (heo : ∃ u, h'.get? e = some u)
    (new : xav P w (upd H x o') h' x o') : HOk P w (upd H x o') h' := fun b u q => by
  have nown : ∀ c y, H c = some (.own y) → c ≠ x := fun c y r z => by subst z; rw [r] at mu; exact mu
  have ntup : ∀ c xs, H c = some (.tup xs) → c ≠ x := fun c xs r z => by subst z; rw [r] at mu; exact mu
  by_cases hb : b = x
  · subst hb; rw [xf] at q; cases q; exact new
  · rw [xh hb] at q
    by_cases hbe : b = e
    · have q' : H b = some (.own x) := by
        rcases he with z | z
        · exact absurd (hbe.trans z) hb
        · rw [hbe]; exact z
      rw [q] at q'; cases q'
      obtain ⟨v, hv⟩ := heo
      exact ⟨v, by rw [hbe]; exact hv⟩
    · refine (ok b u q).stay (fun c v hc r => k c v ?_ r) (fun c r => by rw [xh (nown c b r)]; exact r) fun c xs r => by rw [xh (ntup c xs r)]; exact r
      rcases hc with rfl | hc
      · exact hbe
      · rintro rfl
        rcases he with z | z
        · exact nown c b hc z
        · rw [hc] at z; cases z; exact hb rfl
end
structure Un (fs ex : List Addr) (H H' : Hp) (h h' : Heap) : Prop where
  keep : ∀ b o, h.get? b = some o → H b = none → b ∉ fs → b ∉ ex → h'.get? b = some o
  slot : ∀ b o, h.get? b = some o → H b = none → b ∈ fs → b ∉ ex → ∃ sl, h'.get? b = some { o with slots := sl }
  free : ∀ b o, h.get? b = some o → H b = none → b ∉ ex → H' b = none
  there : ∀ b o, h.get? b = some o → b ∉ ex → ∃ o', h'.get? b = some o'
  tups : ∀ b xs, H b = some (.tup xs) → H' b = some (.tup xs)
  frzs : ∀ b o u, H b = some (.frz o u) → H' b = some (.frz o u)
  tbls : ∀ b ps, H b = some (.tbl ps) → ∃ more, H' b = some (.tbl (ps ++ more))
section
variable {fs fs' ex ex' : List Addr} {H H1 H2 : Hp} {h h1 h2 h' : Heap} {a x e : Addr} {o : HO}
theorem Un.any (u : Un fs ex H H1 h h1) {b : Addr} {ob : Obj} (q : h.get? b = some ob) (n : H b = none) (hx : b ∉ ex) : ∃ sl, h1.get? b = some { ob with slots := sl } := by
  by_cases hb : b ∈ fs
  · exact u.slot b ob q n hb hx
  · exact ⟨ob.slots, u.keep b ob q n hb hx⟩
theorem Un.kept (k : ∀ b u, h.get? b = some u → h'.get? b = some u) : Un fs ex H H h h' :=
  ⟨fun b ob q _ _ _ => k b ob q, fun b ob q _ _ _ => ⟨ob.slots, k b ob q⟩, fun _ _ _ n _ => n, fun b ob q _ => ⟨ob, k b ob q⟩, fun _ _ q => q, fun _ _ _ q => q, fun _ ps q => ⟨#[], by rw [q]; simp⟩⟩
theorem Un.refl : Un fs ex H H h h := Un.kept fun _ _ q => q
theorem Un.laid (k : ∀ b u, h.get? b = some u → h'.get? b = some u) (hp : h.objs.size ≤ a) (hn : H a = none) : Un fs ex H (upd H a o) h h' where
  keep := fun b u q _ _ _ => k b u q
  slot := fun b u q _ _ _ => ⟨u.slots, k b u q⟩
  free := fun b u q n _ => by rw [xh (Nat.ne_of_lt (Nat.lt_of_lt_of_le (Heap.lt_size q) hp))]; exact n
  there := fun b u q _ => ⟨u, k b u q⟩
  tups := fun b xs q => by rw [xh (xk q hn)]; exact q
  frzs := fun b u xs q => by rw [xh (xk q hn)]; exact q
  tbls := fun b ps q => ⟨#[], by rw [xh (xk q hn), q]; simp⟩
theorem Un.write (mu : Mut (H x)) (he : e = x ∨ H e = some (.own x)) (k : ∀ b u, b ≠ e → h.get? b = some u → h'.get? b = some u) (heo : ∃ u, h'.get? e = some u) : Un fs ex H (upd H x o) h h' := by
  have hx : ∀ b, H b = none → b ≠ x := fun b n z => by subst z; rw [n] at mu; exact mu
  have hb : ∀ b, H b = none → b ≠ e := fun b n z => by
    subst z
    rcases he with r | r
    · exact hx b n r
    · rw [n] at r; cases r
  have hm : ∀ b u, H b = some u → ¬ Mut (some u) → b ≠ x := fun b u q nm z => by subst z; rw [q] at mu; exact nm mu
  refine ⟨fun b u q n _ _ => k b u (hb b n) q, fun b u q n _ _ => ⟨u.slots, k b u (hb b n) q⟩, fun b u q n _ => by rw [xh (hx b n)]; exact n, fun b u q _ => ?_,
    fun b xs q => by rw [xh (hm b _ q fun z => z)]; exact q, fun b u xs q => by rw [xh (hm b _ q fun z => z)]; exact q, fun b ps q => ⟨#[], by rw [xh (hm b _ q fun z => z), q]; simp⟩⟩
  by_cases hbe : b = e
  · subst hbe; exact heo
  · exact ⟨u, k b u hbe q⟩
end
def trk (h : Heap) (H : Hp) : List Addr := (List.range h.objs.size).filter fun a => (H a).isSome
def hidT (h : Heap) (H : Hp) : Heap := PySem.W.hideAll h (trk h H)
theorem xif (h : Heap) (H : Hp) : (hidT h H).objs.size = h.objs.size := PySem.W.hideAll_size _ _
theorem xjp {h : Heap} {H : Hp} {b : Addr} {o : Obj} (e : h.get? b = some o) (n : H b = none) : (hidT h H).get? b = some o :=
  PySem.W.hideAll_get _ e fun hm => by
    have q : (H b).isSome = true := (List.mem_filter.mp hm).2
    rw [n] at q; simp at q
theorem xlk {h : Heap} {H : Hp} {b : Addr} {o : Obj} (e : (hidT h H).get? b = some o) : h.get? b = some o ∧ H b = none := by
  have e' : h.get? b = some o := PySem.W.of_hideAll (trk h H) e
  refine ⟨e', ?_⟩
  cases q : H b with
  | none => rfl
  | some x =>
    have hm : b ∈ trk h H := List.mem_filter.mpr ⟨List.mem_range.mpr (Heap.lt_size e'), by simp [q]⟩
    have z : (hidT h H).get? b = none := PySem.W.hideAll_none (trk h H) hm
    rw [z] at e; cases e
def xkz (g h : Heap) (L : Addr) : List (Addr × Obj) := (List.range h.objs.size).filterMap fun a => if a = L ∨ (g.get? a).isSome = true then none else (h.get? a).map fun o => (a, o)
def rest (g h : Heap) (L d : Addr) : List (Addr × Obj) := (xkz g h L).filter fun p => decide (p.1 ≠ d)
end L2
namespace L2
open PySem PySem.Spec PyProof.Rows
variable {q0 : Bool}
structure Mod (K : PySem.W.Frag) (mg : Str → Option Value) (base : Heap) : Prop where
  kin : K.In base
  glob : base.Ns mainGlobals mg
  blt : ∃ mb, base.Ns builtinsNs mb ∧ ∀ x : Str, x ≠ "__name__" → mb x = bootBuiltins x
  nolimit : base.NoLimit
structure Cx where
  prog : Program
  w : World
  K : PySem.W.Frag
  mg : Str → Option Value
  base : Heap
  A : Around
  N : List Str
  s₀ : Shared
  H₀ : Hp
  env : Env
  outer : List Env
  stack : List Env
  ex : List Addr
  fn : Str → Bool
  calm : Bool
  pn : List (Addr × Obj)
  xe : Value → Shared → Prop
def frs (l : List Env) : List Addr := l.filterMap (·.frame)
abbrev Cx.fs (X : Cx) : List Addr := frs X.outer
def Vis (sc : Scope) (x : Str) : Prop := sc.names.lookup x = some .local ∨ sc.names.lookup x = some .cell ∨ sc.names.lookup x = some .free
def Loc (sc : Scope) (x : Str) : Prop := sc.names.lookup x = some .local ∨ sc.names.lookup x = some .cell
def Look (env : Env) (h : Heap) (m : Str → Option Value) (x : Str) (u : Value) : Prop :=
  (env.kindOf x = some .local ∧ m x = some u) ∨ ((env.kindOf x = some .cell ∨ env.kindOf x = some .free) ∧ ∃ c, env.cells.lookup x = some c ∧ h.IsCell c (some u))
structure Cx.Ok (X : Cx) : Prop where
  mod : Mod X.K X.mg X.base
  kind : X.env.scope.kind = .function
  glob : X.env.globals = mainGlobals
  blt : X.env.builtins = builtinsNs
  above : X.s₀.heap.objs.size ≤ X.env.locals
  inj : ∀ x y c, X.env.cells.lookup x = some c → X.env.cells.lookup y = some c → x = y
  has : ∀ x, (X.env.kindOf x = some .cell ∨ X.env.kindOf x = some .free) → ∃ c, X.env.cells.lookup x = some c
  cab : ∀ x c, X.fn x = true → X.env.cells.lookup x = some c → X.s₀.heap.objs.size ≤ c
  hd : X.calm = true → X.A.handled = none
  frames : X.A.frames = some X.stack
  stk : X.stack = X.outer ∨ (X.stack = X.env :: X.outer ∧ X.env.frame = some X.env.locals)
  exf : ∀ b ∈ X.ex, b ≠ X.env.locals ∧ ∀ x c, X.env.cells.lookup x = some c → c ≠ b
  bs : ∀ b o, X.base.get? b = some o → X.s₀.heap.get? b = some o ∧ X.H₀ b = none
  bsz : X.base.objs.size ≤ X.s₀.heap.objs.size
  noex : ∀ b o, X.base.get? b = some o → b ∉ X.ex
  exfs : ∀ b ∈ X.ex, b ∉ X.fs
  funs : X.s₀.heap.FunFrames X.base X.outer
  frf : ∀ b ∈ X.fs, X.H₀ b = none
structure Inv (X : Cx) (pins : List (Addr × Obj)) (σ : List (Option V)) (H : Hp) (s : Shared) : Prop where
  ok : X.Ok
  os : s.os = X.s₀.os
  bare : AllBare s.gens
  base : Un X.fs X.ex X.H₀ H X.s₀.heap s.heap
  loc : ∃ m, s.heap.Ns X.env.locals m ∧ ∀ (i : Nat) (x : Str) (v : V), X.N[i]? = some x → σ[i]? = some (some v) → Vis X.env.scope x → ∃ u, RelV v u ∧ Look X.env s.heap m x u
  cell : ∀ x c, X.env.cells.lookup x = some c → ∃ v, s.heap.IsCell c v
  free : H X.env.locals = none
  freeC : ∀ x c, X.env.cells.lookup x = some c → H c = none
  pin : ∀ p ∈ X.pn ++ pins, s.heap.get? p.1 = some p.2 ∧ H p.1 = none ∧ p.1 ≠ X.env.locals ∧ p.1 ∉ X.fs ∧ ∀ v, p.2.data ≠ .cell v
  hok : HOk X.prog X.w H s.heap
  len : σ.length = X.N.length
section
variable {X : Cx} {pins : List (Addr × Obj)} {σ : List (Option V)} {H H' : Hp} {s : Shared} {h' : Heap}
theorem Cx.Ok.nofr (ok : X.Ok) {b : Addr} {o : Obj} (e : X.base.get? b = some o) : b ∉ X.fs := fun hb => by
  have := (ok.funs.mem hb).1
  rw [e] at this; cases this
theorem Inv.bs (I : Inv X pins σ H s) : ∀ b o, X.base.get? b = some o → s.heap.get? b = some o ∧ H b = none := fun b o e =>
  ⟨I.base.keep b o (I.ok.bs b o e).1 (I.ok.bs b o e).2 (I.ok.nofr e) (I.ok.noex b o e), I.base.free b o (I.ok.bs b o e).1 (I.ok.bs b o e).2 (I.ok.noex b o e)⟩
theorem Inv.bk (I : Inv X pins σ H s) : ∀ b o, X.base.get? b = some o → s.heap.get? b = some o := fun b o e => (I.bs b o e).1
theorem Inv.mod (I : Inv X pins σ H s) : Mod X.K X.mg X.base := I.ok.mod
theorem Inv.kIn (I : Inv X pins σ H s) : X.K.In s.heap := I.ok.mod.kin.keeps I.bk
theorem Inv.fr (I : Inv X pins σ H s) : ∃ m, Fr X.base X.env.locals s.heap m :=
  let ⟨m, hn, _⟩ := I.loc
  ⟨m, hn, I.bk, Nat.le_trans I.ok.bsz I.ok.above⟩
theorem Inv.lt (I : Inv X pins σ H s) : X.env.locals < s.heap.objs.size := let ⟨_, hn, _⟩ := I.loc; hn.lt
theorem Inv.sz (I : Inv X pins σ H s) : X.s₀.heap.objs.size ≤ s.heap.objs.size := Nat.le_trans I.ok.above (Nat.le_of_lt I.lt)
theorem Inv.nofs (I : Inv X pins σ H s) {a : Addr} (h : s.heap.objs.size ≤ a) : a ∉ X.fs := fun hb => by
  obtain ⟨_, o, ho, _⟩ := I.ok.funs.mem hb
  exact absurd (Nat.lt_of_lt_of_le (Heap.lt_size ho) (Nat.le_trans I.sz h)) (Nat.lt_irrefl _)
theorem Inv.cne (I : Inv X pins σ H s) : ∀ x c, X.env.cells.lookup x = some c → c ≠ X.env.locals := fun x c e z => by
  obtain ⟨v, o, ho, hd⟩ := I.cell x c e
  obtain ⟨m, ⟨o', es, ep, ho', hd', _⟩, _⟩ := I.loc
  rw [z, ho'] at ho; cases ho; rw [hd'] at hd; cases hd
theorem Inv.funs (I : Inv X pins σ H s) : s.heap.FunFrames X.base X.outer := by
  have all : ∀ (l : List Env), (∀ b ∈ frs l, b ∈ X.fs) → X.s₀.heap.FunFrames X.base l → s.heap.FunFrames X.base l := by
    intro l
    induction l with
    | nil => intro _ _; trivial
    | cons env r ih =>
      intro hs hl
      obtain ⟨hk, ⟨L, o, hf, hn, ho, hd⟩, hr⟩ := hl
      have hL : L ∈ X.fs := hs L (by unfold frs; rw [List.filterMap_cons, hf]; exact List.mem_cons_self)
      obtain ⟨sl, e⟩ := I.base.slot L o ho (I.ok.frf L hL) hL fun z => I.ok.exfs L z hL
      exact ⟨hk, ⟨L, _, hf, hn, e, hd⟩, ih (fun b hb => hs b (by unfold frs; rw [List.filterMap_cons, hf]; exact List.mem_cons_of_mem _ hb)) hr⟩
  exact all X.outer (fun _ hb => hb) I.ok.funs
theorem Inv.stack (I : Inv X pins σ H s) : s.heap.FunFrames X.base X.stack := by
  rcases I.ok.stk with e | ⟨e, hf⟩
  · rw [e]; exact I.funs
  · rw [e]
    obtain ⟨m, hn, _⟩ := I.loc
    refine .cons (by rw [I.ok.kind]; decide) hf hn ?_ I.funs
    exact Heap.get?_none_of_le (Nat.le_trans I.ok.bsz I.ok.above)
theorem Inv.stkSub (I : Inv X pins σ H s) : ∀ b ∈ frs X.stack, b ∈ X.env.locals :: X.fs := fun b hb => by
  rcases I.ok.stk with e | ⟨e, hf⟩
  · rw [e] at hb; exact List.mem_cons_of_mem _ hb
  · rw [e] at hb
    unfold frs at hb
    rw [List.filterMap_cons, hf] at hb
    exact hb
theorem Inv.stkFree (I : Inv X pins σ H s) : ∀ b ∈ frs X.stack, H b = none := fun b hb => by
  rcases List.mem_cons.mp (I.stkSub b hb) with e | hb
  · rw [e]; exact I.free
  · obtain ⟨_, o, ho, _⟩ := I.ok.funs.mem hb
    exact I.base.free b o ho (I.ok.frf b hb) fun z => I.ok.exfs b z hb
theorem Inv.step {g' : Array GenState} {t' : Nat} {d' : Drawn} {ch : List Addr} (I : Inv X pins σ H s)
    (hch : ∀ b ∈ ch, (b ∈ X.ex ∨ X.s₀.heap.objs.size ≤ b) ∧ b ≠ X.env.locals ∧ (∀ x c, X.env.cells.lookup x = some c → c ≠ b) ∧ ∀ p ∈ X.pn ++ pins, p.1 ≠ b)
    (keep : ∀ b o, b ≠ X.env.locals → b ∉ X.fs → b ∉ ch → s.heap.get? b = some o → H b = none → h'.get? b = some o)
    (slot : ∀ b o, b ≠ X.env.locals → b ∈ X.fs → b ∉ ch → s.heap.get? b = some o → H b = none → ∃ sl, h'.get? b = some { o with slots := sl }) (free : ∀ b o, b ∉ ch → s.heap.get? b = some o → H b = none → H' b = none)
    (there : ∀ b o, b ∉ ch → s.heap.get? b = some o → ∃ o', h'.get? b = some o')
    (tups : ∀ b xs, H b = some (.tup xs) → H' b = some (.tup xs)) (frzs : ∀ b o u, H b = some (.frz o u) → H' b = some (.frz o u)) (tbls : ∀ b ps, H b = some (.tbl ps) → ∃ more, H' b = some (.tbl (ps ++ more)))
    (ns : ∀ m, s.heap.Ns X.env.locals m → h'.Ns X.env.locals m) (hok : HOk X.prog X.w H' h') (hg : AllBare g') :
    Inv X pins σ H' { s with heap := h', gens := g', drawn := d', toks := t' } := by
  have neL : ∀ b o, X.s₀.heap.get? b = some o → b ≠ X.env.locals := fun b o e => Nat.ne_of_lt (Nat.lt_of_lt_of_le (Heap.lt_size e) I.ok.above)
  have neC : ∀ b o, X.s₀.heap.get? b = some o → b ∉ X.ex → b ∉ ch := fun b o e hx hb => by
    rcases (hch b hb).1 with z | z
    · exact hx z
    · exact absurd (Nat.lt_of_lt_of_le (Heap.lt_size e) z) (Nat.lt_irrefl _)
  have cellK : ∀ x c, X.env.cells.lookup x = some c → ∀ v, s.heap.IsCell c v → h'.IsCell c v := fun x c e v ⟨o, ho, hd⟩ => by
    have nch : c ∉ ch := fun z => (hch c z).2.2.1 x c e rfl
    by_cases hc : c ∈ X.fs
    · obtain ⟨sl, q⟩ := slot c o (I.cne x c e) hc nch ho (I.freeC x c e)
      exact ⟨_, q, hd⟩
    · exact ⟨o, keep c o (I.cne x c e) hc nch ho (I.freeC x c e), hd⟩
  refine ⟨I.ok, I.os, hg, ⟨fun b o e n hb hx => ?_, fun b o e n hb hx => ?_, fun b o e n hx => ?_, fun b o e hx => ?_, fun b xs e => tups b xs (I.base.tups b xs e), fun b o xs e => frzs b o xs (I.base.frzs b o xs e), fun b ps e => ?_⟩, ?_, fun x c e => ?_, ?_, fun x c e => ?_, fun p hp => ?_, hok, I.len⟩
  · exact keep b o (neL b o e) hb (neC b o e hx) (I.base.keep b o e n hb hx) (I.base.free b o e n hx)
  · obtain ⟨sl, e1⟩ := I.base.slot b o e n hb hx
    obtain ⟨sl', e2⟩ := slot b _ (neL b o e) hb (neC b o e hx) e1 (I.base.free b o e n hx)
    exact ⟨sl', e2⟩
  · obtain ⟨o', e1⟩ := I.base.there b o e hx
    exact free b o' (neC b o e hx) e1 (I.base.free b o e n hx)
  · obtain ⟨o', e1⟩ := I.base.there b o e hx
    exact there b o' (neC b o e hx) e1
  · obtain ⟨m1, e1⟩ := I.base.tbls b ps e
    obtain ⟨m2, e2⟩ := tbls b _ e1
    exact ⟨m1 ++ m2, by rw [e2, Array.append_assoc]⟩
  · obtain ⟨m, hn, hl⟩ := I.loc
    refine ⟨m, ns m hn, fun i x v e1 e2 e3 => ?_⟩
    obtain ⟨u, r, l⟩ := hl i x v e1 e2 e3
    refine ⟨u, r, ?_⟩
    rcases l with l | ⟨k, c, e, z⟩
    · exact .inl l
    · exact .inr ⟨k, c, e, cellK x c e _ z⟩
  · obtain ⟨v, z⟩ := I.cell x c e
    exact ⟨v, cellK x c e v z⟩
  · obtain ⟨m, ⟨o, _, _, ho, _⟩, _⟩ := I.loc
    exact free _ o (fun z => (hch _ z).2.1 rfl) ho I.free
  · obtain ⟨v, o, ho, hd⟩ := I.cell x c e
    exact free c o (fun z => (hch c z).2.2.1 x c e rfl) ho (I.freeC x c e)
  · obtain ⟨e, n, ne, nf, d⟩ := I.pin p hp
    have nch : p.1 ∉ ch := fun z => (hch p.1 z).2.2.2 p hp rfl
    exact ⟨keep p.1 p.2 ne nf nch e n, free p.1 p.2 nch e n, ne, nf, d⟩
theorem Inv.un {t' : Nat} (I : Inv X pins σ H s) (u : Un X.fs [] H H' s.heap h') (hok : HOk X.prog X.w H' h') : Inv X pins σ H' { s with heap := h', toks := t' } := by
  obtain ⟨m, ⟨o, es, ep, ho, r⟩, _⟩ := id I.loc
  obtain ⟨sl, hL⟩ := u.any ho I.free (by simp)
  exact I.step (g' := s.gens) (d' := s.drawn) (ch := []) (fun _ z => nomatch z) (fun b o _ hb _ e n => u.keep b o e n hb (by simp)) (fun b o _ hb _ e n => u.slot b o e n hb (by simp)) (fun b o _ e n => u.free b o e n (by simp)) (fun b o _ e => u.there b o e (by simp)) u.tups u.frzs u.tbls (fun m' hm => by
    obtain ⟨o', es', ep', ho', r'⟩ := hm
    rw [ho] at ho'; cases ho'
    exact ⟨_, es', ep', hL, r'⟩) hok I.bare
theorem Inv.call {g' : Array GenState} {t' : Nat} {d' : Drawn} {ch : List Addr} (I : Inv X pins σ H s) (u : Un (frs X.stack) ch H H' s.heap h') (hok : HOk X.prog X.w H' h') (hg : AllBare g')
    (hch : ∀ b ∈ ch, (b ∈ X.ex ∨ X.s₀.heap.objs.size ≤ b) ∧ b ≠ X.env.locals ∧ (∀ x c, X.env.cells.lookup x = some c → c ≠ b) ∧ ∀ p ∈ X.pn ++ pins, p.1 ≠ b) :
    Inv X pins σ H' { s with heap := h', gens := g', drawn := d', toks := t' } := by
  obtain ⟨m, ⟨o, es, ep, ho, r⟩, _⟩ := id I.loc
  obtain ⟨sl, hL⟩ := u.any ho I.free fun z => (hch _ z).2.1 rfl
  exact I.step (ch := ch) hch (fun b o hL hb hc e n => u.keep b o e n (fun z => (List.mem_cons.mp (I.stkSub b z)).elim hL hb) hc) (fun b o _ _ hc e n => u.any e n hc) (fun b o hc e n => u.free b o e n hc) (fun b o hc e => u.there b o e hc) u.tups u.frzs u.tbls (fun m' hm => by
    obtain ⟨o', es', ep', ho', r'⟩ := hm
    rw [ho] at ho'; cases ho'
    exact ⟨_, es', ep', hL, r'⟩) hok hg
theorem Inv.turned {t' : Nat} {it : Addr} (I : Inv X pins σ H s) (k : ∀ b o, b ≠ it → s.heap.get? b = some o → h'.get? b = some o) (hn : H it = none) (hL : it ≠ X.env.locals)
    (h1 : it ∈ X.ex ∨ X.s₀.heap.objs.size ≤ it) (h2 : ∀ x c, X.env.cells.lookup x = some c → c ≠ it) (h3 : ∀ p ∈ X.pn ++ pins, p.1 ≠ it) : Inv X pins σ H { s with heap := h', toks := t' } := by
  have nit : ∀ b u, H b = some u → b ≠ it := fun b u e z => by rw [z, hn] at e; cases e
  refine I.step (g' := s.gens) (d' := s.drawn) (ch := [it]) (fun b hb => ?_) (fun b o _ _ hc e _ => k b o (fun z => hc (by simp [z])) e) (fun b o _ _ hc e _ => ⟨o.slots, k b o (fun z => hc (by simp [z])) e⟩) (fun _ _ _ _ n => n)
    (fun b o hc e => ⟨o, k b o (fun z => hc (by simp [z])) e⟩) (fun _ _ e => e) (fun _ _ _ e => e) (fun b ps e => ⟨#[], by rw [e]; simp⟩) (fun m hm => ?_) (fun b u e => ?_) I.bare
  · have e : b = it := by simpa using hb
    subst e
    exact ⟨h1, hL, h2, h3⟩
  · obtain ⟨o, es, ep, ho, r⟩ := hm
    exact ⟨o, es, ep, k _ o (Ne.symm hL) ho, r⟩
  · refine (I.hok b u e).stay (fun c v hc q => k c v ?_ q) (fun _ q => q) fun _ _ q => q
    rcases hc with z | z
    · rw [z]; exact nit b u e
    · exact nit c _ z
theorem Inv.tok (I : Inv X pins σ H s) (t : Nat) : Inv X pins σ H { s with toks := t } := I.un (h' := s.heap) (t' := t) Un.refl I.hok
theorem Inv.kept {t' : Nat} (I : Inv X pins σ H s) (k : ∀ b u, s.heap.get? b = some u → h'.get? b = some u) : Inv X pins σ H { s with heap := h', toks := t' } := I.un (Un.kept k) (I.hok.kept k)
theorem Inv.laid {a : Addr} {o : HO} {t' : Nat} (I : Inv X pins σ H s) (k : ∀ b u, s.heap.get? b = some u → h'.get? b = some u) (hp : s.heap.objs.size ≤ a) (new : xav X.prog X.w (upd H a o) h' a o) :
    Inv X pins σ (upd H a o) { s with heap := h', toks := t' } := I.un (Un.laid k hp (I.hok.fresh hp)) (I.hok.laid k hp new)
theorem Inv.write {x e : Addr} {o : HO} {t' : Nat} (I : Inv X pins σ H s) (mu : Mut (H x)) (he : e = x ∨ H e = some (.own x)) (k : ∀ b u, b ≠ e → s.heap.get? b = some u → h'.get? b = some u) (heo : ∃ u, h'.get? e = some u)
    (new : xav X.prog X.w (upd H x o) h' x o) : Inv X pins σ (upd H x o) { s with heap := h', toks := t' } := I.un (Un.write mu he k heo) (I.hok.write mu he k heo new)
theorem Inv.weak {σ' : List (Option V)} (I : Inv X pins σ H s) (hl : σ'.length = σ.length) (w : ∀ (i : Nat) v, σ'[i]? = some (some v) → σ[i]? = some (some v)) : Inv X pins σ' H s :=
  ⟨I.ok, I.os, I.bare, I.base, let ⟨m, hn, hl'⟩ := I.loc; ⟨m, hn, fun i x v e1 e2 e3 => hl' i x v e1 (w i v e2) e3⟩, I.cell, I.free, I.freeC, I.pin, I.hok, hl.trans I.len⟩
theorem Inv.pins_of {pins' : List (Addr × Obj)} (I : Inv X pins σ H s) (h : ∀ p ∈ pins', s.heap.get? p.1 = some p.2 ∧ H p.1 = none ∧ p.1 ≠ X.env.locals ∧ p.1 ∉ X.fs ∧ ∀ v, p.2.data ≠ .cell v) : Inv X pins' σ H s :=
  ⟨I.ok, I.os, I.bare, I.base, I.loc, I.cell, I.free, I.freeC, fun p hp => (List.mem_append.mp hp).elim (fun z => I.pin p (List.mem_append_left _ z)) (h p), I.hok, I.len⟩
theorem xd9 {N : List Str} (hN : N.Nodup) {i j : Nat} {x : Str} (a : N[i]? = some x) (b : N[j]? = some x) : i = j := by
  obtain ⟨h1, e1⟩ := List.getElem?_eq_some_iff.mp a
  obtain ⟨h2, e2⟩ := List.getElem?_eq_some_iff.mp b
  exact (List.getElem_inj hN).mp (e1.trans e2.symm)
theorem xfj {M : Model} {A : Around} {E : Value → Shared → Prop} {i : Nat} {x : Str} {v : V} {u : Value} {Q : Unit → Shared → Prop} (I : Inv X pins σ H s) (hN : X.N.Nodup) (hi : X.N[i]? = some x) (hx : Loc X.env.scope x) (r : RelV v u)
    (h : ∀ s', Inv X pins (σ.set i (some v)) H s' → (∃ a, Heap.SameBut a s.heap s'.heap ∧ (a = X.env.locals ∨ X.env.cells.lookup x = some a)) → Q () s') (hf : X.fn x = true ∨ X.env.scope.names.lookup x = some .local := by first | exact .inl rfl | exact .inr rfl | assumption) : wpAny M A (storeName X.env x u) Q E s := by
  obtain ⟨m, hn, hl⟩ := id I.loc
  have hcls : (X.env.scope.kind == .class || (X.env.scope.kind == .module && X.env.locals != X.env.globals)) = false := by rw [I.ok.kind]; rfl
  have hiσ : i < σ.length := by rw [I.len]; exact (List.getElem?_eq_some_iff.mp hi).1
  have cne := I.cne
  have tracked : ∀ {a : Addr} {h' : Heap}, (∃ o, s.heap.get? a = some o ∧ H a = none) → Heap.SameBut a s.heap h' → HOk X.prog X.w H h' := fun {a h'} ha hs b ob e => by
    obtain ⟨_, _, hfree⟩ := ha
    refine (I.hok b ob e).stay (fun c w' hc q => (hs.2 c ?_).trans q) (fun _ q => q) fun _ _ q => q
    rintro rfl
    rcases hc with rfl | hc
    · rw [hfree] at e; cases e
    · rw [hfree] at hc; cases hc
  rcases hx with hk | hk
  · refine wpAny_storeName_local hk hn (fun h' hn' hs => ?_) hcls
    obtain ⟨oL, _, _, hoL, _⟩ := id hn
    refine h _ ⟨I.ok, I.os, I.bare, ⟨fun b o e n hb hx => ?_, fun b o e n hb hx => ?_, I.base.free, fun b o e hx => ?_, I.base.tups, I.base.frzs, I.base.tbls⟩, ⟨_, hn', fun j y v' e1 e2 e3 => ?_⟩, fun y c e => ?_, I.free, I.freeC, fun p hp => ?_, tracked ⟨oL, hoL, I.free⟩ hs, by simpa using I.len⟩ ⟨_, hs, .inl rfl⟩
    · exact (hs.2 b (Nat.ne_of_lt (Nat.lt_of_lt_of_le (Heap.lt_size e) I.ok.above))).trans (I.base.keep b o e n hb hx)
    · obtain ⟨sl, e1⟩ := I.base.slot b o e n hb hx
      exact ⟨sl, (hs.2 b (Nat.ne_of_lt (Nat.lt_of_lt_of_le (Heap.lt_size e) I.ok.above))).trans e1⟩
    · obtain ⟨o', e1⟩ := I.base.there b o e hx
      exact ⟨o', (hs.2 b (Nat.ne_of_lt (Nat.lt_of_lt_of_le (Heap.lt_size e) I.ok.above))).trans e1⟩
    · by_cases hj : j = i
      · subst hj
        rw [hi] at e1; cases e1
        rw [List.getElem?_set_self hiσ] at e2
        cases e2
        exact ⟨u, r, .inl ⟨hk, by simp⟩⟩
      · rw [List.getElem?_set_ne (Ne.symm hj)] at e2
        obtain ⟨u', r', q⟩ := hl j y v' e1 e2 e3
        refine ⟨u', r', ?_⟩
        rcases q with ⟨k, e⟩ | ⟨k, c, e, z⟩
        · refine .inl ⟨k, ?_⟩
          have : y ≠ x := fun e => hj (xd9 hN e1 (e ▸ hi))
          simp [this, e]
        · exact .inr ⟨k, c, e, z.sameBut hs (cne y c e)⟩
    · obtain ⟨w', z⟩ := I.cell y c e
      exact ⟨w', z.sameBut hs (cne y c e)⟩
    · obtain ⟨e, n, ne, nf, d⟩ := I.pin p hp
      exact ⟨(hs.2 p.1 ne).trans e, n, ne, nf, d⟩
  · have hfn : X.fn x = true := by
      rcases hf with z | z
      · exact z
      · rw [z] at hk; cases hk
    obtain ⟨c, hc⟩ := I.ok.has x (.inl hk)
    obtain ⟨w', z⟩ := I.cell x c hc
    refine wpAny_storeName_cell I.ok.kind hk hc z (fun h' hc' hs => ?_)
    obtain ⟨oc, hoc, hocd⟩ := id z
    refine h { s with heap := h' } ⟨I.ok, I.os, I.bare, ⟨fun b o e n hb hx => ?_, fun b o e n hb hx => ?_, I.base.free, fun b o e hx => ?_, I.base.tups, I.base.frzs, I.base.tbls⟩, ⟨m, hn.sameBut hs (Ne.symm (cne x c hc)), fun j y v' e1 e2 e3 => ?_⟩, fun y c' e => ?_, I.free, I.freeC, fun p hp => ?_, tracked ⟨oc, hoc, I.freeC x c hc⟩ hs, by simpa using I.len⟩ ⟨c, hs, .inr hc⟩
    · exact (hs.2 b (Nat.ne_of_lt (Nat.lt_of_lt_of_le (Heap.lt_size e) (I.ok.cab x c hfn hc)))).trans (I.base.keep b o e n hb hx)
    · obtain ⟨sl, e1⟩ := I.base.slot b o e n hb hx
      exact ⟨sl, (hs.2 b (Nat.ne_of_lt (Nat.lt_of_lt_of_le (Heap.lt_size e) (I.ok.cab x c hfn hc)))).trans e1⟩
    · obtain ⟨o', e1⟩ := I.base.there b o e hx
      exact ⟨o', (hs.2 b (Nat.ne_of_lt (Nat.lt_of_lt_of_le (Heap.lt_size e) (I.ok.cab x c hfn hc)))).trans e1⟩
    · by_cases hj : j = i
      · subst hj
        rw [hi] at e1; cases e1
        rw [List.getElem?_set_self hiσ] at e2
        cases e2
        exact ⟨u, r, .inr ⟨.inl hk, c, hc, hc'⟩⟩
      · rw [List.getElem?_set_ne (Ne.symm hj)] at e2
        obtain ⟨u', r', q⟩ := hl j y v' e1 e2 e3
        refine ⟨u', r', ?_⟩
        rcases q with q | ⟨k, c', e, z'⟩
        · exact .inl q
        · refine .inr ⟨k, c', e, z'.sameBut hs ?_⟩
          rintro rfl
          exact hj (xd9 hN e1 (I.ok.inj _ _ _ e hc ▸ hi))
    · by_cases hcc : c' = c
      · subst hcc; exact ⟨_, hc'⟩
      · obtain ⟨w2, z2⟩ := I.cell y c' e
        exact ⟨w2, z2.sameBut hs hcc⟩
    · obtain ⟨e, n, ne, nf, d⟩ := I.pin p hp
      refine ⟨(hs.2 p.1 ?_).trans e, n, ne, nf, d⟩
      intro q
      rw [q, hoc] at e
      have q' : oc = p.2 := Option.some.inj e
      exact d w' (by rw [← q']; exact hocd)
theorem xd6 {M : Model} {A : Around} {E : Value → Shared → Prop} {i : Nat} {x : Str} {v : V} {u : Value} {Q : Unit → Shared → Prop} (I : Inv X pins σ H s) (hN : X.N.Nodup) (hi : X.N[i]? = some x) (hx : Loc X.env.scope x) (r : RelV v u)
    (h : ∀ s', Inv X pins (σ.set i (some v)) H s' → Q () s') (hf : X.fn x = true ∨ X.env.scope.names.lookup x = some .local := by first | exact .inl rfl | exact .inr rfl | assumption) : wpAny M A (storeName X.env x u) Q E s :=
  xfj I hN hi hx r (fun s' I' _ => h s' I') hf
theorem Inv.call' {s' : Shared} {ch : List Addr} (I : Inv X pins σ H s) (ho : s'.os = s.os) (u : Un (frs X.stack) ch H H' s.heap s'.heap) (hok : HOk X.prog X.w H' s'.heap) (hg : AllBare s'.gens)
    (hch : ∀ b ∈ ch, (b ∈ X.ex ∨ X.s₀.heap.objs.size ≤ b) ∧ b ≠ X.env.locals ∧ (∀ x c, X.env.cells.lookup x = some c → c ≠ b) ∧ ∀ p ∈ X.pn ++ pins, p.1 ≠ b) : Inv X pins σ H' s' := by
  obtain ⟨h', g', d', t', o'⟩ := s'
  have e : o' = s.os := ho
  subst e
  exact I.call (g' := g') (t' := t') (d' := d') u hok hg hch
end
abbrev XK := Addr → Addr → Hp → Prop
abbrev St := List (Option V)
abbrev VK := V → Hp → Prop
abbrev TE := St → Hp → VK → Prop
abbrev TT := St → Hp → (Bool → Hp → Prop) → Prop
abbrev TA := St → Hp → (List V → Hp → Prop) → Prop
structure Ends where
  nx : St → Hp → Prop
  rt : VK
  bk : St → Hp → Prop := fun _ _ => False
  ct : St → Hp → Prop := fun _ _ => False
abbrev TS := Ends → St → Hp → Prop
def EP (X : Cx) (pins : List (Addr × Obj)) (σ : St) (Q : VK) (u : Value) (s' : Shared) : Prop := ∃ v H', Inv X pins σ H' s' ∧ RelV v u ∧ Q v H'
def TP (X : Cx) (pins : List (Addr × Obj)) (σ : St) (Q : Bool → Hp → Prop) (b : Bool) (s' : Shared) : Prop := ∃ H', Inv X pins σ H' s' ∧ Q b H'
def AP (X : Cx) (pins : List (Addr × Obj)) (σ : St) (Q : List V → Hp → Prop) (us : List Value) (s' : Shared) : Prop := ∃ vs H', Inv X pins σ H' s' ∧ Vals vs us ∧ Q vs H'
def SP (X : Cx) (pins : List (Addr × Obj)) (D : Ends) (f : Flow) (s' : Shared) : Prop :=
  match f with
  | .next => ∃ σ' H', Inv X pins σ' H' s' ∧ D.nx σ' H'
  | .brk => ∃ σ' H', Inv X pins σ' H' s' ∧ D.bk σ' H'
  | .cont => ∃ σ' H', Inv X pins σ' H' s' ∧ D.ct σ' H'
  | .ret u => ∃ v σ' H', Inv X pins σ' H' s' ∧ RelV v u ∧ D.rt v H'
def PE (X : Cx) (e : Expr) (t : TE) : Prop :=
  ∀ (pins : List (Addr × Obj)) (s : Shared) (σ : St) (H : Hp) (Q : VK), Inv X pins σ H s → t σ H Q → wpAny (model X.prog X.w) X.A (eval e X.env) (EP X pins σ Q) X.xe s
def PT (X : Cx) (e : Expr) (t : TT) : Prop :=
  ∀ (pins : List (Addr × Obj)) (s : Shared) (σ : St) (H : Hp) (Q : Bool → Hp → Prop), Inv X pins σ H s → t σ H Q → wpAny (model X.prog X.w) X.A (isTrue e X.env (eval e X.env)) (TP X pins σ Q) X.xe s
def PW (X : Cx) (e : Expr) (t : TT) : Prop :=
  ∀ (whole : Sem Value) (pins : List (Addr × Obj)) (s : Shared) (σ : St) (H : Hp) (Q : Bool → Hp → Prop), Inv X pins σ H s → t σ H Q → wpAny (model X.prog X.w) X.A (isTrue e X.env whole) (TP X pins σ Q) X.xe s
theorem PW.pt {X : Cx} {e : Expr} {t : TT} (h : PW X e t) : PT X e t := h _
def PA (X : Cx) (es : List Expr) (t : TA) : Prop :=
  ∀ (pos : Pos) (pins : List (Addr × Obj)) (s : Shared) (σ : St) (H : Hp) (Q : List V → Hp → Prop), Inv X pins σ H s → t σ H Q → wpAny (model X.prog X.w) X.A (spliced (backTo pos (starEach es X.env))) (AP X pins σ Q) X.xe s
def PS (X : Cx) (st : Stmt) (t : TS) : Prop :=
  ∀ (pins : List (Addr × Obj)) (s : Shared) (σ : St) (H : Hp) (D : Ends), Inv X pins σ H s → t D σ H → wpAny (model X.prog X.w) X.A (exec st X.env) (SP X pins D) X.xe s
def PSs (X : Cx) (st : List Stmt) (t : TS) : Prop :=
  ∀ (pins : List (Addr × Obj)) (s : Shared) (σ : St) (H : Hp) (D : Ends), Inv X pins σ H s → t D σ H → wpAny (model X.prog X.w) X.A (execs st X.env) (SP X pins D) X.xe s
theorem thn {α : Type} {t : Sem α} {Q Q' : α → Shared → Prop} {M : Model} {A : Around} {E : Value → Shared → Prop} {s : Shared} (h : wpAny M A t Q E s) (hQ : ∀ a s, Q a s → Q' a s) : wpAny M A t Q' E s := wpAny_mono h hQ fun _ _ x => x
end L2
namespace L2
open PySem PySem.Spec PyProof.Rows
variable {q0 : Bool}
section
variable {X : Cx}
def tVar (i : Nat) : TE := fun σ H Q => ∃ v, σ[i]? = some (some v) ∧ Q v H
def tC (v : V) : TE := fun _ H Q => Q v H
theorem xlx {i : Nat} {x : Str} {pos : Pos} (hN : X.N[i]? = some x) (hv : Vis X.env.scope x) (hd : (x == ("__debug__" : Str)) = false := by decide) (hcd : (x == ("__classdict__" : Str)) = false := by decide) : PE X (.Name x pos) (tVar i) := by
  intro pins s σ H Q I h
  obtain ⟨v, e, h⟩ := h
  obtain ⟨m, hn, hl⟩ := I.loc
  obtain ⟨u, r, l⟩ := hl i x v hN e hv
  have fin : EP X pins σ Q u s := ⟨v, H, I, r, h⟩
  rcases l with ⟨hk, hm⟩ | ⟨hk, c, hc, hcell⟩
  · exact wpAny_Name (wpAny_loadName_local I.ok.kind hk hn hm fin) hd
  · rcases hk with hk | hk
    · exact wpAny_Name (wpAny_loadName_cell I.ok.kind hk hc hcell fin) hd
    · exact wpAny_Name (wpAny_loadName_free I.ok.kind hk hc hcell fin hcd) hd
theorem xg {i j pos} : PE X (.Constant (.int i) j pos) (tC (.int i)) := fun _ _ _ H _ I h => wpAny_Constant_int ⟨.int i, H, I.tok _, ⟨_, rfl⟩, h⟩
theorem xby {b j pos} : PE X (.Constant (.bool b) j pos) (tC (.bl b)) := fun _ _ _ H _ I h => Constant_bool ⟨.bl b, H, I, rfl, h⟩
theorem xck {j pos} : PE X (.Constant .none j pos) (tC .non) := fun _ _ _ H _ I h => Constant_none ⟨.non, H, I, rfl, h⟩
theorem x4 {x j pos} : PE X (.Constant (.str x) j pos) (tC (.str x)) := fun _ _ _ H _ I h => Calls.Constant_str ⟨.str x, H, I.tok _, ⟨_, rfl⟩, h⟩
def Gl (X : Cx) (x : Str) : Prop := X.env.kindOf x = some .globalImplicit
theorem xcr {E : Value → Shared → Prop} {pins : List (Addr × Obj)} {s : Shared} {σ : St} {H : Hp} {x : Str} {u : Value} {pos : Pos} {Q : Value → Shared → Prop} (I : Inv X pins σ H s) (hg : Gl X x) (hm : X.mg x = some u) (h : Q u s)
    (hd : (x == ("__debug__" : Str)) = false := by decide) : wpAny (model X.prog X.w) X.A (eval (.Name x pos) X.env) Q E s :=
  Calls.Name_function_global I.ok.kind hg (Calls.loadGlobal_global (by rw [I.ok.glob]; exact I.mod.glob.keeps I.bk) hm h) hd
theorem xdn {E : Value → Shared → Prop} {pins : List (Addr × Obj)} {s : Shared} {σ : St} {H : Hp} {x : Str} {u : Value} {pos : Pos} {Q : Value → Shared → Prop} (I : Inv X pins σ H s) (hg : Gl X x) (hm : X.mg x = none) (hv : bootBuiltins x = some u) (h : Q u s)
    (hn : x ≠ "__name__" := by decide) (hd : (x == ("__debug__" : Str)) = false := by decide) : wpAny (model X.prog X.w) X.A (eval (.Name x pos) X.env) Q E s := by
  obtain ⟨mb, h1, h2⟩ := I.mod.blt
  exact Calls.Name_function_global I.ok.kind hg (Calls.loadGlobal_builtin (by rw [I.ok.glob]; exact I.mod.glob.keeps I.bk) hm (by rw [I.ok.blt]; exact h1.keeps I.bk) ((h2 x hn).trans hv) h) hd
theorem xah {x : Str} {v : V} {u : Value} {pos : Pos} (hg : Gl X x) (hm : X.mg x = some u) (r : RelV v u) (hd : (x == ("__debug__" : Str)) = false := by decide) : PE X (.Name x pos) (tC v) :=
  fun _ _ _ H _ I h => xcr I hg hm ⟨v, H, I, r, h⟩ hd
theorem xa5 {x : Str} {v : V} {u : Value} {pos : Pos} (hg : Gl X x) (hm : X.mg x = none) (hv : bootBuiltins x = some u) (r : RelV v u) (hn : x ≠ "__name__" := by decide) (hd : (x == ("__debug__" : Str)) = false := by decide) : PE X (.Name x pos) (tC v) :=
  fun _ _ _ H _ I h => xdn I hg hm hv ⟨v, H, I, r, h⟩ hn hd
variable {a b : Expr} {ta tb : TE} {pos : Pos}
def PC (X : Cx) (op : CmpOp) (a b : Expr) (t : TE) : Prop :=
  ∀ (pins : List (Addr × Obj)) (s : Shared) (σ : St) (H : Hp) (Q : VK), Inv X pins σ H s → t σ H Q →
    wpAny (model X.prog X.w) X.A (eval a X.env) (fun v s₁ => wpAny (model X.prog X.w) X.A (eval b X.env) (fun u s₂ => wpAny (model X.prog X.w) X.A (compareOp op v u) (EP X pins σ Q) X.xe s₂) X.xe s₁) X.xe s
theorem xj2 (b : Expr) {op : CmpOp} (h : op ≠ .In) (h2 : op ≠ .NotIn) : behindInMarks op b = false := by
  have e1 : (op == CmpOp.In) = false := by cases op <;> first | rfl | exact absurd rfl h
  have e2 : (op == CmpOp.NotIn) = false := by cases op <;> first | rfl | exact absurd rfl h2
  cases b <;> simp [behindInMarks, e1, e2]
def tB (t : TE) : TT := fun σ H Q => t σ H fun x H1 => ∃ c, x = .bl c ∧ Q c H1
theorem xem {op : CmpOp} {t : TE} (h : PC X op a b t) (h1 : behindInMarks op b = false := by first | exact xj2 _ (by decide) (by decide) | rfl) : PT X (.Compare a [op] [b] pos) (tB t) := by
  intro pins s σ H Q I hw
  refine wpAny_isTrue_Compare1 (thn (h pins s σ H _ I hw) fun v s1 h1 => thn h1 fun u s2 h2 => thn h2 fun c s3 ⟨x, H1, I1, r1, q1⟩ => ?_) h1
  obtain ⟨d, rfl, q⟩ := q1
  cases r1
  exact wpAny_truthy_bool ⟨H1, I1, q⟩
theorem xad {e : Expr} {t : TE} (h : PE X e t) (he : ∀ whole, isTrue e X.env whole = (do let v ← whole; standAt e.pos; holding [v] (truthy v)) := by intro _; rfl) : PT X e (tB t) := by
  intro pins s σ H Q I hw
  refine isTrue_plain (thn (h pins s σ H _ I hw) fun v s1 ⟨x, H1, I1, r1, q1⟩ => ?_) (he _)
  obtain ⟨d, rfl, q⟩ := q1
  cases r1
  exact wpAny_truthy_bool ⟨H1, I1, q⟩
variable {tA tB' : TT} {rest : List Expr}
def tOr (t u : TT) : TT := fun σ H Q => t σ H fun c H1 => if c = true then Q true H1 else u σ H1 Q
def tNot (t : TT) : TT := fun σ H Q => t σ H fun c H1 => Q (!c) H1
theorem xbc (ha : PT X a tA) : PW X (.BoolOp .Or [a] pos) tA := by
  intro wh pins s σ H Q I h
  refine isTrue_or (thn (ha pins s σ H Q I h) fun c s1 e => ?_)
  cases c with
  | false => exact isTrue_or_nil e
  | true => exact e
theorem xbe (ha : PT X a tA) (hb : PW X (.BoolOp .Or (b :: rest) pos) tB') : PW X (.BoolOp .Or (a :: b :: rest) pos) (tOr tA tB') := by
  intro wh pins s σ H Q I h
  refine isTrue_or (thn (ha pins s σ H _ I h) fun c s1 ⟨H1, I1, q1⟩ => ?_)
  cases c with
  | true => exact ⟨H1, I1, q1⟩
  | false => exact hb wh pins s1 σ H1 Q I1 q1
theorem xat (ha : PT X a tA) : PT X (.UnaryOp .Not a pos) (tNot tA) := by
  intro pins s σ H Q I h
  exact isTrue_not (ha pins s σ H (fun c H1 => Q (!c) H1) I h)
def xmo (ta tb : TE) : TE := fun σ H Q => ta σ H fun x H1 => ∃ c, x = .bl c ∧ if c = true then tb σ H1 Q else Q (.bl false) H1
def xm7 (ta : TE) : TE := fun σ H Q => ta σ H fun x H1 => ∃ c, x = .bl c ∧ Q (.bl (!c)) H1
theorem xcv {op} {t : TE} (h : PE X a t) : PE X (.BoolOp op [a] pos) t := fun pins s σ H Q I hw => BoolOp_one (h pins s σ H Q I hw)
theorem xbo (ha : PE X a ta) (hb : PE X (.BoolOp .And (b :: rest) pos) tb) : PE X (.BoolOp .And (a :: b :: rest) pos) (xmo ta tb) := by
  intro pins s σ H Q I h
  refine BoolOp_and (thn (ha pins s σ H _ I h) fun v s1 ⟨x, H1, I1, r1, q1⟩ => ?_)
  obtain ⟨c, rfl, q1⟩ := q1
  cases r1
  refine wpAny_truthy_bool ?_
  cases c with
  | true => exact hb pins s1 σ H1 Q I1 q1
  | false => exact ⟨.bl false, H1, I1, rfl, q1⟩
theorem xef (ha : PE X a ta) : PE X (.UnaryOp .Not a pos) (xm7 ta) := by
  intro pins s σ H Q I h
  refine UnaryOp_ (thn (ha pins s σ H _ I h) fun v s1 ⟨x, H1, I1, r1, q1⟩ => ?_)
  obtain ⟨c, rfl, q1⟩ := q1
  cases r1
  exact not_of (wpAny_truthy_bool ⟨.bl (!c), H1, I1, rfl, q1⟩)
def tIf (t : TT) (ta tb : TE) : TE := fun σ H Q => t σ H fun c H1 => if c = true then ta σ H1 Q else tb σ H1 Q
theorem xge {c : Expr} (hc : PT X c tA) (ha : PE X a ta) (hb : PE X b tb) : PE X (.IfExp c a b pos) (tIf tA ta tb) := by
  intro pins s σ H Q I h
  refine wpAny_IfExp (thn (hc pins s σ H _ I h) fun d s1 ⟨H1, I1, q1⟩ => ?_)
  cases d with
  | true => exact ha pins s1 σ H1 Q I1 q1
  | false => exact hb pins s1 σ H1 Q I1 q1
end
end L2
namespace L2
open PySem PySem.Spec PyProof.Rows
variable {q0 : Bool}
def SqL (K : PySem.W.Frag) (H : Hp) (a : Addr) (xs : List V) : Prop :=
  Rd H a (.lst xs) ∨
    ∃ (o : Obj) (its : Array Value) (n : Nat), K.lookup a = some o ∧ o.cls = .type "list" ∧ o.dict = none ∧ o.data = .seq its n ∧ its.size ≤ sizeLine ∧ Vals xs its.toList
def SqT (K : PySem.W.Frag) (H : Hp) (a : Addr) (xs : List V) : Prop :=
  Rd H a (.tup xs) ∨
    ∃ (o : Obj) (its : Array Value) (n : Nat), K.lookup a = some o ∧ o.cls = .type "tuple" ∧ o.data = .seq its n ∧ its.size ≤ sizeLine ∧ Vals xs its.toList
def absV : Value → Option V
  | .none => some .non
  | .bool b => some (.bl b)
  | .int i _ => some (.int i)
  | .str x _ => some (.str x)
  | .bytes b _ => some (.byt b)
  | .float b _ => some (.flt b)
  | .ref a => some (.ref a)
  | .type n => some (.ty n)
  | _ => none
theorem RelV.abs {x : V} {u : Value} (r : RelV x u) : absV u = some x := by
  cases x with
  | non => cases r; rfl
  | bl _ => cases r; rfl
  | int _ => obtain ⟨t, rfl⟩ := r; rfl
  | str _ => obtain ⟨t, rfl⟩ := r; rfl
  | byt _ => obtain ⟨t, rfl⟩ := r; rfl
  | flt _ => obtain ⟨t, rfl⟩ := r; rfl
  | ref _ => cases r; rfl
  | ty _ => cases r; rfl
theorem RelV.inj {x y : V} {u : Value} (r : RelV x u) (q : RelV y u) : x = y := Option.some.inj (r.abs.symm.trans q.abs)
theorem Vals.inj : ∀ {xs ys : List V} {us : List Value}, Vals xs us → Vals ys us → xs = ys
  | _, _, _, .nil, .nil => rfl
  | _, _, _, .cons r t, .cons r' t' => by rw [r.inj r', Vals.inj t t']
section
variable {X : Cx} {pins : List (Addr × Obj)} {σ : St} {H : Hp} {s : Shared} {a : Addr} {xs ys : List V}
theorem SqL.of {K : PySem.W.Frag} (h : H a = some (.lst xs)) : SqL K H a xs := .inl (.inl h)
theorem SqT.of {K : PySem.W.Frag} (h : H a = some (.tup xs)) : SqT K H a xs := .inl (.inl h)
theorem Inv.list (I : Inv X pins σ H s) (h : SqL X.K H a xs) : ∃ its : List Value, Vals xs its ∧ PlainL s.heap a its.toArray ∧ xs.length ≤ sizeLine := by
  rcases h with h | ⟨o, its, n, hk, hc, hd, hs, hz, r⟩
  · obtain ⟨z, its, n, r, e⟩ := h.ok I.hok
    exact ⟨its, r, ⟨_, n, e, rfl, rfl, rfl⟩, z⟩
  · refine ⟨its.toList, r, ⟨o, n, I.kIn a o hk, hc, hd, by simpa using hs⟩, ?_⟩
    have e := r.length
    simp only [Array.length_toList] at e
    omega
theorem Inv.tuple (I : Inv X pins σ H s) (h : SqT X.K H a xs) : ∃ its : List Value, Vals xs its ∧ IsTup s.heap a its.toArray ∧ xs.length ≤ sizeLine := by
  rcases h with h | ⟨o, its, n, hk, hc, hs, hz, r⟩
  · obtain ⟨z, its, r, p⟩ := h.ok I.hok
    exact ⟨its, r, p, z⟩
  · refine ⟨its.toList, r, ⟨o, I.kIn a o hk, hc, n, by simpa using hs⟩, ?_⟩
    have e := r.length
    simp only [Array.length_toList] at e
    omega
theorem Inv.list_inj (I : Inv X pins σ H s) (h : SqL X.K H a xs) (h' : SqL X.K H a ys) : xs = ys := by
  obtain ⟨its, r, ⟨o, n, e, _, _, d⟩, _⟩ := I.list h
  obtain ⟨its', r', ⟨o', n', e', _, _, d'⟩, _⟩ := I.list h'
  rw [e] at e'; cases e'
  rw [d] at d'
  injection d' with d1 _
  have : its = its' := by simpa using congrArg Array.toList d1
  subst this
  exact r.inj r'
theorem Inv.tuple_inj (I : Inv X pins σ H s) (h : SqT X.K H a xs) (h' : SqT X.K H a ys) : xs = ys := by
  obtain ⟨its, r, ⟨o, e, _, n, d⟩, _⟩ := I.tuple h
  obtain ⟨its', r', ⟨o', e', _, n', d'⟩, _⟩ := I.tuple h'
  rw [e] at e'; cases e'
  rw [d] at d'
  injection d' with d1 _
  have : its = its' := by simpa using congrArg Array.toList d1
  subst this
  exact r.inj r'
end
abbrev Cx.wish (X : Cx) (E : Value → Shared → Prop) : Cx := { X with xe := E }
abbrev Cx.nox (X : Cx) : Cx := X.wish fun _ _ => False
theorem Cx.Ok.wish {X : Cx} (ok : X.Ok) (E : Value → Shared → Prop) : (X.wish E).Ok :=
  ⟨ok.mod, ok.kind, ok.glob, ok.blt, ok.above, ok.inj, ok.has, ok.cab, ok.hd, ok.frames, ok.stk, ok.exf, ok.bs, ok.bsz, ok.noex, ok.exfs, ok.funs, ok.frf⟩
theorem Cx.Ok.unwish {X : Cx} {E : Value → Shared → Prop} (ok : (X.wish E).Ok) : X.Ok :=
  ⟨ok.mod, ok.kind, ok.glob, ok.blt, ok.above, ok.inj, ok.has, ok.cab, ok.hd, ok.frames, ok.stk, ok.exf, ok.bs, ok.bsz, ok.noex, ok.exfs, ok.funs, ok.frf⟩
section
variable {X : Cx} {pins : List (Addr × Obj)} {σ : St} {H : Hp} {s : Shared} {E : Value → Shared → Prop}
theorem Inv.wish (I : Inv X pins σ H s) (E : Value → Shared → Prop) : Inv (X.wish E) pins σ H s := ⟨I.ok.wish E, I.os, I.bare, I.base, I.loc, I.cell, I.free, I.freeC, I.pin, I.hok, I.len⟩
theorem Inv.unwish (I : Inv (X.wish E) pins σ H s) : Inv X pins σ H s := ⟨I.ok.unwish, I.os, I.bare, I.base, I.loc, I.cell, I.free, I.freeC, I.pin, I.hok, I.len⟩
theorem SP.unwish {D : Ends} {f : Flow} {s' : Shared} (h : SP (X.wish E) pins D f s') : SP X pins D f s' := by
  cases f with
  | next => obtain ⟨σ', H', I, q⟩ := h; exact ⟨σ', H', I.unwish, q⟩
  | brk => obtain ⟨σ', H', I, q⟩ := h; exact ⟨σ', H', I.unwish, q⟩
  | cont => obtain ⟨σ', H', I, q⟩ := h; exact ⟨σ', H', I.unwish, q⟩
  | ret u => obtain ⟨v, σ', H', I, r, q⟩ := h; exact ⟨v, σ', H', I.unwish, r, q⟩
theorem PSs.nox {st : List Stmt} {t : TS} (h : PSs X.nox st t) : PSs X st t := fun pins s σ H D I hw =>
  wpAny_mono (h pins s σ H D (I.wish _) hw) (fun _ _ q => q.unwish) fun _ _ z => False.elim z
end
section
variable {X : Cx} {st : Stmt} {rest : List Stmt} {t u : TS} {e : Expr} {te : TE} {pos : Pos}
def xm6 : TS := fun D σ H => D.nx σ H
def tSeq (t u : TS) : TS := fun D σ H => t { D with nx := u D } σ H
theorem xw : PSs X [] xm6 := fun _ _ σ H _ I h => wpAny_execs_nil ⟨σ, H, I, h⟩
theorem xm (h1 : PS X st t) (h2 : PSs X rest u) : PSs X (st :: rest) (tSeq t u) := by
  intro pins s σ H D I h
  refine wpAny_execs_cons (thn (h1 pins s σ H { D with nx := u D } I h) fun f s1 q => ?_)
  cases f with
  | next =>
    obtain ⟨σ', H', I', q⟩ := q
    exact h2 pins s1 σ' H' D I' q
  | ret v => exact q
  | brk => exact q
  | cont => exact q
theorem xn (h1 : PS X st t) : PSs X [st] t := by
  intro pins s σ H D I h
  refine wpAny_execs_cons (thn (h1 pins s σ H D I h) fun f s1 q => ?_)
  cases f with
  | next => exact wpAny_execs_nil q
  | ret v => exact q
  | brk => exact q
  | cont => exact q
theorem Inv.quiet {pins : List (Addr × Obj)} {σ : St} {H : Hp} {s : Shared} (I : Inv X pins σ H s) : interactive X.env = false := by simp [interactive, I.ok.kind]
def xm9 (te : TE) : TS := fun D σ H => te σ H fun _ H1 => D.nx σ H1
theorem xbp (he : PE X e te) (hs : swapsWith e none pos.line X.env = pure false := by rfl) : PS X (.Expr e pos) (xm9 te) := by
  intro pins s σ H D I h
  exact wpAny_Expr_any (thn (he pins s σ H _ I h) fun v s1 ⟨x, H1, I1, r1, q1⟩ => ⟨σ, H1, I1, q1⟩) I.quiet hs
def tRet (te : TE) : TS := fun D σ H => te σ H D.rt
theorem xai (he : PE X e te) : PS X (.Return (some e) pos) (tRet te) := by
  intro pins s σ H D I h
  exact wpAny_Return_some (thn (he pins s σ H _ I h) fun v s1 ⟨x, H1, I1, r1, q1⟩ => ⟨x, σ, H1, I1, r1, q1⟩)
def tIfS (c : TT) (t u : TS) : TS := fun D σ H => c σ H fun b H1 => if b = true then t D σ H1 else u D σ H1
theorem x8 {c : Expr} {a b : List Stmt} {tc : TT} (hc : PT X c tc) (ha : PSs X a t) (hb : PSs X b u) : PS X (.If c a b pos) (tIfS tc t u) := by
  intro pins s σ H D I h
  refine wpAny_If (thn (hc pins s σ H _ I h) fun d s1 ⟨H1, I1, q1⟩ => ?_)
  cases d with
  | true => exact ha pins s1 σ H1 D I1 q1
  | false => exact hb pins s1 σ H1 D I1 q1
def xl7 : TS := fun _ _ _ => False
theorem xbm : PS X st xl7 := fun _ _ _ _ _ _ h => h.elim
end
abbrev TG := V → St → Hp → (St → Hp → Prop) → Prop
abbrev TGs := List V → St → Hp → (St → Hp → Prop) → Prop
def PG (X : Cx) (target : Expr) (t : TG) : Prop :=
  ∀ (pins : List (Addr × Obj)) (s : Shared) (σ : St) (H : Hp) (v : V) (u : Value) (Q : St → Hp → Prop), Inv X pins σ H s → RelV v u → t v σ H Q →
    wpAny (model X.prog X.w) X.A (assign target X.env u) (fun _ s' => ∃ σ' H', Inv X pins σ' H' s' ∧ Q σ' H') X.xe s
def PGs (X : Cx) (ts : List Expr) (t : TGs) : Prop :=
  ∀ (pins : List (Addr × Obj)) (s : Shared) (σ : St) (H : Hp) (vs : List V) (us : List Value) (Q : St → Hp → Prop), Inv X pins σ H s → Vals vs us → t vs σ H Q →
    wpAny (model X.prog X.w) X.A (assignInOrder ((assignEach ts X.env).map (·.2)) us) (fun _ s' => ∃ σ' H', Inv X pins σ' H' s' ∧ Q σ' H') X.xe s
abbrev TSet := V → V → V → Hp → (Hp → Prop) → Prop
def PSet (X : Cx) (t : TSet) : Prop :=
  ∀ (pins : List (Addr × Obj)) (s : Shared) (σ : St) (H : Hp) (o i v : V) (ov iv u : Value) (Q : Hp → Prop), Inv X pins σ H s → RelV o ov → RelV i iv → RelV v u → t o i v H Q →
    wpAny (model X.prog X.w) X.A (setItem ov iv u) (fun _ s' => ∃ H', Inv X pins σ H' s' ∧ Q H') X.xe s
section
variable {X : Cx} {pos : Pos}
def xds (i : Nat) : TG := fun v σ H Q => Q (σ.set i (some v)) H
theorem xap {i : Nat} {x : Str} (hN : X.N.Nodup) (hi : X.N[i]? = some x) (hx : Loc X.env.scope x) (hf : X.fn x = true ∨ X.env.scope.names.lookup x = some .local := by first | exact .inl rfl | exact .inr rfl | assumption) : PG X (.Name x pos) (xds i) := by
  intro pins s σ H v u Q I r h
  exact wpAny_assign_Name (xd6 I hN hi hx r (fun s' I' => ⟨_, H, I', h⟩) hf)
def gNil : TGs := fun vs σ H Q => vs = [] ∧ Q σ H
def xht (t : TG) (u : TGs) : TGs := fun vs σ H Q => ∃ v r, vs = v :: r ∧ t v σ H fun σ' H' => u r σ' H' Q
theorem xdt : PGs X [] gNil := by
  intro pins s σ H vs us Q I r h
  obtain ⟨e, h⟩ := h
  subst e
  cases r
  exact assignInOrder_nil ⟨σ, H, I, h⟩
theorem xa7 {e : Expr} {es : List Expr} {t : TG} {u : TGs} (h1 : PG X e t) (h2 : PGs X es u)
    (hs : (assignEach (e :: es) X.env).map (·.2) = assign e X.env :: (assignEach es X.env).map (·.2) := by rfl) : PGs X (e :: es) (xht t u) := by
  intro pins s σ H vs us Q I r h
  obtain ⟨v, vr, e1, h⟩ := h
  subst e1
  cases r with
  | cons r rr =>
    rw [hs]
    refine assignInOrder_cons (thn (h1 pins s σ H _ _ _ I r h) fun _ s1 ⟨σ1, H1, I1, q1⟩ => ?_)
    exact h2 pins s1 σ1 H1 _ _ Q I1 rr q1
def gTup (K : PySem.W.Frag) (n : Nat) (t : TGs) : TG := fun v σ H Q => ∃ a xs, v = .ref a ∧ SqT K H a xs ∧ xs.length = n ∧ t xs σ H Q
theorem xfz {es : List Expr} {k : Nat} {t : TGs} {n : Nat} (hc : X.calm = true) (h : PGs X es t)
    (hn : (assignEach es X.env).length = n := by rfl) (hst : (assignEach es X.env).findIdx? (·.1) = none := by rfl) : PG X (.Tuple es k pos) (gTup X.K n t) := by
  intro pins s σ H v u Q I r hw
  obtain ⟨a, xs, e1, hq, hl, hw⟩ := hw
  subst e1
  cases r
  obtain ⟨its, rv, ht, hz⟩ := I.tuple hq
  refine assign_Tuple_tuple (I.ok.hd hc) ht (by simp [hn, ← hl, rv.length]) hst fun h' hx => ?_
  have I1 : Inv X pins σ H { s with heap := h' } := I.kept (t' := s.toks) fun b o e => hx b o (Nat.ne_of_lt (Heap.lt_size e)) e
  exact h pins _ σ H xs _ Q I1 (by simpa using rv) hw
def gSub (to ti : TE) (t : TSet) : TG := fun v σ H Q => to σ H fun o H1 => ti σ H1 fun i H2 => t o i v H2 fun H3 => Q σ H3
theorem xb3 {o i : Expr} {to ti : TE} {t : TSet} (ho : PE X o to) (hi : PE X i ti) (hs : PSet X t)
    (ha : ∀ v, assign (.Subscript o i pos) X.env v = (do
      let ov ← holding [v] (eval o X.env)
      let iv ← holding [v, ov] (eval i X.env)
      standAt pos
      holding [v, ov, iv] (setItem ov iv v)
      release [v, ov, iv] []) := by intro _; rfl) : PG X (.Subscript o i pos) (gSub to ti t) := by
  intro pins s σ H v u Q I r h
  rw [ha]
  refine wpAny_bind (wpAny_holding (thn (ho pins s σ H _ I h) fun ov s1 ⟨x, H1, I1, r1, q1⟩ => ?_))
  refine wpAny_bind (wpAny_holding (thn (hi pins s1 σ H1 _ I1 q1) fun iv s2 ⟨y, H2, I2, r2, q2⟩ => ?_))
  refine wpAny_bind (wpAny_standAt (wpAny_bind (wpAny_holding (thn (hs pins s2 σ H2 x y v ov iv u _ I2 r1 r2 r q2) fun _ s3 ⟨H3, I3, q3⟩ => ?_))))
  exact wpAny_release ⟨σ, H3, I3, q3⟩
def tAsg (te : TE) (g : TG) : TS := fun D σ H => te σ H fun x H1 => g x σ H1 D.nx
theorem xbs {tg e : Expr} {te : TE} {g : TG} (he : PE X e te) (hg : PG X tg g) (hs : swapsWithSole [tg] e pos.line X.env = pure false := by rfl) (hw : swappedStores [tg] e X.env = pure none := by rfl)
    (h1 : (assignEach [tg] X.env).map (·.2) = [assign tg X.env] := by rfl) : PS X (.Assign [tg] e pos) (tAsg te g) := by
  intro pins s σ H D I h
  refine wpAny_Assign_stores (thn (he pins s σ H _ I h) fun v s1 ⟨x, H1, I1, r1, q1⟩ => ?_) hs hw
  rw [h1]
  exact thn (hg pins s1 σ H1 x v _ I1 r1 q1) fun _ s2 q => q
theorem x6 {i : Nat} {x : Str} {e : Expr} {te : TE} {pos' : Pos} (hN : X.N.Nodup) (hi : X.N[i]? = some x) (hx : Loc X.env.scope x) (he : PE X e te) (hs : swapsWith e (some (.Name x pos')) pos.line X.env = pure false := by rfl) (hf : X.fn x = true ∨ X.env.scope.names.lookup x = some .local := by first | exact .inl rfl | exact .inr rfl | assumption) :
    PS X (.Assign [.Name x pos'] e pos) (tAsg te (xds i)) := by
  intro pins s σ H D I h
  refine wpAny_Assign_Name (thn (he pins s σ H _ I h) fun v s1 ⟨y, H1, I1, r1, q1⟩ => ?_) hs
  exact xd6 I1 hN hi hx r1 (fun s2 I2 => ⟨_, H1, I2, q1⟩) hf
end
section
variable {X : Cx} {pos : Pos}
end
structure It where
  go : Nat → Hp → Prop
  yld : Nat → Hp → V → Hp → Prop
  stop : Nat → Hp → Prop
def FpOk (X : Cx) (pins : List (Addr × Obj)) (H : Hp) (b : Addr) : Prop :=
  H b = none ∧ b ≠ X.env.locals ∧ b ∉ X.fs ∧ (b ∈ X.ex ∨ X.s₀.heap.objs.size ≤ b) ∧ (∀ x c, X.env.cells.lookup x = some c → c ≠ b) ∧ ∀ p ∈ X.pn ++ pins, p.1 ≠ b
theorem Inv.fpOk {X : Cx} {pins : List (Addr × Obj)} {σ : St} {H H' : Hp} {s : Shared} {b : Addr} (I : Inv X pins σ H s) (hb : s.heap.objs.size ≤ b) (hn : H' b = none) : FpOk X pins H' b := by
  refine ⟨hn, Nat.ne_of_gt (Nat.lt_of_lt_of_le I.lt hb), I.nofs hb, .inr (Nat.le_trans I.sz hb), fun x c e z => ?_, fun p hp z => ?_⟩
  · obtain ⟨v, q⟩ := I.cell x c e
    exact absurd (Nat.lt_of_lt_of_le q.lt (by rw [z]; exact hb)) (Nat.lt_irrefl _)
  · exact absurd (Nat.lt_of_lt_of_le (Heap.lt_size (I.pin p hp).1) (by rw [z]; exact hb)) (Nat.lt_irrefl _)
structure Turn (P : Program) (w : World) (K : PySem.W.Frag) (tg : Expr) (J : It) (fp : List Addr) (it : Addr) (tn : Nat → Heap → Prop) : Prop where
  mem : it ∈ fp
  obj : ∀ i h, tn i h → ∀ b ∈ fp, ∃ o, h.get? b = some o ∧ ∀ v, o.data ≠ .cell v
  keep : ∀ i h h', tn i h → (∀ b ∈ fp, ∀ o, h.get? b = some o → h'.get? b = some o) → tn i h'
  item : ∀ (X : Cx), X.prog = P → X.w = w → X.K = K → X.calm = true → ∀ (i : Nat) (pins : List (Addr × Obj)) (s : Shared) (σ : St) (H : Hp) (E : Value → Shared → Prop), Inv X pins σ H s → (∀ b ∈ fp, FpOk X pins H b) → tn i s.heap → J.go i H →
    wpAny (model P w) X.A (pyNext (.ref it)) (fun r s1 => ∃ u, r = some u ∧
      wpAny (model P w) X.A (letOwnedTupleGo tg (.ref it) u) (fun _ s2 => ∃ x H', Inv X pins σ H' s2 ∧ RelV x u ∧ J.yld i H x H' ∧ tn (i + 1) s2.heap ∧ ∀ b ∈ fp, H' b = none) E s1) E s
  done : ∀ (X : Cx), X.prog = P → X.w = w → X.K = K → X.calm = true → ∀ (i : Nat) (pins : List (Addr × Obj)) (s : Shared) (σ : St) (H : Hp) (E : Value → Shared → Prop), Inv X pins σ H s → (∀ b ∈ fp, FpOk X pins H b) → tn i s.heap → J.stop i H →
    wpAny (model P w) X.A (pyNext (.ref it)) (fun r s1 => r = none ∧ Inv X pins σ H s1) E s
  self : ∀ (A : Around) (i : Nat) (s : Shared) (Q : Value → Shared → Prop) (E : Value → Shared → Prop), tn i s.heap → Q (.ref it) s → wpAny (model P w) A (pyIter (.ref it)) Q E s
abbrev TI := St → Hp → (It → Hp → Prop) → Prop
def PIE (X : Cx) (pins : List (Addr × Obj)) (σ : St) (tg : Expr) (R : It → Hp → Prop) (itv : Value) (s2 : Shared) : Prop :=
  ∃ (it : Addr) (fp : List Addr) (tn : Nat → Heap → Prop) (J : It) (H' : Hp), itv = .ref it ∧ Inv X pins σ H' s2 ∧ Turn X.prog X.w X.K tg J fp it tn ∧ tn 0 s2.heap ∧ (∀ b ∈ fp, FpOk X pins H' b) ∧ R J H'
def PI (X : Cx) (tg iter : Expr) (wi : TI) : Prop :=
  ∀ (pins : List (Addr × Obj)) (s : Shared) (σ : St) (H : Hp) (R : It → Hp → Prop), Inv X pins σ H s → wi σ H R →
    wpAny (model X.prog X.w) X.A (eval iter X.env) (fun v s1 => wpAny (model X.prog X.w) X.A (pyIter v) (PIE X pins σ tg R) X.xe s1) X.xe s
theorem xh4 {M : Model} {A : Around} {E : Value → Shared → Prop} {s : Shared} {tg : Expr} {it : Addr} {u : Value} {o : Obj} {n : String} {vs : Array Value} {Q : Unit → Shared → Prop} (ho : s.heap.get? it = some o) (hc : o.cls = .type n) (hd : o.data = .fields vs)
    (hn : ["enumerate", "zip", "dict_itemiterator", "dict_reverseitemiterator", "odict_iterator", "itertools.zip_longest", "itertools.pairwise"].contains n = false) (hQ : Q () s) : wpAny M A (letOwnedTupleGo tg (.ref it) u) Q E s := by
  unfold letOwnedTupleGo
  cases tg <;> first
    | exact wpAny_pure hQ
    | (cases u <;> first
        | exact wpAny_pure hQ
        | (refine wpAny_bind (wpAny_load ho ?_)
           rw [hc, hd]
           show wpAny M A (if (["enumerate", "zip", "dict_itemiterator", "dict_reverseitemiterator", "odict_iterator", "itertools.zip_longest", "itertools.pairwise"].contains n && vs[0]? == some (rawInt _)) = true then _ else _) Q E s
           rw [if_neg (by intro h; rw [hn, Bool.false_and] at h; cases h)]
           exact wpAny_pure hQ))
def Itl (K : PySem.W.Frag) (a : Addr) : It :=
  ⟨fun i H => ∃ xs x, SqL K H a xs ∧ xs[i]? = some x, fun i H x H' => H' = H ∧ ∀ xs, SqL K H a xs → xs[i]? = some x, fun i H => ∃ xs, SqL K H a xs ∧ xs.length ≤ i⟩
def Itt (K : PySem.W.Frag) (a : Addr) : It :=
  ⟨fun i H => ∃ xs x, SqT K H a xs ∧ xs[i]? = some x, fun i H x H' => H' = H ∧ ∀ xs, SqT K H a xs → xs[i]? = some x, fun i H => ∃ xs, SqT K H a xs ∧ xs.length ≤ i⟩
def Itr (lo : Int) (n : Nat) : It := ⟨fun i _ => i < n, fun i H x H' => H' = H ∧ x = .int (lo + i), fun i _ => n ≤ i⟩
theorem xjc {P : Program} {w : World} {K : PySem.W.Frag} {tg : Expr} (a it : Addr) : Turn P w K tg (Itl K a) [it] it (fun i h => h.IsListIter it a i) where
  mem := by simp
  obj := fun i h st b hb => by
    have e : b = it := by simpa using hb
    subst e
    obtain ⟨o, e, c, d⟩ := st
    exact ⟨o, e, fun v z => by rw [d] at z; cases z⟩
  keep := fun i h h' st k => st.at fun o e => k it (by simp) o e
  item := by
    intro X hP hw hK hc i pins s σ H E I hf st hg
    subst hP hw hK
    obtain ⟨xs, x, hq, hx⟩ := hg
    obtain ⟨its, rv, p, hz⟩ := I.list hq
    obtain ⟨u, hu, ru⟩ := rv.get hx
    obtain ⟨f0, f1, f2, f3, f4, f5⟩ := hf it (by simp)
    refine wpAny_pyNext_list_item st p.isList (x := u) (by simpa using hu) fun h' st' sb => ?_
    have I1 : Inv X pins σ H { s with heap := h' } := I.turned (t' := s.toks) (fun b o hb e => (sb.2 b hb).trans e) f0 f1 f3 f4 f5
    obtain ⟨o, e, c, d⟩ := id st'
    exact ⟨u, rfl, xh4 (s := { s with heap := h' }) e c d (by decide) ⟨x, H, I1, ru, ⟨rfl, fun ys hy => by rw [I.list_inj hy hq]; exact hx⟩, st', fun b hb => (hf b hb).1⟩⟩
  done := by
    intro X hP hw hK hc i pins s σ H E I hf st hg
    subst hP hw hK
    obtain ⟨xs, hq, hx⟩ := hg
    obtain ⟨its, rv, p, hz⟩ := I.list hq
    obtain ⟨f0, f1, f2, f3, f4, f5⟩ := hf it (by simp)
    have hl := rv.length
    exact wpAny_pyNext_list_end (I.ok.hd hc) st p.isList (by simp; omega) fun h' eb => ⟨rfl, I.turned (t' := s.toks) (fun b o hb e => eb b o hb e) f0 f1 f3 f4 f5⟩
  self := fun _ _ _ _ _ st h => wpAny_pyIter_listiter st h
theorem xhw {P : Program} {w : World} {K : PySem.W.Frag} {tg : Expr} (a it : Addr) : Turn P w K tg (Itt K a) [it] it (fun i h => h.IsTupleIter it a i) where
  mem := by simp
  obj := fun i h st b hb => by
    have e : b = it := by simpa using hb
    subst e
    obtain ⟨o, e, c, d⟩ := st
    exact ⟨o, e, fun v z => by rw [d] at z; cases z⟩
  keep := fun i h h' st k => st.at fun o e => k it (by simp) o e
  item := by
    intro X hP hw hK hc i pins s σ H E I hf st hg
    subst hP hw hK
    obtain ⟨xs, x, hq, hx⟩ := hg
    obtain ⟨its, rv, p, hz⟩ := I.tuple hq
    obtain ⟨u, hu, ru⟩ := rv.get hx
    obtain ⟨f0, f1, f2, f3, f4, f5⟩ := hf it (by simp)
    refine wpAny_pyNext_tuple_item st (show s.heap.IsTuple a its.toArray from p) (x := u) (by simpa using hu) fun h' st' sb => ?_
    have I1 : Inv X pins σ H { s with heap := h' } := I.turned (t' := s.toks) (fun b o hb e => (sb.2 b hb).trans e) f0 f1 f3 f4 f5
    obtain ⟨o, e, c, d⟩ := id st'
    exact ⟨u, rfl, xh4 (s := { s with heap := h' }) e c d (by decide) ⟨x, H, I1, ru, ⟨rfl, fun ys hy => by rw [I.tuple_inj hy hq]; exact hx⟩, st', fun b hb => (hf b hb).1⟩⟩
  done := by
    intro X hP hw hK hc i pins s σ H E I hf st hg
    subst hP hw hK
    obtain ⟨xs, hq, hx⟩ := hg
    obtain ⟨its, rv, p, hz⟩ := I.tuple hq
    obtain ⟨f0, f1, f2, f3, f4, f5⟩ := hf it (by simp)
    have hl := rv.length
    exact wpAny_pyNext_tuple_end (I.ok.hd hc) st (show s.heap.IsTuple a its.toArray from p) (by simp; omega) fun h' eb => ⟨rfl, I.turned (t' := s.toks) (fun b o hb e => eb b o hb e) f0 f1 f3 f4 f5⟩
  self := fun _ _ _ _ _ st h => wpAny_pyIter_tupleiter st h
theorem xh0 {P : Program} {w : World} {K : PySem.W.Frag} {tg : Expr} (it : Addr) (lo : Int) (n : Nat) : Turn P w K tg (Itr lo n) [it] it (fun i h => IsRangeIter h it (lo + (i : Nat) * 1) ((n : Int) - (i : Nat)) 1) where
  mem := by simp
  obj := fun i h st b hb => by
    have e : b = it := by simpa using hb
    subst e
    exact ⟨_, st, fun v z => by
      have z' : Data.fields _ = Data.cell v := z
      cases z'⟩
  keep := fun i h h' st k => k it (by simp) _ st
  item := by
    intro X hP hw hK hc i pins s σ H E I hf st hg
    subst hP hw hK
    obtain ⟨f0, f1, f2, f3, f4, f5⟩ := hf it (by simp)
    have W := Walks.range (prog := X.prog) (w := X.w) (I.ok.hd hc) it lo 1 n
    refine W.item i s _ _ hg st fun v h' tk hv st' kk => ?_
    obtain ⟨t, rfl⟩ := hv
    have I1 : Inv X pins σ H { s with heap := h', toks := tk } := I.turned (fun b o hb e => kk b o (by simpa using hb) e) f0 f1 f3 f4 f5
    refine ⟨_, rfl, xh4 (s := { s with heap := h', toks := tk }) (n := "range_iterator") st' rfl rfl (by decide) ⟨.int (lo + i), H, I1, ⟨t, ?_⟩, ⟨rfl, rfl⟩, st', fun b hb => (hf b hb).1⟩⟩
    rw [Int.mul_one]
  done := by
    intro X hP hw hK hc i pins s σ H E I hf st hg
    subst hP hw hK
    obtain ⟨f0, f1, f2, f3, f4, f5⟩ := hf it (by simp)
    exact wpAny_pyNext_range_end (I.ok.hd hc) st (by have : n ≤ i := hg; omega) fun h' eb => ⟨rfl, I.turned (t' := s.toks) (fun b o hb e => eb b o hb e) f0 f1 f3 f4 f5⟩
  self := fun _ _ _ _ _ st h => wpAny_pyIter_rangeiter st h
end L2
namespace L2
open PySem PySem.Spec PyProof.Rows
variable {q0 : Bool}
section
variable {X : Cx} {tg : Expr}
def xnf (K : PySem.W.Frag) (tl : TE) : TI := fun σ H R => tl σ H fun x H1 => ∃ a, x = .ref a ∧ (∃ xs, SqL K H1 a xs) ∧ R (Itl K a) H1
def iTup (K : PySem.W.Frag) (tl : TE) : TI := fun σ H R => tl σ H fun x H1 => ∃ a, x = .ref a ∧ (∃ xs, SqT K H1 a xs) ∧ R (Itt K a) H1
theorem xbj {l : Expr} {tl : TE} (hl : PE X l tl) : PI X tg l (xnf X.K tl) := by
  intro pins s σ H R I h
  refine thn (hl pins s σ H _ I h) fun v s1 ⟨x, H1, I1, r1, q1⟩ => ?_
  obtain ⟨a, e, ⟨xs, hq⟩, q⟩ := q1
  subst e
  cases r1
  obtain ⟨its, rv, p, hz⟩ := I1.list hq
  refine wpAny_pyIter_list p.isList ?_
  refine ⟨s1.heap.objs.size, [s1.heap.objs.size], _, _, H1, rfl, I1.kept (t' := s1.toks) fun b o e => Heap.get?_push_of_some _ e, xjc a _, ⟨_, Heap.get?_push_size _ rfl, rfl, rfl⟩, fun b hb => ?_, q⟩
  have e : b = s1.heap.objs.size := by simpa using hb
  subst e
  exact I1.fpOk (Nat.le_refl _) (I1.hok.fresh (Nat.le_refl _))
theorem xmg {l : Expr} {tl : TE} (hl : PE X l tl) : PI X tg l (iTup X.K tl) := by
  intro pins s σ H R I h
  refine thn (hl pins s σ H _ I h) fun v s1 ⟨x, H1, I1, r1, q1⟩ => ?_
  obtain ⟨a, e, ⟨xs, hq⟩, q⟩ := q1
  subst e
  cases r1
  obtain ⟨its, rv, p, hz⟩ := I1.tuple hq
  refine wpAny_pyIter_tuple (show s1.heap.IsTuple a its.toArray from p) ?_
  refine ⟨s1.heap.objs.size, [s1.heap.objs.size], _, _, H1, rfl, I1.kept (t' := s1.toks) fun b o e => Heap.get?_push_of_some _ e, xhw a _, ⟨_, Heap.get?_push_size _ rfl, rfl, rfl⟩, fun b hb => ?_, q⟩
  have e : b = s1.heap.objs.size := by simpa using hb
  subst e
  exact I1.fpOk (Nat.le_refl _) (I1.hok.fresh (Nat.le_refl _))
theorem xf9 {pins : List (Addr × Obj)} {σ : St} {H : Hp} {s : Shared} {R : It → Hp → Prop} {E : Value → Shared → Prop} {lo hi : Int} {t u v : Tok} {tk : Nat} (I : Inv X pins σ H s) (h1 : -(2 ^ 62) ≤ lo) (h2 : lo < 2 ^ 62) (h3 : -(2 ^ 62) ≤ hi) (h4 : hi < 2 ^ 62)
    (q : R (Itr lo (hi - lo).toNat) H) : wpAny (model X.prog X.w) X.A (pyIter (.ref s.heap.objs.size)) (PIE X pins σ tg R) E { s with heap := s.heap.push { cls := .type "range", data := .fields #[.int lo t, .int hi u, .int 1 v] }, toks := tk } := by
  refine wpAny_pyIter_range (IsRange.new ..) (small_one h1 h2 h3 h4) ?_
  have I1 : Inv X pins σ H { s with heap := s.heap.push { cls := .type "range", data := .fields #[.int lo t, .int hi u, .int 1 v] }, toks := tk } := I.kept fun b o e => Heap.get?_push_of_some _ e
  refine ⟨(s.heap.push { cls := .type "range", data := .fields #[.int lo t, .int hi u, .int 1 v] }).objs.size, [(s.heap.push { cls := .type "range", data := .fields #[.int lo t, .int hi u, .int 1 v] }).objs.size], _, _, H, rfl,
    I1.kept (t' := tk) fun b o e => Heap.get?_push_of_some _ e, xh0 _ lo (hi - lo).toNat, ?_, fun b hb => ?_, q⟩
  · have e1 : lo + ((0 : Nat) : Int) * 1 = lo := by simp
    have e2 : (((hi - lo).toNat : Nat) : Int) - ((0 : Nat) : Int) = Builtin.Range.rangeSize lo hi 1 := by rw [rangeSize_one]; split <;> omega
    show IsRangeIter _ _ (lo + ((0 : Nat) : Int) * 1) ((((hi - lo).toNat : Nat) : Int) - ((0 : Nat) : Int)) 1
    rw [e1, e2]
    exact Heap.get?_push_size _ rfl
  · have e : b = (s.heap.push { cls := .type "range", data := .fields #[.int lo t, .int hi u, .int 1 v] }).objs.size := by simpa using hb
    subst e
    exact I1.fpOk (Nat.le_refl _) (I1.hok.fresh (Nat.le_refl _))
def xnb (ta : TA) : TI := fun σ H R => ta σ H fun vs H1 => ∃ j : Int, vs = [.int j] ∧ -(2 ^ 62) ≤ j ∧ j < 2 ^ 62 ∧ R (Itr 0 j.toNat) H1
def xm2 (ta : TA) : TI := fun σ H R => ta σ H fun vs H1 => ∃ i j : Int, vs = [.int i, .int j] ∧ (-(2 ^ 62) ≤ i ∧ i < 2 ^ 62 ∧ -(2 ^ 62) ≤ j ∧ j < 2 ^ 62) ∧ R (Itr i (j - i).toNat) H1
theorem xc0 {a : Expr} {ta : TA} {p pos : Pos} (hg : Gl X "range") (hm : X.mg "range" = none) (ha : PA X [a] ta) (hs : starEach [a] X.env = [(false, eval a X.env)] := by rfl) : PI X tg (.Call (.Name "range" p) [a] [] pos) (xnb ta) := by
  intro pins s σ H R I h
  refine Call_ (xdn I hg hm boot_range (PyProof.Rows.callWith_type1 (thn (ha pos pins s σ H _ I h) fun us s1 ⟨vs, H1, I1, r1, q1⟩ => ?_) hs rfl))
  obtain ⟨j, e, q1, q2, q⟩ := q1
  subst e
  cases r1 with
  | cons r rr =>
    cases rr
    obtain ⟨t, rfl⟩ := r
    exact call_range_1 (xf9 I1 (by omega) (by omega) q1 q2 (by simpa using q))
theorem xjd {a b : Expr} {ta : TA} {p pos : Pos} (hg : Gl X "range") (hm : X.mg "range" = none) (ha : PA X [a, b] ta) (hs : starEach [a, b] X.env = [(false, eval a X.env), (false, eval b X.env)] := by rfl) (hs2 : starEach [b] X.env = [(false, eval b X.env)] := by rfl) :
    PI X tg (.Call (.Name "range" p) [a, b] [] pos) (xm2 ta) := by
  intro pins s σ H R I h
  refine Call_ (xdn I hg hm boot_range (PyProof.Rows.callWith_type1 (thn (ha pos pins s σ H _ I h) fun us s1 ⟨vs, H1, I1, r1, q1⟩ => ?_) (by rw [hs, hs2]) (by rw [hs2]; rfl)))
  obtain ⟨i, j, e, ⟨q1, q2, q3, q4⟩, q⟩ := q1
  subst e
  cases r1 with
  | cons r rr =>
    cases rr with
    | cons r' rr =>
      cases rr
      obtain ⟨t, rfl⟩ := r
      obtain ⟨t', rfl⟩ := r'
      exact call_range_2 (xf9 I1 q1 q2 q3 q4 q)
def tFor (wi : TI) (g : TG) (tb : TS) : TS := fun D σ H => wi σ H fun J H1 => ∃ W : Nat → Nat → St → Hp → Prop, (∃ m, W 0 m σ H1) ∧ ∀ i m σ H, W i m σ H →
  (J.stop i H ∧ D.nx σ H) ∨ (J.go i H ∧ ∃ N : St → Hp → Prop, (∀ σ' H', N σ' H' → ∃ m', m' < m ∧ W (i + 1) m' σ' H') ∧ ∀ x H', J.yld i H x H' → g x σ H' fun σ2 H2 => tb { D with nx := N, ct := N, bk := D.nx } σ2 H2)
def xdp (fp : List Addr) (h : Heap) : List (Addr × Obj) := fp.filterMap fun b => (h.get? b).map fun o => (b, o)
theorem xco {fp : List Addr} {h : Heap} {b : Addr} {o : Obj} (hb : b ∈ fp) (e : h.get? b = some o) : (b, o) ∈ xdp fp h := List.mem_filterMap.mpr ⟨b, hb, by rw [e]; rfl⟩
theorem xi6 {fp : List Addr} {h : Heap} {p : Addr × Obj} (hp : p ∈ xdp fp h) : p.1 ∈ fp ∧ h.get? p.1 = some p.2 := by
  obtain ⟨b, hb, e⟩ := List.mem_filterMap.mp hp
  cases q : h.get? b with
  | none => rw [q] at e; cases e
  | some o =>
    rw [q] at e
    have e' : (b, o) = p := Option.some.inj e
    subst e'
    exact ⟨hb, q⟩
theorem Inv.pinned {pins : List (Addr × Obj)} {σ : St} {H : Hp} {s : Shared} {fp : List Addr} (I : Inv X pins σ H s) (hf : ∀ b ∈ fp, FpOk X pins H b) (ho : ∀ b ∈ fp, ∃ o, s.heap.get? b = some o ∧ ∀ v, o.data ≠ .cell v) : Inv X (pins ++ xdp fp s.heap) σ H s :=
  I.pins_of fun p hp => (List.mem_append.mp hp).elim (fun z => I.pin p (List.mem_append_right _ z)) fun z => by
    obtain ⟨hb, e⟩ := xi6 z
    obtain ⟨f0, f1, f2, _⟩ := hf p.1 hb
    obtain ⟨o, e', d⟩ := ho p.1 hb
    rw [e] at e'; cases e'
    exact ⟨e, f0, f1, f2, d⟩
theorem Inv.unpinned {pins pl : List (Addr × Obj)} {σ : St} {H : Hp} {s : Shared} (I : Inv X (pins ++ pl) σ H s) : Inv X pins σ H s := I.pins_of fun p hp => I.pin p (List.mem_append_right _ (List.mem_append_left _ hp))
theorem xbt {iter : Expr} {body : List Stmt} {wi : TI} {g : TG} {tb : TS} {pos : Pos} (hp : PassesOwn (model X.prog X.w) X.A X.env X.xe) (hc : X.calm = true) (hi : PI X tg iter wi) (hg : PG X tg g) (hb : PSs X body tb)
    (hs : ∀ x, foldedSetIterable iter X.env x = pure x := by intro _; rfl) : PS X (.For tg iter body [] pos) (tFor wi g tb) := by
  intro pins s σ H D I h
  refine wpAny_For (thn (hi pins s σ H _ I h) fun v s1 h1 => thn h1 fun itv s2 h2 => ?_) hs
  obtain ⟨it, fp, tn, J, H2, e, I2, T, st2, f2, W, ⟨m0, w0⟩, turn⟩ := h2
  subst e
  -- what stays true of the iterator's objects through the loop
  have stat : ∀ {H' : Hp}, (∀ b ∈ fp, H' b = none) → ∀ b ∈ fp, FpOk X pins H' b := fun hn b hb => ⟨hn b hb, (f2 b hb).2⟩
  refine codeAny_forLoop_any (fun n s' => ∃ i σ' H', Inv X pins σ' H' s' ∧ tn i s'.heap ∧ (∀ b ∈ fp, H' b = none) ∧ W i n σ' H') ?_ m0 ⟨0, σ, H2, I2, st2, fun b hb => (f2 b hb).1, w0⟩
  rintro n s3 ⟨i, σ3, H3, I3, st3, fr3, w3⟩
  rcases turn i n σ3 H3 w3 with ⟨stop, qn⟩ | ⟨go, N, hN, step⟩
  · refine wpAny_passesOwn hp (thn (T.done X rfl rfl rfl hc i pins s3 σ3 H3 X.xe I3 (stat fr3) st3 stop) fun r s4 ⟨hr, I4⟩ => ?_)
    subst hr
    exact wpAny_execs_nil ⟨σ3, H3, I4, qn⟩
  · refine wpAny_passesOwn hp (thn (T.item X rfl rfl rfl hc i pins s3 σ3 H3 X.xe I3 (stat fr3) st3 go) fun r s4 ⟨u, hr, h4⟩ => ?_)
    subst hr
    refine wpAny_passesOwn hp (thn h4 fun _ s5 ⟨x, H5, I5, r5, y5, st5, fr5⟩ => ?_)
    have I5' := I5.pinned (stat fr5) (T.obj _ _ st5)
    refine wpAny_passesOwn hp (thn (hg _ s5 σ3 H5 x u _ I5' r5 (step x H5 y5)) fun _ s6 ⟨σ6, H6, I6, q6⟩ => ?_)
    refine wpAny_passesOwn hp (thn (hb _ s6 σ6 H6 _ I6 q6) fun f s7 q7 => ?_)
    have again : ∀ {σ7 : St} {H7 : Hp}, Inv X (pins ++ xdp fp s5.heap) σ7 H7 s7 → N σ7 H7 → ∃ m, m < n ∧ ∃ i σ' H', Inv X pins σ' H' s7 ∧ tn i s7.heap ∧ (∀ b ∈ fp, H' b = none) ∧ W i m σ' H' := fun {σ7 H7} I7 n7 => by
      obtain ⟨m', hm, w7⟩ := hN σ7 H7 n7
      refine ⟨m', hm, i + 1, σ7, H7, I7.unpinned, T.keep _ _ _ st5 fun b hb o e => (I7.pin (b, o) (List.mem_append_right _ (List.mem_append_right _ (xco hb e)))).1, fun b hb => ?_, w7⟩
      obtain ⟨o, e, d⟩ := T.obj _ _ st5 b hb
      exact (I7.pin (b, o) (List.mem_append_right _ (List.mem_append_right _ (xco hb e)))).2.1
    cases f with
    | next => obtain ⟨σ7, H7, I7, n7⟩ := q7; exact again I7 n7
    | cont => obtain ⟨σ7, H7, I7, n7⟩ := q7; exact again I7 n7
    | brk => obtain ⟨σ7, H7, I7, q7⟩ := q7; exact ⟨σ7, H7, I7.unpinned, q7⟩
    | ret v => obtain ⟨x7, σ7, H7, I7, r7, q7⟩ := q7; exact ⟨x7, σ7, H7, I7.unpinned, r7, q7⟩
end
theorem xb0 {K : PySem.W.Frag} {a : Addr} {xs : List V} {g : TG} {tb : TS} {D : Ends} {σ : St} {H : Hp} (Pv : Nat → St → Hp → Prop) (h0 : Pv 0 σ H) (hl : ∀ i σ H, i ≤ xs.length → Pv i σ H → SqL K H a xs)
    (hs : ∀ i x σ H, xs[i]? = some x → Pv i σ H → g x σ H fun σ2 H2 => tb { D with nx := Pv (i + 1), ct := Pv (i + 1), bk := D.nx } σ2 H2) (hd : ∀ σ H, Pv xs.length σ H → D.nx σ H) :
    ∃ W : Nat → Nat → St → Hp → Prop, (∃ m, W 0 m σ H) ∧ ∀ i m σ H, W i m σ H →
      ((Itl K a).stop i H ∧ D.nx σ H) ∨ ((Itl K a).go i H ∧ ∃ N : St → Hp → Prop, (∀ σ' H', N σ' H' → ∃ m', m' < m ∧ W (i + 1) m' σ' H') ∧ ∀ x H', (Itl K a).yld i H x H' → g x σ H' fun σ2 H2 => tb { D with nx := N, ct := N, bk := D.nx } σ2 H2) := by
  refine ⟨fun i m σ H => m = xs.length - i ∧ i ≤ xs.length ∧ Pv i σ H, ⟨xs.length, by simp, Nat.zero_le _, h0⟩, ?_⟩
  rintro i m σ H ⟨rfl, hi, p⟩
  have q := hl i σ H hi p
  by_cases hlt : i < xs.length
  · refine .inr ⟨⟨xs, xs[i], q, by simp [hlt]⟩, Pv (i + 1), fun σ' H' p' => ⟨xs.length - (i + 1), by omega, rfl, hlt, p'⟩, fun x H' y => ?_⟩
    obtain ⟨e, y⟩ := y
    subst e
    exact hs i x σ _ (y xs q) p
  · have e : i = xs.length := by omega
    subst e
    exact .inl ⟨⟨xs, q, Nat.le_refl _⟩, hd σ H p⟩
theorem xc4 {lo : Int} {n : Nat} {g : TG} {tb : TS} {D : Ends} {σ : St} {H : Hp} (Pv : Nat → St → Hp → Prop) (h0 : Pv 0 σ H)
    (hs : ∀ i σ H, i < n → Pv i σ H → g (.int (lo + i)) σ H fun σ2 H2 => tb { D with nx := Pv (i + 1), ct := Pv (i + 1), bk := D.nx } σ2 H2) (hd : ∀ σ H, Pv n σ H → D.nx σ H) :
    ∃ W : Nat → Nat → St → Hp → Prop, (∃ m, W 0 m σ H) ∧ ∀ i m σ H, W i m σ H →
      ((Itr lo n).stop i H ∧ D.nx σ H) ∨ ((Itr lo n).go i H ∧ ∃ N : St → Hp → Prop, (∀ σ' H', N σ' H' → ∃ m', m' < m ∧ W (i + 1) m' σ' H') ∧ ∀ x H', (Itr lo n).yld i H x H' → g x σ H' fun σ2 H2 => tb { D with nx := N, ct := N, bk := D.nx } σ2 H2) := by
  refine ⟨fun i m σ H => m = n - i ∧ i ≤ n ∧ Pv i σ H, ⟨n, by simp, Nat.zero_le _, h0⟩, ?_⟩
  rintro i m σ H ⟨rfl, hi, p⟩
  by_cases hlt : i < n
  · refine .inr ⟨hlt, Pv (i + 1), fun σ' H' p' => ⟨n - (i + 1), by omega, rfl, hlt, p'⟩, fun x H' y => ?_⟩
    obtain ⟨e, y⟩ := y
    subst e y
    exact hs i σ _ hlt p
  · have e : i = n := by omega
    subst e
    exact .inl ⟨Nat.le_refl _, hd σ H p⟩
end L2
namespace L2
open PySem PySem.Spec PyProof.Rows
variable {q0 : Bool}
abbrev R2 := V → V → Hp → VK → Prop
def OpR (X : Cx) (f : Value → Value → Sem Value) (r : R2) : Prop :=
  ∀ (pins : List (Addr × Obj)) (s : Shared) (σ : St) (H : Hp) (x y : V) (v u : Value) (Q : VK), Inv X pins σ H s → RelV x v → RelV y u → r x y H Q →
    wpAny (model X.prog X.w) X.A (f v u) (EP X pins σ Q) X.xe s
def xb7 (X : Cx) (f : Value) (r : List V → Hp → VK → Prop) : Prop :=
  ∀ (pins : List (Addr × Obj)) (s : Shared) (σ : St) (H : Hp) (xs : List V) (us : List Value) (Q : VK), Inv X pins σ H s → Vals xs us → r xs H Q →
    wpAny (model X.prog X.w) X.A (call f us) (EP X pins σ Q) X.xe s
def tOp (r : R2) (ta tb : TE) : TE := fun σ H Q => ta σ H fun x H1 => tb σ H1 fun y H2 => r x y H2 Q
def rI (C : Int → Int → Prop) (g : Int → Int → V) : R2 := fun x y H Q => ∃ i j, x = .int i ∧ y = .int j ∧ C i j ∧ Q (g i j) H
def rI0 (g : Int → Int → V) : R2 := fun x y H Q => ∃ i j, x = .int i ∧ y = .int j ∧ Q (g i j) H
section
variable {X : Cx} {a b c : Expr} {ta tb tc : TE} {pos : Pos}
theorem binT (ha : PE X a ta) (hb : PE X b tb) {pins : List (Addr × Obj)} {s : Shared} {σ : St} {H : Hp} {R : V → V → Hp → Prop} (I : Inv X pins σ H s)
    (h : ta σ H fun x H1 => tb σ H1 fun y H2 => R x y H2) {Q : Value → Shared → Prop} {f : Value → Value → Sem Value}
    (hf : ∀ v u s2 x y H2, Inv X pins σ H2 s2 → RelV x v → RelV y u → R x y H2 → wpAny (model X.prog X.w) X.A (f v u) Q X.xe s2) :
    wpAny (model X.prog X.w) X.A (eval a X.env) (fun v s₁ => wpAny (model X.prog X.w) X.A (eval b X.env) (fun u s₂ => wpAny (model X.prog X.w) X.A (f v u) Q X.xe s₂) X.xe s₁) X.xe s := by
  refine thn (ha pins s σ H _ I h) fun v s1 ⟨x, H1, I1, r1, q1⟩ => ?_
  refine thn (hb pins s1 σ H1 _ I1 q1) fun u s2 ⟨y, H2, I2, r2, q2⟩ => ?_
  exact hf v u s2 x y H2 I2 r1 r2 q2
theorem xq {op : Operator} {r : R2} (ho : OpR X (binaryOp op) r) (ha : PE X a ta) (hb : PE X b tb) : PE X (.BinOp a op b pos) (tOp r ta tb) := by
  intro pins s σ H Q I h
  exact wpAny_BinOp (binT ha hb I h fun v u s2 x y H2 I2 rx ry q => ho pins s2 σ H2 x y v u Q I2 rx ry q)
theorem opI {f : Value → Value → Sem Value} {C : Int → Int → Prop} {g : Int → Int → Int}
    (rule : ∀ (i j : Int) (t u : Tok) (s : Shared) (Q : Value → Shared → Prop) (E : Value → Shared → Prop), C i j → Q (.int (g i j) s.toks) { s with toks := s.toks + 1 } → wpAny (model X.prog X.w) X.A (f (.int i t) (.int j u)) Q E s) :
    OpR X f (rI C fun i j => .int (g i j)) := by
  intro pins s σ H x y v u Q I rx ry h
  obtain ⟨i, j, rfl, rfl, hc, q⟩ := h
  obtain ⟨t, rfl⟩ := rx
  obtain ⟨t', rfl⟩ := ry
  exact rule i j t t' s _ _ hc ⟨.int (g i j), H, I.tok _, ⟨_, rfl⟩, q⟩
theorem opI0 {f : Value → Value → Sem Value} {g : Int → Int → Int}
    (rule : ∀ (i j : Int) (t u : Tok) (s : Shared) (Q : Value → Shared → Prop) (E : Value → Shared → Prop), Q (.int (g i j) s.toks) { s with toks := s.toks + 1 } → wpAny (model X.prog X.w) X.A (f (.int i t) (.int j u)) Q E s) :
    OpR X f (rI0 fun i j => .int (g i j)) := by
  intro pins s σ H x y v u Q I rx ry h
  obtain ⟨i, j, rfl, rfl, q⟩ := h
  obtain ⟨t, rfl⟩ := rx
  obtain ⟨t', rfl⟩ := ry
  exact rule i j t t' s _ _ ⟨.int (g i j), H, I.tok _, ⟨_, rfl⟩, q⟩
theorem opB0 {f : Value → Value → Sem Value} {g : Int → Int → Bool}
    (rule : ∀ (i j : Int) (t u : Tok) (s : Shared) (Q : Value → Shared → Prop) (E : Value → Shared → Prop), Q (.bool (g i j)) s → wpAny (model X.prog X.w) X.A (f (.int i t) (.int j u)) Q E s) :
    OpR X f (rI0 fun i j => .bl (g i j)) := by
  intro pins s σ H x y v u Q I rx ry h
  obtain ⟨i, j, rfl, rfl, q⟩ := h
  obtain ⟨t, rfl⟩ := rx
  obtain ⟨t', rfl⟩ := ry
  exact rule i j t t' s _ _ ⟨.bl (g i j), H, I, rfl, q⟩
def CDiv (i j : Int) : Prop := 0 < j ∧ j < 1073741824
def CPow (i j : Int) : Prop := 0 ≤ j ∧ j ≤ 1000000 ∧ i.natAbs < 2 ^ 64
def CMul (i j : Int) : Prop := (-(2 ^ 64) < i ∧ i < 2 ^ 64) ∨ (-(2 ^ 64) < j ∧ j < 2 ^ 64)
theorem CMul.ok {i j : Int} (h : CMul i j) : IntMulOk i j := by
  rcases h with ⟨h1, h2⟩ | ⟨h1, h2⟩
  · exact .of_left (intBits_le_64 h1 h2)
  · exact .of_right (intBits_le_64 h1 h2)
theorem xas : OpR X (binaryOp .Add) (rI0 fun i j => .int (i + j)) := opI0 fun _ _ _ _ _ _ _ q => add_int q
theorem xeu : OpR X (binaryOp .Sub) (rI0 fun i j => .int (i - j)) := opI0 fun _ _ _ _ _ _ _ q => sub_int q
theorem xbh : OpR X (binaryOp .Mult) (rI CMul fun i j => .int (i * j)) := opI fun _ _ _ _ _ _ _ hc q => mul_int q hc.ok
theorem xbi : OpR X (binaryOp .FloorDiv) (rI CDiv fun i j => .int (i / j)) := opI fun i j _ _ _ _ _ hc q => by
  have h1 : (0 : Int) < j := hc.1
  have h2 : j < 1073741824 := hc.2
  exact floordiv_int (by omega) (by rw [Int.fdiv_eq_ediv_of_nonneg i (by omega)]; exact q) (.inl (PyProof.noPylong_small (by omega)))
theorem xao : OpR X (binaryOp .Mod) (rI (fun _ j => 0 < j) fun i j => .int (i % j)) := opI fun i j _ _ _ _ _ hc q => by
  have h1 : (0 : Int) < j := hc
  exact mod_int' (by omega) (by rw [Int.fmod_eq_emod_of_nonneg i (by omega)]; exact q)
theorem xiz : OpR X (binaryOp .Pow) (rI CPow fun i j => .int (i ^ j.toNat)) := opI fun _ _ _ _ _ _ _ hc q => pow_int_small hc.1 hc.2.1 hc.2.2 q
end
def scal : V → V → Bool
  | .non, .non => true | .non, .int _ => true | .int _, .non => true | .non, .bl _ => true | .bl _, .non => true | .non, .str _ => true | .str _, .non => true
  | .int _, .int _ => true | .bl _, .bl _ => true | .str _, .str _ => true | .byt _, .byt _ => true
  | .int _, .str _ => true | .str _, .int _ => true | .bl _, .str _ => true | .str _, .bl _ => true
  | _, _ => false
def rEq : R2 := fun x y H Q => scal x y = true ∧ Q (.bl (decide (x = y))) H
def rNe : R2 := fun x y H Q => scal x y = true ∧ Q (.bl (!decide (x = y))) H
theorem xhb {i j : Int} : decide (V.int i = V.int j) = (i == j) := by
  rw [Bool.eq_iff_iff]
  simp
theorem xim {i j : Bool} : decide (V.bl i = V.bl j) = (i == j) := by
  rw [Bool.eq_iff_iff]
  simp
theorem xg1 {i j : Str} : decide (V.str i = V.str j) = (i == j) := by
  rw [Bool.eq_iff_iff]
  simp
theorem xg5 {i j : Array UInt8} : decide (V.byt i = V.byt j) = (i.toList == j.toList) := by
  rw [Bool.eq_iff_iff]
  cases i
  cases j
  simp
section
variable {X : Cx} {a b c : Expr} {ta tb tc : TE} {pos : Pos}
theorem xar {pins : List (Addr × Obj)} {σ : St} {H : Hp} {s : Shared} {Q : VK} {k k' : Bool} (I : Inv X pins σ H s) (q : Q (.bl k) H) (e : k = k') : EP X pins σ Q (.bool k') s := by
  subst e
  exact ⟨.bl k, H, I, rfl, q⟩
theorem xbq : OpR X (compareOp .Eq) rEq := by
  intro pins s σ H x y v u Q I rx ry h
  obtain ⟨hs, q⟩ := h
  cases x with
  | non =>
    cases rx
    cases y with
    | non => cases ry; exact PySem.EqNone.eq_none_none (xar I q (by simp))
    | bl j => cases ry; exact PySem.EqNone.eq_none_bool (xar I q (by simp))
    | int j => obtain ⟨t', rfl⟩ := ry; exact PySem.EqNone.eq_none_int (xar I q (by simp))
    | str j => obtain ⟨t', rfl⟩ := ry; exact PySem.EqNone.eq_none_str (xar I q (by simp))
    | _ => exact absurd (show false = true from hs) Bool.false_ne_true
  | bl i =>
    cases rx
    cases y with
    | non => cases ry; exact PySem.EqNone.eq_bool_none (xar I q (by simp))
    | bl j => cases ry; exact eq_bool (xar I q xim)
    | str j => obtain ⟨t', rfl⟩ := ry; exact PySem.EqMixed.eq_bool_str (xar I q (by simp))
    | _ => exact absurd (show false = true from hs) Bool.false_ne_true
  | int i =>
    obtain ⟨t, rfl⟩ := rx
    cases y with
    | non => cases ry; exact PySem.EqNone.eq_int_none (xar I q (by simp))
    | int j => obtain ⟨t', rfl⟩ := ry; exact eq_int (xar I q xhb)
    | str j => obtain ⟨t', rfl⟩ := ry; exact PySem.EqMixed.eq_int_str (xar I q (by simp))
    | _ => exact absurd (show false = true from hs) Bool.false_ne_true
  | str i =>
    obtain ⟨t, rfl⟩ := rx
    cases y with
    | non => cases ry; exact PySem.EqNone.eq_str_none (xar I q (by simp))
    | bl j => cases ry; exact PySem.EqMixed.eq_str_bool (xar I q (by simp))
    | int j => obtain ⟨t', rfl⟩ := ry; exact PySem.EqMixed.eq_str_int (xar I q (by simp))
    | str j => obtain ⟨t', rfl⟩ := ry; exact eq_str (xar I q xg1)
    | _ => exact absurd (show false = true from hs) Bool.false_ne_true
  | byt i =>
    obtain ⟨t, rfl⟩ := rx
    cases y with
    | byt j => obtain ⟨t', rfl⟩ := ry; exact PySem.W.eq_bytes (xar I q xg5)
    | _ => exact absurd (show false = true from hs) Bool.false_ne_true
  | _ => cases y <;> exact absurd (show false = true from hs) Bool.false_ne_true
theorem xhz : OpR X (compareOp .NotEq) rNe := by
  intro pins s σ H x y v u Q I rx ry h
  obtain ⟨hs, q⟩ := h
  cases x with
  | non =>
    cases rx
    cases y with
    | non => cases ry; exact PySem.EqNone.ne_none_none (xar I q (by simp))
    | bl j => cases ry; exact PySem.EqNone.ne_none_bool (xar I q (by simp))
    | int j => obtain ⟨t', rfl⟩ := ry; exact PySem.EqNone.ne_none_int (xar I q (by simp))
    | str j => obtain ⟨t', rfl⟩ := ry; exact PySem.EqNone.ne_none_str (xar I q (by simp))
    | _ => exact absurd (show false = true from hs) Bool.false_ne_true
  | bl i =>
    cases rx
    cases y with
    | non => cases ry; exact PySem.EqNone.ne_bool_none (xar I q (by simp))
    | bl j => cases ry; exact ne_bool (xar I q (congrArg not xim))
    | str j => obtain ⟨t', rfl⟩ := ry; exact PySem.EqMixed.ne_bool_str (xar I q (by simp))
    | _ => exact absurd (show false = true from hs) Bool.false_ne_true
  | int i =>
    obtain ⟨t, rfl⟩ := rx
    cases y with
    | non => cases ry; exact PySem.EqNone.ne_int_none (xar I q (by simp))
    | int j => obtain ⟨t', rfl⟩ := ry; exact ne_int (xar I q (congrArg not xhb))
    | str j => obtain ⟨t', rfl⟩ := ry; exact PySem.EqMixed.ne_int_str (xar I q (by simp))
    | _ => exact absurd (show false = true from hs) Bool.false_ne_true
  | str i =>
    obtain ⟨t, rfl⟩ := rx
    cases y with
    | non => cases ry; exact PySem.EqNone.ne_str_none (xar I q (by simp))
    | bl j => cases ry; exact PySem.EqMixed.ne_str_bool (xar I q (by simp))
    | int j => obtain ⟨t', rfl⟩ := ry; exact PySem.EqMixed.ne_str_int (xar I q (by simp))
    | str j => obtain ⟨t', rfl⟩ := ry; exact ne_str (xar I q (congrArg not xg1))
    | _ => exact absurd (show false = true from hs) Bool.false_ne_true
  | byt i =>
    obtain ⟨t, rfl⟩ := rx
    cases y with
    | byt j => obtain ⟨t', rfl⟩ := ry; exact PySem.W.ne_bytes (xar I q (congrArg not xg5))
    | _ => exact absurd (show false = true from hs) Bool.false_ne_true
  | _ => cases y <;> exact absurd (show false = true from hs) Bool.false_ne_true
theorem xmt : OpR X (compareOp .Lt) (rI0 fun i j => .bl (decide (i < j))) := opB0 fun _ _ _ _ _ _ _ q => lt_int q
theorem xdy : OpR X (compareOp .LtE) (rI0 fun i j => .bl (decide (i ≤ j))) := opB0 fun _ _ _ _ _ _ _ q => le_int q
theorem xej : OpR X (compareOp .Gt) (rI0 fun i j => .bl (decide (j < i))) := opB0 fun _ _ _ _ _ _ _ q => gt_int q
theorem xki : OpR X (compareOp .GtE) (rI0 fun i j => .bl (decide (j ≤ i))) := opB0 fun _ _ _ _ _ _ _ q => ge_int q
theorem xf2 : OpR X (compareOp .Is) (fun x y H Q => y = .non ∧ Q (.bl (decide (x = .non))) H) := by
  intro pins s σ H x y v u Q I rx ry h
  obtain ⟨rfl, q⟩ := h
  cases ry
  refine is_none_gen (xar I q ?_)
  cases x <;> first
    | (cases rx; rfl)
    | (obtain ⟨t, rfl⟩ := rx; rfl)
theorem xk4 : OpR X (compareOp .IsNot) (fun x y H Q => y = .non ∧ Q (.bl (!decide (x = .non))) H) := by
  intro pins s σ H x y v u Q I rx ry h
  obtain ⟨rfl, q⟩ := h
  cases ry
  refine isnot_none_gen (xar I q ?_)
  cases x <;> first
    | (cases rx; rfl)
    | (obtain ⟨t, rfl⟩ := rx; rfl)
def isObj : HO → Bool
  | .lst _ => true
  | .ins _ _ _ => true
  | _ => false
theorem xan (b : Expr) {op : CmpOp} (h : op ≠ .In := by decide) (h2 : op ≠ .NotIn := by decide) : behindInMarks op b = false := by
  have e1 : (op == CmpOp.In) = false := by cases op <;> first | rfl | exact absurd rfl h
  have e2 : (op == CmpOp.NotIn) = false := by cases op <;> first | rfl | exact absurd rfl h2
  cases b <;> simp [behindInMarks, e1, e2]
theorem xd2 {op : CmpOp} {r : R2} (ho : OpR X (compareOp op) r) (ha : PE X a ta) (hb : PE X b tb) (hm : behindInMarks op b = false) : PE X (.Compare a [op] [b] pos) (tOp r ta tb) := by
  intro pins s σ H Q I h
  exact wpAny_Compare1 (binT ha hb I h fun v u s2 x y H2 I2 rx ry q => ho pins s2 σ H2 x y v u Q I2 rx ry q) hm
def xmu (t : TE) : TT := fun σ H Q => t σ H fun x H' => ∃ k, x = .bl k ∧ Q k H'
theorem xaj {op : CmpOp} {r : R2} (ho : OpR X (compareOp op) r) (ha : PE X a ta) (hb : PE X b tb) (hm : behindInMarks op b = false) : PT X (.Compare a [op] [b] pos) (xmu (tOp r ta tb)) := by
  intro pins s σ H Q I h
  refine wpAny_isTrue_Compare1 (thn (ha pins s σ H _ I h) fun v s1 ⟨x, H1, I1, r1, q1⟩ => thn (hb pins s1 σ H1 _ I1 q1) fun u s2 ⟨y, H2, I2, r2, q2⟩ =>
    thn (ho pins s2 σ H2 x y v u _ I2 r1 r2 q2) fun c s3 ⟨z, H3, I3, r3, k, e, q3⟩ => ?_) hm
  subst e
  cases r3
  exact wpAny_truthy_bool ⟨H3, I3, q3⟩
def xmb (r r' : R2) (ta tb tc : TE) : TE := fun σ H Q => ta σ H fun x H1 => tb σ H1 fun y H2 => r x y H2 fun z H3 => ∃ k, z = .bl k ∧
  (if k = true then tc σ H3 fun w' H4 => r' y w' H4 Q else Q (.bl false) H3)
theorem xcu {op op' : CmpOp} {r r' : R2} (ho : OpR X (compareOp op) r) (ho' : OpR X (compareOp op') r') (ha : PE X a ta) (hb : PE X b tb) (hc : PE X c tc)
    (hm : lastMarks [op, op'] [b, c] = false := by with_unfolding_all rfl) : PE X (.Compare a [op, op'] [b, c] pos) (xmb r r' ta tb tc) := by
  intro pins s σ H Q I h
  refine Compare_chain (thn (ha pins s σ H _ I h) fun v s1 ⟨x, H1, I1, r1, q1⟩ => chain_link (thn (hb pins s1 σ H1 _ I1 q1) fun u s2 ⟨y, H2, I2, r2, q2⟩ =>
    thn (ho pins s2 σ H2 x y v u _ I2 r1 r2 q2) fun d s3 ⟨z, H3, I3, r3, k, e, q3⟩ => ?_)) hm
  subst e
  cases r3
  refine wpAny_truthy_bool ?_
  cases k with
  | false => exact ite_ff ⟨.bl false, H3, I3, rfl, q3⟩
  | true => exact ite_tt (chain_last (thn (hc pins s3 σ H3 _ I3 q3) fun w' s4 ⟨z', H4, I4, r4, q4⟩ => ho' pins s4 σ H4 y z' u w' Q I4 r2 r4 q4))
theorem xda : (sizeLine : Nat) < 2 ^ 63 := by rw [sizeLine_eq]; decide
theorem xdu {x : V} {us : List Value} (r : Vals [x] us) : ∃ u, us = [u] ∧ RelV x u := by
  cases r with
  | cons r1 r2 => cases r2; exact ⟨_, rfl, r1⟩
theorem xhu {x y : V} {us : List Value} (r : Vals [x, y] us) : ∃ u w', us = [u, w'] ∧ RelV x u ∧ RelV y w' := by
  cases r with
  | cons r1 r2 =>
    cases r2 with
    | cons r3 r4 => cases r4; exact ⟨_, _, rfl, r1, r3⟩
theorem xir (hc : X.calm = true) : xb7 X (.builtin "max") (fun xs H Q => ∃ i j, xs = [.int i, .int j] ∧ Q (.int (if j > i then j else i)) H) := by
  intro pins s σ H xs us Q I r h
  obtain ⟨i, j, rfl, q⟩ := h
  obtain ⟨u, w', rfl, ⟨t, rfl⟩, ⟨t', rfl⟩⟩ := xhu r
  refine max_two_ints (I.ok.hd hc) fun h' tk k => ⟨_, H, I.kept k, ?_, q⟩
  by_cases hj : j > i
  · rw [if_pos hj, if_pos hj]; exact ⟨_, rfl⟩
  · rw [if_neg hj, if_neg hj]; exact ⟨_, rfl⟩
theorem xis (hc : X.calm = true) : xb7 X (.builtin "min") (fun xs H Q => ∃ i j, xs = [.int i, .int j] ∧ Q (.int (if j < i then j else i)) H) := by
  intro pins s σ H xs us Q I r h
  obtain ⟨i, j, rfl, q⟩ := h
  obtain ⟨u, w', rfl, ⟨t, rfl⟩, ⟨t', rfl⟩⟩ := xhu r
  refine min_two_ints (I.ok.hd hc) fun h' tk k => ⟨_, H, I.kept k, ?_, q⟩
  by_cases hj : j < i
  · rw [if_pos hj, if_pos hj]; exact ⟨_, rfl⟩
  · rw [if_neg hj, if_neg hj]; exact ⟨_, rfl⟩
end
end L2
namespace L2
open PySem PySem.Spec PyProof.Rows
variable {q0 : Bool}
structure ObjM (h : Heap) (x dx C : Addr) (mA : Str → Option Value) : Prop where
  obj : h.get? x = some (PySem.W.instObj C dx)
  ns : h.Ns1 dx mA
  ne : dx ≠ x
theorem xe4 {h : Heap} {dx : Addr} {mA : Str → Option Value} (n : h.Ns1 dx mA) : ∃ od, h.get? dx = some od ∧ ∀ name, PySem.W.lookIn name od = some (mA name) := by
  obtain ⟨o, es, ep, ho, hd, hk, _, hm⟩ := n
  refine ⟨o, ho, fun name => ?_⟩
  have e := hm name
  unfold nsFind findBy at e
  rw [← Array.find?_toList] at e
  unfold PySem.W.lookIn
  rw [hd]
  dsimp only
  split
  · rename_i y q
    rw [q] at e
    exact congrArg some e
  · rename_i q
    rw [q] at e
    have a : es.toList.any (·.refKey) = false := by
      rw [List.any_eq_false]
      intro y hy
      obtain ⟨z, t, hkey⟩ := hk y (Array.mem_toList_iff.mp hy)
      simp [DictEntry.refKey, hkey]
    have a' : ¬ es.toList.any (·.refKey) = true := by rw [a]; exact Bool.false_ne_true
    rw [if_neg a']
    exact congrArg some e
theorem ObjM.look {h : Heap} {x dx C : Addr} {mA : Str → Option Value} (I : ObjM h x dx C mA) : ∃ od, PySem.W.InstAt h x (PySem.W.instObj C dx) C (some od) ∧ ∀ name, PySem.W.lookIn name od = some (mA name) :=
  let ⟨od, ho, hl⟩ := xe4 I.ns
  ⟨od, ⟨I.obj, rfl, rfl, ho⟩, hl⟩
section
variable {prog : Program} {w : World} {A : Around} {E : Value → Shared → Prop} {s : Shared} {K : PySem.W.Frag} {x dx C f : Addr} {mA : Str → Option Value} {name : Str} {v : Value}
theorem xlb {expr : Bool} {Q : Value → Shared → Prop} (X : K.In s.heap) (I : ObjM s.heap x dx C mA) (hg : PySem.W.plainGet K C name = true) (hh : PySem.W.hasDictIn K C = true)
    (ha : PySem.W.findIn K (.ref C) name = some none) (hv : mA name = some v) (hv' : PySem.W.handedIn v = true) (h : Q v { s with toks := s.toks + 1 }) :
    wpAny (model prog w) A (getAttr (.ref x) name expr) Q E s := by
  obtain ⟨od, J, hl⟩ := I.look
  exact PySem.W.get_value X J (PySem.W.plainGet_of hg).1 (PySem.W.findObj_own hh ha rfl (by rw [hl, hv])) hv' h
theorem xjj {pl : Sem Bool} {Q : Value × List Value → Shared → Prop} (X : K.In s.heap) (I : ObjM s.heap x dx C mA) (hg : PySem.W.plainGet K C name = true)
    (hf : PySem.W.findIn K (.ref C) name = some (some (.ref f))) (ht : PySem.W.isFn K (.ref f) = true) (hv : mA name = none) (h : Q (.ref f, [.ref x]) s) :
    wpAny (model prog w) A (getMethod (.ref x) name pl) Q E s := by
  obtain ⟨od, J, hl⟩ := I.look
  exact PySem.W.method_fn X J (PySem.W.plainGet_of hg).1 (PySem.W.plainGet_of hg).2 hf (beq_iff_eq.mp ht) (by show (PySem.W.lookIn name od).map (·.isSome) = some false; rw [hl, hv]; rfl) h
theorem xky {ns : List Str} {Q : Unit → Shared → Prop} (X : K.In s.heap) (I : ObjM s.heap x dx C mA)
    (hs : PySem.W.findIn K (.ref C) "__setattr__" = some (some (.builtin "object.__setattr__"))) (hp : PySem.W.plainOver K C = true) (ht : PySem.W.takerIn K C name = some none) (hh : PySem.W.hasDictIn K C = true)
    (hw : PySem.Within mA ns) (hsz : ns.length ≤ sizeLine)
    (h : ∀ h', ObjM h' x dx C (fun y => if y = name then some v else mA y) → Heap.SameBut dx s.heap h' → Q () { s with heap := h', toks := s.toks + 2 }) :
    wpAny (model prog w) A (setAttr (.ref x) name v) Q E s := by
  obtain ⟨od, J, hl⟩ := I.look
  refine PySem.W.set_plain X J hs (PySem.W.osa_open (s := { s with toks := s.toks + 1 }) (r := none) X J hp ht fun b => ?_)
  obtain ⟨cd, hc, hd'⟩ := PySem.W.any_some hh
  have hx : s.heap.get? x = some ⟨.ref C, some dx, .plain, #[]⟩ := I.obj
  refine wpAny_bind (wpAny_pure (wpAny_bind (wpAny_bind (wpAny_loadPart hx (wpAny_bind (PySem.W.Looks.here (s := { s with toks := s.toks + 1 }) (PySem.W.looks_clsIn X hc) ?_))))))
  rw [hd']
  refine wpAny_pure (a := some dx) (wpAny_bind (wpAny_pure (wpAny_bind ?_)))
  refine wpAny_nsSet1 (s := { s with toks := s.toks + 1 }) I.ns fun h' hn2 hs2 => ?_
  obtain ⟨oD, esD, epD, hoD, hdD, hcD⟩ := hn2.count (PySem.Within.cons name v hw)
  refine wpAny_bind (wpAny_lookBehind hoD (by rw [hdD]; exact pastItsLine_dict (Nat.le_trans hcD (by rw [List.length_cons]; omega))) ?_)
  exact wpAny_pure (h _ ⟨(hs2.2 _ (Ne.symm I.ne)).trans I.obj, hn2, I.ne⟩ hs2)
theorem xjv {R : Result → Shared → Prop} {vs : List Value} {kw : List (Str × Value)} (X : K.In s.heap) (hm : PySem.W.makesIn K C = true)
    (hi : PySem.W.findIn K (.ref C) "__init__" = some (some (.ref f))) (hf : PySem.W.typeIn K (.ref f) = some (.type "function"))
    (h : codeAny (model prog w) (A.under (.builtin "type.__call__" ⟨.ref C :: vs, kw⟩)) (.call (.ref f) ⟨.ref (s.heap.objs.size + 1) :: vs, kw⟩) (PySem.W.InitBack (s.heap.objs.size + 1) R)
      { s with heap := (s.heap.push PySem.W.emptyDict).push (PySem.W.instObj C s.heap.objs.size) }) :
    codeAny (model prog w) A (.call (.ref C) ⟨vs, kw⟩) R s := by
  obtain ⟨hh, g, d, t, os⟩ := s
  exact PySem.W.make_core (PySem.W.makes_of X hm) (PySem.W.looks_findIn X hi) (fun self => PySem.W.bind_fn X self hf) (.inl rfl) h
end
def putF (f : Str) (v : V) : List (Str × V) → List (Str × V)
  | [] => [(f, v)]
  | (g, x) :: r => if g = f then (g, v) :: r else (g, x) :: putF f v r
theorem xc8 (f g : Str) (v : V) : ∀ fs : List (Str × V), (putF f v fs).lookup g = if g = f then some v else fs.lookup g
  | [] => by
    show List.lookup g [(f, v)] = _
    by_cases h : g = f
    · have hb : (g == f) = true := beq_iff_eq.mpr h
      simp only [List.lookup, hb, if_pos h]
    · have hb : (g == f) = false := beq_eq_false_iff_ne.mpr h
      simp only [List.lookup, hb, if_neg h]
  | (k, x) :: r => by
    have ih := xc8 f g v r
    rw [show putF f v ((k, x) :: r) = (if k = f then (k, v) :: r else (k, x) :: putF f v r) from rfl]
    by_cases hk : k = f
    · rw [if_pos hk]
      by_cases h : g = k
      · have hb : (g == k) = true := beq_iff_eq.mpr h
        simp only [List.lookup, hb, if_pos (h.trans hk)]
      · have hb : (g == k) = false := beq_eq_false_iff_ne.mpr h
        simp only [List.lookup, hb, if_neg (fun e : g = f => h (e.trans hk.symm))]
    · rw [if_neg hk]
      by_cases h : g = k
      · have hb : (g == k) = true := beq_iff_eq.mpr h
        simp only [List.lookup, hb, if_neg (fun e : g = f => hk (h.symm.trans e))]
      · have hb : (g == k) = false := beq_eq_false_iff_ne.mpr h
        simp only [List.lookup, hb]
        exact ih
theorem xcl (f : Str) (v : V) : ∀ fs : List (Str × V), f ∈ (putF f v fs).map (·.1) ∧ ∀ g, g ∈ fs.map (·.1) → g ∈ (putF f v fs).map (·.1)
  | [] => ⟨by simp [putF], fun g h => by simp at h⟩
  | (k, x) :: r => by
    obtain ⟨i1, i2⟩ := xcl f v r
    rw [show putF f v ((k, x) :: r) = (if k = f then (k, v) :: r else (k, x) :: putF f v r) from rfl]
    by_cases hk : k = f
    · rw [if_pos hk]
      subst hk
      exact ⟨by simp, fun g h => by simpa using h⟩
    · rw [if_neg hk]
      refine ⟨?_, fun g h => ?_⟩
      · rw [List.map_cons]
        exact List.mem_cons_of_mem _ i1
      · rw [List.map_cons] at h ⊢
        rcases List.mem_cons.mp h with e | e
        · exact List.mem_cons.mpr (.inl e)
        · exact List.mem_cons_of_mem _ (i2 g e)
theorem xc7 (f : Str) (v : V) : ∀ fs : List (Str × V), (putF f v fs).length ≤ fs.length + 1
  | [] => by simp [putF]
  | (k, x) :: r => by
    have ih := xc7 f v r
    rw [show putF f v ((k, x) :: r) = (if k = f then (k, v) :: r else (k, x) :: putF f v r) from rfl]
    by_cases hk : k = f
    · rw [if_pos hk, List.length_cons, List.length_cons]; omega
    · rw [if_neg hk, List.length_cons, List.length_cons]; omega
theorem RelO.some_of {v : V} {o : Option Value} (r : RelO (some v) o) : ∃ u, o = some u ∧ RelV v u := by
  cases o with
  | none => exact (show False from r).elim
  | some u => exact ⟨u, rfl, r⟩
theorem RelO.none_of {o : Option Value} (r : RelO none o) : o = none := by
  cases o with
  | none => rfl
  | some u => exact (show False from r).elim
theorem xfc {v : V} {u : Value} (r : RelV v u) : PySem.W.handedIn u = true := by
  cases v with
  | non => cases (show u = Value.none from r); rfl
  | bl b => cases (show u = Value.bool b from r); rfl
  | int i => obtain ⟨t, e⟩ := (show ∃ t, u = Value.int i t from r); cases e; rfl
  | str x => obtain ⟨t, e⟩ := (show ∃ t, u = Value.str x t from r); cases e; rfl
  | byt b => obtain ⟨t, e⟩ := (show ∃ t, u = Value.bytes b t from r); cases e; rfl
  | flt b => obtain ⟨t, e⟩ := (show ∃ t, u = Value.float b t from r); cases e; rfl
  | ref a => cases (show u = Value.ref a from r); rfl
  | ty n => cases (show u = Value.type n from r); rfl
section
variable {P : Program} {w : World} {H H' : Hp} {h h' : Heap} {a C dx : Addr} {fs fs' : List (Str × V)}
theorem xdv (hok : HOk P w H h) (e : H a = some (.ins C dx fs)) : ∃ mA, ObjM h a dx C mA ∧ (∀ f, RelO (fs.lookup f) (mA f)) ∧ PySem.Within mA (fs.map (·.1)) ∧ fs.length ≤ 1000 ∧ H dx = some (.own a) := by
  obtain ⟨d, z, ne, ob, mA, n, r, q⟩ := (show xav P w H h a (.ins C dx fs) from hok a _ e)
  exact ⟨mA, ⟨ob, n, ne⟩, r, q, z, d⟩
end
structure Cls (K : PySem.W.Frag) (C : Addr) : Prop where
  pg : PySem.W.plainGet K C Str.empty = true
  hd : PySem.W.hasDictIn K C = true
  po : PySem.W.plainOver K C = true
  sa : PySem.W.findIn K (.ref C) "__setattr__" = some (some (.builtin "object.__setattr__"))
theorem Cls.get {K : PySem.W.Frag} {C : Addr} (c : Cls K C) (f : Str) : PySem.W.plainGet K C f = true := c.pg
def xc9 (K : PySem.W.Frag) (C : Addr) (f : Str) : Prop := PySem.W.findIn K (.ref C) f = some none
theorem xc9.taker {K : PySem.W.Frag} {C : Addr} {f : Str} (n : xc9 K C f) : PySem.W.takerIn K C f = some none := by
  unfold PySem.W.takerIn
  rw [show PySem.W.findIn K (.ref C) f = some none from n]
  rfl
structure Meth (K : PySem.W.Frag) (C : Addr) (m : Str) (f : Addr) : Prop where
  at_ : PySem.W.findIn K (.ref C) m = some (some (.ref f))
  fn : PySem.W.isFn K (.ref f) = true
  kp : PySem.W.keepIn K (.ref f) = true
section
variable {X : Cx} {pins : List (Addr × Obj)} {σ : St} {H : Hp} {s : Shared} {a C dx : Addr} {fs : List (Str × V)} {f : Str} {v : V} {A : Around} {E : Value → Shared → Prop}
theorem xhv {b : Bool} {Q : Value → Shared → Prop} (I : Inv X pins σ H s) (e : H a = some (.ins C dx fs)) (c : Cls X.K C) (n : xc9 X.K C f) (l : fs.lookup f = some v)
    (h : ∀ u s', Inv X pins σ H s' → RelV v u → Q u s') : wpAny (model X.prog X.w) A (getAttr (.ref a) f b) Q E s := by
  obtain ⟨mA, O, r, _, _, _⟩ := xdv I.hok e
  obtain ⟨u, hu, ru⟩ := RelO.some_of (v := v) (o := mA f) (by rw [← l]; exact r f)
  exact xlb I.kIn O (c.get f) c.hd n hu (xfc ru) (h u _ (I.tok _) ru)
theorem xel {m : Str} {g : Addr} {pl : Sem Bool} {Q : Value × List Value → Shared → Prop} (I : Inv X pins σ H s) (e : H a = some (.ins C dx fs)) (c : Cls X.K C) (k : Meth X.K C m g) (l : fs.lookup m = none)
    (h : Q (.ref g, [.ref a]) s) : wpAny (model X.prog X.w) A (getMethod (.ref a) m pl) Q E s := by
  obtain ⟨mA, O, r, _, _, _⟩ := xdv I.hok e
  have hn : mA m = none := RelO.none_of (by rw [← l]; exact r m)
  exact xjj I.kIn O (c.get m) k.at_ k.fn hn h
theorem xh5 {y : V} {u : Value} {Q : Unit → Shared → Prop} (I : Inv X pins σ H s) (e : H a = some (.ins C dx fs)) (c : Cls X.K C) (n : xc9 X.K C f) (hl : fs.length < 1000) (ry : RelV y u)
    (h : ∀ s', Inv X pins σ (upd H a (.ins C dx (putF f y fs))) s' → Q () s') : wpAny (model X.prog X.w) A (setAttr (.ref a) f u) Q E s := by
  obtain ⟨mA, O, r, wi, _, ho⟩ := xdv I.hok e
  have hz : (fs.map (·.1)).length ≤ sizeLine := by rw [List.length_map, sizeLine_eq]; omega
  refine xky I.kIn O c.sa c.po n.taker c.hd wi hz fun h' O' sb => h _ ?_
  have hd : ∃ o, h'.get? dx = some o := let ⟨o, _, _, e', _⟩ := O'.ns; ⟨o, e'⟩
  refine I.write (x := a) (e := dx) (by rw [e]; exact True.intro) (.inr ho) (fun b q hb z => (sb.2 b hb).trans z) hd ?_
  refine ⟨by rw [xh O.ne]; exact ho, ?_, O.ne, O'.obj, _, O'.ns, fun g => ?_, fun g hg => ?_⟩
  · have := xc7 f y fs; omega
  · show RelO ((putF f y fs).lookup g) (if g = f then some u else mA g)
    rw [xc8]
    by_cases q : g = f
    · rw [if_pos q, if_pos q]; exact ry
    · rw [if_neg q, if_neg q]; exact r g
  · by_cases q : g = f
    · rw [q]; exact (xcl f y fs).1
    · refine (xcl f y fs).2 g (wi g fun z => hg ?_)
      show (if g = f then some u else mA g) = none
      rw [if_neg q]; exact z
theorem Inv.made (I : Inv X pins σ H s) : Inv X pins σ (upd (upd H s.heap.objs.size (.own (s.heap.objs.size + 1))) (s.heap.objs.size + 1) (.ins C s.heap.objs.size []))
    { s with heap := (s.heap.push PySem.W.emptyDict).push (PySem.W.instObj C s.heap.objs.size) } := by
  have e1 : (s.heap.push PySem.W.emptyDict).get? s.heap.objs.size = some PySem.W.emptyDict := Heap.get?_push_size s.heap rfl
  have e2 : ((s.heap.push PySem.W.emptyDict).push (PySem.W.instObj C s.heap.objs.size)).get? (s.heap.objs.size + 1) = some (PySem.W.instObj C s.heap.objs.size) := by
    have := Heap.get?_push_size (s.heap.push PySem.W.emptyDict) (o := PySem.W.instObj C s.heap.objs.size) rfl
    rwa [Heap.size_push] at this
  have e3 : (s.heap.push PySem.W.emptyDict).Ns s.heap.objs.size (fun _ => none) := ⟨PySem.W.emptyDict, #[], _, e1, rfl, (fun e he => absurd he (by simp)), fun _ => rfl⟩
  have I1 := I.laid (a := s.heap.objs.size) (o := .own (s.heap.objs.size + 1)) (h' := s.heap.push PySem.W.emptyDict) (t' := s.toks) (fun b u q => Heap.get?_push_of_some _ q) (Nat.le_refl _) ⟨_, e1⟩
  refine I1.laid (a := s.heap.objs.size + 1) (o := .ins C s.heap.objs.size []) (t' := s.toks) (fun b u q => Heap.get?_push_of_some _ q) (Nat.le_of_eq (Heap.size_push _ _)) ?_
  have ne : s.heap.objs.size ≠ s.heap.objs.size + 1 := Nat.ne_of_lt (Nat.lt_succ_self _)
  refine ⟨by rw [xh ne, xf], Nat.zero_le _, ne, e2, fun _ => none, (Heap.Ns1.of_empty e3).at fun o q => Heap.get?_push_of_some _ q, fun _ => True.intro, fun y hy => absurd rfl hy⟩
theorem xg6 {prog : Program} {w : World} {env : Env} {e : Expr} {f : Str} {pos : Pos} {s : Shared} {Q : Value → Shared → Prop} (hb : attributeBase e f env (eval e env) = eval e env)
    (h : wpAny (model prog w) A (eval e env) (fun o s₁ => wpAny (model prog w) A (getAttr o f true) Q E s₁) E s) : wpAny (model prog w) A (eval (.Attribute e f pos) env) Q E s :=
  Attribute_any_ h (by rw [arm_eval_Attribute, hb])
end
def tFld (K : PySem.W.Frag) (ta : TE) (f : Str) : TE := fun σ H Q => ta σ H fun x H1 => ∃ a C dx fs v, x = .ref a ∧ H1 a = some (.ins C dx fs) ∧ Cls K C ∧ xc9 K C f ∧ fs.lookup f = some v ∧ Q v H1
def sFld (K : PySem.W.Frag) (ta tv : TE) (f : Str) : TS := fun D σ H => tv σ H fun y H1 => ta σ H1 fun x H2 => ∃ a C dx fs, x = .ref a ∧ H2 a = some (.ins C dx fs) ∧ Cls K C ∧ xc9 K C f ∧ fs.length < 1000 ∧
  D.nx σ (upd H2 a (.ins C dx (putF f y fs)))
section
variable {X : Cx} {o e value : Expr} {f : Str} {pos pos' tpos : Pos} {ta tv : TE}
theorem xaz (he : PE X e ta) (hb : attributeBase e f X.env (eval e X.env) = eval e X.env) : PE X (.Attribute e f pos) (tFld X.K ta f) := by
  intro pins s σ H Q I h
  refine xg6 hb (thn (he pins s σ H _ I h) fun u s1 ⟨x, H1, I1, rx, a, C, dx, fs, v, ex, ea, c, n, l, q⟩ => ?_)
  subst ex
  obtain rfl : u = Value.ref a := rx
  exact xhv I1 ea c n l fun u' s2 I2 ru => ⟨v, H1, I2, ru, q⟩
theorem xcf (ha : PE X o ta) (hv : PE X value tv) (hs : swapsWith value (some (.Attribute o f pos')) pos.line X.env = pure false) : PS X (.Assign [.Attribute o f pos'] value pos) (sFld X.K ta tv f) := by
  intro pins s σ H D I h
  refine plainObj_wpAny_Assign_Attribute (thn (hv pins s σ H _ I h) fun u s1 ⟨y, H1, I1, ry, q⟩ => thn (ha pins s1 σ H1 _ I1 q) fun ov s2 ⟨x, H2, I2, rx, a, C, dx, fs, ex, ea, c, n, l, q2⟩ => ?_) hs
  subst ex
  obtain rfl : ov = Value.ref a := rx
  exact xh5 I2 ea c n l ry fun s3 I3 => ⟨σ, _, I3, q2⟩
end
section
variable {X : Cx} {pins : List (Addr × Obj)} {σ : St} {H : Hp} {s : Shared} {A : Around} {E : Value → Shared → Prop} {Q : Value → Shared → Prop} {c : Value} {b : Bool}
inductive TyOf (K : PySem.W.Frag) (H : Hp) : V → Value → Prop where
  | non : TyOf K H .non (.type "NoneType")
  | bl (x : Bool) : TyOf K H (.bl x) (.type "bool")
  | int (i : Int) : TyOf K H (.int i) (.type "int")
  | str (x : Str) : TyOf K H (.str x) (.type "str")
  | flt (x : UInt64) : TyOf K H (.flt x) (.type "float")
  | lst {a : Addr} {xs : List V} (e : H a = some (.lst xs)) : TyOf K H (.ref a) (.type "list")
  | frz {a : Addr} {o : Obj} {xs : List V} (e : H a = some (.frz o (.lst xs))) : TyOf K H (.ref a) (.type "list")
  | tup {a : Addr} {xs : List V} (e : H a = some (.tup xs)) : TyOf K H (.ref a) (.type "tuple")
  | dK {a : Addr} {kvs : List (Key × V)} (e : H a = some (.dK kvs)) : TyOf K H (.ref a) (.type "dict")
  | dT {a : Addr} {kvs : List (List Key × V)} (e : H a = some (.dT kvs)) : TyOf K H (.ref a) (.type "dict")
  | ins {a C dx : Addr} {fs : List (Str × V)} (e : H a = some (.ins C dx fs)) (cl : Cls K C) (ha : PySem.W.findIn K (.ref C) "__class__" = some (some (.builtin "object.__class__")))
      (hn : PySem.W.specialIn K (.builtin "object.__class__") "__get__" = some (some (.builtin "getset_descriptor.__get__"))) (htk : PySem.W.takesIn K (.builtin "object.__class__") = some true)
      (hm : PySem.W.mroIn K C (.type "object") = some true) : TyOf K H (.ref a) (.ref C)
theorem xil {x : V} {u t : Value} (I : Inv X pins σ H s) (rx : RelV x u) (ty : TyOf X.K H x t) (e : PySem.W.kitOne X.K t c = some b) (h : ∀ tk, Q (.bool b) { s with toks := tk }) :
    wpAny (model X.prog X.w) A (call (.builtin "isinstance") [u, c]) Q E s := by
  cases ty with
  | non => cases (show u = Value.none from rx); exact PySem.W.kia_one PySem.W.kitx_none I.kIn True.intro e (fun z => nomatch z) h
  | bl y => cases (show u = Value.bool y from rx); exact PySem.W.kia_one PySem.W.kitx_bool I.kIn True.intro e (fun z => nomatch z) h
  | int i => obtain ⟨t, q⟩ := (show ∃ t, u = Value.int i t from rx); cases q; exact PySem.W.kia_one PySem.W.kitx_int I.kIn True.intro e (fun z => nomatch z) h
  | str y => obtain ⟨t, q⟩ := (show ∃ t, u = Value.str y t from rx); cases q; exact PySem.W.kia_one PySem.W.kitx_str I.kIn True.intro e (fun z => nomatch z) h
  | flt y => obtain ⟨t, q⟩ := (show ∃ t, u = Value.float y t from rx); cases q; exact PySem.W.kia_one PySem.W.kitx_float I.kIn True.intro e (fun z => nomatch z) h
  | @lst a xs ea =>
    cases (show u = Value.ref a from rx)
    obtain ⟨_, _, n, _, h1⟩ := (show xav X.prog X.w H s.heap a (.lst xs) from I.hok a _ ea)
    exact PySem.W.kia_one PySem.W.kitx_list I.kIn ⟨_, h1, rfl⟩ e (fun z => nomatch z) h
  | @frz a ob xs ea =>
    cases (show u = Value.ref a from rx)
    obtain ⟨_, _, _, n, _, h1⟩ := (show xav X.prog X.w H s.heap a (.frz ob (.lst xs)) from I.hok a _ ea)
    exact PySem.W.kia_one PySem.W.kitx_list I.kIn ⟨_, h1, rfl⟩ e (fun z => nomatch z) h
  | @tup a xs ea =>
    cases (show u = Value.ref a from rx)
    obtain ⟨_, _, _, p⟩ := (show xav X.prog X.w H s.heap a (.tup xs) from I.hok a _ ea)
    obtain ⟨o, h1, h2, _⟩ := p
    exact PySem.W.kia_one PySem.W.kitx_tuple I.kIn ⟨o, h1, h2⟩ e (fun z => nomatch z) h
  | @dK a kvs ea =>
    cases (show u = Value.ref a from rx)
    obtain ⟨_, _, vs, _, p⟩ := (show xav X.prog X.w H s.heap a (.dK kvs) from I.hok a _ ea)
    obtain ⟨o, es, ep, h1, h2, _⟩ := p
    exact PySem.W.kia_one PySem.W.kitx_dict I.kIn ⟨o, h1, h2.1⟩ e (fun z => nomatch z) h
  | @dT a kvs ea =>
    cases (show u = Value.ref a from rx)
    obtain ⟨_, _, xs, _, o, es, ep, h1, h2, _⟩ := (show xav X.prog X.w H s.heap a (.dT kvs) from I.hok a _ ea)
    exact PySem.W.kia_one PySem.W.kitx_dict I.kIn ⟨o, h1, h2.1⟩ e (fun z => nomatch z) h
  | @ins a C dx fs ea cl ha hn htk hm =>
    cases (show u = Value.ref a from rx)
    obtain ⟨mA, O, _⟩ := xdv I.hok ea
    obtain ⟨od, J, _⟩ := O.look
    exact PySem.W.kia_one (PySem.W.kitx_own (cl.get _) cl.hd ha hn htk hm) I.kIn J e (fun z => nomatch z) h
end
end L2
namespace L2
open PySem PySem.Spec PyProof.Rows
variable {q0 : Bool}
structure Room (q0 : Bool) (k : Nat) (A : Around) : Prop where
  hd : q0 = true → A.handled = none
  dp : A.depth + 3 * k + 5 < recursionLimit
  un : A.units + 16 * k + 200 < cLine
theorem Room.mono {j k : Nat} {A : Around} (r : Room q0 k A) (h : j ≤ k) : Room q0 j A := ⟨r.hd, by have := r.dp; omega, by have := r.un; omega⟩
theorem Room.deeper {k : Nat} {A : Around} (r : Room q0 (k + 1) A) (env : Env) : Room q0 k (A.deeper env) :=
  ⟨r.hd, by have := r.dp; show A.depth + 1 + 3 * k + 5 < _; omega, by have := r.un; show A.units + 3 + 16 * k + 200 < _; omega⟩
theorem xh2 {A : Around} {C : Addr} {us : List Value} {kw : List (Str × Value)} : (A.under (.builtin "type.__call__" ⟨.ref C :: us, kw⟩)).depth = A.depth + 1 := by
  first | rfl | simp [Around.under, Code.weight, Code.isCreation, Code.isGuard, Code.isCaller, Code.frames, Code.isFrame, guardIds]
theorem xh7 {A : Around} {C : Addr} {us : List Value} {kw : List (Str × Value)} : (A.under (.builtin "type.__call__" ⟨.ref C :: us, kw⟩)).units = A.units + 1 := by
  first | rfl | simp [Around.under, Code.cUnits, Code.frames, Code.isFrame]
theorem Room.make {k : Nat} {A : Around} (r : Room q0 (k + 1) A) (C : Addr) (us : List Value) (kw : List (Str × Value)) : Room q0 k (A.under (.builtin "type.__call__" ⟨.ref C :: us, kw⟩)) :=
  ⟨r.hd, by have := r.dp; rw [xh2]; omega, by have := r.un; rw [xh7]; omega⟩
theorem Room.depth {k : Nat} {A : Around} (r : Room q0 k A) : A.depth < recursionLimit := by have := r.dp; omega
theorem Room.units {k : Nat} {A : Around} (r : Room q0 k A) : A.units + 64 < cLine := by have := r.un; omega
def tNil : TA := fun _ H Q => Q [] H
def xkk (ta : TE) (tr : TA) : TA := fun σ H Q => ta σ H fun x H1 => tr σ H1 fun xs H2 => Q (x :: xs) H2
section
variable {X : Cx} {e : Expr} {es : List Expr} {te : TE} {t : TA} {pos : Pos}
theorem xj : PA X [] tNil := fun _ _ _ _ H Q I h => Calls.spliced_nil ⟨[], H, I, .nil, h⟩
theorem xb (ha : PE X e te) (hr : PA X es t) (hs : starEach (e :: es) X.env = (false, eval e X.env) :: starEach es X.env := by rfl) : PA X (e :: es) (xkk te t) := by
  intro pos pins s σ H Q I h
  rw [hs]
  show wpAny _ _ (spliced ((false, eval e X.env) :: backTo pos (starEach es X.env))) _ _ s
  refine Calls.spliced_cons (thn (ha pins s σ H _ I h) fun u s1 ⟨x, H1, I1, r1, q1⟩ => ?_)
  exact thn (hr pos pins s1 σ H1 _ I1 q1) fun us s2 ⟨xs, H2, I2, r2, q2⟩ => ⟨x :: xs, H2, I2, .cons r1 r2, q2⟩
def tTup (t : TA) : TE := fun σ H Q => t σ H fun xs H1 => xs.length ≤ sizeLine ∧ ∀ p, H1 p = none → Q (.ref p) (upd H1 p (.tup xs))
def tLst (t : TA) : TE := fun σ H Q => t σ H fun xs H1 => xs.length ≤ sizeLine ∧ ∀ p, H1 p = none → Q (.ref p) (upd H1 p (.lst xs))
theorem xbg {x1} (h : PA X es t) : PE X (.Tuple es x1 pos) (tTup t) := by
  intro pins s σ H Q I hq
  refine wpAny_Tuple_spliced (thn (h pos pins s σ H _ I hq) fun us s1 ⟨xs, H1, I1, r, z, q⟩ => ⟨by rw [← r.length]; exact z, ?_⟩)
  have hf : H1 s1.heap.objs.size = none := I1.hok.fresh (Nat.le_refl _)
  refine ⟨.ref s1.heap.objs.size, upd H1 s1.heap.objs.size (.tup xs), I1.laid (t' := s1.toks) (fun b u e => Heap.get?_push_of_some _ e) (Nat.le_refl _) ?_, rfl, q _ hf⟩
  exact ⟨z, us, r, ⟨_, Heap.get?_push_size _ rfl, rfl, _, rfl⟩⟩
theorem xab (h : PA X es t) : PE X (.List es pos) (tLst t) := by
  intro pins s σ H Q I hq
  refine wpAny_List_spliced (thn (h pos pins s σ H _ I hq) fun us s1 ⟨xs, H1, I1, r, z, q⟩ => ⟨by rw [← r.length]; exact z, ?_⟩)
  have hf : H1 s1.heap.objs.size = none := I1.hok.fresh (Nat.le_refl _)
  refine ⟨.ref s1.heap.objs.size, upd H1 s1.heap.objs.size (.lst xs), I1.laid (t' := s1.toks) (fun b u e => Heap.get?_push_of_some _ e) (Nat.le_refl _) ?_, rfl, q _ hf⟩
  exact ⟨z, us, 0, r, Heap.get?_push_size _ rfl⟩
end
abbrev Sp := List V → Hp → VK → XK → Prop
abbrev CXT := List Env → Hp → Shared → XK → Value → Shared → Prop
structure Env0 (P : Program) (w : World) (K : PySem.W.Frag) (mg : Str → Option Value) (base : Heap) (A : Around) (outer : List Env) (s : Shared) (H : Hp) : Prop where
  frames : A.frames = some outer
  mod : Mod K mg base
  bs : ∀ b o, base.get? b = some o → s.heap.get? b = some o ∧ H b = none
  bsz : base.objs.size ≤ s.heap.objs.size
  funs : s.heap.FunFrames base outer
  frf : ∀ b ∈ frs outer, H b = none
  hok : HOk P w H s.heap
  bare : AllBare s.gens
def CE (outer : List Env) (P : Program) (w : World) (H : Hp) (s : Shared) (Q : VK) (u : Value) (s' : Shared) : Prop :=
  ∃ v H', s'.os = s.os ∧ AllBare s'.gens ∧ Un (frs outer) [] H H' s.heap s'.heap ∧ HOk P w H' s'.heap ∧ RelV v u ∧ Q v H'
def CR (CX : CXT) (outer : List Env) (P : Program) (w : World) (H : Hp) (s : Shared) (Q : VK) (E : XK) (r : Result) (s' : Shared) : Prop :=
  match r with
  | .ok (.ret u) => CE outer P w H s Q u s'
  | .ok _ => False
  | .error e => CX outer H s E e s'
structure FnOk (q0 : Bool) (P : Program) (w : World) (K : PySem.W.Frag) (mg : Str → Option Value) (base : Heap) (CX : CXT) (k : Nat) (f : Addr) (fd : FuncData) (ps : List Str) (sp : Sp) : Prop where
  len : ∀ vs H Q E, sp vs H Q E → vs.length = ps.length
  run : ∀ (A : Around) (outer : List Env) (s : Shared) (H : Hp) (args : Args) (us : List Value) (vs : List V) (Q : VK) (E : XK), Room q0 k A → Env0 P w K mg base A outer s H → BindsTo s fd args (ps.zip us) → Vals vs us → sp vs H Q E →
    codeAny (model P w) A (.call (.ref f) args) (CR CX outer P w H s Q E) s
theorem Env0.make {P : Program} {w : World} {K : PySem.W.Frag} {mg : Str → Option Value} {base : Heap} {A : Around} {outer : List Env} {s : Shared} {H : Hp} (e : Env0 P w K mg base A outer s H) (C : Addr) (us : List Value) (kw : List (Str × Value)) :
    Env0 P w K mg base (A.under (.builtin "type.__call__" ⟨.ref C :: us, kw⟩)) outer s H := ⟨by first | exact e.frames | (simpa [Around.under, Code.envs, Code.isFrame, pushEnvs] using e.frames), e.mod, e.bs, e.bsz, e.funs, e.frf, e.hok, e.bare⟩
section
variable {X : Cx} {pins : List (Addr × Obj)} {σ : St} {H : Hp} {s s' : Shared}
theorem Inv.env0 (I : Inv X pins σ H s) : Env0 X.prog X.w X.K X.mg X.base X.A X.stack s H :=
  ⟨I.ok.frames, I.ok.mod, I.bs, Nat.le_trans I.ok.bsz I.sz, I.stack, I.stkFree, I.hok, I.bare⟩
theorem Inv.after {Q : VK} {u : Value} (I : Inv X pins σ H s) (h : CE X.stack X.prog X.w H s Q u s') : EP X pins σ Q u s' := by
  obtain ⟨v, H', os, bare, un, hok, r, q⟩ := h
  obtain ⟨hh, g, d, t, os'⟩ := s'
  obtain rfl : os' = s.os := os
  exact ⟨v, H', I.call (h' := hh) (g' := g) (d' := d) (t' := t) (ch := []) un hok bare (fun b z => absurd z (by simp)), r, q⟩
end
def xnc (sp : Sp) (dvs : List V) (E : St → XK) (t : TA) : TE := fun σ H Q => t σ H fun vs H1 => sp (vs ++ dvs) H1 Q (E σ)
def xkj (C : Addr) (m : Str) (sp : Sp) (dvs : List V) (E : St → XK) (ta : TE) (t : TA) : TE := fun σ H Q => ta σ H fun x H1 => ∃ a dx fs, x = .ref a ∧ H1 a = some (.ins C dx fs) ∧ fs.lookup m = none ∧
  t σ H1 fun vs H2 => sp (x :: (vs ++ dvs)) H2 Q (E σ)
def xmn (C : Addr) (sp : Sp) (dvs : List V) (E : St → XK) (t : TA) : TE := fun σ H Q => t σ H fun vs H1 => ∀ x dx, H1 x = none → H1 dx = none → dx ≠ x →
  sp (.ref x :: (vs ++ dvs)) (upd (upd H1 dx (.own x)) x (.ins C dx [])) (fun v H2 => v = .non ∧ Q (.ref x) H2) (E σ)
def xal (K : PySem.W.Frag) (fd : FuncData) (ps : List Str) (ds : List Value) : Prop :=
  ∀ (s : Shared) (us : List Value), K.In s.heap → (us ++ ds).length = ps.length → BindsTo s fd ⟨us, []⟩ (ps.zip (us ++ ds))
theorem xal.all {K : PySem.W.Frag} {fd : FuncData} {ps : List Str} (h : ∀ us : List Value, us.length = ps.length → bindArgs fd ⟨us, []⟩ = pure (ps.zip us)) : xal K fd ps [] := fun s us _ hl => by
  rw [List.append_nil] at hl ⊢
  exact .of_eq (h us hl)
def xcg (CX : CXT) (X : Cx) (E : St → XK) : Prop := ∀ (pins : List (Addr × Obj)) (σ : St) (H : Hp) (s : Shared) (e : Value) (s' : Shared), Inv X pins σ H s → CX X.stack H s (E σ) e s' → X.xe e s'
section
variable {X : Cx} {CX : CXT} {k : Nat} {f C : Addr} {fd : FuncData} {ps : List Str} {sp : Sp} {dvs : List V} {ds : List Value} {E : St → XK} {x m : Str} {p pos apos : Pos} {e o : Expr} {es : List Expr} {ta : TE} {t : TA}
theorem xf4 {pins : List (Addr × Obj)} {σ : St} {H : Hp} {s : Shared} {Q : VK} {us : List Value} {vs : List V} (F : FnOk q0 X.prog X.w X.K X.mg X.base CX k f fd ps sp) (hr : Room q0 k X.A) (hb : xal X.K fd ps ds) (hd : Vals dvs ds) (hx : xcg CX X E)
    (I : Inv X pins σ H s) (r : Vals vs us) (h : sp (vs ++ dvs) H Q (E σ)) : wpAny (model X.prog X.w) X.A (call (.ref f) us) (EP X pins σ Q) X.xe s := by
  have r2 : Vals (vs ++ dvs) (us ++ ds) := r.append hd
  have hl : (us ++ ds).length = ps.length := by rw [← r2.length]; exact F.len _ _ _ _ h
  refine wpAny_call (codeAny_mono (F.run X.A X.stack s H ⟨us, []⟩ (us ++ ds) (vs ++ dvs) Q (E σ) hr I.env0 (hb s us I.kIn hl) r2 h) fun r s' hq => ?_)
  cases r with
  | error e => exact hx pins σ H s e s' I hq
  | ok fl =>
    cases fl with
    | ret u => exact I.after hq
    | next => exact False.elim hq
    | brk => exact False.elim hq
    | cont => exact False.elim hq
theorem x5 (F : FnOk q0 X.prog X.w X.K X.mg X.base CX k f fd ps sp) (hr : Room q0 k X.A) (hg : Gl X x) (hm : X.mg x = some (.ref f)) (hk : PySem.W.keepIn X.K (.ref f) = true) (hb : xal X.K fd ps ds) (hd : Vals dvs ds) (hx : xcg CX X E)
    (ha : PA X (e :: es) t) (hdb : (x == ("__debug__" : Str)) = false := by decide) (he : starEach (e :: es) X.env = (false, eval e X.env) :: starEach es X.env := by rfl) (hpl : (backTo pos (starEach es X.env)).any (·.1) = false := by rfl) :
    PE X (.Call (.Name x p) (e :: es) [] pos) (xnc sp dvs E t) := by
  intro pins s σ H Q I h
  refine wpAny_Call_Name_kw (xcr I hg hm ?_ hdb)
  refine PySem.W.callWith_K (h₀ := X.base) I.ok.mod.kin hk (thn (ha pos pins s σ H _ I h) fun us s1 ⟨vs, H1, I1, r, q⟩ => ⟨I1.kIn, ?_⟩) he hpl
  exact xf4 F hr hb hd hx I1 r q
theorem xbv {pl : Sem Bool} (he : PE X o ta) (c : Cls X.K C) (hm : Meth X.K C m f) (F : FnOk q0 X.prog X.w X.K X.mg X.base CX k f fd ps sp) (hr : Room q0 k X.A) (hb : xal X.K fd ps ds) (hd : Vals dvs ds) (hx : xcg CX X E) (ha : PA X (e :: es) t)
    (hst : starEach (e :: es) X.env = (false, eval e X.env) :: starEach es X.env := by rfl) (hpl : (backTo pos (starEach es X.env)).any (·.1) = false := by rfl)
    (ht : eval (.Call (.Attribute o m apos) (e :: es) [] pos) X.env = (do
      let ov ← eval o X.env
      standAt apos.atName
      let (f, first) ← holding [ov] (getMethod ov m pl)
      callWith pos f first (backTo pos (starEach (e :: es) X.env)) (backToKw pos (keywordEach [] X.env))) := by rfl) :
    PE X (.Call (.Attribute o m apos) (e :: es) [] pos) (xkj C m sp dvs E ta t) := by
  intro pins s σ H Q I h
  refine PySem.W.methodCall_KW (pl := pl) (thn (he pins s σ H _ I h) fun u s1 ⟨x, H1, I1, rx, a, dx, fs, ex, ea, l, q⟩ => ?_) ht
  subst ex
  obtain rfl : u = Value.ref a := rx
  refine xel I1 ea c hm l ?_
  refine PySem.W.callWith_K (first := [.ref a]) (h₀ := X.base) I.ok.mod.kin hm.kp (thn (ha pos pins s1 σ H1 _ I1 q) fun us s2 ⟨vs, H2, I2, r, q2⟩ => ⟨I2.kIn, ?_⟩) hst hpl
  exact xf4 (us := .ref a :: us) (vs := .ref a :: vs) F hr hb hd hx I2 (.cons rfl r) q2
theorem xct {pl : Sem Bool} (he : PE X o ta) (c : Cls X.K C) (hm : Meth X.K C m f) (F : FnOk q0 X.prog X.w X.K X.mg X.base CX k f fd ps sp) (hr : Room q0 k X.A) (hb : xal X.K fd ps ds) (hd : Vals dvs ds) (hx : xcg CX X E)
    (ht : eval (.Call (.Attribute o m apos) [] [] pos) X.env = (do
      let ov ← eval o X.env
      standAt apos.atName
      let (f, first) ← holding [ov] (getMethod ov m pl)
      callWith pos f first (backTo pos (starEach [] X.env)) (backToKw pos (keywordEach [] X.env))) := by rfl) :
    PE X (.Call (.Attribute o m apos) [] [] pos) (xkj C m sp dvs E ta tNil) := by
  intro pins s σ H Q I h
  refine PySem.W.methodCall_KW (pl := pl) (thn (he pins s σ H _ I h) fun u s1 ⟨x, H1, I1, rx, a, dx, fs, ex, ea, l, q⟩ => ?_) ht
  subst ex
  obtain rfl : u = Value.ref a := rx
  refine xel I1 ea c hm l ?_
  exact PySem.W.callWith_K0 (first := [.ref a]) I1.kIn hm.kp (xf4 (us := [.ref a]) (vs := [.ref a]) F hr hb hd hx I1 (.cons rfl .nil) q)
structure Mk (K : PySem.W.Frag) (C f : Addr) : Prop where
  makes : PySem.W.makesIn K C = true
  init : PySem.W.findIn K (.ref C) "__init__" = some (some (.ref f))
  fn : PySem.W.isFn K (.ref f) = true
  kp : PySem.W.keepIn K (.ref C) = true
theorem xj7 {pins : List (Addr × Obj)} {σ : St} {H : Hp} {s : Shared} {Q : VK} {us : List Value} {vs : List V} (M : Mk X.K C f) (F : FnOk q0 X.prog X.w X.K X.mg X.base CX k f fd ps sp) (hr : Room q0 (k + 1) X.A) (hb : xal X.K fd ps ds) (hd : Vals dvs ds)
    (hx : xcg CX X E) (I : Inv X pins σ H s) (r : Vals vs us)
    (h : ∀ x dx, H x = none → H dx = none → dx ≠ x → sp (.ref x :: (vs ++ dvs)) (upd (upd H dx (.own x)) x (.ins C dx [])) (fun v H2 => v = .non ∧ Q (.ref x) H2) (E σ)) :
    wpAny (model X.prog X.w) X.A (call (.ref C) us) (EP X pins σ Q) X.xe s := by
  have hq := h (s.heap.objs.size + 1) s.heap.objs.size (I.hok.fresh (Nat.le_succ _)) (I.hok.fresh (Nat.le_refl _)) (Nat.ne_of_lt (Nat.lt_succ_self _))
  have I2 := Inv.made (C := C) I
  have r2 : Vals (V.ref (s.heap.objs.size + 1) :: (vs ++ dvs)) (Value.ref (s.heap.objs.size + 1) :: (us ++ ds)) := .cons rfl (r.append hd)
  have hl : (Value.ref (s.heap.objs.size + 1) :: us ++ ds).length = ps.length := by
    have e := r2.length
    rw [F.len _ _ _ _ hq] at e
    exact e.symm
  refine wpAny_call (xjv (f := f) I.kIn M.makes M.init (beq_iff_eq.mp M.fn) (codeAny_mono (F.run _ X.stack _ _ ⟨Value.ref (s.heap.objs.size + 1) :: us, []⟩ (Value.ref (s.heap.objs.size + 1) :: (us ++ ds)) _ _ (E σ) (hr.make C us [])
    (I2.env0.make C us []) (hb _ (Value.ref (s.heap.objs.size + 1) :: us) I2.kIn hl) r2 hq) fun r s' hq' => ?_))
  cases r with
  | error e => exact hx pins σ _ _ e s' I2 hq'
  | ok fl =>
    cases fl with
    | ret u =>
      obtain ⟨v, H', I3, rv, ev, q3⟩ := I2.after hq'
      subst ev
      exact ⟨rv, ⟨V.ref (s.heap.objs.size + 1), H', I3, rfl, q3⟩⟩
    | next => exact False.elim hq'
    | brk => exact False.elim hq'
    | cont => exact False.elim hq'
theorem xgw (M : Mk X.K C f) (F : FnOk q0 X.prog X.w X.K X.mg X.base CX k f fd ps sp) (hr : Room q0 (k + 1) X.A) (hg : Gl X x) (hm : X.mg x = some (.ref C)) (hb : xal X.K fd ps ds) (hd : Vals dvs ds) (hx : xcg CX X E)
    (ha : PA X (e :: es) t) (hdb : (x == ("__debug__" : Str)) = false := by decide) (he : starEach (e :: es) X.env = (false, eval e X.env) :: starEach es X.env := by rfl) (hpl : (backTo pos (starEach es X.env)).any (·.1) = false := by rfl) :
    PE X (.Call (.Name x p) (e :: es) [] pos) (xmn C sp dvs E t) := by
  intro pins s σ H Q I h
  refine wpAny_Call_Name_kw (xcr I hg hm ?_ hdb)
  refine PySem.W.callWith_K (h₀ := X.base) I.ok.mod.kin M.kp (thn (ha pos pins s σ H _ I h) fun us s1 ⟨vs, H1, I1, r, q⟩ => ⟨I1.kIn, ?_⟩) he hpl
  exact xj7 M F hr hb hd hx I1 r q
end
section
variable {X : Cx} {CX : CXT} {k : Nat} {f C : Addr} {fd : FuncData} {ps ks : List Str} {sp : Sp} {E : St → XK} {x m : Str} {p pos apos kpos : Pos} {e o : Expr} {es : List Expr} {kws : List Keyword} {te ta : TE} {t tk : TA} {nm : Option Str}
variable {g : List Value → List Value → List Value} {gV : List V → List V → List V}
end
structure xag (N P : List Str) (sc : Scope) : Prop where
  kind : sc.kind = .function
  co : sc.isCoroutine = false
  gen : sc.isGenerator = false
  nd : N.Nodup
  pre : N.take P.length = P
  par : ∀ x ∈ P, sc.names.lookup x = some .local ∨ sc.names.lookup x = some .cell
  nofree : ∀ y ∈ sc.names, y.2 ≠ .free
theorem xe6 {kindOf : Str → Option NameKind} {x : Str} : ∀ {binds : List (Str × Value)} {m : Str → Option Value}, (∀ v, (x, v) ∉ binds) → bindL kindOf binds m x = m x
  | [], _, _ => rfl
  | (n, v) :: r, m, h => by
    unfold bindL
    rw [xe6 fun w hw => h w (List.mem_cons_of_mem _ hw)]
    split
    · have : x ≠ n := by rintro rfl; exact h v List.mem_cons_self
      simp [this]
    · rfl
theorem xfd {kindOf : Str → Option NameKind} {x : Str} : ∀ {binds : List (Str × Value)} {m : Str → Option Value}, (∀ v, (x, v) ∉ binds) → bindC kindOf binds m x = m x
  | [], _, _ => rfl
  | (n, v) :: r, m, h => by
    unfold bindC
    rw [xfd fun w hw => h w (List.mem_cons_of_mem _ hw)]
    split
    · rfl
    · have : x ≠ n := by rintro rfl; exact h v List.mem_cons_self
      simp [this]
theorem xe5 {kindOf : Str → Option NameKind} {x : Str} {v : Value} : ∀ {P : List Str} {vs : List Value} {i : Nat} {m : Str → Option Value}, P.Nodup → P[i]? = some x → vs[i]? = some v → kindOf x = some .local →
    bindL kindOf (P.zip vs) m x = some v
  | [], _, _, _, _, h, _, _ => by simp at h
  | _ :: _, [], _, _, _, _, h, _ => by simp at h
  | p :: P, w :: vs, 0, m, nd, h1, h2, hk => by
    simp at h1 h2; subst h1; subst h2
    show bindL kindOf ((p, w) :: P.zip vs) m p = _
    unfold bindL
    rw [xe6 fun v hv => (List.nodup_cons.mp nd).1 (List.of_mem_zip hv).1, if_pos hk]
    simp
  | p :: P, w :: vs, i + 1, m, nd, h1, h2, hk => by
    show bindL kindOf ((p, w) :: P.zip vs) m x = _
    unfold bindL
    exact xe5 (i := i) (List.nodup_cons.mp nd).2 (by simpa using h1) (by simpa using h2) hk
theorem xfe {kindOf : Str → Option NameKind} {x : Str} {v : Value} : ∀ {P : List Str} {vs : List Value} {i : Nat} {m : Str → Option Value}, P.Nodup → P[i]? = some x → vs[i]? = some v → kindOf x ≠ some .local →
    bindC kindOf (P.zip vs) m x = some v
  | [], _, _, _, _, h, _, _ => by simp at h
  | _ :: _, [], _, _, _, _, h, _ => by simp at h
  | p :: P, w :: vs, 0, m, nd, h1, h2, hk => by
    simp at h1 h2; subst h1; subst h2
    show bindC kindOf ((p, w) :: P.zip vs) m p = _
    unfold bindC
    rw [xfd fun v hv => (List.nodup_cons.mp nd).1 (List.of_mem_zip hv).1, if_neg hk]
    simp
  | p :: P, w :: vs, i + 1, m, nd, h1, h2, hk => by
    show bindC kindOf ((p, w) :: P.zip vs) m x = _
    unfold bindC
    exact xfe (i := i) (List.nodup_cons.mp nd).2 (by simpa using h1) (by simpa using h2) hk
def xbx (N : List Str) (vs : List V) : St := vs.map some ++ List.replicate (N.length - vs.length) none
def cxOf (q0 : Bool) (CX : CXT) (P : Program) (w : World) (K : PySem.W.Frag) (mg : Str → Option Value) (base : Heap) (N : List Str) (qual : Str) (scope : Scope) (f : Addr) (cd : Value) (A : Around) (outer : List Env) (s : Shared) (H : Hp) (E : XK) : Cx where
  prog := P
  w := w
  K := K
  mg := mg
  base := base
  A := A.deeper (envOfC qual scope s.heap.objs.size f cd)
  N := N
  s₀ := s
  H₀ := H
  env := envOfC qual scope s.heap.objs.size f cd
  outer := outer
  stack := envOfC qual scope s.heap.objs.size f cd :: outer
  ex := []
  calm := q0
  fn := fun _ => true
  pn := []
  xe := fun e s' => wpAny (model P w) (A.deeper (envOfC qual scope s.heap.objs.size f cd)) (leaving (envOfC qual scope s.heap.objs.size f cd) e) (fun _ s'' => CX outer H s E e s'') (fun e' s'' => CX outer H s E e' s'') s'
theorem xf8 {sc : Scope} {n : Nat} {x : Str} (h : sc.names.lookup x = some .cell) : ∃ c, (cellsFrom n sc.names []).lookup x = some c := by
  have q := PySem.W.cellsFrom_some sc.names n [] (.inl h)
  exact Option.isSome_iff_exists.mp q
theorem xiy {CX : CXT} {P : Program} {w : World} {K : PySem.W.Frag} {mg : Str → Option Value} {base : Heap} {N ps : List Str} {qual : Str} {scope : Scope} {f : Addr} {cd : Value} {A : Around} {outer : List Env} {s s1 : Shared} {H : Hp} {E : XK} {us : List Value} {vs : List V}
    (S : xag N ps scope) (hd : q0 = true → A.handled = none) (e0 : Env0 P w K mg base A outer s H) (hl : vs.length = ps.length) (r : Vals vs us)
    (x : InCallC s s.heap.objs.size (bindL (envOfC qual scope s.heap.objs.size f cd).kindOf (ps.zip us) fun _ => none) (cellsFrom (s.heap.objs.size + 1) scope.names []) (bindC (envOfC qual scope s.heap.objs.size f cd).kindOf (ps.zip us) fun _ => none) s1) :
    Inv (cxOf q0 CX P w K mg base N qual scope f cd A outer s H E) [] (xbx N vs) H s1 := by
  have hpl : ps.length ≤ N.length := by have := congrArg List.length S.pre; rw [List.length_take] at this; omega
  obtain ⟨h1, tk, rfl, hk⟩ := x.done
  have noA : ∀ b : Addr, b ∉ (cxOf q0 CX P w K mg base N qual scope f cd A outer s H E).ex := fun b z => absurd (show b ∈ ([] : List Addr) from z) (by simp)
  refine ⟨⟨e0.mod, S.kind, rfl, rfl, Nat.le_refl _, fun y z c h1 h2 => ?_, fun y hy => ?_, fun y c _ h => ?_, hd, Around.frames_deeper e0.frames, .inr ⟨rfl, rfl⟩, fun b z => absurd z (noA b), e0.bs, e0.bsz, fun b _ _ => noA b, fun b z => absurd z (noA b), e0.funs, e0.frf⟩,
    rfl, e0.bare, Un.kept hk, ⟨_, x.toInCall.ns, fun i y v h1 h2 h3 => ?_⟩, fun y c h => ⟨_, x.cell y c h⟩, e0.hok.fresh (Nat.le_refl _), fun y c h => ?_, fun p hp => absurd (show p ∈ ([] : List (Addr × Obj)) from hp) (by simp), e0.hok.kept hk, ?_⟩
  · exact name_of_addr x.apart (PySem.mem_of_lookup h1) (PySem.mem_of_lookup h2)
  · have hy : scope.names.lookup y = some .cell ∨ scope.names.lookup y = some .free := hy
    rcases hy with hy | hy
    · exact xf8 hy
    · exact absurd rfl (S.nofree _ (PySem.mem_of_lookup hy))
  · exact Nat.le_of_lt (x.above y c (PySem.mem_of_lookup h))
  · have hi : i < vs.length := by
      unfold xbx at h2
      by_cases hi : i < vs.length
      · exact hi
      · rw [List.getElem?_append_right (by simpa using hi)] at h2
        rw [List.getElem?_replicate] at h2
        split at h2 <;> cases h2
    have ha : vs[i]? = some v := by
      unfold xbx at h2
      rw [List.getElem?_append_left (by simpa using hi), List.getElem?_map] at h2
      cases e : vs[i]? with
      | none => rw [e] at h2; cases h2
      | some a => rw [e] at h2; cases h2; rfl
    obtain ⟨u, hu, rv⟩ := r.get ha
    have hp : ps[i]? = some y := by
      rw [← S.pre, List.getElem?_take_of_lt (by omega)]; exact h1
    have ndP : ps.Nodup := by rw [← S.pre]; exact S.nd.sublist (List.take_sublist _ _)
    refine ⟨u, rv, ?_⟩
    rcases S.par y (List.mem_of_getElem? hp) with k | k
    · exact .inl ⟨k, xe5 ndP hp hu k⟩
    · obtain ⟨c, e⟩ := xf8 (n := s.heap.objs.size + 1) k
      refine .inr ⟨.inl k, c, e, ?_⟩
      have q := x.cell y c e
      rw [xfe ndP hp hu (by show scope.names.lookup y ≠ _; rw [k]; decide)] at q
      exact q
  · exact e0.hok.fresh (Nat.le_of_lt (x.above y c (PySem.mem_of_lookup h)))
  · unfold xbx
    show _ = N.length
    rw [List.length_append, List.length_map, List.length_replicate]
    omega
theorem xes {CX : CXT} {P : Program} {w : World} {K : PySem.W.Frag} {mg : Str → Option Value} {base : Heap} {k : Nat} {f : Addr} {name qual : Str} {params : Arguments} {body : List Stmt} {scope : Scope} {dV kV doc pm cdv ct oc : Value} {an od : Option Addr}
    {osl : Array (Option Value)} {N ps : List Str} {sp : Sp} (lk : K.lookup f = some ⟨oc, od, .func (PySem.W.fnOf name qual params body scope dV kV doc pm an cdv ct), osl⟩) (hcd : PySem.W.codeIn K cdv qual = true) (S : xag N ps scope)
    (len : ∀ vs H Q E, sp vs H Q E → vs.length = ps.length)
    (hbody : ∀ (A : Around) (outer : List Env) (s : Shared) (H : Hp) (vs : List V) (Q : VK) (E : XK), Room q0 k (A.deeper (envOfC qual scope s.heap.objs.size f cdv)) → sp vs H Q E →
      ∃ t, PSs (cxOf q0 CX P w K mg base N qual scope f cdv A outer s H E) body t ∧ t { nx := fun _ H' => Q .non H', rt := Q } (xbx N vs) H) :
    FnOk q0 P w K mg base CX (k + 1) f (PySem.W.fnOf name qual params body scope dV kV doc pm an cdv ct) ps sp := by
  refine ⟨len, fun A outer s H args us vs Q E hr e0 hb r hsp => ?_⟩
  have hl := len _ _ _ _ hsp
  have KX : K.In s.heap := e0.mod.kin.keeps fun b o e => (e0.bs b o e).1
  have lim : s.heap.NoLimit := e0.mod.nolimit.keeps fun b o e => (e0.bs b o e).1
  have hkind : ∀ y ∈ ps.zip us, scope.names.lookup y.1 = some .local ∨ (scope.names.lookup y.1 = some .cell ∧ ((cellsFrom (s.heap.objs.size + 1) scope.names []).lookup y.1).isSome = true) := fun ⟨n, v⟩ hy => by
    rcases S.par n (List.of_mem_zip hy).1 with q | q
    · exact .inl q
    · exact .inr ⟨q, PySem.W.cellsFrom_some _ _ _ (.inl q)⟩
  refine codeAny_call_function hr.depth (KX _ _ lk) rfl S.co S.gen rfl (PySem.W.codeRec_of KX hcd) (hb _ _ _ _ ?_)
  refine wpAny_newFunctionEnv_cells S.kind hkind fun env he s1 x => ?_
  subst he
  refine ⟨lim.keeps x.toInCall.keep, codeAny_func ?_⟩
  obtain ⟨t, ht, hq⟩ := hbody A outer s H vs Q E (hr.deeper _) hsp
  have I : Inv (cxOf q0 CX P w K mg base N qual scope f cdv A outer s H E) [] (xbx N vs) H s1 := xiy S hr.hd e0 hl r x
  refine wpAny_mono (ht [] s1 (xbx N vs) H _ I hq) (fun fl s' hs => ?_) fun e s' hs => hs
  have fin : ∀ {σ' : St} {H' : Hp} {v : V} {u : Value}, Inv (cxOf q0 CX P w K mg base N qual scope f cdv A outer s H E) [] σ' H' s' → RelV v u → Q v H' → CE outer P w H s Q u s' :=
    fun {σ' H' v u} J rv q => ⟨v, H', J.os, J.bare, J.base, J.hok, rv, q⟩
  cases fl with
  | ret u =>
    obtain ⟨v, σ', H', J, rv, q⟩ := hs
    exact fin J rv q
  | next =>
    obtain ⟨σ', H', J, q⟩ := hs
    exact fin (v := V.non) (u := Value.none) J rfl q
  | brk =>
    obtain ⟨_, _, _, q⟩ := hs
    exact False.elim q
  | cont =>
    obtain ⟨_, _, _, q⟩ := hs
    exact False.elim q
end L2
namespace L2
open PySem PySem.Spec PyProof.Rows
variable {q0 : Bool}
section
variable {X : Cx} {x : Str} {p pos : Pos} {e : Expr} {es : List Expr} {t : TA} {id T : String} {r : List V → Hp → VK → Prop}
def tCB (r : List V → Hp → VK → Prop) (t : TA) : TE := fun σ H Q => t σ H fun vs H1 => r vs H1 Q
theorem xx (hc : xb7 X (.builtin id) r) (hg : Gl X x) (hm : X.mg x = none) (hv : bootBuiltins x = some (.builtin id)) (ha : PA X (e :: es) t) (hn : x ≠ "__name__" := by decide) (hdb : (x == ("__debug__" : Str)) = false := by decide)
    (he : starEach (e :: es) X.env = (false, eval e X.env) :: starEach es X.env := by rfl) (hpl : (backTo pos (starEach es X.env)).any (·.1) = false := by rfl) : PE X (.Call (.Name x p) (e :: es) [] pos) (tCB r t) := by
  intro pins s σ H Q I h
  refine wpAny_Call_Name_kw (xdn I hg hm hv ?_ hn hdb)
  exact PyProof.Rows.callWith_builtin1 (thn (ha pos pins s σ H _ I h) fun us s1 ⟨vs, H1, I1, r1, q1⟩ => hc pins s1 σ H1 vs us Q I1 r1 q1) he hpl
theorem xfb (hc : xb7 X (.type T) r) (hg : Gl X x) (hm : X.mg x = none) (hv : bootBuiltins x = some (.type T)) (ha : PA X (e :: es) t) (hn : x ≠ "__name__" := by decide) (hdb : (x == ("__debug__" : Str)) = false := by decide)
    (he : starEach (e :: es) X.env = (false, eval e X.env) :: starEach es X.env := by rfl) (hpl : (backTo pos (starEach es X.env)).any (·.1) = false := by rfl) : PE X (.Call (.Name x p) (e :: es) [] pos) (tCB r t) := by
  intro pins s σ H Q I h
  refine wpAny_Call_Name_kw (xdn I hg hm hv ?_ hn hdb)
  exact PyProof.Rows.callWith_type1 (thn (ha pos pins s σ H _ I h) fun us s1 ⟨vs, H1, I1, r1, q1⟩ => hc pins s1 σ H1 vs us Q I1 r1 q1) he hpl
end
end L2
namespace HT
open PySem PyProof.Rows
section
open PySem.SeqAt
open PySem.AutoSeq1 (wpAny_loadPart')
open PySem.MeetsSeq PySem.MeetsSeq2 PySem.MeetsSeq3
end
section
variable {prog : Program} {w : World} {A : Around} {E : Value → Shared → Prop} {s : Shared}
theorem cat_tup {t b : Addr} {vs ws : List Value} {Q : Value → Shared → Prop} (ht : IsTup s.heap t vs.toArray) (hb : IsTup s.heap b ws.toArray) (hv : vs ≠ [])
    (h1 : ws = [] → Q (.ref t) s) (h2 : ws ≠ [] → Q (.ref s.heap.objs.size) { s with heap := s.heap.push { cls := .type "tuple", data := .seq (vs ++ ws).toArray } })
    (hsz : vs.length + ws.length ≤ sizeLine) : wpAny (model prog w) A (binaryOp .Add (.ref t) (.ref b)) Q E s := by
  obtain ⟨⟨cls, dd, data, sl⟩, ho, hc, n, hd⟩ := id ht
  obtain ⟨⟨cls2, dd2, data2, sl2⟩, ho2, hc2, n2, hd2⟩ := id hb
  simp only at hc hd hc2 hd2
  subst hc hd hc2 hd2
  have e : vs.toArray ++ ws.toArray = (vs ++ ws).toArray := by simp
  by_cases hw : ws = []
  · exact concat_meets ⟨_, ho, rfl⟩ ⟨_, ho2, rfl⟩ noFill_tuple_add seq_tuple_add PySem.F.slot_tuple_add PySem.F.entry_tuple_add (PySem.F.args_tuple_add_2 _ _)
      (tuple_addW1 t b vs.toArray ws.toArray n n2 dd dd2 sl sl2 (by simpa using hv) (by simp [hw])) ⟨ho, ho2, h1 hw⟩
  · refine concat_meets ⟨_, ho, rfl⟩ ⟨_, ho2, rfl⟩ noFill_tuple_add seq_tuple_add PySem.F.slot_tuple_add PySem.F.entry_tuple_add (PySem.F.args_tuple_add_2 _ _)
      (tuple_addW2 t b vs.toArray ws.toArray n n2 dd dd2 sl sl2 (by simpa using hv) (by simpa using hw) (by rw [List.size_toArray, List.size_toArray]; exact hsz)) ⟨ho, ho2, ?_⟩
    rw [e]
    exact h2 hw
end
end HT
namespace L2
open PySem PySem.Spec PyProof.Rows
variable {q0 : Bool}
abbrev TO := St → Hp → (Option Int → Hp → Prop) → Prop
section
variable {X : Cx} {e : Expr} {te : TE} {lo hi : Option Expr} {tl th : TO} {pos p2 : Pos}
def xh3 (K : PySem.W.Frag) : R2 := fun x y H Q => ∃ a b xs ys, x = .ref a ∧ y = .ref b ∧ SqT K H a xs ∧ SqT K H b ys ∧ xs ≠ [] ∧ xs.length + ys.length ≤ sizeLine ∧
  (ys = [] → Q (.ref a) H) ∧ (ys ≠ [] → ∀ p, H p = none → Q (.ref p) (upd H p (.tup (xs ++ ys))))
theorem Vals.nil_iff {xs : List V} {us : List Value} (r : Vals xs us) : us = [] ↔ xs = [] := by
  cases r with
  | nil => simp
  | cons _ _ => simp
theorem xey : OpR X (binaryOp .Add) (xh3 X.K) := by
  intro pins s σ H x y v u Q I rx ry h
  obtain ⟨a, b, xs, ys, rfl, rfl, ha, hb, hx, hz, q1, q2⟩ := h
  cases rx
  cases ry
  obtain ⟨its, r1, p1, _⟩ := I.tuple ha
  obtain ⟨its2, r2, p2, _⟩ := I.tuple hb
  refine HT.cat_tup p1 p2 (fun z => hx (r1.nil_iff.mp z)) (fun z => ⟨.ref a, H, I, rfl, q1 (r2.nil_iff.mp z)⟩) (fun z => ?_) (by rw [← r1.length, ← r2.length]; exact hz)
  refine ⟨.ref s.heap.objs.size, _, I.laid (t' := s.toks) (o := .tup (xs ++ ys)) (fun b ob q => Heap.get?_push_of_some _ q) (Nat.le_refl _) ?_, rfl, q2 (fun w => z (r2.nil_iff.mpr w)) _ (I.hok.fresh (Nat.le_refl _))⟩
  exact ⟨by rw [List.length_append]; exact hz, _, r1.append r2, IsTup.new _ _⟩
end
end L2
namespace L2
open PySem PySem.Spec PyProof.Rows
variable {q0 : Bool}
def ixN (n : Nat) (i : Int) : Option Nat := if 0 ≤ i then (if i < n then some i.toNat else none) else if -(n : Int) ≤ i then some (i + n).toNat else none
def atI {α : Type} (xs : List α) (i : Int) : Option α := (ixN xs.length i).bind fun j => xs[j]?
theorem xhg {n : Nat} {i : Int} {j : Nat} (h : ixN n i = some j) : seqIndex? i n = some j ∧ j < n ∧ -(n : Int) ≤ i ∧ i < n := by
  unfold ixN at h
  by_cases h0 : 0 ≤ i
  · rw [if_pos h0] at h
    by_cases h1 : i < n
    · rw [if_pos h1] at h
      have e : i.toNat = j := Option.some.inj h
      exact ⟨by rw [seqIndex_of h0 h1, e], by omega, by omega, h1⟩
    · rw [if_neg h1] at h; cases h
  · rw [if_neg h0] at h
    by_cases h1 : -(n : Int) ≤ i
    · rw [if_pos h1] at h
      have e : (i + n).toNat = j := Option.some.inj h
      exact ⟨by rw [seqIndex_neg (by omega) h1, e], by omega, h1, by omega⟩
    · rw [if_neg h1] at h; cases h
theorem xew {α : Type} {xs : List α} {i : Int} {v : α} (h : atI xs i = some v) : ∃ j, seqIndex? i xs.length = some j ∧ xs[j]? = some v ∧ j < xs.length ∧ -(xs.length : Int) ≤ i ∧ i < xs.length := by
  unfold atI at h
  cases e : ixN xs.length i with
  | none => rw [e] at h; cases h
  | some j =>
    rw [e] at h
    obtain ⟨h1, h2, h3, h4⟩ := xhg e
    exact ⟨j, h1, h, h2, h3, h4⟩
theorem xdz {α : Type} {xs : List α} {j : Nat} {v : α} (h : xs[j]? = some v) : atI xs (j : Int) = some v := by
  have hj : j < xs.length := (List.getElem?_eq_some_iff.mp h).1
  have e : ixN xs.length (j : Int) = some j := by
    unfold ixN
    rw [if_pos (by omega), if_pos (by omega)]; simp
  unfold atI; rw [e]; exact h
def xlj (b : Expr) : Prop := ∀ o i, subscripted b false o i = operate [o, i] (getItem o i)
def IxR (X : Cx) (r : R2) : Prop :=
  ∀ (value slice : Expr) (pins : List (Addr × Obj)) (s : Shared) (σ : St) (H : Hp) (x y : V) (v u : Value) (Q : VK), Inv X pins σ H s → RelV x v → RelV y u → r x y H Q →
    subscripted slice false v u = operate [v, u] (getItem v u) → wpAny (model X.prog X.w) X.A (subscriptTail value slice v u) (EP X pins σ Q) X.xe s
def MtR (X : Cx) (id : String) (r : V → List V → Hp → VK → Prop) : Prop :=
  ∀ (pins : List (Addr × Obj)) (s : Shared) (σ : St) (H : Hp) (x : V) (xs : List V) (v : Value) (us : List Value) (Q : VK), Inv X pins σ H s → RelV x v → Vals xs us → r x xs H Q →
    wpAny (model X.prog X.w) X.A (call (.builtin id) (v :: us)) (EP X pins σ Q) X.xe s
section
variable {X : Cx} {a b : Expr} {ta tb : TE} {pos : Pos}
theorem xt {r : R2} (hr : IxR X r) (ha : PE X a ta) (hb : PE X b tb) (hs : xlj b) : PE X (.Subscript a b pos) (tOp r ta tb) := by
  intro pins s σ H Q I h
  exact Subscript_ (binT ha hb I h fun v u s2 x y H2 I2 rx ry q => hr a b pins s2 σ H2 x y v u Q I2 rx ry q (hs _ _))
def rIxL (K : PySem.W.Frag) : R2 := fun x y H Q => ∃ p xs i v, x = .ref p ∧ y = .int i ∧ SqL K H p xs ∧ atI xs i = some v ∧ Q v H
def rIxT (K : PySem.W.Frag) : R2 := fun x y H Q => ∃ p xs i v, x = .ref p ∧ y = .int i ∧ SqT K H p xs ∧ atI xs i = some v ∧ Q v H
def rIxS : R2 := fun x y H Q => ∃ z i c, x = .str z ∧ y = .int i ∧ z.length ≤ sizeLine ∧ atI z.cps.toList i = some c ∧ Q (.str ⟨#[c]⟩) H
theorem xv : IxR X (rIxL X.K) := by
  intro value slice pins s σ H x y v u Q I rx ry h hs
  obtain ⟨p, xs, i, z, rfl, rfl, hq, he, q⟩ := h
  cases rx
  obtain ⟨t, rfl⟩ := ry
  obtain ⟨its, r, pl, hz⟩ := I.list hq
  obtain ⟨j, h1, h2, h3, h4, h5⟩ := xew he
  obtain ⟨w, ew, rw'⟩ := r.get h2
  have hl := r.length
  have hn := xda
  have fin : EP X pins σ Q w s := ⟨z, H, I, rw', q⟩
  by_cases h0 : 0 ≤ i
  · have hj : i.toNat = j := by
      rw [seqIndex_of h0 h5] at h1
      exact Option.some.inj h1
    exact item_listR pl.isList h0 (by omega) (by rw [hj]; simpa using ew) fin hs
  · have hj : (i + (its.toArray.size : Int)).toNat = j := by
      rw [seqIndex_neg (by omega) h4] at h1
      rw [List.size_toArray, ← hl]
      exact Option.some.inj h1
    exact subscriptTail_builtinR (x := w) pl.isList.typeIs slot_list_getitem.lookup
      (wpAny_getItem_list_neg (Q := fun r s' => r = w ∧ EP X pins σ Q r s') pl.isList (by omega) (by rw [List.size_toArray] <;> omega) (by omega) (by rw [hj]; simpa using ew) ⟨rfl, fin⟩) hs
theorem xay : IxR X (rIxT X.K) := by
  intro value slice pins s σ H x y v u Q I rx ry h hs
  obtain ⟨p, xs, i, z, rfl, rfl, hq, he, q⟩ := h
  cases rx
  obtain ⟨t, rfl⟩ := ry
  obtain ⟨its, r, pl, hz⟩ := I.tuple hq
  obtain ⟨j, h1, h2, h3, h4, h5⟩ := xew he
  obtain ⟨w, ew, rw'⟩ := r.get h2
  have hl := r.length
  have hn := xda
  have fin : EP X pins σ Q w s := ⟨z, H, I, rw', q⟩
  exact subscriptTail_builtinR (x := w) pl.typeIs slot_tuple_getitem.lookup
    (getItem_tuple (j := j) (Q := fun r s' => r = w ∧ EP X pins σ Q r s') pl (by omega) (by omega) (by rw [List.size_toArray, ← hl]; exact h1) (by simpa using ew) ⟨rfl, fin⟩) hs
theorem xjb : IxR X rIxS := by
  intro value slice pins s σ H x y v u Q I rx ry h hs
  obtain ⟨z, i, c, rfl, rfl, hz, he, q⟩ := h
  obtain ⟨t, rfl⟩ := rx
  obtain ⟨t', rfl⟩ := ry
  obtain ⟨j, h1, h2, h3, h4, h5⟩ := xew he
  have hl : z.cps.toList.length = z.length := by simp [Str.length]
  rw [hl] at h1 h4 h5
  have hn := xda
  exact tail_any (typeIs_str s z t) slot_str_getitem.lookup (getItem_str (c := c) (by
    have e1 : decide (i < -(2 ^ 63 : Int)) = false := decide_eq_false (by omega)
    have e2 : decide (i ≥ 2 ^ 63) = false := decide_eq_false (by omega)
    rw [e1, e2, Bool.or_false]) (by rw [h1]; simpa using h2) ⟨.str ⟨#[c]⟩, H, I.tok _, ⟨_, rfl⟩, q⟩) hs
theorem xhn (its : List Value) (n j : Nat) (u : Value) : Obj.mapSeq (·.setIfInBounds j u) { cls := .type "list", data := .seq its.toArray n } = { cls := .type "list", data := .seq (its.set j u).toArray n } := by
  simp [Obj.mapSeq]
theorem Inv.lst {pins : List (Addr × Obj)} {σ : St} {H : Hp} {s : Shared} {p : Addr} {xs : List V} (I : Inv X pins σ H s) (h : H p = some (.lst xs)) :
    ∃ (its : List Value) (n : Nat), Vals xs its ∧ s.heap.get? p = some { cls := .type "list", data := .seq its.toArray n } ∧ xs.length ≤ sizeLine := by
  obtain ⟨z, its, n, r, e⟩ := I.hok p _ h
  exact ⟨its, n, r, e, z⟩
theorem Inv.lstUpd {pins : List (Addr × Obj)} {σ : St} {H : Hp} {s : Shared} {p : Addr} {xs ys : List V} {its its' : List Value} {n n' : Nat} {f : Obj → Obj} (I : Inv X pins σ H s) (h : H p = some (.lst xs))
    (ho : s.heap.get? p = some { cls := .type "list", data := .seq its.toArray n }) (hf : f { cls := .type "list", data := .seq its.toArray n } = { cls := .type "list", data := .seq its'.toArray n' }) (r : Vals ys its') (hz : ys.length ≤ sizeLine) (t : Nat) :
    Inv X pins σ (upd H p (.lst ys)) { s with heap := s.heap.update p f, toks := t } := by
  have e : (s.heap.update p f).get? p = some { cls := .type "list", data := .seq its'.toArray n' } := by
    rw [Heap.get?_update_self f ho (by rw [hf] <;> rfl), hf]
  refine I.write (x := p) (e := p) (by rw [h]; trivial) (.inl rfl) (fun b u hb q => (Heap.get?_update_other _ _ (Ne.symm hb)).trans q) ⟨_, e⟩ ?_
  exact ⟨hz, its', n', r, e⟩
def xna : V → V → V → Hp → (Hp → Prop) → Prop := fun o i v H Q => ∃ p xs k j, o = .ref p ∧ i = .int k ∧ H p = some (.lst xs) ∧ ixN xs.length k = some j ∧ Q (upd H p (.lst (xs.set j v)))
theorem xbn : PSet X xna := by
  intro pins s σ H o i v ov iv u Q I ro ri rv h
  obtain ⟨p, xs, k, j, rfl, rfl, hp, hj, q⟩ := h
  cases ro
  obtain ⟨t, rfl⟩ := ri
  obtain ⟨its, n, r, ho, hz⟩ := I.lst hp
  obtain ⟨h1, h2, h3, h4⟩ := xhg hj
  have hl := r.length
  have hn := xda
  have I' : Inv X pins σ (upd H p (.lst (xs.set j v))) { s with heap := s.heap.update p (Obj.mapSeq (·.setIfInBounds j u)) } :=
    I.lstUpd hp ho (xhn its n j u) (r.set rv j) (by rw [List.length_set]; exact hz) s.toks
  by_cases h0 : 0 ≤ k
  · have hk : k.toNat = j := by
      rw [seqIndex_of h0 h4] at h1
      exact Option.some.inj h1
    exact PySem.W.ki_setAt ho h0 (by omega) (by rw [List.size_toArray, ← hl]; exact h4) (by rw [hk]; exact ⟨_, I', q⟩)
  · have hk : (k + (its.toArray.size : Int)).toNat = j := by
      rw [seqIndex_neg (by omega) h3] at h1
      rw [List.size_toArray, ← hl]
      exact Option.some.inj h1
    exact PySem.W.ki_setBack ho (by omega) (by rw [List.size_toArray, ← hl]; exact h3) (by omega) (by rw [hk]; exact ⟨_, I', q⟩)
theorem xga : OpR X (compareOp .NotIn) (fun x y H Q => ∃ i j, x = .str i ∧ y = .str j ∧ Q (.bl (!(!(Builtin.Str.occurrences j i 0 j.length 1).isEmpty))) H) := by
  intro pins s σ H x y v u Q I rx ry h
  obtain ⟨i, j, rfl, rfl, q⟩ := h
  obtain ⟨t, rfl⟩ := rx
  obtain ⟨t', rfl⟩ := ry
  exact notIn_str ⟨.bl _, H, I, rfl, q⟩
theorem xb8 : xb7 X (.builtin "len") (fun xs H Q => ∃ p ys, xs = [.ref p] ∧ (SqL X.K H p ys ∨ SqT X.K H p ys) ∧ Q (.int ys.length) H) := by
  intro pins s σ H xs us Q I r h
  obtain ⟨p, ys, rfl, hq, q⟩ := h
  obtain ⟨u, rfl, rx⟩ := xdu r
  cases rx
  have hn := xda
  rcases hq with hq | hq
  · obtain ⟨its, r', pl, hz⟩ := I.list hq
    have hlen := r'.length
    exact Calls.call_len_list pl.isList (by simp only [List.size_toArray] <;> omega) ⟨.int ys.length, H, I.tok _, ⟨s.toks + 1, by rw [List.size_toArray, hlen]⟩, q⟩
  · obtain ⟨its, r', pl, hz⟩ := I.tuple hq
    have hlen := r'.length
    exact len_tuple pl (by simp only [List.size_toArray] <;> omega) ⟨.int ys.length, H, I.tok _, ⟨s.toks + 1, by rw [List.size_toArray, hlen]⟩, q⟩
theorem xcw : xb7 X (.builtin "len") (fun xs H Q => ∃ z, xs = [.str z] ∧ z.length ≤ sizeLine ∧ Q (.int z.length) H) := by
  intro pins s σ H xs us Q I r h
  obtain ⟨z, rfl, hz, q⟩ := h
  obtain ⟨u, rfl, t, rfl⟩ := xdu r
  have hn := xda
  exact len_str (by omega) ⟨.int z.length, H, I.tok _, ⟨_, rfl⟩, q⟩
theorem xgm : xb7 X (.type "list") (fun xs H Q => ∃ p ys, xs = [.ref p] ∧ (SqL X.K H p ys ∨ SqT X.K H p ys) ∧ ∀ l, H l = none → Q (.ref l) (upd H l (.lst ys))) := by
  intro pins s σ H xs us Q I r h
  obtain ⟨p, ys, rfl, hq, q⟩ := h
  obtain ⟨u, rfl, rx⟩ := xdu r
  cases rx
  have fin : ∀ (its : List Value), Vals ys its → ys.length ≤ sizeLine → ∀ (h' : Heap) (c' : Nat), (∀ b o', s.heap.get? b = some o' → h'.get? b = some o') →
      h'.get? s.heap.objs.size = some { cls := .type "list", dict := none, data := .seq its.toArray c', slots := #[] } → EP X pins σ Q (.ref s.heap.objs.size) { s with heap := h' } := fun its r' hz h' c' kp e =>
    ⟨.ref s.heap.objs.size, _, I.laid (t' := s.toks) kp (Nat.le_refl _) (show xav X.prog X.w _ h' _ (.lst ys) from ⟨hz, its, c', r', e⟩), rfl, q _ (I.hok.fresh (Nat.le_refl _))⟩
  rcases hq with hq | hq
  · obtain ⟨its, r', pl, hz⟩ := I.list hq
    have hlen := r'.length
    obtain ⟨o, ho, hc, n, hd⟩ := pl.isList
    exact call_list_seq p (.inl rfl) ho hc hd (fun h' c' kp e => fin its r' hz h' c' kp e) (by simp only [List.size_toArray] <;> omega)
  · obtain ⟨its, r', pl, hz⟩ := I.tuple hq
    have hlen := r'.length
    obtain ⟨o, ho, hc, n, hd⟩ := pl
    exact call_list_seq p (.inr rfl) ho hc hd (fun h' c' kp e => fin its r' hz h' c' kp e) (by simp only [List.size_toArray] <;> omega)
theorem xfk : xb7 X (.type "tuple") (fun xs H Q => ∃ p ys, xs = [.ref p] ∧ ((SqL X.K H p ys ∧ ∀ l, H l = none → Q (.ref l) (upd H l (.tup ys))) ∨ (SqT X.K H p ys ∧ Q (.ref p) H))) := by
  intro pins s σ H xs us Q I r h
  obtain ⟨p, ys, rfl, h⟩ := h
  obtain ⟨u, rfl, rx⟩ := xdu r
  cases rx
  rcases h with ⟨hq, q⟩ | ⟨hq, q⟩
  · obtain ⟨its, r', pl, hz⟩ := I.list hq
    have hlen := r'.length
    refine call_tuple_list pl.isList (fun h' kp => ?_) (by simp only [List.size_toArray] <;> omega)
    have I1 : Inv X pins σ H { s with heap := h' } := I.kept (t' := s.toks) kp
    have I2 : Inv X pins σ (upd H h'.objs.size (.tup ys)) { s with heap := h'.push { cls := .type "tuple", data := .seq its.toArray } } :=
      I1.laid (t' := s.toks) (fun b o e => Heap.get?_push_of_some _ e) (Nat.le_refl _) (show xav X.prog X.w _ _ _ (.tup ys) from ⟨hz, its, r', IsTup.new _ _⟩)
    exact ⟨.ref h'.objs.size, _, I2, rfl, q _ (I1.hok.fresh (Nat.le_refl _))⟩
  · obtain ⟨its, r', pl, hz⟩ := I.tuple hq
    exact call_tuple_same pl ⟨.ref p, H, I, rfl, q⟩
def tyV (K : PySem.W.Frag) (T : String) (x : V) (H : Hp) : Prop := match x with
  | .str _ => T = "str"
  | .int _ => T = "int"
  | .ref p => (T = "list" ∧ ∃ xs, SqL K H p xs) ∨ (T = "tuple" ∧ ∃ o, K.lookup p = some o ∧ o.cls = .type "tuple" ∧ o.dict = none) ∨
      (T = "dict" ∧ ((∃ kvs, H p = some (.dK kvs)) ∨ ∃ kvs, H p = some (.dT kvs))) ∨ (T = "set" ∧ ∃ S n, H p = some (.set S n))
  | _ => False
theorem xmh {pins : List (Addr × Obj)} {σ : St} {H : Hp} {s : Shared} {T : String} {x : V} {v : Value} (I : Inv X pins σ H s) (r : RelV x v) (ty : tyV X.K T x H) :
    s.TypeIs v T ∧ ∀ a, v = .ref a → ∃ ob, s.heap.get? a = some ob ∧ ob.dict = none := by
  cases x with
  | str z =>
    obtain ⟨t, rfl⟩ := r
    cases (show T = "str" from ty)
    exact ⟨typeIs_str s z t, fun _ e => nomatch e⟩
  | int i =>
    obtain ⟨t, rfl⟩ := r
    cases (show T = "int" from ty)
    exact ⟨typeIs_int s i t, fun _ e => nomatch e⟩
  | ref p =>
    cases r
    rcases ty with ⟨rfl, xs, hq⟩ | ⟨rfl, o, hk, hc, hd⟩ | ⟨rfl, hk⟩ | ⟨rfl, S, n, hk⟩
    · obtain ⟨its, _, pl, _⟩ := I.list hq
      refine ⟨pl.isList.typeIs, fun a e => ?_⟩
      cases e
      obtain ⟨o, n, e, c, hd, _⟩ := pl
      exact ⟨o, e, hd⟩
    · refine ⟨⟨o, I.kIn p o hk, hc⟩, fun a e => ?_⟩
      cases e
      exact ⟨o, I.kIn _ o hk, hd⟩
    · have z : ∃ o, s.heap.get? p = some o ∧ o.ExactDict := by
        rcases hk with ⟨kvs, hk⟩ | ⟨kvs, hk⟩
        · obtain ⟨_, _, _, _, o, _, _, e, ex, _⟩ := I.hok p _ hk
          exact ⟨o, e, ex⟩
        · obtain ⟨_, _, _, _, o, _, _, e, ex, _⟩ := I.hok p _ hk
          exact ⟨o, e, ex⟩
      obtain ⟨o, e, ex⟩ := z
      refine ⟨⟨o, e, ex.1⟩, fun a e2 => ?_⟩
      cases e2
      exact ⟨o, e, ex.2.1⟩
    · obtain ⟨o, _, _, _, e, ex, _⟩ := I.hok p _ hk
      refine ⟨⟨o, e, ex.1⟩, fun a e2 => ?_⟩
      cases e2
      exact ⟨o, e, ex.2.1⟩
  | _ => exact False.elim ty
def tBM (K : PySem.W.Frag) (T : String) (r : V → List V → Hp → VK → Prop) (to : TE) (t : TA) : TE := fun σ H Q => to σ H fun x H1 => tyV K T x H1 ∧ t σ H1 fun xs H2 => r x xs H2 Q
variable {o e : Expr} {es : List Expr} {to : TE} {t : TA} {name : Str} {apos cpos : Pos} {T id : String} {r : V → List V → Hp → VK → Prop}
theorem xfo (pa : PlainAttrs T) (slot : Slot T name id) (hty : typeOf (.builtin id) = pure (.type "method_descriptor")) (hm : MtR X id r) (ho : PE X o to) (ha : PA X (e :: es) t)
    (hbase : attributeBase o name X.env (eval o X.env) = eval o X.env := by rfl)
    (hfew : ((backTo cpos (starEach (e :: es) X.env)).all (fun x => !x.1) && (backToKw cpos (keywordEach [] X.env)).all (fun x => x.1.isSome)
      && decide ((e :: es).length + ([] : List Keyword).length + (if ([] : List Keyword).isEmpty then 0 else 1) < 30)) = true := by rfl)
    (hline : (apos.endLine == cpos.line) = true := by rfl) (hs : starEach (e :: es) X.env = (false, eval e X.env) :: starEach es X.env := by rfl) (hplain : (backTo cpos (starEach es X.env)).any (·.1) = false := by rfl) :
    PE X (.Call (.Attribute o name apos) (e :: es) [] cpos) (tBM X.K T r to t) := by
  intro pins s σ H Q I h
  refine wpAny_Call_method_late hbase hfew hline rfl (thn (ho pins s σ H _ I h) fun v s1 ⟨x, H1, I1, r1, ty, q1⟩ => ?_)
  obtain ⟨h1, h2⟩ := xmh I1 r1 ty
  refine ⟨T, id, pa, slot, hty, h1, h2, ?_⟩
  have hA := ha cpos pins s1 σ H1 _ I1 q1
  rw [hs] at hA ⊢
  refine Calls.callWith_builtin (by show (false || (backTo cpos (starEach es X.env)).any (·.1)) = false; rw [hplain] <;> rfl) (Calls.evalArgs_plain ?_)
  exact thn hA fun us s2 ⟨vs, H2, I2, r2, q2⟩ => hm pins s2 σ H2 x vs v us Q I2 r1 r2 q2
end
end L2
namespace L2
open PySem PySem.Spec PyProof.Rows
variable {q0 : Bool}
def MtM (X : Cx) (id : String) (r : V → List V → Hp → VK → Prop) : Prop :=
  ∀ (pins : List (Addr × Obj)) (s : Shared) (σ : St) (H : Hp) (x : V) (xs : List V) (v : Value) (us : List Value) (Q : VK), Inv X pins σ H s → RelV x v → Vals xs us → r x xs H Q →
    wpAny (model X.prog X.w) X.A (call (.builtin id) (v :: us)) (EP X pins σ Q) X.xe s
theorem Vals.one : ∀ {x : V} {us : List Value}, Vals [x] us → ∃ u, us = [u] ∧ RelV x u
  | _, _, .cons r .nil => ⟨_, rfl, r⟩
section
variable {X : Cx} {pins : List (Addr × Obj)} {σ : St} {H : Hp} {s : Shared} {l b : Addr} {xs ys zs : List V}
theorem Inv.lset {its its' : List Value} {n : Nat} {f : Array Value → Array Value} {t' : Nat} (I : Inv X pins σ H s) (hH : H l = some (.lst xs))
    (e : s.heap.get? l = some { cls := .type "list", data := .seq its.toArray n }) (hf : f its.toArray = its'.toArray) (hv : Vals ys its') (hz : ys.length ≤ sizeLine) :
    Inv X pins σ (upd H l (.lst ys)) { s with heap := s.heap.update l (Obj.mapSeq f), toks := t' } := by
  have q := PySem.IsL.update e f
  rw [hf] at q
  refine I.write (x := l) (e := l) (by rw [hH]; exact trivial) (.inl rfl) (fun b' u hb hu => (Heap.get?_update_other s.heap (Obj.mapSeq f) (Ne.symm hb)).trans hu) ⟨_, q⟩ ?_
  exact ⟨hz, its', _, hv, q⟩
theorem Inv.lnew {its : List Value} {t' : Nat} (I : Inv X pins σ H s) (hv : Vals ys its) (hz : ys.length ≤ sizeLine) :
    Inv X pins σ (upd H s.heap.objs.size (.lst ys)) { s with heap := s.heap.push { cls := .type "list", data := .seq its.toArray }, toks := t' } :=
  I.laid (fun _ _ q => Heap.get?_push_of_some _ q) (Nat.le_refl _) ⟨hz, its, 0, hv, Heap.get?_push_size _ rfl⟩
theorem Inv.fresh (I : Inv X pins σ H s) : H s.heap.objs.size = none := I.hok.fresh (Nat.le_refl _)
theorem Inv.lstM (I : Inv X pins σ H s) (hH : H l = some (.lst xs)) : xs.length ≤ sizeLine ∧ ∃ (its : List Value) (n : Nat), Vals xs its ∧ xs.length = its.length ∧ s.heap.get? l = some { cls := .type "list", data := .seq its.toArray n } := by
  obtain ⟨z, its, n, r, e⟩ := I.hok l _ hH
  exact ⟨z, its, n, r, r.length, e⟩
end
section
variable {X : Cx}
def xk1 : V → List V → Hp → VK → Prop := fun x vs H Q => ∃ l xs y, x = .ref l ∧ vs = [y] ∧ H l = some (.lst xs) ∧ xs.length < sizeLine ∧ Q .non (upd H l (.lst (xs ++ [y])))
theorem xci : MtM X "list.append" xk1 := by
  intro pins s σ H x vs v us Q I rx rv h
  obtain ⟨l, xs, y, rfl, rfl, hH, hz, q⟩ := h
  cases rx
  obtain ⟨u, rfl, ru⟩ := rv.one
  obtain ⟨z, its, n, r, hl, e⟩ := I.lstM hH
  refine call_meets F.slot_list_append ⟨_, e, rfl⟩ F.entry_list_append (F.args_list_append_2 _ _) (PySem.list_append l its.toArray n u (by rw [List.size_toArray]; omega)) ⟨e, ?_⟩
  refine ⟨.non, _, I.lset (its' := its ++ [u]) hH e (by simp) (r.append (.cons ru .nil)) ?_, rfl, q⟩
  rw [List.length_append, List.length_singleton]
  omega
def rCat : R2 := fun x y H Q => ∃ l b xs zs, x = .ref l ∧ y = .ref b ∧ H l = some (.lst xs) ∧ H b = some (.lst zs) ∧ xs.length + zs.length ≤ sizeLine ∧ ∀ p, H p = none → Q (.ref p) (upd H p (.lst (xs ++ zs)))
theorem xa6 : OpR X (binaryOp .Add) rCat := by
  intro pins s σ H x y v u Q I rx ry h
  obtain ⟨l, b, xs, zs, rfl, rfl, hH, hB, hz, q⟩ := h
  cases rx
  cases ry
  obtain ⟨z, its, n, r, hl, e⟩ := I.lstM hH
  obtain ⟨z2, its2, n2, r2, hl2, e2⟩ := I.lstM hB
  refine PySem.P.add_list e e2 ?_ (by rw [List.size_toArray, List.size_toArray]; omega)
  have ea : its.toArray ++ its2.toArray = (its ++ its2).toArray := by simp
  rw [ea]
  exact ⟨.ref _, _, I.lnew (t' := s.toks) (r.append r2) (by rw [List.length_append]; omega), rfl, q _ I.fresh⟩
end
section
variable {prog : Program} {w : World} {A : Around} {E : Value → Shared → Prop} {s : Shared}
end
section
variable {X : Cx}
end
end L2
namespace L2
open PySem PySem.Spec PyProof.Rows
variable {q0 : Bool}
section
variable {κ : Type} [DecidableEq κ]
def valV (kvs : List (κ × V)) (k : κ) : Option V := (kvs.find? fun kv => decide (kv.1 = k)).map (·.2)
def putK (kvs : List (κ × V)) (k : κ) (v : V) : List (κ × V) :=
  if (kvs.any fun kv => decide (kv.1 = k)) = true then kvs.map (fun kv => if kv.1 = k then (kv.1, v) else kv) else kvs ++ [(k, v)]
theorem xdf {p : κ × V} {r : List (κ × V)} {k : κ} (e : p.1 = k) : valV (p :: r) k = some p.2 := by simp [valV, List.find?_cons, e]
theorem xbb {p : κ × V} {r : List (κ × V)} {k : κ} (e : ¬ p.1 = k) : valV (p :: r) k = valV r k := by simp [valV, List.find?_cons, e]
theorem xea (k : κ) : ∀ kvs : List (κ × V), (kvs.any fun kv => decide (kv.1 = k)) = (valV kvs k).isSome
  | [] => rfl
  | p :: r => by
    rw [List.any_cons]
    by_cases e : p.1 = k
    · simp only [xdf e, decide_eq_true e, Bool.true_or, Option.isSome_some]
    · rw [xbb e, decide_eq_false e, Bool.false_or]; exact xea k r
theorem xd5 (kvs : List (κ × V)) (k : κ) (v : V) : (putK kvs k v).length ≤ kvs.length + 1 := by
  unfold putK
  split
  · rw [List.length_map]; omega
  · rw [List.length_append, List.length_cons, List.length_nil]; omega
theorem xdj {kvs : List (κ × V)} {k : κ} (v : V) (h : valV kvs k = none) : putK kvs k v = kvs ++ [(k, v)] := by
  unfold putK
  rw [xea, h]
  exact if_neg (by decide)
theorem RelO.isSome_eq {o : Option V} {u : Option Value} (r : RelO o u) : o.isSome = u.isSome := by
  cases o with
  | none => cases u with
    | none => rfl
    | some _ => exact (show False from r).elim
  | some _ => cases u with
    | none => exact (show False from r).elim
    | some _ => rfl
theorem KV.val {kvs : List (κ × V)} {vs : List (κ × Value)} (r : KV kvs vs) (k : κ) : RelO (valV kvs k) (valueAt vs k) := by
  unfold KV at r
  induction r with
  | nil => exact True.intro
  | @cons p q ps qs h t ih =>
    obtain ⟨h1, h2⟩ := h
    by_cases e : p.1 = k
    · have e' : q.1 = k := h1.symm.trans e
      have b : valueAt (q :: qs) k = some q.2 := by simp [valueAt, List.find?_cons, e']
      rw [xdf e, b]; exact h2
    · have e' : ¬ q.1 = k := fun z => e (h1.trans z)
      have b : valueAt (q :: qs) k = valueAt qs k := by simp [valueAt, List.find?_cons, e']
      rw [xbb e, b]; exact ih
theorem KV.any {kvs : List (κ × V)} {vs : List (κ × Value)} (r : KV kvs vs) (k : κ) : (kvs.any fun kv => decide (kv.1 = k)) = vs.any fun kv => decide (kv.1 = k) := by
  unfold KV at r
  induction r with
  | nil => rfl
  | cons h t ih => rw [List.any_cons, List.any_cons, ih, h.1]
theorem KV.repl {kvs : List (κ × V)} {vs : List (κ × Value)} (r : KV kvs vs) (k : κ) {y : V} {u : Value} (ry : RelV y u) :
    KV (kvs.map fun kv => if kv.1 = k then (kv.1, y) else kv) (vs.map fun kv => if kv.1 = k then (kv.1, u) else kv) := by
  unfold KV at r ⊢
  induction r with
  | nil => exact .nil
  | @cons p q ps qs h t ih =>
    rw [List.map_cons, List.map_cons]
    refine .cons ?_ ih
    obtain ⟨h1, h2⟩ := h
    by_cases e : p.1 = k
    · rw [if_pos e, if_pos (h1.symm.trans e)]; exact ⟨h1, ry⟩
    · rw [if_neg e, if_neg (fun z => e (h1.trans z))]; exact ⟨h1, h2⟩
theorem KV.put {kvs : List (κ × V)} {vs : List (κ × Value)} (r : KV kvs vs) (k : κ) {y : V} {u : Value} (ry : RelV y u) : KV (putK kvs k y) (stored vs k u) := by
  unfold putK stored
  rw [r.any k]
  by_cases e : (vs.any fun kv => decide (kv.1 = k)) = true
  · rw [if_pos e, if_pos e]; exact r.repl k ry
  · rw [if_neg e, if_neg e]; exact Paired.snoc r ⟨rfl, ry⟩
theorem KV.keys {kvs : List (κ × V)} {vs : List (κ × Value)} (r : KV kvs vs) : kvs.map (·.1) = vs.map (·.1) := by
  unfold KV at r
  induction r with
  | nil => rfl
  | cons h t ih => rw [List.map_cons, List.map_cons, ih, h.1]
theorem KV.length {kvs : List (κ × V)} {vs : List (κ × Value)} (r : KV kvs vs) : kvs.length = vs.length := Paired.length r
end
theorem xd1 {P : Program} {w : World} {k : Key} {u : Value} (r : RelV (kV k) u) : (xax P w).is k u = true := by
  cases k with
  | inl i => obtain ⟨t, e⟩ := (show ∃ t, u = Value.int i t from r); subst e; exact xgt P w i t
  | inr x => obtain ⟨t, e⟩ := (show ∃ t, u = Value.str x t from r); subst e; exact xgr P w x t
theorem xfh {P : Program} {w : World} : ∀ {ks : List Key} {us : List Value}, Vals (ks.map kV) us → ItemsAre (xax P w) ks us
  | [], _, r => by rw [List.map_nil] at r; cases r; exact .nil
  | k :: ks, _, r => by
    rw [List.map_cons] at r
    cases r with
    | cons h t => exact .cons (xd1 h) (xfh t)
abbrev KT (H : Hp) : List (List Key × V) → List (List Key × Addr × Value) → Prop := Paired fun p q => p.1 = q.1 ∧ H q.2.1 = some (.tup (p.1.map kV)) ∧ RelV p.2 q.2.2
theorem KT.val {H : Hp} {kvs : List (List Key × V)} {xs : List (List Key × Addr × Value)} (r : KT H kvs xs) (k : List Key) : RelO (valV kvs k) ((atKey xs k).map (·.2)) := by
  induction r with
  | nil => exact True.intro
  | @cons p q ps qs h t ih =>
    obtain ⟨h1, _, h2⟩ := h
    by_cases e : p.1 = k
    · have e' : q.1 = k := h1.symm.trans e
      have b : atKey (q :: qs) k = some q.2 := by simp [atKey, List.find?_cons, e']
      rw [xdf e, b]; exact h2
    · have e' : ¬ q.1 = k := fun z => e (h1.trans z)
      have b : atKey (q :: qs) k = atKey qs k := by simp [atKey, List.find?_cons, e']
      rw [xbb e, b]; exact ih
theorem KT.repl {H : Hp} {kvs : List (List Key × V)} {xs : List (List Key × Addr × Value)} (r : KT H kvs xs) (k : List Key) {y : V} {u : Value} (ry : RelV y u) :
    KT H (kvs.map fun kv => if kv.1 = k then (kv.1, y) else kv) (xs.map (putAt k u)) := by
  induction r with
  | nil => exact .nil
  | @cons p q ps qs h t ih =>
    rw [List.map_cons, List.map_cons]
    refine .cons ?_ ih
    obtain ⟨h1, h2, h3⟩ := h
    unfold putAt
    by_cases e : p.1 = k
    · rw [if_pos e, if_pos (h1.symm.trans e)]; exact ⟨h1, h2, ry⟩
    · rw [if_neg e, if_neg (fun z => e (h1.trans z))]; exact ⟨h1, h2, h3⟩
theorem KT.put {H : Hp} {kvs : List (List Key × V)} {xs : List (List Key × Addr × Value)} (r : KT H kvs xs) (k : List Key) {b : Addr} {y : V} {u : Value} (hb : H b = some (.tup (k.map kV))) (ry : RelV y u) :
    KT H (putK kvs k y) (storedH xs k b u) := by
  have e : (kvs.any fun kv => decide (kv.1 = k)) = (atKey xs k).isSome := by
    rw [xea, (r.val k).isSome_eq, Option.isSome_map]
  unfold putK storedH
  rw [e]
  by_cases q : (atKey xs k).isSome = true
  · rw [if_pos q, if_pos q]; exact r.repl k ry
  · rw [if_neg q, if_neg q]; exact Paired.snoc r ⟨rfl, hb, ry⟩
theorem KT.keeps {H H' : Hp} {kvs : List (List Key × V)} {xs : List (List Key × Addr × Value)} (r : KT H kvs xs) (ht : ∀ b ys, H b = some (.tup ys) → H' b = some (.tup ys)) : KT H' kvs xs :=
  Paired.mapP r fun _ _ z => ⟨z.1, ht _ _ z.2.1, z.2.2⟩
section
variable {P : Program} {w : World} {H : Hp} {h : Heap} {a : Addr}
theorem xke {u : HO} (ok : HOk P w H h) (e : Rd H a u) : xav P w H h a u := e.ok ok
theorem xhq {kvs : List (Key × V)} (ok : HOk P w H h) (e : Rd H a (.dK kvs)) : kvs.length ≤ sizeLine ∧ (a == sysModules) = false ∧ ∃ vs, KV kvs vs ∧ h.DictOf (xax P w) a vs :=
  show xav P w H h a (.dK kvs) from xke ok e
theorem xkf {kvs : List (Key × V)} (ok : HOk P w H h) (e : H a = some (.dK kvs)) : kvs.length ≤ sizeLine ∧ (a == sysModules) = false ∧ ∃ vs, KV kvs vs ∧ h.DictOf (xax P w) a vs := xhq ok (.inl e)
theorem xgc {ks : List Key} (ok : HOk P w H h) (e : H a = some (.tup (ks.map kV))) : (tupleKind (xax P w)).is h ks a := by
  obtain ⟨_, its, r, o, h1, h2, n, h3⟩ := (show xav P w H h a (.tup (ks.map kV)) from ok a _ e)
  exact ⟨o, its.toArray, n, h1, h2, h3, by simpa using xfh r⟩
theorem xkq {kvs : List (List Key × V)} (ok : HOk P w H h) (e : Rd H a (.dT kvs)) : kvs.length ≤ sizeLine ∧ (a == sysModules) = false ∧
    ∃ xs, KT H kvs xs ∧ h.DictOfH (tupleKind (xax P w)) a xs := by
  obtain ⟨z, y, xs, r, o, es, ep, h1, h2, h3, h4, h5⟩ := (show xav P w H h a (.dT kvs) from xke ok e)
  refine ⟨z, y, xs, r, o, es, ep, h1, h2, h3, h4, fun x hx => ?_, h5⟩
  have all : ∀ {l : List (List Key × V)} {m : List (List Key × Addr × Value)}, KT H l m → ∀ x ∈ m, (tupleKind (xax P w)).is h x.1 x.2.1 := by
    intro l m q
    induction q with
    | nil => intro x hx; exact nomatch hx
    | @cons p q ps qs hq t ih =>
      intro x hx
      rcases List.mem_cons.mp hx with e | hx
      · subst e
        exact xgc ok (by rw [← hq.1]; exact hq.2.1)
      · exact ih x hx
  exact all r x hx
theorem xkg {kvs : List (List Key × V)} (ok : HOk P w H h) (e : H a = some (.dT kvs)) : kvs.length ≤ sizeLine ∧ (a == sysModules) = false ∧
    ∃ xs, KT H kvs xs ∧ h.DictOfH (tupleKind (xax P w)) a xs := xkq ok (.inl e)
end
def DGet (H : Hp) (a : Addr) (y : V) (r : Option V) : Prop :=
  (∃ kvs k, Rd H a (.dK kvs) ∧ y = kV k ∧ r = valV kvs k) ∨ ∃ kvs k b, Rd H a (.dT kvs) ∧ y = .ref b ∧ H b = some (.tup (k.map kV)) ∧ r = valV kvs k
def DPut (H : Hp) (a : Addr) (y v : V) (H' : Hp) : Prop :=
  (∃ kvs k, H a = some (.dK kvs) ∧ y = kV k ∧ kvs.length < sizeLine ∧ H' = upd H a (.dK (putK kvs k v))) ∨
  ∃ kvs k b, H a = some (.dT kvs) ∧ y = .ref b ∧ H b = some (.tup (k.map kV)) ∧ kvs.length < sizeLine ∧ H' = upd H a (.dT (putK kvs k v))
theorem DGet.k {H : Hp} {a : Addr} {kvs : List (Key × V)} {k : Key} (e : H a = some (.dK kvs)) : DGet H a (kV k) (valV kvs k) := .inl ⟨kvs, k, .inl e, rfl, rfl⟩
theorem DPut.k {H : Hp} {a : Addr} {kvs : List (Key × V)} {k : Key} {v : V} (e : H a = some (.dK kvs)) (hl : kvs.length < sizeLine) : DPut H a (kV k) v (upd H a (.dK (putK kvs k v))) := .inl ⟨kvs, k, e, rfl, hl, rfl⟩
section
variable {X : Cx} {pins : List (Addr × Obj)} {σ : St} {H : Hp} {s : Shared} {a : Addr} {y v : V} {u r : Value} {o : Option V} {A : Around} {E : Value → Shared → Prop}
theorem Inv.big (I : Inv X pins σ H s) : sysModules < s.heap.objs.size := by
  have h : mainGlobals < s.heap.objs.size := (I.mod.glob.keeps I.bk).lt
  exact Nat.lt_trans (by decide) h
theorem d_in {Q : Value → Shared → Prop} (hu : A.units + 1 < cLine) (I : Inv X pins σ H s) (g : DGet H a y o) (ry : RelV y u) (h : ∀ s', Inv X pins σ H s' → Q (.bool o.isSome) s') :
    wpAny (model X.prog X.w) A (compareOp .In u (.ref a)) Q E s := by
  rcases g with ⟨kvs, k, e, ey, l⟩ | ⟨kvs, k, b, e, ey, eb, l⟩
  · subst ey
    obtain ⟨z, hd, vs, rel, dd⟩ := xhq I.hok e
    refine wpAny_in_of (xd1 ry) hd dd.mapOf ?_
    rw [← (rel.val k).isSome_eq, ← l]
    exact h _ (I.tok _)
  · subst ey
    cases (show u = Value.ref b from ry)
    obtain ⟨z, hd, xs, rel, dd⟩ := xkq I.hok e
    refine wpAny_in_heap (tupleKind_room_in1 hu) (xgc I.hok eb) hd dd ?_
    have q := (rel.val k).isSome_eq
    rw [Option.isSome_map] at q
    rw [← q, ← l]
    exact h _ (I.tok _)
theorem xg9 {h' : Heap} {t' : Nat} {ob : HO} (I : Inv X pins σ H s) (mu : Mut (H a)) (hs : Heap.SameBut a s.heap h') (he : ∃ q, h'.get? a = some q) (new : xav X.prog X.w (upd H a ob) h' a ob) :
    Inv X pins σ (upd H a ob) { s with heap := h', toks := t' } :=
  I.write (x := a) (e := a) mu (.inl rfl) (fun b q hb z => (hs.2 b hb).trans z) he new
theorem xl0 {P : Program} {w : World} {H' : Hp} {h' : Heap} {kvs : List (Key × V)} {vs : List (Key × Value)} (z : kvs.length ≤ sizeLine) (hd : (a == sysModules) = false) (rel : KV kvs vs) (dd : h'.DictOf (xax P w) a vs) :
    xav P w H' h' a (.dK kvs) := ⟨z, hd, vs, rel, dd⟩
theorem xi9 {H' : Hp} {Q : Unit → Shared → Prop} (hu : A.units + 1 < cLine) (I : Inv X pins σ H s) (g : DPut H a y v H') (ry : RelV y u) (rv : RelV v r) (h : ∀ s', Inv X pins σ H' s' → Q () s') :
    wpAny (model X.prog X.w) A (setItem (.ref a) u r) Q E s := by
  rcases g with ⟨kvs, k, e, ey, l, eH⟩ | ⟨kvs, k, b, e, ey, eb, l, eH⟩
  · subst ey eH
    obtain ⟨z, hd, vs, rel, dd⟩ := xkf I.hok e
    have hz : vs.length ≤ sizeLine := by rw [← rel.length]; exact z
    have hl : (putK kvs k v).length ≤ sizeLine := by have := xd5 kvs k v; omega
    refine wpAny_setItem_pairs (hsz := hz) (xd1 ry) dd fun h' dd' hs => h _ ?_
    have he : ∃ q, h'.get? a = some q := let ⟨q, _, _, hq, _⟩ := dd'; ⟨q, hq⟩
    exact xg9 I (by rw [e]; exact True.intro) hs he (xl0 hl hd (rel.put k rv) dd')
  · subst ey eH
    cases (show u = Value.ref b from ry)
    obtain ⟨z, hd, xs, rel, dd⟩ := xkg I.hok e
    have hz : xs.length ≤ sizeLine := by rw [← Paired.length rel]; exact z
    have hl : (putK kvs k v).length ≤ sizeLine := by have := xd5 kvs k v; omega
    refine wpAny_setItem_heap (hsz := hz) (tupleKind_room_in1 hu) (xgc I.hok eb) dd fun h' dd' hs => h _ ?_
    obtain ⟨q, es, ep, hq, h2, h3, h4, _, h5⟩ := dd'
    refine xg9 I (by rw [e]; exact True.intro) hs ⟨q, hq⟩ ⟨hl, hd, _, (rel.put k eb rv).keeps fun c ys ec => ?_, q, es, ep, hq, h2, h3, h4, h5⟩
    rw [xh (xak ec e (fun z => nomatch z))]
    exact ec
end
section
variable {X : Cx} {pins : List (Addr × Obj)} {σ : St} {H : Hp} {s : Shared} {a : Addr} {kvs : List (Key × V)} {k : Key} {u : Value} {A : Around} {E : Value → Shared → Prop}
theorem xms {Q : Value → Shared → Prop} (I : Inv X pins σ H s) (e : Rd H a (.dK kvs)) (h : ∀ t s', Inv X pins σ H s' → Q (.int kvs.length t) s') : wpAny (model X.prog X.w) A (call (.builtin "len") [.ref a]) Q E s := by
  obtain ⟨z, hd, vs, rel, dd⟩ := xhq I.hok e
  refine call_len_dict hd dd (by rw [← rel.length]; rw [sizeLine_eq] at z; omega) ?_
  rw [← rel.length]
  exact h _ _ (I.tok _)
end
def tDIn (ty td : TE) : TE := fun σ H Q => ty σ H fun y H1 => td σ H1 fun x H2 => ∃ a o, x = .ref a ∧ DGet H2 a y o ∧ Q (.bl o.isSome) H2
def xmx (td ty tv : TE) : TS := fun D σ H => tv σ H fun v H1 => td σ H1 fun x H2 => ty σ H2 fun y H3 => ∃ a H4, x = .ref a ∧ DPut H3 a y v H4 ∧ D.nx σ H4
section
variable {X : Cx} {o i e value : Expr} {pos pos' tpos : Pos} {td ty tv : TE}
theorem xi8 (hu : X.A.units + 1 < cLine) (hi : PE X i ty) (ho : PE X o td) : PC X .In i o (tDIn ty td) := by
  intro pins s σ H Q I h
  refine thn (hi pins s σ H _ I h) fun iv s1 ⟨y, H1, I1, ry, q1⟩ => thn (ho pins s1 σ H1 _ I1 q1) fun u s2 ⟨x, H2, I2, rx, a, ov, ex, g, q2⟩ => ?_
  subst ex
  obtain rfl : u = Value.ref a := rx
  exact d_in hu I2 g ry fun s3 I3 => ⟨.bl ov.isSome, H2, I3, rfl, q2⟩
theorem xg3 (hu : X.A.units + 1 < cLine) (ho : PE X o td) (hi : PE X i ty) (hv : PE X value tv) (hs : swapsWith value (some (.Subscript o i pos')) pos.line X.env = pure false) :
    PS X (.Assign [.Subscript o i pos'] value pos) (xmx td ty tv) := by
  intro pins s σ H D I h
  refine wpAny_Assign_Subscript (thn (hv pins s σ H _ I h) fun r s1 ⟨v, H1, I1, rv, q1⟩ => thn (ho pins s1 σ H1 _ I1 q1) fun u s2 ⟨x, H2, I2, rx, q2⟩ => thn (hi pins s2 σ H2 _ I2 q2) fun iv s3 ⟨y, H3, I3, ry, a, H4, ex, g, q3⟩ => ?_) hs
  subst ex
  obtain rfl : u = Value.ref a := rx
  exact xi9 hu I3 g ry rv fun s4 I4 => ⟨σ, H4, I4, q3⟩
end
theorem xjr {P : Program} {w : World} {H : Hp} (h : Heap) (hb : sysModules < h.objs.size) : xav P w H (h.push { cls := .type "dict", data := .dict #[] }) h.objs.size (.dK []) :=
  ⟨Nat.zero_le _, beq_eq_false_iff_ne.mpr (Ne.symm (Nat.ne_of_lt hb)), [], .nil, Heap.DictOf.new h⟩
theorem xjq {P : Program} {w : World} {H : Hp} (h : Heap) (hb : sysModules < h.objs.size) : xav P w H (h.push { cls := .type "dict", data := .dict #[] }) h.objs.size (.dT []) :=
  ⟨Nat.zero_le _, beq_eq_false_iff_ne.mpr (Ne.symm (Nat.ne_of_lt hb)), [], .nil, _, #[], 0, Heap.get?_push_size _ rfl, ⟨rfl, rfl, rfl⟩, rfl, rfl, List.nodup_nil⟩
def xlw : TE := fun _ H Q => ∀ p, H p = none → Q (.ref p) (upd H p (.dK []))
def xl8 : TE := fun _ H Q => ∀ p, H p = none → Q (.ref p) (upd H p (.dT []))
section
variable {X : Cx} {pos : Pos}
theorem xf0 : PE X (.Dict [] [] pos) xlw := fun pins s σ H Q I h =>
  wpAny_Dict_empty ⟨.ref s.heap.objs.size, _, I.laid (a := s.heap.objs.size) (o := .dK []) (t' := s.toks) (fun _ _ q => Heap.get?_push_of_some _ q) (Nat.le_refl _) (xjr s.heap I.big), rfl, h _ (I.hok.fresh (Nat.le_refl _))⟩
theorem xgk : PE X (.Dict [] [] pos) xl8 := fun pins s σ H Q I h =>
  wpAny_Dict_empty ⟨.ref s.heap.objs.size, _, I.laid (a := s.heap.objs.size) (o := .dT []) (t' := s.toks) (fun _ _ q => Heap.get?_push_of_some _ q) (Nat.le_refl _) (xjq s.heap I.big), rfl, h _ (I.hok.fresh (Nat.le_refl _))⟩
end
section
variable {X : Cx} {pins : List (Addr × Obj)} {σ : St} {H : Hp} {s : Shared} {a : Addr} {y d : V} {u r : Value} {o : Option V} {A : Around} {E : Value → Shared → Prop}
end
section
variable {X : Cx} {o e f : Expr} {apos cpos : Pos} {td ty tx : TE}
end
section
variable {X : Cx} {pins : List (Addr × Obj)} {σ : St} {H : Hp} {s : Shared} {a : Addr} {kvs : List (Key × V)} {A : Around} {E : Value → Shared → Prop}
end
section
variable {X : Cx} {pins : List (Addr × Obj)} {σ : St} {H : Hp} {s : Shared} {a : Addr} {y : V} {u : Value} {A : Around} {E : Value → Shared → Prop}
end
end L2
namespace Att
open PySem PySem.W PySem.Calls PyProof.Rows
theorem xer {P : Params} {h : Heap} : ∀ (ns : List Int) (vs : List Value), WellAll P h vs (ns.map WData.int) → IntsAre vs ns := by
  intro ns
  induction ns with
  | nil =>
    intro vs w
    rw [List.map_nil] at w
    cases w
    exact .nil
  | cons n ns ih =>
    intro vs w
    rw [List.map_cons] at w
    cases w with
    | cons a b =>
      cases a
      exact .cons _ _ (ih _ b)
theorem xi7 {l : OpenLaw} {n : Nat} (hn : l.most = some n) {P : Params} {h : Heap} {args : List WData} {vals : List Value}
    (hpre : l.row.toRowW.claim.pre args = true) (hwl : WellAll P h vals args) :
    ∃ a vs ns, vals = [Value.ref a] ∧ args = [WData.list (ns.map WData.int)] ∧ h.get? a = some { cls := .type "list", data := .seq vs.toArray } ∧ IntsAre vs ns ∧ ns.length ≤ n := by
  have hsh : WShape.hasAll [] args [.list .int] = true := (pre_splitW hpre).1
  have hc : l.pre.holds [] { args := args } = true := (pre_splitW hpre).2
  obtain ⟨d, r, rfl, h1, h2⟩ := hasAllW_cons hsh
  obtain rfl := hasAllW_nil h2
  obtain ⟨xs, rfl, h3⟩ := hasW_list h1
  obtain ⟨ns, rfl⟩ := items_int h3
  have hlen : ns.length ≤ n := by
    unfold OpenLaw.pre at hc
    have h4 : (WTm.not (.lt (.lit (.int (n : Int))) (.len (.arg 0)))).holds [] { args := [.list (ns.map .int)] } = true := by
      have h4 := (holds_andW hc).1
      rw [hn] at h4
      exact h4
    have h5 := condW_of h4 (w_not (w_lt w_lit (w_len_list (w_arg rfl))))
    rw [List.length_map] at h5
    refine Nat.le_of_not_lt fun q => ?_
    have q' : (n : Int) < ((ns.length : Nat) : Int) := by omega
    first
      | (rw [decide_eq_true q'] at h5; exact absurd h5 (by decide))
      | (simp at h5; omega)
  cases hwl with
  | cons w1 w2 =>
    cases w2
    cases w1 with
    | list ho hall => exact ⟨_, _, ns, rfl, rfl, ho, xer ns _ hall, hlen⟩
theorem xik (l : OpenLaw) (args : List WData) : l.row.toRowW.claim.post args (.bool true) args = true :=
  postW_of (r := l.row.toRowW) (X := (true == true))
    (show WShape.has [] (.bool true) .bool = true by first | rfl | decide | simp [WShape.has, WShape.arms, WShape.armsAll])
    (show (WTm.eq .res (.lit (.bool true))).value [] { args := args, res := some (.bool true), after := args } = some (.bool (true == true)) from w_eq_bool (w_res rfl) w_lit) rfl
theorem attach_call {l : OpenLaw} {n : Nat} {q : Program} {loose : List Str} {XP : (Str → Option Value) → Heap → Prop} {YP : World → Heap → Prop} {d : DefRec}
    (hn : l.most = some n) (hdf : d.params.defaults = [])
    (call : ∀ (w : World) (s₀ s₁ : Shared) (mg mb : Str → Option Value) (fa : Addr) (o : Obj) (pm cd doc : Value) (a : Addr) (vs : List Value) (ns : List Int),
      Ground q loose [] XP w s₀ mg mb s₁.heap → YP w s₁.heap →
      s₁.heap.get? fa = some o → o.data = .func (docDef d.name d.params d.body d.scope pm cd doc) → s₁.heap.CodeRec cd d.name → mg d.name = some (.ref fa) →
      s₁.heap.get? a = some { cls := .type "list", data := .seq vs.toArray } → IntsAre vs ns → ns.length ≤ n → s₁.gens = #[] →
      codeAny (model l.prog w) callerA (.call (.ref fa) ⟨[.ref a], []⟩) (fun r s' => r = .ok (.ret (.bool true)) ∧ OldK s₁.heap s'.heap ∧ s'.os = s₁.os ∧ AllBare s'.gens) s₁) :
    WalkO q loose XP YP l.row.toRowW d [] (fun f vs => PySem.call f vs) := by
  intro w s₀ s₁ mg mb G Y fa o pm cd doc dV kV ho hd hcd hD hmg hg args vals as hpre hlay hrd hwl hlo
  obtain rfl : dV = .none := Dflts.none hD hdf
  obtain rfl : kV = .none := Dflts.noKw hD
  obtain ⟨a, vs, ns, rfl, rfl, hobj, hints, hlen⟩ := xi7 hn hpre hwl
  refine enter_call (codeAny_mono (call w s₀ s₁ mg mb fa o pm cd doc a vs ns G Y ho (fd_plain hd) hcd hmg hobj hints hlen hg) fun r s' hq => ?_)
  obtain ⟨rfl, h2, h3, h4⟩ := hq
  exact ⟨.inl ⟨.bool true, .bool true, [], rfl, fun _ => rfl, .bool true, xik l _, fun _ => ⟨List.Pairwise.nil, fun _ hm => (nomatch hm)⟩⟩, h2, h3, h4⟩
section
variable {prog : Program} {w : World} {A : Around} {E : Value → Shared → Prop} {s : Shared} {K : Frag}
def xnk (h : Heap) (L d : Addr) : List (Addr × Obj) := (List.range h.objs.size).filterMap fun a => if a = L ∨ a = d then none else (h.get? a).map fun o => (a, o)
end
end Att
namespace L2
open PySem PySem.Spec PyProof.Rows
variable {q0 : Bool}
theorem xfg : ∀ {vs : List Value} {ns : List Int}, IntsAre vs ns → Vals (ns.map V.int) vs
  | _, _, .nil => .nil
  | _, _, .cons n t h => .cons ⟨t, rfl⟩ (xfg h)
def Only (H : Hp) : Prop := ∀ b, H b = none ∨ ∃ o xs, H b = some (.frz o (.lst xs))
theorem xjm {P : Program} {w : World} {K : PySem.W.Frag} {mg mb : Str → Option Value} {CX : CXT} {k : Nat} {fa a : Addr} {fd : FuncData} {x : Str} {sp : Sp} {s₁ : Shared} {vs : List Value} {ns : List Int}
    (KX : K.In s₁.heap) (hns : s₁.heap.Ns mainGlobals mg) (hb : s₁.heap.Ns builtinsNs mb) (hbb : ∀ x : Str, x ≠ "__name__" → mb x = bootBuiltins x) (hlim : s₁.heap.NoLimit) (hg : s₁.gens = #[])
    (ha : s₁.heap.get? a = some { cls := .type "list", data := .seq vs.toArray }) (hi : IntsAre vs ns) (hl : ns.length ≤ sizeLine) (hr : Room q0 k callerA)
    (F : ∀ base : Heap, K.In base → base.Ns mainGlobals mg → FnOk q0 P w K mg base CX k fa fd [x] sp) (hbind : ∀ (s : Shared) (u : Value), BindsTo s fd ⟨[u], []⟩ [(x, u)])
    (hsp : ∀ H : Hp, Only H → SqL K H a (ns.map V.int) → sp [.ref a] H (fun v _ => v = .bl true) fun _ _ _ => False)
    (hCX : ∀ H e s', CX [] H s₁ (fun _ _ _ => False) e s' → False) :
    codeAny (model P w) callerA (.call (.ref fa) ⟨[.ref a], []⟩) (fun r s' => r = .ok (.ret (.bool true)) ∧ OldK s₁.heap s'.heap ∧ s'.os = s₁.os ∧ AllBare s'.gens) s₁ := by
  have rv := xfg hi
  have lenV := hi.length
  -- from an abstract heap in which nothing but the script may be tracked
  have core : ∀ H : Hp, Only H → SqL K H a (ns.map V.int) → HOk P w H s₁.heap → (∀ b, H b ≠ none → b = a) → (H a ≠ none → K.lookup a = none) →
      codeAny (model P w) callerA (.call (.ref fa) ⟨[.ref a], []⟩) (fun r s' => r = .ok (.ret (.bool true)) ∧ OldK s₁.heap s'.heap ∧ s'.os = s₁.os ∧ AllBare s'.gens) s₁ := by
    intro H hO hS hok hA hK
    have base_of : ∀ {b : Addr} {o : Obj}, s₁.heap.get? b = some o → H b = none → (hidT s₁.heap H).get? b = some o := fun e n => xjp e n
    have noA : ∀ {b : Addr} {o : Obj} {es : Array DictEntry} {ep : Nat}, s₁.heap.get? b = some o → o.data = .dict es ep → H b = none := fun {b o es ep} e d => by
      cases q : H b with
      | none => rfl
      | some u =>
        have e' : b = a := hA b (by rw [q]; simp)
        subst e'
        rw [ha] at e; cases e
        have d' : Data.seq vs.toArray _ = Data.dict es ep := d
        cases d'
    have nsK : ∀ {b : Addr} {m : Str → Option Value}, s₁.heap.Ns b m → (hidT s₁.heap H).Ns b m := fun {b m} ⟨o, es, ep, e, d, r⟩ => ⟨o, es, ep, base_of e (noA e d), d, r⟩
    have hKb : K.In (hidT s₁.heap H) := fun b o e => base_of (KX b o e) (by
      cases q : H b with
      | none => rfl
      | some u =>
        have e' : b = a := hA b (by rw [q]; simp)
        subst e'
        rw [hK (by rw [q]; simp)] at e; cases e)
    have hM : Mod K mg (hidT s₁.heap H) := ⟨hKb, nsK hns, ⟨mb, nsK hb, hbb⟩, let ⟨mc, h1, h2⟩ := hlim; ⟨mc, nsK h1, h2⟩⟩
    have e0 : Env0 P w K mg (hidT s₁.heap H) callerA [] s₁ H := ⟨rfl, hM, fun b o e => xlk e, Nat.le_of_eq (xif _ _), trivial, fun b hb => absurd (show b ∈ ([] : List Addr) from hb) (by simp), hok, .of_eq hg⟩
    refine codeAny_mono ((F _ hKb (nsK hns)).run callerA [] s₁ H ⟨[.ref a], []⟩ [.ref a] [.ref a] _ _ hr e0 (hbind s₁ (.ref a)) (.cons rfl .nil) (hsp H hO hS)) fun r s' h => ?_
    cases r with
    | error e => exact (hCX H e s' h).elim
    | ok fl =>
      cases fl with
      | next => exact False.elim h
      | brk => exact False.elim h
      | cont => exact False.elim h
      | ret u =>
        obtain ⟨v, H', os, bare, un, hok', r', q⟩ := h
        have q' : v = .bl true := q
        subst q'
        obtain rfl : u = Value.bool true := r'
        refine ⟨rfl, OldK.of_keep fun b o e => ?_, os, bare⟩
        cases q : H b with
        | none => exact un.keep b o e q (by intro z; exact absurd (show b ∈ ([] : List Addr) from z) (by simp)) (by simp)
        | some u =>
          rcases hO b with z | ⟨ob, xs, z⟩
          · rw [q] at z; cases z
          · have z2 := un.frzs b ob _ z
            obtain ⟨e1, _⟩ := hok b _ z
            obtain ⟨e2, _⟩ := hok' b _ z2
            rw [e] at e1; cases e1
            exact e2
  cases hk : K.lookup a with
  | some o =>
    -- the script is one of the module's own objects
    have e := KX a o hk
    rw [ha] at e
    cases e
    refine core (fun _ => none) (fun _ => .inl rfl) (.inr ⟨_, vs.toArray, _, hk, rfl, rfl, rfl, by rw [List.size_toArray, lenV]; exact hl, by simpa using rv⟩) (fun b u z => by have z' : (none : Option HO) = some u := z; cases z') (fun b z => absurd rfl z) fun z => absurd rfl z
  | none =>
    refine core (fun b => if b = a then some (.frz { cls := .type "list", data := .seq vs.toArray } (.lst (ns.map V.int))) else none) (fun b => ?_) (.inl (.inr ⟨{ cls := .type "list", data := .seq vs.toArray }, if_pos rfl⟩)) (fun b u z => ?_) (fun b z => ?_) fun _ => hk
    · by_cases hb : b = a
      · exact .inr ⟨_, _, if_pos hb⟩
      · exact .inl (if_neg hb)
    · by_cases hb : b = a
      · have z' := (if_pos hb).symm.trans z
        cases z'
        subst hb
        exact ⟨ha, by rw [List.length_map]; exact hl, vs, _, rv, ha⟩
      · have z' := (if_neg hb).symm.trans z
        cases z'
    · by_cases hb : b = a
      · exact hb
      · exact absurd (if_neg hb) z
end L2
namespace L2
open PySem PySem.Spec PyProof.Rows
variable {q0 : Bool}
abbrev KOf {K : PySem.W.Frag} {h : Heap} (_ : K.In h) : PySem.W.Frag := K
theorem walk_of {l : PySem.W.OpenLaw} {n k : Nat} {q : Program} {loose : List Str} {XP : (Str → Option Value) → Heap → Prop} {YP : World → Heap → Prop} {d : DefRec} {K : Params → PySem.W.Frag} {CX : World → CXT} {sp : World → Sp} {x : Str}
    (hn : l.most = some n) (hn2 : n ≤ sizeLine) (hdf : d.params.defaults = []) (hr : Room q0 k callerA)
    (hY : ∀ (w : World) (h : Heap), YP w h → (K w.params).In h)
    (F : ∀ (w : World) (mg : Str → Option Value) (fa : Addr) (h : Heap), (K w.params).In h → h.Ns mainGlobals mg → mg d.name = some (.ref fa) →
      ∃ fd : FuncData, (∀ (s : Shared) (u : Value), BindsTo s fd ⟨[u], []⟩ [(x, u)]) ∧
        ∀ base : Heap, (K w.params).In base → base.Ns mainGlobals mg → FnOk q0 l.prog w (K w.params) mg base (CX w) k fa fd [x] (sp w))
    (hsp : ∀ (w : World) (H : Hp) (a : Addr) (ns : List Int), ns.length ≤ n → Only H → SqL (K w.params) H a (ns.map V.int) → sp w [.ref a] H (fun v _ => v = .bl true) fun _ _ _ => False)
    (hCX : ∀ (w : World) (H : Hp) (s : Shared) (e : Value) (s' : Shared), CX w [] H s (fun _ _ _ => False) e s' → False) :
    PySem.W.WalkO q loose XP YP l.row.toRowW d [] (fun f vs => PySem.call f vs) := by
  refine Att.attach_call hn hdf fun w s₀ s₁ mg mb fa o pm cd doc a vs ns G Y ho hd hcd hmg hobj hints hlen hg => ?_
  have KX := hY w _ Y
  obtain ⟨fd, hb, hF⟩ := F w mg fa _ KX G.T.g hmg
  exact xjm KX G.T.g G.T.b G.T.builtins G.T.nolimit hg hobj hints (Nat.le_trans hlen hn2) hr hF hb (fun H hO hS => hsp w H a ns hlen hO hS) fun H e s' => hCX w H s₁ e s'
end L2
namespace L2
open PySem PySem.Spec PyProof.Rows
variable {q0 : Bool}
def xba (s : Stmt) (j : Nat) : Stmt := match s with
  | .ClassDef _ _ _ body _ _ _ _ _ _ _ => body.getD j (.Pass ⟨0, 0, 0, 0⟩)
  | _ => .Pass ⟨0, 0, 0, 0⟩
def xae (s : Stmt) : Arguments := match s with
  | .FunctionDef _ a _ _ _ _ _ _ _ _ => a
  | _ => { posonlyargs := [], args := [], vararg := none, kwonlyargs := [], kw_defaults := [], kwarg := none, defaults := [] }
def x9 (s : Stmt) : List Stmt := match s with
  | .FunctionDef _ _ b _ _ _ _ _ _ _ => b
  | _ => []
def xp (s : Stmt) : Scope := match s with
  | .FunctionDef _ _ _ _ _ _ sc _ _ _ => sc
  | _ => { kind := .function, names := [], isGenerator := false, isCoroutine := false }
abbrev CX0 : CXT := fun _ _ _ _ _ _ => False
structure Fun (K : PySem.W.Frag) (x qual : Str) (st : Stmt) (f : Addr) (fd : FuncData) : Prop where
  ex : ∃ (oc : Value) (od : Option Addr) (kV doc pm : Value) (an : Option Addr) (cdv ct : Value) (osl : Array (Option Value)),
    fd = PySem.W.fnOf x qual (xae st) (x9 st) (xp st) .none kV doc pm an cdv ct ∧ K.lookup f = some ⟨oc, od, .func fd, osl⟩ ∧ PySem.W.codeIn K cdv qual = true
  kp : PySem.W.keepIn K (.ref f) = true
section
variable {P : Program} {w : World} {K : PySem.W.Frag} {mg : Str → Option Value} {base : Heap}
theorem Fun.ok {x qual : Str} {st : Stmt} {f : Addr} {fd : FuncData} {N ps : List Str} {k : Nat} {sp : Sp} (F : Fun K x qual st f fd) (S : xag N ps (xp st)) (len : ∀ vs H Q E, sp vs H Q E → vs.length = ps.length)
    (hbody : ∀ (cdv : Value) (A : Around) (outer : List Env) (s : Shared) (H : Hp) (vs : List V) (Q : VK) (E : XK), Room q0 k (A.deeper (envOfC qual (xp st) s.heap.objs.size f cdv)) → sp vs H Q E →
      ∃ t, PSs (cxOf q0 CX0 P w K mg base N qual (xp st) f cdv A outer s H E).nox (x9 st) t ∧ t { nx := fun _ H' => Q .non H', rt := Q } (xbx N vs) H) : FnOk q0 P w K mg base CX0 (k + 1) f fd ps sp := by
  obtain ⟨oc, od, kV, doc, pm, an, cdv, ct, osl, rfl, lk, hcd⟩ := F.ex
  refine xes lk hcd S len fun A outer s H vs Q E hr hsp => ?_
  obtain ⟨t, h, q⟩ := hbody cdv A outer s H vs Q E hr hsp
  exact ⟨t, h.nox, q⟩
theorem Fun.binds {x qual : Str} {st : Stmt} {f : Addr} {fd : FuncData} {ps : List Str} (F : Fun K x qual st f fd)
    (h : ∀ (kV doc pm : Value) (an : Option Addr) (cdv ct : Value) (us : List Value), us.length = ps.length → bindArgs (PySem.W.fnOf x qual (xae st) (x9 st) (xp st) .none kV doc pm an cdv ct) ⟨us, []⟩ = pure (ps.zip us)) : xal K fd ps [] := by
  obtain ⟨oc, od, kV, doc, pm, an, cdv, ct, osl, rfl, lk, hcd⟩ := F.ex
  exact .all (h kV doc pm an cdv ct)
theorem xz {x qual : Str} {st : Stmt} {f : Addr} {oc : Value} {od an : Option Addr} {osl : Array (Option Value)} {kV doc pm cdv ct : Value} (l : K.lookup f = some ⟨oc, od, .func (PySem.W.fnOf x qual (xae st) (x9 st) (xp st) .none kV doc pm an cdv ct), osl⟩)
    (c : PySem.W.codeIn K cdv qual = true) (k : PySem.W.keepIn K (.ref f) = true) : Fun K x qual st f (PySem.W.fnOf x qual (xae st) (x9 st) (xp st) .none kV doc pm an cdv ct) := ⟨⟨oc, od, kV, doc, pm, an, cdv, ct, osl, rfl, l, c⟩, k⟩
end
theorem xfr {A : Around} {k : Nat} (hr : Room q0 k A) : A.units + 1 < cLine := Nat.lt_of_le_of_lt (Nat.add_le_add_left (by decide : 1 ≤ 64) _) hr.units
section
variable {X : Cx}
theorem pv (i : Nat) {x : Str} {pos : Pos} (hN : X.N[i]? = some x := by rfl) (hv : Vis X.env.scope x := by first | exact Or.inl rfl | exact Or.inr (Or.inl rfl) | exact Or.inr (Or.inr rfl)) (hd : (x == ("__debug__" : Str)) = false := by decide)
    (hcd : (x == ("__classdict__" : Str)) = false := by decide) : PE X (.Name x pos) (tVar i) := xlx hN hv hd hcd
end
theorem iteF {A B : Prop} (h : B) : if false = true then A else B := by
  rw [if_neg Bool.false_ne_true]
  exact h
theorem iteT {A B : Prop} (h : A) : if true = true then A else B := by
  rw [if_pos rfl]
  exact h
theorem ite2 {c A B : Prop} [Decidable c] (h1 : c → A) (h2 : ¬ c → B) : if c then A else B := by
  by_cases h : c
  · rw [if_pos h]
    exact h1 h
  · rw [if_neg h]
    exact h2 h
def Same (H H' : Hp) : Prop := ∀ b o, H b = some o → H' b = some o
theorem Same.refl (H : Hp) : Same H H := fun _ _ h => h
theorem Same.trans {H H1 H2 : Hp} (a : Same H H1) (b : Same H1 H2) : Same H H2 := fun c o h => b c o (a c o h)
theorem Same.free {H H' : Hp} (e : Same H H') {l : Addr} (h : H' l = Option.none) : H l = Option.none := by
  cases q : H l with
  | none => rfl
  | some o =>
    rw [e l o q] at h
    cases h
theorem Same.seq {K : PySem.W.Frag} {H H' : Hp} {a : Addr} {xs : List V} (e : Same H H') (h : SqL K H a xs) : SqL K H' a xs := by
  rcases h with (h | ⟨o, h⟩) | h
  · exact .inl (.inl (e _ _ h))
  · exact .inl (.inr ⟨o, e _ _ h⟩)
  · exact .inr h
end L2
namespace Srt
open PySem PySem.W PyProof.Rows
abbrev CM := Nat → Nat → (Bool → Shared → Prop) → Shared → Prop
abbrev g (p : Array Nat) (i : Nat) : Nat := p.getD i 0
structure Ord (n : Nat) (lt : Nat → Nat → Bool) : Prop where
  irr : ∀ i, i < n → lt i i = false
  tr : ∀ i j k, i < n → j < n → k < n → lt i j = true → lt j k = true → lt i k = true
  tot : ∀ i j, i < n → j < n → i ≠ j → lt i j = false → lt j i = true
def Cmp (n : Nat) (lt : Nat → Nat → Bool) (cmp : CM) (s : Shared) : Prop := ∀ i j, i < n → j < n → ∀ Q : Bool → Shared → Prop, Q (lt i j) s → cmp i j Q s
theorem xbr {α : Type} {cmp : CM} {a : α} {Q : α → Shared → Prop} {s : Shared} (h : Q a s) : KasT.kasWp cmp (.ret a) Q s := h
theorem xdl {α : Type} {cmp : CM} {i j : Nat} {k : Bool → KasT α} {Q : α → Shared → Prop} {s : Shared} (h : cmp i j (fun c s' => KasT.kasWp cmp (k c) Q s') s) : KasT.kasWp cmp (.ask i j k) Q s := h
theorem xmw {p : Array Nat} {n : Nat} : kas_asc p 0 n = .ret n := by unfold kas_asc; rfl
theorem xmv {p : Array Nat} {f n : Nat} : kas_asc p (f + 1) n = .ask (p.getD n 0) (p.getD (n - 1) 0) fun c => if c = true then .ret n else kas_asc p f (n + 1) := by rw [kas_asc]
theorem xnj {p : Array Nat} {k : Nat} : kas_bin 0 p k = .ret p := by unfold kas_bin; rfl
theorem xmm {f : Nat} {p : Array Nat} {k : Nat} : kas_bin (f + 1) p k = (kas_place p k k 0 k).bind fun l => kas_bin f (bubble p k (k - l)) (k + 1) := by rw [kas_bin]
theorem xle {p : Array Nat} {k l r : Nat} : kas_place p k 0 l r = .ret l := by unfold kas_place; rfl
theorem xlc {p : Array Nat} {k f l r : Nat} : kas_place p k (f + 1) l r = if l ≥ r then .ret l else .ask (p.getD k 0) (p.getD ((l + r) / 2) 0) fun c => if c = true then kas_place p k f l ((l + r) / 2) else kas_place p k f ((l + r) / 2 + 1) r := by rw [kas_place]
theorem xmf {p : Array Nat} {k l : Nat} : kas_desc 0 p k l = .ret (p, k, l) := by unfold kas_desc; rfl
theorem xl2 {f : Nat} {p : Array Nat} {k l : Nat} : kas_desc (f + 1) p k l = .ask (p.getD k 0) (p.getD (k - 1) 0) fun c => if c = true then (if l > 0 then kas_desc f (kas_rev p (k - (l + 1)) k) (k + 1) 0 else kas_desc f p (k + 1) 0) else .ask (p.getD (k - 1) 0) (p.getD k 0) fun d => if d = true then .ret (p, k, l) else kas_desc f p (k + 1) (l + 1) := by rw [kas_desc]
section
variable {n : Nat} {lt : Nat → Nat → Bool} {cmp : CM} {s : Shared}
structure Arr (n : Nat) (p : Array Nat) : Prop where
  sz : p.size = n
  lt : ∀ i, i < n → g p i < n
  inj : ∀ i j, i < n → j < n → g p i = g p j → i = j
  pm : p.Perm (List.range n).toArray
theorem g_at {p : Array Nat} {i : Nat} {v : Nat} (h : p[i]? = some v) : g p i = v := by
  show p.getD i 0 = v
  rw [Array.getD_eq_getD_getElem?, h]
  rfl
theorem Arr.at {p : Array Nat} (a : Arr n p) {i : Nat} (h : i < n) : p[i]? = some (g p i) := by
  have z : i < p.size := by rw [a.sz]; exact h
  have e : p[i]? = some p[i] := Array.getElem?_eq_getElem z
  rw [e, g_at e]
def Srtd (lt : Nat → Nat → Bool) (p : Array Nat) (m : Nat) : Prop := ∀ i j, i < j → j < m → lt (g p i) (g p j) = true
theorem xg7 (o : Ord n lt) {p : Array Nat} (a : Arr n p) {m : Nat} (hm : m ≤ n) (h : ∀ i, 1 ≤ i → i < m → lt (g p (i - 1)) (g p i) = true) : Srtd lt p m := by
  intro i j hij hj
  obtain ⟨d, rfl⟩ : ∃ d, j = i + 1 + d := ⟨j - (i + 1), by omega⟩
  induction d with
  | zero => exact h (i + 1) (by omega) hj
  | succ d ih =>
    have h1 := ih (by omega) (by omega)
    have h2 := h (i + 1 + (d + 1)) (by omega) hj
    exact o.tr _ _ _ (a.lt _ (by omega)) (a.lt _ (by omega)) (a.lt _ (by omega)) h1 h2
theorem xf1 (c : Cmp n lt cmp s) {p : Array Nat} (a : Arr n p) {G : Nat → Shared → Prop} : ∀ (f k : Nat), 1 ≤ k → k + f ≤ n →
    (∀ m, k ≤ m → m ≤ k + f → (∀ i, k ≤ i → i < m → lt (g p i) (g p (i - 1)) = false) → (m < k + f → lt (g p m) (g p (m - 1)) = true) → G m s) → KasT.kasWp cmp (kas_asc p f k) G s
  | 0, k, h1, hf, hG => by
    rw [xmw]
    exact xbr (hG k (Nat.le_refl _) (by omega) (fun i h h' => by omega) (fun h => by omega))
  | f + 1, k, h1, hf, hG => by
    rw [xmv]
    refine xdl (c _ _ (a.lt k (by omega)) (a.lt (k - 1) (by omega)) _ ?_)
    cases e : lt (g p k) (g p (k - 1)) with
    | true =>
      exact xbr (hG k (Nat.le_refl _) (by omega) (fun i h h' => by omega) (fun _ => e))
    | false =>
      show KasT.kasWp cmp (kas_asc p f (k + 1)) G s
      refine xf1 c a f (k + 1) (by omega) (by omega) fun m hm hm2 h3 h4 => hG m (by omega) (by omega) (fun i hi hi2 => ?_) (fun h => h4 (by omega))
      by_cases z : i = k
      · rw [z]; exact e
      · exact h3 i (by omega) hi2
theorem xgy (o : Ord n lt) (c : Cmp n lt cmp s) {p : Array Nat} (a : Arr n p) {G : Array Nat × Nat × Nat → Shared → Prop} : ∀ (f k : Nat), 1 ≤ k → k + f ≤ n →
    (∀ m, k ≤ m → m ≤ k + f → (∀ i, k ≤ i → i < m → lt (g p i) (g p (i - 1)) = true) → G (p, m, 0) s) → KasT.kasWp cmp (kas_desc f p k 0) G s
  | 0, k, h1, hf, hG => by
    rw [xmf]
    exact xbr (hG k (Nat.le_refl _) (by omega) (fun i h h' => by omega))
  | f + 1, k, h1, hf, hG => by
    rw [xl2]
    refine xdl (c _ _ (a.lt k (by omega)) (a.lt (k - 1) (by omega)) _ ?_)
    cases e : lt (g p k) (g p (k - 1)) with
    | true =>
      show KasT.kasWp cmp (kas_desc f p (k + 1) 0) G s
      refine xgy o c a f (k + 1) (by omega) (by omega) fun m hm hm2 h3 => hG m (by omega) (by omega) fun i hi hi2 => ?_
      by_cases z : i = k
      · rw [z]; exact e
      · exact h3 i (by omega) hi2
    | false =>
      refine xdl (c _ _ (a.lt (k - 1) (by omega)) (a.lt k (by omega)) _ ?_)
      have ne : g p k ≠ g p (k - 1) := fun z => by have := a.inj _ _ (by omega) (by omega) z; omega
      rw [show lt (p.getD (k - 1) 0) (p.getD k 0) = true from o.tot _ _ (a.lt k (by omega)) (a.lt (k - 1) (by omega)) ne e]
      exact xbr (hG k (Nat.le_refl _) (by omega) (fun i h h' => by omega))
theorem Arr.rev {p : Array Nat} (a : Arr n p) {k : Nat} (hk : k ≤ n) : Arr n (kas_rev p 0 k) ∧ ∀ i, i < n → g (kas_rev p 0 k) i = if i < k then g p (k - 1 - i) else g p i := by
  have ge : ∀ i, i < n → g (kas_rev p 0 k) i = if i < k then g p (k - 1 - i) else g p i := fun i hi => by
    have z := getElem?_mirror_all (xs := p) (i := 0) (j := k) (by rw [a.sz]; exact hk) i
    by_cases c : i < k
    · rw [if_pos c]
      rw [if_pos ⟨Nat.zero_le _, c⟩, show 0 + k - 1 - i = k - 1 - i by omega, a.at (show k - 1 - i < n by omega)] at z
      exact g_at z
    · rw [if_neg c]
      rw [if_neg (fun w => c w.2), a.at hi] at z
      exact g_at z
  refine ⟨⟨by rw [kas_rev_size, a.sz], fun i hi => ?_, fun i j hi hj e => ?_, (mirror_perm _ _ _ _).trans a.pm⟩, ge⟩
  · rw [ge i hi]
    split <;> exact a.lt _ (by omega)
  · rw [ge i hi, ge j hj] at e
    split at e <;> split at e <;> have := a.inj _ _ (by omega) (by omega) e <;> omega
theorem xjy (o : Ord n lt) (c : Cmp n lt cmp s) {p : Array Nat} (a : Arr n p) (h2 : 2 ≤ n) {G : Nat × Array Nat → Shared → Prop}
    (hG : ∀ m p', 1 ≤ m → m ≤ n → Arr n p' → Srtd lt p' m → G (m, p') s) : KasT.kasWp cmp (kas_count n p) G s := by
  unfold kas_count
  rw [KasT.kasWp_bind]
  have up : ∀ q, Arr n q → ∀ i, 1 ≤ i → i < n → lt (g q i) (g q (i - 1)) = false → lt (g q (i - 1)) (g q i) = true := fun q b i h1 hi e =>
    o.tot _ _ (b.lt i hi) (b.lt (i - 1) (by omega)) (fun z => by have := b.inj _ _ hi (by omega) z; omega) e
  refine xf1 c a (n - 1) 1 (Nat.le_refl _) (by omega) fun m hm hm2 h3 h4 => ?_
  have sm : Srtd lt p m := xg7 o a (by omega) fun i hi hi2 => up p a i hi (by omega) (h3 i hi hi2)
  show KasT.kasWp cmp (if (m == n) = true then _ else _) G s
  by_cases e1 : m = n
  · rw [if_pos (by simpa using e1)]
    exact xbr (hG m p hm (by omega) a sm)
  · rw [if_neg (by simpa using e1)]
    by_cases e2 : m > 1
    · rw [if_pos e2]
      refine xdl (c _ _ (a.lt 0 (by omega)) (a.lt (m - 1) (by omega)) _ ?_)
      rw [show lt (p.getD 0 0) (p.getD (m - 1) 0) = true from sm 0 (m - 1) (by omega) (by omega)]
      exact xbr (hG m p hm (by omega) a sm)
    · rw [if_neg e2]
      have m1 : m = 1 := by omega
      subst m1
      have d1 := h4 (by omega)
      unfold kas_descPart
      rw [KasT.kasWp_bind]
      refine xgy o c a (n - (1 + 1)) (1 + 1) (by omega) (by omega) fun k hk hk2 h5 => ?_
      show KasT.kasWp cmp (if (0 : Nat) > 0 then _ else kas_tail3 k n p) G s
      rw [if_neg (Nat.lt_irrefl 0)]
      unfold kas_tail3
      rw [KasT.kasWp_bind]
      obtain ⟨b, ge⟩ := a.rev (k := k) (by omega)
      refine xf1 c b (n - k) k (by omega) (by omega) fun m' hm' hm2' h6 _ => ?_
      refine xbr (hG m' _ (by omega) (by omega) b (xg7 o b (by omega) fun i hi hi2 => ?_))
      by_cases ik : i < k
      · rw [ge i (by omega), ge (i - 1) (by omega), if_pos ik, if_pos (by omega)]
        have e3 : k - 1 - (i - 1) - 1 = k - 1 - i := by omega
        by_cases z : k - 1 - (i - 1) = 1
        · have z' : k - 1 - i = 0 := by omega
          rw [z, z']
          exact d1
        · have := h5 (k - 1 - (i - 1)) (by omega) (by omega)
          rw [e3] at this
          exact this
      · exact up _ b i hi (by omega) (h6 i (by omega) hi2)
theorem xd8 (o : Ord n lt) (c : Cmp n lt cmp s) {p : Array Nat} (a : Arr n p) {k : Nat} (hk : k < n) (sk : Srtd lt p k) {G : Nat → Shared → Prop} : ∀ (f l r : Nat), l ≤ r → r ≤ k → r - l ≤ f →
    (∀ j, j < l → lt (g p k) (g p j) = false) → (∀ j, r ≤ j → j < k → lt (g p k) (g p j) = true) →
    (∀ m, m ≤ k → (∀ j, j < m → lt (g p k) (g p j) = false) → (∀ j, m ≤ j → j < k → lt (g p k) (g p j) = true) → G m s) → KasT.kasWp cmp (kas_place p k f l r) G s
  | 0, l, r, h1, h2, h3, lo, hi, hG => by
    rw [xle]
    exact xbr (hG l (by omega) lo fun j hj hj2 => hi j (by omega) hj2)
  | f + 1, l, r, h1, h2, h3, lo, hi, hG => by
    rw [xlc]
    by_cases e : l ≥ r
    · rw [if_pos e]
      exact xbr (hG l (by omega) lo fun j hj hj2 => hi j (by omega) hj2)
    · rw [if_neg e]
      have m1 : (l + r) / 2 < r := by omega
      have m2 : l ≤ (l + r) / 2 := by omega
      refine xdl (c _ _ (a.lt k hk) (a.lt _ (by omega)) _ ?_)
      cases e2 : lt (g p k) (g p ((l + r) / 2)) with
      | true =>
        show KasT.kasWp cmp (kas_place p k f l ((l + r) / 2)) G s
        refine xd8 o c a hk sk f l _ m2 (by omega) (by omega) lo (fun j hj hj2 => ?_) hG
        by_cases z : j = (l + r) / 2
        · rw [z]; exact e2
        · exact o.tr _ _ _ (a.lt k hk) (a.lt _ (by omega)) (a.lt _ (by omega)) e2 (sk _ _ (by omega) hj2)
      | false =>
        show KasT.kasWp cmp (kas_place p k f ((l + r) / 2 + 1) r) G s
        refine xd8 o c a hk sk f _ r (by omega) h2 (by omega) (fun j hj => ?_) hi hG
        by_cases z : j = (l + r) / 2
        · rw [z]; exact e2
        · cases e3 : lt (g p k) (g p j) with
          | false => rfl
          | true =>
            have := o.tr _ _ _ (a.lt k hk) (a.lt _ (by omega)) (a.lt _ (by omega)) e3 (sk j ((l + r) / 2) (by omega) (by omega))
            rw [e2] at this
            cases this
theorem Arr.bub {p : Array Nat} (a : Arr n p) {k m : Nat} (hk : k < n) (hm : m ≤ k) : Arr n (bubble p k (k - m)) ∧ ∀ i, i < n → g (bubble p k (k - m)) i = if i = m then g p k else if m < i ∧ i ≤ k then g p (i - 1) else g p i := by
  have ge : ∀ i, i < n → g (bubble p k (k - m)) i = if i = m then g p k else if m < i ∧ i ≤ k then g p (i - 1) else g p i := fun i hi => by
    have z := getElem?_bubble (xs := p) (src := k) (by rw [a.sz]; exact hk) (k - m) (by omega) i
    rw [show k - (k - m) = m by omega] at z
    by_cases c : i = m
    · rw [if_pos c]
      rw [if_pos c, a.at hk] at z
      exact g_at z
    · rw [if_neg c]
      rw [if_neg c] at z
      by_cases d : m < i ∧ i ≤ k
      · rw [if_pos d]
        rw [if_pos d, a.at (show i - 1 < n by omega)] at z
        exact g_at z
      · rw [if_neg d]
        rw [if_neg d, a.at hi] at z
        exact g_at z
  refine ⟨⟨by rw [bubble_size, a.sz], fun i hi => ?_, fun i j hi hj e => ?_, (bubble_perm _ _ _).trans a.pm⟩, ge⟩
  · rw [ge i hi]
    split
    · exact a.lt _ hk
    · split <;> exact a.lt _ (by omega)
  · rw [ge i hi, ge j hj] at e
    split at e <;> (try split at e) <;> (try split at e) <;> (try split at e) <;> first | omega | (have := a.inj _ _ (by omega) (by omega) e; omega)
theorem xi4 (o : Ord n lt) (c : Cmp n lt cmp s) {G : Array Nat → Shared → Prop} : ∀ (f k : Nat) (p : Array Nat), k + f = n → Arr n p → Srtd lt p k → (∀ p', Arr n p' → Srtd lt p' n → G p' s) → KasT.kasWp cmp (kas_bin f p k) G s
  | 0, k, p, h, a, sk, hG => by
    rw [xnj]
    have : k = n := by omega
    subst this
    exact xbr (hG p a sk)
  | f + 1, k, p, h, a, sk, hG => by
    have hk : k < n := by omega
    rw [xmm, KasT.kasWp_bind]
    refine xd8 o c a hk sk k 0 k (Nat.zero_le _) (Nat.le_refl _) (by omega) (fun j hj => by omega) (fun j hj hj2 => by omega) fun m hm lo hi => ?_
    obtain ⟨b, ge⟩ := a.bub hk hm
    refine xi4 o c f (k + 1) _ (by omega) b (fun i j hij hj => ?_) hG
    have inS : ∀ i, i < m → lt (g p i) (g p k) = true := fun i hi' => o.tot _ _ (a.lt k hk) (a.lt i (by omega)) (fun z => by have := a.inj _ _ hk (by omega) z; omega) (lo i hi')
    have g1 : ∀ i, i < n → i = m → g (bubble p k (k - m)) i = g p k := fun i hi z => by rw [ge i hi, if_pos z]
    have g2 : ∀ i, i < n → m < i → i ≤ k → g (bubble p k (k - m)) i = g p (i - 1) := fun i hi z z2 => by rw [ge i hi, if_neg (by omega), if_pos ⟨z, z2⟩]
    have g3 : ∀ i, i < n → i < m → g (bubble p k (k - m)) i = g p i := fun i hi z => by rw [ge i hi, if_neg (by omega), if_neg (by omega)]
    by_cases j1 : j = m
    · rw [g1 j (by omega) j1, g3 i (by omega) (by omega)]
      exact inS i (by omega)
    · by_cases i1 : i = m
      · rw [g1 i (by omega) i1, g2 j (by omega) (by omega) (by omega)]
        exact hi (j - 1) (by omega) (by omega)
      · by_cases j2 : m < j
        · rw [g2 j (by omega) j2 (by omega)]
          by_cases i2 : m < i
          · rw [g2 i (by omega) i2 (by omega)]
            exact sk _ _ (by omega) (by omega)
          · rw [g3 i (by omega) (by omega)]
            by_cases z : i = j - 1
            · omega
            · exact sk _ _ (by omega) (by omega)
        · rw [g3 j (by omega) (by omega), g3 i (by omega) (by omega)]
          exact sk _ _ hij (by omega)
theorem xij : Arr n (List.range n).toArray := by
  have e : ∀ i, i < n → g (List.range n).toArray i = i := fun i hi => g_at (by rw [List.getElem?_toArray, List.getElem?_range hi])
  exact ⟨by simp, fun i hi => by rw [e i hi]; exact hi, fun i j hi hj z => by rw [e i hi, e j hj] at z; exact z, Array.Perm.refl _⟩
theorem sort_wp (o : Ord n lt) (c : Cmp n lt cmp s) (h2 : 2 ≤ n) {G : Array Nat → Shared → Prop} (hG : ∀ p, Arr n p → Srtd lt p n → G p s) : KasT.kasWp cmp (kas_sort n) G s := by
  unfold kas_sort
  rw [KasT.kasWp_bind]
  refine xjy o c xij h2 fun m p hm hm2 a sm => ?_
  show KasT.kasWp cmp (if m < n then _ else _) G s
  by_cases e : m < n
  · rw [if_pos e]
    show KasT.kasWp cmp (kas_bin (n - max m 1) p (max m 1)) G s
    rw [Nat.max_eq_left hm]
    exact xi4 o c (n - m) m p (by omega) a sm hG
  · rw [if_neg e]
    have : m = n := by omega
    subst this
    exact xbr (hG p a sm)
end
end Srt
set_option maxRecDepth 100000
namespace XL
open PySem
def Xat (h : Heap) (e : Addr) (cls : Value) (od tb : Option Addr) : Prop :=
  ∃ oe vs, h.get? e = some oe ∧ oe.cls = cls ∧ oe.dict = od ∧ oe.data = .fields vs ∧ 1 < vs.size ∧
    ((tb = none ∧ vs[1]? = some Value.none) ∨ ∃ T oT ts, tb = some T ∧ vs[1]? = some (.ref T) ∧ T ≠ e ∧ h.get? T = some oT ∧ oT.data = .fields ts ∧ ts[3]? = some Value.none)
structure Stp (fs : List Addr) (e : Addr) (tb : Option Addr) (h h' : Heap) : Prop where
  keep : ∀ b o, h.get? b = some o → b ≠ e → tb ≠ some b → b ∉ fs → h'.get? b = some o
  slot : ∀ b o, h.get? b = some o → b ∈ fs → ∃ sl, h'.get? b = some { o with slots := sl }
abbrev xfu (l : List Env) : List Addr := l.filterMap (·.frame)
theorem xjg (o : Obj) (f : Array Value → Array Value) : (o.mapFields f).dict = o.dict := by
  obtain ⟨c, d, dt, sl⟩ := o
  cases dt <;> rfl
section
variable {M : Model} {A : Around} {E : Value → Shared → Prop} {s : Shared}
theorem xhf {base : Heap} {env : Env} {outer : List Env} {L e : Addr} {oe : Obj} {vs : Array Value} {hd : Value} {nx : Bool} {cls : Value} {od tb : Option Addr} {g : Heap} {Q : Unit → Shared → Prop}
    (fr : A.frames = some (env :: outer)) (ff : s.heap.FunFrames base (env :: outer)) (fL : env.frame = some L)
    (ge : s.heap.get? e = some oe) (de : oe.data = .fields vs) (se : 1 < vs.size) (ce : oe.cls = cls) (oo : oe.dict = od)
    (st : Stp (xfu (env :: outer)) e tb g s.heap) (sz : g.objs.size ≤ s.heap.objs.size)
    (k : ∀ h' T, Stp (xfu (env :: outer)) e tb g h' → g.objs.size ≤ T → Xat h' e cls od (some T) → Q () { s with heap := h' }) :
    wpAny M A (do let a ← frameOf env; let pl ← entryPlaceOf L nx; let b ← EntryCells.newEntry hd a .none (rawInt L) .none pl; setField (.ref e) 1 b) (fun _ s' => wpAny M A (setFlight (.ref e) none) Q E s') E s := by
  have nef : e ∉ xfu (env :: outer) := fun hm => by
    obtain ⟨_, o, ho, hnf⟩ := ff.mem hm
    have z := ge.symm.trans ho
    cases z
    exact hnf vs de
  refine wpAny_bind (wpAny_frameOf_fun fr ff fL fun h1 so => ?_)
  refine wpAny_bind (wpAny_entryPlaceOf fun pl ip => ?_)
  unfold EntryCells.newEntry newFields
  refine wpAny_bind (wpAny_newObj_type ?_ (ip.sizeOk5 _ _ _ _ _))
  have e1 : h1.get? e = some oe := (so.2.1 e nef).trans ge
  generalize eT : ({ cls := .type "traceback", dict := none, data := .fields ([hd, .ref L, .none, rawInt L, .none] ++ (if pl.isEmpty then List.replicate 6 Value.none else pl)).toArray } : Obj) = oT
  have dT : oT.data = .fields ([hd, .ref L, .none, rawInt L, .none] ++ (if pl.isEmpty then List.replicate 6 Value.none else pl)).toArray := by rw [← eT]
  have fT : oT.isFreed = false := by rw [← eT]; rfl
  have e2 : (h1.push oT).get? e = some oe := Heap.get?_push_of_some oT e1
  refine wpAny_setField e2 de se ?_
  have nTe : h1.objs.size ≠ e := Nat.ne_of_gt (Heap.lt_size e1)
  have d3 := Obj.data_mapFields de (·.setIfInBounds 1 (Value.ref h1.objs.size))
  have e3 := Heap.get?_update_self (Obj.mapFields (·.setIfInBounds 1 (Value.ref h1.objs.size))) e2 (Obj.isFreed_of_fields d3)
  have T3 : ((h1.push oT).update e (Obj.mapFields (·.setIfInBounds 1 (Value.ref h1.objs.size)))).get? h1.objs.size = some oT :=
    (Heap.get?_update_other (h1.push oT) _ (Ne.symm nTe)).trans (Heap.get?_push_size h1 fT)
  unfold setFlight
  refine wpAny_bind (wpAny_field e3 d3 (x := .ref h1.objs.size) (by simp [se]) ?_)
  rw [if_pos (show (Value.ref h1.objs.size != Value.none) = true from by simp)]
  refine wpAny_setField T3 dT (by simp only [List.size_toArray, List.length_append, List.length_cons, List.length_nil] <;> omega) (k _ h1.objs.size ?_ ?_ ?_)
  · have go : ∀ b o, b ≠ e → h1.get? b = some o → (((h1.push oT).update e (Obj.mapFields (·.setIfInBounds 1 (Value.ref h1.objs.size)))).update h1.objs.size
        (Obj.mapFields (·.setIfInBounds 3 ((none : Option Addr).elim Value.none fun f => rawInt f)))).get? b = some o := fun b o be hb => by
      have bT : h1.objs.size ≠ b := Nat.ne_of_gt (Heap.lt_size hb)
      rw [Heap.get?_update_other _ _ bT, Heap.get?_update_other _ _ (Ne.symm be)]
      exact Heap.get?_push_of_some oT hb
    refine ⟨fun b o hb be bt bf => go b o be ((so.2.1 b bf).trans (st.keep b o hb be bt bf)), fun b o hb bf => ?_⟩
    obtain ⟨sl, h2⟩ := st.slot b o hb bf
    obtain ⟨sl2, h3⟩ := so.2.2 b _ h2
    exact ⟨sl2, go b _ (fun z => nef (z ▸ bf)) h3⟩
  · rw [so.1]; exact sz
  · refine ⟨_, _, ?_, (Obj.cls_mapFields _ _).trans ce, (xjg _ _).trans oo, d3, by simp [se], .inr ⟨h1.objs.size, _, _, rfl, by simp [se], nTe, Heap.get?_update_self _ T3 (Obj.isFreed_of_fields (Obj.data_mapFields dT _)), Obj.data_mapFields dT _, ?_⟩⟩
    · rw [Heap.get?_update_other _ _ nTe]
      exact e3
    · first | (simp; done) | (rcases ip with rfl | ⟨_, _, _, _, _, _, _, rfl⟩ <;> simp)
theorem xiq {base : Heap} {env : Env} {outer : List Env} {L e : Addr} {cls : Value} {od tb : Option Addr} {Q : Unit → Shared → Prop}
    (fr : A.frames = some (env :: outer)) (ff : s.heap.FunFrames base (env :: outer)) (fL : env.frame = some L) (x : Xat s.heap e cls od tb)
    (k : ∀ h' T, Stp (xfu (env :: outer)) e tb s.heap h' → s.heap.objs.size ≤ T → Xat h' e cls od (some T) → Q () { s with heap := h' }) :
    wpAny M A (noteFrame (.ref e) env) (fun _ s' => wpAny M A (setFlight (.ref e) none) Q E s') E s := by
  obtain ⟨oe, vs, ge, ce, oo, de, se, y⟩ := x
  unfold noteFrame
  simp only [fL]
  rcases y with ⟨rfl, h1⟩ | ⟨T, oT, ts, rfl, h1, nTe, gT, dT, h3⟩
  · refine wpAny_bind (wpAny_field ge de h1 ?_)
    rw [if_neg (by decide)]
    exact xhf fr ff fL ge de se ce oo ⟨fun b o hb _ _ _ => hb, fun b o hb _ => ⟨o.slots, hb⟩⟩ (Nat.le_refl _) k
  · refine wpAny_bind (wpAny_field ge de h1 ?_)
    rw [if_pos (show (Value.ref T != Value.none) = true from by simp)]
    refine wpAny_bind (wpAny_field gT dT h3 ?_)
    rw [if_neg (show ¬ ((Value.none == rawInt L) = true) from by simp [rawInt])]
    refine wpAny_bind (wpAny_setField gT dT (Array.getElem?_eq_some_iff.mp h3).1 ?_)
    have ot : ∀ b, b ≠ T → (s.heap.update T (Obj.mapFields (·.setIfInBounds 3 Value.none))).get? b = s.heap.get? b := fun b hb => Heap.get?_update_other _ _ (Ne.symm hb)
    have nr : ∀ b o, s.heap.get? b = some o → (∀ vs, o.data ≠ .fields vs) → b ≠ T := fun b o hb hn q => by
      rw [q] at hb
      have z := gT.symm.trans hb
      cases z
      exact hn ts dT
    refine xhf (g := s.heap) fr (ff.of_keeps fun b o hb hn => ⟨o, (ot b (nr b o hb hn)).trans hb, rfl⟩) fL ((ot e (Ne.symm nTe)).trans ge) de se ce oo
      ⟨fun b o hb _ bt _ => (ot b fun z => bt (congrArg some z.symm)).trans hb, fun b o hb bf => ⟨o.slots, ?_⟩⟩ (Nat.le_of_eq (Heap.size_after_update ..).symm) k
    · obtain ⟨_, o', ho', hn⟩ := ff.mem bf
      have z := hb.symm.trans ho'
      cases z
      exact (ot b (nr b _ hb hn)).trans hb
end
end XL
set_option maxRecDepth 100000
namespace XL
open PySem
section
variable {prog : Program} {w : World} {A : Around} {E : Value → Shared → Prop} {h : Heap} {g : Array GenState} {d : Drawn} {t : Nat} {os : OsState}
variable {nm qn : Str} {C N : Addr} {bs bm bmB : List Value} {hz : Bool} {sn : List Str} {sub : List Value} {ab : Bool} {col : Option Bool} {dd : Option Addr} {k0 k1 k2 k3 k5 : Option Value} {B ni ii : String}
theorem xgv (F : ExcBaseFacts B ni ii bmB) (T : OwnTail h bmB bm) {us : List Value} {fI : Addr} {oI : Obj} {Q : Fin → Shared → Prop}
    (gC : h.get? C = some (excClassObj nm qn C N bs bm hz sn sub ab col dd k0 k1 k2 k3 k5 ni))
    (hi : ∀ (A' : Around) (Q' : Option Value → Shared → Prop) (E' : Value → Shared → Prop) (s' : Shared), (∀ b o, h.get? b = some o → s'.heap.get? b = some o) → Q' (some (.ref fI)) s' → wpAny (model prog w) A' (typeLookup (.ref C) "__init__") Q' E' s')
    (gI : h.get? fI = some oI) (cI : oI.cls = .type "function") (lu : us.length ≤ sizeLine)
    (k : ∀ h' e, Heap.MadeExcOf h h' e (.ref C) us → h.objs.size ≤ e →
      wpAny (model prog w) A (call (.ref fI) (.ref e :: us)) (fun r s' => r = .none ∧ Q (.done (.ret (.ref e))) s') E ⟨h', g, d, t, os⟩) :
    wpAny (model prog w) A (Builtin.«type.__call__» ⟨.ref C :: us, []⟩) Q E ⟨h, g, d, t, os⟩ := by
  repeat (first | with_reducible refine wpAny_loadPart_at gC ?_ | with_reducible refine wpAny_madeBy_exc gC ?_ | wp_step)
  refine codeAny_call_builtin_code (Code.quiet_builtin _ F.quiet) (wpAny_check_new_subT F T gC ?_)
  refine codeAny_exc_new_subT F T gC ?_ lu
  show wpAny _ _ _ _ _ _
  generalize e1 : ({ cls := .type "tuple", data := .seq us.toArray } : Obj) = oT
  have fT : oT.isFreed = false := by rw [← e1]; rfl
  generalize e2 : ({ cls := .ref C, data := .fields #[.ref h.objs.size, .none, .none, .none, .bool false, .none] } : Obj) = oE
  have fE : oE.isFreed = false := by rw [← e2]; rfl
  have up : ∀ b o, h.get? b = some o → ((h.push oT).push oE).get? b = some o := fun b o q => Heap.get?_push_of_some oE (Heap.get?_push_of_some oT q)
  have gC' := up _ _ gC
  have gI' := up _ _ gI
  have gE : ((h.push oT).push oE).get? (h.objs.size + 1) = some oE := by
    have z := Heap.get?_push_size (h.push oT) fE
    rwa [Heap.size_push] at z
  have cE : oE.cls = .ref C := by rw [← e2]
  have me : (Value.ref C :: bm).contains (.ref C) = true := by simp
  unfold isInstance
  repeat (first | (with_reducible refine wpAny_loadPart_at gE ?_; rw [cE]) | (with_reducible refine wpAny_isSubtype_exc gC' ?_; rw [me]) | wp_step)
  show wpAny _ _ (typeLookup (.ref C) _) _ _ _
  refine hi _ _ _ _ up ?_
  refine wpAny_holding (wpAny_bind ?_)
  unfold bindSpecial
  refine wpAny_bind (wpAny_typeOf (T := "function") ⟨_, gI', cI⟩ ?_)
  rw [if_pos (by decide)]
  refine wpAny_pure (wpAny_bind (wpAny_mono (k _ (h.objs.size + 1) ⟨up, Heap.get?_none_of_le (Nat.le_succ _), h.objs.size, ?_, Heap.get?_none_of_le (Nat.le_refl _), ?_⟩ (Nat.le_succ _)) (fun r s' z => ?_) fun _ _ x => x))
  · rw [e2]; exact gE
  · rw [e1]; exact Heap.get?_push_of_some oE (Heap.get?_push_size h fT)
  · obtain ⟨rfl, z⟩ := z
    wp_walk
    exact z
theorem xhp (F : ExcBaseFacts B ni ii bmB) (T : OwnTail h bmB bm) {us : List Value} {fI : Addr} {oI : Obj} {Q : Value → Shared → Prop}
    (gC : h.get? C = some (excClassObj nm qn C N bs bm hz sn sub ab col dd k0 k1 k2 k3 k5 ni))
    (hi : ∀ (A' : Around) (Q' : Option Value → Shared → Prop) (E' : Value → Shared → Prop) (s' : Shared), (∀ b o, h.get? b = some o → s'.heap.get? b = some o) → Q' (some (.ref fI)) s' → wpAny (model prog w) A' (typeLookup (.ref C) "__init__") Q' E' s')
    (gI : h.get? fI = some oI) (cI : oI.cls = .type "function") (lu : us.length ≤ sizeLine)
    (k : ∀ h' e, Heap.MadeExcOf h h' e (.ref C) us → h.objs.size ≤ e →
      wpAny (model prog w) (A.under (.builtin "type.__call__" ⟨.ref C :: us, []⟩)) (call (.ref fI) (.ref e :: us)) (fun r s' => r = .none ∧ Q (.ref e) s') E ⟨h', g, d, t, os⟩) :
    wpAny (model prog w) A (call (.ref C) us) Q E ⟨h, g, d, t, os⟩ := by
  have a1 := tc_lookup
  have a2 := tc_bind (.ref C)
  have ty : (⟨h, g, d, t, os⟩ : Shared).TypeIs (.ref C) "type" := ⟨_, gC, rfl⟩
  refine wpAny_call (codeAny_of_tree ?_)
  show wpAny _ _ (callAny (.ref C) _) _ _ _
  repeat (any_goals (first | assumption | with_reducible refine wpAny_loadPart_at gC ?_ | wp_step))
  refine ⟨rfl, ?_⟩
  refine codeAny_call_builtin_at (Code.quiet_builtin _ (by decide +kernel)) entry_typeCall (wpAny_check_type_call_sub gC (xgv F T gC hi gI cI lu fun h' e hm hs => ?_))
  exact k h' e hm hs
theorem xku {M : Model} {s : Shared} {env : Env} {x : Sem Value} {Q : Flow → Shared → Prop} (hh : A.handled = none)
    (k : wpAny M A x (fun v s1 => ∃ e od C nm qn N bs bm hz sn sub ab col dd k0 k1 k2 k3 k5 ni, v = .ref e ∧ bm.contains (.type "BaseException") = true ∧ s1.heap.get? C = some (excClassObj nm qn C N bs bm hz sn sub ab col dd k0 k1 k2 k3 k5 ni) ∧ Xat s1.heap e (.ref C) od none ∧ E (.ref e) s1) E s) :
    wpAny M A (raiseStmt env (some x) none) Q E s := by
  unfold raiseStmt
  refine wpAny_bind (wpAny_mono k (fun v s1 z => ?_) fun _ _ x => x)
  obtain ⟨e, od, C, nm, qn, N, bs, bm, hz, sn, sub, ab, col, dd, k0, k1, k2, k3, k5, ni, rfl, bB, gC, ⟨oe, vs, ge, ce, oo, de, se, y⟩, zE⟩ := z
  have me : (Value.ref C :: bm).contains (.type "BaseException") = true := by rw [List.contains_cons, bB, Bool.or_true]
  obtain ⟨hp, g, d, tk, os⟩ := s1
  rcases y with ⟨_, y1⟩ | ⟨T, _, _, z, _⟩
  · repeat (first | (with_reducible refine wpAny_loadPart_at ge ?_; rw [ce]) | with_reducible refine wpAny_loadPart_at gC ?_ | (with_reducible refine wpAny_isSubtype_exc gC ?_; rw [me]) | wp_step)
    rw [de]
    refine wpAny_pure ?_
    rw [y1]
    refine wpAny_pure ?_
    rw [if_neg (by decide)]
    exact wpAny_pure (wpAny_raiseNew_none hh zE)
  · cases z
end
end XL
set_option maxRecDepth 100000
namespace XL
open PySem PySem.W PySem.Calls PyProof.Rows Builtin Builtin.ObjectAttr
def vErr : List Value := [.type "ValueError", .type "Exception", .type "BaseException", .type "object"]
def xdd : List Value → Bool
  | [] => false
  | .ref c :: r => xdd r || ((.ref c :: r : List Value) == vErr)
  | v :: r => (v :: r) == vErr
def xaw (K : Frag) (C : Addr) : Bool := (clsIn K C).any fun cd => xdd cd.mro
theorem xe9 (self : Value) : ∀ {l : List Value}, xdd l = true → refuseLoop self "__setattr__" l = pure ()
  | [], e => by cases e
  | v :: r, e => by
    have last : ((v :: r : List Value) == vErr) = true → refuseLoop self "__setattr__" (v :: r) = pure () := fun z => by
      rw [eq_of_beq z]
      exact PySem.F.store_ValueError.passes self
    cases v with
    | ref c =>
      rcases Bool.or_eq_true_iff.mp e with z | z
      · rw [refuseLoop_ref]
        exact xe9 self z
      · exact last z
    | _ => exact last e
theorem xd7 : ∀ {l : List Value}, xdd l = true → l.contains (.type "object") = true ∧ l.contains (.type "BaseException") = true ∧ l.isEmpty = false
  | [], e => by cases e
  | v :: r, e => by
    have last : ((v :: r : List Value) == vErr) = true → (v :: r).contains (.type "object") = true ∧ (v :: r).contains (.type "BaseException") = true ∧ (v :: r).isEmpty = false := fun z => by
      rw [eq_of_beq z]
      exact ⟨by decide +kernel, by decide +kernel, rfl⟩
    cases v with
    | ref c =>
      rcases Bool.or_eq_true_iff.mp e with z | z
      · obtain ⟨a, b, _⟩ := xd7 z
        exact ⟨by rw [List.contains_cons, a, Bool.or_true], by rw [List.contains_cons, b, Bool.or_true], rfl⟩
      · exact last z
    | _ => exact last e
structure XC (K : Frag) (C : Addr) : Prop where
  over : xaw K C = true
  hd : hasDictIn K C = true
  sa : findIn K (.ref C) "__setattr__" = some (some (.builtin "object.__setattr__"))
  ga : findIn K (.ref C) "__getattribute__" = some (some (.builtin "BaseException.__getattribute__"))
  gh : findIn K (.ref C) "__getattr__" = some none
  ca : findIn K (.ref C) "__class__" = some (some (.builtin "object.__class__"))
  cg : specialIn K (.builtin "object.__class__") "__get__" = some (some (.builtin "getset_descriptor.__get__"))
  ct : takesIn K (.builtin "object.__class__") = some true
section
variable {prog : Program} {w : World} {A : Around} {E : Value → Shared → Prop} {s : Shared} {K : Frag} {x C dx : Addr} {ox : Obj} {od : Option Obj} {name : Str} {v : Value} {R : Result → Shared → Prop}
theorem XC.mro (c : XC K C) : ∃ cd, clsIn K C = some cd ∧ xdd cd.mro = true ∧ cd.hasDict = true := by
  obtain ⟨cd, h1, h2⟩ := any_some c.over
  obtain ⟨cd', h3, h4⟩ := any_some c.hd
  rw [h1] at h3
  cases h3
  exact ⟨cd, h1, h2, h4⟩
theorem XC.isObj (c : XC K C) : mroIn K C (.type "object") = some true := by
  obtain ⟨cd, h1, h2, _⟩ := c.mro
  obtain ⟨a, _, b⟩ := xd7 h2
  unfold mroIn
  rw [h1, Option.bind_some, if_neg (by rw [b]; decide), a]
theorem XC.isExc (c : XC K C) : mroIn K C (.type "BaseException") = some true := by
  obtain ⟨cd, h1, h2, _⟩ := c.mro
  obtain ⟨_, a, b⟩ := xd7 h2
  unfold mroIn
  rw [h1, Option.bind_some, if_neg (by rw [b]; decide), a]
theorem xkm {tk : Tok} (X : K.In s.heap) (c : XC K C) (I : InstAt s.heap x ox C od) (ha : findIn K (.ref C) name = some none)
    (h : wpAny (model prog w) A.in1 (storeInOwnDict (.ref x) (.ref C) (.str name tk) name v false)
      (fun fin s' => match fin with | .done f => R (.ok f) s' | .again c' => c'.quiet = true ∧ codeAny (model prog w) A c' R s') (fun e s' => R (.error e) s') s) :
    codeAny (model prog w) A (.call (.builtin "object.__setattr__") ⟨[.ref x, .str name tk, v], []⟩) R s := by
  have SF := PySem.F.store_object
  obtain ⟨cd, hc, hl, _⟩ := c.mro
  have sub : Looks (model prog w) s.heap (isInstance (.ref x) (.type "object")) true := I.type.andThen (looks_mroIn X c.isObj)
  refine codeAny_call_builtin SF.slot.plain SF.entry (@check_slot (model prog w) _ _ s "object.__setattr__" "object" "__setattr__" (.ref x) [.str name tk, v] [] _ SF.kind SF.split sub (SF.args (.ref x) (.str name tk) v) ?_)
  have hm : Looks (model prog w) s.heap (mroOf (.ref C)) cd.mro := (looks_clsIn X hc).andThen .now
  rw [osa_eq, refuse_eq]
  refine wpAny_bind (wpAny_bind (I.type.here (wpAny_bind (hm.here ?_))))
  rw [xe9 _ hl]
  refine wpAny_pure (wpAny_bind (I.type.here (wpAny_bind ((looks_findIn X ha).here (wpAny_bind ((Looks.now (a := (none : Option Value))).here ?_))))))
  exact h
theorem xm8 (X : K.In s.heap) (c : XC K C) (hx : s.heap.get? x = some ox) (hc : ox.cls = .ref C) (ho : ox.dict = some dx) {Q : Option Addr → Shared → Prop} (h : Q (some dx) s) :
    wpAny (model prog w) A (ownDictForStores (.ref x)) Q E s := by
  obtain ⟨cd, h1, _, h2⟩ := c.mro
  unfold ownDictForStores instanceDict
  refine wpAny_bind (wpAny_loadPart hx ?_)
  rw [hc]
  refine wpAny_bind ((looks_clsIn X h1).here ?_)
  rw [h2, ho]
  exact wpAny_pure h
theorem xlz {ns : List Str} {mA : Str → Option Value} {Q : Unit → Shared → Prop} (X : K.In s.heap) (c : XC K C) (hx : s.heap.get? x = some ox) (hc : ox.cls = .ref C) (hn : notCls ox = true) (ho : ox.dict = some dx) (hm : s.heap.Ns1 dx mA)
    (ha : findIn K (.ref C) name = some none) (hw : PySem.Within mA ns) (hz : ns.length ≤ sizeLine)
    (h : ∀ h', h'.Ns1 dx (fun y => if y = name then some v else mA y) → Heap.SameBut dx s.heap h' → Q () { s with heap := h', toks := s.toks + 2 }) :
    wpAny (model prog w) A (setAttr (.ref x) name v) Q E s := by
  obtain ⟨o1, _, _, g1, _⟩ := id hm
  have I : InstAt s.heap x ox C (some o1) := ⟨hx, hc, hn, by rw [ho]; exact g1⟩
  refine set_plain X I c.sa (xkm (s := { s with toks := s.toks + 1 }) X c I ha ?_)
  refine wpAny_bind (wpAny_pure (wpAny_bind (xm8 (s := { s with toks := s.toks + 1 }) X c hx hc ho ?_)))
  refine wpAny_bind (wpAny_pure (wpAny_bind ?_))
  refine wpAny_nsSet1 (s := { s with toks := s.toks + 1 }) hm fun h' n2 s2 => ?_
  obtain ⟨oD, eD, pD, gD, dD, cD⟩ := n2.count (PySem.Within.cons name v hw)
  refine wpAny_bind (wpAny_lookBehind gD (by rw [dD]; exact pastItsLine_dict (Nat.le_trans cD (by rw [List.length_cons]; omega))) ?_)
  exact wpAny_pure (h _ n2 s2)
theorem xl4 {Q : Unit → Shared → Prop} (X : K.In s.heap) (c : XC K C) (hx : s.heap.get? x = some ox) (hc : ox.cls = .ref C) (hn : notCls ox = true) (ho : ox.dict = none) (hf : ox.isFreed = false)
    (ha : findIn K (.ref C) name = some none)
    (h : ∀ h', h'.get? x = some { ox with dict := some s.heap.objs.size } → h'.Ns1 s.heap.objs.size (fun y => if y = name then some v else none) →
      (∀ b o, b ≠ x → s.heap.get? b = some o → h'.get? b = some o) → s.heap.objs.size ≤ h'.objs.size → Q () { s with heap := h', toks := s.toks + 2 }) :
    wpAny (model prog w) A (setAttr (.ref x) name v) Q E s := by
  obtain ⟨cd, h1, _, h2⟩ := c.mro
  have I : InstAt s.heap x ox C none := ⟨hx, hc, hn, by rw [ho]; trivial⟩
  refine set_plain X I c.sa (xkm (s := { s with toks := s.toks + 1 }) X c I ha ?_)
  refine wpAny_bind (wpAny_pure (wpAny_bind ?_))
  unfold ownDictForStores instanceDict
  refine wpAny_bind (wpAny_loadPart (s := { s with toks := s.toks + 1 }) hx ?_)
  rw [hc]
  refine wpAny_bind ((looks_clsIn X h1).here (s := { s with toks := s.toks + 1 }) ?_)
  rw [h2, ho, if_neg (by simp)]
  obtain ⟨oc, odi, oda, osl⟩ := ox
  dsimp only at hc ho
  subst hc ho
  have hx1 : (s.heap.push { cls := .type "dict", data := .dict #[] }).get? x = some ⟨.ref C, none, oda, osl⟩ := Heap.get?_push_of_some _ hx
  have nx : x ≠ s.heap.objs.size := Nat.ne_of_lt (Heap.lt_size hx)
  have key : wpAny (model prog w) A.in1 (do let d ← alloc { cls := .type "dict", data := .dict #[] }; update x (fun o => { o with dict := some d }); dictMade (.ref C) x d)
      (fun a s' => wpAny (model prog w) A.in1 (match a with | some d => storeInDict d (.str name s.toks) name v | none => noDictFor (.ref x) (.ref C) name false)
        (fun fin s' => match fin with
          | .done f => (match (Except.ok f : Result) with | .ok (.ret _) => Q () s' | .ok _ => False | .error e => E e s')
          | .again c' => c'.quiet = true ∧ codeAny (model prog w) A c' (fun r s' => match r with | .ok (.ret _) => Q () s' | .ok _ => False | .error e => E e s') s')
        (fun e s' => E e s') s') (fun e s' => E e s') { s with toks := s.toks + 1 } := by
    refine wpAny_bind (wpAny_alloc' ?_)
    refine wpAny_bind (wpAny_update' hx1 ?_)
    refine wpAny_pure ?_
    dsimp only
    have g2 : ((s.heap.push { cls := .type "dict", data := .dict #[] }).update x fun o => { o with dict := some s.heap.objs.size }).get? s.heap.objs.size = some { cls := .type "dict", data := .dict #[] } :=
      (Heap.get?_update_ne _ _ _ _ nx.symm).trans (Heap.get?_push_at rfl rfl)
    have n2 : ((s.heap.push { cls := .type "dict", data := .dict #[] }).update x fun o => { o with dict := some s.heap.objs.size }).Ns s.heap.objs.size (fun _ => none) :=
      ⟨_, #[], _, g2, rfl, fun e he => absurd he (by simp), fun _ => rfl⟩
    unfold storeInDict newKeyGuard
    refine wpAny_bind (wpAny_pure (wpAny_bind (wpAny_nsSet1 (Heap.Ns1.of_empty n2) fun h' n3 s3 => ?_)))
    obtain ⟨oD, eD, pD, gD, dD, cD⟩ := n3.count (Within.cons name v Within.nil)
    refine wpAny_bind (wpAny_lookBehind gD (by rw [dD]; exact pastItsLine_dict (Nat.le_trans cD (by rw [List.length_cons, List.length_nil, sizeLine_eq]; omega))) ?_)
    refine wpAny_pure (h h' ?_ n3 (fun b o bx hb => ?_) ?_)
    · refine (s3.2 x nx).trans (Heap.get?_update_self _ hx1 ?_)
      cases oda <;> first | rfl | exact hf
    · exact (s3.2 b (Nat.ne_of_lt (Heap.lt_size hb))).trans ((Heap.get?_update_ne _ _ _ _ bx).trans (Heap.get?_push_of_some _ hb))
    · rw [s3.1, Heap.size_after_update, Heap.size_push]
      exact Nat.le_succ _
  cases oda <;> first | exact key | cases hn
theorem xk7 (v : Value) : bindSpecial (.builtin "BaseException.__getattribute__") v = pure (.builtin "BaseException.__getattribute__", [v]) := by
  have f := PySem.F.attr_ValueError.ga.bind v
  exact f
theorem xji : plainId "BaseException.__getattribute__" = true := PySem.F.attr_ValueError.ga.plain
theorem xjf {Q : Value → Shared → Prop} {expr fill : Bool} {tk : Tok} (X : K.In s.heap) (c : XC K C) (I : InstAt s.heap x ox C od)
    (h : wpAny (model prog w) A.in1 (Builtin.«object.__getattribute__» ⟨[.ref x, .str name tk], []⟩)
      (fun fin s' => match fin with | .done (.ret v) => wpAny (model prog w) A (handedOut v) Q E s' | _ => False) (fun _ _ => False) s) :
    wpAny (model prog w) A (getAttrBy (.ref x) (.str name tk) fill expr) Q E s := by
  obtain ⟨hh, g, d, t, os⟩ := s
  have L0 := I.type (M := model prog w)
  have L1 := looks_findIn (M := model prog w) X c.ga
  have L2 := looks_findIn (M := model prog w) X c.gh
  have sub : Looks (model prog w) hh (isInstance (.ref x) (.type "BaseException")) true := I.type.andThen (looks_mroIn X c.isExc)
  have f2 : (onTheHeap (Value.ref C) && Value.builtin "BaseException.__getattribute__" == Value.builtin "object.__getattribute__") = false := by
    rw [show (Value.builtin "BaseException.__getattribute__" == Value.builtin "object.__getattribute__") = false from by decide +kernel]; rfl
  have f3 : (expr && onTheHeap (Value.builtin "BaseException.__getattribute__")) = false := by cases expr <;> rfl
  unfold getAttrBy
  refine wpAny_holding (wpAny_bind (L0.at (wpAny_bind (L1.at ?_))))
  dsimp only
  rw [f2]
  simp only [Bool.false_eq_true, if_false]
  unfold getAttrByItsOwn hookBefore
  refine wpAny_bind (L2.at (wpAny_bind (wpAny_attempt (wpAny_holding ?_))))
  unfold callGetattribute
  rw [f3]
  simp only [Bool.false_eq_true, if_false]
  unfold boundAndCalled
  rw [xk7]
  refine wpAny_bind (wpAny_pure (wpAny_call (codeAny_call_builtin xji PySem.F.entry_bexc_ga
    (@check_slot (model prog w) _ _ ⟨hh, g, d, t, os⟩ "BaseException.__getattribute__" "BaseException" "__getattribute__" (.ref x) [.str name tk] [] _ (by decide +kernel) (by decide +kernel) sub (PySem.F.args_bexc_ga _ _) ?_))))
  refine wpAny_mono h (fun fin s' z => ?_) fun e s' z => z.elim
  rcases fin with (_ | _ | _ | _) | _ <;> first | exact z | exact z.elim
theorem xni {Q : Value → Shared → Prop} {expr : Bool} (X : K.In s.heap) (c : XC K C) (hx : s.heap.get? x = some ox) (hc : ox.cls = .ref C) (hn : notCls ox = true) (ho : ox.dict = some dx) {o1 : Obj} (g1 : s.heap.get? dx = some o1) (hl : lookIn name o1 = some (some v))
    (ha : findIn K (.ref C) name = some none) (hv : handedIn v = true) (h : Q v { s with toks := s.toks + 1 }) :
    wpAny (model prog w) A (getAttr (.ref x) name expr) Q E s := by
  have I : InstAt s.heap x ox C (some o1) := ⟨hx, hc, hn, by rw [ho]; exact g1⟩
  have hf : findObj K C (some o1) name = some (.value v) := findObj_own c.hd ha rfl hl
  unfold getAttr
  refine wpAny_bind (wpAny_mkText ?_)
  refine xjf (s := { s with toks := s.toks + 1 }) X c I ?_
  have L0 := I.type (M := model prog w)
  have L1 := looks_find (M := model prog w) X I hf
  obtain ⟨hh, g, d, t, os⟩ := s
  refine wpAny_bind (wpAny_pure (wpAny_bind (wpAny_pure (wpAny_bind (L0.at (wpAny_bind (L1.at ?_)))))))
  refine wpAny_pure ?_
  show wpAny _ _ (handedOut v) _ _ _
  rw [handedOut_of hv]
  exact wpAny_pure h
theorem xj1 {Q : Option Value → Shared → Prop} (X : K.In s.heap) (c : XC K C) (I : InstAt s.heap x ox C od) (h : Q (some (.ref C)) { s with toks := s.toks + 1 }) :
    wpAny (model prog w) A (getAttr? (.ref x) "__class__") Q E s := by
  obtain ⟨cd, h1, _, h2⟩ := c.mro
  have hf : findObj K C od "__class__" = some (.bind (.builtin "getset_descriptor.__get__") (.builtin "object.__class__")) := by
    unfold findObj
    rw [h1, Option.bind_some, c.ca, Option.bind_some]
    simp [c.cg, c.ct]
  unfold getAttr? getAttrBy?
  refine wpAny_bind (wpAny_mkText (wpAny_bind (wpAny_attempt ?_)))
  refine xjf (s := { s with toks := s.toks + 1 }) X c I ?_
  have L0 := I.type (M := model prog w)
  have L1 := looks_find (M := model prog w) X I hf
  refine wpAny_bind (wpAny_pure (wpAny_bind (wpAny_pure (wpAny_bind (L0.here (s := { s with toks := s.toks + 1 }) (wpAny_bind (L1.here (s := { s with toks := s.toks + 1 }) ?_)))))))
  show wpAny _ _ (holding [_] (call _ [_, .ref x, .ref C]) >>= ret) _ _ _
  refine wpAny_bind (wpAny_holding (wpAny_call (class_get (s := { s with toks := s.toks + 1 }) (ox := ox) (od := od) X I c.isObj ?_)))
  refine wpAny_pure ?_
  show wpAny _ _ (handedOut (.ref C)) _ _ _
  exact wpAny_pure (wpAny_pure h)
end
end XL
set_option maxRecDepth 100000
namespace XL
open PySem
theorem xjo {x y : Str} {v : Value} (hx : v.isStr x = true) (n : y ≠ x) : v.isStr y = false := by
  cases v <;> simp_all [Value.isStr]
  exact fun z => n z.symm
theorem xei {name y : Str} (n : y ≠ name) : ∀ (l : List DictEntry) (i : Nat), l.findIdx? (·.key.isStr name) = some i → (l.eraseIdx i).find? (·.key.isStr y) = l.find? (·.key.isStr y)
  | [], i, h => by simp at h
  | e :: r, i, h => by
    rw [List.findIdx?_cons] at h
    by_cases q : e.key.isStr name = true
    · rw [if_pos q] at h
      cases h
      have z := xjo q n
      simp [z]
    · rw [if_neg q] at h
      cases hi : r.findIdx? (·.key.isStr name) with
      | none => rw [hi] at h; cases h
      | some j =>
        rw [hi] at h
        cases h
        have ih := xei n r j hi
        simp only [List.eraseIdx_cons_succ, List.find?_cons]
        split
        · rfl
        · exact ih
section
variable {M : Model} {A : Around} {E : Value → Shared → Prop} {s : Shared} {env : Env}
theorem xlh {a : Addr} {m : Str → Option Value} {name : Str} {Q : Bool → Shared → Prop} (hn : s.heap.Ns a m)
    (k : ∀ h' m', h'.Ns a m' → (∀ y, y ≠ name → m' y = m y) → Heap.SameBut a s.heap h' → Q (m name).isSome { s with heap := h' }) : wpAny M A (nsDel a name) Q E s := by
  obtain ⟨o, es, ep, ho, hd, hk, hm⟩ := id hn
  have nor : es.any (·.refKey) = false := by
    rw [Array.any_eq_false']
    intro e he
    obtain ⟨n, t, h⟩ := hk e he
    simp [DictEntry.refKey, h]
  have some_eq : (m name).isSome = es.any (·.key.isStr name) := by
    rw [← hm name]
    simp only [nsFind, findBy, Option.isSome_map]
    rw [Bool.eq_iff_iff]
    simp only [Array.find?_isSome, Array.any_eq_true]
    constructor
    · rintro ⟨z, hz, hp⟩
      obtain ⟨i, hi, rfl⟩ := Array.mem_iff_getElem.mp hz
      exact ⟨i, hi, hp⟩
    · rintro ⟨i, hi, hp⟩
      exact ⟨_, Array.getElem_mem hi, hp⟩
  have has : nsHas name o = pure (es.any (·.key.isStr name)) := by
    rw [nsHas_eq]
    unfold nsHasByArray
    rw [hd]
    show (if (es.any fun z => z.key.isStr name) = true then _ else _) = _
    generalize (es.any fun z => z.key.isStr name) = b
    cases b <;> simp [nor]
  unfold nsDel
  refine wpAny_bind (wpAny_loadPart ho ?_)
  rw [has]
  refine wpAny_bind (wpAny_pure ?_)
  rw [← some_eq]
  cases q : (m name).isSome
  · have z := k s.heap m hn (fun _ _ => rfl) (.refl ..)
    rw [q] at z
    exact wpAny_pure z
  · refine wpAny_bind (wpAny_updatePart ho (wpAny_pure ?_))
    have key : ∃ m', (s.heap.update a (Obj.dropName name)).Ns a m' ∧ ∀ y, y ≠ name → m' y = m y := by
      obtain ⟨cl, d, dt, sl⟩ := o
      subst hd
      cases hi : es.findIdx? (·.key.isStr name) with
      | none =>
        exact ⟨m, ⟨_, _, ep, Heap.get?_update_self _ ho (by simp only [Obj.dropName_eq, Obj.dropNameByArray, hi] <;> rfl), (by simp only [Obj.dropName_eq, Obj.dropNameByArray, hi] <;> rfl), hk, hm⟩, fun _ _ => rfl⟩
      | some i =>
        refine ⟨_, ⟨_, _, ep + 1, Heap.get?_update_self _ ho (by simp only [Obj.dropName_eq, Obj.dropNameByArray, hi] <;> rfl), (by simp only [Obj.dropName_eq, Obj.dropNameByArray, hi] <;> rfl), hk.erase i, fun _ => rfl⟩, fun y hy => ?_⟩
        rw [← hm y]
        obtain ⟨l⟩ := es
        have hi' : l.findIdx? (·.key.isStr name) = some i := by simpa using hi
        have z := xei hy l i hi'
        simp only [nsFind, findBy]
        have il : i < l.length := by
          have := List.findIdx?_eq_some_iff_findIdx_eq.mp hi'
          exact this.1
        have e1 : (Array.mk l).eraseIdxIfInBounds i = Array.mk (l.eraseIdx i) := by
          simp [Array.eraseIdxIfInBounds, il]
        rw [e1]
        simp only [List.find?_toArray]
        rw [z]
    obtain ⟨m', n', e'⟩ := key
    have z := k _ m' n' e' (Heap.SameBut.update ..)
    rw [q] at z
    exact z
theorem xih {n : Str} {pos : Pos} {m : Str → Option Value} {Q : Unit → Shared → Prop} (hl : env.kindOf n = some .local) (hn : s.heap.Ns env.locals m)
    (hp : (env.scope.kind == .class || (env.scope.kind == .module && env.locals != env.globals)) = false)
    (h : ∀ h' m', h'.Ns env.locals m' → (∀ y, y ≠ n → m' y = m y) → Heap.SameBut env.locals s.heap h' → Q () { s with heap := h', toks := s.toks + 1 }) :
    wpAny M A (do bindName env n .none; unbindBehindTheSuite env n pos) Q E s := by
  refine wpAny_bind (wpAny_bindName (wpAny_storeName_local hl hn (fun h1 n1 s1 => ?_) hp))
  unfold unbindBehindTheSuite
  refine wpAny_onRaise ?_
  unfold unbindName
  refine wpAny_bind (wpAny_point (wpAny_bind ?_))
  unfold deleteName
  simp only [hl, hp]
  rw [if_neg (by decide)]
  refine wpAny_bind (xlh n1 fun h2 m2 n2 e2 s2 => ?_)
  simp only [if_true, Option.isSome_some, Bool.not_true, Bool.false_eq_true, if_false]
  refine wpAny_pure (wpAny_point (h h2 m2 n2 (fun y hy => ?_) (s1.trans s2)))
  rw [e2 y hy, if_neg hy]
end
end XL
set_option maxRecDepth 100000
namespace L2
open PySem PySem.Spec PyProof.Rows XL
variable {q0 : Bool}
def XN (e C : Addr) (od : Option Addr) : HO := .ext fun h => Xat h e (.ref C) od none
def XO (e C : Addr) (od : Option Addr) : HO := .ext fun h => ∃ ox vs, h.get? e = some ox ∧ ox.cls = .ref C ∧ ox.dict = od ∧ ox.data = .fields vs
def XD (dx : Addr) (fs : List (Str × V)) : HO := .ext fun h => fs.length ≤ 1000 ∧ ∃ mA, h.Ns1 dx mA ∧ (∀ f, RelO (fs.lookup f) (mA f)) ∧ PySem.Within mA (fs.map (·.1))
section
variable {P : Program} {w : World} {H : Hp} {h : Heap} {e C dx : Addr} {od : Option Addr} {fs : List (Str × V)}
theorem xhr (x : Xat h e (.ref C) od none) : xav P w H h e (XN e C od) := by
  refine ⟨x, ?_, fun h1 h2 z k => ?_⟩
  · obtain ⟨oe, _, g, _⟩ := x
    exact ⟨oe, g⟩
  · obtain ⟨oe, vs, g, c, o, d, sz, y⟩ := z
    rcases y with y | ⟨T, _, _, z, _⟩
    · exact ⟨oe, vs, k oe g, c, o, d, sz, .inl y⟩
    · cases z
theorem xkd (x : ∃ ox vs, h.get? e = some ox ∧ ox.cls = .ref C ∧ ox.dict = od ∧ ox.data = .fields vs) : xav P w H h e (XO e C od) := by
  refine ⟨x, ?_, fun h1 h2 z k => ?_⟩
  · obtain ⟨oe, _, g, _⟩ := x
    exact ⟨oe, g⟩
  · obtain ⟨oe, vs, g, c, o, d⟩ := z
    exact ⟨oe, vs, k oe g, c, o, d⟩
theorem xib {tb : Option Addr} (x : Xat h e (.ref C) od tb) : ∃ ox vs, h.get? e = some ox ∧ ox.cls = .ref C ∧ ox.dict = od ∧ ox.data = .fields vs := by
  obtain ⟨oe, vs, g, c, o, d, _⟩ := x
  exact ⟨oe, vs, g, c, o, d⟩
theorem xly {h1 h2 : Heap} {m : Str → Option Value} (n : h1.Ns1 dx m) (k : ∀ o, h1.get? dx = some o → h2.get? dx = some o) : h2.Ns1 dx m := by
  obtain ⟨o, es, ep, g, r⟩ := n
  exact ⟨o, es, ep, k o g, r⟩
theorem xkb (hl : fs.length ≤ 1000) {mA : Str → Option Value} (n : h.Ns1 dx mA) (r : ∀ f, RelO (fs.lookup f) (mA f)) (wi : PySem.Within mA (fs.map (·.1))) : xav P w H h dx (XD dx fs) := by
  refine ⟨⟨hl, mA, n, r, wi⟩, ?_, fun h1 h2 z k => ?_⟩
  · obtain ⟨o, es, ep, g, _⟩ := n
    exact ⟨o, g⟩
  · obtain ⟨hl, mA, n, r, wi⟩ := z
    exact ⟨hl, mA, xly n k, r, wi⟩
end
def CXo (P : Program) (w : World) : CXT := fun outer H s E u s' => ∃ e C od H' T, u = .ref e ∧ s'.os = s.os ∧ AllBare s'.gens ∧ Un (frs outer) [] H H' s.heap s'.heap ∧ HOk P w H' s'.heap ∧
  Xat s'.heap e (.ref C) od (some T) ∧ H' e = some (XO e C od) ∧ s.heap.objs.size ≤ T ∧ H' T = none ∧ E e C H'
def Tbs (X : Cx) (pins : List (Addr × Obj)) (H : Hp) (tb : Option Addr) : Prop := ∀ T, tb = some T → X.s₀.heap.objs.size ≤ T ∧ H T = none ∧ T ≠ X.env.locals ∧ (∀ x c, X.env.cells.lookup x = some c → c ≠ T) ∧ ∀ p ∈ X.pn ++ pins, p.1 ≠ T
def xdw (X : Cx) (E : St → XK) : Prop := ∀ (pins : List (Addr × Obj)) (σ : St) (H : Hp) (s : Shared) (e C : Addr) (od tb : Option Addr), Inv X pins σ H s → Xat s.heap e (.ref C) od tb → H e = some (XO e C od) →
  Tbs X pins H tb → E σ e C H → X.xe (.ref e) s
section
variable {X : Cx} {pins : List (Addr × Obj)} {σ : St} {H : Hp} {s : Shared} {e C : Addr} {od tb : Option Addr}
theorem Inv.size_lt (I : Inv X pins σ H s) {b : Addr} (h : s.heap.objs.size ≤ b) : H b = none ∧ b ≠ X.env.locals ∧ (∀ x c, X.env.cells.lookup x = some c → c ≠ b) ∧ ∀ p ∈ X.pn ++ pins, p.1 ≠ b := by
  refine ⟨I.hok.fresh h, fun z => ?_, fun x c hc z => ?_, fun p hp z => ?_⟩
  · rw [z] at h
    exact absurd I.lt (Nat.not_lt.mpr h)
  · obtain ⟨v, o, ho, _⟩ := I.cell x c hc
    rw [z] at ho
    exact absurd (Heap.lt_size ho) (Nat.not_lt.mpr h)
  · have g := (I.pin p hp).1
    rw [z] at g
    exact absurd (Heap.lt_size g) (Nat.not_lt.mpr h)
theorem Inv.noted {h' : Heap} {T : Addr} (I : Inv X pins σ H s) (he : H e = some (XO e C od)) (tbs : Tbs X pins H tb) (st : Stp (frs X.stack) e tb s.heap h') (x : Xat h' e (.ref C) od (some T)) :
    Inv X pins σ H { s with heap := h' } := by
  have neE : ∀ b, H b = none → b ≠ e := fun b n z => by rw [z, he] at n; cases n
  have neT : ∀ b u, H b = some u → tb ≠ some b := fun b u hb z => by rw [(tbs b z).2.1] at hb; cases hb
  have nfr : ∀ b u, H b = some u → b ∉ frs X.stack := fun b u hb z => by rw [I.stkFree b z] at hb; cases hb
  have kp : ∀ b u o, H b = some u → b ≠ e → s.heap.get? b = some o → h'.get? b = some o := fun b u o hb ne g => st.keep b o g ne (neT b u hb) (nfr b u hb)
  have un : Un (frs X.stack) tb.toList H H s.heap h' := by
    refine ⟨fun b o g n hb hx => st.keep b o g (neE b n) (fun z => hx (by rw [z]; simp)) hb, fun b o g n hb hx => st.slot b o g hb, fun b o g n hx => n, fun b o g hx => ?_, fun b xs z => z, fun b o u z => z, fun b ps z => ⟨#[], by rw [z]; simp⟩⟩
    by_cases b1 : b = e
    · subst b1
      obtain ⟨oe, _, ge, _⟩ := x
      exact ⟨oe, ge⟩
    · by_cases b2 : b ∈ frs X.stack
      · obtain ⟨sl, q⟩ := st.slot b o g b2
        exact ⟨_, q⟩
      · exact ⟨o, st.keep b o g b1 (fun z => hx (by rw [z]; simp)) b2⟩
  have hok : HOk X.prog X.w H h' := fun b u hb => by
    by_cases b1 : b = e
    · subst b1
      rw [he] at hb
      cases hb
      exact xkd (xib x)
    · refine (I.hok b u hb).stay (fun c v hc q => ?_) (fun c q => q) fun c xs q => q
      rcases hc with rfl | hc
      · exact kp c u v hb b1 q
      · exact kp c _ v hc (fun z => by rw [z, he] at hc; cases hc) q
  refine I.call (g' := s.gens) (d' := s.drawn) (t' := s.toks) (ch := tb.toList) un hok I.bare fun b hb => ?_
  have z : tb = some b := by
    cases tb with
    | none => simp at hb
    | some T' => simp at hb; rw [hb]
  obtain ⟨a1, _, a3, a4, a5⟩ := tbs b z
  exact ⟨.inr a1, a3, a4, a5⟩
theorem xdw.pass {E : St → XK} (t : xdw X E) : xcg (CXo X.prog X.w) X E := fun pins σ H s u s' I h => by
  obtain ⟨e, C, od, H', T, rfl, os, bare, un, hok, x, he, sT, hT, q⟩ := h
  have J : Inv X pins σ H' s' := I.call' os un hok bare (ch := []) fun b z => absurd z (by simp)
  refine t pins σ H' s' e C od (some T) J x he (fun T' z => ?_) q
  cases z
  obtain ⟨_, a, b, c⟩ := I.size_lt sT
  exact ⟨Nat.le_trans I.sz sT, hT, a, b, c⟩
theorem xu : xcg (CXo X.prog X.w) X (fun _ _ _ _ => False) := fun pins σ H s u s' I h => by
  obtain ⟨e, C, od, H', T, _, _, _, _, _, _, _, _, _, q⟩ := h
  exact q.elim
theorem xaq {P : Program} {w : World} {K : PySem.W.Frag} {mg : Str → Option Value} {base : Heap} {N : List Str} {qual : Str} {scope : Scope} {f : Addr} {cd : Value} {A : Around} {outer : List Env} {s₀ : Shared} {H₀ : Hp} {E : XK} :
    xdw (cxOf q0 (CXo P w) P w K mg base N qual scope f cd A outer s₀ H₀ E) (fun _ => E) := fun pins σ H s e C od tb I x he tbs q => by
  show wpAny (model P w) _ (leaving _ (.ref e)) _ _ s
  unfold leaving
  refine wpAny_bind (xiq (L := s₀.heap.objs.size) I.ok.frames I.stack rfl x fun h' T st sT x' => ?_)
  have J := I.noted he tbs st x'
  exact ⟨e, C, od, H, T, rfl, J.os, J.bare, J.base, J.hok, x', he, Nat.le_trans I.sz sT, I.hok.fresh sT, q⟩
end
end L2
set_option maxRecDepth 100000
namespace XL
open PySem PySem.W
def xje (e : DictEntry) : Bool := match e.key with | .str _ _ => true | _ => false
def xdg (K : Frag) (ns : Addr) : Bool := match K.lookup ns with
  | some ⟨_, _, .dict es _, _⟩ => es.toList.all xje && !(es.toList.any (·.key.isStr "__init__"))
  | _ => false
def xee (K : Frag) : List Value → Bool
  | [] => false
  | .ref a :: r => (match K.lookup a with
      | some ⟨_, _, .cls cd, _⟩ => xdg K cd.ns && xee K r
      | _ => false)
  | v :: r => (v :: r) == vErr
theorem xkp {K : Frag} {h : Heap} {ns : Addr} (X : K.In h) (e : xdg K ns = true) : ∃ mA, h.Ns ns mA ∧ mA "__init__" = none := by
  unfold xdg at e
  split at e
  · rename_i es n sl ho
    obtain ⟨e1, e2⟩ := Bool.and_eq_true_iff.mp e
    refine ⟨_, ⟨_, es, _, X _ _ ho, rfl, fun z hz => ?_, fun _ => rfl⟩, ?_⟩
    · have q := List.all_eq_true.mp e1 z (Array.mem_toList_iff.mpr hz)
      unfold xje at q
      split at q
      · rename_i a b c
        exact ⟨a, b, c⟩
      · cases q
    · unfold nsFind findBy
      rw [← Array.find?_toList]
      have z : es.toList.find? (fun e => e.key.isStr "__init__") = none := by
        rw [List.find?_eq_none]
        intro y hy q
        rw [Bool.not_eq_true', List.any_eq_false] at e2
        exact e2 y hy q
      rw [z]
      rfl
  · cases e
theorem xgz {K : Frag} {h : Heap} (X : K.In h) : ∀ {l : List Value}, xee K l = true → OwnTail h vErr l
  | [], e => by cases e
  | v :: r, e => by
    have last : ((v :: r : List Value) == vErr) = true → OwnTail h vErr (v :: r) := fun z => by
      rw [eq_of_beq z]
      exact .base
    cases v with
    | ref a =>
      unfold xee at e
      split at e
      · rename_i c d cd sl ho
        obtain ⟨e1, e2⟩ := Bool.and_eq_true_iff.mp e
        obtain ⟨mA, n, z⟩ := xkp X e1
        exact .own (X _ _ ho) n z (xgz X e2)
      · cases e
    | _ => exact last e
def xaf (K : Frag) (C : Addr) : Bool := match K.lookup C with
  | some ⟨.type "type", _, .cls cd, sl⟩ => (match cd.mro, sl.toList with
    | .ref C' :: bm, [_, _, _, _, some (.builtin i), _] => C' == C && !cd.hasDel && i == "ValueError.__new__" && xee K bm
    | _, _ => false)
  | _ => false
theorem xdm {K : Frag} {h : Heap} {C : Addr} (X : K.In h) (q : xaf K C = true) : ∃ nm qn N bs bm hz sn sub ab col dd k0 k1 k2 k3 k5,
    h.get? C = some (excClassObj nm qn C N bs bm hz sn sub ab col dd k0 k1 k2 k3 k5 "ValueError.__new__") ∧ OwnTail h vErr bm := by
  unfold xaf at q
  split at q
  · rename_i dd cd sl ho
    split at q
    · rename_i C' bm k0 k1 k2 k3 n k5 hm hs
      simp only [Bool.and_eq_true, beq_iff_eq, Bool.not_eq_true'] at q
      obtain ⟨⟨⟨rfl, hdel⟩, rfl⟩, ht⟩ := q
      obtain ⟨nm, bs, mro, ns, qn, hd, sn, sub, ab, col, del⟩ := cd
      dsimp only at hm hdel
      subst hm hdel
      have hsl : sl = #[k0, k1, k2, k3, some (.builtin "ValueError.__new__"), k5] := by
        obtain ⟨l⟩ := sl
        simp only at hs
        rw [hs]
      subst hsl
      exact ⟨nm, qn, ns, bs, bm, hd, sn, sub, ab, col, dd, k0, k1, k2, k3, k5, X _ _ ho, xgz X ht⟩
    · cases q
  · cases q
end XL
namespace L2
open PySem PySem.Spec PyProof.Rows XL
variable {q0 : Bool}
section
variable {X : Cx} {pins : List (Addr × Obj)} {σ : St} {H : Hp} {s : Shared} {a C dx : Addr} {od : Option Addr} {fs : List (Str × V)} {f : Str} {v y : V} {u : Value} {A : Around} {E : Value → Shared → Prop}
theorem xfs (I : Inv X pins σ H s) (e : H a = some (XN a C od)) : Xat s.heap a (.ref C) od none := (I.hok a _ e).1
theorem xkn (I : Inv X pins σ H s) (e : H a = some (XO a C od)) : ∃ ox vs, s.heap.get? a = some ox ∧ ox.cls = .ref C ∧ ox.dict = od ∧ ox.data = .fields vs := (I.hok a _ e).1
theorem xfp (I : Inv X pins σ H s) (e : H dx = some (XD dx fs)) : fs.length ≤ 1000 ∧ ∃ mA, s.heap.Ns1 dx mA ∧ (∀ f, RelO (fs.lookup f) (mA f)) ∧ PySem.Within mA (fs.map (·.1)) := (I.hok dx _ e).1
theorem xcx {o : Obj} {vs : Array Value} (d : o.data = .fields vs) : PySem.W.notCls o = true := by
  unfold PySem.W.notCls
  rw [d]
theorem xj4 {Q : Unit → Shared → Prop} (I : Inv X pins σ H s) (e : H a = some (XN a C none)) (c : XC X.K C) (n : PySem.W.findIn X.K (.ref C) f = some none) (ry : RelV y u)
    (h : ∀ dx s', H dx = none → Inv X pins σ (upd (upd H dx (XD dx [(f, y)])) a (XN a C (some dx))) s' → Q () s') : wpAny (model X.prog X.w) A (setAttr (.ref a) f u) Q E s := by
  obtain ⟨oe, vs, g, ce, oo, de, sz, tb⟩ := xfs I e
  refine xl4 I.kIn c g ce (xcx de) oo (Obj.isFreed_of_fields de) n fun h' g' n' k sz' => h s.heap.objs.size _ (I.hok.fresh (Nat.le_refl _)) ?_
  have hN : H s.heap.objs.size = none := I.hok.fresh (Nat.le_refl _)
  have nad : a ≠ s.heap.objs.size := fun z => by rw [z, hN] at e; cases e
  have na : ∀ b, H b = none → b ≠ a := fun b nb z => by rw [z, e] at nb; cases nb
  have nd : ∀ b o, s.heap.get? b = some o → b ≠ s.heap.objs.size := fun b o gb => Nat.ne_of_lt (Heap.lt_size gb)
  have nd' : ∀ b u, H b = some u → b ≠ s.heap.objs.size := fun b u hb z => by rw [z, hN] at hb; cases hb
  have at1 : ∀ b, b ≠ a → b ≠ s.heap.objs.size → upd (upd H s.heap.objs.size (XD s.heap.objs.size [(f, y)])) a (XN a C (some s.heap.objs.size)) b = H b := fun b b1 b2 => by rw [xh b1, xh b2]
  have xnew : Xat h' a (.ref C) (some s.heap.objs.size) none := ⟨_, vs, g', ce, rfl, de, sz, by
    rcases tb with t | ⟨T, _, _, z, _⟩
    · exact .inl t
    · cases z⟩
  have own1 : ∀ b c, H c = some (.own b) → c ≠ a := fun b c hc z => by rw [z, e] at hc; cases hc
  have tup1 : ∀ c xs, H c = some (.tup xs) → c ≠ a := fun c xs hc z => by rw [z, e] at hc; cases hc
  refine I.un ⟨fun b o gb nb _ _ => k b o (na b nb) gb, fun b o gb nb _ _ => ⟨o.slots, k b o (na b nb) gb⟩, fun b o gb nb _ => ?_, fun b o gb _ => ?_, fun b xs z => ?_, fun b o w z => ?_, fun b ps z => ⟨#[], ?_⟩⟩ fun b w hb => ?_
  · rw [at1 b (na b nb) (nd b o gb)]; exact nb
  · by_cases b1 : b = a
    · exact ⟨_, by rw [b1]; exact g'⟩
    · exact ⟨o, k b o b1 gb⟩
  · rw [at1 b (tup1 b xs z) (nd' b _ z)]; exact z
  · rw [at1 b (fun q => by rw [q, e] at z; cases z) (nd' b _ z)]; exact z
  · rw [at1 b (fun q => by rw [q, e] at z; cases z) (nd' b _ z), z]; simp
  · by_cases b1 : b = a
    · subst b1
      rw [xf] at hb
      cases hb
      exact xhr xnew
    · rw [xh b1] at hb
      by_cases b2 : b = s.heap.objs.size
      · subst b2
        rw [xf] at hb
        cases hb
        refine xkb (by show 1 ≤ 1000; decide) n' (fun g => ?_) fun g hg => ?_
        · show RelO (List.lookup g [(f, y)]) (if g = f then some u else none)
          by_cases q : g = f
          · rw [if_pos q, q]
            simp only [List.lookup_cons, beq_self_eq_true]
            exact ry
          · rw [if_neg q]
            simp only [List.lookup_cons, beq_eq_false_iff_ne.mpr q]
            exact trivial
        · by_cases q : g = f
          · simp [q]
          · exact absurd (show (if g = f then some u else none) = none from if_neg q) hg
      · rw [xh b2] at hb
        refine (I.hok b w hb).stay (fun c v hc q => ?_) (fun c q => ?_) fun c xs q => ?_
        · rcases hc with rfl | hc
          · exact k c v b1 q
          · exact k c v (own1 b c hc) q
        · rw [at1 c (own1 b c q) (nd' c _ q)]; exact q
        · rw [at1 c (tup1 c xs q) (nd' c _ q)]; exact q
theorem xjt {Q : Unit → Shared → Prop} (I : Inv X pins σ H s) (e : H a = some (XN a C (some dx))) (ed : H dx = some (XD dx fs)) (hl : fs.length < 1000) (c : XC X.K C) (n : PySem.W.findIn X.K (.ref C) f = some none) (ry : RelV y u)
    (h : ∀ s', Inv X pins σ (upd H dx (XD dx (putF f y fs))) s' → Q () s') : wpAny (model X.prog X.w) A (setAttr (.ref a) f u) Q E s := by
  obtain ⟨oe, vs, g, ce, oo, de, sz, tb⟩ := xfs I e
  obtain ⟨_, mA, nm, r, wi⟩ := xfp I ed
  have hz : (fs.map (·.1)).length ≤ sizeLine := by rw [List.length_map, sizeLine_eq]; omega
  refine xlz I.kIn c g ce (xcx de) oo nm n wi hz fun h' n' sb => h _ ?_
  have hd : ∃ o, h'.get? dx = some o := let ⟨o, _, _, e', _⟩ := n'; ⟨o, e'⟩
  refine I.write (x := dx) (e := dx) (by rw [ed]; exact True.intro) (.inl rfl) (fun b q hb z => (sb.2 b hb).trans z) hd ?_
  refine xkb (Nat.le_trans (xc7 f y fs) hl) n' (fun g => ?_) fun g hg => ?_
  · show RelO ((putF f y fs).lookup g) (if g = f then some u else mA g)
    rw [xc8]
    by_cases q : g = f
    · rw [if_pos q, if_pos q]; exact ry
    · rw [if_neg q, if_neg q]; exact r g
  · by_cases q : g = f
    · rw [q]; exact (xcl f y fs).1
    · refine (xcl f y fs).2 g (wi g fun z => hg ?_)
      show (if g = f then some u else mA g) = none
      rw [if_neg q]; exact z
theorem xk3 {b : Bool} {Q : Value → Shared → Prop} (I : Inv X pins σ H s) (e : H a = some (XO a C (some dx))) (ed : H dx = some (XD dx fs)) (c : XC X.K C) (n : PySem.W.findIn X.K (.ref C) f = some none) (l : fs.lookup f = some v)
    (h : ∀ u s', Inv X pins σ H s' → RelV v u → Q u s') : wpAny (model X.prog X.w) A (getAttr (.ref a) f b) Q E s := by
  obtain ⟨ox, vs, g, ce, oo, de⟩ := xkn I e
  obtain ⟨_, mA, nm, r, wi⟩ := xfp I ed
  obtain ⟨u, hu, ru⟩ := RelO.some_of (v := v) (o := mA f) (by rw [← l]; exact r f)
  obtain ⟨o1, g1, hl⟩ := xe4 nm
  exact xni I.kIn c g ce (xcx de) oo g1 (by rw [hl, hu]) n (xfc ru) (h u _ (I.tok _) ru)
end
def sXF (K : PySem.W.Frag) (ta tv : TE) (f : Str) : TS := fun D σ H => tv σ H fun y H1 => ta σ H1 fun x H2 => ∃ a C, x = .ref a ∧ XC K C ∧ PySem.W.findIn K (.ref C) f = some none ∧
  ((H2 a = some (XN a C none) ∧ ∀ dx, H2 dx = none → D.nx σ (upd (upd H2 dx (XD dx [(f, y)])) a (XN a C (some dx)))) ∨
   ∃ dx fs, H2 a = some (XN a C (some dx)) ∧ H2 dx = some (XD dx fs) ∧ fs.length < 1000 ∧ D.nx σ (upd H2 dx (XD dx (putF f y fs))))
def tXF (K : PySem.W.Frag) (ta : TE) (f : Str) : TE := fun σ H Q => ta σ H fun x H1 => ∃ a C dx fs v, x = .ref a ∧ H1 a = some (XO a C (some dx)) ∧ H1 dx = some (XD dx fs) ∧ XC K C ∧ PySem.W.findIn K (.ref C) f = some none ∧ fs.lookup f = some v ∧ Q v H1
section
variable {X : Cx} {o e value : Expr} {f : Str} {pos pos' tpos : Pos} {ta tv te : TE}
theorem xbw (ha : PE X o ta) (hv : PE X value tv) (hs : swapsWith value (some (.Attribute o f pos')) pos.line X.env = pure false) : PS X (.Assign [.Attribute o f pos'] value pos) (sXF X.K ta tv f) := by
  intro pins s σ H D I h
  refine plainObj_wpAny_Assign_Attribute (thn (hv pins s σ H _ I h) fun u s1 ⟨y, H1, I1, ry, q⟩ => thn (ha pins s1 σ H1 _ I1 q) fun ov s2 ⟨x, H2, I2, rx, a, C, ex, c, n, q2⟩ => ?_) hs
  subst ex
  obtain rfl : ov = Value.ref a := rx
  rcases q2 with ⟨ea, q2⟩ | ⟨dx, fs, ea, ed, hl, q2⟩
  · exact xj4 I2 ea c n ry fun dx s3 nd I3 => ⟨σ, _, I3, q2 dx nd⟩
  · exact xjt I2 ea ed hl c n ry fun s3 I3 => ⟨σ, _, I3, q2⟩
theorem xa4 (he : PE X e te) (hb : attributeBase e f X.env (eval e X.env) = eval e X.env) : PE X (.Attribute e f pos) (tXF X.K te f) := by
  intro pins s σ H Q I h
  refine xg6 hb (thn (he pins s σ H _ I h) fun u s1 ⟨x, H1, I1, rx, a, C, dx, fs, v, ex, ea, ed, c, n, l, q⟩ => ?_)
  subst ex
  obtain rfl : u = Value.ref a := rx
  exact xk3 I1 ea ed c n l fun u' s2 I2 ru => ⟨v, H1, I2, ru, q⟩
end
structure XMk (K : PySem.W.Frag) (C f : Addr) : Prop where
  makes : xaf K C = true
  init : PySem.W.findIn K (.ref C) "__init__" = some (some (.ref f))
  fn : PySem.W.isFn K (.ref f) = true
  kp : PySem.W.keepIn K (.ref C) = true
def xlu (C : Addr) (sp : Sp) (dvs : List V) (t : TA) : TE := fun σ H Q => t σ H fun vs H1 => vs.length ≤ 1000 ∧ ∀ e, H1 e = none →
  sp (.ref e :: (vs ++ dvs)) (upd H1 e (XN e C none)) (fun v H2 => v = .non ∧ Q (.ref e) H2) (fun _ _ _ => False)
def xlp (K : PySem.W.Frag) (te : TE) (E : St → XK) : TS := fun D σ H => te σ H fun v H1 => ∃ e C od, v = .ref e ∧ H1 e = some (XN e C od) ∧ xaf K C = true ∧ E σ e C (upd H1 e (XO e C od))
section
variable {X : Cx} {k : Nat} {f C : Addr} {fd : FuncData} {ps : List Str} {sp : Sp} {dvs : List V} {ds : List Value} {E : St → XK} {x m : Str} {p pos apos : Pos} {e o : Expr} {es : List Expr} {ta te : TE} {t : TA}
theorem xi3 {pins : List (Addr × Obj)} {σ : St} {H : Hp} {s : Shared} {Q : VK} {us : List Value} {vs : List V} (M : XMk X.K C f) (F : FnOk q0 X.prog X.w X.K X.mg X.base (CXo X.prog X.w) k f fd ps sp) (hr : Room q0 (k + 1) X.A) (hb : xal X.K fd ps ds) (hd : Vals dvs ds)
    (I : Inv X pins σ H s) (r : Vals vs us) (hl : vs.length ≤ 1000)
    (h : ∀ e, H e = none → sp (.ref e :: (vs ++ dvs)) (upd H e (XN e C none)) (fun v H2 => v = .non ∧ Q (.ref e) H2) (fun _ _ _ => False)) :
    wpAny (model X.prog X.w) X.A (call (.ref C) us) (EP X pins σ Q) X.xe s := by
  obtain ⟨nm, qn, N, bs, bm, hz, sn, sub, ab, col, dd, k0, k1, k2, k3, k5, gC, T⟩ := xdm I.kIn M.makes
  have ty : PySem.W.typeIn X.K (.ref f) = some (.type "function") := beq_iff_eq.mp M.fn
  obtain ⟨oI, gI, cI⟩ := Option.map_eq_some_iff.mp (show (X.K.lookup f).map (·.cls) = some (.type "function") from ty)
  have lu : us.length ≤ sizeLine := by
    have := r.length
    rw [← this, sizeLine_eq]
    omega
  obtain ⟨hh, gg, d, tk, os⟩ := s
  refine xhp PySem.F.excBase_ValueError T gC (fun A' Q' E' s' kk q => PySem.W.looks_findIn I.kIn M.init A' Q' E' s' kk q) (I.kIn _ _ gI) cI lu fun h' e hm se => ?_
  have hn : H e = none := I.hok.fresh se
  obtain ⟨t0, ge, _, _⟩ := hm.there
  have xa : Xat h' e (.ref C) none none := ⟨_, _, ge, rfl, rfl, rfl, by simp, .inl ⟨rfl, rfl⟩⟩
  have I2 : Inv X pins σ (upd H e (XN e C none)) ⟨h', gg, d, tk, os⟩ := I.laid (t' := tk) hm.keeps se (xhr xa)
  have hq := h e hn
  have r2 : Vals (V.ref e :: (vs ++ dvs)) (Value.ref e :: (us ++ ds)) := .cons rfl (r.append hd)
  have hl2 : (Value.ref e :: us ++ ds).length = ps.length := by
    have z := r2.length
    rw [F.len _ _ _ _ hq] at z
    exact z.symm
  refine wpAny_call (codeAny_mono (F.run _ X.stack _ _ ⟨Value.ref e :: us, []⟩ (Value.ref e :: (us ++ ds)) _ _ (fun _ _ _ => False) (hr.make C us [])
    (I2.env0.make C us []) (hb _ (Value.ref e :: us) I2.kIn hl2) r2 hq) fun r s' hq' => ?_)
  cases r with
  | error e' => exact (xu pins σ _ _ e' s' I2 hq')
  | ok fl =>
    cases fl with
    | ret u =>
      obtain ⟨v, H', I3, rv, ev, q3⟩ := I2.after hq'
      subst ev
      exact ⟨rv, ⟨V.ref e, H', I3, rfl, q3⟩⟩
    | next => exact False.elim hq'
    | brk => exact False.elim hq'
    | cont => exact False.elim hq'
theorem xbz (M : XMk X.K C f) (F : FnOk q0 X.prog X.w X.K X.mg X.base (CXo X.prog X.w) k f fd ps sp) (hr : Room q0 (k + 1) X.A) (hg : Gl X x) (hm : X.mg x = some (.ref C)) (hb : xal X.K fd ps ds) (hd : Vals dvs ds)
    (ha : PA X (e :: es) t) (hdb : (x == ("__debug__" : Str)) = false := by decide) (he : starEach (e :: es) X.env = (false, eval e X.env) :: starEach es X.env := by rfl) (hpl : (backTo pos (starEach es X.env)).any (·.1) = false := by rfl) :
    PE X (.Call (.Name x p) (e :: es) [] pos) (xlu C sp dvs t) := by
  intro pins s σ H Q I h
  refine wpAny_Call_Name_kw (xcr I hg hm ?_ hdb)
  refine PySem.W.callWith_K (h₀ := X.base) I.ok.mod.kin M.kp (thn (ha pos pins s σ H _ I h) fun us s1 ⟨vs, H1, I1, r, hl, q⟩ => ⟨I1.kIn, ?_⟩) he hpl
  exact xi3 M F hr hb hd I1 r hl q
theorem Inv.toXO {pins : List (Addr × Obj)} {σ : St} {H : Hp} {s : Shared} {e : Addr} {od : Option Addr} (I : Inv X pins σ H s) (h : H e = some (XN e C od)) : Inv X pins σ (upd H e (XO e C od)) s := by
  have x := xfs I h
  obtain ⟨oe, _, ge, _⟩ := id x
  exact I.write (x := e) (e := e) (t' := s.toks) (by rw [h]; exact True.intro) (.inl rfl) (fun b u _ z => z) ⟨oe, ge⟩ (xkd (xib x))
theorem xfi {h : Heap} {bm : List Value} (T : OwnTail h vErr bm) : bm.contains (.type "BaseException") = true := T.hasType (by decide +kernel)
theorem xbl (hh : X.A.handled = none) (tk : xdw X E) (he : PE X e te) : PS X (.Raise (some e) none pos) (xlp X.K te E) := by
  intro pins s σ H D I h
  rw [arm_exec_Raise]
  refine wpAny_bind (wpAny_standAt ?_)
  show wpAny _ _ (raiseStmt X.env (some (do let v ← eval e X.env; standAt pos; pure v)) none) _ _ s
  refine xku hh (wpAny_bind (thn (he pins s σ H _ I h) fun v s1 ⟨x, H1, I1, rx, a, C, od, ex, ea, mk, q⟩ => wpAny_bind (wpAny_standAt (wpAny_pure ?_))))
  subst ex
  obtain rfl : v = Value.ref a := rx
  obtain ⟨nm, qn, N, bs, bm, hz, sn, sub, ab, col, dd, k0, k1, k2, k3, k5, gC, T⟩ := xdm I1.kIn mk
  have x := xfs I1 ea
  exact ⟨a, od, C, nm, qn, N, bs, bm, hz, sn, sub, ab, col, dd, k0, k1, k2, k3, k5, _, rfl, xfi T, gC, x, tk pins σ _ s1 a C od none (I1.toXO ea) x xf (fun T' z => by cases z) q⟩
end
end L2
set_option maxRecDepth 100000
namespace XL
open PySem PySem.W
section
variable {M : Model} {A : Around} {E : Value → Shared → Prop} {s : Shared}
theorem xjk {fs : List Addr} {e T : Addr} {cls : Value} {od : Option Addr} {Q : Unit → Shared → Prop} (x : Xat s.heap e cls od (some T)) (nf : ∀ b ∈ fs, b ≠ T)
    (k : ∀ h', Stp fs e (some T) s.heap h' → Xat h' e cls od (some T) → Q () { s with heap := h' }) : wpAny M A (setFlight (.ref e) none) Q E s := by
  obtain ⟨oe, vs, ge, ce, oo, de, se, y⟩ := x
  rcases y with ⟨z, _⟩ | ⟨T', oT, ts, z, h1, nTe, gT, dT, h3⟩
  · cases z
  · cases z
    unfold setFlight
    refine wpAny_bind (wpAny_field ge de h1 ?_)
    rw [if_pos (show (Value.ref T != Value.none) = true from by simp)]
    have z3 : 3 < ts.size := (Array.getElem?_eq_some_iff.mp h3).1
    have ot : ∀ b, b ≠ T → (s.heap.update T (Obj.mapFields (·.setIfInBounds 3 ((none : Option Addr).elim Value.none fun f => rawInt f)))).get? b = s.heap.get? b := fun b hb => Heap.get?_update_other _ _ (Ne.symm hb)
    refine wpAny_setField gT dT z3 (k _ ⟨fun b o hb _ bt _ => (ot b fun q => bt (congrArg some q.symm)).trans hb, fun b o hb bf => ⟨o.slots, (ot b (nf b bf)).trans hb⟩⟩ ?_)
    exact ⟨oe, vs, (ot e (Ne.symm nTe)).trans ge, ce, oo, de, se, .inr ⟨T, _, _, rfl, h1, nTe, Heap.get?_update_self _ gT (Obj.isFreed_of_fields (Obj.data_mapFields dT _)), Obj.data_mapFields dT _, by simp [z3]⟩⟩
variable {nm qn nm' qn' : Str} {C N C' N' : Addr} {bs bm bs' bm' : List Value} {hz hz' : Bool} {sn sn' : List Str} {sub sub' : List Value} {ab ab' : Bool} {col col' : Option Bool} {dd dd' : Option Addr} {k0 k1 k2 k3 k5 j0 j1 j2 j3 j5 : Option Value} {ni ni' : String}
theorem xgq {h : Heap} {g : Array GenState} {d : Drawn} {t : Nat} {os : OsState} {e : Addr} {oe : Obj} {b : Bool} {Q : Bool → Shared → Prop}
    (gC : h.get? C = some (excClassObj nm qn C N bs bm hz sn sub ab col dd k0 k1 k2 k3 k5 ni)) (gC' : h.get? C' = some (excClassObj nm' qn' C' N' bs' bm' hz' sn' sub' ab' col' dd' j0 j1 j2 j3 j5 ni'))
    (ge : h.get? e = some oe) (ce : oe.cls = .ref C) (bB : bm'.contains (.type "BaseException") = true) (hm : (Value.ref C :: bm).contains (.ref C') = b)
    (k : Q b ⟨h, g, d, t, os⟩) : wpAny M A (excMatches (.ref e) (.ref C')) Q E ⟨h, g, d, t, os⟩ := by
  have mB : (Value.ref C' :: bm').contains (.type "BaseException") = true := by rw [List.contains_cons, bB, Bool.or_true]
  have nt := tc_notTuple
  unfold excMatches
  repeat (first | (with_reducible refine wpAny_loadPart_at ge ?_; rw [ce]) | with_reducible refine wpAny_loadPart_at gC' ?_ | (with_reducible refine wpAny_isSubtype_exc gC' ?_; rw [mB]) | (with_reducible refine wpAny_isSubtype_exc gC ?_; rw [hm]) | wp_step)
  cases b <;> (wp_walk; exact k)
end
end XL
namespace L2
open PySem PySem.Spec PyProof.Rows XL
variable {q0 : Bool}
abbrev Cx.tryc (X : Cx) (pins : List (Addr × Obj)) (xe : Value → Shared → Prop) : Cx := { X with xe := xe, pn := X.pn ++ pins }
abbrev Cx.hand (X : Cx) (e : Addr) : Cx := { X with A := X.A.mark (some (.ref e)), calm := false, xe := fun _ _ => False }
section
variable {X : Cx} {pins : List (Addr × Obj)} {σ : St} {H : Hp} {s : Shared}
theorem Cx.Ok.tryc (ok : X.Ok) (pins : List (Addr × Obj)) (xe : Value → Shared → Prop) : (X.tryc pins xe).Ok :=
  ⟨ok.mod, ok.kind, ok.glob, ok.blt, ok.above, ok.inj, ok.has, ok.cab, ok.hd, ok.frames, ok.stk, ok.exf, ok.bs, ok.bsz, ok.noex, ok.exfs, ok.funs, ok.frf⟩
theorem Cx.Ok.untryc {xe : Value → Shared → Prop} (ok : (X.tryc pins xe).Ok) : X.Ok :=
  ⟨ok.mod, ok.kind, ok.glob, ok.blt, ok.above, ok.inj, ok.has, ok.cab, ok.hd, ok.frames, ok.stk, ok.exf, ok.bs, ok.bsz, ok.noex, ok.exfs, ok.funs, ok.frf⟩
theorem Cx.Ok.hand (ok : X.Ok) (e : Addr) : (X.hand e).Ok :=
  ⟨ok.mod, ok.kind, ok.glob, ok.blt, ok.above, ok.inj, ok.has, ok.cab, (fun z => nomatch z), ok.frames, ok.stk, ok.exf, ok.bs, ok.bsz, ok.noex, ok.exfs, ok.funs, ok.frf⟩
theorem Inv.tryc (I : Inv X pins σ H s) (xe : Value → Shared → Prop) : Inv (X.tryc pins xe) [] σ H s :=
  ⟨I.ok.tryc pins xe, I.os, I.bare, I.base, I.loc, I.cell, I.free, I.freeC, fun p hp => I.pin p (by simpa using hp), I.hok, I.len⟩
theorem Inv.untryc {xe : Value → Shared → Prop} {pl : List (Addr × Obj)} (I : Inv (X.tryc pins xe) pl σ H s) : Inv X pins σ H s :=
  ⟨I.ok.untryc, I.os, I.bare, I.base, I.loc, I.cell, I.free, I.freeC, fun p hp => I.pin p (List.mem_append_left _ hp), I.hok, I.len⟩
theorem Inv.hand (I : Inv X pins σ H s) (e : Addr) : Inv (X.hand e) pins σ H s :=
  ⟨I.ok.hand e, I.os, I.bare, I.base, I.loc, I.cell, I.free, I.freeC, I.pin, I.hok, I.len⟩
theorem Inv.unhand {e : Addr} (ok : X.Ok) (I : Inv (X.hand e) pins σ H s) : Inv X pins σ H s :=
  ⟨ok, I.os, I.bare, I.base, I.loc, I.cell, I.free, I.freeC, I.pin, I.hok, I.len⟩
theorem Inv.gone {h' : Heap} {m m' : Str → Option Value} {n : Str} {j t' : Nat} (I : Inv X pins σ H s) (hN : X.N.Nodup) (hj : X.N[j]? = some n) (hl : X.env.scope.names.lookup n = some .local)
    (hm : s.heap.Ns X.env.locals m) (hv : ∀ (i : Nat) (x : Str) (v : V), X.N[i]? = some x → σ[i]? = some (some v) → Vis X.env.scope x → ∃ u, RelV v u ∧ Look X.env s.heap m x u)
    (n' : h'.Ns X.env.locals m') (e' : ∀ y, y ≠ n → m' y = m y) (sb : Heap.SameBut X.env.locals s.heap h') : Inv X pins (σ.set j none) H { s with heap := h', toks := t' } := by
  have kp : ∀ b o, b ≠ X.env.locals → s.heap.get? b = some o → h'.get? b = some o := fun b o nb g => (sb.2 b nb).trans g
  have neL : ∀ b o, X.s₀.heap.get? b = some o → b ≠ X.env.locals := fun b o e => Nat.ne_of_lt (Nat.lt_of_lt_of_le (Heap.lt_size e) I.ok.above)
  have trk : ∀ b u, H b = some u → b ≠ X.env.locals := fun b u hb z => by rw [z, I.free] at hb; cases hb
  refine ⟨I.ok, I.os, I.bare, ⟨fun b o e n hb hx => kp b o (neL b o e) (I.base.keep b o e n hb hx), fun b o e n hb hx => ?_, fun b o e n hx => I.base.free b o e n hx, fun b o e hx => ?_, I.base.tups, I.base.frzs, I.base.tbls⟩,
    ⟨m', n', fun i x v e1 e2 e3 => ?_⟩, fun x c e => ?_, I.free, I.freeC, fun p hp => ?_, fun b u hb => ?_, by rw [List.length_set]; exact I.len⟩
  · obtain ⟨sl, q⟩ := I.base.slot b o e n hb hx
    exact ⟨sl, kp b _ (neL b o e) q⟩
  · obtain ⟨o', q⟩ := I.base.there b o e hx
    exact ⟨o', kp b o' (neL b o e) q⟩
  · have nij : i ≠ j := fun z => by
      subst z
      have hl2 : i < σ.length := by rw [I.len]; exact (List.getElem?_eq_some_iff.mp hj).1
      rw [List.getElem?_set_self hl2] at e2
      cases e2
    rw [List.getElem?_set_ne (Ne.symm nij)] at e2
    have nx : x ≠ n := fun z => nij (xd9 hN e1 (by rw [z]; exact hj))
    obtain ⟨u, r, l⟩ := hv i x v e1 e2 e3
    refine ⟨u, r, ?_⟩
    rcases l with ⟨k, z⟩ | ⟨k, c, e, o, ho, hd⟩
    · exact .inl ⟨k, by rw [e' x nx]; exact z⟩
    · exact .inr ⟨k, c, e, o, kp c o (I.cne x c e) ho, hd⟩
  · obtain ⟨v, o, ho, hd⟩ := I.cell x c e
    exact ⟨v, o, kp c o (I.cne x c e) ho, hd⟩
  · obtain ⟨e, a, ne, nf, d⟩ := I.pin p hp
    exact ⟨kp p.1 p.2 ne e, a, ne, nf, d⟩
  · refine (I.hok b u hb).stay (fun c v hc q => ?_) (fun c q => q) fun c xs q => q
    rcases hc with rfl | hc
    · exact kp c v (trk c u hb) q
    · exact kp c v (trk c _ hc) q
end
def endH (D : Ends) (j : Nat) : Ends := { nx := fun σ H => D.nx (σ.set j none) H, rt := D.rt, bk := fun σ H => D.bk (σ.set j none) H, ct := fun σ H => D.ct (σ.set j none) H }
def tTry (K : PySem.W.Frag) (C0 : Addr) (j : Nat) (E : St → XK) (tb th : TS) : TS := fun D σ H => tb D σ H ∧ ∀ σ' e C H', E σ' e C H' → xaf K C = true ∧ PySem.W.mroIn K C (.ref C0) = some true ∧ th (endH D j) (σ'.set j (some (.ref e))) H'
section
variable {X : Cx} {pos np hpos : Pos} {body hbody : List Stmt} {b0 : Stmt} {cx n : Str} {C0 : Addr} {j : Nat} {E : St → XK} {tb th : TS}
theorem xid (hg : Gl X cx) (hm : X.mg cx = some (.ref C0)) (mk0 : xaf X.K C0 = true) (hN : X.N.Nodup) (hj : X.N[j]? = some n) (hl : X.env.scope.names.lookup n = some .local) (hf : X.env.frame = some X.env.locals) (hst : X.stack = X.env :: X.outer)
    (hb : ∀ pins xe, xdw (X.tryc pins xe) E → PSs (X.tryc pins xe) body tb) (hh : ∀ e, PSs (X.hand e) (b0 :: hbody) th) (hdb : (cx == ("__debug__" : Str)) = false := by decide) :
    PS X (.Try body [.ExceptHandler (some (.Name cx np)) (some n) (b0 :: hbody) hpos] [] [] pos) (tTry X.K C0 j E tb th) := by
  intro pins s σ H D I ⟨h1, h2⟩
  refine wpAny_Try_except ?_
  have ok := I.ok
  have T : xdw (X.tryc pins (fun e s₁ => wpAny (model X.prog X.w) X.A (noteFrame e X.env) (fun _ s₂ => wpAny (model X.prog X.w) X.A (setFlight e none) (fun _ s₃ => wpAny (model X.prog X.w) X.A (handleBy e X.env [.ExceptHandler (some (.Name cx np)) (some n) (b0 :: hbody) hpos]) (SP X pins D) X.xe s₃) X.xe s₂) X.xe s₁)) E := by
    intro pl σ' H' s' e C od tb' I' x he tbs q
    have J := I'.untryc
    have tbs' : Tbs X pins H' tb' := fun T z => by
      obtain ⟨a1, a2, a3, a4, a5⟩ := tbs T z
      exact ⟨a1, a2, a3, a4, fun p hp => a5 p (List.mem_append_left _ hp)⟩
    obtain ⟨mkC, mro, hth⟩ := h2 σ' e C H' q
    have fr : X.A.frames = some (X.env :: X.outer) := by rw [← hst]; exact J.ok.frames
    have ff : s'.heap.FunFrames X.base (X.env :: X.outer) := by rw [← hst]; exact J.stack
    refine xiq (L := X.env.locals) fr ff hf x fun h' T st sT x' => ?_
    rw [← hst] at st
    have J2 := J.noted he tbs' st x'
    have fr2 : X.base.objs.size ≤ s'.heap.objs.size := Nat.le_trans J.ok.bsz J.sz
    have ff2 : h'.FunFrames X.base X.stack := J2.stack
    have nT : ∀ b ∈ frs X.stack, b ≠ T := fun b hb z => by
      obtain ⟨_, o, ho, hnf⟩ := J.stack.mem hb
      rw [z] at ho
      exact absurd (Heap.lt_size ho) (Nat.not_lt.mpr sT)
    have fresh := J.size_lt sT
    have tbs2 : Tbs X pins H' (some T) := fun T' z => by
      cases z
      exact ⟨Nat.le_trans J.sz sT, fresh.1, fresh.2.1, fresh.2.2.1, fresh.2.2.2⟩
    obtain ⟨nm, qn, N, bs, bm, hz, sn, sub, ab, col, dd, k0, k1, k2, k3, k5, gC, TC⟩ := xdm J2.kIn mkC
    obtain ⟨nm', qn', N', bs', bm', hz', sn', sub', ab', col', dd', j0, j1, j2, j3, j5, gC0, TC0⟩ := xdm J2.kIn mk0
    refine wpAny_handleBy_cons (codeAny_handlers_test (xcr (X := X.hand e) (J2.hand e) hg hm ?_ hdb)) (by intro z; cases z)
    obtain ⟨oe, _, ge, ce, _⟩ := id x'
    have hmr : (Value.ref C :: bm).contains (.ref C0) = true := by
      obtain ⟨cd, e1, e2⟩ := Option.bind_eq_some_iff.mp mro
      have e3 : (Value.ref C :: bm) = cd.mro := by
        unfold PySem.W.clsIn at e1
        split at e1
        · rename_i c1 d1 cd1 sl1 ho
          cases e1
          have z := (J2.kIn _ _ ho).symm.trans gC
          injection z with z
          injection z with _ _ z _
          injection z with z
          rw [z]
        · cases e1
      rw [e3]
      split at e2
      · cases e2
      · exact Option.some.inj e2
    refine xgq (M := model X.prog X.w) gC gC0 ge ce (xfi TC0) hmr ?_
    show codeAny _ _ _ _ _
    refine codeAny_handlers_suite_as (xjk (fs := frs X.stack) x' nT fun h3 st3 x3 => ?_)
    have J3 : Inv X pins σ' H' { s' with heap := h3 } := J2.noted he tbs2 st3 x3
    refine xd6 (v := V.ref e) J3 hN hj (.inl hl) rfl (fun s4 J4 => ?_) (.inr hl)
    refine wpAny_mono (hh e pins s4 _ H' _ (J4.hand e) hth) (fun f s5 q5 => ?_) fun _ _ z => z.elim
    have fin : ∀ {σ5 : St} {H5 : Hp} {Q : Unit → Shared → Prop}, Inv (X.hand e) pins σ5 H5 s5 → (∀ s6, Inv X pins (σ5.set j none) H5 s6 → Q () s6) →
        wpAny (model X.prog X.w) X.A (do bindName X.env n Value.none; unbindBehindTheSuite X.env n hpos) Q X.xe s5 := fun {σ5 H5 Q} K5 kq => by
      have K6 : Inv X pins σ5 H5 s5 := Inv.unhand ok K5
      obtain ⟨m, hm5, hv5⟩ := K6.loc
      refine xih (show X.env.kindOf n = some .local from hl) hm5 (by simp [ok.kind]) fun h6 m6 n6 e6 s6 => kq _ (K6.gone hN hj hl hm5 hv5 n6 e6 s6)
    cases f with
    | next =>
      obtain ⟨σ5, H5, K5, z⟩ := q5
      exact fin K5 fun s6 K6 => ⟨_, H5, K6, z⟩
    | brk =>
      obtain ⟨σ5, H5, K5, z⟩ := q5
      exact fin K5 fun s6 K6 => ⟨_, H5, K6, z⟩
    | cont =>
      obtain ⟨σ5, H5, K5, z⟩ := q5
      exact fin K5 fun s6 K6 => ⟨_, H5, K6, z⟩
    | ret u =>
      obtain ⟨v, σ5, H5, K5, r, z⟩ := q5
      exact fin K5 fun s6 K6 => ⟨v, _, H5, K6, r, z⟩
  refine wpAny_mono (hb pins _ T [] s σ H D (I.tryc _) h1) (fun f s1 q => ?_) fun u s1 q => q
  cases f with
  | next =>
    obtain ⟨σ', H', J, z⟩ := q
    exact wpAny_execs_nil ⟨σ', H', J.untryc, z⟩
  | brk =>
    obtain ⟨σ', H', J, z⟩ := q
    exact ⟨σ', H', J.untryc, z⟩
  | cont =>
    obtain ⟨σ', H', J, z⟩ := q
    exact ⟨σ', H', J.untryc, z⟩
  | ret u =>
    obtain ⟨v, σ', H', J, r, z⟩ := q
    exact ⟨v, σ', H', J.untryc, r, z⟩
end
end L2
set_option maxRecDepth 100000
namespace XL
open PySem PySem.W
theorem xin {K : Frag} {x C : Addr} (c : XC K C) : KitX K (.ref x) (.ref C) (fun h => ∃ ox od, InstAt h x ox C od) where
  ty := fun _ _ _ ⟨_, _, I⟩ => I.type
  it := fun _ _ X _ => by
    obtain ⟨cd, hc, _, _⟩ := c.mro
    unfold clsIn at hc
    split at hc
    · rename_i c' d' cd' sl' ho
      intro A' Q' E' s' k q
      unfold isType loadHead
      exact wpAny_bind (wpAny_loadPart (k _ _ (X _ _ ho)) (wpAny_pure q))
    · cases hc
  ne := fun h tp dd its n sl X htp => by
    obtain ⟨cd, hc, _, _⟩ := c.mro
    refine Bool.eq_false_iff.mpr fun q => ?_
    have e : C = tp := Value.ref.inj (beq_iff_eq.mp q)
    subst e
    unfold clsIn at hc
    split at hc
    · rename_i c' d' cd' sl' ho
      have z := (X _ _ ho).symm.trans htp
      cases z
    · cases hc
  ca := fun X ⟨ox, od, I⟩ k => xj1 X c I k
end XL
namespace L2
open PySem PySem.Spec PyProof.Rows XL
variable {q0 : Bool}
def clsV : V → Option Value
  | .ty n => some (.type n)
  | .ref a => some (.ref a)
  | _ => none
theorem xed {c : V} {u cv : Value} (e : clsV c = some cv) (r : RelV c u) : u = cv := by
  cases c <;> first | (cases e; exact r) | cases e
def xhl : List V → Option (List Value)
  | [] => some []
  | c :: r => (clsV c).bind fun a => (xhl r).map (a :: ·)
theorem xfa : ∀ {cs : List V} {us cv : List Value}, xhl cs = some cv → Vals cs us → us = cv
  | [], _, _, e, .nil => by cases e; rfl
  | c :: r, _, _, e, .cons rc rr => by
    obtain ⟨a, e1, e2⟩ := Option.bind_eq_some_iff.mp e
    obtain ⟨b, e3, rfl⟩ := Option.map_eq_some_iff.mp e2
    rw [xed e1 rc, xfa e3 rr]
section
variable {X : Cx} {pins : List (Addr × Obj)} {σ : St} {H : Hp} {s : Shared} {A : Around} {E : Value → Shared → Prop} {Q : Value → Shared → Prop}
theorem xha {a C : Addr} {od : Option Addr} (I : Inv X pins σ H s) (h : H a = some (XO a C od)) (hd : ∀ d, od = some d → ∃ o, s.heap.get? d = some o) : ∃ ox odx, PySem.W.InstAt s.heap a ox C odx := by
  obtain ⟨ox, vs, g, ce, oo, de⟩ := xkn I h
  cases e : od with
  | none => exact ⟨ox, none, g, ce, xcx de, by rw [oo, e]; trivial⟩
  | some d =>
    obtain ⟨o, go⟩ := hd d e
    exact ⟨ox, some o, g, ce, xcx de, by rw [oo, e]; exact go⟩
end
def xka (K : PySem.W.Frag) : List V → Hp → VK → Prop := fun xs H Q => ∃ x c, xs = [x, c] ∧ ((∃ t cv b, TyOf K H x t ∧ clsV c = some cv ∧ PySem.W.kitOne K t cv = some b ∧ Q (.bl b) H) ∨
  (∃ a C od cv b, x = .ref a ∧ H a = some (XO a C od) ∧ (∀ d, od = some d → ∃ fs, H d = some (XD d fs)) ∧ XC K C ∧ clsV c = some cv ∧ PySem.W.kitOne K (.ref C) cv = some b ∧ Q (.bl b) H) ∨
  (∃ a C od p cs cv b, x = .ref a ∧ H a = some (XO a C od) ∧ (∀ d, od = some d → ∃ fs, H d = some (XD d fs)) ∧ XC K C ∧ c = .ref p ∧ SqT K H p cs ∧ xhl cs = some cv ∧ PySem.W.kitAny K (.ref C) cv = some b ∧ Q (.bl b) H))
section
variable {X : Cx}
theorem xaa : xb7 X (.builtin "isinstance") (xka X.K) := by
  intro pins s σ H us xs Q I r h
  obtain ⟨x, c, rfl, h⟩ := h
  obtain ⟨u, v, rfl, ru, rv⟩ := xhu r
  rcases h with ⟨t, cv, b, ty, ec, ek, q⟩ | ⟨a, C, od, cv, b, rfl, ha, hd, xc, ec, ek, q⟩ | ⟨a, C, od, p, cs, cv, b, rfl, ha, hd, xc, rfl, hp, ec, ek, q⟩
  · obtain rfl := xed ec rv
    exact xil I ru ty ek fun tk => ⟨.bl b, H, I.tok tk, rfl, q⟩
  · obtain rfl := xed ec rv
    obtain rfl : u = Value.ref a := ru
    refine PySem.W.kia_one (xin xc) I.kIn (xha I ha fun d e => ?_) ek (fun z => nomatch z) fun tk => ⟨.bl b, H, I.tok tk, rfl, q⟩
    obtain ⟨fs, hw⟩ := hd d e
    obtain ⟨_, _, ⟨o, _, _, go, _⟩, _⟩ := xfp I hw
    exact ⟨o, go⟩
  · obtain rfl : u = Value.ref a := ru
    obtain rfl : v = Value.ref p := rv
    obtain ⟨its, vi, it, _⟩ := I.tuple hp
    obtain rfl := xfa ec vi
    obtain ⟨o, g, oc, n, od'⟩ := it
    obtain ⟨c1, d1, dt1, sl1⟩ := o
    dsimp only at oc od'
    subst oc od'
    refine PySem.W.kia_tup (xin xc) I.kIn (xha I ha fun d e => ?_) g ek (fun z => nomatch z) fun tk => ⟨.bl b, H, I.tok tk, rfl, q⟩
    obtain ⟨fs, hw⟩ := hd d e
    obtain ⟨_, _, ⟨o, _, _, go, _⟩, _⟩ := xfp I hw
    exact ⟨o, go⟩
end
end L2
set_option maxRecDepth 100000
namespace L2
open PySem PySem.Spec PyProof.Rows XL
variable {q0 : Bool}
def xb6 (scope : Scope) : List Str := (scope.names.filter fun x => x.2 == .free).map (·.1)
def Cx.clo (X : Cx) (scope : Scope) : List (Str × Addr) := (xb6 scope).reverse.map fun n => (n, (X.env.cells.lookup n).getD 0)
theorem xen {env : Env} {f : Str → Addr} : ∀ (l : List (Str × NameKind)) (acc : List (Str × Addr)), (∀ x ∈ l, x.2 = .free → env.cells.lookup x.1 = some (f x.1)) →
    (forIn l acc fun x cs => (if x.2 == .free then do let c ← cellOf env x.1; pure (ForInStep.yield ((x.1, c) :: cs)) else pure (ForInStep.yield cs) : Sem (ForInStep (List (Str × Addr))))) =
      pure ((((l.filter fun x => x.2 == .free).map (·.1)).reverse.map fun n => (n, f n)) ++ acc)
  | [], acc, _ => rfl
  | x :: r, acc, h => by
    have ih := fun a => xen r a fun y hy => h y (List.mem_cons_of_mem _ hy)
    rw [List.forIn_cons]
    by_cases q : x.2 = .free
    · have e := h x List.mem_cons_self q
      have qb : (x.2 == NameKind.free) = true := by rw [q]; rfl
      rw [if_pos qb, List.filter_cons, if_pos qb]
      have ec : cellOf env x.1 = pure (f x.1) := by unfold cellOf; rw [e]
      rw [ec]
      simp only [pure_bind]
      rw [ih]
      simp
    · have qb : (x.2 == NameKind.free) = false := by simpa using q
      rw [if_neg (by rw [qb]; decide), List.filter_cons, if_neg (by rw [qb]; decide)]
      simp only [pure_bind]
      rw [ih]
theorem xh8 {X : Cx} {scope : Scope} (h : ∀ n ∈ xb6 scope, ∃ c, X.env.cells.lookup n = some c) : closureFor scope X.env = pure (X.clo scope) := by
  unfold closureFor
  have z := xen (env := X.env) (f := fun n => (X.env.cells.lookup n).getD 0) scope.names [] fun x hx hf => by
    obtain ⟨c, e⟩ := h x.1 (List.mem_map.mpr ⟨x, List.mem_filter.mpr ⟨hx, by simp [hf]⟩, rfl⟩)
    rw [e]
    rfl
  rw [List.append_nil] at z
  refine (bind_pure (m := Sem) _).trans ?_
  exact z
theorem xk8 {X : Cx} {scope : Scope} {n : Str} {c : Addr} (h : (X.clo scope).lookup n = some c) : n ∈ xb6 scope ∧ c = (X.env.cells.lookup n).getD 0 := by
  have z := PySem.mem_of_lookup h
  unfold Cx.clo at z
  obtain ⟨y, hy, e⟩ := List.mem_map.mp z
  injection e with e1 e2
  subst e1
  exact ⟨List.mem_reverse.mp hy, e2.symm⟩
theorem xc5 {f : Str → Addr} {n : Str} : ∀ {l : List Str}, n ∈ l → (l.map fun y => (y, f y)).lookup n = some (f n)
  | [], h => by simp at h
  | y :: r, h => by
    rw [List.map_cons, List.lookup_cons]
    by_cases q : n = y
    · subst q
      simp
    · rw [show (n == y) = false from by simpa using q]
      exact xc5 ((List.mem_cons.mp h).resolve_left q)
theorem xhi {X : Cx} {scope : Scope} {n : Str} {c : Addr} (hn : n ∈ xb6 scope) (h : X.env.cells.lookup n = some c) : (X.clo scope).lookup n = some c := by
  have z := xc5 (f := fun n => (X.env.cells.lookup n).getD 0) (List.mem_reverse.mpr hn)
  unfold Cx.clo
  rw [z, h]
  rfl
section
variable {X : Cx} {pins : List (Addr × Obj)} {σ : St} {H : Hp} {s : Shared} {scope : Scope} {x : Str} {ys : List Str} {fr : List Nat} {fp : List Addr}
end
section
variable {X : Cx} {pins : List (Addr × Obj)} {σ : St} {H : Hp} {s : Shared} {scope : Scope} {x : Str} {ys : List Str} {fr : List Nat} {fp : List Addr}
end
def xdh : TT := fun _ H Q => Q true H
def PIf (X : Cx) (ifs : List Expr) (t : TT) : Prop :=
  ∀ (pins : List (Addr × Obj)) (s : Shared) (σ : St) (H : Hp) (Q : Bool → Hp → Prop), Inv X pins σ H s → t σ H Q →
    wpAny (model X.prog X.w) X.A (forIn ifs true fun c r => if r = true then do let ok ← isTrue c X.env (eval c X.env); pure (ForInStep.yield ok) else pure (ForInStep.yield r)) (TP X pins σ Q) X.xe s
theorem xdb {X : Cx} : PIf X [] xdh := fun pins s σ H Q I h => wpAny_pure ⟨H, I, h⟩
theorem xez {X : Cx} {c : Expr} {t : TT} (hc : PT X c t) : PIf X [c] t := fun pins s σ H Q I h => by
  rw [List.forIn_cons]
  refine wpAny_bind ?_
  rw [if_pos rfl]
  refine wpAny_bind (wpAny_mono (hc pins s σ H Q I h) (fun b s1 q => wpAny_pure ?_) fun _ _ z => z)
  exact wpAny_pure q
section
variable {X : Cx} {scope : Scope} {x : Str} {ys : List Str} {fr : List Nat} {elt iter : Expr} {ifs : List Expr} {px pos : Pos} {wi : TI} {tc : TT} {te : TE}
end
end L2
set_option maxRecDepth 100000
namespace L2
open PySem PySem.Spec PyProof.Rows XL
variable {q0 : Bool}
theorem xiu {env : Env} {scope : Scope} (nc : ∀ y ∈ scope.names, y.2 ≠ .cell) (n : Str) (h : (relabel scope env).names.lookup n = some .cell ∨ (relabel scope env).names.lookup n = some .free) : n ∈ xb6 scope := by
  have key : ∀ k, (relabel scope env).names.lookup n = some k → (k = .cell ∨ k = .free) → n ∈ xb6 scope := fun k e hk => by
    obtain ⟨y, hy, ey⟩ := List.mem_map.mp (PySem.mem_of_lookup e)
    obtain ⟨m, j⟩ := y
    dsimp only at ey
    split at ey
    · rename_i q
      injection ey with e1 e2
      subst e1
      have : j = .free := by
        simp only [Bool.and_eq_true, beq_iff_eq] at q
        exact q.1.1
      subst this
      exact List.mem_map.mpr ⟨_, List.mem_filter.mpr ⟨hy, by simp⟩, rfl⟩
    · injection ey with e1 e2
      subst e1 e2
      rcases hk with z | z
      · exact absurd z (nc _ hy)
      · subst z
        exact List.mem_map.mpr ⟨_, List.mem_filter.mpr ⟨hy, by simp⟩, rfl⟩
  rcases h with h | h
  · exact key _ h (.inl rfl)
  · exact key _ h (.inr rfl)
theorem xhk {env : Env} {scope : Scope} {n : Str} (h : scope.names.lookup n = some .free) : (relabel scope env).names.lookup n = some .cell ∨ (relabel scope env).names.lookup n = some .free := by
  have key : ∀ (l : List (Str × NameKind)), l.lookup n = some .free → (l.map fun (m, k) => if (k == NameKind.free && env.scope.kind == .function && env.kindOf m == some .cell) then (m, NameKind.cell) else (m, k)).lookup n = some .cell ∨
      (l.map fun (m, k) => if (k == NameKind.free && env.scope.kind == .function && env.kindOf m == some .cell) then (m, NameKind.cell) else (m, k)).lookup n = some .free := fun l => by
    induction l with
    | nil => intro e; simp at e
    | cons y r ih =>
      intro e
      obtain ⟨m, k⟩ := y
      rw [List.map_cons]
      rw [List.lookup_cons] at e
      cases q : n == m with
      | true =>
        rw [q] at e
        cases e
        dsimp only
        split
        · left; rw [List.lookup_cons, q]
        · right; rw [List.lookup_cons, q]
      | false =>
        rw [q] at e
        have z := ih e
        dsimp only
        split <;> (rw [List.lookup_cons, q]; exact z)
  exact key _ h
section
variable {P : Program} {w : World} {K : PySem.W.Frag} {mg : Str → Option Value} {base : Heap}
theorem Fun.okx {x qual : Str} {st : Stmt} {f : Addr} {fd : FuncData} {N ps : List Str} {k : Nat} {sp : Sp} (F : Fun K x qual st f fd) (S : xag N ps (xp st)) (len : ∀ vs H Q E, sp vs H Q E → vs.length = ps.length)
    (hbody : ∀ (cdv : Value) (A : Around) (outer : List Env) (s : Shared) (H : Hp) (vs : List V) (Q : VK) (E : XK), Room q0 k (A.deeper (envOfC qual (xp st) s.heap.objs.size f cdv)) → sp vs H Q E →
      ∃ t, PSs (cxOf q0 (CXo P w) P w K mg base N qual (xp st) f cdv A outer s H E) (x9 st) t ∧ t { nx := fun _ H' => Q .non H', rt := Q } (xbx N vs) H) : FnOk q0 P w K mg base (CXo P w) (k + 1) f fd ps sp := by
  obtain ⟨oc, od, kV, doc, pm, an, cdv, ct, osl, rfl, lk, hcd⟩ := F.ex
  exact xes lk hcd S len fun A outer s H vs Q E hr hsp => hbody cdv A outer s H vs Q E hr hsp
theorem Fun.okn {x qual : Str} {st : Stmt} {f : Addr} {fd : FuncData} {N ps : List Str} {k : Nat} {sp : Sp} (F : Fun K x qual st f fd) (S : xag N ps (xp st)) (len : ∀ vs H Q E, sp vs H Q E → vs.length = ps.length)
    (hbody : ∀ (cdv : Value) (A : Around) (outer : List Env) (s : Shared) (H : Hp) (vs : List V) (Q : VK) (E : XK), Room q0 k (A.deeper (envOfC qual (xp st) s.heap.objs.size f cdv)) → sp vs H Q E →
      ∃ t, PSs (cxOf q0 (CXo P w) P w K mg base N qual (xp st) f cdv A outer s H E).nox (x9 st) t ∧ t { nx := fun _ H' => Q .non H', rt := Q } (xbx N vs) H) : FnOk q0 P w K mg base (CXo P w) (k + 1) f fd ps sp := by
  obtain ⟨oc, od, kV, doc, pm, an, cdv, ct, osl, rfl, lk, hcd⟩ := F.ex
  refine xes lk hcd S len fun A outer s H vs Q E hr hsp => ?_
  obtain ⟨t, h, q⟩ := hbody cdv A outer s H vs Q E hr hsp
  exact ⟨t, h.nox, q⟩
end
end L2
set_option maxRecDepth 100000
namespace L2
open PySem PySem.Spec PyProof.Rows XL
theorem ifP {b : Bool} {A B : Prop} (h : b = true) (q : A) : if b = true then A else B := by
  rw [if_pos h]
  exact q
theorem ifN {b : Bool} {A B : Prop} (h : b = false) (q : B) : if b = true then A else B := by
  rw [if_neg (by rw [h]; decide)]
  exact q
end L2
set_option maxRecDepth 100000
namespace L2
open PySem PySem.Spec PyProof.Rows XL
section
variable {X : Cx}
theorem xc1 : OpR X (compareOp .LtE) (fun x y H Q => ∃ i j, x = .str i ∧ y = .str j ∧ Q (.bl (!decide (j.cps.toList < i.cps.toList))) H) := by
  intro pins s σ H x y v u Q I rx ry h
  obtain ⟨i, j, rfl, rfl, q⟩ := h
  obtain ⟨t, rfl⟩ := rx
  obtain ⟨t', rfl⟩ := ry
  exact PySem.P.le_str (xar I q rfl)
end
end L2
set_option maxRecDepth 100000
namespace L2
open PySem PySem.Spec PyProof.Rows
variable {q0 : Bool}
section
variable {X : Cx}
end
end L2
set_option maxRecDepth 100000
namespace L2
open PySem PySem.Spec PyProof.Rows
variable {q0 : Bool}
structure FunD (K : PySem.W.Frag) (x qual : Str) (st : Stmt) (T f : Addr) (fd : FuncData) : Prop where
  ex : ∃ (oc : Value) (od : Option Addr) (kV doc pm : Value) (an : Option Addr) (cdv ct : Value) (osl : Array (Option Value)),
    fd = PySem.W.fnOf x qual (xae st) (x9 st) (xp st) (.ref T) kV doc pm an cdv ct ∧ K.lookup f = some ⟨oc, od, .func fd, osl⟩ ∧ PySem.W.codeIn K cdv qual = true
  kp : PySem.W.keepIn K (.ref f) = true
section
variable {P : Program} {w : World} {K : PySem.W.Frag} {mg : Str → Option Value} {base : Heap}
theorem FunD.okx {x qual : Str} {st : Stmt} {T f : Addr} {fd : FuncData} {N ps : List Str} {k : Nat} {sp : Sp} (F : FunD K x qual st T f fd) (S : xag N ps (xp st)) (len : ∀ vs H Q E, sp vs H Q E → vs.length = ps.length)
    (hbody : ∀ (cdv : Value) (A : Around) (outer : List Env) (s : Shared) (H : Hp) (vs : List V) (Q : VK) (E : XK), Room q0 k (A.deeper (envOfC qual (xp st) s.heap.objs.size f cdv)) → sp vs H Q E →
      ∃ t, PSs (cxOf q0 (CXo P w) P w K mg base N qual (xp st) f cdv A outer s H E) (x9 st) t ∧ t { nx := fun _ H' => Q .non H', rt := Q } (xbx N vs) H) : FnOk q0 P w K mg base (CXo P w) (k + 1) f fd ps sp := by
  obtain ⟨oc, od, kV, doc, pm, an, cdv, ct, osl, rfl, lk, hcd⟩ := F.ex
  exact xes lk hcd S len fun A outer s H vs Q E hr hsp => hbody cdv A outer s H vs Q E hr hsp
theorem FunD.okn {x qual : Str} {st : Stmt} {T f : Addr} {fd : FuncData} {N ps : List Str} {k : Nat} {sp : Sp} (F : FunD K x qual st T f fd) (S : xag N ps (xp st)) (len : ∀ vs H Q E, sp vs H Q E → vs.length = ps.length)
    (hbody : ∀ (cdv : Value) (A : Around) (outer : List Env) (s : Shared) (H : Hp) (vs : List V) (Q : VK) (E : XK), Room q0 k (A.deeper (envOfC qual (xp st) s.heap.objs.size f cdv)) → sp vs H Q E →
      ∃ t, PSs (cxOf q0 (CXo P w) P w K mg base N qual (xp st) f cdv A outer s H E).nox (x9 st) t ∧ t { nx := fun _ H' => Q .non H', rt := Q } (xbx N vs) H) : FnOk q0 P w K mg base (CXo P w) (k + 1) f fd ps sp := by
  obtain ⟨oc, od, kV, doc, pm, an, cdv, ct, osl, rfl, lk, hcd⟩ := F.ex
  refine xes lk hcd S len fun A outer s H vs Q E hr hsp => ?_
  obtain ⟨t, h, q⟩ := hbody cdv A outer s H vs Q E hr hsp
  exact ⟨t, h.nox, q⟩
theorem FunD.binds {x qual : Str} {st : Stmt} {T f : Addr} {fd : FuncData} {ps : List Str} {o : Obj} {items : Array Value} {n : Nat} {ds : List Value} (F : FunD K x qual st T f fd) (ho : K.lookup T = some o) (hs : o.data = .seq items n) (m : Nat) (hm : m + ds.length = ps.length)
    (h : ∀ (kV doc pm : Value) (an : Option Addr) (cdv ct : Value) (us : List Value), us.length = m →
      ∃ k, bindArgs (PySem.W.fnOf x qual (xae st) (x9 st) (xp st) (.ref T) kV doc pm an cdv ct) ⟨us, []⟩ = seqItems? (.ref T) >>= k ∧ k (some items) = pure (ps.zip (us ++ ds))) : xal K fd ps ds := by
  obtain ⟨oc, od, kV, doc, pm, an, cdv, ct, osl, rfl, lk, hcd⟩ := F.ex
  intro s us hK hl
  rw [List.length_append] at hl
  obtain ⟨k, h1, h2⟩ := h kV doc pm an cdv ct us (by omega)
  exact BindsTo.of_defaults rfl (hK _ _ ho) hs h1 h2
theorem xdc {x qual : Str} {st : Stmt} {T f : Addr} {oc : Value} {od an : Option Addr} {osl : Array (Option Value)} {kV doc pm cdv ct : Value} (l : K.lookup f = some ⟨oc, od, .func (PySem.W.fnOf x qual (xae st) (x9 st) (xp st) (.ref T) kV doc pm an cdv ct), osl⟩)
    (c : PySem.W.codeIn K cdv qual = true) (k : PySem.W.keepIn K (.ref f) = true) : FunD K x qual st T f (PySem.W.fnOf x qual (xae st) (x9 st) (xp st) (.ref T) kV doc pm an cdv ct) := ⟨⟨oc, od, kV, doc, pm, an, cdv, ct, osl, rfl, l, c⟩, k⟩
end
end L2
set_option maxRecDepth 100000
namespace L2
open PySem PySem.Spec PyProof.Rows XL
variable {q0 : Bool}
abbrev Cx.blkG (X : Cx) (scope : Scope) (zs : List Str) (ys : List Str) (C : Addr) (ex : List Addr) (s : Shared) (H : Hp) (pn : List (Addr × Obj)) : Cx where
  prog := X.prog
  w := X.w
  K := X.K
  mg := X.mg
  base := X.base
  A := X.A
  N := zs ++ ys
  s₀ := s
  H₀ := H
  env := compEnvC scope (X.clo scope) C X.env
  outer := X.stack
  stack := X.stack
  ex := ex
  fn := fun _ => false
  calm := X.calm
  pn := pn
  xe := fun _ _ => False
theorem xet {prog : Program} {w : World} {A : Around} {R : Result → Shared → Prop} {s : Shared} {elt target iter : Expr} {ifs : List Expr} {scope : Scope} {pos : Pos} {it acc : Value} {env : Env} (I : Nat → Shared → Prop)
    (turn : ∀ n s, I n s → wpAny (model prog w) A (pyNext it) (fun r s₁ => match r with
      | none => R (.ok .next) s₁
      | some v => wpAny (model prog w) A (letOwnedTupleGo target it v) (fun _ s₀ => wpAny (model prog w) A (assign target env v) (fun _ s₂ =>
          wpAny (model prog w) A (forIn ifs true fun c r => if r = true then do let ok ← isTrue c env (eval c env); pure (ForInStep.yield ok) else pure (ForInStep.yield r)) (fun ok s₃ =>
            if ok = true then wpAny (model prog w) A (eval elt env) (fun x s₄ =>
              wpAny (model prog w) A (call (.builtin "list.append") [acc, x]) (fun _ s₅ => ∃ m, m < n ∧ I m s₅) (notedBy (model prog w) A env fun e s' => R (.error e) s') s₄) (notedBy (model prog w) A env fun e s' => R (.error e) s') s₃
            else ∃ m, m < n ∧ I m s₃) (notedBy (model prog w) A env fun e s' => R (.error e) s') s₂) (notedBy (model prog w) A env fun e s' => R (.error e) s') s₀) (notedBy (model prog w) A env fun e s' => R (.error e) s') s₁) (notedBy (model prog w) A env fun e s' => R (.error e) s') s)
    (n : Nat) (h : I n s) : codeAny (model prog w) A (.compLoop (.ListComp elt [⟨target, iter, ifs, 0⟩] scope pos) 0 it acc env) R s := by
  refine codeAny_loop rfl I (fun n s hI => ?_) n h
  show wpAny _ A ((compTurn (.ListComp elt [⟨target, iter, ifs, 0⟩] scope pos) 0 it acc env).onRaise (fun x => do noteFrame x env; theTreesLotGoes x)) _ _ s
  refine wpAny_noted ?_
  rw [compTurn_list]
  refine wpAny_bind (wpAny_standAt (wpAny_bind (wpAny_mono (turn n s hI) (fun r s₁ h₁ => ?_) fun _ _ h' => h')))
  cases r with
  | none => exact wpAny_pure h₁
  | some v =>
    refine wpAny_bind (wpAny_mono h₁ (fun _ s₀ h₀ => wpAny_bind (wpAny_mono h₀ (fun _ s₂ h₂ => wpAny_bind (wpAny_mono h₂ (fun ok s₃ h₃ => ?_) fun _ _ h' => h')) fun _ _ h' => h')) fun _ _ h' => h')
    cases ok with
    | false => exact wpAny_pure ⟨rfl, h₃⟩
    | true =>
      exact wpAny_bind (wpAny_bind (wpAny_mono h₃ (fun x s₄ h₄ => wpAny_bind (wpAny_mono h₄ (fun _ s₅ h₅ => wpAny_pure (wpAny_pure ⟨rfl, h₅⟩)) fun _ _ h' => h')) fun _ _ h' => h'))
structure BlkG (X : Cx) (scope : Scope) (zs : List Str) (ys : List Str) (fr : List Nat) : Prop where
  kind : scope.kind = .function
  own : ∀ x ∈ zs, scope.names.lookup x = some .local
  ncell : ∀ y ∈ scope.names, y.2 ≠ .cell
  names : ∀ y ∈ scope.names, y.2 = .local → scope.names.lookup y.1 = some .local
  free : ∀ n ∈ xb6 scope, X.env.scope.names.lookup n = some .cell
  has : ∀ n, ((relabel scope X.env).names.lookup n = some .cell ∨ (relabel scope X.env).names.lookup n = some .free) → n ∈ xb6 scope
  slots : fr.map (fun i => X.N[i]?) = ys.map some
  ysf : ∀ y ∈ ys, y ∈ xb6 scope
  ysc : ∀ y ∈ ys, (relabel scope X.env).names.lookup y = some .cell ∨ (relabel scope X.env).names.lookup y = some .free
  st : X.stack = X.env :: X.outer
  nd : X.N.Nodup
  ndb : (zs ++ ys).Nodup
def blk0 (σ : St) (fr : List Nat) (n : Nat) : St := List.replicate n none ++ fr.map fun i => (σ[i]?).join
section
variable {X : Cx} {pins : List (Addr × Obj)} {σ : St} {H : Hp} {s : Shared} {scope : Scope} {zs : List Str} {ys : List Str} {fr : List Nat} {fp : List Addr}
theorem BlkG.cells (B : BlkG X scope zs ys fr) (I : Inv X pins σ H s) : ∀ n ∈ xb6 scope, ∃ c, X.env.cells.lookup n = some c := fun n hn => I.ok.has n (.inl (B.free n hn))
theorem BlkG.sub (B : BlkG X scope zs ys fr) (I : Inv X pins σ H s) {n : Str} {c : Addr} (h : (X.clo scope).lookup n = some c) : X.env.cells.lookup n = some c := by
  obtain ⟨a, b⟩ := xk8 h
  obtain ⟨d, e⟩ := B.cells I n a
  rw [e] at b
  rw [b, e]
  rfl
theorem Inv.blkG {h1 : Heap} {m1 : Str → Option Value} {t' : Nat} (B : BlkG X scope zs ys fr) (I : Inv X pins σ H s) (hf : ∀ b ∈ fp, FpOk X pins H b) (hz : ∀ b ∈ fp, b < s.heap.objs.size) (n1 : h1.Ns s.heap.objs.size m1) (k1 : ∀ b o, s.heap.get? b = some o → h1.get? b = some o) :
    Inv (X.blkG scope zs ys s.heap.objs.size fp s H (X.pn ++ pins)) [] (blk0 σ fr zs.length) H { s with heap := h1, toks := t' } := by
  have sub : ∀ n c, (X.clo scope).lookup n = some c → X.env.cells.lookup n = some c := fun n c h => B.sub I h
  have cz : ∀ n c, X.env.cells.lookup n = some c → c < s.heap.objs.size := fun n c e => by
    obtain ⟨v, o, ho, _⟩ := I.cell n c e
    exact Heap.lt_size ho
  have nfs : ∀ b ∈ fp, b ∉ frs X.stack := fun b hb z => (List.mem_cons.mp (I.stkSub b z)).elim (hf b hb).2.1 (hf b hb).2.2.1
  have fz : ∀ b, b ∈ frs X.stack → b < s.heap.objs.size := fun b hb => by
    obtain ⟨_, o, ho, _⟩ := I.stack.mem hb
    exact Heap.lt_size ho
  refine ⟨⟨I.ok.mod, B.kind, I.ok.glob, I.ok.blt, Nat.le_refl _, fun y z c h1 h2 => I.ok.inj y z c (sub y c h1) (sub z c h2), fun y hy => ?_, (fun y c hy _ => nomatch hy), I.ok.hd, I.ok.frames, .inl rfl, fun b hb => ⟨?_, fun y c h => (hf b hb).2.2.2.2.1 y c (sub y c h)⟩,
      I.bs, Nat.le_trans I.ok.bsz I.sz, fun b o e hb => ?_, fun b hb => nfs b hb, I.stack, I.stkFree⟩,
    rfl, I.bare, Un.kept k1, ⟨m1, n1, fun i y v e1 e2 e3 => ?_⟩, fun y c h => ?_, I.hok.fresh (Nat.le_refl _), fun y c h => I.freeC y c (sub y c h), fun p hp => ?_, I.hok.kept k1, ?_⟩
  · obtain ⟨c, e⟩ := B.cells I y (B.has y hy)
    exact ⟨c, xhi (B.has y hy) e⟩
  · exact Nat.ne_of_lt (hz b hb)
  · rcases (hf b hb).2.2.2.1 with z | z
    · exact I.ok.noex b o e z
    · exact absurd (Nat.lt_of_lt_of_le (Heap.lt_size (I.ok.bs b o e).1) z) (Nat.lt_irrefl _)
  · have ln : (List.replicate zs.length (none : Option V)).length = zs.length := List.length_replicate
    by_cases lt : i < zs.length
    · have e2' : (blk0 σ fr zs.length)[i]? = some (some v) := e2
      unfold blk0 at e2'
      rw [List.getElem?_append_left (by rw [ln]; exact lt), List.getElem?_replicate] at e2'
      split at e2' <;> cases e2'
    · obtain ⟨k, rfl⟩ : ∃ k, i = zs.length + k := ⟨i - zs.length, by omega⟩
      have e2' : (fr.map fun i => (σ[i]?).join)[k]? = some (some v) := by
        have z : (blk0 σ fr zs.length)[zs.length + k]? = some (some v) := e2
        unfold blk0 at z
        rw [List.getElem?_append_right (by rw [ln]; omega), ln] at z
        simpa using z
      have e1' : ys[k]? = some y := by
        have z : (zs ++ ys)[zs.length + k]? = some y := e1
        rw [List.getElem?_append_right (by omega)] at z
        simpa using z
      rw [List.getElem?_map] at e2'
      obtain ⟨j, hj, ej⟩ := Option.map_eq_some_iff.mp e2'
      have ev : σ[j]? = some (some v) := by
        cases q : σ[j]? with
        | none => rw [q] at ej; cases ej
        | some w => rw [q] at ej; exact congrArg some ej
      have eN : X.N[j]? = some y := by
        have z := congrArg (fun l => l[k]?) B.slots
        simp only [List.getElem?_map, hj, e1', Option.map_some] at z
        exact Option.some.inj z
      have my : y ∈ ys := List.mem_of_getElem? e1'
      obtain ⟨m, _, lk⟩ := I.loc
      obtain ⟨u, r, l⟩ := lk j y v eN ev (.inr (.inl (B.free y (B.ysf y my))))
      refine ⟨u, r, .inr ⟨B.ysc y my, ?_⟩⟩
      rcases l with ⟨kk, _⟩ | ⟨_, c, e, o, ho, hd⟩
      · have z := B.free y (B.ysf y my)
        rw [show X.env.scope.names.lookup y = some .local from kk] at z
        cases z
      · exact ⟨c, xhi (B.ysf y my) e, o, k1 c o ho, hd⟩
  · obtain ⟨v, o, ho, hd⟩ := I.cell y c (sub y c h)
    exact ⟨v, o, k1 c o ho, hd⟩
  · have hp' : p ∈ X.pn ++ pins := by simpa using hp
    obtain ⟨a1, a2, a3, a4, a5⟩ := I.pin p hp'
    exact ⟨k1 _ _ a1, a2, Nat.ne_of_lt (Heap.lt_size a1), fun z => (List.mem_cons.mp (I.stkSub _ z)).elim a3 a4, a5⟩
  · have z := congrArg List.length B.slots
    simp only [List.length_map] at z
    simp [blk0, z]
end
section
variable {X : Cx} {pins : List (Addr × Obj)} {σ : St} {H : Hp} {s : Shared} {scope : Scope} {zs : List Str} {ys : List Str} {fr : List Nat} {fp : List Addr}
theorem Inv.unblkG {C : Addr} {s' : Shared} {h2 : Heap} {σ' : St} {H' : Hp} {pl : List (Addr × Obj)} (I : Inv X pins σ H s) (hf : ∀ b ∈ fp, FpOk X pins H b) (hC : s.heap.objs.size ≤ C) (J : Inv (X.blkG scope zs ys C fp s H (X.pn ++ pins)) pl σ' H' s') (sb : Heap.SameBut C s'.heap h2) :
    Inv X pins σ H' { s' with heap := h2 } := by
  have kp : ∀ b o, b ≠ C → s'.heap.get? b = some o → h2.get? b = some o := fun b o nb g => (sb.2 b nb).trans g
  have old : ∀ b o, s.heap.get? b = some o → b ≠ C := fun b o g => Nat.ne_of_lt (Nat.lt_of_lt_of_le (Heap.lt_size g) hC)
  have trk : ∀ b u, H' b = some u → b ≠ C := fun b u hb z => by
    have f : H' C = none := J.free
    rw [z, f] at hb
    cases hb
  refine I.call' (s' := { s' with heap := h2 }) J.os (ch := fp) ⟨fun b o e n hb hx => kp b o (old b o e) (J.base.keep b o e n hb hx), fun b o e n hb hx => ?_, fun b o e n hx => J.base.free b o e n hx, fun b o e hx => ?_, J.base.tups, J.base.frzs, J.base.tbls⟩ (fun b u hb => ?_) J.bare fun b hb => ?_
  · obtain ⟨sl, q⟩ := J.base.slot b o e n hb hx
    exact ⟨sl, kp b _ (old b o e) q⟩
  · obtain ⟨o', q⟩ := J.base.there b o e hx
    exact ⟨o', kp b o' (old b o e) q⟩
  · refine (J.hok b u hb).stay (fun c v hc q => ?_) (fun c q => q) fun c xs q => q
    rcases hc with rfl | hc
    · exact kp c v (trk c u hb) q
    · exact kp c v (trk c _ hc) q
  · obtain ⟨_, a1, _, a3, a4, a5⟩ := hf b hb
    exact ⟨a3, a1, a4, a5⟩
end
def GOk (n : Nat) (g : TG) : Prop := ∀ v σ H Q, g v σ H Q → g v σ H (fun σ' H' => Q σ' H' ∧ σ'.length = σ.length ∧ ∀ i, n ≤ i → σ'[i]? = σ[i]?)
theorem xca {i n : Nat} (h : i < n) : GOk n (xds i) := fun v σ H Q q => ⟨q, by simp, fun j hj => by rw [List.getElem?_set_ne (by omega)]⟩
def xcn (J : It) (n : Nat) (g : TG) (σ : St) (fr : List Nat) (tc : TT) (te : TE) (l : Addr) (H1 : Hp) (Q : VK) : Prop := ∃ W : Nat → Nat → List V → Hp → Prop, (∃ m, W 0 m [] (upd H1 l (.lst []))) ∧ ∀ i m xs H2, W i m xs H2 →
  (J.stop i H2 ∧ Q (.ref l) H2) ∨ (J.go i H2 ∧ ∀ v H3, J.yld i H2 v H3 → g v (blk0 σ fr n) H3 fun σ' H3' => tc σ' H3' fun b H4 => if b = true then
    (te σ' H4 fun y H5 => H5 l = some (.lst xs) ∧ xs.length < sizeLine ∧ ∃ m', m' < m ∧ W (i + 1) m' (xs ++ [y]) (upd H5 l (.lst (xs ++ [y])))) else ∃ m', m' < m ∧ W (i + 1) m' xs H4)
def xgj (wi : TI) (n : Nat) (g : TG) (fr : List Nat) (tc : TT) (te : TE) : TE := fun σ H Q => wi σ H fun J H1 => ∀ l, H1 l = none → xcn J n g σ fr tc te l H1 Q
section
variable {X : Cx} {scope : Scope} {zs : List Str} {ys : List Str} {fr : List Nat} {elt iter tg : Expr} {g : TG} {ifs : List Expr} {px pos : Pos} {wi : TI} {tc : TT} {te : TE}
theorem xev {pins : List (Addr × Obj)} {s : Shared} {σ : St} {H : Hp} {Q : VK} {U : Option (Value → Sem Unit)} {R : Value → Shared → Prop} (hc : X.calm = true) (B : BlkG X scope zs ys fr) (hi : PI X tg iter wi) (hg : ∀ C ex s H pn, (∀ x ∈ zs, (relabel scope X.env).names.lookup x = some .local) → (zs ++ ys).Nodup → PG (X.blkG scope zs ys C ex s H pn) tg g) (gok : GOk zs.length g)
    (hif : ∀ C ex s H pn, PIf (X.blkG scope zs ys C ex s H pn) ifs tc) (he : ∀ C ex s H pn, PE (X.blkG scope zs ys C ex s H pn) elt te) (I : Inv X pins σ H s) (h : xgj wi zs.length g fr tc te σ H Q)
    (fin : ∀ C l H' s' m, (X.s₀.heap.objs.size ≤ C ∧ C ≠ X.env.locals ∧ (∀ x c, X.env.cells.lookup x = some c → c ≠ C) ∧ ∀ p ∈ X.pn ++ pins, p.1 ≠ C) → H' C = none → s'.heap.Ns C m → (∀ h2, Heap.SameBut C s'.heap h2 → Inv X pins σ H' { s' with heap := h2 }) → Q (.ref l) H' → compPost (model X.prog X.w) X.A X.xe U R (.ref l) C (.ok .next) s') :
    wpAny (model X.prog X.w) X.A (eval iter X.env) (fun v s1 => wpAny (model X.prog X.w) X.A (pyIter v) (fun it s2 => wpAny (model X.prog X.w) X.A (newList []) (fun acc s3 =>
      wpAny (model X.prog X.w) X.A (newFunctionEnv scope X.env.globals (X.clo scope) [] X.env.qual none .none (some X.env)) (fun cenv s4 =>
        codeAny (model X.prog X.w) X.A (.compStart (.ListComp elt [⟨tg, iter, ifs, 0⟩] scope pos) 0 it acc { cenv with scope := relabel scope X.env }) (compPost (model X.prog X.w) X.A X.xe U R acc cenv.locals) s4) X.xe s3) X.xe s2) X.xe s1) X.xe s := by
  refine thn (hi pins s σ H _ I h) fun v s1 h1 => thn h1 fun itv s2 h2 => ?_
  obtain ⟨it, fp, tn, J, H2, rfl, I2, T, st2, f2, body⟩ := h2
  have hN : H2 s2.heap.objs.size = none := I2.hok.fresh (Nat.le_refl _)
  obtain ⟨W, ⟨m0, w0⟩, turn⟩ := body s2.heap.objs.size hN
  refine wpAny_newObj_type ?_
  generalize hs3 : ({ s2 with heap := s2.heap.push { cls := .type "list", data := .seq ([] : List Value).toArray } } : Shared) = s3
  have k3 : ∀ b o, s2.heap.get? b = some o → s3.heap.get? b = some o := fun b o g => by rw [← hs3]; exact Heap.get?_push_of_some _ g
  have I3 : Inv X pins σ (upd H2 s2.heap.objs.size (.lst [])) s3 := by
    rw [← hs3]
    exact I2.laid (t' := s2.toks) (fun b u e => Heap.get?_push_of_some _ e) (Nat.le_refl _) ⟨Nat.zero_le _, [], 0, .nil, Heap.get?_push_size _ rfl⟩
  have z2 : ∀ b ∈ fp, b < s2.heap.objs.size := fun b hb => by
    obtain ⟨o, g, _⟩ := T.obj 0 _ st2 b hb
    exact Heap.lt_size g
  have z3 : ∀ b ∈ fp, b < s3.heap.objs.size := fun b hb => by
    obtain ⟨o, g, _⟩ := T.obj 0 _ st2 b hb
    exact Heap.lt_size (k3 b o g)
  have f3 : ∀ b ∈ fp, FpOk X pins (upd H2 s2.heap.objs.size (.lst [])) b := fun b hb => ⟨by rw [xh (Nat.ne_of_lt (z2 b hb))]; exact (f2 b hb).1, (f2 b hb).2⟩
  have st3 : tn 0 s3.heap := T.keep _ _ _ st2 fun b _ o g => k3 b o g
  refine wpAny_newFunctionEnv B.ncell (by intro y hy; simp at hy) (fun h1 n1 sb1 => ?_) B.kind
  have k4 : ∀ b o, s3.heap.get? b = some o → h1.get? b = some o := fun b o g => sb1.extBut b o (Nat.ne_of_lt (Heap.lt_size g)) (Heap.get?_push_of_some _ g)
  have I4 := I3.blkG (t' := s3.toks + ([] : List (Str × Value)).length) B f3 z3 n1 k4
  have st4 : tn 0 h1 := T.keep _ _ _ st3 fun b _ o g => k4 b o g
  have own' : ∀ x ∈ zs, (relabel scope X.env).names.lookup x = some .local := fun x hx => lookup_relabel_local (B.own x hx)
  -- the iterator's objects, through the loop
  have stat : ∀ {H' : Hp}, (∀ b ∈ fp, H' b = none) → ∀ b ∈ fp, FpOk (X.blkG scope zs ys s3.heap.objs.size fp s3 (upd H2 s2.heap.objs.size (.lst [])) (X.pn ++ pins)) [] H' b := fun hn b hb => by
    obtain ⟨_, a1, a2, a3, a4, a5⟩ := f3 b hb
    exact ⟨hn b hb, Nat.ne_of_lt (z3 b hb), fun z => (List.mem_cons.mp (I3.stkSub b z)).elim a1 a2, .inl hb, fun y c h => a4 y c (B.sub I3 h), fun p hp => a5 p (by simpa using hp)⟩
  have loop : ∀ s4 : Shared, s4 = { s3 with heap := h1, toks := s3.toks + ([] : List (Str × Value)).length } →
      codeAny (model X.prog X.w) X.A (.compLoop (.ListComp elt [⟨tg, iter, ifs, 0⟩] scope pos) 0 (.ref it) (.ref s2.heap.objs.size) (compEnvC scope (X.clo scope) s3.heap.objs.size X.env))
        (compPost (model X.prog X.w) X.A X.xe U R (.ref s2.heap.objs.size) s3.heap.objs.size) s4 := by
    rintro s4 rfl
    refine xet (fun n s' => ∃ i xs H', Inv (X.blkG scope zs ys s3.heap.objs.size fp s3 (upd H2 s2.heap.objs.size (.lst [])) (X.pn ++ pins)) [] (blk0 σ fr zs.length) H' s' ∧ tn i s'.heap ∧ (∀ b ∈ fp, H' b = none) ∧ W i n xs H') ?_ m0
      ⟨0, [], _, I4, st4, fun b hb => (f3 b hb).1, w0⟩
    rintro n s5 ⟨i, xs, H5, I5, st5, fr5, w5⟩
    rcases turn i n xs H5 w5 with ⟨stop, q⟩ | ⟨go, step⟩
    · refine wpAny_mono (T.done (X.blkG scope zs ys s3.heap.objs.size fp s3 (upd H2 s2.heap.objs.size (.lst [])) (X.pn ++ pins)) rfl rfl rfl hc i [] s5 _ H5 (fun _ _ => False) I5 (stat fr5) st5 stop) (fun r s6 ⟨hr, I6⟩ => ?_) fun _ _ z => z.elim
      subst hr
      obtain ⟨m, hm, _⟩ := I6.loc
      exact fin _ _ H5 s6 m ⟨I3.sz, (I3.size_lt (Nat.le_refl _)).2⟩ I6.free hm (fun h2 sb => I3.unblkG f3 (Nat.le_refl _) I6 sb) q
    · refine wpAny_mono (T.item (X.blkG scope zs ys s3.heap.objs.size fp s3 (upd H2 s2.heap.objs.size (.lst [])) (X.pn ++ pins)) rfl rfl rfl hc i [] s5 _ H5 (fun _ _ => False) I5 (stat fr5) st5 go) (fun r s6 ⟨u, hr, h6⟩ => ?_) fun _ _ z => z.elim
      subst hr
      refine wpAny_mono h6 (fun _ s7 ⟨y, H7, I7, r7, y7, st7, fr7⟩ => ?_) fun _ _ z => z.elim
      have I7' := I7.pinned (stat fr7) (T.obj _ _ st7)
      refine wpAny_mono (hg _ _ _ _ _ own' B.ndb _ s7 _ H7 y u _ I7' r7 (gok _ _ _ _ (step y H7 y7))) (fun _ s8 ⟨σ8, H8, I8, q8, l8, k8⟩ => ?_) fun _ _ z => z.elim
      have back : ∀ {s9 : Shared} {H9 : Hp} {xs' : List V}, Inv (X.blkG scope zs ys s3.heap.objs.size fp s3 (upd H2 s2.heap.objs.size (.lst [])) (X.pn ++ pins)) ([] ++ xdp fp s7.heap) σ8 H9 s9 → (∃ m', m' < n ∧ W (i + 1) m' xs' H9) →
          ∃ m, m < n ∧ ∃ i xs H', Inv (X.blkG scope zs ys s3.heap.objs.size fp s3 (upd H2 s2.heap.objs.size (.lst [])) (X.pn ++ pins)) [] (blk0 σ fr zs.length) H' s9 ∧ tn i s9.heap ∧ (∀ b ∈ fp, H' b = none) ∧ W i m xs H' := fun {s9 H9 xs'} I9 ⟨m', lt, w9⟩ => by
        refine ⟨m', lt, i + 1, xs', H9, I9.unpinned.weak l8.symm (fun j v e => ?_), T.keep _ _ _ st7 fun b hb o e => (I9.pin (b, o) (List.mem_append_right _ (List.mem_append_right _ (xco hb e)))).1, fun b hb => ?_, w9⟩
        · by_cases lj : j < zs.length
          · unfold blk0 at e
            rw [List.getElem?_append_left (by rw [List.length_replicate]; exact lj), List.getElem?_replicate] at e
            split at e <;> cases e
          · rw [k8 j (by omega)]
            exact e
        obtain ⟨o, e, d⟩ := T.obj _ _ st7 b hb
        exact (I9.pin (b, o) (List.mem_append_right _ (List.mem_append_right _ (xco hb e)))).2.1
      refine wpAny_mono (hif _ _ _ _ _ _ s8 _ H8 _ I8 q8) (fun ok s9 ⟨H9, I9, q9⟩ => ?_) fun _ _ z => z.elim
      cases ok with
      | false =>
        rw [if_neg (by decide)] at q9 ⊢
        exact back I9 q9
      | true =>
        rw [if_pos rfl] at q9 ⊢
        refine wpAny_mono (he _ _ _ _ _ _ s9 _ H9 _ I9 q9) (fun ev s10 ⟨yv, H10, I10, r10, hl, len, w10⟩ => ?_) fun _ _ z => z.elim
        refine wpAny_mono (xci (X := X.blkG scope zs ys s3.heap.objs.size fp s3 (upd H2 s2.heap.objs.size (.lst [])) (X.pn ++ pins)) _ s10 _ H10 (.ref s2.heap.objs.size) [yv] (.ref s2.heap.objs.size) [ev] (fun v H' => H' = upd H10 s2.heap.objs.size (.lst (xs ++ [yv]))) I10 rfl (.cons r10 .nil) ⟨_, xs, yv, rfl, rfl, hl, len, rfl⟩)
          (fun _ s11 ⟨_, H11, I11, _, e11⟩ => ?_) fun _ _ z => z.elim
        subst e11
        exact back I11 w10
  exact codeAny_compStart_list (loop _ rfl) (T.self _ 0 _ _ _ st4 (loop _ rfl))
theorem xdi (hc : X.calm = true) (B : BlkG X scope zs ys fr) (hi : PI X tg iter wi) (hg : ∀ C ex s H pn, (∀ x ∈ zs, (relabel scope X.env).names.lookup x = some .local) → (zs ++ ys).Nodup → PG (X.blkG scope zs ys C ex s H pn) tg g) (gok : GOk zs.length g) (hif : ∀ C ex s H pn, PIf (X.blkG scope zs ys C ex s H pn) ifs tc) (he : ∀ C ex s H pn, PE (X.blkG scope zs ys C ex s H pn) elt te)
    (hs : ∀ x, foldedSetIterable iter X.env x = pure x := by intro _; rfl) : PE X (.ListComp elt [⟨tg, iter, ifs, 0⟩] scope pos) (xgj wi zs.length g fr tc te) := by
  intro pins s σ H Q I h
  rw [eval_ListComp]
  refine wpAny_comprehension_free (use := none) rfl hs (xh8 (B.cells I)) B.kind B.names (xev hc B hi hg gok hif he I h fun C l H' s' m _ _ hm iv q => ?_)
  exact ⟨m, hm, fun h2 sb => ⟨.ref l, H', iv h2 sb, rfl, q⟩⟩
theorem xdk {j : Nat} {y : Str} {py spos : Pos} (hc : X.calm = true) (B : BlkG X scope zs ys fr) (hi : PI X tg iter wi) (hg : ∀ C ex s H pn, (∀ x ∈ zs, (relabel scope X.env).names.lookup x = some .local) → (zs ++ ys).Nodup → PG (X.blkG scope zs ys C ex s H pn) tg g) (gok : GOk zs.length g) (hif : ∀ C ex s H pn, PIf (X.blkG scope zs ys C ex s H pn) ifs tc) (he : ∀ C ex s H pn, PE (X.blkG scope zs ys C ex s H pn) elt te)
    (hj : X.N[j]? = some y) (hy : Loc X.env.scope y) (hf : X.fn y = true ∨ X.env.scope.names.lookup y = some .local := by first | exact .inl rfl | exact .inr rfl | assumption)
    (hsw : swapsWith (.ListComp elt [⟨tg, iter, ifs, 0⟩] scope pos) (some (.Name y py)) spos.line X.env = pure true := by rfl)
    (hs : ∀ x, foldedSetIterable iter X.env x = pure x := by intro _; rfl) : PS X (.Assign [.Name y py] (.ListComp elt [⟨tg, iter, ifs, 0⟩] scope pos) spos) (tAsg (xgj wi zs.length g fr tc te) (xds j)) := by
  intro pins s σ H D I h
  rw [exec_Assign_Name_used _ _ _ _ hsw]
  refine wpAny_bind (wpAny_standAt (wpAny_bind ?_))
  show wpAny _ _ (do let _ ← comprehension (.ListComp elt [⟨tg, iter, ifs, 0⟩] scope pos) scope X.env _ (newList []) false (eval iter X.env) (some (assign (.Name y py) X.env))) _ _ s
  refine wpAny_bind (wpAny_mono (wpAny_comprehension_free (use := some (assign (.Name y py) X.env)) (Q := fun _ s' => SP X pins D .next s') rfl hs (xh8 (B.cells I)) B.kind B.names
    (xev hc B hi hg gok hif he I h fun C l H' s' m hC hn hm iv q => ?_)) (fun _ s' z => wpAny_pure (wpAny_pure z)) fun _ _ e => e)
  show wpAny _ _ (assign (.Name y py) X.env (.ref l)) _ _ _
  have J : Inv X pins σ H' s' := iv s'.heap (.refl ..)
  refine wpAny_assign_Name (xfj (v := V.ref l) J B.nd hj hy rfl (fun s2 J2 ⟨a, sb, ha⟩ => ?_) hf)
  have na : a ≠ C := by
    rcases ha with z | z
    · rw [z]; exact Ne.symm hC.2.1
    · exact hC.2.2.1 _ _ z
  refine ⟨m, ?_, fun h2 s3 => ?_⟩
  · obtain ⟨o, es, ep, g, r⟩ := hm
    exact ⟨o, es, ep, (sb.2 C (Ne.symm na)).trans g, r⟩
  · exact ⟨_, H', J2.turned (t' := s2.toks) (fun b o nb g => (s3.2 b nb).trans g) hn (hC.2.1) (.inr hC.1) hC.2.2.1 hC.2.2.2, q⟩
end
def xie (scope sc0 : Scope) (N0 : List Str) (zs : List Str) (ys : List Str) (fr : List Nat) : Bool :=
  scope.kind == .function && zs.all (fun x => scope.names.lookup x == some .local) && scope.names.all (fun y => y.2 != .cell) && scope.names.all (fun y => y.2 != .local || scope.names.lookup y.1 == some .local) &&
  (xb6 scope).all (fun n => sc0.names.lookup n == some .cell) && fr.map (fun i => N0[i]?) == ys.map some && ys.all (fun y => scope.names.lookup y == some .free) && decide N0.Nodup && decide (zs ++ ys).Nodup
theorem xb2 {X : Cx} {scope sc0 : Scope} {N0 : List Str} {zs : List Str} {ys : List Str} {fr : List Nat} (chk : xie scope sc0 N0 zs ys fr = true) (es : X.env.scope = sc0) (eN : X.N = N0) (st : X.stack = X.env :: X.outer) : BlkG X scope zs ys fr := by
  unfold xie at chk
  simp only [Bool.and_eq_true, beq_iff_eq, List.all_eq_true, decide_eq_true_eq] at chk
  obtain ⟨⟨⟨⟨⟨⟨⟨⟨a1, a2⟩, a3⟩, a4⟩, a5⟩, a6⟩, a7⟩, a8⟩, a9⟩ := chk
  have nc : ∀ y ∈ scope.names, y.2 ≠ .cell := fun y hy => by simpa using a3 y hy
  refine ⟨a1, a2, nc, fun y hy hl => ?_, fun n hn => by rw [es]; exact a5 n hn, fun n h => xiu nc n h, by rw [eN]; exact a6, fun y hy => ?_, fun y hy => xhk (a7 y hy), st, by rw [eN]; exact a8, a9⟩
  · have z := a4 y hy
    rw [hl] at z
    simpa using z
  · exact List.mem_map.mpr ⟨(y, .free), List.mem_filter.mpr ⟨PySem.mem_of_lookup (a7 y hy), by simp⟩, rfl⟩
theorem xg8 {K : PySem.W.Frag} {m n : Nat} {t : TGs} (h : ∀ vs σ H Q, t vs σ H Q → t vs σ H (fun σ' H' => Q σ' H' ∧ σ'.length = σ.length ∧ ∀ i, n ≤ i → σ'[i]? = σ[i]?)) : GOk n (gTup K m t) := fun v σ H Q q => by
  obtain ⟨a, xs, e, hs, hl, q⟩ := q
  exact ⟨a, xs, e, hs, hl, h _ _ _ _ q⟩
theorem xgb {n : Nat} : ∀ vs σ H Q, gNil vs σ H Q → gNil vs σ H (fun σ' H' => Q σ' H' ∧ σ'.length = σ.length ∧ ∀ i, n ≤ i → σ'[i]? = σ[i]?) := fun vs σ H Q q => ⟨q.1, q.2, rfl, fun _ _ => rfl⟩
theorem xcz {i n : Nat} (hi : i < n) {t : TGs} (h : ∀ vs σ H Q, t vs σ H Q → t vs σ H (fun σ' H' => Q σ' H' ∧ σ'.length = σ.length ∧ ∀ i, n ≤ i → σ'[i]? = σ[i]?)) :
    ∀ vs σ H Q, xht (xds i) t vs σ H Q → xht (xds i) t vs σ H (fun σ' H' => Q σ' H' ∧ σ'.length = σ.length ∧ ∀ i, n ≤ i → σ'[i]? = σ[i]?) := fun vs σ H Q q => by
  obtain ⟨v, r, e, q⟩ := q
  refine ⟨v, r, e, ?_⟩
  have z := h _ _ _ _ q
  have e2 : ∀ (j : Nat), n ≤ j → (σ.set i (some v))[j]? = σ[j]? := fun j hj => by rw [List.getElem?_set_ne (by omega)]
  have e1 : (σ.set i (some v)).length = σ.length := by simp
  have key : (fun σ' H' => Q σ' H' ∧ σ'.length = (σ.set i (some v)).length ∧ ∀ j, n ≤ j → σ'[j]? = (σ.set i (some v))[j]?) = (fun σ' (H' : Hp) => Q σ' H' ∧ σ'.length = σ.length ∧ ∀ j, n ≤ j → σ'[j]? = σ[j]?) := by
    funext σ' H'
    rw [e1]
    refine propext ⟨fun ⟨a, b, c⟩ => ⟨a, b, fun j hj => (c j hj).trans (e2 j hj)⟩, fun ⟨a, b, c⟩ => ⟨a, b, fun j hj => (c j hj).trans (e2 j hj).symm⟩⟩
  rw [key] at z
  exact z
theorem xcy {J : It} {n : Nat} {g : TG} {σ : St} {fr : List Nat} {tc : TT} {te : TE} {l : Addr} {H1 : Hp} {Q : VK} (len : Nat) (Pv : Nat → List V → Hp → Prop) (h0 : Pv 0 [] (upd H1 l (.lst []))) (hgo : ∀ i xs H, i < len → Pv i xs H → J.go i H)
    (step : ∀ i xs H2 v H3, i < len → Pv i xs H2 → J.yld i H2 v H3 → ∀ N : List V → Hp → Prop, (∀ xs' H', Pv (i + 1) xs' H' → N xs' H') → g v (blk0 σ fr n) H3 fun σ' H3' => tc σ' H3' fun b H4 => if b = true then
      (te σ' H4 fun y H5 => H5 l = some (.lst xs) ∧ xs.length < sizeLine ∧ N (xs ++ [y]) (upd H5 l (.lst (xs ++ [y])))) else N xs H4)
    (fin : ∀ xs H2, Pv len xs H2 → J.stop len H2 ∧ Q (.ref l) H2) : xcn J n g σ fr tc te l H1 Q := by
  refine ⟨fun i m xs H => m = len - i ∧ i ≤ len ∧ Pv i xs H, ⟨len, by simp, Nat.zero_le _, h0⟩, ?_⟩
  rintro i m xs H2 ⟨rfl, hi, p⟩
  by_cases lt : i < len
  · exact .inr ⟨hgo i xs H2 lt p, fun v H3 y => step i xs H2 v H3 lt p y (fun xs' H' => ∃ m', m' < len - i ∧ m' = len - (i + 1) ∧ i + 1 ≤ len ∧ Pv (i + 1) xs' H') fun xs' H' q => ⟨_, by omega, rfl, lt, q⟩⟩
  · have e : i = len := by omega
    subst e
    exact .inl (fin xs H2 p)
end L2
set_option maxRecDepth 100000
namespace L2
open PySem PySem.Spec PyProof.Rows XL
variable {q0 : Bool}
section
variable {X : Cx} {pins : List (Addr × Obj)} {σ : St} {H : Hp} {s : Shared}
theorem Inv.adopt {p : Addr} {o : HO} (I : Inv X pins σ H s) (n : H p = none) (h0 : X.s₀.heap.objs.size ≤ p) (hL : p ≠ X.env.locals) (hC : ∀ x c, X.env.cells.lookup x = some c → c ≠ p) (hp : ∀ q ∈ X.pn ++ pins, q.1 ≠ p)
    (new : xav X.prog X.w (upd H p o) s.heap p o) : Inv X pins σ (upd H p o) s := by
  have ne : ∀ b u, H b = some u → b ≠ p := fun b u e => xk e n
  refine ⟨I.ok, I.os, I.bare, ⟨I.base.keep, I.base.slot, fun b ob e hn hx => ?_, I.base.there, fun b xs e => ?_, fun b ob u e => ?_, fun b ps e => ?_⟩, I.loc, I.cell, ?_, fun x c e => ?_, fun q hq => ?_, fun b u e => ?_, I.len⟩
  · rw [xh (Nat.ne_of_lt (Nat.lt_of_lt_of_le (Heap.lt_size e) h0))]
    exact I.base.free b ob e hn hx
  · have z := I.base.tups b xs e
    rw [xh (ne b _ z)]
    exact z
  · have z := I.base.frzs b ob u e
    rw [xh (ne b _ z)]
    exact z
  · obtain ⟨m, z⟩ := I.base.tbls b ps e
    exact ⟨m, by rw [xh (ne b _ z)]; exact z⟩
  · rw [xh (Ne.symm hL)]
    exact I.free
  · rw [xh (hC x c e)]
    exact I.freeC x c e
  · obtain ⟨a1, a2, a3⟩ := I.pin q hq
    exact ⟨a1, by rw [xh (hp q hq)]; exact a2, a3⟩
  · by_cases hb : b = p
    · subst hb
      rw [xf] at e
      cases e
      exact new
    · rw [xh hb] at e
      exact (I.hok b u e).stay (fun c v _ q => q) (fun c q => by rw [xh (ne c _ q)]; exact q) fun c xs q => by rw [xh (ne c _ q)]; exact q
theorem Inv.thaw {d : Addr} {o : Obj} {u : HO} (I : Inv X pins σ H s) (e : H d = some (.frz o u)) (nf : ∀ o' u', X.H₀ d ≠ some (.frz o' u')) : Inv X pins σ (upd H d u) s := by
  have ne : ∀ b v, H b = some v → (∀ o' u', v ≠ .frz o' u') → b ≠ d := fun b v h1 h2 z => by
    subst z
    rw [e] at h1
    cases h1
    exact h2 _ _ rfl
  have ne0 : ∀ b, H b = none → b ≠ d := fun b h1 z => by
    subst z
    rw [e] at h1
    cases h1
  refine ⟨I.ok, I.os, I.bare, ⟨I.base.keep, I.base.slot, fun b ob q hn hx => ?_, I.base.there, fun b xs q => ?_, fun b ob v q => ?_, fun b ps q => ?_⟩, I.loc, I.cell, ?_, fun x c q => ?_, fun p hp => ?_, fun b v q => ?_, I.len⟩
  · have z := I.base.free b ob q hn hx
    rw [xh (ne0 b z)]
    exact z
  · have z := I.base.tups b xs q
    rw [xh (ne b _ z (fun _ _ h => nomatch h))]
    exact z
  · have z := I.base.frzs b ob v q
    have hb : b ≠ d := fun w => by
      subst w
      exact nf _ _ q
    rw [xh hb]
    exact z
  · obtain ⟨m, z⟩ := I.base.tbls b ps q
    exact ⟨m, by rw [xh (ne b _ z (fun _ _ h => nomatch h))]; exact z⟩
  · rw [xh (ne0 _ I.free)]
    exact I.free
  · rw [xh (ne0 _ (I.freeC x c q))]
    exact I.freeC x c q
  · obtain ⟨a1, a2, a3⟩ := I.pin p hp
    exact ⟨a1, by rw [xh (ne0 _ a2)]; exact a2, a3⟩
  · have st : ∀ (a : Addr) (v : HO), xav X.prog X.w H s.heap a v → xav X.prog X.w (upd H d u) s.heap a v := fun a v k =>
      k.stay (fun c v _ q => q) (fun c q => by rw [xh (ne c _ q (fun _ _ h => nomatch h))]; exact q) fun c xs q => by rw [xh (ne c _ q (fun _ _ h => nomatch h))]; exact q
    by_cases hb : b = d
    · subst hb
      rw [xf] at q
      cases q
      obtain ⟨g, ok⟩ := I.hok b _ e
      exact st _ _ ok
    · rw [xh hb] at q
      exact st _ _ (I.hok b v q)
theorem Inv.nofrz {d : Addr} {kvs : List (Key × V)} (I : Inv X pins σ H s) (e : H d = some (.dK kvs)) : ∀ o' u', X.H₀ d ≠ some (.frz o' u') := fun o' u' z => by
  have q := I.base.frzs d o' u' z
  rw [e] at q
  cases q
theorem KV.get : ∀ {kvs : List (Key × V)} {vs : List (Key × Value)} {i : Nat} {k : Key} {x : V}, KV kvs vs → kvs[i]? = some (k, x) → ∃ u, vs[i]? = some (k, u) ∧ RelV x u
  | _, _, _, _, _, .nil, e => by simp at e
  | _, (_, _) :: _, 0, _, _, .cons r _, e => by
    simp at e
    subst e
    obtain ⟨r1, r2⟩ := r
    dsimp only at r1 r2
    subst r1
    exact ⟨_, rfl, r2⟩
  | _, _, i + 1, k, x, .cons _ t, e => by
    obtain ⟨u, h1, h2⟩ := KV.get (i := i) (k := k) (x := x) t (by simpa using e)
    exact ⟨u, by simpa using h1, h2⟩
theorem xl6 {P : Program} {w : World} {k : Key} {u : Value} (h : (xax P w).is k u = true) : RelV (kV k) u := by
  rcases xa2 (show xde k u = true from h) with ⟨i, t, rfl, rfl⟩ | ⟨x, t, rfl, rfl⟩
  · exact ⟨t, rfl⟩
  · exact ⟨t, rfl⟩
theorem xi1 {d : Addr} {o : Obj} {kvs : List (Key × V)} {ep : Nat} (I : Inv X pins σ H s) (e : H d = some (.frz o (.dK kvs))) (hep : ∃ es, o.data = .dict es ep) : ∃ vs, KV kvs vs ∧ s.heap.DictAt (xax X.prog X.w) d vs ep := by
  obtain ⟨g, _, _, vs, rel, o', es', ep', g', ex, hdat, hk, hp, hn⟩ := I.hok d _ e
  rw [g] at g'
  cases g'
  obtain ⟨es, he⟩ := hep
  rw [he] at hdat
  cases hdat
  exact ⟨vs, rel, o, _, g, ex, he, hk, hp, hn⟩
end
def Iti (d : Addr) (o : Obj) (kvs : List (Key × V)) : It :=
  ⟨fun i H => H d = some (.frz o (.dK kvs)) ∧ i < kvs.length, fun i H v H' => ∃ p k x, kvs[i]? = some (k, x) ∧ v = .ref p ∧ H p = none ∧ H' = upd H p (.tup [kV k, x]), fun i H => H d = some (.frz o (.dK kvs)) ∧ kvs.length ≤ i⟩
theorem xhs {P : Program} {w : World} {K : PySem.W.Frag} {elts : List Expr} {x1} {tpos : Pos} (d it : Addr) (o : Obj) (kvs : List (Key × V)) (ep : Nat) (hep : ∃ es, o.data = .dict es ep) :
    Turn P w K (.Tuple elts x1 tpos) (Iti d o kvs) [it] it (fun i h => ∃ ok ov, IsItemIter h it d i kvs.length ep ok ov) where
  mem := by simp
  obj := fun i h st b hb => by
    have e : b = it := by simpa using hb
    subst e
    obtain ⟨ok, ov, st⟩ := st
    exact ⟨_, st, fun v z => by
      have z' : Data.fields _ = Data.cell v := z
      cases z'⟩
  keep := fun i h h' ⟨ok, ov, st⟩ k => ⟨ok, ov, k it (by simp) _ st⟩
  item := by
    intro X hP hw hK hc i pins s σ H E I hf st hg
    subst hP hw hK
    obtain ⟨ok, ov, st⟩ := st
    obtain ⟨e, lt⟩ := hg
    obtain ⟨vs, rel, da⟩ := xi1 I e hep
    obtain ⟨f0, f1, f2, f3, f4, f5⟩ := hf it (by simp)
    have hl : kvs.length = vs.length := rel.length
    obtain ⟨⟨k, x⟩, q⟩ : ∃ y, kvs[i] = y := ⟨_, rfl⟩
    have hx : kvs[i]? = some (k, x) := by rw [List.getElem?_eq_getElem lt, q]
    obtain ⟨u, hv, ru⟩ := rel.get hx
    rw [hl] at st
    refine wpAny_pyNext_items_item st da hv fun key h' hkey hout ht hz hkp => ?_
    refine ⟨_, rfl, wpAny_letOwnedTupleGo_items hout fun h'' hit' hsb => ?_⟩
    have kk : ∀ b o, b ≠ it → s.heap.get? b = some o → h''.get? b = some o := fun b o hb g => (hsb.2 b hb).trans (hkp b o hb g)
    have I1 : Inv X pins σ H { s with heap := h'' } := I.turned (t' := s.toks) kk f0 f1 f3 f4 f5
    obtain ⟨n0, nL, nC, nP⟩ := I.size_lt (Nat.le_refl s.heap.objs.size)
    have itlt : it < s.heap.objs.size := Heap.lt_size st
    have pne : s.heap.objs.size ≠ it := Nat.ne_of_gt itlt
    have hp : h''.get? s.heap.objs.size = some { cls := .type "tuple", data := .seq #[key, u] } := (hsb.2 _ pne).trans ht
    refine ⟨.ref s.heap.objs.size, upd H s.heap.objs.size (.tup [kV k, x]), I1.adopt n0 I.sz nL nC nP ⟨by show 2 ≤ sizeLine; decide, [key, u], .cons (xl6 hkey) (.cons ru .nil), _, hp, rfl, _, rfl⟩, rfl, ⟨_, k, x, hx, rfl, n0, rfl⟩, ?_, fun b hb => ?_⟩
    · rw [← hl] at hit'
      exact ⟨_, _, hit'⟩
    · have e : b = it := by simpa using hb
      subst e
      rw [xh (Ne.symm pne)]
      exact f0
  done := by
    intro X hP hw hK hc i pins s σ H E I hf st hg
    subst hP hw hK
    obtain ⟨ok, ov, st⟩ := st
    obtain ⟨e, le⟩ := hg
    obtain ⟨vs, rel, da⟩ := xi1 I e hep
    obtain ⟨f0, f1, f2, f3, f4, f5⟩ := hf it (by simp)
    have hl : kvs.length = vs.length := rel.length
    rw [hl] at st
    exact wpAny_pyNext_items_end (I.ok.hd hc) st da (by simpa using (by omega : vs.length ≤ i)) fun h' eb => ⟨rfl, I.turned (t' := s.toks) (fun b o hb e => eb b o hb e) f0 f1 f3 f4 f5⟩
  self := fun _ _ _ _ _ ⟨ok, ov, st⟩ h => PySem.W.kcp_self st h
def xme (X : Cx) (to : TE) : TI := fun σ H R => to σ H fun x H1 => ∃ d kvs, x = .ref d ∧ H1 d = some (.dK kvs) ∧ ∀ ob, (∀ o' u', X.H₀ d ≠ some (.frz o' u')) → R (Iti d ob kvs) (upd H1 d (.frz ob (.dK kvs)))
section
variable {X : Cx} {o : Expr} {to : TE} {elts : List Expr} {x1 : _} {tpos apos cpos : Pos}
theorem xgp (ho : PE X o to) (hbase : attributeBase o "items" X.env (eval o X.env) = eval o X.env := by rfl) (hline : (apos.endLine == cpos.line) = true := by rfl) :
    PI X (.Tuple elts x1 tpos) (.Call (.Attribute o "items" apos) [] [] cpos) (xme X to) := by
  intro pins s σ H R I h
  refine wpAny_Call_method0_late hbase hline (thn (ho pins s σ H _ I h) fun v s1 ⟨x, H1, I1, r1, q1⟩ => ?_)
  obtain ⟨d, kvs, e1, e, q⟩ := q1
  subst e1
  cases r1
  obtain ⟨z, hd, vs, rel, dd⟩ := xkf I1.hok e
  obtain ⟨ob, es, ep, g, ex, hdat, hk, hp, hn⟩ := id dd
  refine ⟨"dict", "dict.items", PySem.F.plainAttrs_dict, PySem.F.slot_dict_items, PySem.F.type_dict_items, dd.typeIs, fun a e2 => ?_, Calls.callWith_builtin rfl (PySem.evalArgs_none ?_)⟩
  · cases e2
    exact ⟨ob, g, ex.2.1⟩
  refine call_meetsIn PySem.F.slot_dict_items dd.typeIs PySem.F.entry_dict_items (PySem.F.args_dict_items_1 _) (meets_dict_items (xax X.prog X.w) d hd) ⟨⟨vs, dd⟩, ?_⟩
  have da : (s1.heap.push { cls := .type "dict_items", data := .fields #[.ref d] }).DictAt (xax X.prog X.w) d vs ep := ⟨ob, es, Heap.get?_push_of_some _ g, ex, hdat, hk, hp, hn⟩
  refine wpAny_pyIter_items (s := { s1 with heap := s1.heap.push { cls := .type "dict_items", data := .fields #[.ref d] } }) ⟨_, Heap.get?_push_size _ rfl, rfl, rfl⟩ da ?_
  have I2 : Inv X pins σ H1 { s1 with heap := s1.heap.push { cls := .type "dict_items", data := .fields #[.ref d] } } := I1.kept (t' := s1.toks) fun b o e => Heap.get?_push_of_some _ e
  generalize hs2 : ({ s1 with heap := s1.heap.push { cls := .type "dict_items", data := .fields #[.ref d] } } : Shared) = s2 at I2
  have g2 : s2.heap.get? d = some ob := by rw [← hs2]; exact Heap.get?_push_of_some _ g
  have I3 : Inv X pins σ (upd H1 d (.frz ob (.dK kvs))) s2 := I2.write (t' := s2.toks) (x := d) (e := d) (by rw [e]; exact True.intro) (.inl rfl) (fun b u _ q => q) ⟨ob, g2⟩ ⟨g2, I2.hok d _ e⟩
  have I4 : Inv X pins σ (upd H1 d (.frz ob (.dK kvs))) { s2 with heap := s2.heap.push { cls := .type "dict_itemiterator", data := .fields #[.none, .bool false, .ref d, .int 0 0, .int vs.length 0, .int ep 0, .none, .none] } } :=
    I3.kept (t' := s2.toks) fun b o e => Heap.get?_push_of_some _ e
  have fin : PIE X pins σ (.Tuple elts x1 tpos) R (.ref s2.heap.objs.size) { s2 with heap := s2.heap.push { cls := .type "dict_itemiterator", data := .fields #[.none, .bool false, .ref d, .int 0 0, .int vs.length 0, .int ep 0, .none, .none] } } := by
    refine ⟨s2.heap.objs.size, [s2.heap.objs.size], _, _, upd H1 d (.frz ob (.dK kvs)), rfl, I4, xhs d _ ob kvs ep ⟨es, hdat⟩, ⟨.none, .none, ?_⟩, fun b hb => ?_, q ob (I1.nofrz e)⟩
    · have hl : kvs.length = vs.length := rel.length
      show IsItemIter _ _ d 0 kvs.length ep .none .none
      rw [hl]
      exact Heap.get?_push_size _ rfl
    · have eb : b = s2.heap.objs.size := by simpa using hb
      subst eb
      exact I3.fpOk (Nat.le_refl _) (I3.hok.fresh (Nat.le_refl _))
  exact fin
theorem xjn {pins : List (Addr × Obj)} {σ : St} {Q : VK} {u : Value} {s : Shared} (h : EP X pins σ (fun v H2 => ∃ d ob u, H2 d = some (.frz ob u) ∧ (∀ o' u', X.H₀ d ≠ some (.frz o' u')) ∧ Q v (upd H2 d u)) u s) : EP X pins σ Q u s := by
  obtain ⟨v, H2, I2, r2, d, ob, u', e, nf, q⟩ := h
  exact ⟨v, _, I2.thaw e nf, r2, q⟩
theorem xg2 {e : Expr} {t : TE} (h : PE X e t) : PE X e (fun σ H Q => t σ H fun v H2 => ∃ d ob u, H2 d = some (.frz ob u) ∧ (∀ o' u', X.H₀ d ≠ some (.frz o' u')) ∧ Q v (upd H2 d u)) := fun pins s σ H Q I q =>
  thn (h pins s σ H _ I q) fun _ _ z => xjn z
end
end L2
set_option maxRecDepth 100000
namespace PySem.F
end PySem.F
namespace L2
open PySem PySem.Spec PyProof.Rows XL
variable {q0 : Bool}
section
variable {X : Cx} {pins : List (Addr × Obj)} {σ : St} {H : Hp} {s : Shared} {a : Addr} {y v : V} {u r : Value} {A : Around} {E : Value → Shared → Prop}
end
end L2
set_option maxRecDepth 100000
namespace L2
open PySem PySem.Spec PyProof.Rows XL
variable {q0 : Bool}
section
variable {X : Cx} {tg : Expr}
end
theorem xd3 {xs : List V} {us : List Value} (r : Vals xs us) {j : Nat} (h : j < us.toArray.size) : ∃ x, xs[j]? = some x ∧ RelV x us.toArray[j] := by
  have hl := r.length
  have hj : j < xs.length := by simp at h; omega
  obtain ⟨u, h1, h2⟩ := r.get (x := xs[j]) (List.getElem?_eq_getElem hj)
  refine ⟨xs[j], List.getElem?_eq_getElem hj, ?_⟩
  have : us.toArray[j] = u := by
    have z := List.getElem?_eq_some_iff.mp h1
    obtain ⟨z1, z2⟩ := z
    simpa using z2
  rw [this]
  exact h2
section
variable {X : Cx} {pins : List (Addr × Obj)} {σ : St} {H : Hp} {s : Shared}
end
theorem xb1 {A : Around} {k : Nat} (hr : Room q0 k A) : A.units + 20 < cLine := by have := hr.un; omega
theorem xff {X : Cx} : xb7 X (.builtin "len") (fun xs H Q => ∃ a kvs, xs = [.ref a] ∧ H a = some (.dK kvs) ∧ Q (.int kvs.length) H) := by
  intro pins s σ H xs us Q I r h
  obtain ⟨a, kvs, rfl, e, q⟩ := h
  obtain ⟨u, rfl, rx⟩ := xdu r
  obtain rfl : u = Value.ref a := rx
  exact xms I (.inl e) fun t s' I' => ⟨.int _, H, I', ⟨t, rfl⟩, q⟩
inductive Ents (w : World) : List DictEntry → List (Key × V) → Prop
  | nil : Ents w [] []
  | cons {k : Key} {x : V} {key val : Value} {h : Int} {es : List DictEntry} {kvs : List (Key × V)} (hh : h = keyH w k) (hk : RelV (kV k) key) (hv : RelV x val) (r : Ents w es kvs) : Ents w (⟨h, key, val⟩ :: es) ((k, x) :: kvs)
def xh6 (w : World) (K : PySem.W.Frag) (D : Addr) (kvs : List (Key × V)) : Prop := (D == sysModules) = false ∧ ∃ (es : Array DictEntry) (ep : Nat), K.lookup D = some ⟨.type "dict", none, .dict es ep, #[]⟩ ∧ Ents w es.toList kvs ∧ (kvs.map (·.1)).Nodup
theorem Ents.ok {P : Program} {w : World} {es : List DictEntry} {kvs : List (Key × V)} (h : Ents w es kvs) : ∃ vs, KV kvs vs ∧ Pairs (xax P w) es vs ∧ ∀ e ∈ es, ∃ k, (xax P w).is k e.key = true ∧ e.hash = (xax P w).hash k := by
  induction h with
  | nil => exact ⟨[], .nil, .nil, fun e z => nomatch z⟩
  | @cons k x key val h es kvs hh hk hv _ ih =>
    obtain ⟨vs, a, b, c⟩ := ih
    refine ⟨(k, val) :: vs, .cons ⟨rfl, hv⟩ a, .cons (xd1 hk) rfl b, fun e he => ?_⟩
    rcases List.mem_cons.mp he with rfl | z
    · exact ⟨k, xd1 hk, hh⟩
    · exact c e z
section
variable {X : Cx} {pins : List (Addr × Obj)} {σ : St} {H : Hp} {s : Shared} {D : Addr} {kvs : List (Key × V)}
theorem xjz (I : Inv X pins σ H s) (g : xh6 X.w X.K D kvs) : ∃ vs, KV kvs vs ∧ s.heap.DictOf (xax X.prog X.w) D vs := by
  obtain ⟨_, es, ep, l, en, nd⟩ := g
  obtain ⟨vs, a, b, c⟩ := en.ok (P := X.prog)
  refine ⟨vs, a, _, es, ep, I.kIn _ _ l, ⟨rfl, rfl, rfl⟩, rfl, fun e he => c e (by simpa using he), b, ?_⟩
  rw [← a.keys]
  exact nd
def tGIn (kvs : List (Key × V)) (neg : Bool) (ty : TE) : TE := fun σ H Q => ty σ H fun y H1 => ∃ k : Key, y = kV k ∧ Q (.bl (if neg then !(valV kvs k).isSome else (valV kvs k).isSome)) H1
theorem xe8 {i : Expr} {ty : TE} {x : Str} {p : Pos} (hi : PE X i ty) (hg : Gl X x) (hm : X.mg x = some (.ref D)) (g : xh6 X.w X.K D kvs) (hd : (x == ("__debug__" : Str)) = false := by decide) : PC X .NotIn i (.Name x p) (tGIn kvs true ty) := by
  intro pins s σ H Q I h
  refine thn (hi pins s σ H _ I h) fun iv s1 ⟨y, H1, I1, ry, k, ey, q1⟩ => thn (xah (v := .ref D) hg hm rfl hd pins s1 σ H1 (fun v H2 => v = .ref D ∧ H2 = H1) I1 ⟨rfl, rfl⟩) fun u s2 ⟨x, H2, I2, rx, e1, e2⟩ => ?_
  subst ey e1 e2
  obtain rfl : u = Value.ref D := rx
  obtain ⟨vs, rel, dd⟩ := xjz I2 g
  refine wpAny_notIn_of (xd1 ry) g.1 dd.mapOf ?_
  rw [← (rel.val k).isSome_eq]
  exact ⟨.bl _, _, I2.tok _, rfl, q1⟩
end
end L2
set_option maxRecDepth 100000
namespace L2
open PySem PySem.Spec PyProof.Rows XL
variable {q0 : Bool}
end L2
set_option maxRecDepth 100000
namespace L2
open PySem PySem.Spec PyProof.Rows XL
variable {q0 : Bool}
section
variable {X : Cx} {pins : List (Addr × Obj)} {σ : St} {H : Hp} {s : Shared} {h' : Heap}
end
section
variable {X : Cx} {tg : Expr}
end
section
variable {X : Cx} {elts : List Expr} {x1 : _} {tpos : Pos}
end
end L2
set_option maxRecDepth 100000
namespace L2
open PySem PySem.Spec PyProof.Rows XL
variable {q0 : Bool}
section
variable {X : Cx} {elts : List Expr} {x1 : _} {tpos : Pos}
end
end L2
namespace L2
open PySem PySem.Spec PyProof.Rows XL
end L2
set_option maxRecDepth 100000
namespace L2
open PySem PySem.Spec PyProof.Rows XL
def tMid (t : TS) : TS := fun D σ H => ∃ Pv : St → Hp → Prop, t { D with nx := Pv } σ H ∧ ∀ σ' H', Pv σ' H' → D.nx σ' H'
theorem xbf {X : Cx} {st : Stmt} {t : TS} (h : PS X st t) : PS X st (tMid t) := by
  intro pins s σ H D I q
  obtain ⟨Pv, q1, q2⟩ := q
  refine thn (h pins s σ H { D with nx := Pv } I q1) fun fl s1 z => ?_
  cases fl with
  | next =>
    obtain ⟨σ', H', I', r⟩ := z
    exact ⟨σ', H', I', q2 _ _ r⟩
  | _ => exact z
end L2
set_option maxRecDepth 100000
namespace XL
open PySem PySem.W
def xno0 (K : Frag) (C : Addr) : Bool := match K.lookup C with
  | some ⟨_, _, .cls cd, _⟩ => xdg K cd.ns
  | _ => false
section
variable {prog : Program} {w : World} {A : Around} {E : Value → Shared → Prop} {h : Heap} {g : Array GenState} {d : Drawn} {t : Nat} {os : OsState}
variable {nm qn : Str} {C N : Addr} {bs bm bmB : List Value} {hz : Bool} {sn : List Str} {sub : List Value} {ab : Bool} {col : Option Bool} {dd : Option Addr} {k0 k1 k2 k3 k5 : Option Value} {B ni ii : String}
theorem xhj (F : ExcBaseFacts B ni ii bmB) (T : OwnTail h bmB bm) {mN : Str → Option Value} {Q : Fin → Shared → Prop}
    (gC : h.get? C = some (excClassObj nm qn C N bs bm hz sn sub ab col dd k0 k1 k2 k3 k5 ni)) (nN : h.Ns N mN) (iN : mN "__init__" = none)
    (kq : ∀ h' e, Heap.MadeExcOf h h' e (.ref C) [] → h.objs.size ≤ e → Q (.done (.ret (.ref e))) ⟨h', g, d, t, os⟩) :
    wpAny (model prog w) A (Builtin.«type.__call__» ⟨[.ref C], []⟩) Q E ⟨h, g, d, t, os⟩ := by
  repeat (first | with_reducible refine wpAny_loadPart_at gC ?_ | with_reducible refine wpAny_madeBy_exc gC ?_ | wp_step)
  refine codeAny_call_builtin_code (Code.quiet_builtin _ F.quiet) (wpAny_check_new_subT F T gC ?_)
  refine codeAny_exc_new_subT F T gC ?_ (Nat.zero_le _)
  change wpAny _ _ _ _ _ _
  generalize e1 : ({ cls := .type "tuple", data := .seq ([] : List Value).toArray } : Obj) = oT
  have fT : oT.isFreed = false := by rw [← e1]; rfl
  generalize e2 : ({ cls := .ref C, data := .fields #[.ref h.objs.size, .none, .none, .none, .bool false, .none] } : Obj) = oE
  have fE : oE.isFreed = false := by rw [← e2]; rfl
  have up : ∀ b o, h.get? b = some o → ((h.push oT).push oE).get? b = some o := fun b o q => Heap.get?_push_of_some oE (Heap.get?_push_of_some oT q)
  have gC' := up _ _ gC
  have nN' : ((h.push oT).push oE).Ns N mN := let ⟨o, es, ep, e, r⟩ := nN; ⟨o, es, ep, up _ _ e, r⟩
  have T' := T.keeps up
  have gE : ((h.push oT).push oE).get? (h.objs.size + 1) = some oE := by
    have z := Heap.get?_push_size (h.push oT) fE
    rwa [Heap.size_push] at z
  have cE : oE.cls = .ref C := by rw [← e2]
  have me : (Value.ref C :: bm).contains (.ref C) = true := by simp
  unfold isInstance
  repeat (first | (with_reducible refine wpAny_loadPart_at gE ?_; rw [cE]) | (with_reducible refine wpAny_isSubtype_exc gC' ?_; rw [me]) | wp_step)
  change wpAny _ _ (typeLookup (Value.ref C) _) _ _ _
  refine wpAny_typeLookup_tail gC' nN' T' F.mroIs F.init.lookup ?_
  rw [iN]
  refine wpAny_holding (wpAny_bind (wpAny_of_eq (F.init.bind _) ?_))
  refine wpAny_bind (wpAny_call (codeAny_call_builtin F.init.plain F.initEntry (wpAny_check_init_subT F T' gC' gE cE ?_)))
  subst e2
  wp_walk
  refine kq _ (h.objs.size + 1) ⟨fun b o hb => ?_, Heap.get?_none_of_le (Nat.le_succ _), h.objs.size + 2, ?_, Heap.get?_none_of_le (by omega), ?_⟩ (Nat.le_succ _)
  · rw [Heap.get?_update_other _ _ (Nat.ne_of_gt (Nat.lt_succ_of_lt (Heap.lt_size hb)))]
    exact Heap.get?_push_of_some _ (up _ _ hb)
  · rw [Heap.get?_update_self _ (Heap.get?_push_of_some _ gE) rfl]
    simp only [Heap.size_push]
    rfl
  · rw [Heap.get?_update_other _ _ (show h.objs.size + 1 ≠ h.objs.size + 2 by omega)]
    exact Heap.get?_push_at (by simp only [Heap.size_push]) rfl
theorem xix (F : ExcBaseFacts B ni ii bmB) (T : OwnTail h bmB bm) {mN : Str → Option Value} {Q : Value → Shared → Prop}
    (gC : h.get? C = some (excClassObj nm qn C N bs bm hz sn sub ab col dd k0 k1 k2 k3 k5 ni)) (nN : h.Ns N mN) (iN : mN "__init__" = none)
    (kq : ∀ h' e, Heap.MadeExcOf h h' e (.ref C) [] → h.objs.size ≤ e → Q (.ref e) ⟨h', g, d, t, os⟩) : wpAny (model prog w) A (call (.ref C) []) Q E ⟨h, g, d, t, os⟩ := by
  have a1 := tc_lookup
  have a2 := tc_bind (.ref C)
  have ty : (⟨h, g, d, t, os⟩ : Shared).TypeIs (.ref C) "type" := ⟨_, gC, rfl⟩
  refine wpAny_call (codeAny_of_tree ?_)
  change wpAny _ _ (callAny (Value.ref C) _) _ _ _
  repeat (any_goals (first | assumption | with_reducible refine wpAny_loadPart_at gC ?_ | wp_step))
  refine ⟨rfl, ?_⟩
  refine codeAny_call_builtin_at (Code.quiet_builtin _ (by decide +kernel)) entry_typeCall (wpAny_check_type_call_sub gC (xhj F T gC nN iN fun h' e hm hs => ?_))
  exact kq h' e hm hs
end
end XL
namespace L2
open PySem PySem.Spec PyProof.Rows XL
variable {q0 : Bool}
def xnh (C : Addr) : TE := fun σ H Q => ∀ e, H e = none → Q (.ref e) (upd H e (XN e C none))
section
variable {X : Cx} {C : Addr} {x : Str} {p pos : Pos}
theorem xgx (mk : xaf X.K C = true) (no : xno0 X.K C = true) (kp : PySem.W.keepIn X.K (.ref C) = true) (hg : Gl X x) (hm : X.mg x = some (.ref C)) (hdb : (x == ("__debug__" : Str)) = false := by decide) :
    PE X (.Call (.Name x p) [] [] pos) (xnh C) := by
  intro pins s σ H Q I h
  refine wpAny_Call_Name_kw (xcr I hg hm ?_ hdb)
  refine PySem.W.callWith_K0 I.kIn kp ?_
  obtain ⟨nm, qn, N, bs, bm, hz, sn, sub, ab, col, dd, k0, k1, k2, k3, k5, gC, T⟩ := xdm I.kIn mk
  obtain ⟨mN, hn, hni⟩ : ∃ mN, s.heap.Ns N mN ∧ mN "__init__" = none := by
    unfold xno0 at no
    split at no
    · rename_i c d cd sl ho
      have z := (I.kIn _ _ ho).symm.trans gC
      injection z with z
      injection z with _ _ z _
      injection z with z
      rw [z] at no
      exact xkp I.kIn no
    · cases no
  obtain ⟨hh, gg, d, tk, os⟩ := s
  refine xix PySem.F.excBase_ValueError T gC hn hni (fun h' e hm se => ?_)
  have hn' : H e = none := I.hok.fresh se
  obtain ⟨t0, ge, _, _⟩ := hm.there
  have xa : Xat h' e (.ref C) none none := ⟨_, _, ge, rfl, rfl, rfl, by simp, .inl ⟨rfl, rfl⟩⟩
  exact ⟨.ref e, _, I.laid (t' := tk) hm.keeps se (xhr xa), rfl, h e hn'⟩
end
section
variable {X : Cx} {pos np hpos np1 np2 hpos1 hpos2 : Pos} {body hbody hbody1 hbody2 : List Stmt} {b0 b1 b2 : Stmt} {cx cx1 cx2 n : Str} {C0 C1 C2 : Addr} {j : Nat} {E : St → XK} {tb th th1 th2 : TS} {rest : List ExceptHandler}
end
end L2
set_option maxRecDepth 100000
namespace L2
open PySem PySem.Spec PyProof.Rows XL
section
variable {X : Cx} {a b c d : Expr} {ta tb tc td : TE} {pos : Pos}
end
end L2
set_option maxRecDepth 100000
set_option maxHeartbeats 4000000
namespace L2
open PySem PySem.Calls PyProof PyProof.Rows
def eU (e : V → Bool) (u : Value) : Bool := match absV u with | some y => e y | none => false
theorem xho {e : V → Bool} {y : V} {u : Value} (r : RelV y u) : eU e u = e y := by unfold eU; rw [r.abs]
theorem xfx {e : V → Bool} : ∀ {xs : List V} {us : List Value}, Vals xs us → us.any (eU e) = xs.any e
  | _, _, .nil => rfl
  | y :: xs, u :: us, .cons r t => by rw [List.any_cons, List.any_cons, xho r, xfx t]
theorem xex : ∀ {xs : List V} {us : List Value}, Vals xs us → ∀ u ∈ us, ∃ y ∈ xs, RelV y u
  | _, _, .nil => fun u hu => nomatch hu
  | y :: xs, u :: us, .cons r t => fun u' hu => by
    rcases List.mem_cons.mp hu with rfl | hu
    · exact ⟨y, List.mem_cons_self, r⟩
    · obtain ⟨z, h1, h2⟩ := xex t u' hu
      exact ⟨z, List.mem_cons_of_mem _ h1, h2⟩
section
variable {X : Cx}
end
end L2
set_option maxRecDepth 100000
namespace PySem.F
end PySem.F
namespace L2
open PySem PySem.Spec PyProof.Rows XL
variable {q0 : Bool}
end L2
set_option maxRecDepth 100000
namespace L2
open PySem PySem.Spec PyProof.Rows XL
variable {q0 : Bool}
section
variable {z TI TO i1 i2 l1 l2 : Addr} {P : Nat → Prop} {i : Nat} {h : Heap}
end
end L2
set_option maxRecDepth 100000
namespace L2
open PySem PySem.Spec PyProof.Rows XL
variable {q0 : Bool}
end L2
set_option maxRecDepth 100000
namespace L2
open PySem PySem.Spec PyProof.Rows XL
variable {q0 : Bool}
section
variable {X : Cx} {pos np1 np2 np3 hpos1 hpos2 hpos3 : Pos} {body hbody1 hbody2 hbody3 : List Stmt} {rest : List ExceptHandler} {b1 b2 b3 : Stmt} {cx1 cx2 cx3 n : Str} {C1 C2 C3 : Addr} {j : Nat} {E : St → XK} {tb th1 th2 th3 : TS}
end
end L2
set_option maxRecDepth 100000
namespace L2
open PySem PySem.Spec PyProof.Rows XL PySem.W
variable {q0 : Bool}
theorem xe0 {prog : Program} {w : World} {A : Around} {E : Value → Shared → Prop} {s : Shared} {a : Addr} {vs : List Value} {n : Nat} {P : PySem.Fin → Shared → Prop}
    (h : s.heap.get? a = some (seqObj "list" vs.toArray n)) (h2 : 2 ≤ vs.length) (h64 : vs.length < 64)
    (hk : ∀ s' : Shared, s'.heap = (((s.heap.update a (Obj.mapSeq fun x => #[])).push (seqObj "tuple" vs.toArray 0)).push (seqObj "list" #[] 0)) → s' = { s with heap := s'.heap } →
      wpAny (model prog w) A (keyKind' vs.toArray) (fun κ s'' => s'' = s' ∧ KasT.kasWp (kas_ask prog w A κ vs) (kas_sort vs.length) (fun p s3 => s3 = s' ∧ P (.done (.ret .none)) { s with heap := sortedHeap s.heap a vs (p.map fun i => vs.getD i .none) }) s'') (fun _ _ => False) s') :
    wpAny (model prog w) A (Builtin.«list.sort» { pos := [.ref a] }) P E s := by
  obtain ⟨hp, g, d, tk, os⟩ := s
  rw [list_sort_plain]
  repeat (any_goals (first | assumption | wp_step))
  have z : ¬ vs.toArray.toList.toArray.size > sizeLine := by
    simp
    exact Nat.le_of_lt (Nat.lt_trans h64 (by decide))
  rw [if_neg z]
  generalize keyKind' vs.toArray = kk at hk ⊢
  repeat (any_goals (first | assumption | wp_step))
  have hk' := hk { heap := ((hp.update a (Obj.mapSeq fun x => #[])).push (seqObj "tuple" vs.toArray 0)).push (seqObj "list" #[] 0), gens := g, drawn := d, toks := tk, os := os } rfl rfl
  refine wpAny_mono hk' (fun κ s'' z => ?_) (fun _ _ z => z.elim)
  obtain ⟨e, q⟩ := z
  subst e
  show wpAny _ _ (StateT.run (if vs.toArray.size < 2 then pure () else sortRuns') _ >>= _) _ _ _
  rw [if_neg (by simp; omega)]
  refine wpAny_bind (wpAny_mono (kat_run (E := E) (Q := fun st' s' => ∃ p : Array Nat, p.size = vs.length ∧ arrOf st' = Array.map (kas_item (vs.toArray.zip vs.toArray)) p ∧ failedOf st' = none ∧ s' = _ ∧ P (.done (.ret .none)) { heap := sortedHeap hp a vs (p.map fun i => vs.getD i .none), gens := g, drawn := d, toks := tk, os := os }) rfl h2 h64 (fun p st' s' hp' e f q' => ⟨p, hp', e, f, q'.1, q'.2⟩) q) (fun r s' z => ?_) fun _ _ z => z)
  obtain ⟨u, st⟩ := r
  obtain ⟨p, psz, e, f, rfl, q'⟩ := z
  have al : a < hp.objs.size := Heap.lt_size h
  have g1 : (((hp.update a (Obj.mapSeq fun x => #[])).push (seqObj "tuple" vs.toArray 0)).push (seqObj "list" #[] 0)).get? a = some (seqObj "list" #[] (n + 1)) := by
    refine Heap.get?_push_of_some _ (Heap.get?_push_of_some _ ?_)
    rw [Heap.get?_update_self _ h rfl]
    have z : ((0 : Nat) == vs.length) = false := by
      cases vs with
      | nil => simp at h2
      | cons => rfl
    simp [Obj.mapSeq, z]
  have e2 : (if (((fun x => #[]) vs.toArray : Array Value).size == vs.toArray.size) = true then n else n + 1) = n + 1 := by
    rw [if_neg]
    simp
    omega
  simp only [e2, f]
  have e3 : Array.map (fun x => x.snd) (arrOf st) = p.map fun i => vs.getD i .none := by
    rw [e, Array.map_map]
    congr 1
    funext i
    show (kas_item (vs.toArray.zip vs.toArray) i).snd = _
    unfold kas_item
    by_cases c : i < vs.length
    · simp [List.getElem?_eq_getElem c, c]
    · simp [List.getElem?_eq_none (by omega : vs.length ≤ i), c]
  simp only [e3]
  repeat (any_goals (first | assumption | wp_step))
  have e4 : (Obj.mapSeq (fun x => Array.map (fun i => vs.getD i Value.none) p) (seqObj "list" #[] (n + 1))).data.pastItsLine = none := by
    show (if (Array.map (fun i => vs.getD i Value.none) p).size > sizeLine + 1 then _ else none) = none
    rw [if_neg]
    rw [Array.size_map, psz]
    have : vs.length < sizeLine := Nat.lt_trans h64 (by decide)
    omega
  rw [e4]
  refine wpAny_pure ?_
  rw [f]
  show wpAny _ _ (if (n + 1 != n + 1) = true then _ else _) _ _ _
  rw [if_neg (by simp)]
  exact wpAny_pure q'
theorem xf5 {prog : Program} {w : World} {A : Around} {E : Value → Shared → Prop} {s : Shared} {it d : Addr} {i ep : Nat} {o : Obj} {es : Array DictEntry} {en : DictEntry} {Q : Option Value → Shared → Prop}
    (st : s.heap.IsKeyIter it d i es.size ep) (hd : s.heap.get? d = some o) (hx : o.ExactDict) (hdat : o.data = .dict es ep) (hi : es[i]? = some en)
    (h : ∀ h', h'.IsKeyIter it d (i + 1) es.size ep → Heap.SameBut it s.heap h' → Q (some en.key) { s with heap := h' }) : wpAny (model prog w) A (pyNext (.ref it)) Q E s := by
  unfold pyNext
  refine wpAny_bind (wpAny_attempt (wpAny_callSpecial?_slot st.typeIs F.slot_dict_keyiterator_next ?_))
  refine wpAny_call_entry F.slot_dict_keyiterator_next st.typeIs F.entry_dict_keyiterator_next ?_ (F.args_dict_keyiterator_next_1 _)
  have ti := st.typeIs
  obtain ⟨hp, g, dr, tk, os⟩ := s
  obtain ⟨⟨c, dct, dat, sl⟩, hit, ci, di⟩ := st
  simp only at ci di
  subst ci di
  unfold Builtin.«dict_keyiterator.__next__»
  repeat (any_goals (first | assumption | (with_reducible refine wpAny_typeNameOfWhole_keyiter ti ?_) | (with_reducible refine wpAny_isOneOf_keyiter ti ?_) | (with_reducible refine wpAny_dictEntries hd hdat ?_) | (with_reducible refine wpAny_dictEpoch hd hdat ?_) | wp_step))
  have e1 : (if (i : Int) < 0 then none else es[(i : Int).toNat]?) = some en := by
    rw [if_neg (by omega), Int.toNat_natCast]
    exact hi
  rw [e1]
  repeat (any_goals (first | assumption | (with_reducible refine wpAny_typeNameOfWhole_keyiter ti ?_) | (with_reducible refine wpAny_isOneOf_keyiter ti ?_) | (with_reducible refine wpAny_dictEntries hd hdat ?_) | (with_reducible refine wpAny_dictEpoch hd hdat ?_) | wp_step))
  refine ⟨_, rfl, wpAny_pure (h _ ?_ (Heap.SameBut.update _ _ _))⟩
  refine ⟨_, Heap.get?_update_self _ hit rfl, rfl, ?_⟩
  rfl
theorem xgu {prog : Program} {w : World} {A : Around} {E : Value → Shared → Prop} {s : Shared} {it d : Addr} {ep : Nat} {o : Obj} {es : Array DictEntry} {Q : Option Value → Shared → Prop}
    (hA : A.handled = none) (st : s.heap.IsKeyIter it d es.size es.size ep) (hd : s.heap.get? d = some o) (hx : o.ExactDict) (hdat : o.data = .dict es ep)
    (h : ∀ h', Heap.ExtBut it s.heap h' → Q none { s with heap := h' }) : wpAny (model prog w) A (pyNext (.ref it)) Q E s := by
  unfold pyNext
  refine wpAny_bind (wpAny_attempt (wpAny_callSpecial?_slot st.typeIs F.slot_dict_keyiterator_next ?_))
  refine wpAny_call_entry F.slot_dict_keyiterator_next st.typeIs F.entry_dict_keyiterator_next ?_ (F.args_dict_keyiterator_next_1 _)
  have ti := st.typeIs
  obtain ⟨hp, g, dr, tk, os⟩ := s
  obtain ⟨⟨c, dct, dat, sl⟩, hit, ci, di⟩ := st
  simp only at ci di
  subst ci di
  unfold Builtin.«dict_keyiterator.__next__»
  repeat (any_goals (first | assumption | (with_reducible refine wpAny_typeNameOfWhole_keyiter ti ?_) | (with_reducible refine wpAny_isOneOf_keyiter ti ?_) | (with_reducible refine wpAny_dictEntries hd hdat ?_) | (with_reducible refine wpAny_dictEpoch hd hdat ?_) | wp_step))
  have e1 : (if (es.size : Int) < 0 then none else es[(es.size : Int).toNat]?) = none := by
    rw [if_neg (by omega), Int.toNat_natCast]
    simp
  rw [e1]
  repeat (any_goals (first | assumption | (with_reducible refine wpAny_typeNameOfWhole_keyiter ti ?_) | (with_reducible refine wpAny_isOneOf_keyiter ti ?_) | (with_reducible refine wpAny_dictEntries hd hdat ?_) | (with_reducible refine wpAny_dictEpoch hd hdat ?_) | wp_step))
  refine wpAny_raiseNew_none hA ?_
  refine wpAny_bind (wpAny_isInstance ⟨_, Heap.get?_push_size _ rfl, rfl⟩ isSubtype_stop (wpAny_pure (h _ fun b o nb e => ?_)))
  refine Heap.get?_push_of_some _ (Heap.get?_push_of_some _ ?_)
  rw [Heap.get?_update_other _ _ (Ne.symm nb)]
  exact e
theorem xj6 {prog : Program} {w : World} {A : Around} {E : Value → Shared → Prop} {s : Shared} {d : Addr} {ep : Nat} {o : Obj} {es : Array DictEntry} {Q : Value → Shared → Prop}
    (hs : (d == sysModules) = false) (hd : s.heap.get? d = some o) (hx : o.ExactDict) (hdat : o.data = .dict es ep)
    (h : Q (.ref s.heap.objs.size) { s with heap := s.heap.push { cls := .type "dict_keyiterator", data := .fields #[.ref d, .int 0 0, .int es.size 0, .int ep 0] } }) : wpAny (model prog w) A (pyIter (.ref d)) Q E s := by
  have ti : s.TypeIs (.ref d) "dict" := ⟨o, hd, hx.1⟩
  obtain ⟨c, dct, dat, sl⟩ := o
  obtain ⟨x1, x2, x3⟩ := hx
  simp only at x1 x2 x3 hdat
  subst x1 x2 x3 hdat
  refine wpAny_pyIter_slot ti F.slot_dict_iter ?_
  refine wpAny_call_entry F.slot_dict_iter ti F.entry_dict_iter ?_ (F.args_dict_iter_1 _)
  obtain ⟨hp, g, dr, tk, os⟩ := s
  unfold Builtin.«dict.__iter__»
  repeat (any_goals (first | assumption | (with_reducible refine wpAny_notOrdered_dict ti ?_) | (with_reducible refine wpAny_dictEntries hd rfl ?_) | (with_reducible refine wpAny_dictEpoch hd rfl ?_) | wp_step))
  exact ⟨_, rfl, _, _, ⟨_, Heap.get?_push_size _ rfl, rfl⟩, F.slot_dict_keyiterator_next.lookup, h⟩
theorem xk9 {prog : Program} {w : World} {d : Addr} {ep : Nat} {o : Obj} {es : Array DictEntry} (hs : (d == sysModules) = false) (hx : o.ExactDict) (hdat : o.data = .dict es ep) :
    KdlSrc prog w "dict" d d es.size (fun i v => ∃ en, es[i]? = some en ∧ v = en.key) (fun h => h.get? d = some o) where
  type := fun s h => ⟨o, h, hx.1⟩
  there := fun h e => ⟨Heap.lt_size e, Heap.lt_size e⟩
  keep := fun h h' e k => k d (.inl rfl) o e
  notList := by decide
  notTuple := by decide
  hint := fun A E s Q h q => kdl_hint_dict ⟨o, h, hx.1⟩ q
  iter := fun A s hA h => by
    have dl := Heap.lt_size h
    refine ⟨{ cls := .type "dict_keyiterator", data := .fields #[.ref d, .int 0 0, .int es.size 0, .int ep 0] }, fun i h => h.IsKeyIter s.heap.objs.size d i es.size ep ∧ h.get? d = some o, fun E Q q => xj6 hs h hx hdat q, ?_, ⟨_, Heap.get?_push_size _ rfl, rfl, rfl⟩, Heap.get?_push_of_some _ h⟩
    have dn : d ≠ s.heap.objs.size := Nat.ne_of_lt dl
    exact {
      sub := fun b hb => by
        have e : b = s.heap.objs.size := by simpa using hb
        rw [e]
        simp
      frame := fun i h h' st k => ⟨st.1.at fun o e => k _ (by simp) o e, k _ (by simp) _ st.2⟩
      item := fun i s' Q E hi st q => by
        refine xf5 st.1 st.2 hx hdat (Array.getElem?_eq_getElem hi) fun h' st' sb => q _ h' s'.toks ⟨_, Array.getElem?_eq_getElem hi, rfl⟩ ⟨st', (sb.2 d dn).trans st.2⟩ fun b o hb e => ?_
        exact (sb.2 b (by simpa using hb)).trans e
      done := fun s' Q E st q => by
        refine xgu hA st.1 st.2 hx hdat fun h' eb => q h' s'.toks fun b o hb e => ?_
        exact eb b o (by simpa using hb) e
      self := fun i s' Q E st q => wpAny_pyIter_keyiter st.1 q }
end L2
set_option maxRecDepth 100000
namespace L2
open PySem PySem.Spec PyProof.Rows XL PySem.W
variable {q0 : Bool}
def xb4 : Key → Key → Bool
  | .inl a, .inl b => decide (a < b)
  | .inr a, .inr b => decide (a.cps.toList < b.cps.toList)
  | _, _ => false
def lexK : List Key → List Key → Bool
  | [], [] => false
  | [], _ :: _ => true
  | _ :: _, [] => false
  | x :: xs, y :: ys => if x = y then lexK xs ys else xb4 x y
abbrev shp (k : List Key) : List Bool := k.map Sum.isLeft
theorem xkx {a b : Str} (h : a.cps.toList = b.cps.toList) : a = b := by
  cases a
  cases b
  simp at h
  rw [h]
theorem xi2 (x : Key) : xb4 x x = false := by
  cases x with
  | inl a => simp [xb4]
  | inr a => exact PyProof.Rows.strKind.irrefl a.cps.toList
theorem xj0 {x y z : Key} (h1 : xb4 x y = true) (h2 : xb4 y z = true) : xb4 x z = true := by
  cases x <;> cases y <;> cases z <;> simp only [xb4, Bool.false_eq_true] at h1 h2
  · have a := of_decide_eq_true h1
    have b := of_decide_eq_true h2
    exact decide_eq_true (Int.lt_trans a b)
  · exact PyProof.Rows.strKind.trans _ _ _ h1 h2
theorem xio {x y : Key} (hs : x.isLeft = y.isLeft) (ne : x ≠ y) (h : xb4 x y = false) : xb4 y x = true := by
  cases x with
  | inl a =>
    cases y with
    | inl b =>
      have h' : ¬ a < b := of_decide_eq_false h
      have n' : a ≠ b := fun e => ne (by rw [e])
      exact decide_eq_true (show b < a by omega)
    | inr b => cases hs
  | inr a =>
    cases y with
    | inl b => cases hs
    | inr b =>
      cases e : xb4 (.inr b) (.inr a) with
      | true => rfl
      | false => exact absurd (by rw [xkx (PyProof.Rows.strKind.total _ _ h e)]) ne
theorem xgl : ∀ x : List Key, lexK x x = false
  | [] => rfl
  | x :: xs => by
    unfold lexK
    rw [if_pos rfl]
    exact xgl xs
theorem xhc : ∀ {x y z : List Key}, shp x = shp y → shp y = shp z → lexK x y = true → lexK y z = true → lexK x z = true
  | [], [], _, _, _, h, _ => by cases h
  | [], _ :: _, _, h, _, _, _ => by cases h
  | _ :: _, [], _, h, _, _, _ => by cases h
  | _ :: _, _ :: _, [], _, h, _, _ => by cases h
  | x :: xs, y :: ys, z :: zs, h1, h2, h3, h4 => by
    simp only [shp, List.map_cons, List.cons.injEq] at h1 h2
    unfold lexK at h3 h4 ⊢
    by_cases xy : x = y
    · subst xy
      rw [if_pos rfl] at h3
      by_cases yz : x = z
      · rw [if_pos yz] at h4 ⊢
        exact xhc h1.2 h2.2 h3 h4
      · rw [if_neg yz] at h4 ⊢
        exact h4
    · rw [if_neg xy] at h3
      by_cases yz : y = z
      · subst yz
        rw [if_neg xy]
        exact h3
      · rw [if_neg yz] at h4
        have h5 := xj0 h3 h4
        rw [if_neg (fun e => by rw [e, xi2] at h5; cases h5)]
        exact h5
theorem xf3 : ∀ {x y : List Key}, shp x = shp y → x ≠ y → lexK x y = false → lexK y x = true
  | [], [], _, h, _ => absurd rfl h
  | [], _ :: _, h, _, _ => by cases h
  | _ :: _, [], h, _, _ => by cases h
  | x :: xs, y :: ys, h1, h2, h3 => by
    simp only [shp, List.map_cons, List.cons.injEq] at h1
    unfold lexK at h3 ⊢
    by_cases xy : x = y
    · subst xy
      rw [if_pos rfl] at h3 ⊢
      exact xf3 h1.2 (fun e => h2 (by rw [e])) h3
    · rw [if_neg xy] at h3
      rw [if_neg (fun e => xy e.symm)]
      exact xio h1.1 xy h3
theorem xgh {prog : Program} {w : World} {A : Around} {s : Shared} {b : Bool} {Q : Bool → Shared → Prop} : ∀ (xs ys : List Key) (us vs : List Value) (i : Nat), shp xs = shp ys → Vals (xs.map kV) us → Vals (ys.map kV) vs → Q (lexK xs ys) s → KatLex prog w A b false Q (us.zip vs) i s
  | [], [], _, _, i, _, .nil, .nil, q => kat_nil q
  | [], _ :: _, _, _, _, h, _, _, _ => by cases h
  | _ :: _, [], _, _, _, h, _, _, _ => by cases h
  | x :: xs, y :: ys, _, _, i, h, .cons ru r, .cons rv r', q => by
    simp only [shp, List.map_cons, List.cons.injEq] at h
    unfold lexK at q
    cases x with
    | inl a =>
      cases y with
      | inr c => cases h.1
      | inl c =>
        obtain ⟨t, rfl⟩ := ru
        obtain ⟨t', rfl⟩ := rv
        refine kat_cons (wpAny_eqBool_int ?_)
        unfold KatGo
        by_cases e : a = c
        · subst e
          rw [if_pos rfl] at q
          rw [if_pos (by simp)]
          exact xgh xs ys _ _ (i + 1) h.2 r r' q
        · rw [if_neg (fun z => e (Sum.inl.inj z))] at q
          rw [if_neg (by simpa using e)]
          cases (b && i == 0) with
          | true => exact oneLt_int q
          | false => exact kat_one _ _ (lt_int q)
    | inr a =>
      cases y with
      | inl c => cases h.1
      | inr c =>
        obtain ⟨t, rfl⟩ := ru
        obtain ⟨t', rfl⟩ := rv
        refine kat_cons (wpAny_eqBool_str ?_)
        unfold KatGo
        by_cases e : a = c
        · subst e
          rw [if_pos rfl] at q
          rw [if_pos (by simp)]
          exact xgh xs ys _ _ (i + 1) h.2 r r' q
        · rw [if_neg (fun z => e (Sum.inr.inj z))] at q
          rw [if_neg (by simpa using e)]
          cases (b && i == 0) with
          | true => exact oneLt_str q
          | false => exact kat_one _ _ (lt_str q)
theorem xfl {prog : Program} {w : World} {A : Around} {E : Value → Shared → Prop} {s : Shared} {a : Addr} {vs : List Value} {n : Nat} {P : PySem.Fin → Shared → Prop}
    (h : s.heap.get? a = some (seqObj "list" vs.toArray n)) (h2 : vs.length < 2) (q' : P (.done (.ret .none)) { s with heap := sortedHeap s.heap a vs vs.toArray }) :
    wpAny (model prog w) A (Builtin.«list.sort» { pos := [.ref a] }) P E s := by
  obtain ⟨hp, g, d, tk, os⟩ := s
  rcases vs with _ | ⟨v, _ | ⟨v', r⟩⟩
  · rw [list_sort_plain]
    repeat (any_goals (first | assumption | wp_step))
    show wpAny _ _ (pure (PUnit.unit, SortSt.mk' general' ((#[] : Array Value).zip #[]) #[] 7 none)) _ _ _
    refine wpAny_pure ?_
    have e3 : Array.map (fun x => x.snd) (arrOf (SortSt.mk' general' ((#[] : Array Value).zip #[]) #[] 7 none)) = #[] := by
      show Array.map (fun x => x.snd) ((#[] : Array Value).zip #[]) = #[]
      simp
    simp only [e3]
    have g1 : (((hp.update a (Obj.mapSeq fun x => #[])).push (seqObj "tuple" #[] 0)).push (seqObj "list" #[] 0)).get? a = some (seqObj "list" #[] (n)) := by
      refine Heap.get?_push_of_some _ (Heap.get?_push_of_some _ ?_)
      rw [Heap.get?_update_self _ h rfl]
      rfl
    show wpAny _ _ (seqEpoch a >>= _) _ _ _
    repeat (any_goals (first | assumption | wp_step))
  · rw [list_sort_plain]
    repeat (any_goals (first | assumption | wp_step))
    show wpAny _ _ (pure (PUnit.unit, SortSt.mk' general' ((#[v] : Array Value).zip #[v]) #[] 7 none)) _ _ _
    refine wpAny_pure ?_
    have e3 : Array.map (fun x => x.snd) (arrOf (SortSt.mk' general' ((#[v] : Array Value).zip #[v]) #[] 7 none)) = #[v] := by
      show Array.map (fun x => x.snd) ((#[v] : Array Value).zip #[v]) = #[v]
      simp
    simp only [e3]
    have g1 : (((hp.update a (Obj.mapSeq fun x => #[])).push (seqObj "tuple" #[v] 0)).push (seqObj "list" #[] 0)).get? a = some (seqObj "list" #[] (n + 1)) := by
      refine Heap.get?_push_of_some _ (Heap.get?_push_of_some _ ?_)
      rw [Heap.get?_update_self _ h rfl]
      rfl
    show wpAny _ _ (seqEpoch a >>= _) _ _ _
    repeat (any_goals (first | assumption | wp_step))
  · simp at h2
    omega
theorem xdq {α : Type} (f : α → Addr) : ∀ (es : List α), Vals (es.map fun x => V.ref (f x)) (es.map fun x => Value.ref (f x))
  | [] => .nil
  | x :: r => .cons rfl (xdq f r)
theorem xls {H : Hp} {kvs : List (List Key × V)} {es : List (List Key × Addr × Value)} (h : KT H kvs es) : (∀ x ∈ es, H x.2.1 = some (.tup (x.1.map kV))) ∧ es.map (·.1) = kvs.map (·.1) := by
  induction h with
  | nil => exact ⟨(fun _ z => nomatch z), rfl⟩
  | @cons p x kvs es hp r ih =>
    obtain ⟨e1, e2, _⟩ := hp
    refine ⟨fun y hy => ?_, by rw [List.map_cons, List.map_cons, ih.2, e1]⟩
    rcases List.mem_cons.mp hy with rfl | z
    · rw [← e1]
      exact e2
    · exact ih.1 y z
theorem xja {P : Program} {w : World} {H : Hp} {h : Heap} (ok : HOk P w H h) {b : Bool} {sh : List Bool} : ∀ (es : List (List Key × Addr × Value)), (∀ x ∈ es, H x.2.1 = some (.tup (x.1.map kV))) → (∀ x ∈ es, shp x.1 = b :: sh) →
    ∃ fs, KatTups h (es.map fun x => Value.ref x.2.1) fs ∧ fs.length = es.length ∧ ∀ v ∈ fs, if b = true then ∃ i t, v = Value.int i t else ∃ i t, v = Value.str i t
  | [], _, _ => ⟨[], KatTups.nil, rfl, fun _ z => nomatch z⟩
  | x :: es, h1, h2 => by
    obtain ⟨fs, k, l, m⟩ := xja ok es (fun y hy => h1 y (List.mem_cons_of_mem _ hy)) (fun y hy => h2 y (List.mem_cons_of_mem _ hy))
    obtain ⟨z2, ts, rt, ot, et, ct, nt, dt⟩ := ok x.2.1 _ (h1 x List.mem_cons_self)
    have s1 := h2 x List.mem_cons_self
    obtain ⟨k1, a1, v1⟩ := x
    cases k1 with
    | nil => cases s1
    | cons k0 kr =>
      simp only [shp, List.map_cons, List.cons.injEq] at s1
      simp only [List.map_cons] at rt
      cases rt with
      | @cons _ u _ us ru rr =>
        refine ⟨u :: fs, KatTups.cons et ct dt (by simp) k, by simp [l], fun v hv => ?_⟩
        rcases List.mem_cons.mp hv with rfl | hv'
        · cases k0 with
          | inl i =>
            obtain ⟨t, rfl⟩ := ru
            rw [if_pos (show b = true from s1.1.symm)]
            exact ⟨i, t, rfl⟩
          | inr i =>
            obtain ⟨t, rfl⟩ := ru
            rw [if_neg (show ¬ b = true by rw [← s1.1]; simp)]
            exact ⟨i, t, rfl⟩
        · exact m v hv'
theorem xi5 {X : Cx} {pins : List (Addr × Obj)} {σ : St} {H : Hp} {s : Shared} {h1 : Heap} {tk : Nat} {Q : VK} {sh : List Bool} (es' : List (List Key × Addr × Value)) (I1 : Inv X pins σ H { s with heap := h1, toks := tk })
    (hl : es'.length < 64) (km : ∀ x ∈ es', H x.2.1 = some (.tup (x.1.map kV))) (shE : ∀ x ∈ es', shp x.1 = sh) (hpos : 0 < sh.length) (hnd : (List.map (fun x => x.fst) es').Nodup)
    (q : ∀ (l : Addr) (ts : List (List Key × Addr)), H l = none → ts.Perm (es'.map fun x => (x.1, x.2.1)) → (ts.map (·.1)).Pairwise (fun x y => lexK x y = true) → Q (.ref l) (upd H l (.lst (ts.map fun t => .ref t.2)))) :
    wpAny (model X.prog X.w) X.A.in1 (newList (es'.map fun x => Value.ref x.2.1) >>= fun l => holding [l] (call (.builtin "list.sort") [l] []) >>= fun _ => ret l) (fun fin s' => ∃ v, fin = Fin.done (Flow.ret v) ∧ EP X pins σ Q v s') X.xe { s with heap := h1, toks := tk } := by
  have hz : es'.length ≤ sizeLine := Nat.le_of_lt (Nat.lt_trans hl (by decide))
  have vals : Vals (es'.map fun x => V.ref x.2.1) (es'.map fun x => Value.ref x.2.1) := xdq (fun x => x.2.1) es'
  have I2 := I1.lnew (t' := tk) vals (by rw [List.length_map]; exact hz)
  refine wpAny_bind (wpAny_newList ?_ (by rw [List.length_map]; exact hz))
  have fr : H h1.objs.size = none := I1.fresh
  have gl : (h1.push { cls := .type "list", data := .seq (es'.map fun x => Value.ref x.2.1).toArray }).get? h1.objs.size = some (seqObj "list" (es'.map fun x => Value.ref x.2.1).toArray 0) := Heap.get?_push_size _ rfl
  refine wpAny_bind (wpAny_holding (wpAny_call_entry slot_list_sort ⟨_, gl, rfl⟩ entry_list_sort ?_ (args_list_sort _)))
  have J1 := I2.lset (l := h1.objs.size) (its := es'.map fun x => Value.ref x.2.1) (its' := []) (ys := []) (f := fun _ => #[]) (t' := tk) xf gl rfl .nil (Nat.zero_le _)
  have J2 := J1.kept (t' := tk) (h' := (((h1.push { cls := .type "list", data := .seq (es'.map fun x => Value.ref x.2.1).toArray }).update h1.objs.size (Obj.mapSeq fun _ => #[])).push (seqObj "tuple" (es'.map fun x => Value.ref x.2.1).toArray 0)).push (seqObj "list" #[] 0)) fun b u e => Heap.get?_push_of_some _ (Heap.get?_push_of_some _ e)
  obtain ⟨z9, its9, n9, r9, hl9, e9⟩ := J2.lstM xf
  have done : ∀ (ts : List (List Key × Addr)), ts.Perm (es'.map fun x => (x.1, x.2.1)) → (ts.map (·.1)).Pairwise (fun x y => lexK x y = true) →
      EP X pins σ Q (.ref h1.objs.size) { s with heap := sortedHeap (h1.push { cls := .type "list", data := .seq (es'.map fun x => Value.ref x.2.1).toArray }) h1.objs.size (es'.map fun x => Value.ref x.2.1) (ts.map fun t => Value.ref t.2).toArray, toks := tk } := by
    intro ts pm pw
    have tl : ts.length = es'.length := by rw [pm.length_eq, List.length_map]
    have J3 := J2.lset (l := h1.objs.size) (its := its9) (its' := ts.map fun t => Value.ref t.2) (ys := ts.map fun t => V.ref t.2) (f := fun _ => (ts.map fun t => Value.ref t.2).toArray) (t' := tk) xf e9 rfl (xdq (fun t => t.2) ts) (by rw [List.length_map, tl]; exact hz)
    rw [xdx, xdx] at J3
    exact ⟨.ref h1.objs.size, _, J3, rfl, q _ ts fr pm pw⟩
  by_cases few : es'.length < 2
  · refine xfl gl (by rw [List.length_map]; exact few) ⟨_, rfl, wpAny_pure ⟨_, rfl, ?_⟩⟩
    have := done (es'.map fun x => (x.1, x.2.1)) (List.Perm.refl _) ?_
    · rw [List.map_map] at this
      exact this
    · match es', few with
      | [], _ => exact .nil
      | [x], _ => exact List.pairwise_singleton _ _
      | _ :: _ :: _, h => exact absurd h (by simp)
  · refine xe0 gl (by rw [List.length_map]; omega) (by rw [List.length_map]; exact hl) fun s' es1 es2 => ?_
    obtain ⟨b, sh0, rfl⟩ : ∃ b sh0, sh = b :: sh0 := by
      cases sh with
      | nil => simp at hpos
      | cons b r => exact ⟨b, r, rfl⟩
    rw [es1] at es2
    subst es2
    have km2 : ∀ x ∈ es', upd (upd H h1.objs.size (.lst (es'.map fun x => V.ref x.2.1))) h1.objs.size (.lst []) x.2.1 = some (.tup (x.1.map kV)) := fun x hx => by
      rw [xh (xk (km x hx) fr), xh (xk (km x hx) fr)]
      exact km x hx
    obtain ⟨fs, kt, fl, fm⟩ := xja J2.hok es' km2 shE
    have few' : 2 ≤ es'.length := by omega
    refine kat_kind (T := if b = true then .type "int" else .type "str") kt (by omega) (fun v hv => ?_) (by cases b <;> rfl) ⟨rfl, ?_⟩
    · have z := fm v hv
      cases b with
      | true =>
        obtain ⟨i, t, rfl⟩ := z
        exact fun A Q E s _ q => wpAny_typeOf (T := "int") rfl q
      | false =>
        obtain ⟨i, t, rfl⟩ := z
        exact fun A Q E s _ q => wpAny_typeOf (T := "str") rfl q
    rw [List.length_map]
    have eAt : ∀ i, i < es'.length → es'[i]? = some (es'.getD i ([], 0, .none)) := fun i hi => by
      rw [List.getD_eq_getElem?_getD, List.getElem?_eq_getElem hi]
      rfl
    have eM : ∀ i, i < es'.length → es'.getD i ([], 0, .none) ∈ es' := fun i hi => List.mem_of_getElem? (eAt i hi)
    have vAt : ∀ i, i < es'.length → (es'.map fun x => Value.ref x.2.1).getD i .none = .ref (es'.getD i ([], 0, .none)).2.1 := fun i hi => by
      rw [List.getD_eq_getElem?_getD, List.getElem?_map, eAt i hi]
      rfl
    have shI : ∀ i j, i < es'.length → j < es'.length → shp (es'.getD i ([], 0, .none)).1 = shp (es'.getD j ([], 0, .none)).1 := fun i j hi hj => by rw [shE _ (eM i hi), shE _ (eM j hj)]
    refine Srt.sort_wp (lt := fun i j => lexK (es'.getD i ([], 0, .none)).1 (es'.getD j ([], 0, .none)).1) ⟨fun i hi => xgl _, fun i j k hi hj hk => xhc (shI i j hi hj) (shI j k hj hk), fun i j hi hj ne => xf3 (shI i j hi hj) fun e => ne ?_⟩ (fun i j hi hj Q' q' => ?_) few' fun p arr srt => ⟨rfl, _, rfl, wpAny_pure ⟨_, rfl, ?_⟩⟩
    · have e1 : (es'.map (·.1))[i]? = (es'.map (·.1))[j]? := by rw [List.getElem?_map, List.getElem?_map, eAt i hi, eAt j hj]; exact congrArg some e
      exact (List.getElem?_inj (by rw [List.length_map]; exact hi) hnd).mp e1
    · show wpAny _ _ (keyLt' _ ((es'.map fun x => Value.ref x.2.1).getD i .none) ((es'.map fun x => Value.ref x.2.1).getD j .none)) _ _ _
      rw [vAt i hi, vAt j hj]
      obtain ⟨_, ti, ri, oi, ei, _, ni, di⟩ := J2.hok _ _ (km2 _ (eM i hi))
      obtain ⟨_, tj, rj, oj, ej, _, nj, dj⟩ := J2.hok _ _ (km2 _ (eM j hj))
      have l1 := Vals.length ri
      have l2 := Vals.length rj
      have l3 := congrArg List.length (shI i j hi hj)
      simp only [List.length_map] at l1 l2 l3
      refine kat_lt ei di ej dj ?_
      rw [decide_eq_false (by simp; omega)]
      exact xgh _ _ _ _ 0 (shI i j hi hj) ri rj q'
    have pl : ∀ i ∈ p.toList, i < es'.length := fun i hi => by
      have := (Array.Perm.mem_iff arr.pm).mp (Array.mem_toList_iff.mp hi)
      simpa using this
    have := done (p.toList.map fun i => ((es'.getD i ([], 0, .none)).1, (es'.getD i ([], 0, .none)).2.1)) ?_ ?_
    · rw [List.map_map] at this
      have e2 : (p.map fun i => (es'.map fun x => Value.ref x.2.1).getD i .none) = (p.toList.map ((fun t : List Key × Addr => Value.ref t.2) ∘ fun i => ((es'.getD i ([], 0, .none)).1, (es'.getD i ([], 0, .none)).2.1))).toArray := by
        rw [← Array.toList_inj, Array.toList_map]
        exact List.map_congr_left fun i hi => vAt i (pl i hi)
      rw [e2]
      exact this
    · have e3 : (es'.map fun x => (x.1, x.2.1)) = (List.range es'.length).map fun i => ((es'.getD i ([], 0, .none)).1, (es'.getD i ([], 0, .none)).2.1) := by
        refine List.ext_getElem? fun i => ?_
        by_cases c : i < es'.length
        · rw [List.getElem?_map, eAt i c, List.getElem?_map, List.getElem?_range c]
          rfl
        · rw [List.getElem?_eq_none (by rw [List.length_map]; omega), List.getElem?_eq_none (by simp; omega)]
      rw [e3]
      refine List.Perm.map _ ?_
      have := Array.Perm.toList arr.pm
      simpa using this
    · rw [List.map_map, List.pairwise_map, List.pairwise_iff_getElem]
      intro i j hi hj hij
      have z := srt i j hij (by rw [← arr.sz]; simpa using hj)
      have gi : Srt.g p i = p.toList[i] := Srt.g_at (by rw [← Array.getElem?_toList]; exact List.getElem?_eq_getElem hi)
      have gj : Srt.g p j = p.toList[j] := Srt.g_at (by rw [← Array.getElem?_toList]; exact List.getElem?_eq_getElem hj)
      rw [gi, gj] at z
      exact z
def xj5 : List V → Hp → VK → Prop := fun xs H Q => ∃ (d : Addr) (kvs : List (List Key × V)) (sh : List Bool), xs = [.ref d] ∧ H d = some (.dT kvs) ∧ kvs.length < 64 ∧ (∀ p ∈ kvs, shp p.1 = sh) ∧ 0 < sh.length ∧
  ∀ (l : Addr) (ts : List (List Key × Addr)), H l = none → (∀ t ∈ ts, H t.2 = some (.tup (t.1.map kV))) → (ts.map (·.1)).Perm (kvs.map (·.1)) → (ts.map (·.1)).Pairwise (fun x y => lexK x y = true) → Q (.ref l) (upd H l (.lst (ts.map fun t => .ref t.2)))
theorem xgo {X : Cx} (hc : X.calm = true) : xb7 X (.builtin "sorted") xj5 := by
  intro pins s σ H xs us Q I r h
  obtain ⟨d, kvs, sh, rfl, hd, hl, hsh, hpos, q⟩ := h
  obtain ⟨u, rfl, ru⟩ := xdu r
  obtain rfl : u = Value.ref d := ru
  obtain ⟨z, hsys, es', rel, dd⟩ := xkg I.hok hd
  obtain ⟨o, es, ep, ho, hx, hdat, hes, hkk, hnd⟩ := dd
  have ln := Paired.length rel
  have esz : es.size = es'.length := by rw [← Array.length_toList, hes, List.length_map]
  refine Calls.call_function_entry kind_sorted plain_sorted entry_sorted (args_sorted1 _) ?_
  unfold Builtin.sorted
  refine wpAny_bind (wpAny_pure ?_)
  show wpAny _ _ (collect (.ref d) >>= _) _ _ _
  refine wpAny_bind (kdu_collect (xk9 hsys hx hdat) (I.ok.hd hc) ho (by rw [esz, ← ln]; exact z) fun h1 tk acc keep items => ?_)
  have acl : acc.toList = es'.map fun x => Value.ref x.2.1 := by
    refine List.ext_getElem? fun j => ?_
    obtain ⟨i1, i2⟩ := items
    by_cases c : j < es'.length
    · have c' : j < acc.size := by rw [i1, esz]; exact c
      have e : acc[j]? = some acc[j] := Array.getElem?_eq_getElem c'
      obtain ⟨en, he, hv⟩ := i2 j acc[j] e
      rw [Array.getElem?_toList, e, hv]
      have he' : es.toList[j]? = some en := by rw [Array.getElem?_toList]; exact he
      rw [hes, List.getElem?_map, List.getElem?_eq_getElem c] at he'
      rw [List.getElem?_map, List.getElem?_eq_getElem c]
      have := Option.some.inj he'
      rw [← this]
      rfl
    · rw [List.getElem?_eq_none (by rw [Array.length_toList, i1, esz]; omega), List.getElem?_eq_none (by rw [List.length_map]; omega)]
  rw [acl]
  have I1 : Inv X pins σ H { s with heap := h1, toks := tk } := I.kept keep
  obtain ⟨km, ke⟩ := xls rel
  have shE : ∀ x ∈ es', shp x.1 = sh := fun x hx => by
    have m : x.1 ∈ kvs.map (·.1) := by rw [← ke]; exact List.mem_map.mpr ⟨x, hx, rfl⟩
    obtain ⟨p, hp, e⟩ := List.mem_map.mp m
    rw [← e]
    exact hsh p hp
  refine xi5 es' I1 (by rw [← ln]; exact hl) km shE hpos hnd fun l ts fr pm pw => q l ts fr (fun t ht => ?_) ?_ pw
  · obtain ⟨x, hx, rfl⟩ := List.mem_map.mp (pm.mem_iff.mp ht)
    exact km x hx
  · have := pm.map (·.1)
    rw [List.map_map] at this
    rw [← ke]
    exact this
end L2
set_option maxRecDepth 100000
namespace L2
open PySem PySem.Spec PyProof.Rows XL PySem.W
variable {q0 : Bool}
section
variable {X : Cx} {o e : Expr} {td ty : TE} {apos cpos : Pos}
end
end L2
set_option maxRecDepth 100000
namespace L2
open PySem PySem.Spec PyProof.Rows XL PySem.W
variable {q0 : Bool}
end L2
set_option maxRecDepth 100000
set_option maxHeartbeats 1000000
namespace L2
open PySem PySem.Spec PyProof.Rows XL PySem.W
inductive DV where
  | non
  | bl (b : Bool)
  | int (i : Int)
  | str (x : Str)
  | tup (xs : List DV)
  | lst (xs : List DV)
mutual
def dEq : DV → DV → Bool
  | .non, .non => true
  | .bl a, .bl b => a == b
  | .bl a, .int b => (if a then 1 else 0) == b
  | .int a, .bl b => a == (if b then 1 else 0)
  | .int a, .int b => a == b
  | .str a, .str b => a == b
  | .tup xs, .tup ys => dEqs xs ys
  | .lst xs, .lst ys => dEqs xs ys
  | _, _ => false
def dEqs : List DV → List DV → Bool
  | [], [] => true
  | x :: xs, y :: ys => dEq x y && dEqs xs ys
  | _, _ => false
end
mutual
theorem xbu : ∀ d, dEq d d = true
  | .non => rfl
  | .bl _ => by simp [dEq]
  | .int _ => by simp [dEq]
  | .str _ => by simp [dEq]
  | .tup xs => by simp only [dEq]; exact xch xs
  | .lst xs => by simp only [dEq]; exact xch xs
theorem xch : ∀ xs, dEqs xs xs = true
  | [] => rfl
  | x :: xs => by simp only [dEqs, Bool.and_eq_true]; exact ⟨xbu x, xch xs⟩
end
mutual
def DV.pl : DV → Bool
  | .bl _ => false
  | .tup xs => pls xs
  | .lst xs => pls xs
  | _ => true
def pls : List DV → Bool
  | [] => true
  | x :: xs => x.pl && pls xs
end
theorem xeb : ∀ {xs ys : List DV} {e : Nat → Bool}, (∀ (j : Nat) (x y : DV), xs[j]? = some x → ys[j]? = some y → e j = dEq x y) → ((List.range (min xs.length ys.length)).all e && xs.length == ys.length) = dEqs xs ys
  | [], [], _, _ => rfl
  | [], _ :: _, _, _ => by simp [dEqs]
  | _ :: _, [], _, _ => by simp [dEqs]
  | x :: xs, y :: ys, e, h => by
    have ih := xeb (xs := xs) (ys := ys) (e := fun j => e (j + 1)) (fun j a b ha hb => h (j + 1) a b (by simpa using ha) (by simpa using hb))
    have h0 := h 0 x y rfl rfl
    rw [List.length_cons, List.length_cons, show min (xs.length + 1) (ys.length + 1) = min xs.length ys.length + 1 by omega, List.range_succ_eq_map, List.all_cons, List.all_map]
    show _ = (dEq x y && dEqs xs ys)
    rw [← ih, h0]
    have z : ((xs.length + 1 == ys.length + 1) : Bool) = (xs.length == ys.length) := by
      rw [Bool.eq_iff_iff]
      simp
    rw [z, Bool.and_assoc]
    rfl
theorem xgi : ∀ {xs ys : List DV}, xs.length ≠ ys.length → dEqs xs ys = false
  | [], [], h => absurd rfl h
  | [], _ :: _, _ => rfl
  | _ :: _, [], _ => rfl
  | x :: xs, y :: ys, h => by
    show (dEq x y && dEqs xs ys) = false
    rw [xgi (xs := xs) (ys := ys) (fun z => h (by simp [z]))]
    exact Bool.and_false _
inductive Dv (K : PySem.W.Frag) (H : Hp) : Nat → V → DV → Prop
  | non {n : Nat} : Dv K H n .non .non
  | bl {n : Nat} {b : Bool} : Dv K H n (.bl b) (.bl b)
  | int {n : Nat} {b : Int} : Dv K H n (.int b) (.int b)
  | str {n : Nat} {b : Str} : Dv K H n (.str b) (.str b)
  | tup {n : Nat} {a : Addr} {xs : List V} {ds : List DV} (ha : SqT K H a xs) (hl : xs.length = ds.length) (h : ∀ (j : Nat) (x : V) (d : DV), xs[j]? = some x → ds[j]? = some d → Dv K H n x d) : Dv K H (n + 1) (.ref a) (.tup ds)
  | lst {n : Nat} {a : Addr} {xs : List V} {ds : List DV} (ha : SqL K H a xs) (hl : xs.length = ds.length) (h : ∀ (j : Nat) (x : V) (d : DV), xs[j]? = some x → ds[j]? = some d → Dv K H n x d) : Dv K H (n + 1) (.ref a) (.lst ds)
section
variable {X : Cx} {pins : List (Addr × Obj)} {σ : St} {H : Hp} {s : Shared}
theorem xe7 {h : Heap} {a : Addr} {i j : Array Value} (p : h.IsTuple a i) (q : PlainL h a j) : False := by
  obtain ⟨o, e, c, _⟩ := p
  obtain ⟨o', n, e', c', _⟩ := q
  rw [e] at e'
  cases e'
  rw [c] at c'
  exact absurd c' (by decide)
theorem xi0 {xs ys : List DV} (h : xs.length = ys.length) (f : ∀ (j : Nat) (x y : DV), xs[j]? = some x → ys[j]? = some y → x = y) : xs = ys := by
  refine List.ext_getElem? fun j => ?_
  by_cases c : j < xs.length
  · rw [List.getElem?_eq_getElem c, List.getElem?_eq_getElem (by omega), f j _ _ (List.getElem?_eq_getElem c) (List.getElem?_eq_getElem (by omega))]
  · rw [List.getElem?_eq_none (by omega), List.getElem?_eq_none (by omega)]
theorem xf7 (I : Inv X pins σ H s) {n : Nat} {x : V} {d : DV} (h : Dv X.K H n x d) : ∀ {m : Nat} {e : DV}, Dv X.K H m x e → d = e := by
  induction h with
  | non => intro m e h; cases h; rfl
  | bl => intro m e h; cases h; rfl
  | int => intro m e h; cases h; rfl
  | str => intro m e h; cases h; rfl
  | @tup n a xs ds ha hl h ih =>
    intro m e h2
    cases h2 with
    | @tup m _ ys es hb kl k =>
      obtain rfl := I.tuple_inj ha hb
      refine congrArg DV.tup (xi0 (by omega) fun j d e h1 h2 => ?_)
      have lt : j < xs.length := by
        have := (List.getElem?_eq_some_iff.mp h1).1
        omega
      exact ih j xs[j] d (List.getElem?_eq_getElem lt) h1 (k j xs[j] e (List.getElem?_eq_getElem lt) h2)
    | @lst m _ ys es hb kl k =>
      obtain ⟨its, _, t1, _⟩ := I.tuple ha
      obtain ⟨its2, _, t2, _⟩ := I.list hb
      exact (xe7 t1 t2).elim
  | @lst n a xs ds ha hl h ih =>
    intro m e h2
    cases h2 with
    | @lst m _ ys es hb kl k =>
      obtain rfl := I.list_inj ha hb
      refine congrArg DV.lst (xi0 (by omega) fun j d e h1 h2 => ?_)
      have lt : j < xs.length := by
        have := (List.getElem?_eq_some_iff.mp h1).1
        omega
      exact ih j xs[j] d (List.getElem?_eq_getElem lt) h1 (k j xs[j] e (List.getElem?_eq_getElem lt) h2)
    | @tup m _ ys es hb kl k =>
      obtain ⟨its, _, t1, _⟩ := I.tuple hb
      obtain ⟨its2, _, t2, _⟩ := I.list ha
      exact (xe7 t1 t2).elim
def at2 (f : DV → DV → Bool) (ds es : List DV) (j : Nat) : Bool := match ds[j]?, es[j]? with | some d, some e => f d e | _, _ => false
theorem xeq {f : DV → DV → Bool} {ds es : List DV} {j : Nat} {d e : DV} (h : ds[j]? = some d) (h2 : es[j]? = some e) : at2 f ds es j = f d e := by
  unfold at2
  rw [h, h2]
theorem xfq (I : Inv X pins σ H s) {n : Nat} {x : V} {d : DV} (h : Dv X.K H n x d) : ∀ {m : Nat} {y : V} {e : DV}, Dv X.K H m y e → ∀ {A : Around} {u v : Value}, A.units + n + m < cLine → RelV x u → RelV y v →
    SeqAt.EqAt A s u v (dEq d e) ∧ SeqAt.RcAt A s u v (dEq d e) ∧ SeqAt.RcNeAt A s u v (!dEq d e) := by
  induction h with
  | @non n =>
    intro m y e h2 A u v hu rx ry
    obtain rfl : u = Value.none := rx
    cases h2 with
    | @non  =>
      obtain rfl : v = Value.none := ry
      exact ⟨SeqAt.EqAt.same _, SeqAt.RcAt.none_none, SeqAt.RcNeAt.none_none⟩
    | @bl _ b2 =>
      obtain rfl : v = Value.bool _ := ry
      exact ⟨SeqAt.EqAt.none_bool _, SeqAt.RcAt.none_bool _, SeqAt.RcNeAt.none_bool _⟩
    | @int _ b2 =>
      obtain ⟨_, rfl⟩ := ry
      exact ⟨SeqAt.EqAt.none_int _ _, SeqAt.RcAt.none_int _ _, SeqAt.RcNeAt.none_int _ _⟩
    | @str _ b2 =>
      obtain ⟨_, rfl⟩ := ry
      exact ⟨SeqAt.EqAt.none_str _ _, SeqAt.RcAt.none_str _ _, SeqAt.RcNeAt.none_str _ _⟩
    | @tup m b ys es hb kl k =>
      obtain rfl : v = Value.ref _ := ry
      obtain ⟨its2, r2, t2, z2⟩ := I.tuple hb
      have l2 := r2.length
      exact ⟨SeqAt.EqAt.none_tuple t2 (by omega), SeqAt.RcAt.none_tuple t2 (by omega), SeqAt.RcNeAt.none_tuple t2 (by omega)⟩
    | @lst m b ys es hb kl k =>
      obtain rfl : v = Value.ref _ := ry
      obtain ⟨its2, r2, t2, z2⟩ := I.list hb
      have l2 := r2.length
      exact ⟨SeqAt.EqAt.none_list t2.isList (by omega), SeqAt.RcAt.none_list t2.isList (by omega), SeqAt.RcNeAt.none_list t2.isList (by omega)⟩
  | @bl n b1 =>
    intro m y e h2 A u v hu rx ry
    obtain rfl : u = Value.bool _ := rx
    cases h2 with
    | @non  =>
      obtain rfl : v = Value.none := ry
      exact ⟨SeqAt.EqAt.bool_none _, SeqAt.RcAt.bool_none _, SeqAt.RcNeAt.bool_none _⟩
    | @bl _ b2 =>
      obtain rfl : v = Value.bool _ := ry
      exact ⟨SeqAt.EqAt.bool_bool _ _, SeqAt.RcAt.bool_bool _ _, SeqAt.RcNeAt.bool_bool _ _⟩
    | @int _ b2 =>
      obtain ⟨_, rfl⟩ := ry
      exact ⟨SeqAt.EqAt.bool_int _ _ _, SeqAt.RcAt.bool_int _ _ _, SeqAt.RcNeAt.bool_int _ _ _⟩
    | @str _ b2 =>
      obtain ⟨_, rfl⟩ := ry
      exact ⟨SeqAt.EqAt.bool_str _ _ _, SeqAt.RcAt.bool_str _ _ _, SeqAt.RcNeAt.bool_str _ _ _⟩
    | @tup m b ys es hb kl k =>
      obtain rfl : v = Value.ref _ := ry
      obtain ⟨its2, r2, t2, z2⟩ := I.tuple hb
      have l2 := r2.length
      exact ⟨SeqAt.EqAt.bool_tuple _ t2 (by omega), SeqAt.RcAt.bool_tuple _ t2 (by omega), SeqAt.RcNeAt.bool_tuple _ t2 (by omega)⟩
    | @lst m b ys es hb kl k =>
      obtain rfl : v = Value.ref _ := ry
      obtain ⟨its2, r2, t2, z2⟩ := I.list hb
      have l2 := r2.length
      exact ⟨SeqAt.EqAt.bool_list _ t2.isList (by omega), SeqAt.RcAt.bool_list _ t2.isList (by omega), SeqAt.RcNeAt.bool_list _ t2.isList (by omega)⟩
  | @int n b1 =>
    intro m y e h2 A u v hu rx ry
    obtain ⟨_, rfl⟩ := rx
    cases h2 with
    | @non  =>
      obtain rfl : v = Value.none := ry
      exact ⟨SeqAt.EqAt.int_none _ _, SeqAt.RcAt.int_none _ _, SeqAt.RcNeAt.int_none _ _⟩
    | @bl _ b2 =>
      obtain rfl : v = Value.bool _ := ry
      exact ⟨SeqAt.EqAt.int_bool _ _ _, SeqAt.RcAt.int_bool _ _ _, SeqAt.RcNeAt.int_bool _ _ _⟩
    | @int _ b2 =>
      obtain ⟨_, rfl⟩ := ry
      exact ⟨SeqAt.EqAt.int_int _ _ _ _, SeqAt.RcAt.int_int _ _ _ _, SeqAt.RcNeAt.int_int _ _ _ _⟩
    | @str _ b2 =>
      obtain ⟨_, rfl⟩ := ry
      exact ⟨SeqAt.EqAt.int_str _ _ _ _, SeqAt.RcAt.int_str _ _ _ _, SeqAt.RcNeAt.int_str _ _ _ _⟩
    | @tup m b ys es hb kl k =>
      obtain rfl : v = Value.ref _ := ry
      obtain ⟨its2, r2, t2, z2⟩ := I.tuple hb
      have l2 := r2.length
      exact ⟨SeqAt.EqAt.int_tuple _ _ t2 (by omega), SeqAt.RcAt.int_tuple _ _ t2 (by omega), SeqAt.RcNeAt.int_tuple _ _ t2 (by omega)⟩
    | @lst m b ys es hb kl k =>
      obtain rfl : v = Value.ref _ := ry
      obtain ⟨its2, r2, t2, z2⟩ := I.list hb
      have l2 := r2.length
      exact ⟨SeqAt.EqAt.int_list _ _ t2.isList (by omega), SeqAt.RcAt.int_list _ _ t2.isList (by omega), SeqAt.RcNeAt.int_list _ _ t2.isList (by omega)⟩
  | @str n b1 =>
    intro m y e h2 A u v hu rx ry
    obtain ⟨_, rfl⟩ := rx
    cases h2 with
    | @non  =>
      obtain rfl : v = Value.none := ry
      exact ⟨SeqAt.EqAt.str_none _ _, SeqAt.RcAt.str_none _ _, SeqAt.RcNeAt.str_none _ _⟩
    | @bl _ b2 =>
      obtain rfl : v = Value.bool _ := ry
      exact ⟨SeqAt.EqAt.str_bool _ _ _, SeqAt.RcAt.str_bool _ _ _, SeqAt.RcNeAt.str_bool _ _ _⟩
    | @int _ b2 =>
      obtain ⟨_, rfl⟩ := ry
      exact ⟨SeqAt.EqAt.str_int _ _ _ _, SeqAt.RcAt.str_int _ _ _ _, SeqAt.RcNeAt.str_int _ _ _ _⟩
    | @str _ b2 =>
      obtain ⟨_, rfl⟩ := ry
      exact ⟨SeqAt.EqAt.str_str _ _ _ _, SeqAt.RcAt.str_str _ _ _ _, SeqAt.RcNeAt.str_str _ _ _ _⟩
    | @tup m b ys es hb kl k =>
      obtain rfl : v = Value.ref _ := ry
      obtain ⟨its2, r2, t2, z2⟩ := I.tuple hb
      have l2 := r2.length
      exact ⟨SeqAt.EqAt.str_tuple _ _ t2 (by omega), SeqAt.RcAt.str_tuple _ _ t2 (by omega), SeqAt.RcNeAt.str_tuple _ _ t2 (by omega)⟩
    | @lst m b ys es hb kl k =>
      obtain rfl : v = Value.ref _ := ry
      obtain ⟨its2, r2, t2, z2⟩ := I.list hb
      have l2 := r2.length
      exact ⟨SeqAt.EqAt.str_list _ _ t2.isList (by omega), SeqAt.RcAt.str_list _ _ t2.isList (by omega), SeqAt.RcNeAt.str_list _ _ t2.isList (by omega)⟩
  | @tup n a xs ds ha hl h ih =>
    intro m y e h2 A u v hu rx ry
    obtain rfl : u = Value.ref _ := rx
    obtain ⟨its, r1, t1, z1⟩ := I.tuple ha
    have l1 := r1.length
    cases h2 with
    | @non  =>
      obtain rfl : v = Value.none := ry
      exact ⟨SeqAt.EqAt.tuple_none t1 (by omega), SeqAt.RcAt.tuple_none t1 (by omega), SeqAt.RcNeAt.tuple_none t1 (by omega)⟩
    | @bl _ b2 =>
      obtain rfl : v = Value.bool _ := ry
      exact ⟨SeqAt.EqAt.tuple_bool _ t1 (by omega), SeqAt.RcAt.tuple_bool _ t1 (by omega), SeqAt.RcNeAt.tuple_bool _ t1 (by omega)⟩
    | @int _ b2 =>
      obtain ⟨_, rfl⟩ := ry
      exact ⟨SeqAt.EqAt.tuple_int _ _ t1 (by omega), SeqAt.RcAt.tuple_int _ _ t1 (by omega), SeqAt.RcNeAt.tuple_int _ _ t1 (by omega)⟩
    | @str _ b2 =>
      obtain ⟨_, rfl⟩ := ry
      exact ⟨SeqAt.EqAt.tuple_str _ _ t1 (by omega), SeqAt.RcAt.tuple_str _ _ t1 (by omega), SeqAt.RcNeAt.tuple_str _ _ t1 (by omega)⟩
    | @tup m b ys es hb kl k =>
      obtain rfl : v = Value.ref _ := ry
      obtain ⟨its2, r2, t2, z2⟩ := I.tuple hb
      have l2 := r2.length
      have step : ∀ (j : Nat) (h1 : j < its.toArray.size) (h2 : j < its2.toArray.size), SeqAt.EqAt A.in1 s its.toArray[j] its2.toArray[j] (at2 dEq ds es j) := fun j h1 h2 => by
        obtain ⟨x, hx, rx⟩ := xd3 r1 h1
        obtain ⟨y, hy, ry⟩ := xd3 r2 h2
        have j1 : j < ds.length := by simp at h1; omega
        have j2 : j < es.length := by simp at h2; omega
        rw [xeq (List.getElem?_eq_getElem j1) (List.getElem?_eq_getElem j2)]
        exact (ih j x _ hx (List.getElem?_eq_getElem j1) (k j y _ hy (List.getElem?_eq_getElem j2)) (A := A.in1) (by show A.units + 1 + n + m < cLine; omega) rx ry).1
      have all := xeb (xs := ds) (ys := es) (e := at2 dEq ds es) fun j x y h1 h2 => xeq h1 h2
      have both : SeqAt.RcAt A s (.ref a) (.ref b) (dEqs ds es) ∧ SeqAt.RcNeAt A s (.ref a) (.ref b) (!dEqs ds es) := by
        have z1 := SeqAt.RcAt.tuples (A := A) (e := at2 dEq ds es) (show s.heap.IsTuple a its.toArray from t1) (show s.heap.IsTuple b its2.toArray from t2) (by omega) step
        have z2 := SeqAt.RcNeAt.tuples (A := A) (e := at2 dEq ds es) (show s.heap.IsTuple a its.toArray from t1) (show s.heap.IsTuple b its2.toArray from t2) (by omega) step
        have e1 : its.toArray.size = ds.length := by simp; omega
        have e2 : its2.toArray.size = es.length := by simp; omega
        rw [e1, e2, all] at z1 z2
        exact ⟨z1, z2⟩
      simp only [dEq]
      refine ⟨?_, both⟩
      by_cases q : a = b
      · subst q
        have ed : DV.tup ds = DV.tup es := xf7 I (Dv.tup ha hl h) (Dv.tup hb kl k)
        rw [show es = ds by injection ed with z; exact z.symm, xch]
        exact SeqAt.EqAt.same _
      · exact .of_refs q both.1
    | @lst m b ys es hb kl k =>
      obtain rfl : v = Value.ref _ := ry
      obtain ⟨its2, r2, t2, z2⟩ := I.list hb
      have l2 := r2.length
      exact ⟨SeqAt.EqAt.tuple_list t1 t2.isList (by omega), SeqAt.RcAt.tuple_list t1 t2.isList (by omega), SeqAt.RcNeAt.tuple_list t1 t2.isList (by omega)⟩
  | @lst n a xs ds ha hl h ih =>
    intro m y e h2 A u v hu rx ry
    obtain rfl : u = Value.ref _ := rx
    obtain ⟨its, r1, t1, z1⟩ := I.list ha
    have l1 := r1.length
    cases h2 with
    | @non  =>
      obtain rfl : v = Value.none := ry
      exact ⟨SeqAt.EqAt.list_none t1.isList (by omega), SeqAt.RcAt.list_none t1.isList (by omega), SeqAt.RcNeAt.list_none t1.isList (by omega)⟩
    | @bl _ b2 =>
      obtain rfl : v = Value.bool _ := ry
      exact ⟨SeqAt.EqAt.list_bool _ t1.isList (by omega), SeqAt.RcAt.list_bool _ t1.isList (by omega), SeqAt.RcNeAt.list_bool _ t1.isList (by omega)⟩
    | @int _ b2 =>
      obtain ⟨_, rfl⟩ := ry
      exact ⟨SeqAt.EqAt.list_int _ _ t1.isList (by omega), SeqAt.RcAt.list_int _ _ t1.isList (by omega), SeqAt.RcNeAt.list_int _ _ t1.isList (by omega)⟩
    | @str _ b2 =>
      obtain ⟨_, rfl⟩ := ry
      exact ⟨SeqAt.EqAt.list_str _ _ t1.isList (by omega), SeqAt.RcAt.list_str _ _ t1.isList (by omega), SeqAt.RcNeAt.list_str _ _ t1.isList (by omega)⟩
    | @tup m b ys es hb kl k =>
      obtain rfl : v = Value.ref _ := ry
      obtain ⟨its2, r2, t2, z2⟩ := I.tuple hb
      have l2 := r2.length
      exact ⟨SeqAt.EqAt.list_tuple t1.isList t2 (by omega), SeqAt.RcAt.list_tuple t1.isList t2 (by omega), SeqAt.RcNeAt.list_tuple t1.isList t2 (by omega)⟩
    | @lst m b ys es hb kl k =>
      obtain rfl : v = Value.ref _ := ry
      obtain ⟨its2, r2, t2, z2⟩ := I.list hb
      have l2 := r2.length
      have step : ∀ (j : Nat) (h1 : j < its.toArray.size) (h2 : j < its2.toArray.size), SeqAt.EqAt A.in1 s its.toArray[j] its2.toArray[j] (at2 dEq ds es j) := fun j h1 h2 => by
        obtain ⟨x, hx, rx⟩ := xd3 r1 h1
        obtain ⟨y, hy, ry⟩ := xd3 r2 h2
        have j1 : j < ds.length := by simp at h1; omega
        have j2 : j < es.length := by simp at h2; omega
        rw [xeq (List.getElem?_eq_getElem j1) (List.getElem?_eq_getElem j2)]
        exact (ih j x _ hx (List.getElem?_eq_getElem j1) (k j y _ hy (List.getElem?_eq_getElem j2)) (A := A.in1) (by show A.units + 1 + n + m < cLine; omega) rx ry).1
      have all := xeb (xs := ds) (ys := es) (e := at2 dEq ds es) fun j x y h1 h2 => xeq h1 h2
      have both : SeqAt.RcAt A s (.ref a) (.ref b) (dEqs ds es) ∧ SeqAt.RcNeAt A s (.ref a) (.ref b) (!dEqs ds es) := by
        have e1 : its.toArray.size = ds.length := by simp; omega
        have e2 : its2.toArray.size = es.length := by simp; omega
        by_cases c : ds.length = es.length
        · have z1 := SeqAt.RcAt.lists (A := A) (e := at2 dEq ds es) t1.isList t2.isList (by omega) (by omega) step
          have z2 := SeqAt.RcNeAt.lists (A := A) (e := at2 dEq ds es) t1.isList t2.isList (by omega) (by omega) step
          have all' : (List.range ds.length).all (at2 dEq ds es) = dEqs ds es := by
            rw [← all, c, Nat.min_self]
            simp
          rw [e1, all'] at z1 z2
          exact ⟨z1, z2⟩
        · rw [xgi c]
          exact ⟨SeqAt.RcAt.lists_lengths (A := A) t1.isList t2.isList (by rw [e1, e2]; simpa using c) (by omega), SeqAt.RcNeAt.lists_lengths (A := A) t1.isList t2.isList (by rw [e1, e2]; simpa using c) (by omega)⟩
      simp only [dEq]
      refine ⟨?_, both⟩
      by_cases q : a = b
      · subst q
        have ed : DV.lst ds = DV.lst es := xf7 I (Dv.lst ha hl h) (Dv.lst hb kl k)
        rw [show es = ds by injection ed with z; exact z.symm, xch]
        exact SeqAt.EqAt.same _
      · exact .of_refs q both.1
end
theorem Same.seqL {K : PySem.W.Frag} {H H' : Hp} {a : Addr} {xs : List V} (s : Same H H') (h : SqL K H a xs) : SqL K H' a xs := by
  rcases h with (h | ⟨ob, h⟩) | h
  · exact .inl (.inl (s _ _ h))
  · exact .inl (.inr ⟨ob, s _ _ h⟩)
  · exact .inr h
theorem Same.seqT {K : PySem.W.Frag} {H H' : Hp} {a : Addr} {xs : List V} (s : Same H H') (h : SqT K H a xs) : SqT K H' a xs := by
  rcases h with (h | ⟨ob, h⟩) | h
  · exact .inl (.inl (s _ _ h))
  · exact .inl (.inr ⟨ob, s _ _ h⟩)
  · exact .inr h
theorem Dv.same {K : PySem.W.Frag} {H H' : Hp} (s : Same H H') {n : Nat} {x : V} {d : DV} (h : Dv K H n x d) : Dv K H' n x d := by
  induction h with
  | non => exact .non
  | bl => exact .bl
  | int => exact .int
  | str => exact .str
  | tup ha hl h ih => exact .tup (Same.seqT s ha) hl ih
  | lst ha hl h ih => exact .lst (Same.seqL s ha) hl ih
def rEqV (K : PySem.W.Frag) : R2 := fun x y H Q => ∃ (n m : Nat) (d e : DV), Dv K H n x d ∧ Dv K H m y e ∧ n ≤ 9 ∧ m ≤ 9 ∧ Q (.bl (dEq d e)) H
def rNeV (K : PySem.W.Frag) : R2 := fun x y H Q => ∃ (n m : Nat) (d e : DV), Dv K H n x d ∧ Dv K H m y e ∧ n ≤ 9 ∧ m ≤ 9 ∧ Q (.bl (!dEq d e)) H
def rInV (K : PySem.W.Frag) (neg : Bool) : R2 := fun x y H Q => ∃ (n m : Nat) (d : DV) (es : List DV), Dv K H n x d ∧ Dv K H m y (.lst es) ∧ n ≤ 9 ∧ m ≤ 9 ∧ Q (.bl (if neg then !es.any (fun z => dEq z d) else es.any fun z => dEq z d)) H
section
variable {X : Cx}
theorem xfy (hu : X.A.units + 20 < cLine) : OpR X (compareOp .Eq) (rEqV X.K) := by
  intro pins s σ H x y u v Q I rx ry h
  obtain ⟨n, m, d, e, h1, h2, hn, hm, q⟩ := h
  exact (xfq I h1 h2 (A := X.A) (by omega) rx ry).2.1 X.prog X.w X.xe _ ⟨.bl _, H, I, rfl, q⟩
theorem xgn (hu : X.A.units + 20 < cLine) : OpR X (compareOp .NotEq) (rNeV X.K) := by
  intro pins s σ H x y u v Q I rx ry h
  obtain ⟨n, m, d, e, h1, h2, hn, hm, q⟩ := h
  exact PySem.W.cmp_ofNotEq ((xfq I h1 h2 (A := X.A) (by omega) rx ry).2.2 X.prog X.w X.xe _ ⟨.bl _, H, I, rfl, q⟩)
theorem xgg {α β : Type} {f : α → Bool} {g : β → Bool} : ∀ {xs : List α} {ys : List β}, xs.length = ys.length → (∀ (j : Nat) (x : α) (y : β), xs[j]? = some x → ys[j]? = some y → f x = g y) → xs.any f = ys.any g
  | [], [], _, _ => rfl
  | [], _ :: _, h, _ => by cases h
  | _ :: _, [], h, _ => by cases h
  | x :: xs, y :: ys, h, k => by
    rw [List.any_cons, List.any_cons, k 0 x y rfl rfl, xgg (xs := xs) (ys := ys) (by simpa using h) fun j a b h1 h2 => k (j + 1) a b (by simpa using h1) (by simpa using h2)]
noncomputable def eOf (K : PySem.W.Frag) (H : Hp) (m : Nat) (d : DV) (z : V) : Bool := @dite Bool (∃ e, Dv K H m z e) (Classical.propDecidable _) (fun h => dEq h.choose d) fun _ => false
theorem xeg {pins : List (Addr × Obj)} {σ : St} {H : Hp} {s : Shared} (I : Inv X pins σ H s) {m : Nat} {d e : DV} {z : V} (h : Dv X.K H m z e) : eOf X.K H m d z = dEq e d := by
  unfold eOf
  rw [dif_pos ⟨e, h⟩]
  have ex : ∃ e, Dv X.K H m z e := ⟨e, h⟩
  rw [xf7 I ex.choose_spec h]
theorem xln (hu : X.A.units + 20 < cLine) : OpR X (compareOp .In) (rInV X.K false) := by
  intro pins s σ H x y v u Q I rx ry h
  obtain ⟨n, m, d, es, h1, h2, hn, hm, q⟩ := h
  cases h2 with
  | @lst m a xs _ ha hl k =>
    cases ry
    obtain ⟨its, r, pl, hz⟩ := I.list ha
    have get : ∀ z ∈ xs, ∃ (j : Nat) (e : DV), xs[j]? = some z ∧ es[j]? = some e ∧ Dv X.K H m z e := fun z hz => by
      obtain ⟨j, hj⟩ := List.getElem?_of_mem hz
      have lt : j < es.length := by rw [← hl]; exact (List.getElem?_eq_some_iff.mp hj).1
      exact ⟨j, es[j], hj, List.getElem?_eq_getElem lt, k j z _ hj (List.getElem?_eq_getElem lt)⟩
    refine SeqAt.in_listAt (eU (eOf X.K H m d)) pl.isList (fun w hw => ?_) ⟨.bl _, H, I, rfl, ?_⟩
    · obtain ⟨z, m1, m2⟩ := xex r w (by simpa using hw)
      obtain ⟨j, e, _, _, he⟩ := get z m1
      rw [xho m2, xeg I he]
      exact (xfq I he h1 (A := X.A.in1) (by show X.A.units + 1 + m + n < cLine; omega) m2 rx).1
    · rw [show its.toArray.any (eU (eOf X.K H m d)) = its.any (eU (eOf X.K H m d)) by simp, xfx r, xgg (g := fun z => dEq z d) hl fun j z e g1 g2 => xeg I (k j z e g1 g2)]
      exact q
theorem xip (hu : X.A.units + 20 < cLine) : OpR X (compareOp .NotIn) (rInV X.K true) := by
  intro pins s σ H x y v u Q I rx ry h
  obtain ⟨n, m, d, es, h1, h2, hn, hm, q⟩ := h
  cases h2 with
  | @lst m a xs _ ha hl k =>
    cases ry
    obtain ⟨its, r, pl, hz⟩ := I.list ha
    have get : ∀ z ∈ xs, ∃ (j : Nat) (e : DV), xs[j]? = some z ∧ es[j]? = some e ∧ Dv X.K H m z e := fun z hz => by
      obtain ⟨j, hj⟩ := List.getElem?_of_mem hz
      have lt : j < es.length := by rw [← hl]; exact (List.getElem?_eq_some_iff.mp hj).1
      exact ⟨j, es[j], hj, List.getElem?_eq_getElem lt, k j z _ hj (List.getElem?_eq_getElem lt)⟩
    refine SeqAt.notIn_listAt (eU (eOf X.K H m d)) pl.isList (fun w hw => ?_) ⟨.bl _, H, I, rfl, ?_⟩
    · obtain ⟨z, m1, m2⟩ := xex r w (by simpa using hw)
      obtain ⟨j, e, _, _, he⟩ := get z m1
      rw [xho m2, xeg I he]
      exact (xfq I he h1 (A := X.A.in1) (by show X.A.units + 1 + m + n < cLine; omega) m2 rx).1
    · rw [show its.toArray.any (eU (eOf X.K H m d)) = its.any (eU (eOf X.K H m d)) by simp, xfx r, xgg (g := fun z => dEq z d) hl fun j z e g1 g2 => xeg I (k j z e g1 g2)]
      exact q
end
end L2
set_option maxRecDepth 100000
set_option maxHeartbeats 1000000
namespace L2
open PySem PySem.Spec PyProof.Rows XL PySem.W
def Tp (H H' : Hp) : Prop := ∀ b xs, H b = some (.tup xs) → H' b = some (.tup xs)
theorem Same.tp {H H' : Hp} (s : Same H H') : Tp H H' := fun b xs e => s b _ e
theorem Tp.trans {H H' H'' : Hp} (s : Tp H H') (r : Tp H' H'') : Tp H H'' := fun b xs e => r b xs (s b xs e)
theorem xiv {H : Hp} {l : Addr} {xs ys : List V} (h : H l = some (.lst xs)) : Tp H (upd H l (.lst ys)) := fun b zs e => by
  rw [xh (fun z => by rw [z, h] at e; cases e)]
  exact e
section
variable {J : It} {n : Nat} {g : TG} {σ : St} {fr : List Nat} {tc : TT} {te : TE} {l : Addr} {H1 : Hp} {Q : VK}
theorem xe3 (len : Nat) (hlen : len < sizeLine) (hl : H1 l = none) (x : Nat → V) (hgo : ∀ i H, i < len → Same H1 H → J.go i H) (hy : ∀ i H v H', i < len → Same H1 H → J.yld i H v H' → H' = H ∧ v = x i) (hst : ∀ H, Same H1 H → J.stop len H)
    (p : Nat → Bool) (F : Nat → V → Hp → Prop) (stab : ∀ i y H H', Tp H H' → F i y H → F i y H')
    (step : ∀ i H2, i < len → Same H1 H2 → ∀ (N : V → Hp → Prop) (M : Hp → Prop), (∀ y H', Same H2 H' → p i = true → F i y H' → N y H') → (∀ H', Same H2 H' → p i = false → M H') →
      g (x i) (blk0 σ fr n) H2 fun σ' H3 => tc σ' H3 fun b H4 => if b = true then te σ' H4 N else M H4)
    (fin : ∀ ys H2, Same H1 H2 → H2 l = some (.lst ys) → ys.length = ((List.range len).filter p).length → (∀ (j : Nat) (y : V) (i : Nat), ys[j]? = some y → ((List.range len).filter p)[j]? = some i → F i y H2) → Q (.ref l) H2) : xcn J n g σ fr tc te l H1 Q := by
  refine xcy len (fun i ys H2 => Same H1 H2 ∧ H2 l = some (.lst ys) ∧ ys.length = ((List.range i).filter p).length ∧ ∀ (j : Nat) (y : V) (k : Nat), ys[j]? = some y → ((List.range i).filter p)[j]? = some k → F k y H2) ?_ ?_ ?_ ?_
  · refine ⟨fun b u e => ?_, xf, rfl, fun j y k e => by simp at e⟩
    rw [xh (xk e hl)]
    exact e
  · rintro i ys H2 lt ⟨s, _⟩
    exact hgo i H2 lt s
  · rintro i ys H2 v H3 lt ⟨s, el, ly, f⟩ yl N hN
    obtain ⟨rfl, rfl⟩ := hy i H2 v H3 lt s yl
    refine step i H3 lt s _ _ (fun y H' s' pt hf => ?_) (fun H' s' pf => ?_)
    · have el' := s' _ _ el
      have ylen : ys.length < sizeLine := by
        rw [ly]
        refine Nat.lt_of_le_of_lt (List.length_filter_le _ _) ?_
        rw [List.length_range]
        omega
      refine ⟨el', ylen, hN _ _ ⟨fun b u e => ?_, xf, ?_, fun j z k e1 e2 => ?_⟩⟩
      · rw [xh (xk e hl)]
        exact s' _ _ (s _ _ e)
      · rw [List.range_succ, List.filter_append, List.length_append, List.length_append, ly, List.filter_cons_of_pos pt]
        rfl
      · rw [List.range_succ, List.filter_append, List.filter_cons_of_pos pt] at e2
        by_cases c : j < ys.length
        · rw [List.getElem?_append_left c] at e1
          rw [List.getElem?_append_left (by omega)] at e2
          exact stab _ _ _ _ ((Same.tp s').trans (xiv el')) (f j z k e1 e2)
        · rw [List.getElem?_append_right (by omega)] at e1 e2
          rw [← ly] at e2
          cases hj : j - ys.length with
          | zero =>
            rw [hj] at e1 e2
            simp at e1 e2
            subst e1 e2
            exact stab _ _ _ _ (xiv el') hf
          | succ m =>
            rw [hj] at e1
            simp at e1
    · refine hN _ _ ⟨s.trans s', s' _ _ el, ?_, fun j z k e1 e2 => ?_⟩
      · rw [List.range_succ, List.filter_append, List.filter_cons_of_neg (by simp [pf])]
        simpa using ly
      · rw [List.range_succ, List.filter_append, List.filter_cons_of_neg (by simp [pf])] at e2
        simp only [List.filter_nil, List.append_nil] at e2
        exact stab _ _ _ _ (Same.tp s') (f j z k e1 e2)
  · rintro ys H2 ⟨s, el, ly, f⟩
    exact ⟨hst _ s, fin ys H2 s el ly f⟩
theorem xek {K : PySem.W.Frag} {a : Addr} {xs : List V} (hs : SqL K H1 a xs) (hlen : xs.length < sizeLine) (hl : H1 l = none) (p : Nat → Bool) (F : Nat → V → Hp → Prop) (stab : ∀ i y H H', Tp H H' → F i y H → F i y H')
    (step : ∀ (i : Nat) (x : V) (H2 : Hp), xs[i]? = some x → Same H1 H2 → ∀ (N : V → Hp → Prop) (M : Hp → Prop), (∀ y H', Same H2 H' → p i = true → F i y H' → N y H') → (∀ H', Same H2 H' → p i = false → M H') →
      g x (blk0 σ fr n) H2 fun σ' H3 => tc σ' H3 fun b H4 => if b = true then te σ' H4 N else M H4)
    (fin : ∀ ys H2, Same H1 H2 → H2 l = some (.lst ys) → ys.length = ((List.range xs.length).filter p).length → (∀ (j : Nat) (y : V) (i : Nat), ys[j]? = some y → ((List.range xs.length).filter p)[j]? = some i → F i y H2) → Q (.ref l) H2) : xcn (Itl K a) n g σ fr tc te l H1 Q := by
  refine xe3 xs.length hlen hl (fun i => xs.getD i .non) (fun i H lt s => ⟨xs, xs[i], Same.seqL s hs, List.getElem?_eq_getElem lt⟩) (fun i H v H' lt s y => ?_) (fun H s => ⟨xs, Same.seqL s hs, Nat.le_refl _⟩) p F stab (fun i H2 lt s N M h1 h2 => ?_) fin
  · obtain ⟨e, f⟩ := y
    have z := f xs (Same.seqL s hs)
    refine ⟨e, ?_⟩
    simp [z]
  · have e : xs[i]? = some (xs.getD i .non) := by simp [List.getElem?_eq_getElem lt]
    exact step i _ H2 e s N M h1 h2
theorem xec {i : Nat} {x : V} {σ0 : St} {H2 : Hp} {N : V → Hp → Prop} {M : Hp → Prop} {g : TG} {te : TE} (h : g x σ0 H2 fun σ' H3 => te σ' H3 N) : g x σ0 H2 fun σ' H3 => xdh σ' H3 fun b H4 => if b = true then te σ' H4 N else M H4 := by
  have e : (fun (σ' : St) (H3 : Hp) => xdh σ' H3 fun b H4 => if b = true then te σ' H4 N else M H4) = fun σ' H3 => te σ' H3 N := by
    funext σ' H3
    show (if true = true then te σ' H3 N else M H3) = te σ' H3 N
    rw [if_pos rfl]
  rw [e]
  exact h
theorem xcm (m : Nat) : (List.range m).filter (fun _ => true) = List.range m := by simp
theorem xii {K : PySem.W.Frag} {a : Addr} {xs : List V} (hs : SqL K H1 a xs) (hlen : xs.length < sizeLine) (hl : H1 l = none) (F : Nat → V → Hp → Prop) (stab : ∀ i y H H', Tp H H' → F i y H → F i y H')
    (step : ∀ (i : Nat) (x : V) (H2 : Hp), xs[i]? = some x → Same H1 H2 → ∀ (N : V → Hp → Prop), (∀ y H', Same H2 H' → F i y H' → N y H') → g x (blk0 σ fr n) H2 fun σ' H3 => te σ' H3 N)
    (fin : ∀ ys H2, Same H1 H2 → H2 l = some (.lst ys) → ys.length = xs.length → (∀ (i : Nat) (y : V), ys[i]? = some y → F i y H2) → Q (.ref l) H2) : xcn (Itl K a) n g σ fr xdh te l H1 Q := by
  refine xek hs hlen hl (fun _ => true) F stab (fun i x H2 hx s N M h1 h2 => xec (i := i) (step i x H2 hx s N fun y H' s' f => h1 y H' s' rfl f)) (fun ys H2 s e ly f => ?_)
  rw [xcm, List.length_range] at ly
  refine fin ys H2 s e ly fun i y hy => f i y i hy ?_
  rw [xcm, List.getElem?_range (by have := (List.getElem?_eq_some_iff.mp hy).1; omega)]
theorem xgs {lo : Int} {m : Nat} (hlen : m < sizeLine) (hl : H1 l = none) (p : Nat → Bool) (F : Nat → V → Hp → Prop) (stab : ∀ i y H H', Tp H H' → F i y H → F i y H')
    (step : ∀ (i : Nat) H2, i < m → Same H1 H2 → ∀ (N : V → Hp → Prop) (M : Hp → Prop), (∀ y H', Same H2 H' → p i = true → F i y H' → N y H') → (∀ H', Same H2 H' → p i = false → M H') →
      g (.int (lo + i)) (blk0 σ fr n) H2 fun σ' H3 => tc σ' H3 fun b H4 => if b = true then te σ' H4 N else M H4)
    (fin : ∀ ys H2, Same H1 H2 → H2 l = some (.lst ys) → ys.length = ((List.range m).filter p).length → (∀ (j : Nat) (y : V) (i : Nat), ys[j]? = some y → ((List.range m).filter p)[j]? = some i → F i y H2) → Q (.ref l) H2) : xcn (Itr lo m) n g σ fr tc te l H1 Q := by
  exact xe3 m hlen hl (fun i => .int (lo + i)) (fun i H lt s => lt) (fun i H v H' lt s y => y) (fun H s => Nat.le_refl _) p F stab (fun i H2 lt s N M h1 h2 => step i H2 lt s N M h1 h2) fin
theorem xhy {lo : Int} {m : Nat} (hlen : m < sizeLine) (hl : H1 l = none) (F : Nat → V → Hp → Prop) (stab : ∀ i y H H', Tp H H' → F i y H → F i y H')
    (step : ∀ (i : Nat) H2, i < m → Same H1 H2 → ∀ (N : V → Hp → Prop), (∀ y H', Same H2 H' → F i y H' → N y H') → g (.int (lo + i)) (blk0 σ fr n) H2 fun σ' H3 => te σ' H3 N)
    (fin : ∀ ys H2, Same H1 H2 → H2 l = some (.lst ys) → ys.length = m → (∀ (i : Nat) (y : V), ys[i]? = some y → F i y H2) → Q (.ref l) H2) : xcn (Itr lo m) n g σ fr xdh te l H1 Q := by
  refine xgs hlen hl (fun _ => true) F stab (fun i H2 hi s N M h1 h2 => xec (i := i) (step i H2 hi s N fun y H' s' f => h1 y H' s' rfl f)) (fun ys H2 s e ly f => ?_)
  rw [xcm, List.length_range] at ly
  refine fin ys H2 s e ly fun i y hy => f i y i hy ?_
  rw [xcm, List.getElem?_range (by have := (List.getElem?_eq_some_iff.mp hy).1; omega)]
end
theorem xko {α : Type} {f : α → V} : ∀ {as : List α} {ys : List V}, ys.length = as.length → (∀ (i : Nat) (y : V) (a : α), ys[i]? = some y → as[i]? = some a → y = f a) → ys = as.map f
  | [], [], _, _ => rfl
  | [], _ :: _, h, _ => by cases h
  | _ :: _, [], h, _ => by cases h
  | a :: as, y :: ys, h, k => by
    rw [List.map_cons, k 0 y a rfl rfl, xko (as := as) (ys := ys) (by simpa using h) fun i y' a' h1 h2 => k (i + 1) y' a' (by simpa using h1) (by simpa using h2)]
theorem xg4 {α : Type} (q : α → Bool) : ∀ (as : List α) (p : Nat → Bool), (∀ (i : Nat) (a : α), as[i]? = some a → p i = q a) → ((List.range as.length).filter p).filterMap (fun i => as[i]?) = as.filter q
  | [], _, _ => rfl
  | a :: as, p, h => by
    have ih := xg4 q as (fun i => p (i + 1)) fun i b hb => h (i + 1) b (by simpa using hb)
    rw [List.length_cons, List.range_succ_eq_map]
    have e : ((List.range as.length).map Nat.succ).filter p = ((List.range as.length).filter (fun i => p (i + 1))).map Nat.succ := by
      rw [List.filter_map]
      rfl
    have h0 := h 0 a rfl
    by_cases c : q a = true
    · rw [List.filter_cons_of_pos (by rw [h0]; exact c), List.filter_cons_of_pos c, e, List.filterMap_cons]
      simp only [List.getElem?_cons_zero, List.filterMap_map]
      rw [← ih]
      rfl
    · rw [List.filter_cons_of_neg (by rw [h0]; exact c), List.filter_cons_of_neg c, e, List.filterMap_map, ← ih]
      rfl
theorem xkw {α : Type} (q : α → Bool) {as : List α} {p : Nat → Bool} (h : ∀ (i : Nat) (a : α), as[i]? = some a → p i = q a) : ((List.range as.length).filter p).length = (as.filter q).length ∧ ∀ j i : Nat, ((List.range as.length).filter p)[j]? = some i → as[i]? = (as.filter q)[j]? := by
  rw [← xg4 q as p h]
  have all : ∀ i ∈ (List.range as.length).filter p, ∃ a, as[i]? = some a := fun i hi => by
    have := List.mem_range.mp (List.mem_filter.mp hi).1
    exact ⟨as[i], List.getElem?_eq_getElem this⟩
  generalize (List.range as.length).filter p = is at all
  induction is with
  | nil => exact ⟨rfl, fun j i e => by simp at e⟩
  | cons i is ih =>
    obtain ⟨a, ha⟩ := all i List.mem_cons_self
    obtain ⟨h1, h2⟩ := ih fun k hk => all k (List.mem_cons_of_mem _ hk)
    rw [List.filterMap_cons, ha]
    refine ⟨by simp [h1], fun j k e => ?_⟩
    cases j with
    | zero =>
      simp at e
      subst e
      exact ha
    | succ m => exact h2 m k (by simpa using e)
end L2
set_option maxRecDepth 100000
set_option maxHeartbeats 1000000
namespace XL
open PySem PySem.MeetsSeq PySem.MeetsSeq2 PySem.MeetsSeq3 PySem.SeqAt
open AutoSeq1 (wpAny_loadPart')
end XL
namespace L2
open PySem PySem.Spec PyProof.Rows XL PySem.W
theorem Room.mark {q0 : Bool} {j k : Nat} {A : Around} (r : Room q0 k A) (h : j ≤ k) {e : Option Value} : Room false j (A.mark e) :=
  ⟨fun z => (nomatch z), by have := r.dp; show A.depth + 3 * j + 5 < _; omega, by have := r.un; show A.units + 16 * j + 200 < _; omega⟩
def xit : Expr → Bool
  | .Starred _ _ => false
  | _ => true
theorem xhx {e : Expr} {es : List Expr} {env : Env} (h : xit e = true) : starEach (e :: es) env = (false, eval e env) :: starEach es env := by
  cases e <;> first | rfl | cases h
theorem xam {X : Cx} {e : Expr} {es : List Expr} {te : TE} {t : TA} (ha : PE X e te) (hr : PA X es t) (hn : xit e = true) : PA X (e :: es) (xkk te t) := xb ha hr (xhx hn)
section
variable {X : Cx}
end
def Np (H H' : Hp) : Prop := ∀ b u, (∀ xs, u ≠ HO.lst xs) → H b = some u → H' b = some u
theorem xmc {H : Hp} {l : Addr} {xs ys : List V} (h : H l = some (.lst xs)) : Np H (upd H l (.lst ys)) := fun b u n e => by
  rw [xh (fun z => by rw [z, h] at e; cases e; exact n _ rfl)]
  exact e
section
variable {J : It} {n : Nat} {g : TG} {σ : St} {fr : List Nat} {tc : TT} {te : TE} {l : Addr} {H1 : Hp} {Q : VK}
end
end L2
set_option maxRecDepth 100000
set_option maxHeartbeats 1000000
namespace XL
open PySem L2
open PyProof.Rows (assign_Tuple)
section
variable {prog : Program} {w : World} {A : Around} {E : Value → Shared → Prop}
theorem xgd {it t : Addr} {its : Array Value} (ne : t ≠ it) : ∀ (n i : Nat) (s : Shared) (Q : List Value → Shared → Prop), s.heap.IsListIter it t i → s.heap.IsList t its → i + n ≤ its.size →
    (∀ h', h'.IsListIter it t (i + n) → Heap.SameBut it s.heap h' → Q ((its.toList.drop i).take n) { s with heap := h' }) → wpAny (model prog w) A (draw (.ref it) n) Q E s
  | 0, i, s, Q, hit, _, _, q => by
    show wpAny _ _ (pure []) Q E s
    exact wpAny_pure (by simpa using q s.heap hit (Heap.SameBut.refl ..))
  | n + 1, i, s, Q, hit, ht, le, q => by
    have lt : i < its.size := by omega
    show wpAny _ _ (pyNext (.ref it) >>= _) Q E s
    refine wpAny_bind (wpAny_pyNext_list_item hit ht (x := its[i]) (by simp [lt]) fun h1 i1 s1 => ?_)
    refine wpAny_bind (wpAny_holding (xgd ne n (i + 1) _ _ i1 (ht.extBut s1.extBut ne) (by omega) fun h2 i2 s2 => wpAny_pure ?_))
    have e : its.toList.drop i = its[i] :: its.toList.drop (i + 1) := by simp [List.drop_eq_getElem_cons, lt]
    have z := q h2 (by rw [show i + (n + 1) = i + 1 + n by omega]; exact i2) (s1.trans s2)
    rw [e, List.take_succ_cons] at z
    exact z
theorem xd4 {env : Env} {es : List Expr} {k} {pos : Pos} {t : Addr} {its : Array Value} {s : Shared} {Q : Unit → Shared → Prop} (hh : A.handled = none) (ht : s.heap.IsList t its)
    (hn : (assignEach es env).length = its.size) (hs : (assignEach es env).findIdx? (·.1) = none)
    (h : ∀ h', Heap.ExtBut s.heap.objs.size s.heap h' → wpAny (model prog w) A (assignInOrder ((assignEach es env).map (·.2)) its.toList) Q E { s with heap := h' }) :
    wpAny (model prog w) A (assign (.Tuple es k pos) env (.ref t)) Q E s := by
  rw [assign_Tuple]
  refine wpAny_bind (wpAny_standAt ?_)
  unfold unpack
  rw [hn, hs]
  refine wpAny_bind (wpAny_holding ?_)
  have ne : t ≠ s.heap.objs.size := by
    obtain ⟨o, e, _⟩ := ht
    exact Nat.ne_of_lt (Heap.lt_size e)
  unfold unpackItems
  refine wpAny_bind ?_
  unfold notIterableAtAll
  refine wpAny_bind (wpAny_specialOf ht.typeIs slot_list_iter.lookup ?_)
  refine wpAny_pure ?_
  simp only [Bool.false_eq_true, if_false]
  refine wpAny_bind (wpAny_holding (wpAny_pyIter_list ht ?_))
  refine wpAny_bind (wpAny_holding (xgd ne its.size 0 _ _ ⟨_, Heap.get?_push_size _ rfl, rfl, rfl⟩ (ht.push _) (by omega) fun h1 i1 s1 => ?_))
  rw [show List.take its.size (List.drop 0 its.toList) = its.toList by rw [List.drop_zero]; exact List.take_of_length_le (by simp)]
  rw [if_neg (by simp)]
  have t1 : h1.IsList t its := (ht.push _).extBut s1.extBut ne
  refine wpAny_bind (wpAny_holding (wpAny_pyNext_list_end hh i1 t1 (by simp) fun h2 e2 => ?_))
  simp only [Option.isSome_none, Bool.false_eq_true, if_false]
  exact wpAny_pure (h h2 fun b o hb e => e2 b o hb (s1.extBut b o hb (Heap.get?_push_of_some _ e)))
end
section
variable {X : Cx} {pos : Pos}
def xm0 (K : PySem.W.Frag) (n : Nat) (t : TGs) : TG := fun v σ H Q => ∃ a xs, v = .ref a ∧ SqL K H a xs ∧ xs.length = n ∧ t xs σ H Q
theorem xk6 {es : List Expr} {k : Nat} {t : TGs} {n : Nat} (hc : X.calm = true) (h : PGs X es t)
    (hn : (assignEach es X.env).length = n := by rfl) (hst : (assignEach es X.env).findIdx? (·.1) = none := by rfl) : PG X (.Tuple es k pos) (xm0 X.K n t) := by
  intro pins s σ H v u Q I r hw
  obtain ⟨a, xs, e1, hq, hl, hw⟩ := hw
  subst e1
  cases r
  obtain ⟨its, rv, pl, hz⟩ := I.list hq
  refine xd4 (I.ok.hd hc) pl.isList (by simp [hn, ← hl, rv.length]) hst fun h' hx => ?_
  have I1 : Inv X pins σ H { s with heap := h' } := I.kept (t' := s.toks) fun b o e => hx b o (Nat.ne_of_lt (Heap.lt_size e)) e
  exact h pins _ σ H xs _ Q I1 (by simpa using rv) hw
end
end XL
set_option maxRecDepth 100000
set_option maxHeartbeats 1000000
namespace L2
open PySem PySem.Spec PyProof.Rows XL PySem.W
section
variable {J : It} {n : Nat} {g : TG} {σ : St} {fr : List Nat} {tc : TT} {te : TE} {l : Addr} {H1 : Hp} {Q : VK}
theorem xh1 {K : PySem.W.Frag} {a : Addr} {xs : List V} (hs : SqL K H1 a xs) (hlen : xs.length < sizeLine) (hl : H1 l = none) (F : Nat → List V → Hp → Prop) (F0 : ∀ H, Same H1 H → F 0 [] H) (stab : ∀ i ys H H', Np H H' → F i ys H → F i ys H')
    (step : ∀ (i : Nat) (x : V) (ys : List V) H2, xs[i]? = some x → Same H1 H2 → F i ys H2 → ∀ (N : V → Hp → Prop), (∀ y H', Same H2 H' → F (i + 1) (ys ++ [y]) H' → N y H') → g x (blk0 σ fr n) H2 fun σ' H3 => te σ' H3 N)
    (fin : ∀ ys H2, Same H1 H2 → H2 l = some (.lst ys) → ys.length = xs.length → F xs.length ys H2 → Q (.ref l) H2) : xcn (Itl K a) n g σ fr xdh te l H1 Q := by
  refine xcy xs.length (fun i ys H2 => Same H1 H2 ∧ H2 l = some (.lst ys) ∧ ys.length = i ∧ F i ys H2) ?_ ?_ ?_ ?_
  · have s0 : Same H1 (upd H1 l (.lst [])) := fun b u e => by
      rw [xh (xk e hl)]
      exact e
    exact ⟨s0, xf, rfl, F0 _ s0⟩
  · rintro i ys H2 lt ⟨s, _⟩
    exact ⟨xs, xs[i], Same.seqL s hs, List.getElem?_eq_getElem lt⟩
  · rintro i ys H2 v H3 lt ⟨s, el, ly, f⟩ ⟨rfl, yv⟩ N hN
    have hv := yv xs (Same.seqL s hs)
    refine xec (i := i) (step i v ys H3 hv s f _ fun y H' s' f' => ?_)
    have el' := s' _ _ el
    refine ⟨el', by omega, hN _ _ ⟨fun b u e => ?_, xf, by simp [ly], stab _ _ _ _ (xmc el') f'⟩⟩
    rw [xh (xk e hl)]
    exact s' _ _ (s _ _ e)
  · rintro ys H2 ⟨s, el, ly, f⟩
    exact ⟨⟨xs, Same.seqL s hs, Nat.le_refl _⟩, fin ys H2 s el ly f⟩
end
end L2
namespace Geo
def dn (y r : Int) : Int := if y < r then 1 else -1
def upN (y r : Int) : Nat := if y < r then (r - y).toNat else (y - r).toNat
def wayI (b : Bool) : Int := if b then -1 else 1
def lvN (w x : Int) (b : Bool) : Nat := if b then (x + 1).toNat else (w + 2 - x).toNat
def upL (x y r : Int) : List (Int × Int) := (List.range (upN y r)).map fun (i : Nat) => (x, y + (i : Int) * dn y r)
def lvL (w x : Int) (b : Bool) (r : Int) : List (Int × Int) := (List.range (lvN w x b)).map fun (i : Nat) => (x + (i : Int) * wayI b, r)
def cells (w x y : Int) (b : Bool) (r : Int) : List (Int × Int) := upL x y r ++ lvL w x b r
def btw (v a b : Int) : Prop := min a b ≤ v ∧ v ≤ max a b
instance (v a b : Int) : Decidable (btw v a b) := inferInstanceAs (Decidable (_ ∧ _))
end Geo
set_option maxRecDepth 100000
set_option maxHeartbeats 4000000
namespace S03
open PySem L2 XL
def top (i : Nat) : Stmt := PySem.Challenge.pw_rimnotes_k03_points_put.main.body.getD i (.Pass ⟨0, 0, 0, 0⟩)
abbrev s_ac : Stmt := xba (top 4) 0
abbrev s_ad : Stmt := xba (top 5) 0
abbrev s_z : Stmt := xba (top 6) 0
abbrev s_w : Stmt := xba (top 7) 0
abbrev s_x : Stmt := xba (top 8) 0
abbrev s_m : Stmt := xba (top 11) 0
abbrev s_aa : Stmt := xba (top 12) 0
abbrev s_t : Stmt := top 25
abbrev s_aq : Stmt := top 26
abbrev s_v : Stmt := xba (top 32) 0
abbrev s_e : Stmt := xba (top 32) 1
abbrev s_h : Stmt := xba (top 32) 6
abbrev s_s : Stmt := xba (top 32) 7
abbrev s_c : Stmt := xba (top 32) 16
abbrev s_b : Stmt := xba (top 32) 17
abbrev s_af : Stmt := top 34
abbrev s_u : Stmt := top 35
abbrev s_al : Stmt := top 36
abbrev s_n : Stmt := top 37
abbrev s_p : Stmt := top 38
abbrev s_at : Stmt := top 39
abbrev s_am : Stmt := top 40
abbrev s_ar : Stmt := top 41
abbrev s_au : Stmt := top 42
abbrev s_ag : Stmt := top 43
abbrev s_ae : Stmt := top 44
abbrev s_y : Stmt := top 45
abbrev s_ab : Stmt := top 46
abbrev xc6 : Stmt := top 47
set_option genInjectivity false in
set_option genSizeOf false in
structure Adr where
  f_ac : Addr
  d_ac : FuncData
  f_ad : Addr
  d_ad : FuncData
  f_z : Addr
  d_z : FuncData
  f_w : Addr
  d_w : FuncData
  f_x : Addr
  d_x : FuncData
  f_m : Addr
  d_m : FuncData
  f_aa : Addr
  d_aa : FuncData
  f_t : Addr
  d_t : FuncData
  f_aq : Addr
  d_aq : FuncData
  f_v : Addr
  d_v : FuncData
  f_e : Addr
  d_e : FuncData
  T_e : Addr
  f_h : Addr
  d_h : FuncData
  f_s : Addr
  d_s : FuncData
  f_c : Addr
  d_c : FuncData
  f_b : Addr
  d_b : FuncData
  f_af : Addr
  d_af : FuncData
  f_u : Addr
  d_u : FuncData
  f_al : Addr
  d_al : FuncData
  f_n : Addr
  d_n : FuncData
  f_p : Addr
  d_p : FuncData
  f_at : Addr
  d_at : FuncData
  f_am : Addr
  d_am : FuncData
  f_ar : Addr
  d_ar : FuncData
  f_au : Addr
  d_au : FuncData
  f_ag : Addr
  d_ag : FuncData
  f_ae : Addr
  d_ae : FuncData
  f_y : Addr
  d_y : FuncData
  f_ab : Addr
  d_ab : FuncData
  f_law : Addr
  d_law : FuncData
  C_ap : Addr
  C_k : Addr
  C_o : Addr
  C_l : Addr
  C_g : Addr
  C_d : Addr
  C_f : Addr
  C_av : Addr
  C_i : Addr
  C_a : Addr
  C_j : Addr
  C_ax : Addr
  C_az : Addr
  C_aw : Addr
  C_ay : Addr
  C_an : Addr
  C_ah : Addr
  C_ai : Addr
  C_aj : Addr
  C_ak : Addr
  C_q : Addr
  C_ao : Addr
  C_r : Addr
  D_as : Addr
structure Txt (w : World) (K : PySem.W.Frag) (mg : Str → Option Value) (t : Adr) : Prop where
  g_ap : mg "RimError" = some (.ref t.C_ap)
  g_k : mg "NoSize" = some (.ref t.C_k)
  g_o : mg "NoName" = some (.ref t.C_o)
  g_l : mg "NoCell" = some (.ref t.C_l)
  g_g : mg "NoSides" = some (.ref t.C_g)
  g_d : mg "NoWindow" = some (.ref t.C_d)
  g_f : mg "OldPoint" = some (.ref t.C_f)
  g_av : mg "NoPoint" = some (.ref t.C_av)
  g_i : mg "TooMany" = some (.ref t.C_i)
  g_a : mg "SameColumn" = some (.ref t.C_a)
  g_j : mg "SameRow" = some (.ref t.C_j)
  g_ax : mg "NoSide" = some (.ref t.C_ax)
  g_az : mg "NoRow" = some (.ref t.C_az)
  g_aw : mg "OldSeat" = some (.ref t.C_aw)
  g_ay : mg "NoSeat" = some (.ref t.C_ay)
  g_an : mg "NoRoom" = some (.ref t.C_an)
  g_ah : mg "NoNotes" = some (.ref t.C_ah)
  g_ai : mg "TooFull" = some (.ref t.C_ai)
  g_aj : mg "TooTall" = some (.ref t.C_aj)
  g_ak : mg "BadLine" = some (.ref t.C_ak)
  g_q : mg "BadDrawing" = some (.ref t.C_q)
  g_ao : mg "NoLine" = some (.ref t.C_ao)
  g_r : mg "Picture" = some (.ref t.C_r)
  F_ac : Fun K "__init__" "NoName.__init__" s_ac t.f_ac t.d_ac
  b_ac : xal K t.d_ac ["self", "name"] []
  F_ad : Fun K "__init__" "NoCell.__init__" s_ad t.f_ad t.d_ad
  b_ad : xal K t.d_ad ["self", "x", "y"] []
  F_z : Fun K "__init__" "NoSides.__init__" s_z t.f_z t.d_z
  b_z : xal K t.d_z ["self", "sides"] []
  F_w : Fun K "__init__" "NoWindow.__init__" s_w t.f_w t.d_w
  b_w : xal K t.d_w ["self", "low", "high"] []
  F_x : Fun K "__init__" "OldPoint.__init__" s_x t.f_x t.d_x
  b_x : xal K t.d_x ["self", "name"] []
  F_m : Fun K "__init__" "SameColumn.__init__" s_m t.f_m t.d_m
  b_m : xal K t.d_m ["self", "name"] []
  F_aa : Fun K "__init__" "SameRow.__init__" s_aa t.f_aa t.d_aa
  b_aa : xal K t.d_aa ["self", "name"] []
  g_t : mg "is_whole" = some (.ref t.f_t)
  F_t : Fun K "is_whole" "is_whole" s_t t.f_t t.d_t
  b_t : xal K t.d_t ["thing", "low", "high"] []
  g_aq : mg "is_name" = some (.ref t.f_aq)
  F_aq : Fun K "is_name" "is_name" s_aq t.f_aq t.d_aq
  b_aq : xal K t.d_aq ["thing"] []
  F_v : Fun K "__init__" "Picture.__init__" s_v t.f_v t.d_v
  b_v : xal K t.d_v ["self", "width", "height"] []
  F_e : FunD K "put" "Picture.put" s_e t.T_e t.f_e t.d_e
  b_er : ∃ ds, Vals [.str "both", .int 1, .non] ds ∧ xal K t.d_e ["self", "name", "x", "y", "sides", "low", "high"] ds
  b_gb : ∃ ds, Vals [.int 1, .non] ds ∧ xal K t.d_e ["self", "name", "x", "y", "sides", "low", "high"] ds
  b_gc : ∃ ds, Vals [.non] ds ∧ xal K t.d_e ["self", "name", "x", "y", "sides", "low", "high"] ds
  b_e : xal K t.d_e ["self", "name", "x", "y", "sides", "low", "high"] []
  F_h : Fun K "points" "Picture.points" s_h t.f_h t.d_h
  b_h : xal K t.d_h ["self"] []
  F_s : Fun K "seats" "Picture.seats" s_s t.f_s t.d_s
  b_s : xal K t.d_s ["self"] []
  F_c : Fun K "check_cell" "Picture.check_cell" s_c t.f_c t.d_c
  b_c : xal K t.d_c ["self", "x", "y"] []
  F_b : Fun K "check_lines" "Picture.check_lines" s_b t.f_b t.d_b
  b_b : xal K t.d_b ["self", "name", "x", "y"] []
  g_af : mg "_law_cell" = some (.ref t.f_af)
  F_af : Fun K "_law_cell" "_law_cell" s_af t.f_af t.d_af
  b_af : xal K t.d_af ["_law_script", "_law_k"] []
  g_u : mg "_law_mixed" = some (.ref t.f_u)
  F_u : Fun K "_law_mixed" "_law_mixed" s_u t.f_u t.d_u
  b_u : xal K t.d_u ["_law_cell_here", "_law_k"] []
  g_al : mg "_law_told" = some (.ref t.f_al)
  F_al : Fun K "_law_told" "_law_told" s_al t.f_al t.d_al
  b_al : xal K t.d_al ["_law_e"] []
  g_n : mg "_law_told_more" = some (.ref t.f_n)
  F_n : Fun K "_law_told_more" "_law_told_more" s_n t.f_n t.d_n
  b_n : xal K t.d_n ["_law_e"] []
  g_p : mg "_law_is_whole" = some (.ref t.f_p)
  F_p : Fun K "_law_is_whole" "_law_is_whole" s_p t.f_p t.d_p
  b_p : xal K t.d_p ["_law_thing", "_law_low", "_law_high"] []
  g_at : mg "_law_odd" = some (.ref t.f_at)
  F_at : Fun K "_law_odd" "_law_odd" s_at t.f_at t.d_at
  b_at : xal K t.d_at ["_law_number", "_law_size"] []
  g_am : mg "_law_args" = some (.ref t.f_am)
  F_am : Fun K "_law_args" "_law_args" s_am t.f_am t.d_am
  b_am : xal K t.d_am ["_law_cell_here", "_law_k", "_law_size"] []
  g_ar : mg "_law_due" = some (.ref t.f_ar)
  F_ar : Fun K "_law_due" "_law_due" s_ar t.f_ar t.d_ar
  b_ar : xal K t.d_ar ["_law_size", "_law_rows", "_law_args_here"] []
  g_au : mg "_law_put" = some (.ref t.f_au)
  F_au : Fun K "_law_put" "_law_put" s_au t.f_au t.d_au
  b_au : xal K t.d_au ["_law_picture", "_law_args_here", "_law_many"] []
  g_ag : mg "_law_tried" = some (.ref t.f_ag)
  F_ag : Fun K "_law_tried" "_law_tried" s_ag t.f_ag t.d_ag
  b_ag : xal K t.d_ag ["_law_picture", "_law_size", "_law_rows", "_law_args_here", "_law_many"] []
  g_ae : mg "_law_right" = some (.ref t.f_ae)
  F_ae : Fun K "_law_right" "_law_right" s_ae t.f_ae t.d_ae
  b_ae : xal K t.d_ae ["_law_picture", "_law_size", "_law_rows"] []
  g_y : mg "_law_no_size" = some (.ref t.f_y)
  F_y : Fun K "_law_no_size" "_law_no_size" s_y t.f_y t.d_y
  b_y : xal K t.d_y ["_law_number"] []
  g_ab : mg "_law_eleven" = some (.ref t.f_ab)
  F_ab : Fun K "_law_eleven" "_law_eleven" s_ab t.f_ab t.d_ab
  b_ab : xal K t.d_ab ["_law_picture", "_law_cell_here"] []
  g_law : mg "law" = some (.ref t.f_law)
  F_law : Fun K "law" "law" xc6 t.f_law t.d_law
  b_law : xal K t.d_law ["_law_script"] []
  x_ap : XC K t.C_ap
  mk_ap : xaf K t.C_ap = true
  x_k : XC K t.C_k
  mk_k : xaf K t.C_k = true
  x_o : XC K t.C_o
  mk_o : xaf K t.C_o = true
  k_o : XMk K t.C_o t.f_ac
  x_l : XC K t.C_l
  mk_l : xaf K t.C_l = true
  k_l : XMk K t.C_l t.f_ad
  x_g : XC K t.C_g
  mk_g : xaf K t.C_g = true
  k_g : XMk K t.C_g t.f_z
  x_d : XC K t.C_d
  mk_d : xaf K t.C_d = true
  k_d : XMk K t.C_d t.f_w
  x_f : XC K t.C_f
  mk_f : xaf K t.C_f = true
  k_f : XMk K t.C_f t.f_x
  x_av : XC K t.C_av
  mk_av : xaf K t.C_av = true
  x_i : XC K t.C_i
  mk_i : xaf K t.C_i = true
  x_a : XC K t.C_a
  mk_a : xaf K t.C_a = true
  k_a : XMk K t.C_a t.f_m
  x_j : XC K t.C_j
  mk_j : xaf K t.C_j = true
  k_j : XMk K t.C_j t.f_aa
  x_ax : XC K t.C_ax
  mk_ax : xaf K t.C_ax = true
  x_az : XC K t.C_az
  mk_az : xaf K t.C_az = true
  x_aw : XC K t.C_aw
  mk_aw : xaf K t.C_aw = true
  x_ay : XC K t.C_ay
  mk_ay : xaf K t.C_ay = true
  x_an : XC K t.C_an
  mk_an : xaf K t.C_an = true
  x_ah : XC K t.C_ah
  mk_ah : xaf K t.C_ah = true
  x_ai : XC K t.C_ai
  mk_ai : xaf K t.C_ai = true
  x_aj : XC K t.C_aj
  mk_aj : xaf K t.C_aj = true
  x_ak : XC K t.C_ak
  mk_ak : xaf K t.C_ak = true
  x_q : XC K t.C_q
  mk_q : xaf K t.C_q = true
  x_ao : XC K t.C_ao
  mk_ao : xaf K t.C_ao = true
  c_r : Cls K t.C_r
  ca_r : PySem.W.findIn K (.ref t.C_r) "__class__" = some (some (.builtin "object.__class__"))
  mo_r : PySem.W.mroIn K t.C_r (.type "object") = some true
  k_r : Mk K t.C_r t.f_v
  m_e : Meth K t.C_r "put" t.f_e
  m_h : Meth K t.C_r "points" t.f_h
  m_s : Meth K t.C_r "seats" t.f_s
  m_c : Meth K t.C_r "check_cell" t.f_c
  m_b : Meth K t.C_r "check_lines" t.f_b
  cg : PySem.W.specialIn K (.builtin "object.__class__") "__get__" = some (some (.builtin "getset_descriptor.__get__"))
  ct : PySem.W.takesIn K (.builtin "object.__class__") = some true
  n_a1 : PySem.W.findIn K (.ref t.C_r) "height" = some none
  n_a3 : PySem.W.findIn K (.ref t.C_r) "width" = some none
  n_a0 : PySem.W.findIn K (.ref t.C_r) "placed" = some none
  n_a8 : PySem.W.findIn K (.ref t.C_r) "opened" = some none
  n_fw : PySem.W.findIn K (.ref t.C_o) "row" = some none
  n_fi : PySem.W.findIn K (.ref t.C_o) "side" = some none
  n_ee : PySem.W.findIn K (.ref t.C_o) "name" = some none
  n_fj : PySem.W.findIn K (.ref t.C_o) "high" = some none
  n_fx : PySem.W.findIn K (.ref t.C_o) "low" = some none
  n_e2 : PySem.W.findIn K (.ref t.C_o) "sides" = some none
  n_gd : PySem.W.findIn K (.ref t.C_o) "y" = some none
  n_ge : PySem.W.findIn K (.ref t.C_o) "x" = some none
  n_fy : PySem.W.findIn K (.ref t.C_l) "row" = some none
  n_fk : PySem.W.findIn K (.ref t.C_l) "side" = some none
  n_fl : PySem.W.findIn K (.ref t.C_l) "name" = some none
  n_fm : PySem.W.findIn K (.ref t.C_l) "high" = some none
  n_fz : PySem.W.findIn K (.ref t.C_l) "low" = some none
  n_e3 : PySem.W.findIn K (.ref t.C_l) "sides" = some none
  n_ft : PySem.W.findIn K (.ref t.C_l) "y" = some none
  n_fu : PySem.W.findIn K (.ref t.C_l) "x" = some none
  n_fn : PySem.W.findIn K (.ref t.C_g) "row" = some none
  n_e4 : PySem.W.findIn K (.ref t.C_g) "side" = some none
  n_e5 : PySem.W.findIn K (.ref t.C_g) "name" = some none
  n_e6 : PySem.W.findIn K (.ref t.C_g) "high" = some none
  n_fo : PySem.W.findIn K (.ref t.C_g) "low" = some none
  n_c2 : PySem.W.findIn K (.ref t.C_g) "sides" = some none
  n_f5 : PySem.W.findIn K (.ref t.C_g) "y" = some none
  n_f6 : PySem.W.findIn K (.ref t.C_g) "x" = some none
  n_e7 : PySem.W.findIn K (.ref t.C_d) "row" = some none
  n_es : PySem.W.findIn K (.ref t.C_d) "side" = some none
  n_et : PySem.W.findIn K (.ref t.C_d) "name" = some none
  n_c3 : PySem.W.findIn K (.ref t.C_d) "high" = some none
  n_du : PySem.W.findIn K (.ref t.C_d) "low" = some none
  n_ef : PySem.W.findIn K (.ref t.C_d) "sides" = some none
  n_f0 : PySem.W.findIn K (.ref t.C_d) "y" = some none
  n_f1 : PySem.W.findIn K (.ref t.C_d) "x" = some none
  n_e8 : PySem.W.findIn K (.ref t.C_f) "row" = some none
  n_eu : PySem.W.findIn K (.ref t.C_f) "side" = some none
  n_c4 : PySem.W.findIn K (.ref t.C_f) "name" = some none
  n_ev : PySem.W.findIn K (.ref t.C_f) "high" = some none
  n_e9 : PySem.W.findIn K (.ref t.C_f) "low" = some none
  n_eg : PySem.W.findIn K (.ref t.C_f) "sides" = some none
  n_f2 : PySem.W.findIn K (.ref t.C_f) "y" = some none
  n_f3 : PySem.W.findIn K (.ref t.C_f) "x" = some none
  n_fp : PySem.W.findIn K (.ref t.C_i) "row" = some none
  n_fa : PySem.W.findIn K (.ref t.C_i) "side" = some none
  n_fb : PySem.W.findIn K (.ref t.C_i) "name" = some none
  n_fc : PySem.W.findIn K (.ref t.C_i) "high" = some none
  n_fq : PySem.W.findIn K (.ref t.C_i) "low" = some none
  n_ew : PySem.W.findIn K (.ref t.C_i) "sides" = some none
  n_f7 : PySem.W.findIn K (.ref t.C_i) "y" = some none
  n_f8 : PySem.W.findIn K (.ref t.C_i) "x" = some none
  n_eh : PySem.W.findIn K (.ref t.C_a) "row" = some none
  n_d9 : PySem.W.findIn K (.ref t.C_a) "side" = some none
  n_bh : PySem.W.findIn K (.ref t.C_a) "name" = some none
  n_ea : PySem.W.findIn K (.ref t.C_a) "high" = some none
  n_ei : PySem.W.findIn K (.ref t.C_a) "low" = some none
  n_dv : PySem.W.findIn K (.ref t.C_a) "sides" = some none
  n_fd : PySem.W.findIn K (.ref t.C_a) "y" = some none
  n_fe : PySem.W.findIn K (.ref t.C_a) "x" = some none
  n_fr : PySem.W.findIn K (.ref t.C_j) "row" = some none
  n_ff : PySem.W.findIn K (.ref t.C_j) "side" = some none
  n_dw : PySem.W.findIn K (.ref t.C_j) "name" = some none
  n_fg : PySem.W.findIn K (.ref t.C_j) "high" = some none
  n_fs : PySem.W.findIn K (.ref t.C_j) "low" = some none
  n_ex : PySem.W.findIn K (.ref t.C_j) "sides" = some none
  n_f9 : PySem.W.findIn K (.ref t.C_j) "y" = some none
  n_ga : PySem.W.findIn K (.ref t.C_j) "x" = some none
  n_eq : mg "ValueError" = none
  n_bool : mg "bool" = none
  n_int : mg "int" = none
  n_isinstance : mg "isinstance" = none
  n_len : mg "len" = none
  n_list : mg "list" = none
  n_max : mg "max" = none
  n_min : mg "min" = none
  n_range : mg "range" = none
  n_sorted : mg "sorted" = none
  n_str : mg "str" = none
  n_tuple : mg "tuple" = none
  kit_dx : PySem.W.kitOne K (.ref t.C_o) (.ref t.C_o) = some true
  kit_dy : PySem.W.kitOne K (.ref t.C_o) (.ref t.C_l) = some false
  kit_c6 : PySem.W.kitOne K (.ref t.C_o) (.ref t.C_g) = some false
  kit_cb : PySem.W.kitOne K (.ref t.C_o) (.ref t.C_d) = some false
  kit_cc : PySem.W.kitOne K (.ref t.C_o) (.ref t.C_f) = some false
  kit_c7 : PySem.W.kitOne K (.ref t.C_o) (.ref t.C_i) = some false
  kit_bj : PySem.W.kitOne K (.ref t.C_o) (.ref t.C_a) = some false
  kit_c8 : PySem.W.kitOne K (.ref t.C_o) (.ref t.C_j) = some false
  kit_c9 : PySem.W.kitOne K (.ref t.C_o) (.ref t.C_av) = some false
  kit_dz : PySem.W.kitOne K (.ref t.C_o) (.ref t.C_ax) = some false
  kit_ej : PySem.W.kitOne K (.ref t.C_o) (.ref t.C_az) = some false
  kit_da : PySem.W.kitOne K (.ref t.C_o) (.ref t.C_aw) = some false
  kit_d0 : PySem.W.kitOne K (.ref t.C_o) (.ref t.C_ay) = some false
  kany_o : PySem.W.kitAny K (.ref t.C_o) [.ref t.C_k, .ref t.C_an, .ref t.C_ah, .ref t.C_ai, .ref t.C_aj, .ref t.C_ak, .ref t.C_q, .ref t.C_ao] = some false
  kitv_o : PySem.W.kitOne K (.ref t.C_o) (.type "ValueError") = some true
  mro_o : PySem.W.mroIn K t.C_o (.ref t.C_ap) = some true
  kit_d1 : PySem.W.kitOne K (.ref t.C_l) (.ref t.C_o) = some false
  kit_d2 : PySem.W.kitOne K (.ref t.C_l) (.ref t.C_l) = some true
  kit_db : PySem.W.kitOne K (.ref t.C_l) (.ref t.C_g) = some false
  kit_cd : PySem.W.kitOne K (.ref t.C_l) (.ref t.C_d) = some false
  kit_ce : PySem.W.kitOne K (.ref t.C_l) (.ref t.C_f) = some false
  kit_dc : PySem.W.kitOne K (.ref t.C_l) (.ref t.C_i) = some false
  kit_bk : PySem.W.kitOne K (.ref t.C_l) (.ref t.C_a) = some false
  kit_dd : PySem.W.kitOne K (.ref t.C_l) (.ref t.C_j) = some false
  kit_de : PySem.W.kitOne K (.ref t.C_l) (.ref t.C_av) = some false
  kit_d3 : PySem.W.kitOne K (.ref t.C_l) (.ref t.C_ax) = some false
  kit_ek : PySem.W.kitOne K (.ref t.C_l) (.ref t.C_az) = some false
  kit_df : PySem.W.kitOne K (.ref t.C_l) (.ref t.C_aw) = some false
  kit_d4 : PySem.W.kitOne K (.ref t.C_l) (.ref t.C_ay) = some false
  kany_l : PySem.W.kitAny K (.ref t.C_l) [.ref t.C_k, .ref t.C_an, .ref t.C_ah, .ref t.C_ai, .ref t.C_aj, .ref t.C_ak, .ref t.C_q, .ref t.C_ao] = some false
  kitv_l : PySem.W.kitOne K (.ref t.C_l) (.type "ValueError") = some true
  mro_l : PySem.W.mroIn K t.C_l (.ref t.C_ap) = some true
  kit_dg : PySem.W.kitOne K (.ref t.C_g) (.ref t.C_o) = some false
  kit_dh : PySem.W.kitOne K (.ref t.C_g) (.ref t.C_l) = some false
  kit_cf : PySem.W.kitOne K (.ref t.C_g) (.ref t.C_g) = some true
  kit_bt : PySem.W.kitOne K (.ref t.C_g) (.ref t.C_d) = some false
  kit_bu : PySem.W.kitOne K (.ref t.C_g) (.ref t.C_f) = some false
  kit_cg : PySem.W.kitOne K (.ref t.C_g) (.ref t.C_i) = some false
  kit_a9 : PySem.W.kitOne K (.ref t.C_g) (.ref t.C_a) = some false
  kit_ch : PySem.W.kitOne K (.ref t.C_g) (.ref t.C_j) = some false
  kit_ci : PySem.W.kitOne K (.ref t.C_g) (.ref t.C_av) = some false
  kit_di : PySem.W.kitOne K (.ref t.C_g) (.ref t.C_ax) = some false
  kit_d5 : PySem.W.kitOne K (.ref t.C_g) (.ref t.C_az) = some false
  kit_cj : PySem.W.kitOne K (.ref t.C_g) (.ref t.C_aw) = some false
  kit_dj : PySem.W.kitOne K (.ref t.C_g) (.ref t.C_ay) = some false
  kany_g : PySem.W.kitAny K (.ref t.C_g) [.ref t.C_k, .ref t.C_an, .ref t.C_ah, .ref t.C_ai, .ref t.C_aj, .ref t.C_ak, .ref t.C_q, .ref t.C_ao] = some false
  kitv_g : PySem.W.kitOne K (.ref t.C_g) (.type "ValueError") = some true
  mro_g : PySem.W.mroIn K t.C_g (.ref t.C_ap) = some true
  kit_ck : PySem.W.kitOne K (.ref t.C_d) (.ref t.C_o) = some false
  kit_cl : PySem.W.kitOne K (.ref t.C_d) (.ref t.C_l) = some false
  kit_bv : PySem.W.kitOne K (.ref t.C_d) (.ref t.C_g) = some false
  kit_bl : PySem.W.kitOne K (.ref t.C_d) (.ref t.C_d) = some true
  kit_bm : PySem.W.kitOne K (.ref t.C_d) (.ref t.C_f) = some false
  kit_bw : PySem.W.kitOne K (.ref t.C_d) (.ref t.C_i) = some false
  kit_a4 : PySem.W.kitOne K (.ref t.C_d) (.ref t.C_a) = some false
  kit_bx : PySem.W.kitOne K (.ref t.C_d) (.ref t.C_j) = some false
  kit_by : PySem.W.kitOne K (.ref t.C_d) (.ref t.C_av) = some false
  kit_cm : PySem.W.kitOne K (.ref t.C_d) (.ref t.C_ax) = some false
  kit_dk : PySem.W.kitOne K (.ref t.C_d) (.ref t.C_az) = some false
  kit_bz : PySem.W.kitOne K (.ref t.C_d) (.ref t.C_aw) = some false
  kit_cn : PySem.W.kitOne K (.ref t.C_d) (.ref t.C_ay) = some false
  kany_d : PySem.W.kitAny K (.ref t.C_d) [.ref t.C_k, .ref t.C_an, .ref t.C_ah, .ref t.C_ai, .ref t.C_aj, .ref t.C_ak, .ref t.C_q, .ref t.C_ao] = some false
  kitv_d : PySem.W.kitOne K (.ref t.C_d) (.type "ValueError") = some true
  mro_d : PySem.W.mroIn K t.C_d (.ref t.C_ap) = some true
  kit_co : PySem.W.kitOne K (.ref t.C_f) (.ref t.C_o) = some false
  kit_cp : PySem.W.kitOne K (.ref t.C_f) (.ref t.C_l) = some false
  kit_b0 : PySem.W.kitOne K (.ref t.C_f) (.ref t.C_g) = some false
  kit_bn : PySem.W.kitOne K (.ref t.C_f) (.ref t.C_d) = some false
  kit_bo : PySem.W.kitOne K (.ref t.C_f) (.ref t.C_f) = some true
  kit_b1 : PySem.W.kitOne K (.ref t.C_f) (.ref t.C_i) = some false
  kit_a5 : PySem.W.kitOne K (.ref t.C_f) (.ref t.C_a) = some false
  kit_b2 : PySem.W.kitOne K (.ref t.C_f) (.ref t.C_j) = some false
  kit_b3 : PySem.W.kitOne K (.ref t.C_f) (.ref t.C_av) = some false
  kit_cq : PySem.W.kitOne K (.ref t.C_f) (.ref t.C_ax) = some false
  kit_dl : PySem.W.kitOne K (.ref t.C_f) (.ref t.C_az) = some false
  kit_b4 : PySem.W.kitOne K (.ref t.C_f) (.ref t.C_aw) = some false
  kit_cr : PySem.W.kitOne K (.ref t.C_f) (.ref t.C_ay) = some false
  kany_f : PySem.W.kitAny K (.ref t.C_f) [.ref t.C_k, .ref t.C_an, .ref t.C_ah, .ref t.C_ai, .ref t.C_aj, .ref t.C_ak, .ref t.C_q, .ref t.C_ao] = some false
  kitv_f : PySem.W.kitOne K (.ref t.C_f) (.type "ValueError") = some true
  mro_f : PySem.W.mroIn K t.C_f (.ref t.C_ap) = some true
  kit_dm : PySem.W.kitOne K (.ref t.C_i) (.ref t.C_o) = some false
  kit_dn : PySem.W.kitOne K (.ref t.C_i) (.ref t.C_l) = some false
  kit_cs : PySem.W.kitOne K (.ref t.C_i) (.ref t.C_g) = some false
  kit_b5 : PySem.W.kitOne K (.ref t.C_i) (.ref t.C_d) = some false
  kit_b6 : PySem.W.kitOne K (.ref t.C_i) (.ref t.C_f) = some false
  kit_ct : PySem.W.kitOne K (.ref t.C_i) (.ref t.C_i) = some true
  kit_ba : PySem.W.kitOne K (.ref t.C_i) (.ref t.C_a) = some false
  kit_cu : PySem.W.kitOne K (.ref t.C_i) (.ref t.C_j) = some false
  kit_cv : PySem.W.kitOne K (.ref t.C_i) (.ref t.C_av) = some false
  kit_do : PySem.W.kitOne K (.ref t.C_i) (.ref t.C_ax) = some false
  kit_d6 : PySem.W.kitOne K (.ref t.C_i) (.ref t.C_az) = some false
  kit_cw : PySem.W.kitOne K (.ref t.C_i) (.ref t.C_aw) = some false
  kit_dp : PySem.W.kitOne K (.ref t.C_i) (.ref t.C_ay) = some false
  kany_i : PySem.W.kitAny K (.ref t.C_i) [.ref t.C_k, .ref t.C_an, .ref t.C_ah, .ref t.C_ai, .ref t.C_aj, .ref t.C_ak, .ref t.C_q, .ref t.C_ao] = some false
  kitv_i : PySem.W.kitOne K (.ref t.C_i) (.type "ValueError") = some true
  mro_i : PySem.W.mroIn K t.C_i (.ref t.C_ap) = some true
  ns_i : xno0 K t.C_i = true
  ns_fv : PySem.W.keepIn K (.ref t.C_i) = true
  kit_bp : PySem.W.kitOne K (.ref t.C_a) (.ref t.C_o) = some false
  kit_bq : PySem.W.kitOne K (.ref t.C_a) (.ref t.C_l) = some false
  kit_bb : PySem.W.kitOne K (.ref t.C_a) (.ref t.C_g) = some false
  kit_a6 : PySem.W.kitOne K (.ref t.C_a) (.ref t.C_d) = some false
  kit_a7 : PySem.W.kitOne K (.ref t.C_a) (.ref t.C_f) = some false
  kit_bc : PySem.W.kitOne K (.ref t.C_a) (.ref t.C_i) = some false
  kit_a2 : PySem.W.kitOne K (.ref t.C_a) (.ref t.C_a) = some true
  kit_bd : PySem.W.kitOne K (.ref t.C_a) (.ref t.C_j) = some false
  kit_be : PySem.W.kitOne K (.ref t.C_a) (.ref t.C_av) = some false
  kit_br : PySem.W.kitOne K (.ref t.C_a) (.ref t.C_ax) = some false
  kit_b7 : PySem.W.kitOne K (.ref t.C_a) (.ref t.C_az) = some false
  kit_bf : PySem.W.kitOne K (.ref t.C_a) (.ref t.C_aw) = some false
  kit_bs : PySem.W.kitOne K (.ref t.C_a) (.ref t.C_ay) = some false
  kany_a : PySem.W.kitAny K (.ref t.C_a) [.ref t.C_k, .ref t.C_an, .ref t.C_ah, .ref t.C_ai, .ref t.C_aj, .ref t.C_ak, .ref t.C_q, .ref t.C_ao] = some false
  kitv_a : PySem.W.kitOne K (.ref t.C_a) (.type "ValueError") = some true
  mro_a : PySem.W.mroIn K t.C_a (.ref t.C_ap) = some true
  kit_dq : PySem.W.kitOne K (.ref t.C_j) (.ref t.C_o) = some false
  kit_dr : PySem.W.kitOne K (.ref t.C_j) (.ref t.C_l) = some false
  kit_cx : PySem.W.kitOne K (.ref t.C_j) (.ref t.C_g) = some false
  kit_b8 : PySem.W.kitOne K (.ref t.C_j) (.ref t.C_d) = some false
  kit_b9 : PySem.W.kitOne K (.ref t.C_j) (.ref t.C_f) = some false
  kit_cy : PySem.W.kitOne K (.ref t.C_j) (.ref t.C_i) = some false
  kit_bg : PySem.W.kitOne K (.ref t.C_j) (.ref t.C_a) = some false
  kit_cz : PySem.W.kitOne K (.ref t.C_j) (.ref t.C_j) = some true
  kit_c0 : PySem.W.kitOne K (.ref t.C_j) (.ref t.C_av) = some false
  kit_ds : PySem.W.kitOne K (.ref t.C_j) (.ref t.C_ax) = some false
  kit_d7 : PySem.W.kitOne K (.ref t.C_j) (.ref t.C_az) = some false
  kit_c1 : PySem.W.kitOne K (.ref t.C_j) (.ref t.C_aw) = some false
  kit_dt : PySem.W.kitOne K (.ref t.C_j) (.ref t.C_ay) = some false
  kany_j : PySem.W.kitAny K (.ref t.C_j) [.ref t.C_k, .ref t.C_an, .ref t.C_ah, .ref t.C_ai, .ref t.C_aj, .ref t.C_ak, .ref t.C_q, .ref t.C_ao] = some false
  kitv_j : PySem.W.kitOne K (.ref t.C_j) (.type "ValueError") = some true
  mro_j : PySem.W.mroIn K t.C_j (.ref t.C_ap) = some true
  kit_ey : PySem.W.kitOne K (.ref t.C_k) (.ref t.C_o) = some false
  kit_ez : PySem.W.kitOne K (.ref t.C_k) (.ref t.C_l) = some false
  kit_el : PySem.W.kitOne K (.ref t.C_k) (.ref t.C_g) = some false
  kit_eb : PySem.W.kitOne K (.ref t.C_k) (.ref t.C_d) = some false
  kit_ec : PySem.W.kitOne K (.ref t.C_k) (.ref t.C_f) = some false
  kit_em : PySem.W.kitOne K (.ref t.C_k) (.ref t.C_i) = some false
  kit_c5 : PySem.W.kitOne K (.ref t.C_k) (.ref t.C_a) = some false
  kit_en : PySem.W.kitOne K (.ref t.C_k) (.ref t.C_j) = some false
  kit_eo : PySem.W.kitOne K (.ref t.C_k) (.ref t.C_av) = some false
  kit_e0 : PySem.W.kitOne K (.ref t.C_k) (.ref t.C_ax) = some false
  kit_fh : PySem.W.kitOne K (.ref t.C_k) (.ref t.C_az) = some false
  kit_ep : PySem.W.kitOne K (.ref t.C_k) (.ref t.C_aw) = some false
  kit_e1 : PySem.W.kitOne K (.ref t.C_k) (.ref t.C_ay) = some false
  kitv_k : PySem.W.kitOne K (.ref t.C_k) (.type "ValueError") = some true
  mro_k : PySem.W.mroIn K t.C_k (.ref t.C_ap) = some true
  ns_k : xno0 K t.C_k = true
  ns_f4 : PySem.W.keepIn K (.ref t.C_k) = true
  kit_d8 : PySem.W.kitOne K (.ref t.C_k) (.ref t.C_k) = some true
  kany2_k : PySem.W.kitAny K (.ref t.C_k) [.ref t.C_l, .ref t.C_az, .ref t.C_o, .ref t.C_ax, .ref t.C_i, .ref t.C_d] = some false
  v_ed : ∃ tk, mg "MOST_ROWS" = some (.int 16 tk)
  v_bi : ∃ tk, mg "MOST_COLUMNS" = some (.int 30 tk)
  v_ca : ∃ tk, mg "MOST_POINTS" = some (.int 12 tk)
  g_as : mg "MIRRORED_SIDES" = some (.ref t.D_as)
  D_as : xh6 w K t.D_as [(.inr "left", .str "right"), (.inr "right", .str "left"), (.inr "both", .str "both")]
theorem txt_mk {w : World} {K : PySem.W.Frag} {h : Heap} {mg : Str → Option Value} (X : K.In h) (G : h.Ns mainGlobals mg) {C_ap C_k C_o C_l C_g C_d C_f C_av C_i C_a C_j C_ax C_az C_aw C_ay C_an C_ah C_ai C_aj C_ak C_q C_ao C_r f_ac f_ad f_z f_w f_x f_m f_aa f_t f_aq f_v f_e T_e f_h f_s f_c f_b f_af f_u f_al f_n f_p f_at f_am f_ar f_au f_ag f_ae f_y f_ab f_law : Addr} {oc_ac kv_ac dc_ac pm_ac cd_ac ct_ac : Value} {od_ac an_ac : Option Addr} {sl_ac : Array (Option Value)} {oc_ad kv_ad dc_ad pm_ad cd_ad ct_ad : Value} {od_ad an_ad : Option Addr} {sl_ad : Array (Option Value)} {oc_z kv_z dc_z pm_z cd_z ct_z : Value} {od_z an_z : Option Addr} {sl_z : Array (Option Value)} {oc_w kv_w dc_w pm_w cd_w ct_w : Value} {od_w an_w : Option Addr} {sl_w : Array (Option Value)} {oc_x kv_x dc_x pm_x cd_x ct_x : Value} {od_x an_x : Option Addr} {sl_x : Array (Option Value)} {oc_m kv_m dc_m pm_m cd_m ct_m : Value} {od_m an_m : Option Addr} {sl_m : Array (Option Value)} {oc_aa kv_aa dc_aa pm_aa cd_aa ct_aa : Value} {od_aa an_aa : Option Addr} {sl_aa : Array (Option Value)} {oc_t kv_t dc_t pm_t cd_t ct_t : Value} {od_t an_t : Option Addr} {sl_t : Array (Option Value)} {oc_aq kv_aq dc_aq pm_aq cd_aq ct_aq : Value} {od_aq an_aq : Option Addr} {sl_aq : Array (Option Value)} {oc_v kv_v dc_v pm_v cd_v ct_v : Value} {od_v an_v : Option Addr} {sl_v : Array (Option Value)} {oc_e kv_e dc_e pm_e cd_e ct_e : Value} {od_e an_e : Option Addr} {sl_e : Array (Option Value)} {oc_h kv_h dc_h pm_h cd_h ct_h : Value} {od_h an_h : Option Addr} {sl_h : Array (Option Value)} {oc_s kv_s dc_s pm_s cd_s ct_s : Value} {od_s an_s : Option Addr} {sl_s : Array (Option Value)} {oc_c kv_c dc_c pm_c cd_c ct_c : Value} {od_c an_c : Option Addr} {sl_c : Array (Option Value)} {oc_b kv_b dc_b pm_b cd_b ct_b : Value} {od_b an_b : Option Addr} {sl_b : Array (Option Value)} {oc_af kv_af dc_af pm_af cd_af ct_af : Value} {od_af an_af : Option Addr} {sl_af : Array (Option Value)} {oc_u kv_u dc_u pm_u cd_u ct_u : Value} {od_u an_u : Option Addr} {sl_u : Array (Option Value)} {oc_al kv_al dc_al pm_al cd_al ct_al : Value} {od_al an_al : Option Addr} {sl_al : Array (Option Value)} {oc_n kv_n dc_n pm_n cd_n ct_n : Value} {od_n an_n : Option Addr} {sl_n : Array (Option Value)} {oc_p kv_p dc_p pm_p cd_p ct_p : Value} {od_p an_p : Option Addr} {sl_p : Array (Option Value)} {oc_at kv_at dc_at pm_at cd_at ct_at : Value} {od_at an_at : Option Addr} {sl_at : Array (Option Value)} {oc_am kv_am dc_am pm_am cd_am ct_am : Value} {od_am an_am : Option Addr} {sl_am : Array (Option Value)} {oc_ar kv_ar dc_ar pm_ar cd_ar ct_ar : Value} {od_ar an_ar : Option Addr} {sl_ar : Array (Option Value)} {oc_au kv_au dc_au pm_au cd_au ct_au : Value} {od_au an_au : Option Addr} {sl_au : Array (Option Value)} {oc_ag kv_ag dc_ag pm_ag cd_ag ct_ag : Value} {od_ag an_ag : Option Addr} {sl_ag : Array (Option Value)} {oc_ae kv_ae dc_ae pm_ae cd_ae ct_ae : Value} {od_ae an_ae : Option Addr} {sl_ae : Array (Option Value)} {oc_y kv_y dc_y pm_y cd_y ct_y : Value} {od_y an_y : Option Addr} {sl_y : Array (Option Value)} {oc_ab kv_ab dc_ab pm_ab cd_ab ct_ab : Value} {od_ab an_ab : Option Addr} {sl_ab : Array (Option Value)} {oc_law kv_law dc_law pm_law cd_law ct_law : Value} {od_law an_law : Option Addr} {sl_law : Array (Option Value)} {tk0_e : Tok} {tk1_e : Tok} {toc_e : Value} {tod_e : Option Addr} {tn_e : Nat} {tsl_e : Array (Option Value)} {tkc_ed : Tok} {tkc_bi : Tok} {tkc_ca : Tok} {D_as : Addr} {ta0_as tb0_as : Tok} {ta1_as tb1_as : Tok} {ta2_as tb2_as : Tok} {ep_as : Nat}
    (g_ap : PySem.W.nsIn K mainGlobals "RimError" = some (some (.ref C_ap)))
    (g_k : PySem.W.nsIn K mainGlobals "NoSize" = some (some (.ref C_k)))
    (g_o : PySem.W.nsIn K mainGlobals "NoName" = some (some (.ref C_o)))
    (g_l : PySem.W.nsIn K mainGlobals "NoCell" = some (some (.ref C_l)))
    (g_g : PySem.W.nsIn K mainGlobals "NoSides" = some (some (.ref C_g)))
    (g_d : PySem.W.nsIn K mainGlobals "NoWindow" = some (some (.ref C_d)))
    (g_f : PySem.W.nsIn K mainGlobals "OldPoint" = some (some (.ref C_f)))
    (g_av : PySem.W.nsIn K mainGlobals "NoPoint" = some (some (.ref C_av)))
    (g_i : PySem.W.nsIn K mainGlobals "TooMany" = some (some (.ref C_i)))
    (g_a : PySem.W.nsIn K mainGlobals "SameColumn" = some (some (.ref C_a)))
    (g_j : PySem.W.nsIn K mainGlobals "SameRow" = some (some (.ref C_j)))
    (g_ax : PySem.W.nsIn K mainGlobals "NoSide" = some (some (.ref C_ax)))
    (g_az : PySem.W.nsIn K mainGlobals "NoRow" = some (some (.ref C_az)))
    (g_aw : PySem.W.nsIn K mainGlobals "OldSeat" = some (some (.ref C_aw)))
    (g_ay : PySem.W.nsIn K mainGlobals "NoSeat" = some (some (.ref C_ay)))
    (g_an : PySem.W.nsIn K mainGlobals "NoRoom" = some (some (.ref C_an)))
    (g_ah : PySem.W.nsIn K mainGlobals "NoNotes" = some (some (.ref C_ah)))
    (g_ai : PySem.W.nsIn K mainGlobals "TooFull" = some (some (.ref C_ai)))
    (g_aj : PySem.W.nsIn K mainGlobals "TooTall" = some (some (.ref C_aj)))
    (g_ak : PySem.W.nsIn K mainGlobals "BadLine" = some (some (.ref C_ak)))
    (g_q : PySem.W.nsIn K mainGlobals "BadDrawing" = some (some (.ref C_q)))
    (g_ao : PySem.W.nsIn K mainGlobals "NoLine" = some (some (.ref C_ao)))
    (g_r : PySem.W.nsIn K mainGlobals "Picture" = some (some (.ref C_r)))
    (a_ac : PySem.W.findIn K (.ref C_o) "__init__" = some (some (.ref f_ac)))
    (l_ac : K.lookup f_ac = some ⟨oc_ac, od_ac, .func (PySem.W.fnOf "__init__" "NoName.__init__" (xae s_ac) (x9 s_ac) (xp s_ac) .none kv_ac dc_ac pm_ac an_ac cd_ac ct_ac), sl_ac⟩)
    (c_ac : PySem.W.codeIn K cd_ac "NoName.__init__" = true)
    (k_ac : PySem.W.keepIn K (.ref f_ac) = true)
    (i_ac : PySem.W.isFn K (.ref f_ac) = true)
    (a_ad : PySem.W.findIn K (.ref C_l) "__init__" = some (some (.ref f_ad)))
    (l_ad : K.lookup f_ad = some ⟨oc_ad, od_ad, .func (PySem.W.fnOf "__init__" "NoCell.__init__" (xae s_ad) (x9 s_ad) (xp s_ad) .none kv_ad dc_ad pm_ad an_ad cd_ad ct_ad), sl_ad⟩)
    (c_ad : PySem.W.codeIn K cd_ad "NoCell.__init__" = true)
    (k_ad : PySem.W.keepIn K (.ref f_ad) = true)
    (i_ad : PySem.W.isFn K (.ref f_ad) = true)
    (a_z : PySem.W.findIn K (.ref C_g) "__init__" = some (some (.ref f_z)))
    (l_z : K.lookup f_z = some ⟨oc_z, od_z, .func (PySem.W.fnOf "__init__" "NoSides.__init__" (xae s_z) (x9 s_z) (xp s_z) .none kv_z dc_z pm_z an_z cd_z ct_z), sl_z⟩)
    (c_z : PySem.W.codeIn K cd_z "NoSides.__init__" = true)
    (k_z : PySem.W.keepIn K (.ref f_z) = true)
    (i_z : PySem.W.isFn K (.ref f_z) = true)
    (a_w : PySem.W.findIn K (.ref C_d) "__init__" = some (some (.ref f_w)))
    (l_w : K.lookup f_w = some ⟨oc_w, od_w, .func (PySem.W.fnOf "__init__" "NoWindow.__init__" (xae s_w) (x9 s_w) (xp s_w) .none kv_w dc_w pm_w an_w cd_w ct_w), sl_w⟩)
    (c_w : PySem.W.codeIn K cd_w "NoWindow.__init__" = true)
    (k_w : PySem.W.keepIn K (.ref f_w) = true)
    (i_w : PySem.W.isFn K (.ref f_w) = true)
    (a_x : PySem.W.findIn K (.ref C_f) "__init__" = some (some (.ref f_x)))
    (l_x : K.lookup f_x = some ⟨oc_x, od_x, .func (PySem.W.fnOf "__init__" "OldPoint.__init__" (xae s_x) (x9 s_x) (xp s_x) .none kv_x dc_x pm_x an_x cd_x ct_x), sl_x⟩)
    (c_x : PySem.W.codeIn K cd_x "OldPoint.__init__" = true)
    (k_x : PySem.W.keepIn K (.ref f_x) = true)
    (i_x : PySem.W.isFn K (.ref f_x) = true)
    (a_m : PySem.W.findIn K (.ref C_a) "__init__" = some (some (.ref f_m)))
    (l_m : K.lookup f_m = some ⟨oc_m, od_m, .func (PySem.W.fnOf "__init__" "SameColumn.__init__" (xae s_m) (x9 s_m) (xp s_m) .none kv_m dc_m pm_m an_m cd_m ct_m), sl_m⟩)
    (c_m : PySem.W.codeIn K cd_m "SameColumn.__init__" = true)
    (k_m : PySem.W.keepIn K (.ref f_m) = true)
    (i_m : PySem.W.isFn K (.ref f_m) = true)
    (a_aa : PySem.W.findIn K (.ref C_j) "__init__" = some (some (.ref f_aa)))
    (l_aa : K.lookup f_aa = some ⟨oc_aa, od_aa, .func (PySem.W.fnOf "__init__" "SameRow.__init__" (xae s_aa) (x9 s_aa) (xp s_aa) .none kv_aa dc_aa pm_aa an_aa cd_aa ct_aa), sl_aa⟩)
    (c_aa : PySem.W.codeIn K cd_aa "SameRow.__init__" = true)
    (k_aa : PySem.W.keepIn K (.ref f_aa) = true)
    (i_aa : PySem.W.isFn K (.ref f_aa) = true)
    (a_t : PySem.W.nsIn K mainGlobals "is_whole" = some (some (.ref f_t)))
    (l_t : K.lookup f_t = some ⟨oc_t, od_t, .func (PySem.W.fnOf "is_whole" "is_whole" (xae s_t) (x9 s_t) (xp s_t) .none kv_t dc_t pm_t an_t cd_t ct_t), sl_t⟩)
    (c_t : PySem.W.codeIn K cd_t "is_whole" = true)
    (k_t : PySem.W.keepIn K (.ref f_t) = true)
    (i_t : PySem.W.isFn K (.ref f_t) = true)
    (a_aq : PySem.W.nsIn K mainGlobals "is_name" = some (some (.ref f_aq)))
    (l_aq : K.lookup f_aq = some ⟨oc_aq, od_aq, .func (PySem.W.fnOf "is_name" "is_name" (xae s_aq) (x9 s_aq) (xp s_aq) .none kv_aq dc_aq pm_aq an_aq cd_aq ct_aq), sl_aq⟩)
    (c_aq : PySem.W.codeIn K cd_aq "is_name" = true)
    (k_aq : PySem.W.keepIn K (.ref f_aq) = true)
    (i_aq : PySem.W.isFn K (.ref f_aq) = true)
    (a_v : PySem.W.findIn K (.ref C_r) "__init__" = some (some (.ref f_v)))
    (l_v : K.lookup f_v = some ⟨oc_v, od_v, .func (PySem.W.fnOf "__init__" "Picture.__init__" (xae s_v) (x9 s_v) (xp s_v) .none kv_v dc_v pm_v an_v cd_v ct_v), sl_v⟩)
    (c_v : PySem.W.codeIn K cd_v "Picture.__init__" = true)
    (k_v : PySem.W.keepIn K (.ref f_v) = true)
    (i_v : PySem.W.isFn K (.ref f_v) = true)
    (a_e : PySem.W.findIn K (.ref C_r) "put" = some (some (.ref f_e)))
    (l_e : K.lookup f_e = some ⟨oc_e, od_e, .func (PySem.W.fnOf "put" "Picture.put" (xae s_e) (x9 s_e) (xp s_e) (.ref T_e) kv_e dc_e pm_e an_e cd_e ct_e), sl_e⟩)
    (c_e : PySem.W.codeIn K cd_e "Picture.put" = true)
    (k_e : PySem.W.keepIn K (.ref f_e) = true)
    (i_e : PySem.W.isFn K (.ref f_e) = true)
    (t_e : K.lookup T_e = some ⟨toc_e, tod_e, .seq #[.str "both" tk0_e, .int 1 tk1_e, .none] tn_e, tsl_e⟩)
    (a_h : PySem.W.findIn K (.ref C_r) "points" = some (some (.ref f_h)))
    (l_h : K.lookup f_h = some ⟨oc_h, od_h, .func (PySem.W.fnOf "points" "Picture.points" (xae s_h) (x9 s_h) (xp s_h) .none kv_h dc_h pm_h an_h cd_h ct_h), sl_h⟩)
    (c_h : PySem.W.codeIn K cd_h "Picture.points" = true)
    (k_h : PySem.W.keepIn K (.ref f_h) = true)
    (i_h : PySem.W.isFn K (.ref f_h) = true)
    (a_s : PySem.W.findIn K (.ref C_r) "seats" = some (some (.ref f_s)))
    (l_s : K.lookup f_s = some ⟨oc_s, od_s, .func (PySem.W.fnOf "seats" "Picture.seats" (xae s_s) (x9 s_s) (xp s_s) .none kv_s dc_s pm_s an_s cd_s ct_s), sl_s⟩)
    (c_s : PySem.W.codeIn K cd_s "Picture.seats" = true)
    (k_s : PySem.W.keepIn K (.ref f_s) = true)
    (i_s : PySem.W.isFn K (.ref f_s) = true)
    (a_c : PySem.W.findIn K (.ref C_r) "check_cell" = some (some (.ref f_c)))
    (l_c : K.lookup f_c = some ⟨oc_c, od_c, .func (PySem.W.fnOf "check_cell" "Picture.check_cell" (xae s_c) (x9 s_c) (xp s_c) .none kv_c dc_c pm_c an_c cd_c ct_c), sl_c⟩)
    (c_c : PySem.W.codeIn K cd_c "Picture.check_cell" = true)
    (k_c : PySem.W.keepIn K (.ref f_c) = true)
    (i_c : PySem.W.isFn K (.ref f_c) = true)
    (a_b : PySem.W.findIn K (.ref C_r) "check_lines" = some (some (.ref f_b)))
    (l_b : K.lookup f_b = some ⟨oc_b, od_b, .func (PySem.W.fnOf "check_lines" "Picture.check_lines" (xae s_b) (x9 s_b) (xp s_b) .none kv_b dc_b pm_b an_b cd_b ct_b), sl_b⟩)
    (c_b : PySem.W.codeIn K cd_b "Picture.check_lines" = true)
    (k_b : PySem.W.keepIn K (.ref f_b) = true)
    (i_b : PySem.W.isFn K (.ref f_b) = true)
    (a_af : PySem.W.nsIn K mainGlobals "_law_cell" = some (some (.ref f_af)))
    (l_af : K.lookup f_af = some ⟨oc_af, od_af, .func (PySem.W.fnOf "_law_cell" "_law_cell" (xae s_af) (x9 s_af) (xp s_af) .none kv_af dc_af pm_af an_af cd_af ct_af), sl_af⟩)
    (c_af : PySem.W.codeIn K cd_af "_law_cell" = true)
    (k_af : PySem.W.keepIn K (.ref f_af) = true)
    (i_af : PySem.W.isFn K (.ref f_af) = true)
    (a_u : PySem.W.nsIn K mainGlobals "_law_mixed" = some (some (.ref f_u)))
    (l_u : K.lookup f_u = some ⟨oc_u, od_u, .func (PySem.W.fnOf "_law_mixed" "_law_mixed" (xae s_u) (x9 s_u) (xp s_u) .none kv_u dc_u pm_u an_u cd_u ct_u), sl_u⟩)
    (c_u : PySem.W.codeIn K cd_u "_law_mixed" = true)
    (k_u : PySem.W.keepIn K (.ref f_u) = true)
    (i_u : PySem.W.isFn K (.ref f_u) = true)
    (a_al : PySem.W.nsIn K mainGlobals "_law_told" = some (some (.ref f_al)))
    (l_al : K.lookup f_al = some ⟨oc_al, od_al, .func (PySem.W.fnOf "_law_told" "_law_told" (xae s_al) (x9 s_al) (xp s_al) .none kv_al dc_al pm_al an_al cd_al ct_al), sl_al⟩)
    (c_al : PySem.W.codeIn K cd_al "_law_told" = true)
    (k_al : PySem.W.keepIn K (.ref f_al) = true)
    (i_al : PySem.W.isFn K (.ref f_al) = true)
    (a_n : PySem.W.nsIn K mainGlobals "_law_told_more" = some (some (.ref f_n)))
    (l_n : K.lookup f_n = some ⟨oc_n, od_n, .func (PySem.W.fnOf "_law_told_more" "_law_told_more" (xae s_n) (x9 s_n) (xp s_n) .none kv_n dc_n pm_n an_n cd_n ct_n), sl_n⟩)
    (c_n : PySem.W.codeIn K cd_n "_law_told_more" = true)
    (k_n : PySem.W.keepIn K (.ref f_n) = true)
    (i_n : PySem.W.isFn K (.ref f_n) = true)
    (a_p : PySem.W.nsIn K mainGlobals "_law_is_whole" = some (some (.ref f_p)))
    (l_p : K.lookup f_p = some ⟨oc_p, od_p, .func (PySem.W.fnOf "_law_is_whole" "_law_is_whole" (xae s_p) (x9 s_p) (xp s_p) .none kv_p dc_p pm_p an_p cd_p ct_p), sl_p⟩)
    (c_p : PySem.W.codeIn K cd_p "_law_is_whole" = true)
    (k_p : PySem.W.keepIn K (.ref f_p) = true)
    (i_p : PySem.W.isFn K (.ref f_p) = true)
    (a_at : PySem.W.nsIn K mainGlobals "_law_odd" = some (some (.ref f_at)))
    (l_at : K.lookup f_at = some ⟨oc_at, od_at, .func (PySem.W.fnOf "_law_odd" "_law_odd" (xae s_at) (x9 s_at) (xp s_at) .none kv_at dc_at pm_at an_at cd_at ct_at), sl_at⟩)
    (c_at : PySem.W.codeIn K cd_at "_law_odd" = true)
    (k_at : PySem.W.keepIn K (.ref f_at) = true)
    (i_at : PySem.W.isFn K (.ref f_at) = true)
    (a_am : PySem.W.nsIn K mainGlobals "_law_args" = some (some (.ref f_am)))
    (l_am : K.lookup f_am = some ⟨oc_am, od_am, .func (PySem.W.fnOf "_law_args" "_law_args" (xae s_am) (x9 s_am) (xp s_am) .none kv_am dc_am pm_am an_am cd_am ct_am), sl_am⟩)
    (c_am : PySem.W.codeIn K cd_am "_law_args" = true)
    (k_am : PySem.W.keepIn K (.ref f_am) = true)
    (i_am : PySem.W.isFn K (.ref f_am) = true)
    (a_ar : PySem.W.nsIn K mainGlobals "_law_due" = some (some (.ref f_ar)))
    (l_ar : K.lookup f_ar = some ⟨oc_ar, od_ar, .func (PySem.W.fnOf "_law_due" "_law_due" (xae s_ar) (x9 s_ar) (xp s_ar) .none kv_ar dc_ar pm_ar an_ar cd_ar ct_ar), sl_ar⟩)
    (c_ar : PySem.W.codeIn K cd_ar "_law_due" = true)
    (k_ar : PySem.W.keepIn K (.ref f_ar) = true)
    (i_ar : PySem.W.isFn K (.ref f_ar) = true)
    (a_au : PySem.W.nsIn K mainGlobals "_law_put" = some (some (.ref f_au)))
    (l_au : K.lookup f_au = some ⟨oc_au, od_au, .func (PySem.W.fnOf "_law_put" "_law_put" (xae s_au) (x9 s_au) (xp s_au) .none kv_au dc_au pm_au an_au cd_au ct_au), sl_au⟩)
    (c_au : PySem.W.codeIn K cd_au "_law_put" = true)
    (k_au : PySem.W.keepIn K (.ref f_au) = true)
    (i_au : PySem.W.isFn K (.ref f_au) = true)
    (a_ag : PySem.W.nsIn K mainGlobals "_law_tried" = some (some (.ref f_ag)))
    (l_ag : K.lookup f_ag = some ⟨oc_ag, od_ag, .func (PySem.W.fnOf "_law_tried" "_law_tried" (xae s_ag) (x9 s_ag) (xp s_ag) .none kv_ag dc_ag pm_ag an_ag cd_ag ct_ag), sl_ag⟩)
    (c_ag : PySem.W.codeIn K cd_ag "_law_tried" = true)
    (k_ag : PySem.W.keepIn K (.ref f_ag) = true)
    (i_ag : PySem.W.isFn K (.ref f_ag) = true)
    (a_ae : PySem.W.nsIn K mainGlobals "_law_right" = some (some (.ref f_ae)))
    (l_ae : K.lookup f_ae = some ⟨oc_ae, od_ae, .func (PySem.W.fnOf "_law_right" "_law_right" (xae s_ae) (x9 s_ae) (xp s_ae) .none kv_ae dc_ae pm_ae an_ae cd_ae ct_ae), sl_ae⟩)
    (c_ae : PySem.W.codeIn K cd_ae "_law_right" = true)
    (k_ae : PySem.W.keepIn K (.ref f_ae) = true)
    (i_ae : PySem.W.isFn K (.ref f_ae) = true)
    (a_y : PySem.W.nsIn K mainGlobals "_law_no_size" = some (some (.ref f_y)))
    (l_y : K.lookup f_y = some ⟨oc_y, od_y, .func (PySem.W.fnOf "_law_no_size" "_law_no_size" (xae s_y) (x9 s_y) (xp s_y) .none kv_y dc_y pm_y an_y cd_y ct_y), sl_y⟩)
    (c_y : PySem.W.codeIn K cd_y "_law_no_size" = true)
    (k_y : PySem.W.keepIn K (.ref f_y) = true)
    (i_y : PySem.W.isFn K (.ref f_y) = true)
    (a_ab : PySem.W.nsIn K mainGlobals "_law_eleven" = some (some (.ref f_ab)))
    (l_ab : K.lookup f_ab = some ⟨oc_ab, od_ab, .func (PySem.W.fnOf "_law_eleven" "_law_eleven" (xae s_ab) (x9 s_ab) (xp s_ab) .none kv_ab dc_ab pm_ab an_ab cd_ab ct_ab), sl_ab⟩)
    (c_ab : PySem.W.codeIn K cd_ab "_law_eleven" = true)
    (k_ab : PySem.W.keepIn K (.ref f_ab) = true)
    (i_ab : PySem.W.isFn K (.ref f_ab) = true)
    (a_law : PySem.W.nsIn K mainGlobals "law" = some (some (.ref f_law)))
    (l_law : K.lookup f_law = some ⟨oc_law, od_law, .func (PySem.W.fnOf "law" "law" (xae xc6) (x9 xc6) (xp xc6) .none kv_law dc_law pm_law an_law cd_law ct_law), sl_law⟩)
    (c_law : PySem.W.codeIn K cd_law "law" = true)
    (k_law : PySem.W.keepIn K (.ref f_law) = true)
    (i_law : PySem.W.isFn K (.ref f_law) = true)
    (kc_ap : PySem.W.keepIn K (.ref C_ap) = true)
    (ov_ap : xaw K C_ap = true)
    (hd_ap : PySem.W.hasDictIn K C_ap = true)
    (sa_ap : PySem.W.findIn K (.ref C_ap) "__setattr__" = some (some (.builtin "object.__setattr__")))
    (ga_ap : PySem.W.findIn K (.ref C_ap) "__getattribute__" = some (some (.builtin "BaseException.__getattribute__")))
    (gh_ap : PySem.W.findIn K (.ref C_ap) "__getattr__" = some none)
    (ca_ap : PySem.W.findIn K (.ref C_ap) "__class__" = some (some (.builtin "object.__class__")))
    (mk_ap : xaf K C_ap = true)
    (kc_k : PySem.W.keepIn K (.ref C_k) = true)
    (ov_k : xaw K C_k = true)
    (hd_k : PySem.W.hasDictIn K C_k = true)
    (sa_k : PySem.W.findIn K (.ref C_k) "__setattr__" = some (some (.builtin "object.__setattr__")))
    (ga_k : PySem.W.findIn K (.ref C_k) "__getattribute__" = some (some (.builtin "BaseException.__getattribute__")))
    (gh_k : PySem.W.findIn K (.ref C_k) "__getattr__" = some none)
    (ca_k : PySem.W.findIn K (.ref C_k) "__class__" = some (some (.builtin "object.__class__")))
    (mk_k : xaf K C_k = true)
    (kc_o : PySem.W.keepIn K (.ref C_o) = true)
    (ov_o : xaw K C_o = true)
    (hd_o : PySem.W.hasDictIn K C_o = true)
    (sa_o : PySem.W.findIn K (.ref C_o) "__setattr__" = some (some (.builtin "object.__setattr__")))
    (ga_o : PySem.W.findIn K (.ref C_o) "__getattribute__" = some (some (.builtin "BaseException.__getattribute__")))
    (gh_o : PySem.W.findIn K (.ref C_o) "__getattr__" = some none)
    (ca_o : PySem.W.findIn K (.ref C_o) "__class__" = some (some (.builtin "object.__class__")))
    (mk_o : xaf K C_o = true)
    (kc_l : PySem.W.keepIn K (.ref C_l) = true)
    (ov_l : xaw K C_l = true)
    (hd_l : PySem.W.hasDictIn K C_l = true)
    (sa_l : PySem.W.findIn K (.ref C_l) "__setattr__" = some (some (.builtin "object.__setattr__")))
    (ga_l : PySem.W.findIn K (.ref C_l) "__getattribute__" = some (some (.builtin "BaseException.__getattribute__")))
    (gh_l : PySem.W.findIn K (.ref C_l) "__getattr__" = some none)
    (ca_l : PySem.W.findIn K (.ref C_l) "__class__" = some (some (.builtin "object.__class__")))
    (mk_l : xaf K C_l = true)
    (kc_g : PySem.W.keepIn K (.ref C_g) = true)
    (ov_g : xaw K C_g = true)
    (hd_g : PySem.W.hasDictIn K C_g = true)
    (sa_g : PySem.W.findIn K (.ref C_g) "__setattr__" = some (some (.builtin "object.__setattr__")))
    (ga_g : PySem.W.findIn K (.ref C_g) "__getattribute__" = some (some (.builtin "BaseException.__getattribute__")))
    (gh_g : PySem.W.findIn K (.ref C_g) "__getattr__" = some none)
    (ca_g : PySem.W.findIn K (.ref C_g) "__class__" = some (some (.builtin "object.__class__")))
    (mk_g : xaf K C_g = true)
    (kc_d : PySem.W.keepIn K (.ref C_d) = true)
    (ov_d : xaw K C_d = true)
    (hd_d : PySem.W.hasDictIn K C_d = true)
    (sa_d : PySem.W.findIn K (.ref C_d) "__setattr__" = some (some (.builtin "object.__setattr__")))
    (ga_d : PySem.W.findIn K (.ref C_d) "__getattribute__" = some (some (.builtin "BaseException.__getattribute__")))
    (gh_d : PySem.W.findIn K (.ref C_d) "__getattr__" = some none)
    (ca_d : PySem.W.findIn K (.ref C_d) "__class__" = some (some (.builtin "object.__class__")))
    (mk_d : xaf K C_d = true)
    (kc_f : PySem.W.keepIn K (.ref C_f) = true)
    (ov_f : xaw K C_f = true)
    (hd_f : PySem.W.hasDictIn K C_f = true)
    (sa_f : PySem.W.findIn K (.ref C_f) "__setattr__" = some (some (.builtin "object.__setattr__")))
    (ga_f : PySem.W.findIn K (.ref C_f) "__getattribute__" = some (some (.builtin "BaseException.__getattribute__")))
    (gh_f : PySem.W.findIn K (.ref C_f) "__getattr__" = some none)
    (ca_f : PySem.W.findIn K (.ref C_f) "__class__" = some (some (.builtin "object.__class__")))
    (mk_f : xaf K C_f = true)
    (kc_av : PySem.W.keepIn K (.ref C_av) = true)
    (ov_av : xaw K C_av = true)
    (hd_av : PySem.W.hasDictIn K C_av = true)
    (sa_av : PySem.W.findIn K (.ref C_av) "__setattr__" = some (some (.builtin "object.__setattr__")))
    (ga_av : PySem.W.findIn K (.ref C_av) "__getattribute__" = some (some (.builtin "BaseException.__getattribute__")))
    (gh_av : PySem.W.findIn K (.ref C_av) "__getattr__" = some none)
    (ca_av : PySem.W.findIn K (.ref C_av) "__class__" = some (some (.builtin "object.__class__")))
    (mk_av : xaf K C_av = true)
    (kc_i : PySem.W.keepIn K (.ref C_i) = true)
    (ov_i : xaw K C_i = true)
    (hd_i : PySem.W.hasDictIn K C_i = true)
    (sa_i : PySem.W.findIn K (.ref C_i) "__setattr__" = some (some (.builtin "object.__setattr__")))
    (ga_i : PySem.W.findIn K (.ref C_i) "__getattribute__" = some (some (.builtin "BaseException.__getattribute__")))
    (gh_i : PySem.W.findIn K (.ref C_i) "__getattr__" = some none)
    (ca_i : PySem.W.findIn K (.ref C_i) "__class__" = some (some (.builtin "object.__class__")))
    (mk_i : xaf K C_i = true)
    (kc_a : PySem.W.keepIn K (.ref C_a) = true)
    (ov_a : xaw K C_a = true)
    (hd_a : PySem.W.hasDictIn K C_a = true)
    (sa_a : PySem.W.findIn K (.ref C_a) "__setattr__" = some (some (.builtin "object.__setattr__")))
    (ga_a : PySem.W.findIn K (.ref C_a) "__getattribute__" = some (some (.builtin "BaseException.__getattribute__")))
    (gh_a : PySem.W.findIn K (.ref C_a) "__getattr__" = some none)
    (ca_a : PySem.W.findIn K (.ref C_a) "__class__" = some (some (.builtin "object.__class__")))
    (mk_a : xaf K C_a = true)
    (kc_j : PySem.W.keepIn K (.ref C_j) = true)
    (ov_j : xaw K C_j = true)
    (hd_j : PySem.W.hasDictIn K C_j = true)
    (sa_j : PySem.W.findIn K (.ref C_j) "__setattr__" = some (some (.builtin "object.__setattr__")))
    (ga_j : PySem.W.findIn K (.ref C_j) "__getattribute__" = some (some (.builtin "BaseException.__getattribute__")))
    (gh_j : PySem.W.findIn K (.ref C_j) "__getattr__" = some none)
    (ca_j : PySem.W.findIn K (.ref C_j) "__class__" = some (some (.builtin "object.__class__")))
    (mk_j : xaf K C_j = true)
    (kc_ax : PySem.W.keepIn K (.ref C_ax) = true)
    (ov_ax : xaw K C_ax = true)
    (hd_ax : PySem.W.hasDictIn K C_ax = true)
    (sa_ax : PySem.W.findIn K (.ref C_ax) "__setattr__" = some (some (.builtin "object.__setattr__")))
    (ga_ax : PySem.W.findIn K (.ref C_ax) "__getattribute__" = some (some (.builtin "BaseException.__getattribute__")))
    (gh_ax : PySem.W.findIn K (.ref C_ax) "__getattr__" = some none)
    (ca_ax : PySem.W.findIn K (.ref C_ax) "__class__" = some (some (.builtin "object.__class__")))
    (mk_ax : xaf K C_ax = true)
    (kc_az : PySem.W.keepIn K (.ref C_az) = true)
    (ov_az : xaw K C_az = true)
    (hd_az : PySem.W.hasDictIn K C_az = true)
    (sa_az : PySem.W.findIn K (.ref C_az) "__setattr__" = some (some (.builtin "object.__setattr__")))
    (ga_az : PySem.W.findIn K (.ref C_az) "__getattribute__" = some (some (.builtin "BaseException.__getattribute__")))
    (gh_az : PySem.W.findIn K (.ref C_az) "__getattr__" = some none)
    (ca_az : PySem.W.findIn K (.ref C_az) "__class__" = some (some (.builtin "object.__class__")))
    (mk_az : xaf K C_az = true)
    (kc_aw : PySem.W.keepIn K (.ref C_aw) = true)
    (ov_aw : xaw K C_aw = true)
    (hd_aw : PySem.W.hasDictIn K C_aw = true)
    (sa_aw : PySem.W.findIn K (.ref C_aw) "__setattr__" = some (some (.builtin "object.__setattr__")))
    (ga_aw : PySem.W.findIn K (.ref C_aw) "__getattribute__" = some (some (.builtin "BaseException.__getattribute__")))
    (gh_aw : PySem.W.findIn K (.ref C_aw) "__getattr__" = some none)
    (ca_aw : PySem.W.findIn K (.ref C_aw) "__class__" = some (some (.builtin "object.__class__")))
    (mk_aw : xaf K C_aw = true)
    (kc_ay : PySem.W.keepIn K (.ref C_ay) = true)
    (ov_ay : xaw K C_ay = true)
    (hd_ay : PySem.W.hasDictIn K C_ay = true)
    (sa_ay : PySem.W.findIn K (.ref C_ay) "__setattr__" = some (some (.builtin "object.__setattr__")))
    (ga_ay : PySem.W.findIn K (.ref C_ay) "__getattribute__" = some (some (.builtin "BaseException.__getattribute__")))
    (gh_ay : PySem.W.findIn K (.ref C_ay) "__getattr__" = some none)
    (ca_ay : PySem.W.findIn K (.ref C_ay) "__class__" = some (some (.builtin "object.__class__")))
    (mk_ay : xaf K C_ay = true)
    (kc_an : PySem.W.keepIn K (.ref C_an) = true)
    (ov_an : xaw K C_an = true)
    (hd_an : PySem.W.hasDictIn K C_an = true)
    (sa_an : PySem.W.findIn K (.ref C_an) "__setattr__" = some (some (.builtin "object.__setattr__")))
    (ga_an : PySem.W.findIn K (.ref C_an) "__getattribute__" = some (some (.builtin "BaseException.__getattribute__")))
    (gh_an : PySem.W.findIn K (.ref C_an) "__getattr__" = some none)
    (ca_an : PySem.W.findIn K (.ref C_an) "__class__" = some (some (.builtin "object.__class__")))
    (mk_an : xaf K C_an = true)
    (kc_ah : PySem.W.keepIn K (.ref C_ah) = true)
    (ov_ah : xaw K C_ah = true)
    (hd_ah : PySem.W.hasDictIn K C_ah = true)
    (sa_ah : PySem.W.findIn K (.ref C_ah) "__setattr__" = some (some (.builtin "object.__setattr__")))
    (ga_ah : PySem.W.findIn K (.ref C_ah) "__getattribute__" = some (some (.builtin "BaseException.__getattribute__")))
    (gh_ah : PySem.W.findIn K (.ref C_ah) "__getattr__" = some none)
    (ca_ah : PySem.W.findIn K (.ref C_ah) "__class__" = some (some (.builtin "object.__class__")))
    (mk_ah : xaf K C_ah = true)
    (kc_ai : PySem.W.keepIn K (.ref C_ai) = true)
    (ov_ai : xaw K C_ai = true)
    (hd_ai : PySem.W.hasDictIn K C_ai = true)
    (sa_ai : PySem.W.findIn K (.ref C_ai) "__setattr__" = some (some (.builtin "object.__setattr__")))
    (ga_ai : PySem.W.findIn K (.ref C_ai) "__getattribute__" = some (some (.builtin "BaseException.__getattribute__")))
    (gh_ai : PySem.W.findIn K (.ref C_ai) "__getattr__" = some none)
    (ca_ai : PySem.W.findIn K (.ref C_ai) "__class__" = some (some (.builtin "object.__class__")))
    (mk_ai : xaf K C_ai = true)
    (kc_aj : PySem.W.keepIn K (.ref C_aj) = true)
    (ov_aj : xaw K C_aj = true)
    (hd_aj : PySem.W.hasDictIn K C_aj = true)
    (sa_aj : PySem.W.findIn K (.ref C_aj) "__setattr__" = some (some (.builtin "object.__setattr__")))
    (ga_aj : PySem.W.findIn K (.ref C_aj) "__getattribute__" = some (some (.builtin "BaseException.__getattribute__")))
    (gh_aj : PySem.W.findIn K (.ref C_aj) "__getattr__" = some none)
    (ca_aj : PySem.W.findIn K (.ref C_aj) "__class__" = some (some (.builtin "object.__class__")))
    (mk_aj : xaf K C_aj = true)
    (kc_ak : PySem.W.keepIn K (.ref C_ak) = true)
    (ov_ak : xaw K C_ak = true)
    (hd_ak : PySem.W.hasDictIn K C_ak = true)
    (sa_ak : PySem.W.findIn K (.ref C_ak) "__setattr__" = some (some (.builtin "object.__setattr__")))
    (ga_ak : PySem.W.findIn K (.ref C_ak) "__getattribute__" = some (some (.builtin "BaseException.__getattribute__")))
    (gh_ak : PySem.W.findIn K (.ref C_ak) "__getattr__" = some none)
    (ca_ak : PySem.W.findIn K (.ref C_ak) "__class__" = some (some (.builtin "object.__class__")))
    (mk_ak : xaf K C_ak = true)
    (kc_q : PySem.W.keepIn K (.ref C_q) = true)
    (ov_q : xaw K C_q = true)
    (hd_q : PySem.W.hasDictIn K C_q = true)
    (sa_q : PySem.W.findIn K (.ref C_q) "__setattr__" = some (some (.builtin "object.__setattr__")))
    (ga_q : PySem.W.findIn K (.ref C_q) "__getattribute__" = some (some (.builtin "BaseException.__getattribute__")))
    (gh_q : PySem.W.findIn K (.ref C_q) "__getattr__" = some none)
    (ca_q : PySem.W.findIn K (.ref C_q) "__class__" = some (some (.builtin "object.__class__")))
    (mk_q : xaf K C_q = true)
    (kc_ao : PySem.W.keepIn K (.ref C_ao) = true)
    (ov_ao : xaw K C_ao = true)
    (hd_ao : PySem.W.hasDictIn K C_ao = true)
    (sa_ao : PySem.W.findIn K (.ref C_ao) "__setattr__" = some (some (.builtin "object.__setattr__")))
    (ga_ao : PySem.W.findIn K (.ref C_ao) "__getattribute__" = some (some (.builtin "BaseException.__getattribute__")))
    (gh_ao : PySem.W.findIn K (.ref C_ao) "__getattr__" = some none)
    (ca_ao : PySem.W.findIn K (.ref C_ao) "__class__" = some (some (.builtin "object.__class__")))
    (mk_ao : xaf K C_ao = true)
    (kc_r : PySem.W.keepIn K (.ref C_r) = true)
    (pg_r : PySem.W.plainGet K C_r Str.empty = true)
    (hd_r : PySem.W.hasDictIn K C_r = true)
    (po_r : PySem.W.plainOver K C_r = true)
    (sa_r : PySem.W.findIn K (.ref C_r) "__setattr__" = some (some (.builtin "object.__setattr__")))
    (mk_r : PySem.W.makesIn K C_r = true)
    (ca_r : PySem.W.findIn K (.ref C_r) "__class__" = some (some (.builtin "object.__class__")))
    (mo_r : PySem.W.mroIn K C_r (.type "object") = some true)
    (cg : PySem.W.specialIn K (.builtin "object.__class__") "__get__" = some (some (.builtin "getset_descriptor.__get__")))
    (ct : PySem.W.takesIn K (.builtin "object.__class__") = some true)
    (n_a1 : PySem.W.findIn K (.ref C_r) "height" = some none)
    (n_a3 : PySem.W.findIn K (.ref C_r) "width" = some none)
    (n_a0 : PySem.W.findIn K (.ref C_r) "placed" = some none)
    (n_a8 : PySem.W.findIn K (.ref C_r) "opened" = some none)
    (n_fw : PySem.W.findIn K (.ref C_o) "row" = some none)
    (n_fi : PySem.W.findIn K (.ref C_o) "side" = some none)
    (n_ee : PySem.W.findIn K (.ref C_o) "name" = some none)
    (n_fj : PySem.W.findIn K (.ref C_o) "high" = some none)
    (n_fx : PySem.W.findIn K (.ref C_o) "low" = some none)
    (n_e2 : PySem.W.findIn K (.ref C_o) "sides" = some none)
    (n_gd : PySem.W.findIn K (.ref C_o) "y" = some none)
    (n_ge : PySem.W.findIn K (.ref C_o) "x" = some none)
    (n_fy : PySem.W.findIn K (.ref C_l) "row" = some none)
    (n_fk : PySem.W.findIn K (.ref C_l) "side" = some none)
    (n_fl : PySem.W.findIn K (.ref C_l) "name" = some none)
    (n_fm : PySem.W.findIn K (.ref C_l) "high" = some none)
    (n_fz : PySem.W.findIn K (.ref C_l) "low" = some none)
    (n_e3 : PySem.W.findIn K (.ref C_l) "sides" = some none)
    (n_ft : PySem.W.findIn K (.ref C_l) "y" = some none)
    (n_fu : PySem.W.findIn K (.ref C_l) "x" = some none)
    (n_fn : PySem.W.findIn K (.ref C_g) "row" = some none)
    (n_e4 : PySem.W.findIn K (.ref C_g) "side" = some none)
    (n_e5 : PySem.W.findIn K (.ref C_g) "name" = some none)
    (n_e6 : PySem.W.findIn K (.ref C_g) "high" = some none)
    (n_fo : PySem.W.findIn K (.ref C_g) "low" = some none)
    (n_c2 : PySem.W.findIn K (.ref C_g) "sides" = some none)
    (n_f5 : PySem.W.findIn K (.ref C_g) "y" = some none)
    (n_f6 : PySem.W.findIn K (.ref C_g) "x" = some none)
    (n_e7 : PySem.W.findIn K (.ref C_d) "row" = some none)
    (n_es : PySem.W.findIn K (.ref C_d) "side" = some none)
    (n_et : PySem.W.findIn K (.ref C_d) "name" = some none)
    (n_c3 : PySem.W.findIn K (.ref C_d) "high" = some none)
    (n_du : PySem.W.findIn K (.ref C_d) "low" = some none)
    (n_ef : PySem.W.findIn K (.ref C_d) "sides" = some none)
    (n_f0 : PySem.W.findIn K (.ref C_d) "y" = some none)
    (n_f1 : PySem.W.findIn K (.ref C_d) "x" = some none)
    (n_e8 : PySem.W.findIn K (.ref C_f) "row" = some none)
    (n_eu : PySem.W.findIn K (.ref C_f) "side" = some none)
    (n_c4 : PySem.W.findIn K (.ref C_f) "name" = some none)
    (n_ev : PySem.W.findIn K (.ref C_f) "high" = some none)
    (n_e9 : PySem.W.findIn K (.ref C_f) "low" = some none)
    (n_eg : PySem.W.findIn K (.ref C_f) "sides" = some none)
    (n_f2 : PySem.W.findIn K (.ref C_f) "y" = some none)
    (n_f3 : PySem.W.findIn K (.ref C_f) "x" = some none)
    (n_fp : PySem.W.findIn K (.ref C_i) "row" = some none)
    (n_fa : PySem.W.findIn K (.ref C_i) "side" = some none)
    (n_fb : PySem.W.findIn K (.ref C_i) "name" = some none)
    (n_fc : PySem.W.findIn K (.ref C_i) "high" = some none)
    (n_fq : PySem.W.findIn K (.ref C_i) "low" = some none)
    (n_ew : PySem.W.findIn K (.ref C_i) "sides" = some none)
    (n_f7 : PySem.W.findIn K (.ref C_i) "y" = some none)
    (n_f8 : PySem.W.findIn K (.ref C_i) "x" = some none)
    (n_eh : PySem.W.findIn K (.ref C_a) "row" = some none)
    (n_d9 : PySem.W.findIn K (.ref C_a) "side" = some none)
    (n_bh : PySem.W.findIn K (.ref C_a) "name" = some none)
    (n_ea : PySem.W.findIn K (.ref C_a) "high" = some none)
    (n_ei : PySem.W.findIn K (.ref C_a) "low" = some none)
    (n_dv : PySem.W.findIn K (.ref C_a) "sides" = some none)
    (n_fd : PySem.W.findIn K (.ref C_a) "y" = some none)
    (n_fe : PySem.W.findIn K (.ref C_a) "x" = some none)
    (n_fr : PySem.W.findIn K (.ref C_j) "row" = some none)
    (n_ff : PySem.W.findIn K (.ref C_j) "side" = some none)
    (n_dw : PySem.W.findIn K (.ref C_j) "name" = some none)
    (n_fg : PySem.W.findIn K (.ref C_j) "high" = some none)
    (n_fs : PySem.W.findIn K (.ref C_j) "low" = some none)
    (n_ex : PySem.W.findIn K (.ref C_j) "sides" = some none)
    (n_f9 : PySem.W.findIn K (.ref C_j) "y" = some none)
    (n_ga : PySem.W.findIn K (.ref C_j) "x" = some none)
    (n_eq : PySem.W.nsIn K mainGlobals "ValueError" = some none)
    (n_bool : PySem.W.nsIn K mainGlobals "bool" = some none)
    (n_int : PySem.W.nsIn K mainGlobals "int" = some none)
    (n_isinstance : PySem.W.nsIn K mainGlobals "isinstance" = some none)
    (n_len : PySem.W.nsIn K mainGlobals "len" = some none)
    (n_list : PySem.W.nsIn K mainGlobals "list" = some none)
    (n_max : PySem.W.nsIn K mainGlobals "max" = some none)
    (n_min : PySem.W.nsIn K mainGlobals "min" = some none)
    (n_range : PySem.W.nsIn K mainGlobals "range" = some none)
    (n_sorted : PySem.W.nsIn K mainGlobals "sorted" = some none)
    (n_str : PySem.W.nsIn K mainGlobals "str" = some none)
    (n_tuple : PySem.W.nsIn K mainGlobals "tuple" = some none)
    (kit_dx : PySem.W.kitOne K (.ref C_o) (.ref C_o) = some true)
    (kit_dy : PySem.W.kitOne K (.ref C_o) (.ref C_l) = some false)
    (kit_c6 : PySem.W.kitOne K (.ref C_o) (.ref C_g) = some false)
    (kit_cb : PySem.W.kitOne K (.ref C_o) (.ref C_d) = some false)
    (kit_cc : PySem.W.kitOne K (.ref C_o) (.ref C_f) = some false)
    (kit_c7 : PySem.W.kitOne K (.ref C_o) (.ref C_i) = some false)
    (kit_bj : PySem.W.kitOne K (.ref C_o) (.ref C_a) = some false)
    (kit_c8 : PySem.W.kitOne K (.ref C_o) (.ref C_j) = some false)
    (kit_c9 : PySem.W.kitOne K (.ref C_o) (.ref C_av) = some false)
    (kit_dz : PySem.W.kitOne K (.ref C_o) (.ref C_ax) = some false)
    (kit_ej : PySem.W.kitOne K (.ref C_o) (.ref C_az) = some false)
    (kit_da : PySem.W.kitOne K (.ref C_o) (.ref C_aw) = some false)
    (kit_d0 : PySem.W.kitOne K (.ref C_o) (.ref C_ay) = some false)
    (kany_o : PySem.W.kitAny K (.ref C_o) [.ref C_k, .ref C_an, .ref C_ah, .ref C_ai, .ref C_aj, .ref C_ak, .ref C_q, .ref C_ao] = some false)
    (kitv_o : PySem.W.kitOne K (.ref C_o) (.type "ValueError") = some true)
    (mro_o : PySem.W.mroIn K C_o (.ref C_ap) = some true)
    (kit_d1 : PySem.W.kitOne K (.ref C_l) (.ref C_o) = some false)
    (kit_d2 : PySem.W.kitOne K (.ref C_l) (.ref C_l) = some true)
    (kit_db : PySem.W.kitOne K (.ref C_l) (.ref C_g) = some false)
    (kit_cd : PySem.W.kitOne K (.ref C_l) (.ref C_d) = some false)
    (kit_ce : PySem.W.kitOne K (.ref C_l) (.ref C_f) = some false)
    (kit_dc : PySem.W.kitOne K (.ref C_l) (.ref C_i) = some false)
    (kit_bk : PySem.W.kitOne K (.ref C_l) (.ref C_a) = some false)
    (kit_dd : PySem.W.kitOne K (.ref C_l) (.ref C_j) = some false)
    (kit_de : PySem.W.kitOne K (.ref C_l) (.ref C_av) = some false)
    (kit_d3 : PySem.W.kitOne K (.ref C_l) (.ref C_ax) = some false)
    (kit_ek : PySem.W.kitOne K (.ref C_l) (.ref C_az) = some false)
    (kit_df : PySem.W.kitOne K (.ref C_l) (.ref C_aw) = some false)
    (kit_d4 : PySem.W.kitOne K (.ref C_l) (.ref C_ay) = some false)
    (kany_l : PySem.W.kitAny K (.ref C_l) [.ref C_k, .ref C_an, .ref C_ah, .ref C_ai, .ref C_aj, .ref C_ak, .ref C_q, .ref C_ao] = some false)
    (kitv_l : PySem.W.kitOne K (.ref C_l) (.type "ValueError") = some true)
    (mro_l : PySem.W.mroIn K C_l (.ref C_ap) = some true)
    (kit_dg : PySem.W.kitOne K (.ref C_g) (.ref C_o) = some false)
    (kit_dh : PySem.W.kitOne K (.ref C_g) (.ref C_l) = some false)
    (kit_cf : PySem.W.kitOne K (.ref C_g) (.ref C_g) = some true)
    (kit_bt : PySem.W.kitOne K (.ref C_g) (.ref C_d) = some false)
    (kit_bu : PySem.W.kitOne K (.ref C_g) (.ref C_f) = some false)
    (kit_cg : PySem.W.kitOne K (.ref C_g) (.ref C_i) = some false)
    (kit_a9 : PySem.W.kitOne K (.ref C_g) (.ref C_a) = some false)
    (kit_ch : PySem.W.kitOne K (.ref C_g) (.ref C_j) = some false)
    (kit_ci : PySem.W.kitOne K (.ref C_g) (.ref C_av) = some false)
    (kit_di : PySem.W.kitOne K (.ref C_g) (.ref C_ax) = some false)
    (kit_d5 : PySem.W.kitOne K (.ref C_g) (.ref C_az) = some false)
    (kit_cj : PySem.W.kitOne K (.ref C_g) (.ref C_aw) = some false)
    (kit_dj : PySem.W.kitOne K (.ref C_g) (.ref C_ay) = some false)
    (kany_g : PySem.W.kitAny K (.ref C_g) [.ref C_k, .ref C_an, .ref C_ah, .ref C_ai, .ref C_aj, .ref C_ak, .ref C_q, .ref C_ao] = some false)
    (kitv_g : PySem.W.kitOne K (.ref C_g) (.type "ValueError") = some true)
    (mro_g : PySem.W.mroIn K C_g (.ref C_ap) = some true)
    (kit_ck : PySem.W.kitOne K (.ref C_d) (.ref C_o) = some false)
    (kit_cl : PySem.W.kitOne K (.ref C_d) (.ref C_l) = some false)
    (kit_bv : PySem.W.kitOne K (.ref C_d) (.ref C_g) = some false)
    (kit_bl : PySem.W.kitOne K (.ref C_d) (.ref C_d) = some true)
    (kit_bm : PySem.W.kitOne K (.ref C_d) (.ref C_f) = some false)
    (kit_bw : PySem.W.kitOne K (.ref C_d) (.ref C_i) = some false)
    (kit_a4 : PySem.W.kitOne K (.ref C_d) (.ref C_a) = some false)
    (kit_bx : PySem.W.kitOne K (.ref C_d) (.ref C_j) = some false)
    (kit_by : PySem.W.kitOne K (.ref C_d) (.ref C_av) = some false)
    (kit_cm : PySem.W.kitOne K (.ref C_d) (.ref C_ax) = some false)
    (kit_dk : PySem.W.kitOne K (.ref C_d) (.ref C_az) = some false)
    (kit_bz : PySem.W.kitOne K (.ref C_d) (.ref C_aw) = some false)
    (kit_cn : PySem.W.kitOne K (.ref C_d) (.ref C_ay) = some false)
    (kany_d : PySem.W.kitAny K (.ref C_d) [.ref C_k, .ref C_an, .ref C_ah, .ref C_ai, .ref C_aj, .ref C_ak, .ref C_q, .ref C_ao] = some false)
    (kitv_d : PySem.W.kitOne K (.ref C_d) (.type "ValueError") = some true)
    (mro_d : PySem.W.mroIn K C_d (.ref C_ap) = some true)
    (kit_co : PySem.W.kitOne K (.ref C_f) (.ref C_o) = some false)
    (kit_cp : PySem.W.kitOne K (.ref C_f) (.ref C_l) = some false)
    (kit_b0 : PySem.W.kitOne K (.ref C_f) (.ref C_g) = some false)
    (kit_bn : PySem.W.kitOne K (.ref C_f) (.ref C_d) = some false)
    (kit_bo : PySem.W.kitOne K (.ref C_f) (.ref C_f) = some true)
    (kit_b1 : PySem.W.kitOne K (.ref C_f) (.ref C_i) = some false)
    (kit_a5 : PySem.W.kitOne K (.ref C_f) (.ref C_a) = some false)
    (kit_b2 : PySem.W.kitOne K (.ref C_f) (.ref C_j) = some false)
    (kit_b3 : PySem.W.kitOne K (.ref C_f) (.ref C_av) = some false)
    (kit_cq : PySem.W.kitOne K (.ref C_f) (.ref C_ax) = some false)
    (kit_dl : PySem.W.kitOne K (.ref C_f) (.ref C_az) = some false)
    (kit_b4 : PySem.W.kitOne K (.ref C_f) (.ref C_aw) = some false)
    (kit_cr : PySem.W.kitOne K (.ref C_f) (.ref C_ay) = some false)
    (kany_f : PySem.W.kitAny K (.ref C_f) [.ref C_k, .ref C_an, .ref C_ah, .ref C_ai, .ref C_aj, .ref C_ak, .ref C_q, .ref C_ao] = some false)
    (kitv_f : PySem.W.kitOne K (.ref C_f) (.type "ValueError") = some true)
    (mro_f : PySem.W.mroIn K C_f (.ref C_ap) = some true)
    (kit_dm : PySem.W.kitOne K (.ref C_i) (.ref C_o) = some false)
    (kit_dn : PySem.W.kitOne K (.ref C_i) (.ref C_l) = some false)
    (kit_cs : PySem.W.kitOne K (.ref C_i) (.ref C_g) = some false)
    (kit_b5 : PySem.W.kitOne K (.ref C_i) (.ref C_d) = some false)
    (kit_b6 : PySem.W.kitOne K (.ref C_i) (.ref C_f) = some false)
    (kit_ct : PySem.W.kitOne K (.ref C_i) (.ref C_i) = some true)
    (kit_ba : PySem.W.kitOne K (.ref C_i) (.ref C_a) = some false)
    (kit_cu : PySem.W.kitOne K (.ref C_i) (.ref C_j) = some false)
    (kit_cv : PySem.W.kitOne K (.ref C_i) (.ref C_av) = some false)
    (kit_do : PySem.W.kitOne K (.ref C_i) (.ref C_ax) = some false)
    (kit_d6 : PySem.W.kitOne K (.ref C_i) (.ref C_az) = some false)
    (kit_cw : PySem.W.kitOne K (.ref C_i) (.ref C_aw) = some false)
    (kit_dp : PySem.W.kitOne K (.ref C_i) (.ref C_ay) = some false)
    (kany_i : PySem.W.kitAny K (.ref C_i) [.ref C_k, .ref C_an, .ref C_ah, .ref C_ai, .ref C_aj, .ref C_ak, .ref C_q, .ref C_ao] = some false)
    (kitv_i : PySem.W.kitOne K (.ref C_i) (.type "ValueError") = some true)
    (mro_i : PySem.W.mroIn K C_i (.ref C_ap) = some true)
    (ns_i : xno0 K C_i = true)
    (ns_fv : PySem.W.keepIn K (.ref C_i) = true)
    (kit_bp : PySem.W.kitOne K (.ref C_a) (.ref C_o) = some false)
    (kit_bq : PySem.W.kitOne K (.ref C_a) (.ref C_l) = some false)
    (kit_bb : PySem.W.kitOne K (.ref C_a) (.ref C_g) = some false)
    (kit_a6 : PySem.W.kitOne K (.ref C_a) (.ref C_d) = some false)
    (kit_a7 : PySem.W.kitOne K (.ref C_a) (.ref C_f) = some false)
    (kit_bc : PySem.W.kitOne K (.ref C_a) (.ref C_i) = some false)
    (kit_a2 : PySem.W.kitOne K (.ref C_a) (.ref C_a) = some true)
    (kit_bd : PySem.W.kitOne K (.ref C_a) (.ref C_j) = some false)
    (kit_be : PySem.W.kitOne K (.ref C_a) (.ref C_av) = some false)
    (kit_br : PySem.W.kitOne K (.ref C_a) (.ref C_ax) = some false)
    (kit_b7 : PySem.W.kitOne K (.ref C_a) (.ref C_az) = some false)
    (kit_bf : PySem.W.kitOne K (.ref C_a) (.ref C_aw) = some false)
    (kit_bs : PySem.W.kitOne K (.ref C_a) (.ref C_ay) = some false)
    (kany_a : PySem.W.kitAny K (.ref C_a) [.ref C_k, .ref C_an, .ref C_ah, .ref C_ai, .ref C_aj, .ref C_ak, .ref C_q, .ref C_ao] = some false)
    (kitv_a : PySem.W.kitOne K (.ref C_a) (.type "ValueError") = some true)
    (mro_a : PySem.W.mroIn K C_a (.ref C_ap) = some true)
    (kit_dq : PySem.W.kitOne K (.ref C_j) (.ref C_o) = some false)
    (kit_dr : PySem.W.kitOne K (.ref C_j) (.ref C_l) = some false)
    (kit_cx : PySem.W.kitOne K (.ref C_j) (.ref C_g) = some false)
    (kit_b8 : PySem.W.kitOne K (.ref C_j) (.ref C_d) = some false)
    (kit_b9 : PySem.W.kitOne K (.ref C_j) (.ref C_f) = some false)
    (kit_cy : PySem.W.kitOne K (.ref C_j) (.ref C_i) = some false)
    (kit_bg : PySem.W.kitOne K (.ref C_j) (.ref C_a) = some false)
    (kit_cz : PySem.W.kitOne K (.ref C_j) (.ref C_j) = some true)
    (kit_c0 : PySem.W.kitOne K (.ref C_j) (.ref C_av) = some false)
    (kit_ds : PySem.W.kitOne K (.ref C_j) (.ref C_ax) = some false)
    (kit_d7 : PySem.W.kitOne K (.ref C_j) (.ref C_az) = some false)
    (kit_c1 : PySem.W.kitOne K (.ref C_j) (.ref C_aw) = some false)
    (kit_dt : PySem.W.kitOne K (.ref C_j) (.ref C_ay) = some false)
    (kany_j : PySem.W.kitAny K (.ref C_j) [.ref C_k, .ref C_an, .ref C_ah, .ref C_ai, .ref C_aj, .ref C_ak, .ref C_q, .ref C_ao] = some false)
    (kitv_j : PySem.W.kitOne K (.ref C_j) (.type "ValueError") = some true)
    (mro_j : PySem.W.mroIn K C_j (.ref C_ap) = some true)
    (kit_ey : PySem.W.kitOne K (.ref C_k) (.ref C_o) = some false)
    (kit_ez : PySem.W.kitOne K (.ref C_k) (.ref C_l) = some false)
    (kit_el : PySem.W.kitOne K (.ref C_k) (.ref C_g) = some false)
    (kit_eb : PySem.W.kitOne K (.ref C_k) (.ref C_d) = some false)
    (kit_ec : PySem.W.kitOne K (.ref C_k) (.ref C_f) = some false)
    (kit_em : PySem.W.kitOne K (.ref C_k) (.ref C_i) = some false)
    (kit_c5 : PySem.W.kitOne K (.ref C_k) (.ref C_a) = some false)
    (kit_en : PySem.W.kitOne K (.ref C_k) (.ref C_j) = some false)
    (kit_eo : PySem.W.kitOne K (.ref C_k) (.ref C_av) = some false)
    (kit_e0 : PySem.W.kitOne K (.ref C_k) (.ref C_ax) = some false)
    (kit_fh : PySem.W.kitOne K (.ref C_k) (.ref C_az) = some false)
    (kit_ep : PySem.W.kitOne K (.ref C_k) (.ref C_aw) = some false)
    (kit_e1 : PySem.W.kitOne K (.ref C_k) (.ref C_ay) = some false)
    (kitv_k : PySem.W.kitOne K (.ref C_k) (.type "ValueError") = some true)
    (mro_k : PySem.W.mroIn K C_k (.ref C_ap) = some true)
    (ns_k : xno0 K C_k = true)
    (ns_f4 : PySem.W.keepIn K (.ref C_k) = true)
    (kit_d8 : PySem.W.kitOne K (.ref C_k) (.ref C_k) = some true)
    (kany2_k : PySem.W.kitAny K (.ref C_k) [.ref C_l, .ref C_az, .ref C_o, .ref C_ax, .ref C_i, .ref C_d] = some false)
    (v_ed : PySem.W.nsIn K mainGlobals "MOST_ROWS" = some (some (.int 16 tkc_ed)))
    (v_bi : PySem.W.nsIn K mainGlobals "MOST_COLUMNS" = some (some (.int 30 tkc_bi)))
    (v_ca : PySem.W.nsIn K mainGlobals "MOST_POINTS" = some (some (.int 12 tkc_ca)))
    (g_as : PySem.W.nsIn K mainGlobals "MIRRORED_SIDES" = some (some (.ref D_as)))
    (l_as : K.lookup D_as = some ⟨.type "dict", none, .dict #[⟨hashStr w "left", .str "left" ta0_as, .str "right" tb0_as⟩, ⟨hashStr w "right", .str "right" ta1_as, .str "left" tb1_as⟩, ⟨hashStr w "both", .str "both" ta2_as, .str "both" tb2_as⟩] ep_as, #[]⟩)
    (ns_as : (D_as == sysModules) = false)
    : ∃ t, Txt w K mg t :=
  ⟨⟨f_ac, _, f_ad, _, f_z, _, f_w, _, f_x, _, f_m, _, f_aa, _, f_t, _, f_aq, _, f_v, _, f_e, _, T_e, f_h, _, f_s, _, f_c, _, f_b, _, f_af, _, f_u, _, f_al, _, f_n, _, f_p, _, f_at, _, f_am, _, f_ar, _, f_au, _, f_ag, _, f_ae, _, f_y, _, f_ab, _, f_law, _, C_ap, C_k, C_o, C_l, C_g, C_d, C_f, C_av, C_i, C_a, C_j, C_ax, C_az, C_aw, C_ay, C_an, C_ah, C_ai, C_aj, C_ak, C_q, C_ao, C_r, D_as⟩, {
    g_ap := PySem.W.mg_of X G g_ap
    g_k := PySem.W.mg_of X G g_k
    g_o := PySem.W.mg_of X G g_o
    g_l := PySem.W.mg_of X G g_l
    g_g := PySem.W.mg_of X G g_g
    g_d := PySem.W.mg_of X G g_d
    g_f := PySem.W.mg_of X G g_f
    g_av := PySem.W.mg_of X G g_av
    g_i := PySem.W.mg_of X G g_i
    g_a := PySem.W.mg_of X G g_a
    g_j := PySem.W.mg_of X G g_j
    g_ax := PySem.W.mg_of X G g_ax
    g_az := PySem.W.mg_of X G g_az
    g_aw := PySem.W.mg_of X G g_aw
    g_ay := PySem.W.mg_of X G g_ay
    g_an := PySem.W.mg_of X G g_an
    g_ah := PySem.W.mg_of X G g_ah
    g_ai := PySem.W.mg_of X G g_ai
    g_aj := PySem.W.mg_of X G g_aj
    g_ak := PySem.W.mg_of X G g_ak
    g_q := PySem.W.mg_of X G g_q
    g_ao := PySem.W.mg_of X G g_ao
    g_r := PySem.W.mg_of X G g_r
    F_ac := xz (st := s_ac) l_ac c_ac k_ac
    b_ac := (xz (st := s_ac) l_ac c_ac k_ac).binds (ps := ["self", "name"]) fun _ _ _ _ _ _ us hl => match us, hl with | [_, _], _ => rfl
    F_ad := xz (st := s_ad) l_ad c_ad k_ad
    b_ad := (xz (st := s_ad) l_ad c_ad k_ad).binds (ps := ["self", "x", "y"]) fun _ _ _ _ _ _ us hl => match us, hl with | [_, _, _], _ => rfl
    F_z := xz (st := s_z) l_z c_z k_z
    b_z := (xz (st := s_z) l_z c_z k_z).binds (ps := ["self", "sides"]) fun _ _ _ _ _ _ us hl => match us, hl with | [_, _], _ => rfl
    F_w := xz (st := s_w) l_w c_w k_w
    b_w := (xz (st := s_w) l_w c_w k_w).binds (ps := ["self", "low", "high"]) fun _ _ _ _ _ _ us hl => match us, hl with | [_, _, _], _ => rfl
    F_x := xz (st := s_x) l_x c_x k_x
    b_x := (xz (st := s_x) l_x c_x k_x).binds (ps := ["self", "name"]) fun _ _ _ _ _ _ us hl => match us, hl with | [_, _], _ => rfl
    F_m := xz (st := s_m) l_m c_m k_m
    b_m := (xz (st := s_m) l_m c_m k_m).binds (ps := ["self", "name"]) fun _ _ _ _ _ _ us hl => match us, hl with | [_, _], _ => rfl
    F_aa := xz (st := s_aa) l_aa c_aa k_aa
    b_aa := (xz (st := s_aa) l_aa c_aa k_aa).binds (ps := ["self", "name"]) fun _ _ _ _ _ _ us hl => match us, hl with | [_, _], _ => rfl
    g_t := PySem.W.mg_of X G a_t
    F_t := xz (st := s_t) l_t c_t k_t
    b_t := (xz (st := s_t) l_t c_t k_t).binds (ps := ["thing", "low", "high"]) fun _ _ _ _ _ _ us hl => match us, hl with | [_, _, _], _ => rfl
    g_aq := PySem.W.mg_of X G a_aq
    F_aq := xz (st := s_aq) l_aq c_aq k_aq
    b_aq := (xz (st := s_aq) l_aq c_aq k_aq).binds (ps := ["thing"]) fun _ _ _ _ _ _ us hl => match us, hl with | [_], _ => rfl
    F_v := xz (st := s_v) l_v c_v k_v
    b_v := (xz (st := s_v) l_v c_v k_v).binds (ps := ["self", "width", "height"]) fun _ _ _ _ _ _ us hl => match us, hl with | [_, _, _], _ => rfl
    F_e := (xdc (st := s_e) l_e c_e k_e)
    b_er := ⟨_, .cons (⟨_, rfl⟩) (.cons (⟨_, rfl⟩) (.cons (rfl) (.nil))), (xdc (st := s_e) l_e c_e k_e).binds t_e rfl 4 rfl fun _ _ _ _ _ _ us hl => match us, hl with | [_, _, _, _], _ => ⟨_, rfl, rfl⟩⟩
    b_gb := ⟨_, .cons (⟨_, rfl⟩) (.cons (rfl) (.nil)), (xdc (st := s_e) l_e c_e k_e).binds t_e rfl 5 rfl fun _ _ _ _ _ _ us hl => match us, hl with | [_, _, _, _, _], _ => ⟨_, rfl, rfl⟩⟩
    b_gc := ⟨_, .cons (rfl) (.nil), (xdc (st := s_e) l_e c_e k_e).binds t_e rfl 6 rfl fun _ _ _ _ _ _ us hl => match us, hl with | [_, _, _, _, _, _], _ => ⟨_, rfl, rfl⟩⟩
    b_e := (xdc (st := s_e) l_e c_e k_e).binds t_e rfl 7 rfl fun _ _ _ _ _ _ us hl => match us, hl with | [_, _, _, _, _, _, _], _ => ⟨_, rfl, rfl⟩
    F_h := xz (st := s_h) l_h c_h k_h
    b_h := (xz (st := s_h) l_h c_h k_h).binds (ps := ["self"]) fun _ _ _ _ _ _ us hl => match us, hl with | [_], _ => rfl
    F_s := xz (st := s_s) l_s c_s k_s
    b_s := (xz (st := s_s) l_s c_s k_s).binds (ps := ["self"]) fun _ _ _ _ _ _ us hl => match us, hl with | [_], _ => rfl
    F_c := xz (st := s_c) l_c c_c k_c
    b_c := (xz (st := s_c) l_c c_c k_c).binds (ps := ["self", "x", "y"]) fun _ _ _ _ _ _ us hl => match us, hl with | [_, _, _], _ => rfl
    F_b := xz (st := s_b) l_b c_b k_b
    b_b := (xz (st := s_b) l_b c_b k_b).binds (ps := ["self", "name", "x", "y"]) fun _ _ _ _ _ _ us hl => match us, hl with | [_, _, _, _], _ => rfl
    g_af := PySem.W.mg_of X G a_af
    F_af := xz (st := s_af) l_af c_af k_af
    b_af := (xz (st := s_af) l_af c_af k_af).binds (ps := ["_law_script", "_law_k"]) fun _ _ _ _ _ _ us hl => match us, hl with | [_, _], _ => rfl
    g_u := PySem.W.mg_of X G a_u
    F_u := xz (st := s_u) l_u c_u k_u
    b_u := (xz (st := s_u) l_u c_u k_u).binds (ps := ["_law_cell_here", "_law_k"]) fun _ _ _ _ _ _ us hl => match us, hl with | [_, _], _ => rfl
    g_al := PySem.W.mg_of X G a_al
    F_al := xz (st := s_al) l_al c_al k_al
    b_al := (xz (st := s_al) l_al c_al k_al).binds (ps := ["_law_e"]) fun _ _ _ _ _ _ us hl => match us, hl with | [_], _ => rfl
    g_n := PySem.W.mg_of X G a_n
    F_n := xz (st := s_n) l_n c_n k_n
    b_n := (xz (st := s_n) l_n c_n k_n).binds (ps := ["_law_e"]) fun _ _ _ _ _ _ us hl => match us, hl with | [_], _ => rfl
    g_p := PySem.W.mg_of X G a_p
    F_p := xz (st := s_p) l_p c_p k_p
    b_p := (xz (st := s_p) l_p c_p k_p).binds (ps := ["_law_thing", "_law_low", "_law_high"]) fun _ _ _ _ _ _ us hl => match us, hl with | [_, _, _], _ => rfl
    g_at := PySem.W.mg_of X G a_at
    F_at := xz (st := s_at) l_at c_at k_at
    b_at := (xz (st := s_at) l_at c_at k_at).binds (ps := ["_law_number", "_law_size"]) fun _ _ _ _ _ _ us hl => match us, hl with | [_, _], _ => rfl
    g_am := PySem.W.mg_of X G a_am
    F_am := xz (st := s_am) l_am c_am k_am
    b_am := (xz (st := s_am) l_am c_am k_am).binds (ps := ["_law_cell_here", "_law_k", "_law_size"]) fun _ _ _ _ _ _ us hl => match us, hl with | [_, _, _], _ => rfl
    g_ar := PySem.W.mg_of X G a_ar
    F_ar := xz (st := s_ar) l_ar c_ar k_ar
    b_ar := (xz (st := s_ar) l_ar c_ar k_ar).binds (ps := ["_law_size", "_law_rows", "_law_args_here"]) fun _ _ _ _ _ _ us hl => match us, hl with | [_, _, _], _ => rfl
    g_au := PySem.W.mg_of X G a_au
    F_au := xz (st := s_au) l_au c_au k_au
    b_au := (xz (st := s_au) l_au c_au k_au).binds (ps := ["_law_picture", "_law_args_here", "_law_many"]) fun _ _ _ _ _ _ us hl => match us, hl with | [_, _, _], _ => rfl
    g_ag := PySem.W.mg_of X G a_ag
    F_ag := xz (st := s_ag) l_ag c_ag k_ag
    b_ag := (xz (st := s_ag) l_ag c_ag k_ag).binds (ps := ["_law_picture", "_law_size", "_law_rows", "_law_args_here", "_law_many"]) fun _ _ _ _ _ _ us hl => match us, hl with | [_, _, _, _, _], _ => rfl
    g_ae := PySem.W.mg_of X G a_ae
    F_ae := xz (st := s_ae) l_ae c_ae k_ae
    b_ae := (xz (st := s_ae) l_ae c_ae k_ae).binds (ps := ["_law_picture", "_law_size", "_law_rows"]) fun _ _ _ _ _ _ us hl => match us, hl with | [_, _, _], _ => rfl
    g_y := PySem.W.mg_of X G a_y
    F_y := xz (st := s_y) l_y c_y k_y
    b_y := (xz (st := s_y) l_y c_y k_y).binds (ps := ["_law_number"]) fun _ _ _ _ _ _ us hl => match us, hl with | [_], _ => rfl
    g_ab := PySem.W.mg_of X G a_ab
    F_ab := xz (st := s_ab) l_ab c_ab k_ab
    b_ab := (xz (st := s_ab) l_ab c_ab k_ab).binds (ps := ["_law_picture", "_law_cell_here"]) fun _ _ _ _ _ _ us hl => match us, hl with | [_, _], _ => rfl
    g_law := PySem.W.mg_of X G a_law
    F_law := xz (st := xc6) l_law c_law k_law
    b_law := (xz (st := xc6) l_law c_law k_law).binds (ps := ["_law_script"]) fun _ _ _ _ _ _ us hl => match us, hl with | [_], _ => rfl
    x_ap := ⟨ov_ap, hd_ap, sa_ap, ga_ap, gh_ap, ca_ap, cg, ct⟩
    mk_ap := mk_ap
    x_k := ⟨ov_k, hd_k, sa_k, ga_k, gh_k, ca_k, cg, ct⟩
    mk_k := mk_k
    x_o := ⟨ov_o, hd_o, sa_o, ga_o, gh_o, ca_o, cg, ct⟩
    mk_o := mk_o
    k_o := ⟨mk_o, a_ac, i_ac, kc_o⟩
    x_l := ⟨ov_l, hd_l, sa_l, ga_l, gh_l, ca_l, cg, ct⟩
    mk_l := mk_l
    k_l := ⟨mk_l, a_ad, i_ad, kc_l⟩
    x_g := ⟨ov_g, hd_g, sa_g, ga_g, gh_g, ca_g, cg, ct⟩
    mk_g := mk_g
    k_g := ⟨mk_g, a_z, i_z, kc_g⟩
    x_d := ⟨ov_d, hd_d, sa_d, ga_d, gh_d, ca_d, cg, ct⟩
    mk_d := mk_d
    k_d := ⟨mk_d, a_w, i_w, kc_d⟩
    x_f := ⟨ov_f, hd_f, sa_f, ga_f, gh_f, ca_f, cg, ct⟩
    mk_f := mk_f
    k_f := ⟨mk_f, a_x, i_x, kc_f⟩
    x_av := ⟨ov_av, hd_av, sa_av, ga_av, gh_av, ca_av, cg, ct⟩
    mk_av := mk_av
    x_i := ⟨ov_i, hd_i, sa_i, ga_i, gh_i, ca_i, cg, ct⟩
    mk_i := mk_i
    x_a := ⟨ov_a, hd_a, sa_a, ga_a, gh_a, ca_a, cg, ct⟩
    mk_a := mk_a
    k_a := ⟨mk_a, a_m, i_m, kc_a⟩
    x_j := ⟨ov_j, hd_j, sa_j, ga_j, gh_j, ca_j, cg, ct⟩
    mk_j := mk_j
    k_j := ⟨mk_j, a_aa, i_aa, kc_j⟩
    x_ax := ⟨ov_ax, hd_ax, sa_ax, ga_ax, gh_ax, ca_ax, cg, ct⟩
    mk_ax := mk_ax
    x_az := ⟨ov_az, hd_az, sa_az, ga_az, gh_az, ca_az, cg, ct⟩
    mk_az := mk_az
    x_aw := ⟨ov_aw, hd_aw, sa_aw, ga_aw, gh_aw, ca_aw, cg, ct⟩
    mk_aw := mk_aw
    x_ay := ⟨ov_ay, hd_ay, sa_ay, ga_ay, gh_ay, ca_ay, cg, ct⟩
    mk_ay := mk_ay
    x_an := ⟨ov_an, hd_an, sa_an, ga_an, gh_an, ca_an, cg, ct⟩
    mk_an := mk_an
    x_ah := ⟨ov_ah, hd_ah, sa_ah, ga_ah, gh_ah, ca_ah, cg, ct⟩
    mk_ah := mk_ah
    x_ai := ⟨ov_ai, hd_ai, sa_ai, ga_ai, gh_ai, ca_ai, cg, ct⟩
    mk_ai := mk_ai
    x_aj := ⟨ov_aj, hd_aj, sa_aj, ga_aj, gh_aj, ca_aj, cg, ct⟩
    mk_aj := mk_aj
    x_ak := ⟨ov_ak, hd_ak, sa_ak, ga_ak, gh_ak, ca_ak, cg, ct⟩
    mk_ak := mk_ak
    x_q := ⟨ov_q, hd_q, sa_q, ga_q, gh_q, ca_q, cg, ct⟩
    mk_q := mk_q
    x_ao := ⟨ov_ao, hd_ao, sa_ao, ga_ao, gh_ao, ca_ao, cg, ct⟩
    mk_ao := mk_ao
    c_r := ⟨pg_r, hd_r, po_r, sa_r⟩
    ca_r := ca_r
    mo_r := mo_r
    k_r := ⟨mk_r, a_v, i_v, kc_r⟩
    m_e := ⟨a_e, i_e, k_e⟩
    m_h := ⟨a_h, i_h, k_h⟩
    m_s := ⟨a_s, i_s, k_s⟩
    m_c := ⟨a_c, i_c, k_c⟩
    m_b := ⟨a_b, i_b, k_b⟩
    cg := cg
    ct := ct
    n_a1 := n_a1
    n_a3 := n_a3
    n_a0 := n_a0
    n_a8 := n_a8
    n_fw := n_fw
    n_fi := n_fi
    n_ee := n_ee
    n_fj := n_fj
    n_fx := n_fx
    n_e2 := n_e2
    n_gd := n_gd
    n_ge := n_ge
    n_fy := n_fy
    n_fk := n_fk
    n_fl := n_fl
    n_fm := n_fm
    n_fz := n_fz
    n_e3 := n_e3
    n_ft := n_ft
    n_fu := n_fu
    n_fn := n_fn
    n_e4 := n_e4
    n_e5 := n_e5
    n_e6 := n_e6
    n_fo := n_fo
    n_c2 := n_c2
    n_f5 := n_f5
    n_f6 := n_f6
    n_e7 := n_e7
    n_es := n_es
    n_et := n_et
    n_c3 := n_c3
    n_du := n_du
    n_ef := n_ef
    n_f0 := n_f0
    n_f1 := n_f1
    n_e8 := n_e8
    n_eu := n_eu
    n_c4 := n_c4
    n_ev := n_ev
    n_e9 := n_e9
    n_eg := n_eg
    n_f2 := n_f2
    n_f3 := n_f3
    n_fp := n_fp
    n_fa := n_fa
    n_fb := n_fb
    n_fc := n_fc
    n_fq := n_fq
    n_ew := n_ew
    n_f7 := n_f7
    n_f8 := n_f8
    n_eh := n_eh
    n_d9 := n_d9
    n_bh := n_bh
    n_ea := n_ea
    n_ei := n_ei
    n_dv := n_dv
    n_fd := n_fd
    n_fe := n_fe
    n_fr := n_fr
    n_ff := n_ff
    n_dw := n_dw
    n_fg := n_fg
    n_fs := n_fs
    n_ex := n_ex
    n_f9 := n_f9
    n_ga := n_ga
    n_eq := PySem.W.mg_none_of X G n_eq
    n_bool := PySem.W.mg_none_of X G n_bool
    n_int := PySem.W.mg_none_of X G n_int
    n_isinstance := PySem.W.mg_none_of X G n_isinstance
    n_len := PySem.W.mg_none_of X G n_len
    n_list := PySem.W.mg_none_of X G n_list
    n_max := PySem.W.mg_none_of X G n_max
    n_min := PySem.W.mg_none_of X G n_min
    n_range := PySem.W.mg_none_of X G n_range
    n_sorted := PySem.W.mg_none_of X G n_sorted
    n_str := PySem.W.mg_none_of X G n_str
    n_tuple := PySem.W.mg_none_of X G n_tuple
    kit_dx := kit_dx
    kit_dy := kit_dy
    kit_c6 := kit_c6
    kit_cb := kit_cb
    kit_cc := kit_cc
    kit_c7 := kit_c7
    kit_bj := kit_bj
    kit_c8 := kit_c8
    kit_c9 := kit_c9
    kit_dz := kit_dz
    kit_ej := kit_ej
    kit_da := kit_da
    kit_d0 := kit_d0
    kany_o := kany_o
    kitv_o := kitv_o
    mro_o := mro_o
    kit_d1 := kit_d1
    kit_d2 := kit_d2
    kit_db := kit_db
    kit_cd := kit_cd
    kit_ce := kit_ce
    kit_dc := kit_dc
    kit_bk := kit_bk
    kit_dd := kit_dd
    kit_de := kit_de
    kit_d3 := kit_d3
    kit_ek := kit_ek
    kit_df := kit_df
    kit_d4 := kit_d4
    kany_l := kany_l
    kitv_l := kitv_l
    mro_l := mro_l
    kit_dg := kit_dg
    kit_dh := kit_dh
    kit_cf := kit_cf
    kit_bt := kit_bt
    kit_bu := kit_bu
    kit_cg := kit_cg
    kit_a9 := kit_a9
    kit_ch := kit_ch
    kit_ci := kit_ci
    kit_di := kit_di
    kit_d5 := kit_d5
    kit_cj := kit_cj
    kit_dj := kit_dj
    kany_g := kany_g
    kitv_g := kitv_g
    mro_g := mro_g
    kit_ck := kit_ck
    kit_cl := kit_cl
    kit_bv := kit_bv
    kit_bl := kit_bl
    kit_bm := kit_bm
    kit_bw := kit_bw
    kit_a4 := kit_a4
    kit_bx := kit_bx
    kit_by := kit_by
    kit_cm := kit_cm
    kit_dk := kit_dk
    kit_bz := kit_bz
    kit_cn := kit_cn
    kany_d := kany_d
    kitv_d := kitv_d
    mro_d := mro_d
    kit_co := kit_co
    kit_cp := kit_cp
    kit_b0 := kit_b0
    kit_bn := kit_bn
    kit_bo := kit_bo
    kit_b1 := kit_b1
    kit_a5 := kit_a5
    kit_b2 := kit_b2
    kit_b3 := kit_b3
    kit_cq := kit_cq
    kit_dl := kit_dl
    kit_b4 := kit_b4
    kit_cr := kit_cr
    kany_f := kany_f
    kitv_f := kitv_f
    mro_f := mro_f
    kit_dm := kit_dm
    kit_dn := kit_dn
    kit_cs := kit_cs
    kit_b5 := kit_b5
    kit_b6 := kit_b6
    kit_ct := kit_ct
    kit_ba := kit_ba
    kit_cu := kit_cu
    kit_cv := kit_cv
    kit_do := kit_do
    kit_d6 := kit_d6
    kit_cw := kit_cw
    kit_dp := kit_dp
    kany_i := kany_i
    kitv_i := kitv_i
    mro_i := mro_i
    ns_i := ns_i
    ns_fv := ns_fv
    kit_bp := kit_bp
    kit_bq := kit_bq
    kit_bb := kit_bb
    kit_a6 := kit_a6
    kit_a7 := kit_a7
    kit_bc := kit_bc
    kit_a2 := kit_a2
    kit_bd := kit_bd
    kit_be := kit_be
    kit_br := kit_br
    kit_b7 := kit_b7
    kit_bf := kit_bf
    kit_bs := kit_bs
    kany_a := kany_a
    kitv_a := kitv_a
    mro_a := mro_a
    kit_dq := kit_dq
    kit_dr := kit_dr
    kit_cx := kit_cx
    kit_b8 := kit_b8
    kit_b9 := kit_b9
    kit_cy := kit_cy
    kit_bg := kit_bg
    kit_cz := kit_cz
    kit_c0 := kit_c0
    kit_ds := kit_ds
    kit_d7 := kit_d7
    kit_c1 := kit_c1
    kit_dt := kit_dt
    kany_j := kany_j
    kitv_j := kitv_j
    mro_j := mro_j
    kit_ey := kit_ey
    kit_ez := kit_ez
    kit_el := kit_el
    kit_eb := kit_eb
    kit_ec := kit_ec
    kit_em := kit_em
    kit_c5 := kit_c5
    kit_en := kit_en
    kit_eo := kit_eo
    kit_e0 := kit_e0
    kit_fh := kit_fh
    kit_ep := kit_ep
    kit_e1 := kit_e1
    kitv_k := kitv_k
    mro_k := mro_k
    ns_k := ns_k
    ns_f4 := ns_f4
    kit_d8 := kit_d8
    kany2_k := kany2_k
    v_ed := ⟨_, PySem.W.mg_of X G v_ed⟩
    v_bi := ⟨_, PySem.W.mg_of X G v_bi⟩
    v_ca := ⟨_, PySem.W.mg_of X G v_ca⟩
    g_as := PySem.W.mg_of X G g_as
    D_as := ⟨ns_as, _, _, l_as, .cons rfl ⟨_, rfl⟩ ⟨_, rfl⟩ (.cons rfl ⟨_, rfl⟩ ⟨_, rfl⟩ (.cons rfl ⟨_, rfl⟩ ⟨_, rfl⟩ (.nil))), by decide⟩ }⟩
theorem sc_ac : xag ["self", "name"] ["self", "name"] (xp s_ac) := ⟨rfl, rfl, rfl, by decide +kernel, rfl, by decide +kernel, by decide +kernel⟩
theorem sc_ad : xag ["self", "x", "y"] ["self", "x", "y"] (xp s_ad) := ⟨rfl, rfl, rfl, by decide +kernel, rfl, by decide +kernel, by decide +kernel⟩
theorem sc_z : xag ["self", "sides"] ["self", "sides"] (xp s_z) := ⟨rfl, rfl, rfl, by decide +kernel, rfl, by decide +kernel, by decide +kernel⟩
theorem sc_w : xag ["self", "low", "high"] ["self", "low", "high"] (xp s_w) := ⟨rfl, rfl, rfl, by decide +kernel, rfl, by decide +kernel, by decide +kernel⟩
theorem sc_x : xag ["self", "name"] ["self", "name"] (xp s_x) := ⟨rfl, rfl, rfl, by decide +kernel, rfl, by decide +kernel, by decide +kernel⟩
theorem sc_m : xag ["self", "name"] ["self", "name"] (xp s_m) := ⟨rfl, rfl, rfl, by decide +kernel, rfl, by decide +kernel, by decide +kernel⟩
theorem sc_aa : xag ["self", "name"] ["self", "name"] (xp s_aa) := ⟨rfl, rfl, rfl, by decide +kernel, rfl, by decide +kernel, by decide +kernel⟩
theorem sc_t : xag ["thing", "low", "high"] ["thing", "low", "high"] (xp s_t) := ⟨rfl, rfl, rfl, by decide +kernel, rfl, by decide +kernel, by decide +kernel⟩
theorem sc_aq : xag ["thing"] ["thing"] (xp s_aq) := ⟨rfl, rfl, rfl, by decide +kernel, rfl, by decide +kernel, by decide +kernel⟩
theorem sc_v : xag ["self", "width", "height"] ["self", "width", "height"] (xp s_v) := ⟨rfl, rfl, rfl, by decide +kernel, rfl, by decide +kernel, by decide +kernel⟩
theorem sc_e : xag ["self", "name", "x", "y", "sides", "low", "high", "highest"] ["self", "name", "x", "y", "sides", "low", "high"] (xp s_e) := ⟨rfl, rfl, rfl, by decide +kernel, rfl, by decide +kernel, by decide +kernel⟩
theorem sc_h : xag ["self"] ["self"] (xp s_h) := ⟨rfl, rfl, rfl, by decide +kernel, rfl, by decide +kernel, by decide +kernel⟩
theorem sc_s : xag ["self"] ["self"] (xp s_s) := ⟨rfl, rfl, rfl, by decide +kernel, rfl, by decide +kernel, by decide +kernel⟩
theorem sc_c : xag ["self", "x", "y"] ["self", "x", "y"] (xp s_c) := ⟨rfl, rfl, rfl, by decide +kernel, rfl, by decide +kernel, by decide +kernel⟩
theorem sc_b : xag ["self", "name", "x", "y", "others", "other"] ["self", "name", "x", "y"] (xp s_b) := ⟨rfl, rfl, rfl, by decide +kernel, rfl, by decide +kernel, by decide +kernel⟩
theorem sc_af : xag ["_law_script", "_law_k"] ["_law_script", "_law_k"] (xp s_af) := ⟨rfl, rfl, rfl, by decide +kernel, rfl, by decide +kernel, by decide +kernel⟩
theorem sc_u : xag ["_law_cell_here", "_law_k", "_law_number"] ["_law_cell_here", "_law_k"] (xp s_u) := ⟨rfl, rfl, rfl, by decide +kernel, rfl, by decide +kernel, by decide +kernel⟩
theorem sc_al : xag ["_law_e", "_law_found"] ["_law_e"] (xp s_al) := ⟨rfl, rfl, rfl, by decide +kernel, rfl, by decide +kernel, by decide +kernel⟩
theorem sc_n : xag ["_law_e", "_law_found"] ["_law_e"] (xp s_n) := ⟨rfl, rfl, rfl, by decide +kernel, rfl, by decide +kernel, by decide +kernel⟩
theorem sc_p : xag ["_law_thing", "_law_low", "_law_high"] ["_law_thing", "_law_low", "_law_high"] (xp s_p) := ⟨rfl, rfl, rfl, by decide +kernel, rfl, by decide +kernel, by decide +kernel⟩
theorem sc_at : xag ["_law_number", "_law_size", "_law_far"] ["_law_number", "_law_size"] (xp s_at) := ⟨rfl, rfl, rfl, by decide +kernel, rfl, by decide +kernel, by decide +kernel⟩
theorem sc_am : xag ["_law_cell_here", "_law_k", "_law_size", "_law_draws", "_law_width", "_law_height", "_law_args_here", "_law_low", "_law_j", "_law_at", "_law_odd_here"] ["_law_cell_here", "_law_k", "_law_size"] (xp s_am) := ⟨rfl, rfl, rfl, by decide +kernel, rfl, by decide +kernel, by decide +kernel⟩
theorem sc_ar : xag ["_law_size", "_law_rows", "_law_args_here", "_law_name", "_law_x", "_law_y", "_law_sides", "_law_low", "_law_high", "_law_at", "_law_row"] ["_law_size", "_law_rows", "_law_args_here"] (xp s_ar) := ⟨rfl, rfl, rfl, by decide +kernel, rfl, by decide +kernel, by decide +kernel⟩
theorem sc_au : xag ["_law_picture", "_law_args_here", "_law_many"] ["_law_picture", "_law_args_here", "_law_many"] (xp s_au) := ⟨rfl, rfl, rfl, by decide +kernel, rfl, by decide +kernel, by decide +kernel⟩
theorem sc_ag : xag ["_law_picture", "_law_size", "_law_rows", "_law_args_here", "_law_many", "_law_due_args", "_law_due_here", "_law_told_here", "_law_e"] ["_law_picture", "_law_size", "_law_rows", "_law_args_here", "_law_many"] (xp s_ag) := ⟨rfl, rfl, rfl, by decide +kernel, rfl, by decide +kernel, by decide +kernel⟩
theorem sc_ae : xag ["_law_picture", "_law_size", "_law_rows", "_law_found", "_law_row"] ["_law_picture", "_law_size", "_law_rows"] (xp s_ae) := ⟨rfl, rfl, rfl, by decide +kernel, rfl, by decide +kernel, by decide +kernel⟩
theorem sc_y : xag ["_law_number", "_law_size", "_law_at", "_law_error", "_law_e"] ["_law_number"] (xp s_y) := ⟨rfl, rfl, rfl, by decide +kernel, rfl, by decide +kernel, by decide +kernel⟩
theorem sc_ab : xag ["_law_picture", "_law_cell_here", "_law_rows", "_law_first", "_law_k", "_law_row"] ["_law_picture", "_law_cell_here"] (xp s_ab) := ⟨rfl, rfl, rfl, by decide +kernel, rfl, by decide +kernel, by decide +kernel⟩
theorem xb5 : xag ["_law_script", "_law_sizes", "_law_j", "_law_number", "_law_rows", "_law_pictures", "_law_k", "_law_at", "_law_args_here"] ["_law_script"] (xp xc6) := ⟨rfl, rfl, rfl, by decide +kernel, rfl, by decide +kernel, by decide +kernel⟩
end S03
set_option maxRecDepth 100000
set_option maxHeartbeats 4000000
namespace S03
open PySem L2 XL PyProof.Rows
theorem xa3 {K : PySem.W.Frag} {v : Value} : PySem.W.kitOne K v v = some true := if_pos (by simp)
theorem xo {H H' : Hp} {p : Addr} {o : HO} (s : Same H H') (hp : H' p = none) : Same H (L2.upd H' p o) := fun b u z => by
  have z' := s b u z
  rw [xh (xk z' hp)]
  exact z'
def xc3 (b : Bool) : Str := if b then "left" else "right"
section
variable {P : Program} {w : World} {K : PySem.W.Frag} {mg : Str → Option Value} {base : Heap} {t : Adr}
end
def isNm (x : Str) : Bool := decide (x.length = 1) && (!decide (x.cps.toList < [97]) && !decide ([122] < x.cps.toList))
def xmy : Sp := fun vs H Q _ => ∃ (i lo hi : Int), vs = [.int i, .int lo, .int hi] ∧ lo ≤ i ∧ i ≤ hi ∧ Q (.bl true) H
def xnd : Sp := fun vs H Q _ => ∃ (x : Str), vs = [.str x] ∧ isNm x = true ∧ Q (.bl true) H
theorem xhm : ("a" : Str).cps.toList = [97] := by decide +kernel
theorem xkh : ("z" : Str).cps.toList = [122] := by decide +kernel
section
variable {P : Program} {w : World} {K : PySem.W.Frag} {mg : Str → Option Value} {base : Heap} {t : Adr}
theorem ok_t (T : Txt w K mg t) : FnOk true P w K mg base (CXo P w) 1 t.f_t t.d_t ["thing", "low", "high"] (xmy) := by
  refine T.F_t.okn (k := 0) sc_t (fun vs H Q E h => ?_) (fun cdv A outer s H vs Q E hr h => ?_)
  · obtain ⟨i, lo, hi, rfl, _⟩ := h
    rfl
  · obtain ⟨i, lo, hi, rfl, h⟩ := h
    refine ⟨_, xn (xai (xbo (xx xaa rfl T.n_isinstance boot_isinstance (xb (pv 0) (xb (xa5 (v := .ty "int") rfl T.n_int boot_int rfl) (xj)))) (xbo (xef (xx xaa rfl T.n_isinstance boot_isinstance (xb (pv 0) (xb (xa5 (v := .ty "bool") rfl T.n_bool boot_bool rfl) (xj))))) (xcv (xcu xdy xdy (pv 1) (pv 0) (pv 2)))))), ?_⟩
    obtain ⟨c1, c2, q⟩ := h
    refine ⟨_, rfl, _, _, rfl, .inl ⟨_, _, true, .int i, rfl, xa3, true, rfl, iteT ?_⟩⟩
    refine ⟨_, rfl, _, _, rfl, .inl ⟨_, _, false, .int i, rfl, (by rfl), false, rfl, true, rfl, iteT ?_⟩⟩
    refine ⟨_, rfl, _, rfl, _, _, rfl, rfl, _, rfl, ite2 (fun c => ?_) (fun c => ?_)⟩
    · refine ⟨_, rfl, _, _, rfl, rfl, ?_⟩
      show Q (.bl (decide (i ≤ hi))) H
      rw [decide_eq_true c2]
      exact q
    · exact absurd (decide_eq_true c1) c
theorem ok_aq (T : Txt w K mg t) : FnOk true P w K mg base (CXo P w) 1 t.f_aq t.d_aq ["thing"] (xnd) := by
  refine T.F_aq.okn (k := 0) sc_aq (fun vs H Q E h => ?_) (fun cdv A outer s H vs Q E hr h => ?_)
  · obtain ⟨x, rfl, _⟩ := h
    rfl
  · obtain ⟨x, rfl, h⟩ := h
    refine ⟨_, xn (xai (xbo (xx xaa rfl T.n_isinstance boot_isinstance (xb (pv 0) (xb (xa5 (v := .ty "str") rfl T.n_str boot_str rfl) (xj)))) (xbo (xd2 xbq (xx xcw rfl T.n_len boot_len (xb (pv 0) (xj))) (xg) (xan _)) (xcv (xcu xc1 xc1 (x4) (pv 0) (x4)))))), ?_⟩
    obtain ⟨hn, q⟩ := h
    unfold isNm at hn
    simp only [Bool.and_eq_true, decide_eq_true_eq, Bool.not_eq_true', decide_eq_false_iff_not] at hn
    obtain ⟨l1, n1, n2⟩ := hn
    refine ⟨_, rfl, _, _, rfl, .inl ⟨_, _, true, .str x, rfl, xa3, true, rfl, iteT ?_⟩⟩
    refine ⟨_, rfl, _, rfl, (by rw [l1]; decide), rfl, _, rfl, ite2 (fun c => ?_) (fun c => ?_)⟩
    · refine ⟨_, rfl, _, _, rfl, rfl, _, rfl, ite2 (fun d => ?_) (fun d => ?_)⟩
      · refine ⟨_, _, rfl, rfl, ?_⟩
        rw [xkh, decide_eq_false n2]
        exact q
      · rw [xhm, decide_eq_false n1] at d
        exact absurd rfl d
    · exact absurd (decide_eq_true (by rw [l1]; rfl)) c
end
section
end
end S03
set_option maxRecDepth 100000
set_option maxHeartbeats 4000000
namespace S03
open PySem L2 XL PyProof.Rows
structure Pt where
  nm : Str
  x : Int
  y : Int
  sd : Str
  lo : Int
  hi : Int
def ptV (p : Pt) : List V := [.int p.x, .int p.y, .str p.sd, .int p.lo, .int p.hi]
inductive Pl (H : Hp) : List Pt → List (Key × V) → Prop
  | nil : Pl H [] []
  | cons {p : Pt} {q : Addr} {ps : List Pt} {kvs : List (Key × V)} (h : H q = some (.tup (ptV p))) (r : Pl H ps kvs) : Pl H (p :: ps) ((.inr p.nm, .ref q) :: kvs)
inductive PtsL (H : Hp) : List Pt → List Addr → Prop
  | nil : PtsL H [] []
  | cons {p : Pt} {q : Addr} {ps : List Pt} {qs : List Addr} (h : H q = some (.tup (.str p.nm :: ptV p))) (r : PtsL H ps qs) : PtsL H (p :: ps) (q :: qs)
theorem xj9 {σ : L2.St} {H : Hp} {A B : Hp → Prop} (h : A H) : xdh σ H (fun b H4 => if b = true then A H4 else B H4) := by
  show if true = true then A H else B H
  rw [if_pos rfl]
  exact h
def Tups (H H' : Hp) : Prop := ∀ b xs, H b = some (.tup xs) → H' b = some (.tup xs)
theorem Pl.keep {H H' : Hp} (s : Tups H H') {ps : List Pt} {kvs : List (Key × V)} (h : Pl H ps kvs) : Pl H' ps kvs := by
  induction h with
  | nil => exact .nil
  | cons h _ ih => exact .cons (s _ _ h) ih
theorem PtsL.keep {H H' : Hp} (s : Tups H H') {ps : List Pt} {qs : List Addr} (h : PtsL H ps qs) : PtsL H' ps qs := by
  induction h with
  | nil => exact .nil
  | cons h _ ih => exact .cons (s _ _ h) ih
theorem Pl.len {H : Hp} {ps : List Pt} {kvs : List (Key × V)} (h : Pl H ps kvs) : kvs.length = ps.length := by
  induction h with
  | nil => rfl
  | cons _ _ ih => simp [ih]
theorem PtsL.len {H : Hp} {ps : List Pt} {qs : List Addr} (h : PtsL H ps qs) : qs.length = ps.length := by
  induction h with
  | nil => rfl
  | cons _ _ ih => simp [ih]
theorem Pl.find {H : Hp} {ps : List Pt} {kvs : List (Key × V)} (h : Pl H ps kvs) {nm : Str} {pt : Pt} (e : ps.find? (fun p => decide (p.nm = nm)) = some pt) : ∃ q, valV kvs (.inr nm) = some (.ref q) ∧ H q = some (.tup (ptV pt)) := by
  induction h with
  | nil => simp at e
  | @cons p q ps kvs h _ ih =>
    by_cases c : p.nm = nm
    · rw [List.find?_cons_of_pos (by simpa using c)] at e
      cases e
      exact ⟨q, xdf (by rw [c]), h⟩
    · rw [List.find?_cons_of_neg (by simpa using c)] at e
      obtain ⟨q', h1, h2⟩ := ih e
      exact ⟨q', by rw [xbb (fun z => c (Sum.inr.inj z))]; exact h1, h2⟩
theorem Pl.no {H : Hp} {ps : List Pt} {kvs : List (Key × V)} (h : Pl H ps kvs) {nm : Str} (e : ∀ p ∈ ps, p.nm ≠ nm) : valV kvs (.inr nm) = none := by
  induction h with
  | nil => rfl
  | @cons p q ps kvs h _ ih =>
    rw [xbb (fun z => e p List.mem_cons_self (Sum.inr.inj z))]
    exact ih fun p' hp => e p' (List.mem_cons_of_mem _ hp)
theorem Pl.get {H : Hp} {ps : List Pt} {kvs : List (Key × V)} (h : Pl H ps kvs) {i : Nat} {k : Key} {x : V} (e : kvs[i]? = some (k, x)) : ∃ p q, ps[i]? = some p ∧ k = .inr p.nm ∧ x = .ref q ∧ H q = some (.tup (ptV p)) := by
  induction h generalizing i with
  | nil => simp at e
  | @cons p q ps kvs h _ ih =>
    cases i with
    | zero =>
      simp at e
      exact ⟨p, q, rfl, e.1.symm, e.2.symm, h⟩
    | succ j => exact ih (by simpa using e)
theorem PtsL.get {H : Hp} {ps : List Pt} {qs : List Addr} (h : PtsL H ps qs) {i : Nat} {q : Addr} (e : qs[i]? = some q) : ∃ p, ps[i]? = some p ∧ H q = some (.tup (.str p.nm :: ptV p)) := by
  induction h generalizing i with
  | nil => simp at e
  | @cons p q' ps qs h _ ih =>
    cases i with
    | zero =>
      simp at e
      subst e
      exact ⟨p, rfl, h⟩
    | succ j => exact ih (by simpa using e)
theorem Pl.snoc {H : Hp} {ps : List Pt} {kvs : List (Key × V)} (h : Pl H ps kvs) {p : Pt} {q : Addr} (e : H q = some (.tup (ptV p))) : Pl H (ps ++ [p]) (kvs ++ [(.inr p.nm, .ref q)]) := by
  induction h with
  | nil => exact .cons e .nil
  | cons h _ ih => exact .cons h ih
theorem PtsL.snoc {H : Hp} {ps : List Pt} {qs : List Addr} (h : PtsL H ps qs) {p : Pt} {q : Addr} (e : H q = some (.tup (.str p.nm :: ptV p))) : PtsL H (ps ++ [p]) (qs ++ [q]) := by
  induction h with
  | nil => exact .cons e .nil
  | cons h _ ih => exact .cons h ih
abbrev picF (w h : Int) (dp do_ : Addr) : List (Str × V) := [("width", .int w), ("height", .int h), ("placed", .ref dp), ("opened", .ref do_)]
structure Pic (t : Adr) (H : Hp) (a dp do_ : Addr) (w h : Int) (ps : List Pt) : Prop where
  ins : ∃ dx, H a = some (.ins t.C_r dx (picF w h dp do_))
  pl : ∃ kvs, H dp = some (.dK kvs) ∧ Pl H ps kvs
  w1 : 1 ≤ w
  w2 : w ≤ 30
  h1 : 1 ≤ h
  h2 : h ≤ 16
  len : ps.length ≤ 12
theorem Same.tups {H H' : Hp} (s : Same H H') : Tups H H' := fun b xs e => s b _ e
theorem Pic.same {t : Adr} {H H' : Hp} {a dp do_ : Addr} {w h : Int} {ps : List Pt} (s : Same H H') (p : Pic t H a dp do_ w h ps) : Pic t H' a dp do_ w h ps :=
  ⟨let ⟨dx, e⟩ := p.ins; ⟨dx, s _ _ e⟩, let ⟨kvs, e, q⟩ := p.pl; ⟨kvs, s _ _ e, q.keep (Same.tups s)⟩, p.w1, p.w2, p.h1, p.h2, p.len⟩
theorem xbd {w h : Int} {dp do_ : Addr} {m : Str} (e : ((["width", "height", "placed", "opened"] : List Str).all fun k => !(m == k)) = true) : (picF w h dp do_).lookup m = none := by
  simp only [List.all_cons, List.all_nil, Bool.and_eq_true, Bool.not_eq_true'] at e
  obtain ⟨e1, e2, e3, e4, _⟩ := e
  unfold picF
  rw [List.lookup_cons, e1]
  show List.lookup m [("height", V.int h), ("placed", V.ref dp), ("opened", V.ref do_)] = none
  rw [List.lookup_cons, e2]
  show List.lookup m [("placed", V.ref dp), ("opened", V.ref do_)] = none
  rw [List.lookup_cons, e3]
  show List.lookup m [("opened", V.ref do_)] = none
  rw [List.lookup_cons, e4]
  rfl
theorem lkW {w h : Int} {dp do_ : Addr} : (picF w h dp do_).lookup ("width" : Str) = some (.int w) := by
  unfold picF
  rw [List.lookup_cons, show (("width" : Str) == "width") = true from by decide +kernel]
theorem lkH {w h : Int} {dp do_ : Addr} : (picF w h dp do_).lookup ("height" : Str) = some (.int h) := by
  unfold picF
  rw [List.lookup_cons, show (("height" : Str) == "width") = false from by decide +kernel]
  show List.lookup ("height" : Str) [("height", V.int h), ("placed", V.ref dp), ("opened", V.ref do_)] = _
  rw [List.lookup_cons, show (("height" : Str) == "height") = true from by decide +kernel]
theorem lkP {w h : Int} {dp do_ : Addr} : (picF w h dp do_).lookup ("placed" : Str) = some (.ref dp) := by
  unfold picF
  rw [List.lookup_cons, show (("placed" : Str) == "width") = false from by decide +kernel]
  show List.lookup ("placed" : Str) [("height", V.int h), ("placed", V.ref dp), ("opened", V.ref do_)] = _
  rw [List.lookup_cons, show (("placed" : Str) == "height") = false from by decide +kernel]
  show List.lookup ("placed" : Str) [("placed", V.ref dp), ("opened", V.ref do_)] = _
  rw [List.lookup_cons, show (("placed" : Str) == "placed") = true from by decide +kernel]
def xkt (t : Adr) : Sp := fun vs H Q _ => ∃ (p dx : Addr) (w h : Int), vs = [.ref p, .int w, .int h] ∧ H p = some (.ins t.C_r dx []) ∧ 1 ≤ w ∧ w ≤ 30 ∧ 1 ≤ h ∧ h ≤ 16 ∧
  ∀ H' dp do_, H dp = none → H do_ = none → (∀ b u, b ≠ p → H b = some u → H' b = some u) → Pic t H' p dp do_ w h [] → H' do_ = some (.dT []) → Q .non H'
def spCC (t : Adr) : Sp := fun vs H Q _ => ∃ (a dp do_ : Addr) (pw ph : Int) (ps : List Pt) (x y : Int), vs = [.ref a, .int x, .int y] ∧ Pic t H a dp do_ pw ph ps ∧ 1 ≤ x ∧ x ≤ pw ∧ 1 ≤ y ∧ y ≤ ph ∧ Q .non H
def xng (t : Adr) : Sp := fun vs H Q _ => ∃ (a dp do_ : Addr) (pw ph : Int) (ps : List Pt), vs = [.ref a] ∧ Pic t H a dp do_ pw ph ps ∧ ∀ H' l qs, Same H H' → H' l = some (.lst (qs.map V.ref)) → PtsL H' ps qs → Q (.ref l) H'
def spCL (t : Adr) : Sp := fun vs H Q _ => ∃ (a dp do_ : Addr) (pw ph : Int) (ps : List Pt) (nm : Str) (x y : Int), vs = [.ref a, .str nm, .int x, .int y] ∧ Pic t H a dp do_ pw ph ps ∧ (∀ p ∈ ps, p.nm ≠ nm → p.x ≠ x ∧ p.y ≠ y) ∧ ∀ H', Same H H' → Q .non H'
def xmr (t : Adr) : Sp := fun vs H Q _ => ∃ (a dp do_ : Addr) (pw ph : Int) (ps : List Pt) (nm : Str) (x y : Int) (sd : Str) (lo hi : Int) (hv : V), vs = [.ref a, .str nm, .int x, .int y, .str sd, .int lo, hv] ∧ Pic t H a dp do_ pw ph ps ∧
  ((hv = .non ∧ hi = ph) ∨ hv = .int hi) ∧ isNm nm = true ∧ 1 ≤ x ∧ x ≤ pw ∧ 1 ≤ y ∧ y ≤ ph ∧ (sd = "left" ∨ sd = "right" ∨ sd = "both") ∧ 1 ≤ lo ∧ lo ≤ hi ∧ hi ≤ ph ∧ (∀ p ∈ ps, p.nm ≠ nm ∧ p.x ≠ x ∧ p.y ≠ y) ∧ ps.length < 12 ∧
  ∀ H', (∀ b u, b ≠ dp → H b = some u → H' b = some u) → Pic t H' a dp do_ pw ph (ps ++ [⟨nm, x, y, sd, lo, hi⟩]) → Q .non H'
section
variable {P : Program} {w : World} {K : PySem.W.Frag} {mg : Str → Option Value} {base : Heap} {t : Adr}
theorem ok_v (T : Txt w K mg t) : FnOk true P w K mg base (CXo P w) 2 t.f_v t.d_v ["self", "width", "height"] (xkt t) := by
  refine T.F_v.okn (k := 1) sc_v (fun vs H Q E h => ?_) (fun cdv A outer s H vs Q E hr h => ?_)
  · obtain ⟨p, dx, pw, ph, rfl, _⟩ := h
    rfl
  · obtain ⟨p, dx, pw, ph, rfl, h⟩ := h
    refine ⟨_, xm (x8 (PW.pt (xbe (xat (xad (x5 (ok_t T) (hr.mono (by decide)) rfl T.g_t T.F_t.kp T.b_t .nil xu (xb (pv 1) (xb (xg) (xb (xah (v := .int 30) rfl T.v_bi.choose_spec ⟨_, rfl⟩) (xj))))))) (xbc (xat (xad (x5 (ok_t T) (hr.mono (by decide)) rfl T.g_t T.F_t.kp T.b_t .nil xu (xb (pv 2) (xb (xg) (xb (xah (v := .int 16) rfl T.v_ed.choose_spec ⟨_, rfl⟩) (xj)))))))))) (xn (xbm)) (xw))
      (xm (xcf (pv 0) (pv 1) rfl)
      (xm (xcf (pv 0) (pv 2) rfl)
      (xm (xcf (pv 0) (xf0) rfl)
      (xn (xcf (pv 0) (xgk) rfl))))), ?_⟩
    obtain ⟨hp, w1, w2, h1, h2, q⟩ := h
    refine ⟨_, rfl, pw, 1, 30, rfl, w1, w2, true, rfl, iteF ⟨_, rfl, ph, 1, 16, rfl, h1, h2, true, rfl, iteF ?_⟩⟩
    refine ⟨_, rfl, _, rfl, p, _, dx, _, rfl, hp, T.c_r, T.n_a3, (by show 0 < 1000; decide), ?_⟩
    refine ⟨_, rfl, _, rfl, p, _, dx, _, rfl, xf, T.c_r, T.n_a1, (by show 1 < 1000; decide), ?_⟩
    rw [xdx]
    refine fun dp hdp => ?_
    have n1 : p ≠ dp := xk xf hdp
    refine ⟨_, rfl, p, _, dx, _, rfl, (by rw [xh n1]; exact xf), T.c_r, T.n_a0, (by show 2 < 1000; decide), fun do_ hdo => ?_⟩
    have n2 : p ≠ do_ := xk xf hdo
    have n3 : dp ≠ do_ := xk (by rw [xh (Ne.symm n1)]; exact xf) hdo
    refine ⟨_, rfl, p, _, dx, _, rfl, (by rw [xh n2]; exact xf), T.c_r, T.n_a8, (by show 3 < 1000; decide), ?_⟩
    rw [xh (Ne.symm n1)] at hdp
    have hdo' : H do_ = none := by
      have z := hdo
      rw [xh (Ne.symm n2), xh (Ne.symm n3), xh (Ne.symm n2)] at z
      exact z
    refine q _ dp do_ hdp hdo' (fun b u nb e => ?_) ⟨⟨dx, xf⟩, ⟨[], ?_, .nil⟩, w1, w2, h1, h2, Nat.zero_le _⟩ ?_
    · have c1 : b ≠ dp := xk e hdp
      have c2 : b ≠ do_ := fun z => by
        subst z
        rw [xh nb, xh c1, xh nb] at hdo
        rw [e] at hdo
        cases hdo
      rw [xh nb, xh c2, xh nb, xh c1, xh nb]
      exact e
    · rw [xh (Ne.symm n1), xh n3, xh (Ne.symm n1)]
      exact xf
    · rw [xh (Ne.symm n2)]
      exact xf
theorem ok_c (T : Txt w K mg t) : FnOk true P w K mg base (CXo P w) 2 t.f_c t.d_c ["self", "x", "y"] (spCC t) := by
  refine T.F_c.okn (k := 1) sc_c (fun vs H Q E h => ?_) (fun cdv A outer s H vs Q E hr h => ?_)
  · obtain ⟨a, dp, do_, pw, ph, ps, x, y, rfl, _⟩ := h
    rfl
  · obtain ⟨a, dp, do_, pw, ph, ps, x, y, rfl, h⟩ := h
    refine ⟨_, xn (x8 (PW.pt (xbe (xat (xad (x5 (ok_t T) (hr.mono (by decide)) rfl T.g_t T.F_t.kp T.b_t .nil xu (xb (pv 1) (xb (xg) (xb (xaz (pv 0) rfl) (xj))))))) (xbc (xat (xad (x5 (ok_t T) (hr.mono (by decide)) rfl T.g_t T.F_t.kp T.b_t .nil xu (xb (pv 2) (xb (xg) (xb (xaz (pv 0) rfl) (xj)))))))))) (xn (xbm)) (xw)), ?_⟩
    obtain ⟨pic, x1, x2, y1, y2, q⟩ := h
    obtain ⟨⟨dx, hp⟩, _, _⟩ := id pic
    exact ⟨_, rfl, _, rfl, a, _, dx, _, _, rfl, hp, T.c_r, T.n_a3, lkW, x, 1, pw, rfl, x1, x2, true, rfl, iteF ⟨_, rfl, _, rfl, a, _, dx, _, _, rfl, hp, T.c_r, T.n_a1, lkH, y, 1, ph, rfl, y1, y2, true, rfl, iteF q⟩⟩
theorem ok_h (T : Txt w K mg t) : FnOk true P w K mg base (CXo P w) 1 t.f_h t.d_h ["self"] (xng t) := by
  refine T.F_h.okn (k := 0) sc_h (fun vs H Q E h => ?_) (fun cdv A outer s H vs Q E hr h => ?_)
  · obtain ⟨a, dp, do_, pw, ph, ps, rfl, _⟩ := h
    rfl
  · obtain ⟨a, dp, do_, pw, ph, ps, rfl, h⟩ := h
    refine ⟨_, xn (xai (xg2 (xdi rfl (xb2 (zs := ["name", "rest"]) (ys := []) (fr := []) (N0 := ["self"]) (sc0 := xp s_h) (by decide +kernel) rfl rfl rfl) (xgp (xaz (pv 0) rfl)) (fun _ _ _ _ _ ow nd => (xfz rfl (xa7 (xap (i := 0) nd rfl (Or.inl (ow _ (by simp))) (Or.inr (ow _ (by simp)))) (xa7 (xap (i := 1) nd rfl (Or.inl (ow _ (by simp))) (Or.inr (ow _ (by simp)))) (xdt))) : PG _ _ (gTup K 2 _))) (xg8 (xcz (by decide) (xcz (by decide) (xgb)))) (fun _ _ _ _ _ => xdb) (fun _ _ _ _ _ => xq (r := xh3 K) xey (xbg (xb (pv 0) (xj))) (pv 1))))), ?_⟩
    obtain ⟨pic, q⟩ := h
    obtain ⟨⟨dx, hp⟩, ⟨kvs, hk, pl⟩, _⟩ := id pic
    refine ⟨_, rfl, a, _, dx, _, _, rfl, hp, T.c_r, T.n_a0, lkP, dp, kvs, rfl, hk, fun ob nf l hl => ?_⟩
    have nl : l ≠ dp := fun z => by
      rw [z, xf] at hl
      cases hl
    have hl0 : H l = none := by rwa [xh nl] at hl
    refine xcy kvs.length (fun i xs H2 => ∃ qs : List Addr, xs = qs.map V.ref ∧ qs.length ≤ i ∧ H2 dp = some (.frz ob (.dK kvs)) ∧ (∀ b u, b ≠ dp → H b = some u → H2 b = some u) ∧ H2 l = some (.lst xs) ∧ PtsL H2 (ps.take i) qs) ?_ ?_ ?_ ?_
    · refine ⟨[], rfl, Nat.le_refl _, ?_, fun b u nb e => ?_, xf, by simpa using PtsL.nil⟩
      · rw [xh (Ne.symm nl)]
        exact xf
      · rw [xh (xk e hl0), xh nb]
        exact e
    · rintro i xs H2 lt ⟨qs, _, _, hd, _⟩
      exact ⟨hd, lt⟩
    · rintro i xs H2 v H3 lt ⟨qs, rfl, ql, hd, sm, hl2, pts⟩ ⟨p, k, x, hx, rfl, hpn, rfl⟩ N hN
      obtain ⟨pt, q0, hpt, rfl, rfl, hq0⟩ := pl.get hx
      have e0 : H2 q0 = some (.tup (ptV pt)) := sm _ _ (xak hq0 hk (fun z => nomatch z)) hq0
      refine ⟨p, _, rfl, SqT.of xf, rfl, _, _, rfl, _, _, rfl, rfl, ?_⟩
      refine xj9 ?_
      have n0 : q0 ≠ p := xk e0 hpn
      refine ⟨_, rfl, (by show 1 ≤ sizeLine; decide), fun p1 h1 => ⟨_, rfl, p1, q0, _, ptV pt, rfl, rfl, SqT.of xf, SqT.of ?_, (by simp), (by show 1 + 5 ≤ sizeLine; decide), (fun z => nomatch z), fun _ p2 h2 => ?_⟩⟩
      · rw [xh (xk (by rw [xh n0]; exact e0) h1), xh n0]
        exact e0
      have up : ∀ b u, H2 b = some u → (upd (upd (upd H2 p (.tup [.str pt.nm, .ref q0])) p1 (.tup [.str pt.nm])) p2 (.tup ([.str pt.nm] ++ ptV pt))) b = some u := fun b u e => by
        have c1 : b ≠ p := xk e hpn
        have e1 : upd H2 p (.tup [.str pt.nm, .ref q0]) b = some u := by rw [xh c1]; exact e
        have c2 : b ≠ p1 := xk e1 h1
        have e2 : upd (upd H2 p (.tup [.str pt.nm, .ref q0])) p1 (.tup [.str pt.nm]) b = some u := by rw [xh c2]; exact e1
        rw [xh (xk e2 h2)]
        exact e2
      have c3 : l ≠ p2 := xk (show upd (upd H2 p (.tup [.str pt.nm, .ref q0])) p1 (.tup [.str pt.nm]) l = some (.lst (qs.map V.ref)) from by
        have c1 : l ≠ p := xk hl2 hpn
        have e1 : upd H2 p (.tup [.str pt.nm, .ref q0]) l = some (.lst (qs.map V.ref)) := by rw [xh c1]; exact hl2
        rw [xh (xk e1 h1)]
        exact e1) h2
      have tk : ps.take (i + 1) = ps.take i ++ [pt] := by
        rw [List.take_add_one, hpt]
        rfl
      have ll : qs.length < sizeLine := Nat.lt_trans (by have := pl.len; have := pic.len; omega : qs.length < 13) (by decide)
      refine ⟨up _ _ hl2, by rw [List.length_map]; exact ll, hN _ _ ⟨qs ++ [p2], by simp, by simp; omega, ?_, fun b u nb e => ?_, xf, ?_⟩⟩
      · rw [xh (Ne.symm nl)]
        exact up _ _ hd
      · have e2 := up _ _ (sm b u nb e)
        rw [xh (xk e hl0)]
        exact e2
      · rw [tk]
        refine PtsL.snoc (PtsL.keep (fun b xs e => ?_) pts) ?_
        · have e2 := up _ _ e
          rw [xh (xak e2 (up _ _ hl2) (fun z => nomatch z))]
          exact e2
        · rw [xh (Ne.symm c3)]
          exact xf
    · rintro xs H2 ⟨qs, rfl, _, hd, sm, hl2, pts⟩
      refine ⟨⟨hd, Nat.le_refl _⟩, dp, ob, _, hd, nf, q _ l qs (fun b u e => ?_) ?_ (PtsL.keep (fun b xs e => ?_) (by rw [pl.len, List.take_length] at pts; exact pts))⟩
      · by_cases c : b = dp
        · subst c
          rw [hk] at e
          cases e
          exact xf
        · rw [xh c]
          exact sm b u c e
      · rw [xh nl]
        exact hl2
      · rw [xh (xak e hd (fun z => nomatch z))]
        exact e
theorem ok_b (T : Txt w K mg t) : FnOk true P w K mg base (CXo P w) 2 t.f_b t.d_b ["self", "name", "x", "y"] (spCL t) := by
  refine T.F_b.okn (k := 1) sc_b (fun vs H Q E h => ?_) (fun cdv A outer s H vs Q E hr h => ?_)
  · obtain ⟨a, dp, do_, pw, ph, ps, nm, x, y, rfl, _⟩ := h
    rfl
  · obtain ⟨a, dp, do_, pw, ph, ps, nm, x, y, rfl, h⟩ := h
    refine ⟨_, xm (xdk rfl (xb2 (zs := ["other"]) (ys := ["name"]) (fr := [1]) (N0 := ["self", "name", "x", "y", "others", "other"]) (sc0 := xp s_b) (by decide +kernel) rfl rfl rfl) (xbj (xct (pv 0) T.c_r T.m_h (ok_h T) (hr.mono (by decide)) T.b_h .nil xu)) (fun _ _ _ _ _ ow nd => xap (i := 0) nd rfl (Or.inl (ow _ (by simp))) (Or.inr (ow _ (by simp)))) (xca (by decide)) (fun _ _ _ _ _ => xez (xaj xhz (xt (r := rIxT K) xay (pv 0) (xg) (fun _ _ => rfl)) (pv 1) (xan _))) (fun _ _ _ _ _ => pv 0) (j := 4) rfl (Or.inl rfl))
      (xm (xbt PassesOwn.never rfl (xbj (pv 4)) (xap (i := 5) sc_b.nd rfl (Or.inl rfl)) (xn (x8 (xaj xbq (xt xay (pv 5) (xg) (fun _ _ => rfl)) (pv 2) (xan _)) (xn (xbm)) (xw))))
      (xn (xbt PassesOwn.never rfl (xbj (pv 4)) (xap (i := 5) sc_b.nd rfl (Or.inl rfl)) (xn (x8 (xaj xbq (xt xay (pv 5) (xg) (fun _ _ => rfl)) (pv 3) (xan _)) (xn (xbm)) (xw)))))), ?_⟩
    obtain ⟨pic, no, q⟩ := h
    obtain ⟨⟨dx, hp⟩, ⟨kvs, hk, pl⟩, _⟩ := id pic
    refine ⟨_, rfl, a, dx, _, rfl, hp, xbd (by decide +kernel), a, dp, do_, pw, ph, ps, rfl, pic, fun H1 l1 qs s1 hl1 pt1 => ⟨l1, rfl, ⟨_, SqL.of hl1⟩, fun l hl => ?_⟩⟩
    refine xcy qs.length (fun i xs H2 => ∃ os : List Addr, xs = os.map V.ref ∧ os.length ≤ i ∧ Same H1 H2 ∧ H2 l = some (.lst xs) ∧ ∀ o ∈ os, ∃ p ∈ ps, p.nm ≠ nm ∧ H1 o = some (.tup (.str p.nm :: ptV p))) ?_ ?_ ?_ ?_
    · exact ⟨[], rfl, Nat.le_refl _, xo (Same.refl _) hl, xf, fun o z => nomatch z⟩
    · rintro i xs H2 lt ⟨os, _, _, s2, _⟩
      exact ⟨_, .ref qs[i], SqL.of (s2 _ _ hl1), by simp [lt]⟩
    · rintro i xs H2 v H3 lt ⟨os, rfl, ol, s2, hl2, hos⟩ ⟨rfl, hv⟩ N hN
      have hv' := hv _ (SqL.of (s2 _ _ hl1))
      rw [List.getElem?_map] at hv'
      obtain ⟨o, ho, rfl⟩ := Option.map_eq_some_iff.mp hv'
      obtain ⟨p, hpp, ep⟩ := pt1.get ho
      refine ⟨_, rfl, o, _, 0, _, rfl, rfl, SqT.of (s2 _ _ ep), rfl, _, rfl, rfl, _, rfl, ite2 (fun c => ?_) (fun c => ?_)⟩
      · have cn : p.nm ≠ nm := fun z => by
          rw [z] at c
          simp at c
        refine ⟨_, rfl, hl2, (by rw [List.length_map]; exact Nat.lt_trans (by have := pt1.len; have := pic.len; omega : os.length < 13) (by decide)), hN _ _ ⟨os ++ [o], by simp, by simp; omega, ?_, xf, ?_⟩⟩
        · intro b u e
          by_cases cb : b = l
          · subst cb
            rw [e] at hl
            cases hl
          · rw [xh cb]
            exact s2 b u e
        · intro o' ho'
          rcases List.mem_append.mp ho' with z | z
          · exact hos o' z
          · have := List.mem_singleton.mp z
            subst this
            exact ⟨p, List.mem_of_getElem? hpp, cn, ep⟩
      · exact hN _ _ ⟨os, rfl, by omega, s2, hl2, hos⟩
    · rintro xs H2 ⟨os, rfl, ol, s2, hl2, hos⟩
      refine ⟨⟨_, SqL.of (s2 _ _ hl1), by simp⟩, ?_⟩
      have loop : ∀ (o : Addr), o ∈ os → ∃ p ∈ ps, p.nm ≠ nm ∧ H2 o = some (.tup (.str p.nm :: ptV p)) := fun o ho => by
        obtain ⟨p, h1, h2, h3⟩ := hos o ho
        exact ⟨p, h1, h2, s2 _ _ h3⟩
      refine ⟨_, rfl, l, rfl, ⟨_, SqL.of hl2⟩, xb0 (xs := os.map V.ref) (Pv := fun i σ H3 => ∃ v5 : Option V, σ = [some (.ref a), some (.str nm), some (.int x), some (.int y), some (.ref l), v5] ∧ H2 = H3) ⟨_, rfl, rfl⟩ (fun _ _ _ _ ⟨_, _, z⟩ => by rw [← z]; exact SqL.of hl2) ?_ ?_⟩
      · rintro i v σ _ hv ⟨v5, rfl, rfl⟩
        rw [List.getElem?_map] at hv
        obtain ⟨o, ho, rfl⟩ := Option.map_eq_some_iff.mp hv
        obtain ⟨p, m1, m2, m3⟩ := loop o (List.mem_of_getElem? ho)
        refine ⟨_, rfl, o, _, 1, _, rfl, rfl, SqT.of m3, rfl, _, rfl, rfl, _, rfl, ifN (decide_eq_false fun z => (no p m1 m2).1 (V.int.inj z)) ⟨_, rfl, rfl⟩⟩
      · rintro σ _ ⟨v5, rfl, rfl⟩
        refine ⟨_, rfl, l, rfl, ⟨_, SqL.of hl2⟩, xb0 (xs := os.map V.ref) (Pv := fun i σ H3 => ∃ v5 : Option V, σ = [some (.ref a), some (.str nm), some (.int x), some (.int y), some (.ref l), v5] ∧ H2 = H3) ⟨_, rfl, rfl⟩ (fun _ _ _ _ ⟨_, _, z⟩ => by rw [← z]; exact SqL.of hl2) ?_ ?_⟩
        · rintro i v σ _ hv ⟨v5, rfl, rfl⟩
          rw [List.getElem?_map] at hv
          obtain ⟨o, ho, rfl⟩ := Option.map_eq_some_iff.mp hv
          obtain ⟨p, m1, m2, m3⟩ := loop o (List.mem_of_getElem? ho)
          refine ⟨_, rfl, o, _, 2, _, rfl, rfl, SqT.of m3, rfl, _, rfl, rfl, _, rfl, ifN (decide_eq_false fun z => (no p m1 m2).2 (V.int.inj z)) ⟨_, rfl, rfl⟩⟩
        · rintro σ _ ⟨v5, rfl, rfl⟩
          exact q _ (s1.trans s2)
theorem ok_e (T : Txt w K mg t) : FnOk true P w K mg base (CXo P w) 3 t.f_e t.d_e ["self", "name", "x", "y", "sides", "low", "high"] (xmr t) := by
  refine T.F_e.okn (k := 2) sc_e (fun vs H Q E h => ?_) (fun cdv A outer s H vs Q E hr h => ?_)
  · obtain ⟨a, dp, do_, pw, ph, ps, nm, x, y, sd, lo, hi, hv, rfl, _⟩ := h
    rfl
  · obtain ⟨a, dp, do_, pw, ph, ps, nm, x, y, sd, lo, hi, hv, rfl, h⟩ := h
    refine ⟨_, xm (x6 (i := 7) sc_e.nd rfl (Or.inl rfl) (xge (xaj xf2 (pv 6) (xck) (xan _)) (xaz (pv 0) rfl) (pv 6)))
      (xm (x8 (xat (xad (x5 (ok_aq T) (hr.mono (by decide)) rfl T.g_aq T.F_aq.kp T.b_aq .nil xu (xb (pv 1) (xj))))) (xn (xbm)) (xw))
      (xm (xbp (xbv (pv 0) T.c_r T.m_c (ok_c T) (hr.mono (by decide)) T.b_c .nil xu (xb (pv 2) (xb (pv 3) (xj)))))
      (xm (x8 (PW.pt (xbe (xat (xad (xx xaa rfl T.n_isinstance boot_isinstance (xb (pv 4) (xb (xa5 (v := .ty "str") rfl T.n_str boot_str rfl) (xj)))))) (xbc (xem (xe8 (pv 4) rfl T.g_as T.D_as))))) (xn (xbm)) (xw))
      (xm (x8 (PW.pt (xbe (xat (xad (x5 (ok_t T) (hr.mono (by decide)) rfl T.g_t T.F_t.kp T.b_t .nil xu (xb (pv 5) (xb (xg) (xb (xaz (pv 0) rfl) (xj))))))) (xbc (xat (xad (x5 (ok_t T) (hr.mono (by decide)) rfl T.g_t T.F_t.kp T.b_t .nil xu (xb (pv 7) (xb (pv 5) (xb (xaz (pv 0) rfl) (xj)))))))))) (xn (xbm)) (xw))
      (xm (x8 (xem (xi8 (xfr hr) (pv 1) (xaz (pv 0) rfl))) (xn (xbm)) (xw))
      (xm (x8 (xaj xki (xx xff rfl T.n_len boot_len (xb (xaz (pv 0) rfl) (xj))) (xah (v := .int 12) rfl T.v_ca.choose_spec ⟨_, rfl⟩) (xan _)) (xn (xbm)) (xw))
      (xm (xbp (xbv (pv 0) T.c_r T.m_b (ok_b T) (hr.mono (by decide)) T.b_b .nil xu (xb (pv 1) (xb (pv 2) (xb (pv 3) (xj))))))
      (xn (xg3 (xfr hr) (xaz (pv 0) rfl) (pv 1) (xbg (xb (pv 2) (xb (pv 3) (xb (pv 4) (xb (pv 5) (xb (pv 7) (xj))))))) rfl))))))))), ?_⟩
    obtain ⟨pic, hhv, hn, x1, x2, y1, y2, hsd, l1, l2, l3, no, len, q⟩ := h
    obtain ⟨⟨dx, hp⟩, ⟨kvs, hk, pl⟩, _⟩ := id pic
    have hsd' : (valV ([(Sum.inr "left", V.str "right"), (Sum.inr "right", V.str "left"), (Sum.inr "both", V.str "both")] : List (Key × V)) (Sum.inr sd)).isSome = true := by
      rcases hsd with rfl | rfl | rfl <;> decide +kernel
    rcases hhv with ⟨rfl, e⟩ | rfl
    · obtain rfl := e.symm
      refine ⟨_, rfl, rfl, _, rfl, ifP (by rfl) ⟨_, rfl, a, _, dx, _, _, rfl, hp, T.c_r, T.n_a1, lkH, ?_⟩⟩
      refine ⟨_, rfl, nm, rfl, hn, true, rfl, iteF ?_⟩
      refine ⟨_, rfl, a, dx, _, rfl, hp, xbd (by decide +kernel), _, rfl, _, rfl, a, dp, do_, pw, ph, ps, x, y, rfl, pic, x1, x2, y1, y2, ?_⟩
      refine ⟨_, rfl, _, _, rfl, .inl ⟨_, _, true, .str _, rfl, xa3, true, rfl, iteF ⟨_, rfl, .inr sd, rfl, false, (by rw [hsd']; rfl), iteF ?_⟩⟩⟩
      refine ⟨_, rfl, _, rfl, a, _, dx, _, _, rfl, hp, T.c_r, T.n_a1, lkH, lo, 1, ph, rfl, l1, (by omega), true, rfl, iteF ⟨_, rfl, _, rfl, _, rfl, a, _, dx, _, _, rfl, hp, T.c_r, T.n_a1, lkH, ph, lo, ph, rfl, (by omega), (by omega), true, rfl, iteF ?_⟩⟩
      refine ⟨_, rfl, _, rfl, a, _, dx, _, _, rfl, hp, T.c_r, T.n_a0, lkP, dp, none, rfl, (by rw [← pl.no (nm := nm) (fun p hp => (no p hp).1)]; exact DGet.k (k := .inr nm) hk), false, rfl, iteF ?_⟩
      refine ⟨_, rfl, a, _, dx, _, _, rfl, hp, T.c_r, T.n_a0, lkP, dp, kvs, rfl, hk, _, _, rfl, rfl, _, rfl, ifN (decide_eq_false (by have := pl.len; omega)) ?_⟩
      refine ⟨_, rfl, a, dx, _, rfl, hp, xbd (by decide +kernel), _, rfl, _, rfl, _, rfl, a, dp, do_, pw, ph, ps, nm, x, y, rfl, pic, fun p hp _ => (no p hp).2, fun H1 s1 => ?_⟩
      refine ⟨_, rfl, _, rfl, _, rfl, _, rfl, _, rfl, (by show 5 ≤ sizeLine; decide), fun q1 hq1 => ?_⟩
      have hp1 : upd H1 q1 (.tup [.int x, .int y, .str sd, .int lo, .int ph]) a = some (.ins t.C_r dx (picF pw ph dp do_)) := by rw [xh (xk (s1 _ _ hp) hq1)]; exact s1 _ _ hp
      have hk1 : upd H1 q1 (.tup [.int x, .int y, .str sd, .int lo, .int ph]) dp = some (.dK kvs) := by rw [xh (xk (s1 _ _ hk) hq1)]; exact s1 _ _ hk
      refine ⟨_, rfl, a, _, dx, _, _, rfl, hp1, T.c_r, T.n_a0, lkP, _, rfl, dp, _, rfl, DPut.k (k := .inr nm) hk1 (Nat.lt_trans (by have := pl.len; omega : kvs.length < 12) (by decide)), ?_⟩
      rw [xdj (.ref q1) (pl.no (nm := nm) (fun p hp => (no p hp).1))]
      have nq : q1 ≠ dp := fun z => by
        subst z
        rw [s1 _ _ hk] at hq1
        cases hq1
      refine q _ (fun b u nb e => ?_) ⟨⟨dx, ?_⟩, ⟨_, xf, Pl.snoc (p := ⟨nm, x, y, sd, lo, ph⟩) (pl.keep (fun b xs e => ?_)) ?_⟩, pic.w1, pic.w2, pic.h1, pic.h2, (by rw [List.length_append]; exact len)⟩
      · rw [xh nb, xh (xk (s1 _ _ e) hq1)]
        exact s1 _ _ e
      · rw [xh (xak hp1 hk1 (fun z => nomatch z))]
        exact hp1
      · have e' := s1 _ _ e
        rw [xh (xak e' (s1 _ _ hk) (fun z => nomatch z)), xh (xk e' hq1)]
        exact e'
      · rw [xh nq]
        exact xf
    · refine ⟨_, rfl, rfl, _, rfl, ifN (by rfl) ⟨_, rfl, ?_⟩⟩
      refine ⟨_, rfl, nm, rfl, hn, true, rfl, iteF ?_⟩
      refine ⟨_, rfl, a, dx, _, rfl, hp, xbd (by decide +kernel), _, rfl, _, rfl, a, dp, do_, pw, ph, ps, x, y, rfl, pic, x1, x2, y1, y2, ?_⟩
      refine ⟨_, rfl, _, _, rfl, .inl ⟨_, _, true, .str _, rfl, xa3, true, rfl, iteF ⟨_, rfl, .inr sd, rfl, false, (by rw [hsd']; rfl), iteF ?_⟩⟩⟩
      refine ⟨_, rfl, _, rfl, a, _, dx, _, _, rfl, hp, T.c_r, T.n_a1, lkH, lo, 1, ph, rfl, l1, (by omega), true, rfl, iteF ⟨_, rfl, _, rfl, _, rfl, a, _, dx, _, _, rfl, hp, T.c_r, T.n_a1, lkH, hi, lo, ph, rfl, (by omega), (by omega), true, rfl, iteF ?_⟩⟩
      refine ⟨_, rfl, _, rfl, a, _, dx, _, _, rfl, hp, T.c_r, T.n_a0, lkP, dp, none, rfl, (by rw [← pl.no (nm := nm) (fun p hp => (no p hp).1)]; exact DGet.k (k := .inr nm) hk), false, rfl, iteF ?_⟩
      refine ⟨_, rfl, a, _, dx, _, _, rfl, hp, T.c_r, T.n_a0, lkP, dp, kvs, rfl, hk, _, _, rfl, rfl, _, rfl, ifN (decide_eq_false (by have := pl.len; omega)) ?_⟩
      refine ⟨_, rfl, a, dx, _, rfl, hp, xbd (by decide +kernel), _, rfl, _, rfl, _, rfl, a, dp, do_, pw, ph, ps, nm, x, y, rfl, pic, fun p hp _ => (no p hp).2, fun H1 s1 => ?_⟩
      refine ⟨_, rfl, _, rfl, _, rfl, _, rfl, _, rfl, (by show 5 ≤ sizeLine; decide), fun q1 hq1 => ?_⟩
      have hp1 : upd H1 q1 (.tup [.int x, .int y, .str sd, .int lo, .int hi]) a = some (.ins t.C_r dx (picF pw ph dp do_)) := by rw [xh (xk (s1 _ _ hp) hq1)]; exact s1 _ _ hp
      have hk1 : upd H1 q1 (.tup [.int x, .int y, .str sd, .int lo, .int hi]) dp = some (.dK kvs) := by rw [xh (xk (s1 _ _ hk) hq1)]; exact s1 _ _ hk
      refine ⟨_, rfl, a, _, dx, _, _, rfl, hp1, T.c_r, T.n_a0, lkP, _, rfl, dp, _, rfl, DPut.k (k := .inr nm) hk1 (Nat.lt_trans (by have := pl.len; omega : kvs.length < 12) (by decide)), ?_⟩
      rw [xdj (.ref q1) (pl.no (nm := nm) (fun p hp => (no p hp).1))]
      have nq : q1 ≠ dp := fun z => by
        subst z
        rw [s1 _ _ hk] at hq1
        cases hq1
      refine q _ (fun b u nb e => ?_) ⟨⟨dx, ?_⟩, ⟨_, xf, Pl.snoc (p := ⟨nm, x, y, sd, lo, hi⟩) (pl.keep (fun b xs e => ?_)) ?_⟩, pic.w1, pic.w2, pic.h1, pic.h2, (by rw [List.length_append]; exact len)⟩
      · rw [xh nb, xh (xk (s1 _ _ e) hq1)]
        exact s1 _ _ e
      · rw [xh (xak hp1 hk1 (fun z => nomatch z))]
        exact hp1
      · have e' := s1 _ _ e
        rw [xh (xak e' (s1 _ _ hk) (fun z => nomatch z)), xh (xk e' hq1)]
        exact e'
      · rw [xh nq]
        exact xf
end
end S03
set_option maxRecDepth 100000
set_option maxHeartbeats 4000000
namespace S03
open PySem L2 XL PyProof.Rows
theorem lkO {w h : Int} {dp do_ : Addr} : (picF w h dp do_).lookup ("opened" : Str) = some (.ref do_) := by
  unfold picF
  rw [List.lookup_cons, show (("opened" : Str) == "width") = false from by decide +kernel]
  show List.lookup ("opened" : Str) [("height", V.int h), ("placed", V.ref dp), ("opened", V.ref do_)] = _
  rw [List.lookup_cons, show (("opened" : Str) == "height") = false from by decide +kernel]
  show List.lookup ("opened" : Str) [("placed", V.ref dp), ("opened", V.ref do_)] = _
  rw [List.lookup_cons, show (("opened" : Str) == "placed") = false from by decide +kernel]
  show List.lookup ("opened" : Str) [("opened", V.ref do_)] = _
  rw [List.lookup_cons, show (("opened" : Str) == "opened") = true from by decide +kernel]
abbrev Seat := Bool × Int
def xcb (s : Seat) : List Key := [.inr (xc3 s.1), .inl s.2]
def xne (s : Seat) : List V := [.str (xc3 s.1), .int s.2]
theorem xig {a b : Bool} (h : xc3 a = xc3 b) : a = b := by
  cases a <;> cases b <;> first | rfl | exact absurd h (by decide +kernel)
def Sts (H : Hp) (do_ : Addr) (ss : List Seat) : Prop := ∃ kvs : List (List Key × V), H do_ = some (.dT kvs) ∧ kvs.map (·.1) = ss.map xcb ∧ ss.Nodup ∧ ss.length ≤ 32
inductive xeo (H : Hp) : List Seat → List Addr → Prop
  | nil : xeo H [] []
  | cons {s : Seat} {q : Addr} {ss : List Seat} {qs : List Addr} (h : H q = some (.tup (xne s))) (r : xeo H ss qs) : xeo H (s :: ss) (q :: qs)
def xia (s t : Seat) : Prop := (s.1 = true ∧ t.1 = false) ∨ (s.1 = t.1 ∧ s.2 < t.2)
theorem xj8 {s t : Seat} (h : lexK (xcb s) (xcb t) = true) : xia s t := by
  obtain ⟨a, i⟩ := s
  obtain ⟨b, j⟩ := t
  unfold xcb at h
  unfold lexK at h
  by_cases e : xc3 a = xc3 b
  · rw [if_pos (by rw [e])] at h
    unfold lexK at h
    by_cases e2 : i = j
    · rw [if_pos (by rw [e2])] at h
      unfold lexK at h
      cases h
    · rw [if_neg (fun z => e2 (Sum.inl.inj z))] at h
      exact .inr ⟨xig e, of_decide_eq_true h⟩
  · rw [if_neg (fun z => e (Sum.inr.inj z))] at h
    cases a <;> cases b
    · exact absurd rfl e
    · exact absurd h (by show ¬ xb4 (.inr (xc3 false)) (.inr (xc3 true)) = true; decide +kernel)
    · exact .inl ⟨rfl, rfl⟩
    · exact absurd rfl e
def unK : List Key → Seat
  | [.inr s, .inl r] => (decide (s = "left"), r)
  | _ => (true, 0)
theorem xf6 (s : Seat) : unK (xcb s) = s := by
  obtain ⟨b, r⟩ := s
  cases b
  · show (decide (("right" : Str) = "left"), r) = _
    rw [decide_eq_false (by decide +kernel)]
  · show (decide (("left" : Str) = "left"), r) = _
    rw [decide_eq_true rfl]
def xll (t : Adr) : Sp := fun vs H Q _ => ∃ (a dp do_ : Addr) (pw ph : Int) (ps : List Pt) (ss : List Seat), vs = [.ref a] ∧ Pic t H a dp do_ pw ph ps ∧ Sts H do_ ss ∧
  ∀ (l : Addr) (ss' : List Seat) (qs : List Addr), H l = none → xeo H ss' qs → ss'.Perm ss → ss'.Pairwise xia → Q (.ref l) (upd H l (.lst (qs.map V.ref)))
section
variable {P : Program} {w : World} {K : PySem.W.Frag} {mg : Str → Option Value} {base : Heap} {t : Adr}
theorem ok_s (T : Txt w K mg t) : FnOk true P w K mg base (CXo P w) 1 t.f_s t.d_s ["self"] (xll t) := by
  refine T.F_s.okn (k := 0) sc_s (fun vs H Q E h => ?_) (fun cdv A outer s H vs Q E hr h => ?_)
  · obtain ⟨a, dp, do_, pw, ph, ps, ss, rfl, _⟩ := h
    rfl
  · obtain ⟨a, dp, do_, pw, ph, ps, ss, rfl, h⟩ := h
    refine ⟨_, xn (xai (xx (xgo rfl) rfl T.n_sorted PyProof.Rows.Boot.«sorted» (xb (xaz (pv 0) rfl) (xj)))), ?_⟩
    obtain ⟨pic, st, q⟩ := h
    obtain ⟨⟨dx, hp⟩, _, _⟩ := id pic
    obtain ⟨kvs, hk, ek, nd, l32⟩ := id st
    have kl : kvs.length = ss.length := by
      have := congrArg List.length ek
      simpa using this
    refine ⟨_, rfl, a, _, dx, _, _, rfl, hp, T.c_r, T.n_a8, lkO, do_, kvs, [false, true], rfl, hk, by omega, fun p hp' => ?_, by decide, fun l ts fr tm pm pw' => ?_⟩
    · have m : p.1 ∈ kvs.map (·.1) := List.mem_map.mpr ⟨p, hp', rfl⟩
      rw [ek] at m
      obtain ⟨s, _, e⟩ := List.mem_map.mp m
      rw [← e]
      rfl
    rw [ek] at pm
    have back : ∀ t ∈ ts, xcb (unK t.1) = t.1 := fun t ht => by
      obtain ⟨s, _, e⟩ := List.mem_map.mp (pm.mem_iff.mp (List.mem_map.mpr ⟨t, ht, rfl⟩))
      rw [← e, xf6]
    have z := q l ((ts.map (·.1)).map unK) (ts.map (·.2)) fr ?_ ?_ ?_
    · rw [List.map_map] at z
      exact z
    · clear pm pw'
      induction ts with
      | nil => exact .nil
      | cons t ts ih =>
        refine .cons ?_ (ih (fun x hx => tm x (List.mem_cons_of_mem _ hx)) fun x hx => back x (List.mem_cons_of_mem _ hx))
        have e := tm t List.mem_cons_self
        rw [← back t List.mem_cons_self] at e
        exact e
    · have z2 := pm.map unK
      have e2 : (ss.map xcb).map unK = ss := by
        rw [List.map_map, show (unK ∘ xcb) = id from funext xf6]
        exact List.map_id _
      rw [e2] at z2
      exact z2
    · rw [List.pairwise_map] at pw'
      rw [List.map_map, List.pairwise_map]
      refine pw'.imp_of_mem fun {x y} hx hy hxy => xj8 ?_
      show lexK (xcb (unK x.1)) (xcb (unK y.1)) = true
      rw [back x hx, back y hy]
      exact hxy
end
end S03
set_option maxRecDepth 100000
set_option maxHeartbeats 4000000
namespace S03
open PySem L2 XL PyProof.Rows
def xlr (t : Adr) : Sp := fun vs H Q _ => ∃ (a dp do_ : Addr) (pw ph : Int) (ps : List Pt), vs = [.ref a] ∧ Pic t H a dp do_ pw ph ps ∧ ∀ H' l qs, H l = none → Same H H' → H' l = some (.lst (qs.map V.ref)) → PtsL H' ps qs → Q (.ref l) H'
section
variable {P : Program} {w : World} {K : PySem.W.Frag} {mg : Str → Option Value} {base : Heap} {t : Adr}
theorem okF_h (T : Txt w K mg t) : FnOk true P w K mg base (CXo P w) 1 t.f_h t.d_h ["self"] (xlr t) := by
  refine T.F_h.okn (k := 0) sc_h (fun vs H Q E h => ?_) (fun cdv A outer s H vs Q E hr h => ?_)
  · obtain ⟨a, dp, do_, pw, ph, ps, rfl, _⟩ := h
    rfl
  · obtain ⟨a, dp, do_, pw, ph, ps, rfl, h⟩ := h
    refine ⟨_, xn (xai (xg2 (xdi rfl (xb2 (zs := ["name", "rest"]) (ys := []) (fr := []) (N0 := ["self"]) (sc0 := xp s_h) (by decide +kernel) rfl rfl rfl) (xgp (xaz (pv 0) rfl)) (fun _ _ _ _ _ ow nd => (xfz rfl (xa7 (xap (i := 0) nd rfl (Or.inl (ow _ (by simp))) (Or.inr (ow _ (by simp)))) (xa7 (xap (i := 1) nd rfl (Or.inl (ow _ (by simp))) (Or.inr (ow _ (by simp)))) (xdt))) : PG _ _ (gTup K 2 _))) (xg8 (xcz (by decide) (xcz (by decide) (xgb)))) (fun _ _ _ _ _ => xdb) (fun _ _ _ _ _ => xq (r := xh3 K) xey (xbg (xb (pv 0) (xj))) (pv 1))))), ?_⟩
    obtain ⟨pic, q⟩ := h
    obtain ⟨⟨dx, hp⟩, ⟨kvs, hk, pl⟩, _⟩ := id pic
    refine ⟨_, rfl, a, _, dx, _, _, rfl, hp, T.c_r, T.n_a0, lkP, dp, kvs, rfl, hk, fun ob nf l hl => ?_⟩
    have nl : l ≠ dp := fun z => by
      rw [z, xf] at hl
      cases hl
    have hl0 : H l = none := by rwa [xh nl] at hl
    refine xcy kvs.length (fun i xs H2 => ∃ qs : List Addr, xs = qs.map V.ref ∧ qs.length ≤ i ∧ H2 dp = some (.frz ob (.dK kvs)) ∧ (∀ b u, b ≠ dp → H b = some u → H2 b = some u) ∧ H2 l = some (.lst xs) ∧ PtsL H2 (ps.take i) qs) ?_ ?_ ?_ ?_
    · refine ⟨[], rfl, Nat.le_refl _, ?_, fun b u nb e => ?_, xf, by simpa using PtsL.nil⟩
      · rw [xh (Ne.symm nl)]
        exact xf
      · rw [xh (xk e hl0), xh nb]
        exact e
    · rintro i xs H2 lt ⟨qs, _, _, hd, _⟩
      exact ⟨hd, lt⟩
    · rintro i xs H2 v H3 lt ⟨qs, rfl, ql, hd, sm, hl2, pts⟩ ⟨p, k, x, hx, rfl, hpn, rfl⟩ N hN
      obtain ⟨pt, q0, hpt, rfl, rfl, hq0⟩ := pl.get hx
      have e0 : H2 q0 = some (.tup (ptV pt)) := sm _ _ (xak hq0 hk (fun z => nomatch z)) hq0
      refine ⟨p, _, rfl, SqT.of xf, rfl, _, _, rfl, _, _, rfl, rfl, ?_⟩
      refine xj9 ?_
      have n0 : q0 ≠ p := xk e0 hpn
      refine ⟨_, rfl, (by show 1 ≤ sizeLine; decide), fun p1 h1 => ⟨_, rfl, p1, q0, _, ptV pt, rfl, rfl, SqT.of xf, SqT.of ?_, (by simp), (by show 1 + 5 ≤ sizeLine; decide), (fun z => nomatch z), fun _ p2 h2 => ?_⟩⟩
      · rw [xh (xk (by rw [xh n0]; exact e0) h1), xh n0]
        exact e0
      have up : ∀ b u, H2 b = some u → (upd (upd (upd H2 p (.tup [.str pt.nm, .ref q0])) p1 (.tup [.str pt.nm])) p2 (.tup ([.str pt.nm] ++ ptV pt))) b = some u := fun b u e => by
        have c1 : b ≠ p := xk e hpn
        have e1 : upd H2 p (.tup [.str pt.nm, .ref q0]) b = some u := by rw [xh c1]; exact e
        have c2 : b ≠ p1 := xk e1 h1
        have e2 : upd (upd H2 p (.tup [.str pt.nm, .ref q0])) p1 (.tup [.str pt.nm]) b = some u := by rw [xh c2]; exact e1
        rw [xh (xk e2 h2)]
        exact e2
      have c3 : l ≠ p2 := xk (show upd (upd H2 p (.tup [.str pt.nm, .ref q0])) p1 (.tup [.str pt.nm]) l = some (.lst (qs.map V.ref)) from by
        have c1 : l ≠ p := xk hl2 hpn
        have e1 : upd H2 p (.tup [.str pt.nm, .ref q0]) l = some (.lst (qs.map V.ref)) := by rw [xh c1]; exact hl2
        rw [xh (xk e1 h1)]
        exact e1) h2
      have tk : ps.take (i + 1) = ps.take i ++ [pt] := by
        rw [List.take_add_one, hpt]
        rfl
      have ll : qs.length < sizeLine := Nat.lt_trans (by have := pl.len; have := pic.len; omega : qs.length < 13) (by decide)
      refine ⟨up _ _ hl2, by rw [List.length_map]; exact ll, hN _ _ ⟨qs ++ [p2], by simp, by simp; omega, ?_, fun b u nb e => ?_, xf, ?_⟩⟩
      · rw [xh (Ne.symm nl)]
        exact up _ _ hd
      · have e2 := up _ _ (sm b u nb e)
        rw [xh (xk e hl0)]
        exact e2
      · rw [tk]
        refine PtsL.snoc (PtsL.keep (fun b xs e => ?_) pts) ?_
        · have e2 := up _ _ e
          rw [xh (xak e2 (up _ _ hl2) (fun z => nomatch z))]
          exact e2
        · rw [xh (Ne.symm c3)]
          exact xf
    · rintro xs H2 ⟨qs, rfl, _, hd, sm, hl2, pts⟩
      refine ⟨⟨hd, Nat.le_refl _⟩, dp, ob, _, hd, nf, q _ l qs hl0 (fun b u e => ?_) ?_ (PtsL.keep (fun b xs e => ?_) (by rw [pl.len, List.take_length] at pts; exact pts))⟩
      · by_cases c : b = dp
        · subst c
          rw [hk] at e
          cases e
          exact xf
        · rw [xh c]
          exact sm b u c e
      · rw [xh nl]
        exact hl2
      · rw [xh (xak e hd (fun z => nomatch z))]
        exact e
end
end S03
set_option maxRecDepth 100000
set_option maxHeartbeats 4000000
namespace S03
open PySem L2 XL PyProof.Rows
def scD : V → DV
  | .int i => .int i
  | .bl b => .bl b
  | .str s => .str s
  | _ => .non
def scV : V → Bool
  | .int _ => true
  | .bl _ => true
  | .str _ => true
  | .non => true
  | _ => false
inductive Thg (H : Hp) : V → DV → Prop
  | non : Thg H .non .non
  | bl (b : Bool) : Thg H (.bl b) (.bl b)
  | int (i : Int) : Thg H (.int i) (.int i)
  | str (s : Str) (h : s.length ≤ 1000) : Thg H (.str s) (.str s)
  | lst {q : Addr} {xs : List V} (h : H q = some (.lst xs)) (f : xs.all scV = true) : Thg H (.ref q) (.lst (xs.map scD))
  | tup {q : Addr} {xs : List V} (h : H q = some (.tup xs)) (f : xs.all scV = true) : Thg H (.ref q) (.tup (xs.map scD))
theorem Thg.same {H H' : Hp} (s : Same H H') {v : V} {d : DV} (h : Thg H v d) : Thg H' v d := by
  cases h with
  | non => exact .non
  | bl b => exact .bl b
  | int i => exact .int i
  | str s h => exact .str s h
  | lst h f => exact .lst (s _ _ h) f
  | tup h f => exact .tup (s _ _ h) f
theorem xm1 {K : PySem.W.Frag} {H : Hp} {v : V} (h : scV v = true) : Dv K H 0 v (scD v) := by
  cases v with
  | int i => exact .int
  | bl b => exact .bl
  | str s => exact .str
  | non => exact .non
  | _ => cases h
theorem xiw {K : PySem.W.Frag} {H : Hp} {xs : List V} (f : xs.all scV = true) (j : Nat) (x : V) (d : DV) (h1 : xs[j]? = some x) (h2 : (xs.map scD)[j]? = some d) : Dv K H 0 x d := by
  rw [List.getElem?_map, h1] at h2
  cases h2
  exact xm1 (List.all_eq_true.mp f x (List.mem_of_getElem? h1))
theorem Thg.dv {K : PySem.W.Frag} {H : Hp} {v : V} {d : DV} (h : Thg H v d) : Dv K H 1 v d := by
  cases h with
  | non => exact .non
  | bl b => exact .bl
  | int i => exact .int
  | str s h => exact .str
  | lst h f => exact .lst (SqL.of h) (by rw [List.length_map]) (xiw f)
  | tup h f => exact .tup (SqT.of h) (by rw [List.length_map]) (xiw f)
def xr : DV → Int → Int → Bool
  | .int i, lo, hi => decide (lo ≤ i) && decide (i ≤ hi)
  | _, _, _ => false
theorem xa0 {d : DV} {lo hi : Int} (h : xr d lo hi = true) : ∃ i, d = .int i ∧ lo ≤ i ∧ i ≤ hi := by
  cases d with
  | int i =>
    simp only [xr, Bool.and_eq_true, decide_eq_true_eq] at h
    exact ⟨i, rfl, h.1, h.2⟩
  | _ => cases h
def intD : DV → Int
  | .int i => i
  | _ => 0
theorem Thg.int_of {H : Hp} {v : V} {i : Int} (h : Thg H v (.int i)) : v = .int i := by cases h; rfl
theorem Thg.str_of {H : Hp} {v : V} {s : Str} (h : Thg H v (.str s)) : v = .str s := by cases h; rfl
def xdr : DV → Bool
  | .str s => isNm s
  | _ => false
inductive Er where
  | noName (v0 : V)
  | noCell (v0 : V) (v1 : V)
  | noSides (v0 : V)
  | noWindow (v0 : V) (v1 : V)
  | oldPoint (v0 : V)
  | tooMany
  | sameColumn (v0 : V)
  | sameRow (v0 : V)
  | noSize
def Er.cls (t : Adr) : Er → Addr
  | .noName _ => t.C_o
  | .noCell _ _ => t.C_l
  | .noSides _ => t.C_g
  | .noWindow _ _ => t.C_d
  | .oldPoint _ => t.C_f
  | .tooMany => t.C_i
  | .sameColumn _ => t.C_a
  | .sameRow _ => t.C_j
  | .noSize => t.C_k
def Er.fs : Er → List (Str × V)
  | .noName v0 => [("name", v0)]
  | .noCell v0 v1 => [("x", v0), ("y", v1)]
  | .noSides v0 => [("sides", v0)]
  | .noWindow v0 v1 => [("low", v0), ("high", v1)]
  | .oldPoint v0 => [("name", v0)]
  | .tooMany => []
  | .sameColumn v0 => [("name", v0)]
  | .sameRow v0 => [("name", v0)]
  | .noSize => []
def Er.told : Er → List V
  | .noName v0 => [.str "name", v0]
  | .noCell v0 v1 => [.str "cell", v0, v1]
  | .noSides v0 => [.str "sides", v0]
  | .noWindow v0 v1 => [.str "window", v0, v1]
  | .oldPoint v0 => [.str "old", v0]
  | .tooMany => [.str "many"]
  | .sameColumn v0 => [.str "column", v0]
  | .sameRow v0 => [.str "row", v0]
  | .noSize => [.str "size"]
def ErAt (t : Adr) (H : Hp) (e : Addr) (er : Er) : Prop := (er.fs = [] ∧ H e = some (XO e (er.cls t) none)) ∨ (er.fs ≠ [] ∧ ∃ dx, H e = some (XO e (er.cls t) (some dx)) ∧ H dx = some (XD dx er.fs))
def xa9 (t : Adr) (H H' : Hp) (e : Addr) (er : Er) : Prop := Same H H' ∧ ErAt t H' e er
theorem xa9.pre {t : Adr} {H H1 H' : Hp} {e : Addr} {er : Er} (s : Same H H1) (h : xa9 t H1 H' e er) : xa9 t H H' e er := ⟨s.trans h.1, h.2⟩
theorem ErAt.same {t : Adr} {H H' : Hp} {e : Addr} {er : Er} (s : Same H H') (h : ErAt t H e er) : ErAt t H' e er := by
  rcases h with ⟨a, b⟩ | ⟨ne, dx, a, b⟩
  · exact .inl ⟨a, s _ _ b⟩
  · exact .inr ⟨ne, dx, s _ _ a, s _ _ b⟩
def Outs (t : Adr) (H : Hp) (out : Option Er) (E : XK) (D : Prop) : Prop := (∀ er, out = some er → ∀ e H', xa9 t H H' e er → E e (er.cls t) H') ∧ (out = none → D)
def spX1 (C : Addr) (f : Str) : Sp := fun vs H Q _ => ∃ (e : Addr) (v : V), vs = [.ref e, v] ∧ H e = some (XN e C none) ∧ ∀ dx, H dx = none → Q .non (upd (upd H dx (XD dx [(f, v)])) e (XN e C (some dx)))
def spX2 (C : Addr) (f g : Str) : Sp := fun vs H Q _ => ∃ (e : Addr) (v w : V), vs = [.ref e, v, w] ∧ H e = some (XN e C none) ∧ ∀ dx, H dx = none → Q .non (upd (upd (upd H dx (XD dx [(f, v)])) e (XN e C (some dx))) dx (XD dx (putF g w [(f, v)])))
theorem lk_1 {f : Str} {v : V} {r : List (Str × V)} : ((f, v) :: r).lookup f = some v := by simp
theorem lk_2 {f g : Str} {v w : V} (h : (g == f) = false) : ([(f, v), (g, w)] : List (Str × V)).lookup g = some w := by
  rw [List.lookup_cons, h]
  simp
theorem xa1 {t : Adr} {H : Hp} {e dx C : Addr} {er : Er} {fs : List (Str × V)} (hc : er.cls t = C) (hf : er.fs = fs) (he : H e = none) (hdx : upd H e (XN e C none) dx = none) (hn : fs ≠ [] := by (intro z; cases z)) : xa9 t H (upd (upd (upd (upd H e (XN e C none)) dx (XD dx fs)) e (XN e C (some dx))) e (XO e C (some dx))) e er := by
  have ne : dx ≠ e := fun z => by rw [z, xf] at hdx; cases hdx
  rw [xh ne] at hdx
  subst hc hf
  refine ⟨fun y o q => ?_, .inr ⟨hn, dx, xf, ?_⟩⟩
  · rw [xh (xk q he), xh (xk q he), xh (xk q hdx), xh (xk q he)]
    exact q
  · rw [xh ne, xh ne, xf]
theorem xcq {t : Adr} {H : Hp} {e dx C : Addr} {er : Er} {fs fs0 : List (Str × V)} (hc : er.cls t = C) (hf : er.fs = fs) (he : H e = none) (hdx : upd H e (XN e C none) dx = none) (hn : fs ≠ [] := by (intro z; cases z)) : xa9 t H (upd (upd (upd (upd (upd H e (XN e C none)) dx (XD dx fs0)) e (XN e C (some dx))) dx (XD dx fs)) e (XO e C (some dx))) e er := by
  have ne : dx ≠ e := fun z => by rw [z, xf] at hdx; cases hdx
  rw [xh ne] at hdx
  subst hc hf
  refine ⟨fun y o q => ?_, .inr ⟨hn, dx, xf, ?_⟩⟩
  · rw [xh (xk q he), xh (xk q hdx), xh (xk q he), xh (xk q hdx), xh (xk q he)]
    exact q
  · rw [xh ne, xf]
theorem xcp {H : Hp} {e dx C : Addr} {a b c : HO} (hdx : upd H e a dx = none) : upd (upd (upd (upd H e a) dx b) e (XN e C (some dx))) dx c e = some (XN e C (some dx)) := by
  have ne : dx ≠ e := fun z => by rw [z, xf] at hdx; cases hdx
  rw [xh (Ne.symm ne), xf]
theorem xd0 {t : Adr} {H : Hp} {e C : Addr} {er : Er} (hc : er.cls t = C) (hf : er.fs = []) (he : H e = none) : xa9 t H (upd (upd H e (XN e C none)) e (XO e C none)) e er := by
  subst hc
  refine ⟨fun y o q => ?_, .inl ⟨hf, xf⟩⟩
  rw [xh (xk q he), xh (xk q he)]
  exact q
section
variable {P : Program} {w : World} {K : PySem.W.Frag} {mg : Str → Option Value} {base : Heap} {t : Adr}
theorem ok_ac (T : Txt w K mg t) : FnOk true P w K mg base (CXo P w) 1 t.f_ac t.d_ac ["self", "name"] (spX1 t.C_o "name") := by
  refine T.F_ac.okn (k := 0) sc_ac (fun vs H Q E h => ?_) (fun cdv A outer s H vs Q E hr h => ?_)
  · obtain ⟨e, v, rfl, _⟩ := h
    rfl
  · obtain ⟨e, v, rfl, h⟩ := h
    refine ⟨_, xn (xbw (pv 0) (pv 1) rfl), ?_⟩
    obtain ⟨he, q⟩ := h
    exact ⟨_, rfl, _, rfl, e, t.C_o, rfl, T.x_o, T.n_ee, .inl ⟨he, q⟩⟩
theorem ok_ad (T : Txt w K mg t) : FnOk true P w K mg base (CXo P w) 1 t.f_ad t.d_ad ["self", "x", "y"] (spX2 t.C_l "x" "y") := by
  refine T.F_ad.okn (k := 0) sc_ad (fun vs H Q E h => ?_) (fun cdv A outer s H vs Q E hr h => ?_)
  · obtain ⟨e, v, w2, rfl, _⟩ := h
    rfl
  · obtain ⟨e, v, w2, rfl, h⟩ := h
    refine ⟨_, xm (xbw (pv 0) (pv 1) rfl)
      (xn (xbw (pv 0) (pv 2) rfl)), ?_⟩
    obtain ⟨he, q⟩ := h
    refine ⟨_, rfl, _, rfl, e, t.C_l, rfl, T.x_l, T.n_fu, .inl ⟨he, fun dx hdx => ?_⟩⟩
    have ne : dx ≠ e := fun z => by rw [z, he] at hdx; cases hdx
    exact ⟨_, rfl, _, rfl, e, t.C_l, rfl, T.x_l, T.n_ft, .inr ⟨dx, _, xf, (by rw [xh ne]; exact xf), (by show 1 < 1000; decide), q dx hdx⟩⟩
theorem ok_z (T : Txt w K mg t) : FnOk true P w K mg base (CXo P w) 1 t.f_z t.d_z ["self", "sides"] (spX1 t.C_g "sides") := by
  refine T.F_z.okn (k := 0) sc_z (fun vs H Q E h => ?_) (fun cdv A outer s H vs Q E hr h => ?_)
  · obtain ⟨e, v, rfl, _⟩ := h
    rfl
  · obtain ⟨e, v, rfl, h⟩ := h
    refine ⟨_, xn (xbw (pv 0) (pv 1) rfl), ?_⟩
    obtain ⟨he, q⟩ := h
    exact ⟨_, rfl, _, rfl, e, t.C_g, rfl, T.x_g, T.n_c2, .inl ⟨he, q⟩⟩
theorem ok_w (T : Txt w K mg t) : FnOk true P w K mg base (CXo P w) 1 t.f_w t.d_w ["self", "low", "high"] (spX2 t.C_d "low" "high") := by
  refine T.F_w.okn (k := 0) sc_w (fun vs H Q E h => ?_) (fun cdv A outer s H vs Q E hr h => ?_)
  · obtain ⟨e, v, w2, rfl, _⟩ := h
    rfl
  · obtain ⟨e, v, w2, rfl, h⟩ := h
    refine ⟨_, xm (xbw (pv 0) (pv 1) rfl)
      (xn (xbw (pv 0) (pv 2) rfl)), ?_⟩
    obtain ⟨he, q⟩ := h
    refine ⟨_, rfl, _, rfl, e, t.C_d, rfl, T.x_d, T.n_du, .inl ⟨he, fun dx hdx => ?_⟩⟩
    have ne : dx ≠ e := fun z => by rw [z, he] at hdx; cases hdx
    exact ⟨_, rfl, _, rfl, e, t.C_d, rfl, T.x_d, T.n_c3, .inr ⟨dx, _, xf, (by rw [xh ne]; exact xf), (by show 1 < 1000; decide), q dx hdx⟩⟩
theorem ok_x (T : Txt w K mg t) : FnOk true P w K mg base (CXo P w) 1 t.f_x t.d_x ["self", "name"] (spX1 t.C_f "name") := by
  refine T.F_x.okn (k := 0) sc_x (fun vs H Q E h => ?_) (fun cdv A outer s H vs Q E hr h => ?_)
  · obtain ⟨e, v, rfl, _⟩ := h
    rfl
  · obtain ⟨e, v, rfl, h⟩ := h
    refine ⟨_, xn (xbw (pv 0) (pv 1) rfl), ?_⟩
    obtain ⟨he, q⟩ := h
    exact ⟨_, rfl, _, rfl, e, t.C_f, rfl, T.x_f, T.n_c4, .inl ⟨he, q⟩⟩
theorem ok_m (T : Txt w K mg t) : FnOk true P w K mg base (CXo P w) 1 t.f_m t.d_m ["self", "name"] (spX1 t.C_a "name") := by
  refine T.F_m.okn (k := 0) sc_m (fun vs H Q E h => ?_) (fun cdv A outer s H vs Q E hr h => ?_)
  · obtain ⟨e, v, rfl, _⟩ := h
    rfl
  · obtain ⟨e, v, rfl, h⟩ := h
    refine ⟨_, xn (xbw (pv 0) (pv 1) rfl), ?_⟩
    obtain ⟨he, q⟩ := h
    exact ⟨_, rfl, _, rfl, e, t.C_a, rfl, T.x_a, T.n_bh, .inl ⟨he, q⟩⟩
theorem ok_aa (T : Txt w K mg t) : FnOk true P w K mg base (CXo P w) 1 t.f_aa t.d_aa ["self", "name"] (spX1 t.C_j "name") := by
  refine T.F_aa.okn (k := 0) sc_aa (fun vs H Q E h => ?_) (fun cdv A outer s H vs Q E hr h => ?_)
  · obtain ⟨e, v, rfl, _⟩ := h
    rfl
  · obtain ⟨e, v, rfl, h⟩ := h
    refine ⟨_, xn (xbw (pv 0) (pv 1) rfl), ?_⟩
    obtain ⟨he, q⟩ := h
    exact ⟨_, rfl, _, rfl, e, t.C_j, rfl, T.x_j, T.n_dw, .inl ⟨he, q⟩⟩
end
end S03
set_option maxRecDepth 100000
set_option maxHeartbeats 4000000
namespace S03
open PySem L2 XL PyProof.Rows
def spWT : Sp := fun vs H Q _ => ∃ (x : V) (d : DV) (lo hi : Int), vs = [x, .int lo, .int hi] ∧ Thg H x d ∧ Q (.bl (xr d lo hi)) H
def spNT : Sp := fun vs H Q _ => ∃ (x : V) (d : DV), vs = [x] ∧ Thg H x d ∧ Q (.bl (xdr d)) H
section
variable {P : Program} {w : World} {K : PySem.W.Frag} {mg : Str → Option Value} {base : Heap} {t : Adr}
theorem okT_t (T : Txt w K mg t) : FnOk true P w K mg base (CXo P w) 1 t.f_t t.d_t ["thing", "low", "high"] (spWT) := by
  refine T.F_t.okn (k := 0) sc_t (fun vs H Q E h => ?_) (fun cdv A outer s H vs Q E hr h => ?_)
  · obtain ⟨x, d, lo, hi, rfl, _⟩ := h
    rfl
  · obtain ⟨x, d, lo, hi, rfl, h⟩ := h
    refine ⟨_, xn (xai (xbo (xx xaa rfl T.n_isinstance boot_isinstance (xb (pv 0) (xb (xa5 (v := .ty "int") rfl T.n_int boot_int rfl) (xj)))) (xbo (xef (xx xaa rfl T.n_isinstance boot_isinstance (xb (pv 0) (xb (xa5 (v := .ty "bool") rfl T.n_bool boot_bool rfl) (xj))))) (xcv (xcu xdy xdy (pv 1) (pv 0) (pv 2)))))), ?_⟩
    obtain ⟨tx, q⟩ := h
    cases tx with
    | int i =>
      refine ⟨_, rfl, _, _, rfl, .inl ⟨_, _, true, .int i, rfl, xa3, true, rfl, iteT ?_⟩⟩
      refine ⟨_, rfl, _, _, rfl, .inl ⟨_, _, false, .int i, rfl, (by rfl), false, rfl, true, rfl, iteT ?_⟩⟩
      refine ⟨_, rfl, _, rfl, _, _, rfl, rfl, _, rfl, ite2 (fun c => ?_) (fun c => ?_)⟩
      · refine ⟨_, rfl, _, _, rfl, rfl, ?_⟩
        change Q (.bl (decide (lo ≤ i) && decide (i ≤ hi))) H at q
        rw [c, Bool.true_and] at q
        exact q
      · change Q (.bl (decide (lo ≤ i) && decide (i ≤ hi))) H at q
        rw [Bool.eq_false_iff.mpr c, Bool.false_and] at q
        exact q
    | bl b =>
      refine ⟨_, rfl, _, _, rfl, .inl ⟨_, _, true, .bl b, rfl, (by rfl), true, rfl, iteT ?_⟩⟩
      exact ⟨_, rfl, _, _, rfl, .inl ⟨_, _, true, .bl b, rfl, xa3, true, rfl, false, rfl, iteF q⟩⟩
    | str y => exact ⟨_, rfl, _, _, rfl, .inl ⟨_, _, false, .str y, rfl, (by rfl), false, rfl, iteF q⟩⟩
    | non => exact ⟨_, rfl, _, _, rfl, .inl ⟨_, _, false, .non, rfl, (by rfl), false, rfl, iteF q⟩⟩
    | lst hq => exact ⟨_, rfl, _, _, rfl, .inl ⟨_, _, false, .lst hq, rfl, (by rfl), false, rfl, iteF q⟩⟩
    | tup hq => exact ⟨_, rfl, _, _, rfl, .inl ⟨_, _, false, .tup hq, rfl, (by rfl), false, rfl, iteF q⟩⟩
theorem okT_aq (T : Txt w K mg t) : FnOk true P w K mg base (CXo P w) 1 t.f_aq t.d_aq ["thing"] (spNT) := by
  refine T.F_aq.okn (k := 0) sc_aq (fun vs H Q E h => ?_) (fun cdv A outer s H vs Q E hr h => ?_)
  · obtain ⟨v, d, rfl, _⟩ := h
    rfl
  · obtain ⟨v, d, rfl, h⟩ := h
    refine ⟨_, xn (xai (xbo (xx xaa rfl T.n_isinstance boot_isinstance (xb (pv 0) (xb (xa5 (v := .ty "str") rfl T.n_str boot_str rfl) (xj)))) (xbo (xd2 xbq (xx xcw rfl T.n_len boot_len (xb (pv 0) (xj))) (xg) (xan _)) (xcv (xcu xc1 xc1 (x4) (pv 0) (x4)))))), ?_⟩
    obtain ⟨tx, q⟩ := h
    cases tx with
    | str x xl =>
      refine ⟨_, rfl, _, _, rfl, .inl ⟨_, _, true, .str x, rfl, xa3, true, rfl, iteT ?_⟩⟩
      refine ⟨_, rfl, _, rfl, (by first | exact Nat.lt_of_le_of_lt xl (by decide) | exact Nat.le_trans xl (by decide) | omega), rfl, _, rfl, ite2 (fun c => ?_) (fun c => ?_)⟩
      · have l1 : x.length = 1 := by
          have z : (x.length : Int) = 1 := by simpa using c
          omega
        change Q (.bl (isNm x)) H at q
        unfold isNm at q
        rw [decide_eq_true l1, Bool.true_and] at q
        refine ⟨_, rfl, _, _, rfl, rfl, _, rfl, ite2 (fun d => ?_) (fun d => ?_)⟩
        · refine ⟨_, _, rfl, rfl, ?_⟩
          rw [xhm] at d
          rw [xkh]
          rw [d, Bool.true_and] at q
          exact q
        · rw [xhm] at d
          rw [Bool.eq_false_iff.mpr d, Bool.false_and] at q
          exact q
      · have l1 : ¬ x.length = 1 := fun z => c (by rw [z]; rfl)
        change Q (.bl (isNm x)) H at q
        unfold isNm at q
        rw [decide_eq_false l1, Bool.false_and] at q
        exact q
    | int i => exact ⟨_, rfl, _, _, rfl, .inl ⟨_, _, false, .int i, rfl, (by rfl), false, rfl, iteF q⟩⟩
    | bl b => exact ⟨_, rfl, _, _, rfl, .inl ⟨_, _, false, .bl b, rfl, (by rfl), false, rfl, iteF q⟩⟩
    | non => exact ⟨_, rfl, _, _, rfl, .inl ⟨_, _, false, .non, rfl, (by rfl), false, rfl, iteF q⟩⟩
    | lst hq => exact ⟨_, rfl, _, _, rfl, .inl ⟨_, _, false, .lst hq, rfl, (by rfl), false, rfl, iteF q⟩⟩
    | tup hq => exact ⟨_, rfl, _, _, rfl, .inl ⟨_, _, false, .tup hq, rfl, (by rfl), false, rfl, iteF q⟩⟩
end
end S03
set_option maxRecDepth 100000
set_option maxHeartbeats 4000000
namespace S03
open PySem L2 XL PyProof.Rows
structure PtOk (w h : Int) (p : Pt) : Prop where
  nm : isNm p.nm = true
  x1 : 1 ≤ p.x
  x2 : p.x ≤ w
  y1 : 1 ≤ p.y
  y2 : p.y ≤ h
  sd : p.sd = "left" ∨ p.sd = "right" ∨ p.sd = "both"
  l1 : 1 ≤ p.lo
  l2 : p.lo ≤ p.hi
  l3 : p.hi ≤ h
structure xfn (w h : Int) (ps : List Pt) : Prop where
  ok : ∀ p ∈ ps, PtOk w h p
  nn : (ps.map (·.nm)).Nodup
  nx : (ps.map (·.x)).Nodup
  ny : (ps.map (·.y)).Nodup
  le : ps.length ≤ 12
def ptD (p : Pt) : DV := .tup [.str p.nm, .int p.x, .int p.y, .str p.sd, .int p.lo, .int p.hi]
theorem xm5 {K : PySem.W.Frag} {H : Hp} {q : Addr} {p : Pt} (h : H q = some (.tup (.str p.nm :: ptV p))) : Dv K H 1 (.ref q) (ptD p) := by
  refine .tup (SqT.of h) rfl fun j x d h1 h2 => ?_
  match j, h1, h2 with
  | 0, h1, h2 => cases h1; cases h2; exact .str
  | 1, h1, h2 => cases h1; cases h2; exact .int
  | 2, h1, h2 => cases h1; cases h2; exact .int
  | 3, h1, h2 => cases h1; cases h2; exact .str
  | 4, h1, h2 => cases h1; cases h2; exact .int
  | 5, h1, h2 => cases h1; cases h2; exact .int
  | j + 6, h1, h2 => simp [ptV] at h1
theorem PtsL.dv {K : PySem.W.Frag} {H : Hp} {ps : List Pt} {qs : List Addr} (h : PtsL H ps qs) {l : Addr} (e : H l = some (.lst (qs.map V.ref))) : Dv K H 2 (.ref l) (.lst (ps.map ptD)) := by
  refine .lst (SqL.of e) (by rw [List.length_map, List.length_map, h.len]) fun j x d h1 h2 => ?_
  rw [List.getElem?_map] at h1 h2
  obtain ⟨q, hq, rfl⟩ := Option.map_eq_some_iff.mp h1
  obtain ⟨p, hp, rfl⟩ := Option.map_eq_some_iff.mp h2
  obtain ⟨p', hp', e'⟩ := h.get hq
  rw [hp] at hp'
  cases hp'
  exact xm5 e'
theorem PtsL.pick {H : Hp} : ∀ {ps : List Pt} {ys : List V}, ys.length = ps.length → (∀ (j : Nat) (y : V) (p : Pt), ys[j]? = some y → ps[j]? = some p → ∃ q, y = .ref q ∧ H q = some (.tup (.str p.nm :: ptV p))) → ∃ rs : List Addr, ys = rs.map V.ref ∧ PtsL H ps rs
  | [], [], _, _ => ⟨[], rfl, .nil⟩
  | [], _ :: _, h, _ => by cases h
  | _ :: _, [], h, _ => by cases h
  | s :: ss, y :: ys, h, k => by
    obtain ⟨q, e, hq⟩ := k 0 y s rfl rfl
    obtain ⟨rs, e2, r⟩ := PtsL.pick (ps := ss) (ys := ys) (by simpa using h) fun j y s h1 h2 => k (j + 1) y s (by simpa using h1) (by simpa using h2)
    exact ⟨q :: rs, by rw [e, e2]; rfl, .cons hq r⟩
section
variable {P : Program} {w : World} {K : PySem.W.Frag} {mg : Str → Option Value} {base : Heap} {t : Adr}
end
end S03
set_option maxRecDepth 100000
set_option maxHeartbeats 4000000
namespace S03
open PySem L2 XL PyProof.Rows
def hasN (ps : List Pt) (d : DV) : Bool := match d with
  | .str s => isNm s && ps.any fun p => decide (p.nm = s)
  | _ => false
theorem xhh {ps : List Pt} {d : DV} (h : hasN ps d = true) : ∃ s pt, d = .str s ∧ isNm s = true ∧ ps.find? (fun p => decide (p.nm = s)) = some pt ∧ pt ∈ ps ∧ pt.nm = s := by
  cases d with
  | str s =>
    change (isNm s && ps.any fun p => decide (p.nm = s)) = true at h
    rw [Bool.and_eq_true, List.any_eq_true] at h
    obtain ⟨h1, p, hp, e⟩ := h
    cases z : ps.find? (fun p => decide (p.nm = s)) with
    | none => exact absurd e (List.find?_eq_none.mp z p hp)
    | some pt => exact ⟨s, pt, rfl, h1, z, List.mem_of_find?_eq_some z, by simpa using List.find?_some z⟩
  | _ => cases h
def xcd (pw ph : Int) (dx dy : DV) (x y : V) : Option Er := if xr dx 1 pw && xr dy 1 ph then none else some (.noCell x y)
def xa8 (ps : List Pt) (nm : Str) (x y : Int) : Option Er := match ps.find? (fun p => decide (p.nm ≠ nm) && decide (p.x = x)) with
  | some p => some (.sameColumn (.str p.nm))
  | none => match ps.find? (fun p => decide (p.nm ≠ nm) && decide (p.y = y)) with
    | some p => some (.sameRow (.str p.nm))
    | none => none
theorem xep {ps : List Pt} {nm : Str} {x y : Int} (h : xa8 ps nm x y = none) : ∀ p ∈ ps, p.nm ≠ nm → p.x ≠ x ∧ p.y ≠ y := by
  unfold xa8 at h
  cases z : ps.find? (fun p => decide (p.nm ≠ nm) && decide (p.x = x)) with
  | some p => rw [z] at h; cases h
  | none =>
    rw [z] at h
    dsimp only at h
    cases z2 : ps.find? (fun p => decide (p.nm ≠ nm) && decide (p.y = y)) with
    | some p => rw [z2] at h; cases h
    | none =>
      intro p hp hn
      have a := List.find?_eq_none.mp z p hp
      have b := List.find?_eq_none.mp z2 p hp
      simp [hn] at a b
      exact ⟨a, b⟩
theorem xe2 {α : Type} {f : α → Bool} : ∀ {l : List α} {j : Nat} {p : α}, l[j]? = some p → f p = true → (∀ (k : Nat) (p' : α), k < j → l[k]? = some p' → f p' = false) → l.find? f = some p
  | [], _, _, h, _, _ => by simp at h
  | a :: l, 0, p, h, fp, _ => by
    simp at h
    subst h
    rw [List.find?_cons_of_pos fp]
  | a :: l, j + 1, p, h, fp, no => by
    rw [List.find?_cons_of_neg (by rw [no 0 a (Nat.succ_pos _) rfl]; decide)]
    exact xe2 (by simpa using h) fp fun k p' hk hp' => no (k + 1) p' (by omega) (by simpa using hp')
theorem xcc {α : Type} {p f : α → Bool} : ∀ l : List α, (l.filter p).find? f = l.find? fun a => p a && f a
  | [] => rfl
  | a :: l => by
    cases h : p a with
    | true =>
      rw [List.filter_cons_of_pos h, List.find?_cons, List.find?_cons, xcc l, h, Bool.true_and]
    | false =>
      rw [List.filter_cons_of_neg (by rw [h]; decide), List.find?_cons, xcc l, h, Bool.false_and]
def xmz (t : Adr) : Sp := fun vs H Q E => ∃ (a dp do_ : Addr) (pw ph : Int) (ps : List Pt) (x y : V) (dx dy : DV), vs = [.ref a, x, y] ∧ Pic t H a dp do_ pw ph ps ∧ Thg H x dx ∧ Thg H y dy ∧ Outs t H (xcd pw ph dx dy x y) E (Q .non H)
def xmq (t : Adr) : Sp := fun vs H Q E => ∃ (a dp do_ : Addr) (pw ph : Int) (ps : List Pt) (nm : Str) (x y : Int), vs = [.ref a, .str nm, .int x, .int y] ∧ Pic t H a dp do_ pw ph ps ∧ Outs t H (xa8 ps nm x y) E (∀ H', Same H H' → Q .non H')
section
variable {P : Program} {w : World} {K : PySem.W.Frag} {mg : Str → Option Value} {base : Heap} {t : Adr}
theorem okT_c (T : Txt w K mg t) : FnOk true P w K mg base (CXo P w) 3 t.f_c t.d_c ["self", "x", "y"] (xmz t) := by
  refine T.F_c.okx (k := 2) sc_c (fun vs H Q E h => ?_) (fun cdv A outer s H vs Q E hr h => ?_)
  · obtain ⟨a, dp, do_, pw, ph, ps, x, y, dx, dy, rfl, _⟩ := h
    rfl
  · obtain ⟨a, dp, do_, pw, ph, ps, x, y, dx, dy, rfl, h⟩ := h
    refine ⟨_, xn (x8 (PW.pt (xbe (xat (xad (x5 (okT_t T) (hr.mono (by decide)) rfl T.g_t T.F_t.kp T.b_t .nil xaq.pass (xb (pv 1) (xb (xg) (xb (xaz (pv 0) rfl) (xj))))))) (xbc (xat (xad (x5 (okT_t T) (hr.mono (by decide)) rfl T.g_t T.F_t.kp T.b_t .nil xaq.pass (xb (pv 2) (xb (xg) (xb (xaz (pv 0) rfl) (xj)))))))))) (xn (xbl (hr.hd rfl) xaq (xbz T.k_l (ok_ad T) (hr.mono (by decide)) rfl T.g_l T.b_ad .nil (xb (pv 1) (xb (pv 2) (xj)))))) (xw)), ?_⟩
    obtain ⟨pic, tx, ty, hE, q⟩ := h
    obtain ⟨⟨dx0, hp⟩, _⟩ := id pic
    refine ⟨_, rfl, _, rfl, a, _, _, _, _, rfl, hp, T.c_r, T.n_a3, lkW, x, dx, 1, pw, rfl, tx, _, rfl, ?_⟩
    cases wx : xr dx 1 pw with
    | false =>
      have oo : xcd pw ph dx dy x y = some (.noCell x y) := by unfold xcd; rw [wx]; rfl
      exact iteT (iteT ⟨_, rfl, _, rfl, (by show 2 ≤ 1000; decide), fun e he => ⟨e, _, _, rfl, xf, fun dx hdx => ⟨rfl, e, t.C_l, some dx, rfl, xcp hdx, T.mk_l, hE (.noCell _ _) (oo) e _ (xcq rfl rfl he hdx)⟩⟩⟩)
    | true =>
      refine iteF ⟨_, rfl, _, rfl, a, _, _, _, _, rfl, hp, T.c_r, T.n_a1, lkH, y, dy, 1, ph, rfl, ty, _, rfl, ?_⟩
      cases wy : xr dy 1 ph with
      | false =>
        have oo : xcd pw ph dx dy x y = some (.noCell x y) := by unfold xcd; rw [wx, wy]; rfl
        exact iteT ⟨_, rfl, _, rfl, (by show 2 ≤ 1000; decide), fun e he => ⟨e, _, _, rfl, xf, fun dx hdx => ⟨rfl, e, t.C_l, some dx, rfl, xcp hdx, T.mk_l, hE (.noCell _ _) (oo) e _ (xcq rfl rfl he hdx)⟩⟩⟩
      | true => exact iteF (q (by unfold xcd; rw [wx, wy]; rfl))
theorem okT_b (T : Txt w K mg t) : FnOk true P w K mg base (CXo P w) 3 t.f_b t.d_b ["self", "name", "x", "y"] (xmq t) := by
  refine T.F_b.okx (k := 2) sc_b (fun vs H Q E h => ?_) (fun cdv A outer s H vs Q E hr h => ?_)
  · obtain ⟨a, dp, do_, pw, ph, ps, nm, x, y, rfl, _⟩ := h
    rfl
  · obtain ⟨a, dp, do_, pw, ph, ps, nm, x, y, rfl, h⟩ := h
    refine ⟨_, xm (xdk rfl (xb2 (zs := ["other"]) (ys := ["name"]) (fr := [1]) (N0 := ["self", "name", "x", "y", "others", "other"]) (sc0 := xp s_b) (by decide +kernel) rfl rfl rfl) (xbj (xct (pv 0) T.c_r T.m_h (ok_h T) (hr.mono (by decide)) T.b_h .nil xu)) (fun _ _ _ _ _ ow nd => xap (i := 0) nd rfl (Or.inl (ow _ (by simp))) (Or.inr (ow _ (by simp)))) (xca (by decide)) (fun _ _ _ _ _ => xez (xaj xhz (xt (r := rIxT K) xay (pv 0) (xg) (fun _ _ => rfl)) (pv 1) (xan _))) (fun _ _ _ _ _ => pv 0) (j := 4) rfl (Or.inl rfl))
      (xm (xbt PassesOwn.leaving rfl (xbj (pv 4)) (xap (i := 5) sc_b.nd rfl (Or.inl rfl)) (xn (x8 (xaj xbq (xt xay (pv 5) (xg) (fun _ _ => rfl)) (pv 2) (xan _)) (xn (xbl (hr.hd rfl) xaq (xbz T.k_a (ok_m T) (hr.mono (by decide)) rfl T.g_a T.b_m .nil (xb (xt xay (pv 5) (xg) (fun _ _ => rfl)) (xj))))) (xw))))
      (xn (xbt PassesOwn.leaving rfl (xbj (pv 4)) (xap (i := 5) sc_b.nd rfl (Or.inl rfl)) (xn (x8 (xaj xbq (xt xay (pv 5) (xg) (fun _ _ => rfl)) (pv 3) (xan _)) (xn (xbl (hr.hd rfl) xaq (xbz T.k_j (ok_aa T) (hr.mono (by decide)) rfl T.g_j T.b_aa .nil (xb (xt xay (pv 5) (xg) (fun _ _ => rfl)) (xj))))) (xw)))))), ?_⟩
    obtain ⟨pic, hE, q⟩ := h
    obtain ⟨⟨dx0, hp⟩, _⟩ := id pic
    have ple := pic.len
    refine ⟨_, rfl, a, dx0, _, rfl, hp, xbd (by decide +kernel), a, dp, do_, pw, ph, ps, rfl, pic, fun H1 l1 qs s1 hl1 pt1 => ⟨l1, rfl, ⟨_, SqL.of hl1⟩, fun l hl => ?_⟩⟩
    have ql := pt1.len
    refine xek (SqL.of hl1) (by rw [List.length_map]; exact Nat.lt_trans (by omega : qs.length < 13) (by decide)) hl (fun i => ((ps[i]?).map fun p => decide (p.nm ≠ nm)).getD false) (fun i y H => ∃ p q, ps[i]? = some p ∧ y = .ref q ∧ H q = some (.tup (.str p.nm :: ptV p))) (fun i y H H' tp ⟨p, q, e1, e2, e3⟩ => ⟨p, q, e1, e2, tp _ _ e3⟩) (fun i z H2 hz s2 N M hN hM => ?_) (fun ys H2 s2 el2 ly f2 => ?_)
    · rw [List.getElem?_map] at hz
      obtain ⟨o, ho, rfl⟩ := Option.map_eq_some_iff.mp hz
      obtain ⟨p, hpp, ep⟩ := pt1.get ho
      refine ⟨_, rfl, o, _, 0, _, rfl, rfl, SqT.of (s2 _ _ ep), rfl, _, rfl, rfl, _, rfl, ite2 (fun c => ?_) (fun c => ?_)⟩
      · have cn : p.nm ≠ nm := fun z => by
          rw [z] at c
          simp at c
        exact ⟨_, rfl, hN _ _ (Same.refl _) (by rw [hpp]; simpa using cn) ⟨p, o, hpp, rfl, s2 _ _ ep⟩⟩
      · have cn : p.nm = nm := by
          by_cases z : p.nm = nm
          · exact z
          · exact absurd (by simpa using fun e => z e) c
        exact hM _ (Same.refl _) (by rw [hpp]; simpa using cn)
    have fi := xkw (fun p : Pt => decide (p.nm ≠ nm)) (as := ps) (p := fun i => ((ps[i]?).map fun p => decide (p.nm ≠ nm)).getD false) (fun i p hp => by rw [hp]; rfl)
    rw [List.length_map, ql] at ly f2
    obtain ⟨os, eo, ptO⟩ := PtsL.pick (H := H2) (ps := ps.filter fun p => decide (p.nm ≠ nm)) (ys := ys) (by rw [ly, fi.1]) (fun j y p hy hp => by
      have hj : j < ((List.range ps.length).filter fun i => ((ps[i]?).map fun p => decide (p.nm ≠ nm)).getD false).length := by
        rw [← ly]
        exact (List.getElem?_eq_some_iff.mp hy).1
      obtain ⟨p', q', h1, h2, h3⟩ := f2 j y _ hy (List.getElem?_eq_getElem hj)
      rw [fi.2 j _ (List.getElem?_eq_getElem hj), hp] at h1
      cases h1
      exact ⟨q', h2, h3⟩)
    subst eo
    have s02 := s1.trans s2
    have rs1 : ∀ (f : Pt → Bool) (j : Nat) (p : Pt), (ps.filter fun p => decide (p.nm ≠ nm))[j]? = some p → f p = true → (∀ (k : Nat) (p' : Pt), k < j → (ps.filter fun p => decide (p.nm ≠ nm))[k]? = some p' → f p' = false) → ps.find? (fun p => decide (p.nm ≠ nm) && f p) = some p := fun f j p hp fp no => by
      rw [← xcc]
      exact xe2 hp fp no
    have rs0 : ∀ (f : Pt → Bool), (∀ (k : Nat) (p' : Pt), (ps.filter fun p => decide (p.nm ≠ nm))[k]? = some p' → f p' = false) → ps.find? (fun p => decide (p.nm ≠ nm) && f p) = none := fun f no => by
      rw [← xcc, List.find?_eq_none]
      intro p hp
      obtain ⟨k, hk⟩ := List.getElem?_of_mem hp
      rw [no k p hk]
      decide
    refine ⟨_, rfl, l, rfl, ⟨_, SqL.of el2⟩, xb0 (xs := os.map V.ref) (Pv := fun i σ H3 => ∃ v5 : Option V, σ = [some (.ref a), some (.str nm), some (.int x), some (.int y), some (.ref l), v5] ∧ H2 = H3 ∧ ∀ (k : Nat) (p' : Pt), k < i → (ps.filter fun p => decide (p.nm ≠ nm))[k]? = some p' → decide (p'.x = x) = false) ⟨_, rfl, rfl, fun k p' h => absurd h (Nat.not_lt_zero _)⟩ (fun _ _ _ _ ⟨_, _, z, _⟩ => by rw [← z]; exact SqL.of el2) ?_ ?_⟩
    · rintro i v σ _ hv ⟨v5, rfl, rfl, no⟩
      rw [List.getElem?_map] at hv
      obtain ⟨o, ho, rfl⟩ := Option.map_eq_some_iff.mp hv
      obtain ⟨p, hpp, ep⟩ := ptO.get ho
      refine ⟨_, rfl, o, _, 1, _, rfl, rfl, SqT.of ep, rfl, _, rfl, rfl, _, rfl, ?_⟩
      by_cases c : p.x = x
      · have oo : xa8 ps nm x y = some (.sameColumn (.str p.nm)) := by
          unfold xa8
          rw [rs1 (fun p => decide (p.x = x)) i p hpp (decide_eq_true c) no]
        refine ifP (decide_eq_true (by rw [c])) ⟨_, rfl, o, _, 0, _, rfl, rfl, SqT.of ep, rfl, (by show 1 ≤ 1000; decide), fun e he => ⟨e, _, rfl, xf, fun dx hdx => ⟨rfl, e, t.C_a, some dx, rfl, xf, T.mk_a, hE _ oo e _ (xa9.pre s02 (xa1 rfl rfl he hdx))⟩⟩⟩
      · refine ifN (decide_eq_false fun z => c (V.int.inj z)) ⟨_, rfl, rfl, fun k p' hk hp' => ?_⟩
        by_cases d : k = i
        · subst d
          rw [hpp] at hp'
          cases hp'
          exact decide_eq_false c
        · exact no k p' (by omega) hp'
    · rintro σ _ ⟨v5, rfl, rfl, noX⟩
      have ol := ptO.len
      have noX' : ∀ (k : Nat) (p' : Pt), (ps.filter fun p => decide (p.nm ≠ nm))[k]? = some p' → decide (p'.x = x) = false := fun k p' hk => noX k p' (by rw [List.length_map, ol]; exact (List.getElem?_eq_some_iff.mp hk).1) hk
      have e1 := rs0 (fun p => decide (p.x = x)) noX'
      refine ⟨_, rfl, l, rfl, ⟨_, SqL.of el2⟩, xb0 (xs := os.map V.ref) (Pv := fun i σ H3 => ∃ v5 : Option V, σ = [some (.ref a), some (.str nm), some (.int x), some (.int y), some (.ref l), v5] ∧ H2 = H3 ∧ ∀ (k : Nat) (p' : Pt), k < i → (ps.filter fun p => decide (p.nm ≠ nm))[k]? = some p' → decide (p'.y = y) = false) ⟨_, rfl, rfl, fun k p' h => absurd h (Nat.not_lt_zero _)⟩ (fun _ _ _ _ ⟨_, _, z, _⟩ => by rw [← z]; exact SqL.of el2) ?_ ?_⟩
      · rintro i v σ _ hv ⟨v5, rfl, rfl, no⟩
        rw [List.getElem?_map] at hv
        obtain ⟨o, ho, rfl⟩ := Option.map_eq_some_iff.mp hv
        obtain ⟨p, hpp, ep⟩ := ptO.get ho
        refine ⟨_, rfl, o, _, 2, _, rfl, rfl, SqT.of ep, rfl, _, rfl, rfl, _, rfl, ?_⟩
        by_cases c : p.y = y
        · have oo : xa8 ps nm x y = some (.sameRow (.str p.nm)) := by
            unfold xa8
            rw [e1, rs1 (fun p => decide (p.y = y)) i p hpp (decide_eq_true c) no]
          refine ifP (decide_eq_true (by rw [c])) ⟨_, rfl, o, _, 0, _, rfl, rfl, SqT.of ep, rfl, (by show 1 ≤ 1000; decide), fun e he => ⟨e, _, rfl, xf, fun dx hdx => ⟨rfl, e, t.C_j, some dx, rfl, xf, T.mk_j, hE _ oo e _ (xa9.pre s02 (xa1 rfl rfl he hdx))⟩⟩⟩
        · refine ifN (decide_eq_false fun z => c (V.int.inj z)) ⟨_, rfl, rfl, fun k p' hk hp' => ?_⟩
          by_cases d : k = i
          · subst d
            rw [hpp] at hp'
            cases hp'
            exact decide_eq_false c
          · exact no k p' (by omega) hp'
      · rintro σ _ ⟨v5, rfl, rfl, noY⟩
        have e2 := rs0 (fun p => decide (p.y = y)) fun k p' hk => noY k p' (by rw [List.length_map, ol]; exact (List.getElem?_eq_some_iff.mp hk).1) hk
        exact q (by unfold xa8; rw [e1, e2]) _ s02
end
end S03
set_option maxRecDepth 100000
set_option maxHeartbeats 4000000
namespace S03
open PySem L2 XL PyProof.Rows
def mirD : List (Key × V) := [(Sum.inr "left", V.str "right"), (Sum.inr "right", V.str "left"), (Sum.inr "both", V.str "both")]
def xcj : DV → Bool
  | .str s => (valV mirD (Sum.inr s)).isSome
  | _ => false
theorem xdo {d : DV} (h : xcj d = true) : ∃ s, d = .str s ∧ (s = "left" ∨ s = "right" ∨ s = "both") := by
  cases d with
  | str s =>
    refine ⟨s, rfl, ?_⟩
    change (valV mirD (Sum.inr s)).isSome = true at h
    unfold mirD at h
    by_cases c1 : s = "left"
    · exact .inl c1
    · rw [xbb (fun z => c1 (Sum.inr.inj z).symm)] at h
      by_cases c2 : s = "right"
      · exact .inr (.inl c2)
      · rw [xbb (fun z => c2 (Sum.inr.inj z).symm)] at h
        by_cases c3 : s = "both"
        · exact .inr (.inr c3)
        · rw [xbb (fun z => c3 (Sum.inr.inj z).symm)] at h
          cases h
  | _ => cases h
def xfv : DV → Str
  | .str s => s
  | _ => ""
def xac (pw ph : Int) (ps : List Pt) (dn dx dy ds dl dh : DV) (n x y s lo hi : V) : Option Er :=
  if xdr dn then
    if xr dx 1 pw && xr dy 1 ph then
      if xcj ds then
        if xr dl 1 ph && xr dh (intD dl) ph then
          if hasN ps dn then some (.oldPoint n) else if 12 ≤ ps.length then some .tooMany else xa8 ps (xfv dn) (intD dx) (intD dy)
        else some (.noWindow lo hi)
      else some (.noSides s)
    else some (.noCell x y)
  else some (.noName n)
def xmi (t : Adr) : Sp := fun vs H Q E => ∃ (a dp do_ : Addr) (pw ph : Int) (ps : List Pt) (n x y s lo hv hi : V) (dn dx dy ds dl dv dh : DV), vs = [.ref a, n, x, y, s, lo, hv] ∧ Pic t H a dp do_ pw ph ps ∧ Thg H n dn ∧ Thg H x dx ∧ Thg H y dy ∧ Thg H s ds ∧ Thg H lo dl ∧ Thg H hv dv ∧
  ((hv = .non ∧ hi = .int ph ∧ dh = .int ph) ∨ (hv ≠ .non ∧ hi = hv ∧ dh = dv)) ∧
  Outs t H (xac pw ph ps dn dx dy ds dl dh n x y s lo hi) E (∀ nm i j sd l h H', dn = .str nm → dx = .int i → dy = .int j → ds = .str sd → dl = .int l → dh = .int h → (∀ b u, b ≠ dp → H b = some u → H' b = some u) → Pic t H' a dp do_ pw ph (ps ++ [⟨nm, i, j, sd, l, h⟩]) → PtOk pw ph ⟨nm, i, j, sd, l, h⟩ → (∀ p ∈ ps, p.nm ≠ nm ∧ p.x ≠ i ∧ p.y ≠ j) → ps.length < 12 → Q .non H')
def xb9 (dw dh : DV) : Option Er := if xr dw 1 30 && xr dh 1 16 then none else some .noSize
def xks (t : Adr) : Sp := fun vs H Q E => ∃ (p dx : Addr) (wv hv : V) (dw dh : DV), vs = [.ref p, wv, hv] ∧ H p = some (.ins t.C_r dx []) ∧ Thg H wv dw ∧ Thg H hv dh ∧
  Outs t H (xb9 dw dh) E (∀ w h H' dp do_, dw = .int w → dh = .int h → H dp = none → H do_ = none → (∀ b u, b ≠ p → H b = some u → H' b = some u) → Pic t H' p dp do_ w h [] → H' do_ = some (.dT []) → Q .non H')
section
variable {P : Program} {w : World} {K : PySem.W.Frag} {mg : Str → Option Value} {base : Heap} {t : Adr}
theorem okT_v (T : Txt w K mg t) : FnOk true P w K mg base (CXo P w) 3 t.f_v t.d_v ["self", "width", "height"] (xks t) := by
  refine T.F_v.okx (k := 2) sc_v (fun vs H Q E h => ?_) (fun cdv A outer s H vs Q E hr h => ?_)
  · obtain ⟨p, dx, wv, hv, dw, dh, rfl, _⟩ := h
    rfl
  · obtain ⟨p, dx, wv, hv, dw, dh, rfl, h⟩ := h
    refine ⟨_, xm (x8 (PW.pt (xbe (xat (xad (x5 (okT_t T) (hr.mono (by decide)) rfl T.g_t T.F_t.kp T.b_t .nil xaq.pass (xb (pv 1) (xb (xg) (xb (xah (v := .int 30) rfl T.v_bi.choose_spec ⟨_, rfl⟩) (xj))))))) (xbc (xat (xad (x5 (okT_t T) (hr.mono (by decide)) rfl T.g_t T.F_t.kp T.b_t .nil xaq.pass (xb (pv 2) (xb (xg) (xb (xah (v := .int 16) rfl T.v_ed.choose_spec ⟨_, rfl⟩) (xj)))))))))) (xn (xbl (hr.hd rfl) xaq (xgx T.mk_k T.ns_k T.ns_f4 rfl T.g_k))) (xw))
      (xm (xcf (pv 0) (pv 1) rfl)
      (xm (xcf (pv 0) (pv 2) rfl)
      (xm (xcf (pv 0) (xf0) rfl)
      (xn (xcf (pv 0) (xgk) rfl))))), ?_⟩
    obtain ⟨hp, tw, th, hE, q⟩ := h
    refine ⟨_, rfl, wv, dw, 1, 30, rfl, tw, _, rfl, ?_⟩
    have bad : (xr dw 1 30 && xr dh 1 16) = false → xb9 dw dh = some .noSize := fun e => by unfold xb9; rw [e]; rfl
    cases ww : xr dw 1 30 with
    | false => exact iteT (iteT fun e he => ⟨e, t.C_k, none, rfl, xf, T.mk_k, hE (.noSize) (bad (by rw [ww]; rfl)) e _ (xd0 rfl rfl he)⟩)
    | true =>
      refine iteF ⟨_, rfl, hv, dh, 1, 16, rfl, th, _, rfl, ?_⟩
      cases wh : xr dh 1 16 with
      | false =>
        have bb : (xr dw 1 30 && xr dh 1 16) = false := by rw [ww, wh]; rfl
        exact iteT fun e he => ⟨e, t.C_k, none, rfl, xf, T.mk_k, hE (.noSize) (bad bb) e _ (xd0 rfl rfl he)⟩
      | true =>
        refine iteF ?_
        obtain ⟨pw, rfl, w1, w2⟩ := xa0 ww
        obtain ⟨ph, rfl, h1, h2⟩ := xa0 wh
        obtain rfl := tw.int_of
        obtain rfl := th.int_of
        have oo : xb9 (.int pw) (.int ph) = none := by unfold xb9; rw [ww, wh]; rfl
        refine ⟨_, rfl, _, rfl, p, _, dx, _, rfl, hp, T.c_r, T.n_a3, (by show 0 < 1000; decide), ?_⟩
        refine ⟨_, rfl, _, rfl, p, _, dx, _, rfl, xf, T.c_r, T.n_a1, (by show 1 < 1000; decide), ?_⟩
        rw [xdx]
        refine fun dp hdp => ?_
        have n1 : p ≠ dp := xk xf hdp
        refine ⟨_, rfl, p, _, dx, _, rfl, (by rw [xh n1]; exact xf), T.c_r, T.n_a0, (by show 2 < 1000; decide), fun do_ hdo => ?_⟩
        have n2 : p ≠ do_ := xk xf hdo
        have n3 : dp ≠ do_ := xk (by rw [xh (Ne.symm n1)]; exact xf) hdo
        refine ⟨_, rfl, p, _, dx, _, rfl, (by rw [xh n2]; exact xf), T.c_r, T.n_a8, (by show 3 < 1000; decide), ?_⟩
        rw [xh (Ne.symm n1)] at hdp
        have hdo' : H do_ = none := by
          have z := hdo
          rw [xh (Ne.symm n2), xh (Ne.symm n3), xh (Ne.symm n2)] at z
          exact z
        refine q oo pw ph _ dp do_ rfl rfl hdp hdo' (fun b u nb e => ?_) ⟨⟨dx, xf⟩, ⟨[], ?_, .nil⟩, w1, w2, h1, h2, Nat.zero_le _⟩ ?_
        · have c1 : b ≠ dp := xk e hdp
          have c2 : b ≠ do_ := xk e hdo'
          rw [xh nb, xh c2, xh nb, xh c1, xh nb]
          exact e
        · rw [xh (Ne.symm n1), xh n3, xh (Ne.symm n1)]
          exact xf
        · rw [xh (Ne.symm n2)]
          exact xf
theorem okT_e (T : Txt w K mg t) : FnOk true P w K mg base (CXo P w) 4 t.f_e t.d_e ["self", "name", "x", "y", "sides", "low", "high"] (xmi t) := by
  refine T.F_e.okx (k := 3) sc_e (fun vs H Q E h => ?_) (fun cdv A outer s H vs Q E hr h => ?_)
  · obtain ⟨a, dp, do_, pw, ph, ps, n, x, y, s', lo, hv, hi, dn, dx, dy, ds, dl, dv, dh, rfl, _⟩ := h
    rfl
  · obtain ⟨a, dp, do_, pw, ph, ps, n, x, y, s', lo, hv, hi, dn, dx, dy, ds, dl, dv, dh, rfl, h⟩ := h
    refine ⟨_, xm (x6 (i := 7) sc_e.nd rfl (Or.inl rfl) (xge (xaj xf2 (pv 6) (xck) (xan _)) (xaz (pv 0) rfl) (pv 6)))
      (xm (x8 (xat (xad (x5 (okT_aq T) (hr.mono (by decide)) rfl T.g_aq T.F_aq.kp T.b_aq .nil xaq.pass (xb (pv 1) (xj))))) (xn (xbl (hr.hd rfl) xaq (xbz T.k_o (ok_ac T) (hr.mono (by decide)) rfl T.g_o T.b_ac .nil (xb (pv 1) (xj))))) (xw))
      (xm (xbp (xbv (pv 0) T.c_r T.m_c (okT_c T) (hr.mono (by decide)) T.b_c .nil xaq.pass (xb (pv 2) (xb (pv 3) (xj)))))
      (xm (x8 (PW.pt (xbe (xat (xad (xx xaa rfl T.n_isinstance boot_isinstance (xb (pv 4) (xb (xa5 (v := .ty "str") rfl T.n_str boot_str rfl) (xj)))))) (xbc (xem (xe8 (pv 4) rfl T.g_as T.D_as))))) (xn (xbl (hr.hd rfl) xaq (xbz T.k_g (ok_z T) (hr.mono (by decide)) rfl T.g_g T.b_z .nil (xb (pv 4) (xj))))) (xw))
      (xm (x8 (PW.pt (xbe (xat (xad (x5 (okT_t T) (hr.mono (by decide)) rfl T.g_t T.F_t.kp T.b_t .nil xaq.pass (xb (pv 5) (xb (xg) (xb (xaz (pv 0) rfl) (xj))))))) (xbc (xat (xad (x5 (okT_t T) (hr.mono (by decide)) rfl T.g_t T.F_t.kp T.b_t .nil xaq.pass (xb (pv 7) (xb (pv 5) (xb (xaz (pv 0) rfl) (xj)))))))))) (xn (xbl (hr.hd rfl) xaq (xbz T.k_d (ok_w T) (hr.mono (by decide)) rfl T.g_d T.b_w .nil (xb (pv 5) (xb (pv 7) (xj)))))) (xw))
      (xm (x8 (xem (xi8 (xfr hr) (pv 1) (xaz (pv 0) rfl))) (xn (xbl (hr.hd rfl) xaq (xbz T.k_f (ok_x T) (hr.mono (by decide)) rfl T.g_f T.b_x .nil (xb (pv 1) (xj))))) (xw))
      (xm (x8 (xaj xki (xx xff rfl T.n_len boot_len (xb (xaz (pv 0) rfl) (xj))) (xah (v := .int 12) rfl T.v_ca.choose_spec ⟨_, rfl⟩) (xan _)) (xn (xbl (hr.hd rfl) xaq (xgx T.mk_i T.ns_i T.ns_fv rfl T.g_i))) (xw))
      (xm (xbp (xbv (pv 0) T.c_r T.m_b (okT_b T) (hr.mono (by decide)) T.b_b .nil xaq.pass (xb (pv 1) (xb (pv 2) (xb (pv 3) (xj))))))
      (xn (xg3 (xfr hr) (xaz (pv 0) rfl) (pv 1) (xbg (xb (pv 2) (xb (pv 3) (xb (pv 4) (xb (pv 5) (xb (pv 7) (xj))))))) rfl))))))))), ?_⟩
    obtain ⟨pic, tn, tx, ty, ts, tl, tv, hhv, hE, q⟩ := h
    obtain ⟨⟨dx0, hp⟩, ⟨kvs, hk, pl⟩, _⟩ := id pic
    have ple := pic.len
    rcases hhv with ⟨rfl, rfl, rfl⟩ | ⟨nn, rfl, rfl⟩
    · have thi : Thg H (.int ph) (.int ph) := .int _
      refine ⟨_, rfl, rfl, _, rfl, ifP (by rfl) ⟨_, rfl, a, _, _, _, _, rfl, hp, T.c_r, T.n_a1, lkH, ?_⟩⟩
      refine ⟨_, rfl, n, dn, rfl, tn, _, rfl, ?_⟩
      cases hn : xdr dn with
      | false =>
        have oo : xac pw ph ps dn dx dy ds dl (.int ph) n x y s' lo (.int ph) = some (.noName n) := by unfold xac; rw [hn]; rfl
        exact iteT ⟨_, rfl, (by show 1 ≤ 1000; decide), fun e he => ⟨e, _, rfl, xf, fun dx hdx => ⟨rfl, e, t.C_o, some dx, rfl, xf, T.mk_o, hE (.noName _) (oo) e _ (xa1 rfl rfl he hdx)⟩⟩⟩
      | true =>
        refine iteF ⟨_, rfl, a, dx0, _, rfl, hp, xbd (by decide +kernel), _, rfl, _, rfl, a, dp, do_, pw, ph, ps, x, y, dx, dy, rfl, pic, tx, ty, ?_, fun o1 => ?_⟩
        · intro er her e H' z
          unfold xcd at her
          cases y1 : (xr dx 1 pw && xr dy 1 ph) with
          | true => rw [y1] at her; cases her
          | false =>
            rw [y1] at her
            cases her
            exact hE _ (by unfold xac; rw [hn, y1]; rfl) e H' z
        have wc : (xr dx 1 pw && xr dy 1 ph) = true := by
          cases z : (xr dx 1 pw && xr dy 1 ph) with
          | true => rfl
          | false => unfold xcd at o1; rw [z] at o1; cases o1
        obtain ⟨wx, wY⟩ := Bool.and_eq_true_iff.mp wc
        obtain ⟨xi, rfl, x1, x2⟩ := xa0 wx
        obtain ⟨yi, rfl, y1, y2⟩ := xa0 wY
        obtain rfl := tx.int_of
        obtain rfl := ty.int_of
        obtain ⟨nm, rfl⟩ : ∃ nm, dn = .str nm := by
          cases dn with
          | str s => exact ⟨s, rfl⟩
          | _ => cases hn
        obtain rfl := tn.str_of
        have badS : xcj ds = false → xac pw ph ps (.str nm) (.int xi) (.int yi) ds dl (.int ph) (.str nm) (.int xi) (.int yi) s' lo (.int ph) = some (.noSides s') := fun e => by
          unfold xac
          rw [if_pos hn, if_pos wc, if_neg (by rw [e]; decide)]
        cases ts with
        | int i => exact ⟨_, rfl, _, _, rfl, .inl ⟨_, _, false, .int i, rfl, (by rfl), false, rfl, iteT (iteT ⟨_, rfl, (by show 1 ≤ 1000; decide), fun e he => ⟨e, _, rfl, xf, fun dx hdx => ⟨rfl, e, t.C_g, some dx, rfl, xf, T.mk_g, hE (.noSides _) (badS rfl) e _ (xa1 rfl rfl he hdx)⟩⟩⟩)⟩⟩
        | bl b => exact ⟨_, rfl, _, _, rfl, .inl ⟨_, _, false, .bl b, rfl, (by rfl), false, rfl, iteT (iteT ⟨_, rfl, (by show 1 ≤ 1000; decide), fun e he => ⟨e, _, rfl, xf, fun dx hdx => ⟨rfl, e, t.C_g, some dx, rfl, xf, T.mk_g, hE (.noSides _) (badS rfl) e _ (xa1 rfl rfl he hdx)⟩⟩⟩)⟩⟩
        | non => exact ⟨_, rfl, _, _, rfl, .inl ⟨_, _, false, .non, rfl, (by rfl), false, rfl, iteT (iteT ⟨_, rfl, (by show 1 ≤ 1000; decide), fun e he => ⟨e, _, rfl, xf, fun dx hdx => ⟨rfl, e, t.C_g, some dx, rfl, xf, T.mk_g, hE (.noSides _) (badS rfl) e _ (xa1 rfl rfl he hdx)⟩⟩⟩)⟩⟩
        | lst hq => exact ⟨_, rfl, _, _, rfl, .inl ⟨_, _, false, .lst hq, rfl, (by rfl), false, rfl, iteT (iteT ⟨_, rfl, (by show 1 ≤ 1000; decide), fun e he => ⟨e, _, rfl, xf, fun dx hdx => ⟨rfl, e, t.C_g, some dx, rfl, xf, T.mk_g, hE (.noSides _) (badS rfl) e _ (xa1 rfl rfl he hdx)⟩⟩⟩)⟩⟩
        | tup hq => exact ⟨_, rfl, _, _, rfl, .inl ⟨_, _, false, .tup hq, rfl, (by rfl), false, rfl, iteT (iteT ⟨_, rfl, (by show 1 ≤ 1000; decide), fun e he => ⟨e, _, rfl, xf, fun dx hdx => ⟨rfl, e, t.C_g, some dx, rfl, xf, T.mk_g, hE (.noSides _) (badS rfl) e _ (xa1 rfl rfl he hdx)⟩⟩⟩)⟩⟩
        | str sd =>
          refine ⟨_, rfl, _, _, rfl, .inl ⟨_, _, true, .str _, rfl, xa3, true, rfl, iteF ?_⟩⟩
          cases hs : xcj (.str sd) with
          | false =>
            have hs' : (valV ([(Sum.inr "left", V.str "right"), (Sum.inr "right", V.str "left"), (Sum.inr "both", V.str "both")] : List (Key × V)) (Sum.inr sd)).isSome = false := hs
            exact ⟨_, rfl, .inr sd, rfl, true, (by rw [hs']; rfl), iteT ⟨_, rfl, (by show 1 ≤ 1000; decide), fun e he => ⟨e, _, rfl, xf, fun dx hdx => ⟨rfl, e, t.C_g, some dx, rfl, xf, T.mk_g, hE (.noSides _) (badS hs) e _ (xa1 rfl rfl he hdx)⟩⟩⟩⟩
          | true =>
            have hs' : (valV ([(Sum.inr "left", V.str "right"), (Sum.inr "right", V.str "left"), (Sum.inr "both", V.str "both")] : List (Key × V)) (Sum.inr sd)).isSome = true := hs
            refine ⟨_, rfl, .inr sd, rfl, false, (by rw [hs']; rfl), iteF ?_⟩
            have badW : (xr dl 1 ph && xr (.int ph) (intD dl) ph) = false → xac pw ph ps (.str nm) (.int xi) (.int yi) (.str sd) dl (.int ph) (.str nm) (.int xi) (.int yi) (.str sd) lo (.int ph) = some (.noWindow lo (.int ph)) := fun e => by
              unfold xac
              rw [if_pos hn, if_pos wc, if_pos hs, if_neg (by rw [e]; decide)]
            refine ⟨_, rfl, _, rfl, a, _, _, _, _, rfl, hp, T.c_r, T.n_a1, lkH, lo, dl, 1, ph, rfl, tl, _, rfl, ?_⟩
            cases wl : xr dl 1 ph with
            | false =>
              have bb : (xr dl 1 ph && xr (.int ph) (intD dl) ph) = false := by rw [wl]; rfl
              exact iteT (iteT ⟨_, rfl, _, rfl, (by show 2 ≤ 1000; decide), fun e he => ⟨e, _, _, rfl, xf, fun dx hdx => ⟨rfl, e, t.C_d, some dx, rfl, xcp hdx, T.mk_d, hE (.noWindow _ _) (badW bb) e _ (xcq rfl rfl he hdx)⟩⟩⟩)
            | true =>
              obtain ⟨li, rfl, l1, l2⟩ := xa0 wl
              obtain rfl := tl.int_of
              refine iteF ⟨_, rfl, _, rfl, _, rfl, a, _, _, _, _, rfl, hp, T.c_r, T.n_a1, lkH, (.int ph), (.int ph), li, ph, rfl, thi, _, rfl, ?_⟩
              cases wh : xr (.int ph) li ph with
              | false =>
                have bb : (xr (.int li) 1 ph && xr (.int ph) (intD (.int li)) ph) = false := by rw [wl]; exact wh
                exact iteT ⟨_, rfl, _, rfl, (by show 2 ≤ 1000; decide), fun e he => ⟨e, _, _, rfl, xf, fun dx hdx => ⟨rfl, e, t.C_d, some dx, rfl, xcp hdx, T.mk_d, hE (.noWindow _ _) (badW bb) e _ (xcq rfl rfl he hdx)⟩⟩⟩
              | true =>
                have wlh : (xr (.int li) 1 ph && xr (.int ph) (intD (.int li)) ph) = true := by rw [wl]; exact wh
                obtain ⟨hi0, eh, h1, h2⟩ := xa0 wh
                have eHI : ((.int ph) : V) = .int hi0 := by
                  have z := thi
                  rw [eh] at z
                  exact z.int_of
                refine iteF ?_
                cases hh : hasN ps (.str nm) with
                | true =>
                  have oo : xac pw ph ps (.str nm) (.int xi) (.int yi) (.str sd) (.int li) (.int ph) (.str nm) (.int xi) (.int yi) (.str sd) (.int li) (.int ph) = some (.oldPoint (.str nm)) := by
                    unfold xac
                    rw [if_pos hn, if_pos wc, if_pos hs, if_pos wlh, if_pos hh]
                  obtain ⟨s2, pt, e2, _, hf, _⟩ := xhh hh
                  cases e2
                  obtain ⟨q0, e0, _⟩ := pl.find hf
                  exact ⟨_, rfl, _, rfl, a, _, _, _, _, rfl, hp, T.c_r, T.n_a0, lkP, dp, some (.ref q0), rfl, (by rw [← e0]; exact DGet.k (k := .inr nm) hk), true, rfl, iteT ⟨_, rfl, (by show 1 ≤ 1000; decide), fun e he => ⟨e, _, rfl, xf, fun dx hdx => ⟨rfl, e, t.C_f, some dx, rfl, xf, T.mk_f, hE (.oldPoint _) (oo) e _ (xa1 rfl rfl he hdx)⟩⟩⟩⟩
                | false =>
                  have noN : ∀ p ∈ ps, p.nm ≠ nm := fun p hp0 e => by
                    have z : hasN ps (.str nm) = true := by
                      change (isNm nm && ps.any fun p => decide (p.nm = nm)) = true
                      rw [show isNm nm = true from hn, Bool.true_and]
                      exact List.any_eq_true.mpr ⟨p, hp0, decide_eq_true e⟩
                    rw [hh] at z
                    cases z
                  refine ⟨_, rfl, _, rfl, a, _, _, _, _, rfl, hp, T.c_r, T.n_a0, lkP, dp, none, rfl, (by rw [← pl.no (nm := nm) noN]; exact DGet.k (k := .inr nm) hk), false, rfl, iteF ?_⟩
                  have hh' : ¬ (hasN ps (.str nm) = true) := by rw [hh]; decide
                  have kl := pl.len
                  refine ⟨_, rfl, a, _, _, _, _, rfl, hp, T.c_r, T.n_a0, lkP, dp, kvs, rfl, hk, _, _, rfl, rfl, _, rfl, ?_⟩
                  by_cases c12 : 12 ≤ ps.length
                  · have oo : xac pw ph ps (.str nm) (.int xi) (.int yi) (.str sd) (.int li) (.int ph) (.str nm) (.int xi) (.int yi) (.str sd) (.int li) (.int ph) = some .tooMany := by
                      unfold xac
                      rw [if_pos hn, if_pos wc, if_pos hs, if_pos wlh, if_neg hh', if_pos c12]
                    exact ifP (decide_eq_true (by omega)) fun e he => ⟨e, t.C_i, none, rfl, xf, T.mk_i, hE (.tooMany) (oo) e _ (xd0 rfl rfl he)⟩
                  · have om : xac pw ph ps (.str nm) (.int xi) (.int yi) (.str sd) (.int li) (.int ph) (.str nm) (.int xi) (.int yi) (.str sd) (.int li) (.int ph) = xa8 ps nm xi yi := by
                      show _ = xa8 ps (xfv (.str nm)) (intD (.int xi)) (intD (.int yi))
                      unfold xac
                      rw [if_pos hn, if_pos wc, if_pos hs, if_pos wlh, if_neg hh', if_neg c12]
                    refine ifN (decide_eq_false (by omega)) ?_
                    refine ⟨_, rfl, a, dx0, _, rfl, hp, xbd (by decide +kernel), _, rfl, _, rfl, _, rfl, a, dp, do_, pw, ph, ps, nm, xi, yi, rfl, pic, fun er her e H' z => hE er (om.trans her) e H' z, fun out3 H1 s1 => ?_⟩
                    have cl := xep out3
                    refine ⟨_, rfl, _, rfl, _, rfl, _, rfl, _, rfl, (by show 5 ≤ sizeLine; decide), fun q1 hq1 => ?_⟩
                    have hp1 : upd H1 q1 (.tup [.int xi, .int yi, .str sd, .int li, (.int ph)]) a = some (.ins t.C_r dx0 (picF pw ph dp do_)) := by rw [xh (xk (s1 _ _ hp) hq1)]; exact s1 _ _ hp
                    have hk1 : upd H1 q1 (.tup [.int xi, .int yi, .str sd, .int li, (.int ph)]) dp = some (.dK kvs) := by rw [xh (xk (s1 _ _ hk) hq1)]; exact s1 _ _ hk
                    refine ⟨_, rfl, a, _, _, _, _, rfl, hp1, T.c_r, T.n_a0, lkP, _, rfl, dp, _, rfl, DPut.k (k := .inr nm) hk1 (Nat.lt_trans (by omega : kvs.length < 12) (by decide)), ?_⟩
                    rw [xdj (.ref q1) (pl.no (nm := nm) noN)]
                    have nq : q1 ≠ dp := fun z => by
                      subst z
                      rw [s1 _ _ hk] at hq1
                      cases hq1
                    refine q (om.trans out3) nm xi yi sd li hi0 _ rfl rfl rfl rfl rfl eh (fun b u nb e => ?_) ⟨⟨dx0, ?_⟩, ⟨_, xf, Pl.snoc (p := ⟨nm, xi, yi, sd, li, hi0⟩) (pl.keep (fun b xs e => ?_)) ?_⟩, pic.w1, pic.w2, pic.h1, pic.h2, (by rw [List.length_append]; exact (by omega : ps.length + 1 ≤ 12))⟩ ?_ (fun p hp0 => ⟨noN p hp0, cl p hp0 (noN p hp0)⟩) (by omega)
                    · rw [xh nb, xh (xk (s1 _ _ e) hq1)]
                      exact s1 _ _ e
                    · rw [xh (xak hp1 hk1 (fun z => nomatch z))]
                      exact hp1
                    · have e' := s1 _ _ e
                      rw [xh (xak e' (s1 _ _ hk) (fun z => nomatch z)), xh (xk e' hq1)]
                      exact e'
                    · rw [xh nq, xf, eHI]
                      rfl
                    · obtain ⟨s2, es, hsd⟩ := xdo hs
                      cases es
                      exact ⟨hn, x1, x2, y1, y2, hsd, l1, h1, h2⟩
    · have thi := tv
      refine ⟨_, rfl, rfl, _, rfl, ifN (decide_eq_false nn) ⟨_, rfl, ?_⟩⟩
      refine ⟨_, rfl, n, dn, rfl, tn, _, rfl, ?_⟩
      cases hn : xdr dn with
      | false =>
        have oo : xac pw ph ps dn dx dy ds dl dh n x y s' lo hi = some (.noName n) := by unfold xac; rw [hn]; rfl
        exact iteT ⟨_, rfl, (by show 1 ≤ 1000; decide), fun e he => ⟨e, _, rfl, xf, fun dx hdx => ⟨rfl, e, t.C_o, some dx, rfl, xf, T.mk_o, hE (.noName _) (oo) e _ (xa1 rfl rfl he hdx)⟩⟩⟩
      | true =>
        refine iteF ⟨_, rfl, a, dx0, _, rfl, hp, xbd (by decide +kernel), _, rfl, _, rfl, a, dp, do_, pw, ph, ps, x, y, dx, dy, rfl, pic, tx, ty, ?_, fun o1 => ?_⟩
        · intro er her e H' z
          unfold xcd at her
          cases y1 : (xr dx 1 pw && xr dy 1 ph) with
          | true => rw [y1] at her; cases her
          | false =>
            rw [y1] at her
            cases her
            exact hE _ (by unfold xac; rw [hn, y1]; rfl) e H' z
        have wc : (xr dx 1 pw && xr dy 1 ph) = true := by
          cases z : (xr dx 1 pw && xr dy 1 ph) with
          | true => rfl
          | false => unfold xcd at o1; rw [z] at o1; cases o1
        obtain ⟨wx, wY⟩ := Bool.and_eq_true_iff.mp wc
        obtain ⟨xi, rfl, x1, x2⟩ := xa0 wx
        obtain ⟨yi, rfl, y1, y2⟩ := xa0 wY
        obtain rfl := tx.int_of
        obtain rfl := ty.int_of
        obtain ⟨nm, rfl⟩ : ∃ nm, dn = .str nm := by
          cases dn with
          | str s => exact ⟨s, rfl⟩
          | _ => cases hn
        obtain rfl := tn.str_of
        have badS : xcj ds = false → xac pw ph ps (.str nm) (.int xi) (.int yi) ds dl dh (.str nm) (.int xi) (.int yi) s' lo hi = some (.noSides s') := fun e => by
          unfold xac
          rw [if_pos hn, if_pos wc, if_neg (by rw [e]; decide)]
        cases ts with
        | int i => exact ⟨_, rfl, _, _, rfl, .inl ⟨_, _, false, .int i, rfl, (by rfl), false, rfl, iteT (iteT ⟨_, rfl, (by show 1 ≤ 1000; decide), fun e he => ⟨e, _, rfl, xf, fun dx hdx => ⟨rfl, e, t.C_g, some dx, rfl, xf, T.mk_g, hE (.noSides _) (badS rfl) e _ (xa1 rfl rfl he hdx)⟩⟩⟩)⟩⟩
        | bl b => exact ⟨_, rfl, _, _, rfl, .inl ⟨_, _, false, .bl b, rfl, (by rfl), false, rfl, iteT (iteT ⟨_, rfl, (by show 1 ≤ 1000; decide), fun e he => ⟨e, _, rfl, xf, fun dx hdx => ⟨rfl, e, t.C_g, some dx, rfl, xf, T.mk_g, hE (.noSides _) (badS rfl) e _ (xa1 rfl rfl he hdx)⟩⟩⟩)⟩⟩
        | non => exact ⟨_, rfl, _, _, rfl, .inl ⟨_, _, false, .non, rfl, (by rfl), false, rfl, iteT (iteT ⟨_, rfl, (by show 1 ≤ 1000; decide), fun e he => ⟨e, _, rfl, xf, fun dx hdx => ⟨rfl, e, t.C_g, some dx, rfl, xf, T.mk_g, hE (.noSides _) (badS rfl) e _ (xa1 rfl rfl he hdx)⟩⟩⟩)⟩⟩
        | lst hq => exact ⟨_, rfl, _, _, rfl, .inl ⟨_, _, false, .lst hq, rfl, (by rfl), false, rfl, iteT (iteT ⟨_, rfl, (by show 1 ≤ 1000; decide), fun e he => ⟨e, _, rfl, xf, fun dx hdx => ⟨rfl, e, t.C_g, some dx, rfl, xf, T.mk_g, hE (.noSides _) (badS rfl) e _ (xa1 rfl rfl he hdx)⟩⟩⟩)⟩⟩
        | tup hq => exact ⟨_, rfl, _, _, rfl, .inl ⟨_, _, false, .tup hq, rfl, (by rfl), false, rfl, iteT (iteT ⟨_, rfl, (by show 1 ≤ 1000; decide), fun e he => ⟨e, _, rfl, xf, fun dx hdx => ⟨rfl, e, t.C_g, some dx, rfl, xf, T.mk_g, hE (.noSides _) (badS rfl) e _ (xa1 rfl rfl he hdx)⟩⟩⟩)⟩⟩
        | str sd =>
          refine ⟨_, rfl, _, _, rfl, .inl ⟨_, _, true, .str _, rfl, xa3, true, rfl, iteF ?_⟩⟩
          cases hs : xcj (.str sd) with
          | false =>
            have hs' : (valV ([(Sum.inr "left", V.str "right"), (Sum.inr "right", V.str "left"), (Sum.inr "both", V.str "both")] : List (Key × V)) (Sum.inr sd)).isSome = false := hs
            exact ⟨_, rfl, .inr sd, rfl, true, (by rw [hs']; rfl), iteT ⟨_, rfl, (by show 1 ≤ 1000; decide), fun e he => ⟨e, _, rfl, xf, fun dx hdx => ⟨rfl, e, t.C_g, some dx, rfl, xf, T.mk_g, hE (.noSides _) (badS hs) e _ (xa1 rfl rfl he hdx)⟩⟩⟩⟩
          | true =>
            have hs' : (valV ([(Sum.inr "left", V.str "right"), (Sum.inr "right", V.str "left"), (Sum.inr "both", V.str "both")] : List (Key × V)) (Sum.inr sd)).isSome = true := hs
            refine ⟨_, rfl, .inr sd, rfl, false, (by rw [hs']; rfl), iteF ?_⟩
            have badW : (xr dl 1 ph && xr dh (intD dl) ph) = false → xac pw ph ps (.str nm) (.int xi) (.int yi) (.str sd) dl dh (.str nm) (.int xi) (.int yi) (.str sd) lo hi = some (.noWindow lo hi) := fun e => by
              unfold xac
              rw [if_pos hn, if_pos wc, if_pos hs, if_neg (by rw [e]; decide)]
            refine ⟨_, rfl, _, rfl, a, _, _, _, _, rfl, hp, T.c_r, T.n_a1, lkH, lo, dl, 1, ph, rfl, tl, _, rfl, ?_⟩
            cases wl : xr dl 1 ph with
            | false =>
              have bb : (xr dl 1 ph && xr dh (intD dl) ph) = false := by rw [wl]; rfl
              exact iteT (iteT ⟨_, rfl, _, rfl, (by show 2 ≤ 1000; decide), fun e he => ⟨e, _, _, rfl, xf, fun dx hdx => ⟨rfl, e, t.C_d, some dx, rfl, xcp hdx, T.mk_d, hE (.noWindow _ _) (badW bb) e _ (xcq rfl rfl he hdx)⟩⟩⟩)
            | true =>
              obtain ⟨li, rfl, l1, l2⟩ := xa0 wl
              obtain rfl := tl.int_of
              refine iteF ⟨_, rfl, _, rfl, _, rfl, a, _, _, _, _, rfl, hp, T.c_r, T.n_a1, lkH, hi, dh, li, ph, rfl, thi, _, rfl, ?_⟩
              cases wh : xr dh li ph with
              | false =>
                have bb : (xr (.int li) 1 ph && xr dh (intD (.int li)) ph) = false := by rw [wl]; exact wh
                exact iteT ⟨_, rfl, _, rfl, (by show 2 ≤ 1000; decide), fun e he => ⟨e, _, _, rfl, xf, fun dx hdx => ⟨rfl, e, t.C_d, some dx, rfl, xcp hdx, T.mk_d, hE (.noWindow _ _) (badW bb) e _ (xcq rfl rfl he hdx)⟩⟩⟩
              | true =>
                have wlh : (xr (.int li) 1 ph && xr dh (intD (.int li)) ph) = true := by rw [wl]; exact wh
                obtain ⟨hi0, eh, h1, h2⟩ := xa0 wh
                have eHI : (hi : V) = .int hi0 := by
                  have z := thi
                  rw [eh] at z
                  exact z.int_of
                refine iteF ?_
                cases hh : hasN ps (.str nm) with
                | true =>
                  have oo : xac pw ph ps (.str nm) (.int xi) (.int yi) (.str sd) (.int li) dh (.str nm) (.int xi) (.int yi) (.str sd) (.int li) hi = some (.oldPoint (.str nm)) := by
                    unfold xac
                    rw [if_pos hn, if_pos wc, if_pos hs, if_pos wlh, if_pos hh]
                  obtain ⟨s2, pt, e2, _, hf, _⟩ := xhh hh
                  cases e2
                  obtain ⟨q0, e0, _⟩ := pl.find hf
                  exact ⟨_, rfl, _, rfl, a, _, _, _, _, rfl, hp, T.c_r, T.n_a0, lkP, dp, some (.ref q0), rfl, (by rw [← e0]; exact DGet.k (k := .inr nm) hk), true, rfl, iteT ⟨_, rfl, (by show 1 ≤ 1000; decide), fun e he => ⟨e, _, rfl, xf, fun dx hdx => ⟨rfl, e, t.C_f, some dx, rfl, xf, T.mk_f, hE (.oldPoint _) (oo) e _ (xa1 rfl rfl he hdx)⟩⟩⟩⟩
                | false =>
                  have noN : ∀ p ∈ ps, p.nm ≠ nm := fun p hp0 e => by
                    have z : hasN ps (.str nm) = true := by
                      change (isNm nm && ps.any fun p => decide (p.nm = nm)) = true
                      rw [show isNm nm = true from hn, Bool.true_and]
                      exact List.any_eq_true.mpr ⟨p, hp0, decide_eq_true e⟩
                    rw [hh] at z
                    cases z
                  refine ⟨_, rfl, _, rfl, a, _, _, _, _, rfl, hp, T.c_r, T.n_a0, lkP, dp, none, rfl, (by rw [← pl.no (nm := nm) noN]; exact DGet.k (k := .inr nm) hk), false, rfl, iteF ?_⟩
                  have hh' : ¬ (hasN ps (.str nm) = true) := by rw [hh]; decide
                  have kl := pl.len
                  refine ⟨_, rfl, a, _, _, _, _, rfl, hp, T.c_r, T.n_a0, lkP, dp, kvs, rfl, hk, _, _, rfl, rfl, _, rfl, ?_⟩
                  by_cases c12 : 12 ≤ ps.length
                  · have oo : xac pw ph ps (.str nm) (.int xi) (.int yi) (.str sd) (.int li) dh (.str nm) (.int xi) (.int yi) (.str sd) (.int li) hi = some .tooMany := by
                      unfold xac
                      rw [if_pos hn, if_pos wc, if_pos hs, if_pos wlh, if_neg hh', if_pos c12]
                    exact ifP (decide_eq_true (by omega)) fun e he => ⟨e, t.C_i, none, rfl, xf, T.mk_i, hE (.tooMany) (oo) e _ (xd0 rfl rfl he)⟩
                  · have om : xac pw ph ps (.str nm) (.int xi) (.int yi) (.str sd) (.int li) dh (.str nm) (.int xi) (.int yi) (.str sd) (.int li) hi = xa8 ps nm xi yi := by
                      show _ = xa8 ps (xfv (.str nm)) (intD (.int xi)) (intD (.int yi))
                      unfold xac
                      rw [if_pos hn, if_pos wc, if_pos hs, if_pos wlh, if_neg hh', if_neg c12]
                    refine ifN (decide_eq_false (by omega)) ?_
                    refine ⟨_, rfl, a, dx0, _, rfl, hp, xbd (by decide +kernel), _, rfl, _, rfl, _, rfl, a, dp, do_, pw, ph, ps, nm, xi, yi, rfl, pic, fun er her e H' z => hE er (om.trans her) e H' z, fun out3 H1 s1 => ?_⟩
                    have cl := xep out3
                    refine ⟨_, rfl, _, rfl, _, rfl, _, rfl, _, rfl, (by show 5 ≤ sizeLine; decide), fun q1 hq1 => ?_⟩
                    have hp1 : upd H1 q1 (.tup [.int xi, .int yi, .str sd, .int li, hi]) a = some (.ins t.C_r dx0 (picF pw ph dp do_)) := by rw [xh (xk (s1 _ _ hp) hq1)]; exact s1 _ _ hp
                    have hk1 : upd H1 q1 (.tup [.int xi, .int yi, .str sd, .int li, hi]) dp = some (.dK kvs) := by rw [xh (xk (s1 _ _ hk) hq1)]; exact s1 _ _ hk
                    refine ⟨_, rfl, a, _, _, _, _, rfl, hp1, T.c_r, T.n_a0, lkP, _, rfl, dp, _, rfl, DPut.k (k := .inr nm) hk1 (Nat.lt_trans (by omega : kvs.length < 12) (by decide)), ?_⟩
                    rw [xdj (.ref q1) (pl.no (nm := nm) noN)]
                    have nq : q1 ≠ dp := fun z => by
                      subst z
                      rw [s1 _ _ hk] at hq1
                      cases hq1
                    refine q (om.trans out3) nm xi yi sd li hi0 _ rfl rfl rfl rfl rfl eh (fun b u nb e => ?_) ⟨⟨dx0, ?_⟩, ⟨_, xf, Pl.snoc (p := ⟨nm, xi, yi, sd, li, hi0⟩) (pl.keep (fun b xs e => ?_)) ?_⟩, pic.w1, pic.w2, pic.h1, pic.h2, (by rw [List.length_append]; exact (by omega : ps.length + 1 ≤ 12))⟩ ?_ (fun p hp0 => ⟨noN p hp0, cl p hp0 (noN p hp0)⟩) (by omega)
                    · rw [xh nb, xh (xk (s1 _ _ e) hq1)]
                      exact s1 _ _ e
                    · rw [xh (xak hp1 hk1 (fun z => nomatch z))]
                      exact hp1
                    · have e' := s1 _ _ e
                      rw [xh (xak e' (s1 _ _ hk) (fun z => nomatch z)), xh (xk e' hq1)]
                      exact e'
                    · rw [xh nq, xf, eHI]
                      rfl
                    · obtain ⟨s2, es, hsd⟩ := xdo hs
                      cases es
                      exact ⟨hn, x1, x2, y1, y2, hsd, l1, h1, h2⟩
end
end S03
set_option maxRecDepth 100000
set_option maxHeartbeats 4000000
namespace S03
open PySem L2 XL PyProof.Rows
def xk0 (t : Adr) : Sp := fun vs H Q _ => ∃ (e : Addr) (er : Er), vs = [.ref e] ∧ ErAt t H e er ∧ er ≠ .noSize ∧ ∀ H' l, Same H H' → H' l = some (.lst er.told) → Q (.ref l) H'
def Er.more : Er → List V
  | .noName _ => []
  | .noCell _ _ => []
  | .noSides _ => []
  | .noWindow _ _ => []
  | .oldPoint _ => []
  | .tooMany => []
  | .sameColumn _ => []
  | .sameRow _ => []
  | .noSize => []
def xla (t : Adr) : Sp := fun vs H Q _ => ∃ (e : Addr) (er : Er), vs = [.ref e] ∧ ErAt t H e er ∧ er ≠ .noSize ∧ ∀ H' l, Same H H' → H' l = some (.lst er.more) → Q (.ref l) H'
section
variable {P : Program} {w : World} {K : PySem.W.Frag} {mg : Str → Option Value} {base : Heap} {t : Adr}
theorem ok_n (T : Txt w K mg t) : FnOk false P w K mg base (CXo P w) 1 t.f_n t.d_n ["_law_e"] (xla t) := by
  refine T.F_n.okn (k := 0) sc_n (fun vs H Q E h => ?_) (fun cdv A outer s H vs Q E hr h => ?_)
  · obtain ⟨e, er, rfl, _⟩ := h
    rfl
  · obtain ⟨e, er, rfl, h⟩ := h
    refine ⟨_, xm (x6 (i := 1) sc_n.nd rfl (Or.inl rfl) (xab (xj)))
      (xm (x8 (xad (xx xaa rfl T.n_isinstance boot_isinstance (xb (pv 0) (xb (xah (v := .ref _) rfl T.g_av rfl) (xj))))) (xn (x6 (i := 1) sc_n.nd rfl (Or.inl rfl) (xq xa6 (pv 1) (xab (xb (x4) (xb (xa4 (pv 0) rfl) (xj))))))) (xw))
      (xm (x8 (xad (xx xaa rfl T.n_isinstance boot_isinstance (xb (pv 0) (xb (xah (v := .ref _) rfl T.g_ax rfl) (xj))))) (xn (x6 (i := 1) sc_n.nd rfl (Or.inl rfl) (xq xa6 (pv 1) (xab (xb (x4) (xb (xa4 (pv 0) rfl) (xj))))))) (xw))
      (xm (x8 (xad (xx xaa rfl T.n_isinstance boot_isinstance (xb (pv 0) (xb (xah (v := .ref _) rfl T.g_az rfl) (xj))))) (xn (x6 (i := 1) sc_n.nd rfl (Or.inl rfl) (xq xa6 (pv 1) (xab (xb (x4) (xb (xa4 (pv 0) rfl) (xj))))))) (xw))
      (xm (x8 (xad (xx xaa rfl T.n_isinstance boot_isinstance (xb (pv 0) (xb (xah (v := .ref _) rfl T.g_aw rfl) (xj))))) (xn (x6 (i := 1) sc_n.nd rfl (Or.inl rfl) (xq xa6 (pv 1) (xab (xb (x4) (xb (xa4 (pv 0) rfl) (xb (xa4 (pv 0) rfl) (xj)))))))) (xw))
      (xm (x8 (xad (xx xaa rfl T.n_isinstance boot_isinstance (xb (pv 0) (xb (xah (v := .ref _) rfl T.g_ay rfl) (xj))))) (xn (x6 (i := 1) sc_n.nd rfl (Or.inl rfl) (xq xa6 (pv 1) (xab (xb (x4) (xb (xa4 (pv 0) rfl) (xb (xa4 (pv 0) rfl) (xj)))))))) (xw))
      (xm ((by (with_reducible refine' x8 ?c1 ?a2 ?b3); (case c1 => exact xad (xx xaa rfl T.n_isinstance boot_isinstance (xb (pv 0) (xb (xbg (xam (xah (v := .ref _) rfl T.g_k rfl) (xam (xah (v := .ref _) rfl T.g_an rfl) (xam (xah (v := .ref _) rfl T.g_ah rfl) (xam (xah (v := .ref _) rfl T.g_ai rfl) (xam (xah (v := .ref _) rfl T.g_aj rfl) (xam (xah (v := .ref _) rfl T.g_ak rfl) (xam (xah (v := .ref _) rfl T.g_q rfl) (xam (xah (v := .ref _) rfl T.g_ao rfl) (xj) rfl) rfl) rfl) rfl) rfl) rfl) rfl) rfl)) (xj))))); (case a2 => ((with_reducible refine' xn ?c4); (case c4 => ((exact x6 (i := 1) sc_n.nd rfl (Or.inl rfl) (xq xa6 (pv 1) (xab (xb (x4) (xj))))))))); (case b3 => ((exact xw)))))
      (xm (x8 (xat (xad (xx xaa rfl T.n_isinstance boot_isinstance (xb (pv 0) (xb (xa5 (v := .ty "ValueError") rfl T.n_eq PyProof.Rows.Boot.«ValueError» rfl) (xj)))))) (xn (x6 (i := 1) sc_n.nd rfl (Or.inl rfl) (xq xa6 (pv 1) (xab (xb (x4) (xj)))))) (xw))
      (xn (xai (pv 1)))))))))), ?_⟩
    obtain ⟨ea, nt0, q⟩ := h
    cases er with
    | noSize => exact absurd rfl nt0
    | noName v0 =>
      rcases ea with ⟨z, _⟩ | ⟨_, dx, he, hdx⟩
      · cases z
      refine ⟨(by show 0 ≤ sizeLine; exact Nat.zero_le _), fun l0 hl0 => ?_⟩
      have sa : Same H (upd H l0 (.lst [])) := xo (Same.refl _) hl0
      have ga : upd H l0 (.lst []) l0 = some (.lst []) := xf
      revert sa ga
      generalize upd H l0 (.lst []) = Ha
      intro sa ga
      have ha : Same H Ha := sa
      have hda : ∀ d, some dx = some d → ∃ fs, Ha d = some (XD d fs) := fun d z => by cases z; exact ⟨_, ha _ _ hdx⟩
      refine ⟨_, rfl, _, _, rfl, .inr (.inl ⟨e, _, _, _, false, rfl, (ha _ _ he), (hda), T.x_o, rfl, T.kit_c9, false, rfl, iteF ?_⟩)⟩
      refine ⟨_, rfl, _, _, rfl, .inr (.inl ⟨e, _, _, _, false, rfl, (ha _ _ he), (hda), T.x_o, rfl, T.kit_dz, false, rfl, iteF ?_⟩)⟩
      refine ⟨_, rfl, _, _, rfl, .inr (.inl ⟨e, _, _, _, false, rfl, (ha _ _ he), (hda), T.x_o, rfl, T.kit_ej, false, rfl, iteF ?_⟩)⟩
      refine ⟨_, rfl, _, _, rfl, .inr (.inl ⟨e, _, _, _, false, rfl, (ha _ _ he), (hda), T.x_o, rfl, T.kit_da, false, rfl, iteF ?_⟩)⟩
      refine ⟨_, rfl, _, _, rfl, .inr (.inl ⟨e, _, _, _, false, rfl, (ha _ _ he), (hda), T.x_o, rfl, T.kit_d0, false, rfl, iteF ?_⟩)⟩
      refine ⟨_, rfl, (by show 8 ≤ sizeLine; decide), fun tq htq => ?_⟩
      have st : Same Ha (upd Ha tq (.tup [.ref t.C_k, .ref t.C_an, .ref t.C_ah, .ref t.C_ai, .ref t.C_aj, .ref t.C_ak, .ref t.C_q, .ref t.C_ao])) := xo (Same.refl _) htq
      have gt : upd Ha tq (.tup [.ref t.C_k, .ref t.C_an, .ref t.C_ah, .ref t.C_ai, .ref t.C_aj, .ref t.C_ak, .ref t.C_q, .ref t.C_ao]) tq = some (.tup [.ref t.C_k, .ref t.C_an, .ref t.C_ah, .ref t.C_ai, .ref t.C_aj, .ref t.C_ak, .ref t.C_q, .ref t.C_ao]) := xf
      revert st gt
      generalize upd Ha tq (.tup [.ref t.C_k, .ref t.C_an, .ref t.C_ah, .ref t.C_ai, .ref t.C_aj, .ref t.C_ak, .ref t.C_q, .ref t.C_ao]) = Ht
      intro st gt
      refine ⟨_, _, rfl, .inr (.inr ⟨e, _, _, tq, _, _, false, rfl, (st _ _ (ha _ _ he)), (fun d z => let ⟨fs, y⟩ := hda d z; ⟨fs, st _ _ y⟩), T.x_o, rfl, SqT.of gt, rfl, T.kany_o, false, rfl, iteF ?_⟩)⟩
      refine ⟨_, rfl, _, _, rfl, .inr (.inl ⟨e, _, _, _, true, rfl, (st _ _ (ha _ _ he)), (fun d z => let ⟨fs, y⟩ := hda d z; ⟨fs, st _ _ y⟩), T.x_o, rfl, T.kitv_o, true, rfl, iteF ?_⟩)⟩
      exact ⟨_, rfl, q _ l0 (ha.trans st) (st _ _ ga)⟩
    | noCell v0 v1 =>
      rcases ea with ⟨z, _⟩ | ⟨_, dx, he, hdx⟩
      · cases z
      refine ⟨(by show 0 ≤ sizeLine; exact Nat.zero_le _), fun l0 hl0 => ?_⟩
      have sa : Same H (upd H l0 (.lst [])) := xo (Same.refl _) hl0
      have ga : upd H l0 (.lst []) l0 = some (.lst []) := xf
      revert sa ga
      generalize upd H l0 (.lst []) = Ha
      intro sa ga
      have ha : Same H Ha := sa
      have hda : ∀ d, some dx = some d → ∃ fs, Ha d = some (XD d fs) := fun d z => by cases z; exact ⟨_, ha _ _ hdx⟩
      refine ⟨_, rfl, _, _, rfl, .inr (.inl ⟨e, _, _, _, false, rfl, (ha _ _ he), (hda), T.x_l, rfl, T.kit_de, false, rfl, iteF ?_⟩)⟩
      refine ⟨_, rfl, _, _, rfl, .inr (.inl ⟨e, _, _, _, false, rfl, (ha _ _ he), (hda), T.x_l, rfl, T.kit_d3, false, rfl, iteF ?_⟩)⟩
      refine ⟨_, rfl, _, _, rfl, .inr (.inl ⟨e, _, _, _, false, rfl, (ha _ _ he), (hda), T.x_l, rfl, T.kit_ek, false, rfl, iteF ?_⟩)⟩
      refine ⟨_, rfl, _, _, rfl, .inr (.inl ⟨e, _, _, _, false, rfl, (ha _ _ he), (hda), T.x_l, rfl, T.kit_df, false, rfl, iteF ?_⟩)⟩
      refine ⟨_, rfl, _, _, rfl, .inr (.inl ⟨e, _, _, _, false, rfl, (ha _ _ he), (hda), T.x_l, rfl, T.kit_d4, false, rfl, iteF ?_⟩)⟩
      refine ⟨_, rfl, (by show 8 ≤ sizeLine; decide), fun tq htq => ?_⟩
      have st : Same Ha (upd Ha tq (.tup [.ref t.C_k, .ref t.C_an, .ref t.C_ah, .ref t.C_ai, .ref t.C_aj, .ref t.C_ak, .ref t.C_q, .ref t.C_ao])) := xo (Same.refl _) htq
      have gt : upd Ha tq (.tup [.ref t.C_k, .ref t.C_an, .ref t.C_ah, .ref t.C_ai, .ref t.C_aj, .ref t.C_ak, .ref t.C_q, .ref t.C_ao]) tq = some (.tup [.ref t.C_k, .ref t.C_an, .ref t.C_ah, .ref t.C_ai, .ref t.C_aj, .ref t.C_ak, .ref t.C_q, .ref t.C_ao]) := xf
      revert st gt
      generalize upd Ha tq (.tup [.ref t.C_k, .ref t.C_an, .ref t.C_ah, .ref t.C_ai, .ref t.C_aj, .ref t.C_ak, .ref t.C_q, .ref t.C_ao]) = Ht
      intro st gt
      refine ⟨_, _, rfl, .inr (.inr ⟨e, _, _, tq, _, _, false, rfl, (st _ _ (ha _ _ he)), (fun d z => let ⟨fs, y⟩ := hda d z; ⟨fs, st _ _ y⟩), T.x_l, rfl, SqT.of gt, rfl, T.kany_l, false, rfl, iteF ?_⟩)⟩
      refine ⟨_, rfl, _, _, rfl, .inr (.inl ⟨e, _, _, _, true, rfl, (st _ _ (ha _ _ he)), (fun d z => let ⟨fs, y⟩ := hda d z; ⟨fs, st _ _ y⟩), T.x_l, rfl, T.kitv_l, true, rfl, iteF ?_⟩)⟩
      exact ⟨_, rfl, q _ l0 (ha.trans st) (st _ _ ga)⟩
    | noSides v0 =>
      rcases ea with ⟨z, _⟩ | ⟨_, dx, he, hdx⟩
      · cases z
      refine ⟨(by show 0 ≤ sizeLine; exact Nat.zero_le _), fun l0 hl0 => ?_⟩
      have sa : Same H (upd H l0 (.lst [])) := xo (Same.refl _) hl0
      have ga : upd H l0 (.lst []) l0 = some (.lst []) := xf
      revert sa ga
      generalize upd H l0 (.lst []) = Ha
      intro sa ga
      have ha : Same H Ha := sa
      have hda : ∀ d, some dx = some d → ∃ fs, Ha d = some (XD d fs) := fun d z => by cases z; exact ⟨_, ha _ _ hdx⟩
      refine ⟨_, rfl, _, _, rfl, .inr (.inl ⟨e, _, _, _, false, rfl, (ha _ _ he), (hda), T.x_g, rfl, T.kit_ci, false, rfl, iteF ?_⟩)⟩
      refine ⟨_, rfl, _, _, rfl, .inr (.inl ⟨e, _, _, _, false, rfl, (ha _ _ he), (hda), T.x_g, rfl, T.kit_di, false, rfl, iteF ?_⟩)⟩
      refine ⟨_, rfl, _, _, rfl, .inr (.inl ⟨e, _, _, _, false, rfl, (ha _ _ he), (hda), T.x_g, rfl, T.kit_d5, false, rfl, iteF ?_⟩)⟩
      refine ⟨_, rfl, _, _, rfl, .inr (.inl ⟨e, _, _, _, false, rfl, (ha _ _ he), (hda), T.x_g, rfl, T.kit_cj, false, rfl, iteF ?_⟩)⟩
      refine ⟨_, rfl, _, _, rfl, .inr (.inl ⟨e, _, _, _, false, rfl, (ha _ _ he), (hda), T.x_g, rfl, T.kit_dj, false, rfl, iteF ?_⟩)⟩
      refine ⟨_, rfl, (by show 8 ≤ sizeLine; decide), fun tq htq => ?_⟩
      have st : Same Ha (upd Ha tq (.tup [.ref t.C_k, .ref t.C_an, .ref t.C_ah, .ref t.C_ai, .ref t.C_aj, .ref t.C_ak, .ref t.C_q, .ref t.C_ao])) := xo (Same.refl _) htq
      have gt : upd Ha tq (.tup [.ref t.C_k, .ref t.C_an, .ref t.C_ah, .ref t.C_ai, .ref t.C_aj, .ref t.C_ak, .ref t.C_q, .ref t.C_ao]) tq = some (.tup [.ref t.C_k, .ref t.C_an, .ref t.C_ah, .ref t.C_ai, .ref t.C_aj, .ref t.C_ak, .ref t.C_q, .ref t.C_ao]) := xf
      revert st gt
      generalize upd Ha tq (.tup [.ref t.C_k, .ref t.C_an, .ref t.C_ah, .ref t.C_ai, .ref t.C_aj, .ref t.C_ak, .ref t.C_q, .ref t.C_ao]) = Ht
      intro st gt
      refine ⟨_, _, rfl, .inr (.inr ⟨e, _, _, tq, _, _, false, rfl, (st _ _ (ha _ _ he)), (fun d z => let ⟨fs, y⟩ := hda d z; ⟨fs, st _ _ y⟩), T.x_g, rfl, SqT.of gt, rfl, T.kany_g, false, rfl, iteF ?_⟩)⟩
      refine ⟨_, rfl, _, _, rfl, .inr (.inl ⟨e, _, _, _, true, rfl, (st _ _ (ha _ _ he)), (fun d z => let ⟨fs, y⟩ := hda d z; ⟨fs, st _ _ y⟩), T.x_g, rfl, T.kitv_g, true, rfl, iteF ?_⟩)⟩
      exact ⟨_, rfl, q _ l0 (ha.trans st) (st _ _ ga)⟩
    | noWindow v0 v1 =>
      rcases ea with ⟨z, _⟩ | ⟨_, dx, he, hdx⟩
      · cases z
      refine ⟨(by show 0 ≤ sizeLine; exact Nat.zero_le _), fun l0 hl0 => ?_⟩
      have sa : Same H (upd H l0 (.lst [])) := xo (Same.refl _) hl0
      have ga : upd H l0 (.lst []) l0 = some (.lst []) := xf
      revert sa ga
      generalize upd H l0 (.lst []) = Ha
      intro sa ga
      have ha : Same H Ha := sa
      have hda : ∀ d, some dx = some d → ∃ fs, Ha d = some (XD d fs) := fun d z => by cases z; exact ⟨_, ha _ _ hdx⟩
      refine ⟨_, rfl, _, _, rfl, .inr (.inl ⟨e, _, _, _, false, rfl, (ha _ _ he), (hda), T.x_d, rfl, T.kit_by, false, rfl, iteF ?_⟩)⟩
      refine ⟨_, rfl, _, _, rfl, .inr (.inl ⟨e, _, _, _, false, rfl, (ha _ _ he), (hda), T.x_d, rfl, T.kit_cm, false, rfl, iteF ?_⟩)⟩
      refine ⟨_, rfl, _, _, rfl, .inr (.inl ⟨e, _, _, _, false, rfl, (ha _ _ he), (hda), T.x_d, rfl, T.kit_dk, false, rfl, iteF ?_⟩)⟩
      refine ⟨_, rfl, _, _, rfl, .inr (.inl ⟨e, _, _, _, false, rfl, (ha _ _ he), (hda), T.x_d, rfl, T.kit_bz, false, rfl, iteF ?_⟩)⟩
      refine ⟨_, rfl, _, _, rfl, .inr (.inl ⟨e, _, _, _, false, rfl, (ha _ _ he), (hda), T.x_d, rfl, T.kit_cn, false, rfl, iteF ?_⟩)⟩
      refine ⟨_, rfl, (by show 8 ≤ sizeLine; decide), fun tq htq => ?_⟩
      have st : Same Ha (upd Ha tq (.tup [.ref t.C_k, .ref t.C_an, .ref t.C_ah, .ref t.C_ai, .ref t.C_aj, .ref t.C_ak, .ref t.C_q, .ref t.C_ao])) := xo (Same.refl _) htq
      have gt : upd Ha tq (.tup [.ref t.C_k, .ref t.C_an, .ref t.C_ah, .ref t.C_ai, .ref t.C_aj, .ref t.C_ak, .ref t.C_q, .ref t.C_ao]) tq = some (.tup [.ref t.C_k, .ref t.C_an, .ref t.C_ah, .ref t.C_ai, .ref t.C_aj, .ref t.C_ak, .ref t.C_q, .ref t.C_ao]) := xf
      revert st gt
      generalize upd Ha tq (.tup [.ref t.C_k, .ref t.C_an, .ref t.C_ah, .ref t.C_ai, .ref t.C_aj, .ref t.C_ak, .ref t.C_q, .ref t.C_ao]) = Ht
      intro st gt
      refine ⟨_, _, rfl, .inr (.inr ⟨e, _, _, tq, _, _, false, rfl, (st _ _ (ha _ _ he)), (fun d z => let ⟨fs, y⟩ := hda d z; ⟨fs, st _ _ y⟩), T.x_d, rfl, SqT.of gt, rfl, T.kany_d, false, rfl, iteF ?_⟩)⟩
      refine ⟨_, rfl, _, _, rfl, .inr (.inl ⟨e, _, _, _, true, rfl, (st _ _ (ha _ _ he)), (fun d z => let ⟨fs, y⟩ := hda d z; ⟨fs, st _ _ y⟩), T.x_d, rfl, T.kitv_d, true, rfl, iteF ?_⟩)⟩
      exact ⟨_, rfl, q _ l0 (ha.trans st) (st _ _ ga)⟩
    | oldPoint v0 =>
      rcases ea with ⟨z, _⟩ | ⟨_, dx, he, hdx⟩
      · cases z
      refine ⟨(by show 0 ≤ sizeLine; exact Nat.zero_le _), fun l0 hl0 => ?_⟩
      have sa : Same H (upd H l0 (.lst [])) := xo (Same.refl _) hl0
      have ga : upd H l0 (.lst []) l0 = some (.lst []) := xf
      revert sa ga
      generalize upd H l0 (.lst []) = Ha
      intro sa ga
      have ha : Same H Ha := sa
      have hda : ∀ d, some dx = some d → ∃ fs, Ha d = some (XD d fs) := fun d z => by cases z; exact ⟨_, ha _ _ hdx⟩
      refine ⟨_, rfl, _, _, rfl, .inr (.inl ⟨e, _, _, _, false, rfl, (ha _ _ he), (hda), T.x_f, rfl, T.kit_b3, false, rfl, iteF ?_⟩)⟩
      refine ⟨_, rfl, _, _, rfl, .inr (.inl ⟨e, _, _, _, false, rfl, (ha _ _ he), (hda), T.x_f, rfl, T.kit_cq, false, rfl, iteF ?_⟩)⟩
      refine ⟨_, rfl, _, _, rfl, .inr (.inl ⟨e, _, _, _, false, rfl, (ha _ _ he), (hda), T.x_f, rfl, T.kit_dl, false, rfl, iteF ?_⟩)⟩
      refine ⟨_, rfl, _, _, rfl, .inr (.inl ⟨e, _, _, _, false, rfl, (ha _ _ he), (hda), T.x_f, rfl, T.kit_b4, false, rfl, iteF ?_⟩)⟩
      refine ⟨_, rfl, _, _, rfl, .inr (.inl ⟨e, _, _, _, false, rfl, (ha _ _ he), (hda), T.x_f, rfl, T.kit_cr, false, rfl, iteF ?_⟩)⟩
      refine ⟨_, rfl, (by show 8 ≤ sizeLine; decide), fun tq htq => ?_⟩
      have st : Same Ha (upd Ha tq (.tup [.ref t.C_k, .ref t.C_an, .ref t.C_ah, .ref t.C_ai, .ref t.C_aj, .ref t.C_ak, .ref t.C_q, .ref t.C_ao])) := xo (Same.refl _) htq
      have gt : upd Ha tq (.tup [.ref t.C_k, .ref t.C_an, .ref t.C_ah, .ref t.C_ai, .ref t.C_aj, .ref t.C_ak, .ref t.C_q, .ref t.C_ao]) tq = some (.tup [.ref t.C_k, .ref t.C_an, .ref t.C_ah, .ref t.C_ai, .ref t.C_aj, .ref t.C_ak, .ref t.C_q, .ref t.C_ao]) := xf
      revert st gt
      generalize upd Ha tq (.tup [.ref t.C_k, .ref t.C_an, .ref t.C_ah, .ref t.C_ai, .ref t.C_aj, .ref t.C_ak, .ref t.C_q, .ref t.C_ao]) = Ht
      intro st gt
      refine ⟨_, _, rfl, .inr (.inr ⟨e, _, _, tq, _, _, false, rfl, (st _ _ (ha _ _ he)), (fun d z => let ⟨fs, y⟩ := hda d z; ⟨fs, st _ _ y⟩), T.x_f, rfl, SqT.of gt, rfl, T.kany_f, false, rfl, iteF ?_⟩)⟩
      refine ⟨_, rfl, _, _, rfl, .inr (.inl ⟨e, _, _, _, true, rfl, (st _ _ (ha _ _ he)), (fun d z => let ⟨fs, y⟩ := hda d z; ⟨fs, st _ _ y⟩), T.x_f, rfl, T.kitv_f, true, rfl, iteF ?_⟩)⟩
      exact ⟨_, rfl, q _ l0 (ha.trans st) (st _ _ ga)⟩
    | tooMany =>
      rcases ea with ⟨_, he⟩ | ⟨z, _⟩
      rotate_left
      · exact absurd rfl z
      refine ⟨(by show 0 ≤ sizeLine; exact Nat.zero_le _), fun l0 hl0 => ?_⟩
      have sa : Same H (upd H l0 (.lst [])) := xo (Same.refl _) hl0
      have ga : upd H l0 (.lst []) l0 = some (.lst []) := xf
      revert sa ga
      generalize upd H l0 (.lst []) = Ha
      intro sa ga
      have ha : Same H Ha := sa
      have hda : ∀ d, (none : Option Addr) = some d → ∃ fs, Ha d = some (XD d fs) := fun d z => nomatch z
      refine ⟨_, rfl, _, _, rfl, .inr (.inl ⟨e, _, _, _, false, rfl, (ha _ _ he), (hda), T.x_i, rfl, T.kit_cv, false, rfl, iteF ?_⟩)⟩
      refine ⟨_, rfl, _, _, rfl, .inr (.inl ⟨e, _, _, _, false, rfl, (ha _ _ he), (hda), T.x_i, rfl, T.kit_do, false, rfl, iteF ?_⟩)⟩
      refine ⟨_, rfl, _, _, rfl, .inr (.inl ⟨e, _, _, _, false, rfl, (ha _ _ he), (hda), T.x_i, rfl, T.kit_d6, false, rfl, iteF ?_⟩)⟩
      refine ⟨_, rfl, _, _, rfl, .inr (.inl ⟨e, _, _, _, false, rfl, (ha _ _ he), (hda), T.x_i, rfl, T.kit_cw, false, rfl, iteF ?_⟩)⟩
      refine ⟨_, rfl, _, _, rfl, .inr (.inl ⟨e, _, _, _, false, rfl, (ha _ _ he), (hda), T.x_i, rfl, T.kit_dp, false, rfl, iteF ?_⟩)⟩
      refine ⟨_, rfl, (by show 8 ≤ sizeLine; decide), fun tq htq => ?_⟩
      have st : Same Ha (upd Ha tq (.tup [.ref t.C_k, .ref t.C_an, .ref t.C_ah, .ref t.C_ai, .ref t.C_aj, .ref t.C_ak, .ref t.C_q, .ref t.C_ao])) := xo (Same.refl _) htq
      have gt : upd Ha tq (.tup [.ref t.C_k, .ref t.C_an, .ref t.C_ah, .ref t.C_ai, .ref t.C_aj, .ref t.C_ak, .ref t.C_q, .ref t.C_ao]) tq = some (.tup [.ref t.C_k, .ref t.C_an, .ref t.C_ah, .ref t.C_ai, .ref t.C_aj, .ref t.C_ak, .ref t.C_q, .ref t.C_ao]) := xf
      revert st gt
      generalize upd Ha tq (.tup [.ref t.C_k, .ref t.C_an, .ref t.C_ah, .ref t.C_ai, .ref t.C_aj, .ref t.C_ak, .ref t.C_q, .ref t.C_ao]) = Ht
      intro st gt
      refine ⟨_, _, rfl, .inr (.inr ⟨e, _, _, tq, _, _, false, rfl, (st _ _ (ha _ _ he)), (fun d z => let ⟨fs, y⟩ := hda d z; ⟨fs, st _ _ y⟩), T.x_i, rfl, SqT.of gt, rfl, T.kany_i, false, rfl, iteF ?_⟩)⟩
      refine ⟨_, rfl, _, _, rfl, .inr (.inl ⟨e, _, _, _, true, rfl, (st _ _ (ha _ _ he)), (fun d z => let ⟨fs, y⟩ := hda d z; ⟨fs, st _ _ y⟩), T.x_i, rfl, T.kitv_i, true, rfl, iteF ?_⟩)⟩
      exact ⟨_, rfl, q _ l0 (ha.trans st) (st _ _ ga)⟩
    | sameColumn v0 =>
      rcases ea with ⟨z, _⟩ | ⟨_, dx, he, hdx⟩
      · cases z
      refine ⟨(by show 0 ≤ sizeLine; exact Nat.zero_le _), fun l0 hl0 => ?_⟩
      have sa : Same H (upd H l0 (.lst [])) := xo (Same.refl _) hl0
      have ga : upd H l0 (.lst []) l0 = some (.lst []) := xf
      revert sa ga
      generalize upd H l0 (.lst []) = Ha
      intro sa ga
      have ha : Same H Ha := sa
      have hda : ∀ d, some dx = some d → ∃ fs, Ha d = some (XD d fs) := fun d z => by cases z; exact ⟨_, ha _ _ hdx⟩
      refine ⟨_, rfl, _, _, rfl, .inr (.inl ⟨e, _, _, _, false, rfl, (ha _ _ he), (hda), T.x_a, rfl, T.kit_be, false, rfl, iteF ?_⟩)⟩
      refine ⟨_, rfl, _, _, rfl, .inr (.inl ⟨e, _, _, _, false, rfl, (ha _ _ he), (hda), T.x_a, rfl, T.kit_br, false, rfl, iteF ?_⟩)⟩
      refine ⟨_, rfl, _, _, rfl, .inr (.inl ⟨e, _, _, _, false, rfl, (ha _ _ he), (hda), T.x_a, rfl, T.kit_b7, false, rfl, iteF ?_⟩)⟩
      refine ⟨_, rfl, _, _, rfl, .inr (.inl ⟨e, _, _, _, false, rfl, (ha _ _ he), (hda), T.x_a, rfl, T.kit_bf, false, rfl, iteF ?_⟩)⟩
      refine ⟨_, rfl, _, _, rfl, .inr (.inl ⟨e, _, _, _, false, rfl, (ha _ _ he), (hda), T.x_a, rfl, T.kit_bs, false, rfl, iteF ?_⟩)⟩
      refine ⟨_, rfl, (by show 8 ≤ sizeLine; decide), fun tq htq => ?_⟩
      have st : Same Ha (upd Ha tq (.tup [.ref t.C_k, .ref t.C_an, .ref t.C_ah, .ref t.C_ai, .ref t.C_aj, .ref t.C_ak, .ref t.C_q, .ref t.C_ao])) := xo (Same.refl _) htq
      have gt : upd Ha tq (.tup [.ref t.C_k, .ref t.C_an, .ref t.C_ah, .ref t.C_ai, .ref t.C_aj, .ref t.C_ak, .ref t.C_q, .ref t.C_ao]) tq = some (.tup [.ref t.C_k, .ref t.C_an, .ref t.C_ah, .ref t.C_ai, .ref t.C_aj, .ref t.C_ak, .ref t.C_q, .ref t.C_ao]) := xf
      revert st gt
      generalize upd Ha tq (.tup [.ref t.C_k, .ref t.C_an, .ref t.C_ah, .ref t.C_ai, .ref t.C_aj, .ref t.C_ak, .ref t.C_q, .ref t.C_ao]) = Ht
      intro st gt
      refine ⟨_, _, rfl, .inr (.inr ⟨e, _, _, tq, _, _, false, rfl, (st _ _ (ha _ _ he)), (fun d z => let ⟨fs, y⟩ := hda d z; ⟨fs, st _ _ y⟩), T.x_a, rfl, SqT.of gt, rfl, T.kany_a, false, rfl, iteF ?_⟩)⟩
      refine ⟨_, rfl, _, _, rfl, .inr (.inl ⟨e, _, _, _, true, rfl, (st _ _ (ha _ _ he)), (fun d z => let ⟨fs, y⟩ := hda d z; ⟨fs, st _ _ y⟩), T.x_a, rfl, T.kitv_a, true, rfl, iteF ?_⟩)⟩
      exact ⟨_, rfl, q _ l0 (ha.trans st) (st _ _ ga)⟩
    | sameRow v0 =>
      rcases ea with ⟨z, _⟩ | ⟨_, dx, he, hdx⟩
      · cases z
      refine ⟨(by show 0 ≤ sizeLine; exact Nat.zero_le _), fun l0 hl0 => ?_⟩
      have sa : Same H (upd H l0 (.lst [])) := xo (Same.refl _) hl0
      have ga : upd H l0 (.lst []) l0 = some (.lst []) := xf
      revert sa ga
      generalize upd H l0 (.lst []) = Ha
      intro sa ga
      have ha : Same H Ha := sa
      have hda : ∀ d, some dx = some d → ∃ fs, Ha d = some (XD d fs) := fun d z => by cases z; exact ⟨_, ha _ _ hdx⟩
      refine ⟨_, rfl, _, _, rfl, .inr (.inl ⟨e, _, _, _, false, rfl, (ha _ _ he), (hda), T.x_j, rfl, T.kit_c0, false, rfl, iteF ?_⟩)⟩
      refine ⟨_, rfl, _, _, rfl, .inr (.inl ⟨e, _, _, _, false, rfl, (ha _ _ he), (hda), T.x_j, rfl, T.kit_ds, false, rfl, iteF ?_⟩)⟩
      refine ⟨_, rfl, _, _, rfl, .inr (.inl ⟨e, _, _, _, false, rfl, (ha _ _ he), (hda), T.x_j, rfl, T.kit_d7, false, rfl, iteF ?_⟩)⟩
      refine ⟨_, rfl, _, _, rfl, .inr (.inl ⟨e, _, _, _, false, rfl, (ha _ _ he), (hda), T.x_j, rfl, T.kit_c1, false, rfl, iteF ?_⟩)⟩
      refine ⟨_, rfl, _, _, rfl, .inr (.inl ⟨e, _, _, _, false, rfl, (ha _ _ he), (hda), T.x_j, rfl, T.kit_dt, false, rfl, iteF ?_⟩)⟩
      refine ⟨_, rfl, (by show 8 ≤ sizeLine; decide), fun tq htq => ?_⟩
      have st : Same Ha (upd Ha tq (.tup [.ref t.C_k, .ref t.C_an, .ref t.C_ah, .ref t.C_ai, .ref t.C_aj, .ref t.C_ak, .ref t.C_q, .ref t.C_ao])) := xo (Same.refl _) htq
      have gt : upd Ha tq (.tup [.ref t.C_k, .ref t.C_an, .ref t.C_ah, .ref t.C_ai, .ref t.C_aj, .ref t.C_ak, .ref t.C_q, .ref t.C_ao]) tq = some (.tup [.ref t.C_k, .ref t.C_an, .ref t.C_ah, .ref t.C_ai, .ref t.C_aj, .ref t.C_ak, .ref t.C_q, .ref t.C_ao]) := xf
      revert st gt
      generalize upd Ha tq (.tup [.ref t.C_k, .ref t.C_an, .ref t.C_ah, .ref t.C_ai, .ref t.C_aj, .ref t.C_ak, .ref t.C_q, .ref t.C_ao]) = Ht
      intro st gt
      refine ⟨_, _, rfl, .inr (.inr ⟨e, _, _, tq, _, _, false, rfl, (st _ _ (ha _ _ he)), (fun d z => let ⟨fs, y⟩ := hda d z; ⟨fs, st _ _ y⟩), T.x_j, rfl, SqT.of gt, rfl, T.kany_j, false, rfl, iteF ?_⟩)⟩
      refine ⟨_, rfl, _, _, rfl, .inr (.inl ⟨e, _, _, _, true, rfl, (st _ _ (ha _ _ he)), (fun d z => let ⟨fs, y⟩ := hda d z; ⟨fs, st _ _ y⟩), T.x_j, rfl, T.kitv_j, true, rfl, iteF ?_⟩)⟩
      exact ⟨_, rfl, q _ l0 (ha.trans st) (st _ _ ga)⟩
theorem ok_al (T : Txt w K mg t) : FnOk false P w K mg base (CXo P w) 2 t.f_al t.d_al ["_law_e"] (xk0 t) := by
  refine T.F_al.okn (k := 1) sc_al (fun vs H Q E h => ?_) (fun cdv A outer s H vs Q E hr h => ?_)
  · obtain ⟨e, er, rfl, _⟩ := h
    rfl
  · obtain ⟨e, er, rfl, h⟩ := h
    refine ⟨_, xm (x6 (i := 1) sc_al.nd rfl (Or.inl rfl) (xab (xj)))
      (xm (x8 (xad (xx xaa rfl T.n_isinstance boot_isinstance (xb (pv 0) (xb (xah (v := .ref _) rfl T.g_o rfl) (xj))))) (xn (x6 (i := 1) sc_al.nd rfl (Or.inl rfl) (xq xa6 (pv 1) (xab (xb (x4) (xb (xa4 (pv 0) rfl) (xj))))))) (xw))
      (xm (x8 (xad (xx xaa rfl T.n_isinstance boot_isinstance (xb (pv 0) (xb (xah (v := .ref _) rfl T.g_l rfl) (xj))))) (xn (x6 (i := 1) sc_al.nd rfl (Or.inl rfl) (xq xa6 (pv 1) (xab (xb (x4) (xb (xa4 (pv 0) rfl) (xb (xa4 (pv 0) rfl) (xj)))))))) (xw))
      (xm (x8 (xad (xx xaa rfl T.n_isinstance boot_isinstance (xb (pv 0) (xb (xah (v := .ref _) rfl T.g_g rfl) (xj))))) (xn (x6 (i := 1) sc_al.nd rfl (Or.inl rfl) (xq xa6 (pv 1) (xab (xb (x4) (xb (xa4 (pv 0) rfl) (xj))))))) (xw))
      (xm (x8 (xad (xx xaa rfl T.n_isinstance boot_isinstance (xb (pv 0) (xb (xah (v := .ref _) rfl T.g_d rfl) (xj))))) (xn (x6 (i := 1) sc_al.nd rfl (Or.inl rfl) (xq xa6 (pv 1) (xab (xb (x4) (xb (xa4 (pv 0) rfl) (xb (xa4 (pv 0) rfl) (xj)))))))) (xw))
      (xm (x8 (xad (xx xaa rfl T.n_isinstance boot_isinstance (xb (pv 0) (xb (xah (v := .ref _) rfl T.g_f rfl) (xj))))) (xn (x6 (i := 1) sc_al.nd rfl (Or.inl rfl) (xq xa6 (pv 1) (xab (xb (x4) (xb (xa4 (pv 0) rfl) (xj))))))) (xw))
      (xm (x8 (xad (xx xaa rfl T.n_isinstance boot_isinstance (xb (pv 0) (xb (xah (v := .ref _) rfl T.g_i rfl) (xj))))) (xn (x6 (i := 1) sc_al.nd rfl (Or.inl rfl) (xq xa6 (pv 1) (xab (xb (x4) (xj)))))) (xw))
      (xm (x8 (xad (xx xaa rfl T.n_isinstance boot_isinstance (xb (pv 0) (xb (xah (v := .ref _) rfl T.g_a rfl) (xj))))) (xn (x6 (i := 1) sc_al.nd rfl (Or.inl rfl) (xq xa6 (pv 1) (xab (xb (x4) (xb (xa4 (pv 0) rfl) (xj))))))) (xw))
      (xm (x8 (xad (xx xaa rfl T.n_isinstance boot_isinstance (xb (pv 0) (xb (xah (v := .ref _) rfl T.g_j rfl) (xj))))) (xn (x6 (i := 1) sc_al.nd rfl (Or.inl rfl) (xq xa6 (pv 1) (xab (xb (x4) (xb (xa4 (pv 0) rfl) (xj))))))) (xw))
      (xn (xai (xq xa6 (pv 1) (x5 (ok_n T) (hr.mono (by decide)) rfl T.g_n T.F_n.kp T.b_n .nil xu (xb (pv 0) (xj)))))))))))))), ?_⟩
    obtain ⟨ea, nt0, q⟩ := h
    cases er with
    | noSize => exact absurd rfl nt0
    | noName v0 =>
      have ea0 := ea
      rcases ea with ⟨z, _⟩ | ⟨_, dx, he, hdx⟩
      · cases z
      refine ⟨(by show 0 ≤ sizeLine; exact Nat.zero_le _), fun l0 hl0 => ?_⟩
      have sa : Same H (upd H l0 (.lst [])) := xo (Same.refl _) hl0
      have ga : upd H l0 (.lst []) l0 = some (.lst []) := xf
      revert sa ga
      generalize upd H l0 (.lst []) = Ha
      intro sa ga
      have ha : Same H Ha := sa
      have hda : ∀ d, some dx = some d → ∃ fs, Ha d = some (XD d fs) := fun d z => by cases z; exact ⟨_, ha _ _ hdx⟩
      refine ⟨_, rfl, _, _, rfl, .inr (.inl ⟨e, _, _, _, true, rfl, (ha _ _ he), (hda), T.x_o, rfl, T.kit_dx, true, rfl, iteT ?_⟩)⟩
      refine ⟨_, rfl, _, rfl, e, _, dx, _, v0, rfl, ha _ _ he, ha _ _ hdx, T.x_o, T.n_ee, lk_1, (by show 2 ≤ sizeLine; decide), fun l1 hl1 => ?_⟩
      have sb : Same Ha (upd Ha l1 (.lst [.str "name", v0])) := xo (Same.refl _) hl1
      have gb : upd Ha l1 (.lst [.str "name", v0]) l1 = some (.lst [.str "name", v0]) := xf
      revert sb gb
      generalize upd Ha l1 (.lst [.str "name", v0]) = Hb
      intro sb gb
      refine ⟨l0, l1, _, _, rfl, rfl, sb _ _ ga, gb, (by show 0 + 2 ≤ sizeLine; decide), fun l2 hl2 => ?_⟩
      have sc : Same Hb (upd Hb l2 (.lst ([] ++ [.str "name", v0]))) := xo (Same.refl _) hl2
      have gc : upd Hb l2 (.lst ([] ++ [.str "name", v0])) l2 = some (.lst ([] ++ [.str "name", v0])) := xf
      revert sc gc
      generalize upd Hb l2 (.lst ([] ++ [.str "name", v0])) = Hc
      intro sc gc
      have hc : Same H Hc := ha.trans (sb.trans sc)
      have hdc : ∀ d, some dx = some d → ∃ fs, Hc d = some (XD d fs) := fun d z => by cases z; exact ⟨_, hc _ _ hdx⟩
      refine ⟨_, rfl, _, _, rfl, .inr (.inl ⟨e, _, _, _, false, rfl, (hc _ _ he), (hdc), T.x_o, rfl, T.kit_dy, false, rfl, iteF ?_⟩)⟩
      refine ⟨_, rfl, _, _, rfl, .inr (.inl ⟨e, _, _, _, false, rfl, (hc _ _ he), (hdc), T.x_o, rfl, T.kit_c6, false, rfl, iteF ?_⟩)⟩
      refine ⟨_, rfl, _, _, rfl, .inr (.inl ⟨e, _, _, _, false, rfl, (hc _ _ he), (hdc), T.x_o, rfl, T.kit_cb, false, rfl, iteF ?_⟩)⟩
      refine ⟨_, rfl, _, _, rfl, .inr (.inl ⟨e, _, _, _, false, rfl, (hc _ _ he), (hdc), T.x_o, rfl, T.kit_cc, false, rfl, iteF ?_⟩)⟩
      refine ⟨_, rfl, _, _, rfl, .inr (.inl ⟨e, _, _, _, false, rfl, (hc _ _ he), (hdc), T.x_o, rfl, T.kit_c7, false, rfl, iteF ?_⟩)⟩
      refine ⟨_, rfl, _, _, rfl, .inr (.inl ⟨e, _, _, _, false, rfl, (hc _ _ he), (hdc), T.x_o, rfl, T.kit_bj, false, rfl, iteF ?_⟩)⟩
      refine ⟨_, rfl, _, _, rfl, .inr (.inl ⟨e, _, _, _, false, rfl, (hc _ _ he), (hdc), T.x_o, rfl, T.kit_c8, false, rfl, iteF ?_⟩)⟩
      refine ⟨_, rfl, _, rfl, e, _, rfl, ErAt.same hc ea0, (fun z => nomatch z), fun H9 l9 s9 g9 => ?_⟩
      refine ⟨l2, l9, _, _, rfl, rfl, s9 _ _ gc, g9, (by show 2 + 0 ≤ sizeLine; decide), fun l8 hl8 => ?_⟩
      exact q _ l8 (hc.trans (s9.trans (xo (Same.refl _) hl8))) (by rw [xf]; rfl)
    | noCell v0 v1 =>
      have ea0 := ea
      rcases ea with ⟨z, _⟩ | ⟨_, dx, he, hdx⟩
      · cases z
      refine ⟨(by show 0 ≤ sizeLine; exact Nat.zero_le _), fun l0 hl0 => ?_⟩
      have sa : Same H (upd H l0 (.lst [])) := xo (Same.refl _) hl0
      have ga : upd H l0 (.lst []) l0 = some (.lst []) := xf
      revert sa ga
      generalize upd H l0 (.lst []) = Ha
      intro sa ga
      have ha : Same H Ha := sa
      have hda : ∀ d, some dx = some d → ∃ fs, Ha d = some (XD d fs) := fun d z => by cases z; exact ⟨_, ha _ _ hdx⟩
      refine ⟨_, rfl, _, _, rfl, .inr (.inl ⟨e, _, _, _, false, rfl, (ha _ _ he), (hda), T.x_l, rfl, T.kit_d1, false, rfl, iteF ?_⟩)⟩
      refine ⟨_, rfl, _, _, rfl, .inr (.inl ⟨e, _, _, _, true, rfl, (ha _ _ he), (hda), T.x_l, rfl, T.kit_d2, true, rfl, iteT ?_⟩)⟩
      refine ⟨_, rfl, _, rfl, e, _, dx, _, v0, rfl, ha _ _ he, ha _ _ hdx, T.x_l, T.n_fu, lk_1, _, rfl, e, _, dx, _, v1, rfl, ha _ _ he, ha _ _ hdx, T.x_l, T.n_ft, (lk_2 (by decide +kernel)), (by show 3 ≤ sizeLine; decide), fun l1 hl1 => ?_⟩
      have sb : Same Ha (upd Ha l1 (.lst [.str "cell", v0, v1])) := xo (Same.refl _) hl1
      have gb : upd Ha l1 (.lst [.str "cell", v0, v1]) l1 = some (.lst [.str "cell", v0, v1]) := xf
      revert sb gb
      generalize upd Ha l1 (.lst [.str "cell", v0, v1]) = Hb
      intro sb gb
      refine ⟨l0, l1, _, _, rfl, rfl, sb _ _ ga, gb, (by show 0 + 3 ≤ sizeLine; decide), fun l2 hl2 => ?_⟩
      have sc : Same Hb (upd Hb l2 (.lst ([] ++ [.str "cell", v0, v1]))) := xo (Same.refl _) hl2
      have gc : upd Hb l2 (.lst ([] ++ [.str "cell", v0, v1])) l2 = some (.lst ([] ++ [.str "cell", v0, v1])) := xf
      revert sc gc
      generalize upd Hb l2 (.lst ([] ++ [.str "cell", v0, v1])) = Hc
      intro sc gc
      have hc : Same H Hc := ha.trans (sb.trans sc)
      have hdc : ∀ d, some dx = some d → ∃ fs, Hc d = some (XD d fs) := fun d z => by cases z; exact ⟨_, hc _ _ hdx⟩
      refine ⟨_, rfl, _, _, rfl, .inr (.inl ⟨e, _, _, _, false, rfl, (hc _ _ he), (hdc), T.x_l, rfl, T.kit_db, false, rfl, iteF ?_⟩)⟩
      refine ⟨_, rfl, _, _, rfl, .inr (.inl ⟨e, _, _, _, false, rfl, (hc _ _ he), (hdc), T.x_l, rfl, T.kit_cd, false, rfl, iteF ?_⟩)⟩
      refine ⟨_, rfl, _, _, rfl, .inr (.inl ⟨e, _, _, _, false, rfl, (hc _ _ he), (hdc), T.x_l, rfl, T.kit_ce, false, rfl, iteF ?_⟩)⟩
      refine ⟨_, rfl, _, _, rfl, .inr (.inl ⟨e, _, _, _, false, rfl, (hc _ _ he), (hdc), T.x_l, rfl, T.kit_dc, false, rfl, iteF ?_⟩)⟩
      refine ⟨_, rfl, _, _, rfl, .inr (.inl ⟨e, _, _, _, false, rfl, (hc _ _ he), (hdc), T.x_l, rfl, T.kit_bk, false, rfl, iteF ?_⟩)⟩
      refine ⟨_, rfl, _, _, rfl, .inr (.inl ⟨e, _, _, _, false, rfl, (hc _ _ he), (hdc), T.x_l, rfl, T.kit_dd, false, rfl, iteF ?_⟩)⟩
      refine ⟨_, rfl, _, rfl, e, _, rfl, ErAt.same hc ea0, (fun z => nomatch z), fun H9 l9 s9 g9 => ?_⟩
      refine ⟨l2, l9, _, _, rfl, rfl, s9 _ _ gc, g9, (by show 3 + 0 ≤ sizeLine; decide), fun l8 hl8 => ?_⟩
      exact q _ l8 (hc.trans (s9.trans (xo (Same.refl _) hl8))) (by rw [xf]; rfl)
    | noSides v0 =>
      have ea0 := ea
      rcases ea with ⟨z, _⟩ | ⟨_, dx, he, hdx⟩
      · cases z
      refine ⟨(by show 0 ≤ sizeLine; exact Nat.zero_le _), fun l0 hl0 => ?_⟩
      have sa : Same H (upd H l0 (.lst [])) := xo (Same.refl _) hl0
      have ga : upd H l0 (.lst []) l0 = some (.lst []) := xf
      revert sa ga
      generalize upd H l0 (.lst []) = Ha
      intro sa ga
      have ha : Same H Ha := sa
      have hda : ∀ d, some dx = some d → ∃ fs, Ha d = some (XD d fs) := fun d z => by cases z; exact ⟨_, ha _ _ hdx⟩
      refine ⟨_, rfl, _, _, rfl, .inr (.inl ⟨e, _, _, _, false, rfl, (ha _ _ he), (hda), T.x_g, rfl, T.kit_dg, false, rfl, iteF ?_⟩)⟩
      refine ⟨_, rfl, _, _, rfl, .inr (.inl ⟨e, _, _, _, false, rfl, (ha _ _ he), (hda), T.x_g, rfl, T.kit_dh, false, rfl, iteF ?_⟩)⟩
      refine ⟨_, rfl, _, _, rfl, .inr (.inl ⟨e, _, _, _, true, rfl, (ha _ _ he), (hda), T.x_g, rfl, T.kit_cf, true, rfl, iteT ?_⟩)⟩
      refine ⟨_, rfl, _, rfl, e, _, dx, _, v0, rfl, ha _ _ he, ha _ _ hdx, T.x_g, T.n_c2, lk_1, (by show 2 ≤ sizeLine; decide), fun l1 hl1 => ?_⟩
      have sb : Same Ha (upd Ha l1 (.lst [.str "sides", v0])) := xo (Same.refl _) hl1
      have gb : upd Ha l1 (.lst [.str "sides", v0]) l1 = some (.lst [.str "sides", v0]) := xf
      revert sb gb
      generalize upd Ha l1 (.lst [.str "sides", v0]) = Hb
      intro sb gb
      refine ⟨l0, l1, _, _, rfl, rfl, sb _ _ ga, gb, (by show 0 + 2 ≤ sizeLine; decide), fun l2 hl2 => ?_⟩
      have sc : Same Hb (upd Hb l2 (.lst ([] ++ [.str "sides", v0]))) := xo (Same.refl _) hl2
      have gc : upd Hb l2 (.lst ([] ++ [.str "sides", v0])) l2 = some (.lst ([] ++ [.str "sides", v0])) := xf
      revert sc gc
      generalize upd Hb l2 (.lst ([] ++ [.str "sides", v0])) = Hc
      intro sc gc
      have hc : Same H Hc := ha.trans (sb.trans sc)
      have hdc : ∀ d, some dx = some d → ∃ fs, Hc d = some (XD d fs) := fun d z => by cases z; exact ⟨_, hc _ _ hdx⟩
      refine ⟨_, rfl, _, _, rfl, .inr (.inl ⟨e, _, _, _, false, rfl, (hc _ _ he), (hdc), T.x_g, rfl, T.kit_bt, false, rfl, iteF ?_⟩)⟩
      refine ⟨_, rfl, _, _, rfl, .inr (.inl ⟨e, _, _, _, false, rfl, (hc _ _ he), (hdc), T.x_g, rfl, T.kit_bu, false, rfl, iteF ?_⟩)⟩
      refine ⟨_, rfl, _, _, rfl, .inr (.inl ⟨e, _, _, _, false, rfl, (hc _ _ he), (hdc), T.x_g, rfl, T.kit_cg, false, rfl, iteF ?_⟩)⟩
      refine ⟨_, rfl, _, _, rfl, .inr (.inl ⟨e, _, _, _, false, rfl, (hc _ _ he), (hdc), T.x_g, rfl, T.kit_a9, false, rfl, iteF ?_⟩)⟩
      refine ⟨_, rfl, _, _, rfl, .inr (.inl ⟨e, _, _, _, false, rfl, (hc _ _ he), (hdc), T.x_g, rfl, T.kit_ch, false, rfl, iteF ?_⟩)⟩
      refine ⟨_, rfl, _, rfl, e, _, rfl, ErAt.same hc ea0, (fun z => nomatch z), fun H9 l9 s9 g9 => ?_⟩
      refine ⟨l2, l9, _, _, rfl, rfl, s9 _ _ gc, g9, (by show 2 + 0 ≤ sizeLine; decide), fun l8 hl8 => ?_⟩
      exact q _ l8 (hc.trans (s9.trans (xo (Same.refl _) hl8))) (by rw [xf]; rfl)
    | noWindow v0 v1 =>
      have ea0 := ea
      rcases ea with ⟨z, _⟩ | ⟨_, dx, he, hdx⟩
      · cases z
      refine ⟨(by show 0 ≤ sizeLine; exact Nat.zero_le _), fun l0 hl0 => ?_⟩
      have sa : Same H (upd H l0 (.lst [])) := xo (Same.refl _) hl0
      have ga : upd H l0 (.lst []) l0 = some (.lst []) := xf
      revert sa ga
      generalize upd H l0 (.lst []) = Ha
      intro sa ga
      have ha : Same H Ha := sa
      have hda : ∀ d, some dx = some d → ∃ fs, Ha d = some (XD d fs) := fun d z => by cases z; exact ⟨_, ha _ _ hdx⟩
      refine ⟨_, rfl, _, _, rfl, .inr (.inl ⟨e, _, _, _, false, rfl, (ha _ _ he), (hda), T.x_d, rfl, T.kit_ck, false, rfl, iteF ?_⟩)⟩
      refine ⟨_, rfl, _, _, rfl, .inr (.inl ⟨e, _, _, _, false, rfl, (ha _ _ he), (hda), T.x_d, rfl, T.kit_cl, false, rfl, iteF ?_⟩)⟩
      refine ⟨_, rfl, _, _, rfl, .inr (.inl ⟨e, _, _, _, false, rfl, (ha _ _ he), (hda), T.x_d, rfl, T.kit_bv, false, rfl, iteF ?_⟩)⟩
      refine ⟨_, rfl, _, _, rfl, .inr (.inl ⟨e, _, _, _, true, rfl, (ha _ _ he), (hda), T.x_d, rfl, T.kit_bl, true, rfl, iteT ?_⟩)⟩
      refine ⟨_, rfl, _, rfl, e, _, dx, _, v0, rfl, ha _ _ he, ha _ _ hdx, T.x_d, T.n_du, lk_1, _, rfl, e, _, dx, _, v1, rfl, ha _ _ he, ha _ _ hdx, T.x_d, T.n_c3, (lk_2 (by decide +kernel)), (by show 3 ≤ sizeLine; decide), fun l1 hl1 => ?_⟩
      have sb : Same Ha (upd Ha l1 (.lst [.str "window", v0, v1])) := xo (Same.refl _) hl1
      have gb : upd Ha l1 (.lst [.str "window", v0, v1]) l1 = some (.lst [.str "window", v0, v1]) := xf
      revert sb gb
      generalize upd Ha l1 (.lst [.str "window", v0, v1]) = Hb
      intro sb gb
      refine ⟨l0, l1, _, _, rfl, rfl, sb _ _ ga, gb, (by show 0 + 3 ≤ sizeLine; decide), fun l2 hl2 => ?_⟩
      have sc : Same Hb (upd Hb l2 (.lst ([] ++ [.str "window", v0, v1]))) := xo (Same.refl _) hl2
      have gc : upd Hb l2 (.lst ([] ++ [.str "window", v0, v1])) l2 = some (.lst ([] ++ [.str "window", v0, v1])) := xf
      revert sc gc
      generalize upd Hb l2 (.lst ([] ++ [.str "window", v0, v1])) = Hc
      intro sc gc
      have hc : Same H Hc := ha.trans (sb.trans sc)
      have hdc : ∀ d, some dx = some d → ∃ fs, Hc d = some (XD d fs) := fun d z => by cases z; exact ⟨_, hc _ _ hdx⟩
      refine ⟨_, rfl, _, _, rfl, .inr (.inl ⟨e, _, _, _, false, rfl, (hc _ _ he), (hdc), T.x_d, rfl, T.kit_bm, false, rfl, iteF ?_⟩)⟩
      refine ⟨_, rfl, _, _, rfl, .inr (.inl ⟨e, _, _, _, false, rfl, (hc _ _ he), (hdc), T.x_d, rfl, T.kit_bw, false, rfl, iteF ?_⟩)⟩
      refine ⟨_, rfl, _, _, rfl, .inr (.inl ⟨e, _, _, _, false, rfl, (hc _ _ he), (hdc), T.x_d, rfl, T.kit_a4, false, rfl, iteF ?_⟩)⟩
      refine ⟨_, rfl, _, _, rfl, .inr (.inl ⟨e, _, _, _, false, rfl, (hc _ _ he), (hdc), T.x_d, rfl, T.kit_bx, false, rfl, iteF ?_⟩)⟩
      refine ⟨_, rfl, _, rfl, e, _, rfl, ErAt.same hc ea0, (fun z => nomatch z), fun H9 l9 s9 g9 => ?_⟩
      refine ⟨l2, l9, _, _, rfl, rfl, s9 _ _ gc, g9, (by show 3 + 0 ≤ sizeLine; decide), fun l8 hl8 => ?_⟩
      exact q _ l8 (hc.trans (s9.trans (xo (Same.refl _) hl8))) (by rw [xf]; rfl)
    | oldPoint v0 =>
      have ea0 := ea
      rcases ea with ⟨z, _⟩ | ⟨_, dx, he, hdx⟩
      · cases z
      refine ⟨(by show 0 ≤ sizeLine; exact Nat.zero_le _), fun l0 hl0 => ?_⟩
      have sa : Same H (upd H l0 (.lst [])) := xo (Same.refl _) hl0
      have ga : upd H l0 (.lst []) l0 = some (.lst []) := xf
      revert sa ga
      generalize upd H l0 (.lst []) = Ha
      intro sa ga
      have ha : Same H Ha := sa
      have hda : ∀ d, some dx = some d → ∃ fs, Ha d = some (XD d fs) := fun d z => by cases z; exact ⟨_, ha _ _ hdx⟩
      refine ⟨_, rfl, _, _, rfl, .inr (.inl ⟨e, _, _, _, false, rfl, (ha _ _ he), (hda), T.x_f, rfl, T.kit_co, false, rfl, iteF ?_⟩)⟩
      refine ⟨_, rfl, _, _, rfl, .inr (.inl ⟨e, _, _, _, false, rfl, (ha _ _ he), (hda), T.x_f, rfl, T.kit_cp, false, rfl, iteF ?_⟩)⟩
      refine ⟨_, rfl, _, _, rfl, .inr (.inl ⟨e, _, _, _, false, rfl, (ha _ _ he), (hda), T.x_f, rfl, T.kit_b0, false, rfl, iteF ?_⟩)⟩
      refine ⟨_, rfl, _, _, rfl, .inr (.inl ⟨e, _, _, _, false, rfl, (ha _ _ he), (hda), T.x_f, rfl, T.kit_bn, false, rfl, iteF ?_⟩)⟩
      refine ⟨_, rfl, _, _, rfl, .inr (.inl ⟨e, _, _, _, true, rfl, (ha _ _ he), (hda), T.x_f, rfl, T.kit_bo, true, rfl, iteT ?_⟩)⟩
      refine ⟨_, rfl, _, rfl, e, _, dx, _, v0, rfl, ha _ _ he, ha _ _ hdx, T.x_f, T.n_c4, lk_1, (by show 2 ≤ sizeLine; decide), fun l1 hl1 => ?_⟩
      have sb : Same Ha (upd Ha l1 (.lst [.str "old", v0])) := xo (Same.refl _) hl1
      have gb : upd Ha l1 (.lst [.str "old", v0]) l1 = some (.lst [.str "old", v0]) := xf
      revert sb gb
      generalize upd Ha l1 (.lst [.str "old", v0]) = Hb
      intro sb gb
      refine ⟨l0, l1, _, _, rfl, rfl, sb _ _ ga, gb, (by show 0 + 2 ≤ sizeLine; decide), fun l2 hl2 => ?_⟩
      have sc : Same Hb (upd Hb l2 (.lst ([] ++ [.str "old", v0]))) := xo (Same.refl _) hl2
      have gc : upd Hb l2 (.lst ([] ++ [.str "old", v0])) l2 = some (.lst ([] ++ [.str "old", v0])) := xf
      revert sc gc
      generalize upd Hb l2 (.lst ([] ++ [.str "old", v0])) = Hc
      intro sc gc
      have hc : Same H Hc := ha.trans (sb.trans sc)
      have hdc : ∀ d, some dx = some d → ∃ fs, Hc d = some (XD d fs) := fun d z => by cases z; exact ⟨_, hc _ _ hdx⟩
      refine ⟨_, rfl, _, _, rfl, .inr (.inl ⟨e, _, _, _, false, rfl, (hc _ _ he), (hdc), T.x_f, rfl, T.kit_b1, false, rfl, iteF ?_⟩)⟩
      refine ⟨_, rfl, _, _, rfl, .inr (.inl ⟨e, _, _, _, false, rfl, (hc _ _ he), (hdc), T.x_f, rfl, T.kit_a5, false, rfl, iteF ?_⟩)⟩
      refine ⟨_, rfl, _, _, rfl, .inr (.inl ⟨e, _, _, _, false, rfl, (hc _ _ he), (hdc), T.x_f, rfl, T.kit_b2, false, rfl, iteF ?_⟩)⟩
      refine ⟨_, rfl, _, rfl, e, _, rfl, ErAt.same hc ea0, (fun z => nomatch z), fun H9 l9 s9 g9 => ?_⟩
      refine ⟨l2, l9, _, _, rfl, rfl, s9 _ _ gc, g9, (by show 2 + 0 ≤ sizeLine; decide), fun l8 hl8 => ?_⟩
      exact q _ l8 (hc.trans (s9.trans (xo (Same.refl _) hl8))) (by rw [xf]; rfl)
    | tooMany =>
      have ea0 := ea
      rcases ea with ⟨_, he⟩ | ⟨z, _⟩
      rotate_left
      · exact absurd rfl z
      refine ⟨(by show 0 ≤ sizeLine; exact Nat.zero_le _), fun l0 hl0 => ?_⟩
      have sa : Same H (upd H l0 (.lst [])) := xo (Same.refl _) hl0
      have ga : upd H l0 (.lst []) l0 = some (.lst []) := xf
      revert sa ga
      generalize upd H l0 (.lst []) = Ha
      intro sa ga
      have ha : Same H Ha := sa
      have hda : ∀ d, (none : Option Addr) = some d → ∃ fs, Ha d = some (XD d fs) := fun d z => nomatch z
      refine ⟨_, rfl, _, _, rfl, .inr (.inl ⟨e, _, _, _, false, rfl, (ha _ _ he), (hda), T.x_i, rfl, T.kit_dm, false, rfl, iteF ?_⟩)⟩
      refine ⟨_, rfl, _, _, rfl, .inr (.inl ⟨e, _, _, _, false, rfl, (ha _ _ he), (hda), T.x_i, rfl, T.kit_dn, false, rfl, iteF ?_⟩)⟩
      refine ⟨_, rfl, _, _, rfl, .inr (.inl ⟨e, _, _, _, false, rfl, (ha _ _ he), (hda), T.x_i, rfl, T.kit_cs, false, rfl, iteF ?_⟩)⟩
      refine ⟨_, rfl, _, _, rfl, .inr (.inl ⟨e, _, _, _, false, rfl, (ha _ _ he), (hda), T.x_i, rfl, T.kit_b5, false, rfl, iteF ?_⟩)⟩
      refine ⟨_, rfl, _, _, rfl, .inr (.inl ⟨e, _, _, _, false, rfl, (ha _ _ he), (hda), T.x_i, rfl, T.kit_b6, false, rfl, iteF ?_⟩)⟩
      refine ⟨_, rfl, _, _, rfl, .inr (.inl ⟨e, _, _, _, true, rfl, (ha _ _ he), (hda), T.x_i, rfl, T.kit_ct, true, rfl, iteT ?_⟩)⟩
      refine ⟨_, rfl, (by show 1 ≤ sizeLine; decide), fun l1 hl1 => ?_⟩
      have sb : Same Ha (upd Ha l1 (.lst [.str "many"])) := xo (Same.refl _) hl1
      have gb : upd Ha l1 (.lst [.str "many"]) l1 = some (.lst [.str "many"]) := xf
      revert sb gb
      generalize upd Ha l1 (.lst [.str "many"]) = Hb
      intro sb gb
      refine ⟨l0, l1, _, _, rfl, rfl, sb _ _ ga, gb, (by show 0 + 1 ≤ sizeLine; decide), fun l2 hl2 => ?_⟩
      have sc : Same Hb (upd Hb l2 (.lst ([] ++ [.str "many"]))) := xo (Same.refl _) hl2
      have gc : upd Hb l2 (.lst ([] ++ [.str "many"])) l2 = some (.lst ([] ++ [.str "many"])) := xf
      revert sc gc
      generalize upd Hb l2 (.lst ([] ++ [.str "many"])) = Hc
      intro sc gc
      have hc : Same H Hc := ha.trans (sb.trans sc)
      have hdc : ∀ d, (none : Option Addr) = some d → ∃ fs, Hc d = some (XD d fs) := fun d z => nomatch z
      refine ⟨_, rfl, _, _, rfl, .inr (.inl ⟨e, _, _, _, false, rfl, (hc _ _ he), (hdc), T.x_i, rfl, T.kit_ba, false, rfl, iteF ?_⟩)⟩
      refine ⟨_, rfl, _, _, rfl, .inr (.inl ⟨e, _, _, _, false, rfl, (hc _ _ he), (hdc), T.x_i, rfl, T.kit_cu, false, rfl, iteF ?_⟩)⟩
      refine ⟨_, rfl, _, rfl, e, _, rfl, ErAt.same hc ea0, (fun z => nomatch z), fun H9 l9 s9 g9 => ?_⟩
      refine ⟨l2, l9, _, _, rfl, rfl, s9 _ _ gc, g9, (by show 1 + 0 ≤ sizeLine; decide), fun l8 hl8 => ?_⟩
      exact q _ l8 (hc.trans (s9.trans (xo (Same.refl _) hl8))) (by rw [xf]; rfl)
    | sameColumn v0 =>
      have ea0 := ea
      rcases ea with ⟨z, _⟩ | ⟨_, dx, he, hdx⟩
      · cases z
      refine ⟨(by show 0 ≤ sizeLine; exact Nat.zero_le _), fun l0 hl0 => ?_⟩
      have sa : Same H (upd H l0 (.lst [])) := xo (Same.refl _) hl0
      have ga : upd H l0 (.lst []) l0 = some (.lst []) := xf
      revert sa ga
      generalize upd H l0 (.lst []) = Ha
      intro sa ga
      have ha : Same H Ha := sa
      have hda : ∀ d, some dx = some d → ∃ fs, Ha d = some (XD d fs) := fun d z => by cases z; exact ⟨_, ha _ _ hdx⟩
      refine ⟨_, rfl, _, _, rfl, .inr (.inl ⟨e, _, _, _, false, rfl, (ha _ _ he), (hda), T.x_a, rfl, T.kit_bp, false, rfl, iteF ?_⟩)⟩
      refine ⟨_, rfl, _, _, rfl, .inr (.inl ⟨e, _, _, _, false, rfl, (ha _ _ he), (hda), T.x_a, rfl, T.kit_bq, false, rfl, iteF ?_⟩)⟩
      refine ⟨_, rfl, _, _, rfl, .inr (.inl ⟨e, _, _, _, false, rfl, (ha _ _ he), (hda), T.x_a, rfl, T.kit_bb, false, rfl, iteF ?_⟩)⟩
      refine ⟨_, rfl, _, _, rfl, .inr (.inl ⟨e, _, _, _, false, rfl, (ha _ _ he), (hda), T.x_a, rfl, T.kit_a6, false, rfl, iteF ?_⟩)⟩
      refine ⟨_, rfl, _, _, rfl, .inr (.inl ⟨e, _, _, _, false, rfl, (ha _ _ he), (hda), T.x_a, rfl, T.kit_a7, false, rfl, iteF ?_⟩)⟩
      refine ⟨_, rfl, _, _, rfl, .inr (.inl ⟨e, _, _, _, false, rfl, (ha _ _ he), (hda), T.x_a, rfl, T.kit_bc, false, rfl, iteF ?_⟩)⟩
      refine ⟨_, rfl, _, _, rfl, .inr (.inl ⟨e, _, _, _, true, rfl, (ha _ _ he), (hda), T.x_a, rfl, T.kit_a2, true, rfl, iteT ?_⟩)⟩
      refine ⟨_, rfl, _, rfl, e, _, dx, _, v0, rfl, ha _ _ he, ha _ _ hdx, T.x_a, T.n_bh, lk_1, (by show 2 ≤ sizeLine; decide), fun l1 hl1 => ?_⟩
      have sb : Same Ha (upd Ha l1 (.lst [.str "column", v0])) := xo (Same.refl _) hl1
      have gb : upd Ha l1 (.lst [.str "column", v0]) l1 = some (.lst [.str "column", v0]) := xf
      revert sb gb
      generalize upd Ha l1 (.lst [.str "column", v0]) = Hb
      intro sb gb
      refine ⟨l0, l1, _, _, rfl, rfl, sb _ _ ga, gb, (by show 0 + 2 ≤ sizeLine; decide), fun l2 hl2 => ?_⟩
      have sc : Same Hb (upd Hb l2 (.lst ([] ++ [.str "column", v0]))) := xo (Same.refl _) hl2
      have gc : upd Hb l2 (.lst ([] ++ [.str "column", v0])) l2 = some (.lst ([] ++ [.str "column", v0])) := xf
      revert sc gc
      generalize upd Hb l2 (.lst ([] ++ [.str "column", v0])) = Hc
      intro sc gc
      have hc : Same H Hc := ha.trans (sb.trans sc)
      have hdc : ∀ d, some dx = some d → ∃ fs, Hc d = some (XD d fs) := fun d z => by cases z; exact ⟨_, hc _ _ hdx⟩
      refine ⟨_, rfl, _, _, rfl, .inr (.inl ⟨e, _, _, _, false, rfl, (hc _ _ he), (hdc), T.x_a, rfl, T.kit_bd, false, rfl, iteF ?_⟩)⟩
      refine ⟨_, rfl, _, rfl, e, _, rfl, ErAt.same hc ea0, (fun z => nomatch z), fun H9 l9 s9 g9 => ?_⟩
      refine ⟨l2, l9, _, _, rfl, rfl, s9 _ _ gc, g9, (by show 2 + 0 ≤ sizeLine; decide), fun l8 hl8 => ?_⟩
      exact q _ l8 (hc.trans (s9.trans (xo (Same.refl _) hl8))) (by rw [xf]; rfl)
    | sameRow v0 =>
      have ea0 := ea
      rcases ea with ⟨z, _⟩ | ⟨_, dx, he, hdx⟩
      · cases z
      refine ⟨(by show 0 ≤ sizeLine; exact Nat.zero_le _), fun l0 hl0 => ?_⟩
      have sa : Same H (upd H l0 (.lst [])) := xo (Same.refl _) hl0
      have ga : upd H l0 (.lst []) l0 = some (.lst []) := xf
      revert sa ga
      generalize upd H l0 (.lst []) = Ha
      intro sa ga
      have ha : Same H Ha := sa
      have hda : ∀ d, some dx = some d → ∃ fs, Ha d = some (XD d fs) := fun d z => by cases z; exact ⟨_, ha _ _ hdx⟩
      refine ⟨_, rfl, _, _, rfl, .inr (.inl ⟨e, _, _, _, false, rfl, (ha _ _ he), (hda), T.x_j, rfl, T.kit_dq, false, rfl, iteF ?_⟩)⟩
      refine ⟨_, rfl, _, _, rfl, .inr (.inl ⟨e, _, _, _, false, rfl, (ha _ _ he), (hda), T.x_j, rfl, T.kit_dr, false, rfl, iteF ?_⟩)⟩
      refine ⟨_, rfl, _, _, rfl, .inr (.inl ⟨e, _, _, _, false, rfl, (ha _ _ he), (hda), T.x_j, rfl, T.kit_cx, false, rfl, iteF ?_⟩)⟩
      refine ⟨_, rfl, _, _, rfl, .inr (.inl ⟨e, _, _, _, false, rfl, (ha _ _ he), (hda), T.x_j, rfl, T.kit_b8, false, rfl, iteF ?_⟩)⟩
      refine ⟨_, rfl, _, _, rfl, .inr (.inl ⟨e, _, _, _, false, rfl, (ha _ _ he), (hda), T.x_j, rfl, T.kit_b9, false, rfl, iteF ?_⟩)⟩
      refine ⟨_, rfl, _, _, rfl, .inr (.inl ⟨e, _, _, _, false, rfl, (ha _ _ he), (hda), T.x_j, rfl, T.kit_cy, false, rfl, iteF ?_⟩)⟩
      refine ⟨_, rfl, _, _, rfl, .inr (.inl ⟨e, _, _, _, false, rfl, (ha _ _ he), (hda), T.x_j, rfl, T.kit_bg, false, rfl, iteF ?_⟩)⟩
      refine ⟨_, rfl, _, _, rfl, .inr (.inl ⟨e, _, _, _, true, rfl, (ha _ _ he), (hda), T.x_j, rfl, T.kit_cz, true, rfl, iteT ?_⟩)⟩
      refine ⟨_, rfl, _, rfl, e, _, dx, _, v0, rfl, ha _ _ he, ha _ _ hdx, T.x_j, T.n_dw, lk_1, (by show 2 ≤ sizeLine; decide), fun l1 hl1 => ?_⟩
      have sb : Same Ha (upd Ha l1 (.lst [.str "row", v0])) := xo (Same.refl _) hl1
      have gb : upd Ha l1 (.lst [.str "row", v0]) l1 = some (.lst [.str "row", v0]) := xf
      revert sb gb
      generalize upd Ha l1 (.lst [.str "row", v0]) = Hb
      intro sb gb
      refine ⟨l0, l1, _, _, rfl, rfl, sb _ _ ga, gb, (by show 0 + 2 ≤ sizeLine; decide), fun l2 hl2 => ?_⟩
      have sc : Same Hb (upd Hb l2 (.lst ([] ++ [.str "row", v0]))) := xo (Same.refl _) hl2
      have gc : upd Hb l2 (.lst ([] ++ [.str "row", v0])) l2 = some (.lst ([] ++ [.str "row", v0])) := xf
      revert sc gc
      generalize upd Hb l2 (.lst ([] ++ [.str "row", v0])) = Hc
      intro sc gc
      have hc : Same H Hc := ha.trans (sb.trans sc)
      have hdc : ∀ d, some dx = some d → ∃ fs, Hc d = some (XD d fs) := fun d z => by cases z; exact ⟨_, hc _ _ hdx⟩
      refine ⟨_, rfl, _, rfl, e, _, rfl, ErAt.same hc ea0, (fun z => nomatch z), fun H9 l9 s9 g9 => ?_⟩
      refine ⟨l2, l9, _, _, rfl, rfl, s9 _ _ gc, g9, (by show 2 + 0 ≤ sizeLine; decide), fun l8 hl8 => ?_⟩
      exact q _ l8 (hc.trans (s9.trans (xo (Same.refl _) hl8))) (by rw [xf]; rfl)
end
end S03
set_option maxRecDepth 100000
set_option maxHeartbeats 4000000
namespace S03
open PySem L2 XL PyProof.Rows
theorem xeh {x d : Int} (h : 0 < d) (h2 : d ≤ 4294967296) : -(2 ^ 64) < x % d ∧ x % d < 2 ^ 64 := by
  have a := Int.emod_nonneg x (show d ≠ 0 by omega)
  have b := Int.emod_lt_of_pos x h
  exact ⟨by omega, by omega⟩
theorem xau (x : Int) {d : Int} (h : 0 < d) : 0 ≤ x % d ∧ x % d < d := ⟨Int.emod_nonneg _ (by omega), Int.emod_lt_of_pos _ h⟩
def xmp : Sp := fun vs H Q _ => ∃ c k : Int, vs = [.int c, .int k] ∧ ∀ m : Int, 0 ≤ m → m < 2147483587 → Q (.int m) H
def abc : Str := "abcdefghijklmnopqrstuvwxyz"
theorem xhd : abc.cps.toList = (List.range 26).map (97 + ·) := by decide +kernel
def ltr (i : Int) : Str := ⟨#[97 + i.toNat]⟩
theorem xg0 {i : Int} (h0 : 0 ≤ i) (h1 : i < 26) : atI abc.cps.toList i = some (97 + i.toNat) := by
  obtain ⟨j, rfl⟩ := Int.eq_ofNat_of_zero_le h0
  have lt : j < 26 := by omega
  refine xdz ?_
  rw [xhd, List.getElem?_map, List.getElem?_range lt]
  rfl
theorem xk5 {i j : Int} (hi : 0 ≤ i) (hj : 0 ≤ j) (h : ltr i = ltr j) : i = j := by
  unfold ltr at h
  have := congrArg (fun s : Str => s.cps.toList) h
  simp at this
  omega
theorem xgf {i : Int} (h0 : 0 ≤ i) (h1 : i < 26) : isNm (ltr i) = true := by
  unfold isNm ltr
  have g1 : ¬ ([97 + i.toNat] < [97]) := by rw [List.cons_lt_cons_iff]; rintro (z | ⟨_, z⟩); omega; cases z
  have g2 : ¬ ([122] < [97 + i.toNat]) := by rw [List.cons_lt_cons_iff]; rintro (z | ⟨_, z⟩); omega; cases z
  show (decide (1 = 1) && (!decide ([97 + i.toNat] < [97]) && !decide ([122] < [97 + i.toNat]))) = true
  rw [decide_eq_false g1, decide_eq_false g2]
  rfl
def xnl : List Int := [1, 3, 5, 7, 9, 11, 15, 17, 19, 21, 23, 25]
section
variable {P : Program} {w : World} {K : PySem.W.Frag} {mg : Str → Option Value} {base : Heap} {t : Adr}
theorem ok_u (T : Txt w K mg t) : FnOk true P w K mg base (CXo P w) 1 t.f_u t.d_u ["_law_cell_here", "_law_k"] (xmp) := by
  refine T.F_u.okn (k := 0) sc_u (fun vs H Q E h => ?_) (fun cdv A outer s H vs Q E hr h => ?_)
  · obtain ⟨c, k, rfl, _⟩ := h
    rfl
  · obtain ⟨c, k, rfl, h⟩ := h
    refine ⟨_, xm (x6 (i := 2) sc_u.nd rfl (Or.inl rfl) (xq xao (xq xas (pv 0) (xq xbh (xg) (pv 1))) (xg)))
      (xm (x6 (i := 2) sc_u.nd rfl (Or.inl rfl) (xq xao (xq xas (xq xbh (pv 2) (xg)) (pv 1)) (xg)))
      (xm (x6 (i := 2) sc_u.nd rfl (Or.inl rfl) (xq xao (xq xbh (pv 2) (xq xas (pv 2) (xg))) (xg)))
      (xn (xai (xq xao (xq xbh (pv 2) (xq xas (pv 2) (xg))) (xg)))))), ?_⟩
    refine ⟨_, rfl, _, rfl, _, _, rfl, rfl, .inl ⟨by decide, by decide⟩, _, _, rfl, rfl, _, _, rfl, rfl, (by show (0 : Int) < 2147483647; decide), ?_⟩
    refine ⟨_, rfl, _, _, rfl, rfl, .inr ⟨by decide, by decide⟩, _, rfl, _, _, rfl, rfl, _, _, rfl, rfl, (by show (0 : Int) < 2147483647; decide), ?_⟩
    refine ⟨_, rfl, _, rfl, _, _, rfl, rfl, _, _, rfl, rfl, .inl (xeh (by decide) (by decide)), _, _, rfl, rfl, (by show (0 : Int) < 2147483629; decide), ?_⟩
    refine ⟨_, rfl, _, rfl, _, _, rfl, rfl, _, _, rfl, rfl, .inl (xeh (by decide) (by decide)), _, _, rfl, rfl, (by show (0 : Int) < 2147483587; decide), ?_⟩
    exact h _ (xau _ (by decide)).1 (xau _ (by decide)).2
end
end S03
set_option maxRecDepth 100000
set_option maxHeartbeats 4000000
namespace S03
open PySem L2 XL PyProof.Rows
theorem xlf {s : Str} (l1 : s.length = 1) : ∃ c, s = ⟨#[c]⟩ := by
  cases s with
  | mk a =>
    have z : a.size = 1 := l1
    refine ⟨a[0]'(by omega), ?_⟩
    congr 1
    apply Array.ext
    · simp [z]
    · intro i h1 h2
      have : i = 0 := by omega
      subst this
      rfl
theorem xl9 {s : Str} (l1 : s.length = 1) : (!(Builtin.Str.occurrences abc s 0 abc.length 1).isEmpty) = isNm s := by
  obtain ⟨c, rfl⟩ := xlf l1
  rw [Bool.eq_iff_iff, StrLaws.found_iff]
  constructor
  · rintro ⟨i, hi, hs⟩
    have hi' : i < 26 := by
      have z : abc.length = 26 := by decide +kernel
      have z2 : i + 1 ≤ abc.length := hi
      omega
    have e := congrArg Array.toList (eq_of_beq hs)
    rw [Array.toList_extract, xhd] at e
    have e0 := congrArg (fun l : List Nat => l[0]?) e
    have e1 : some (97 + i) = some c := by
      have : (List.range 26)[i]? = some i := List.getElem?_range hi'
      have z : 0 < Str.length ⟨#[c]⟩ ∧ 97 + i = c := by simpa [List.extract_eq_take_drop, this, List.getElem?_take, List.getElem?_drop] using e0
      rw [z.2]
    cases e1
    have := xgf (i := (i : Int)) (by omega) (by omega)
    unfold ltr at this
    simpa using this
  · intro h
    unfold isNm at h
    rw [Bool.and_eq_true, Bool.and_eq_true, Bool.not_eq_true', Bool.not_eq_true', decide_eq_false_iff_not, decide_eq_false_iff_not] at h
    obtain ⟨_, h1, h2⟩ := h
    have g1 : 97 ≤ c := by
      by_cases z : 97 ≤ c
      · exact z
      · exact absurd (List.cons_lt_cons_iff.mpr (.inl (by omega))) h1
    have g2 : c ≤ 122 := by
      by_cases z : c ≤ 122
      · exact z
      · exact absurd (List.cons_lt_cons_iff.mpr (.inl (by omega))) h2
    obtain ⟨i, rfl⟩ : ∃ i, c = 97 + i := ⟨c - 97, by omega⟩
    have hi : i < 26 := by omega
    refine ⟨i, ?_, ?_⟩
    · show i + 1 ≤ abc.length
      have z : abc.length = 26 := by decide +kernel
      omega
    · have : i = 0 ∨ i = 1 ∨ i = 2 ∨ i = 3 ∨ i = 4 ∨ i = 5 ∨ i = 6 ∨ i = 7 ∨ i = 8 ∨ i = 9 ∨ i = 10 ∨ i = 11 ∨ i = 12 ∨ i = 13 ∨ i = 14 ∨ i = 15 ∨ i = 16 ∨ i = 17 ∨ i = 18 ∨ i = 19 ∨ i = 20 ∨ i = 21 ∨ i = 22 ∨ i = 23 ∨ i = 24 ∨ i = 25 := by omega
      rcases this with rfl | rfl | rfl | rfl | rfl | rfl | rfl | rfl | rfl | rfl | rfl | rfl | rfl | rfl | rfl | rfl | rfl | rfl | rfl | rfl | rfl | rfl | rfl | rfl | rfl | rfl <;> decide +kernel
theorem xbk {H H' : Hp} {q : Addr} (s : Same H H') (h : H' q = none) : H q = none := by
  cases z : H q with
  | none => rfl
  | some u => rw [s _ _ z] at h; cases h
theorem xe1 {H : Hp} {xs : List V} {P : V → DV → Prop} (all : ∀ v ∈ xs, ∃ d, Thg H v d ∧ P v d) {k : Int} (h0 : 0 ≤ k) (h1 : k < xs.length) : ∃ v d, atI xs k = some v ∧ Thg H v d ∧ P v d := by
  obtain ⟨j, rfl⟩ := Int.eq_ofNat_of_zero_le h0
  have lt : j < xs.length := by omega
  obtain ⟨d, hd, hp⟩ := all xs[j] (List.getElem_mem lt)
  exact ⟨xs[j], d, xdz (List.getElem?_eq_getElem lt), hd, hp⟩
theorem xld (i : Int) : (ltr i).length ≤ 1000 := by
  show 1 ≤ 1000
  decide
theorem xc2 {i lo hi : Int} (h : ¬ (lo ≤ i ∧ i ≤ hi)) : xr (.int i) lo hi = false := by
  cases z : xr (.int i) lo hi with
  | false => rfl
  | true =>
    obtain ⟨j, e, h1, h2⟩ := xa0 z
    cases e
    exact absurd ⟨h1, h2⟩ h
def xm4 : Sp := fun vs H Q _ => ∃ (n m : Int), vs = [.int n, .int m] ∧ 0 ≤ m ∧ ∀ (H' : Hp) (v : V) (d : DV), Same H H' → Thg H' v d → xr d 1 m = false → (∀ q, v = .ref q → H q = none) → Q v H'
section
variable {P : Program} {w : World} {K : PySem.W.Frag} {mg : Str → Option Value} {base : Heap} {t : Adr}
theorem ok_p (T : Txt w K mg t) : FnOk true P w K mg base (CXo P w) 1 t.f_p t.d_p ["_law_thing", "_law_low", "_law_high"] (spWT) := by
  refine T.F_p.okn (k := 0) sc_p (fun vs H Q E h => ?_) (fun cdv A outer s H vs Q E hr h => ?_)
  · obtain ⟨x, d, lo, hi, rfl, _⟩ := h
    rfl
  · obtain ⟨x, d, lo, hi, rfl, h⟩ := h
    refine ⟨_, xn (xai (xbo (xx xaa rfl T.n_isinstance boot_isinstance (xb (pv 0) (xb (xa5 (v := .ty "int") rfl T.n_int boot_int rfl) (xj)))) (xbo (xef (xx xaa rfl T.n_isinstance boot_isinstance (xb (pv 0) (xb (xa5 (v := .ty "bool") rfl T.n_bool boot_bool rfl) (xj))))) (xcv (xcu xdy xdy (pv 1) (pv 0) (pv 2)))))), ?_⟩
    obtain ⟨tx, q⟩ := h
    cases tx with
    | int i =>
      refine ⟨_, rfl, _, _, rfl, .inl ⟨_, _, true, .int i, rfl, xa3, true, rfl, iteT ?_⟩⟩
      refine ⟨_, rfl, _, _, rfl, .inl ⟨_, _, false, .int i, rfl, (by rfl), false, rfl, true, rfl, iteT ?_⟩⟩
      refine ⟨_, rfl, _, rfl, _, _, rfl, rfl, _, rfl, ite2 (fun c => ?_) (fun c => ?_)⟩
      · refine ⟨_, rfl, _, _, rfl, rfl, ?_⟩
        change Q (.bl (decide (lo ≤ i) && decide (i ≤ hi))) H at q
        rw [c, Bool.true_and] at q
        exact q
      · change Q (.bl (decide (lo ≤ i) && decide (i ≤ hi))) H at q
        rw [Bool.eq_false_iff.mpr c, Bool.false_and] at q
        exact q
    | bl b =>
      refine ⟨_, rfl, _, _, rfl, .inl ⟨_, _, true, .bl b, rfl, (by rfl), true, rfl, iteT ?_⟩⟩
      exact ⟨_, rfl, _, _, rfl, .inl ⟨_, _, true, .bl b, rfl, xa3, true, rfl, false, rfl, iteF q⟩⟩
    | str y => exact ⟨_, rfl, _, _, rfl, .inl ⟨_, _, false, .str y, rfl, (by rfl), false, rfl, iteF q⟩⟩
    | non => exact ⟨_, rfl, _, _, rfl, .inl ⟨_, _, false, .non, rfl, (by rfl), false, rfl, iteF q⟩⟩
    | lst hq => exact ⟨_, rfl, _, _, rfl, .inl ⟨_, _, false, .lst hq, rfl, (by rfl), false, rfl, iteF q⟩⟩
    | tup hq => exact ⟨_, rfl, _, _, rfl, .inl ⟨_, _, false, .tup hq, rfl, (by rfl), false, rfl, iteF q⟩⟩
theorem ok_at (T : Txt w K mg t) : FnOk true P w K mg base (CXo P w) 2 t.f_at t.d_at ["_law_number", "_law_size"] (xm4) := by
  refine T.F_at.okn (k := 1) sc_at (fun vs H Q E h => ?_) (fun cdv A outer s H vs Q E hr h => ?_)
  · obtain ⟨n, m, rfl, _⟩ := h
    rfl
  · obtain ⟨n, m, rfl, h⟩ := h
    refine ⟨_, xm (x6 (i := 2) sc_at.nd rfl (Or.inl rfl) (xq xas (xq xas (pv 1) (xg)) (xq xbh (xq xao (xq xbi (pv 0) (xg)) (xq xiz (xg) (xg))) (xq xiz (xg) (xg)))))
      (xn ((by (with_reducible refine' xai ?e5); (case e5 => ((with_reducible refine' xt (r := rIxL K) ?r6 ?l7 ?j8 ?p9); (case r6 => exact xv); (case p9 => exact fun _ _ => rfl); (case j8 => exact xq xao (pv 0) (xg)); (case l7 => ((with_reducible refine' xab ?p10); (case p10 => ((with_reducible refine' xb ?e11 ?q12 rfl); (case e11 => exact xg); (case q12 => ((with_reducible refine' xb ?e13 ?q14 rfl); (case e13 => exact xq xas (pv 1) (xg)); (case q14 => ((with_reducible refine' xb ?e15 ?q16 rfl); (case e15 => exact xq xeu (xg) (pv 2)); (case q16 => ((with_reducible refine' xb ?e17 ?q18 rfl); (case e17 => exact pv 2); (case q18 => ((with_reducible refine' xb ?e19 ?q20 rfl); (case e19 => exact xby); (case q20 => ((with_reducible refine' xb ?e21 ?q22 rfl); (case e21 => exact xck); (case q22 => ((with_reducible refine' xb ?e23 ?q24 rfl); (case e23 => exact x4); (case q24 => ((with_reducible refine' xb ?e25 ?q26 rfl); (case e25 => exact xab (xb (xg) (xj))); (case q26 => ((with_reducible refine' xb ?e27 ?q28 rfl); (case e27 => exact xbg (xb (xg) (xj))); (case q28 => ((exact xj)))))))))))))))))))))))))))), ?_⟩
    obtain ⟨m0, q⟩ := h
    refine ⟨_, rfl, _, _, rfl, rfl, _, rfl, _, _, rfl, rfl, ⟨by decide, by decide⟩, _, _, rfl, rfl, ⟨by decide, by decide, by decide⟩, _, _, rfl, rfl, (by show (0 : Int) < 10 ^ (9 : Int).toNat; decide), _, _, rfl, rfl, ⟨by decide, by decide, by decide⟩, _, _, rfl, rfl, .inr ⟨by decide, by decide⟩, _, _, rfl, rfl, ?_⟩
    have far0 : m + 1 ≤ m + 1 + n / 9 % 10 ^ (9 : Int).toNat * 10 ^ (11 : Int).toNat := by
      have z := (xau (n / 9) (show (0 : Int) < 10 ^ (9 : Int).toNat by decide)).1
      have z2 : 0 ≤ n / 9 % 10 ^ (9 : Int).toNat * 10 ^ (11 : Int).toNat := Int.mul_nonneg z (by decide)
      omega
    obtain ⟨far, hfar⟩ : ∃ far, far = m + 1 + n / 9 % 10 ^ (9 : Int).toNat * 10 ^ (11 : Int).toNat := ⟨_, rfl⟩
    rw [← hfar] at far0
    refine ⟨_, rfl, _, _, rfl, rfl, _, rfl, _, _, rfl, rfl, _, rfl, (by show 1 ≤ sizeLine; decide), fun q7 hq7 => ?_⟩
    have s7 : Same H (upd H q7 (.lst [.int 1])) := xo (Same.refl _) hq7
    have g7 : upd H q7 (.lst [.int 1]) q7 = some (.lst [.int 1]) := xf
    revert s7 g7
    generalize upd H q7 (.lst [.int 1]) = H7
    intro s7 g7
    refine ⟨(by show 1 ≤ sizeLine; decide), fun q8 hq8 => ?_⟩
    have s8 : Same H7 (upd H7 q8 (.tup [.int 1])) := xo (Same.refl _) hq8
    have g8 : upd H7 q8 (.tup [.int 1]) q8 = some (.tup [.int 1]) := xf
    revert s8 g8
    generalize upd H7 q8 (.tup [.int 1]) = H8
    intro s8 g8
    refine ⟨(by show 9 ≤ sizeLine; decide), fun q9 hq9 => ?_⟩
    dsimp only
    rw [← hfar]
    have s9 : Same H8 (upd H8 q9 (.lst [.int 0, .int (m + 1), .int (0 - far), .int far, .bl true, .non, .str "1", .ref q7, .ref q8])) := xo (Same.refl _) hq9
    have g9 : upd H8 q9 (.lst [.int 0, .int (m + 1), .int (0 - far), .int far, .bl true, .non, .str "1", .ref q7, .ref q8]) q9 = some (.lst [.int 0, .int (m + 1), .int (0 - far), .int far, .bl true, .non, .str "1", .ref q7, .ref q8]) := xf
    revert s9 g9
    generalize upd H8 q9 (.lst [.int 0, .int (m + 1), .int (0 - far), .int far, .bl true, .non, .str "1", .ref q7, .ref q8]) = H9
    intro s9 g9
    have mb := xau n (show (0 : Int) < 9 by decide)
    obtain ⟨r, dr, er, tr, wr, nr⟩ := xe1 (H := H9) (P := fun v d => xr d 1 m = false ∧ ∀ q, v = .ref q → H q = none) (xs := [.int 0, .int (m + 1), .int (0 - far), .int far, .bl true, .non, .str "1", .ref q7, .ref q8]) (fun v hv => by
      simp only [List.mem_cons, List.not_mem_nil, or_false] at hv
      rcases hv with rfl | rfl | rfl | rfl | rfl | rfl | rfl | rfl | rfl
      · exact ⟨_, .int _, xc2 (by omega), fun q z => nomatch z⟩
      · exact ⟨_, .int _, xc2 (by omega), fun q z => nomatch z⟩
      · exact ⟨_, .int _, xc2 (by omega), fun q z => nomatch z⟩
      · exact ⟨_, .int _, xc2 (by omega), fun q z => nomatch z⟩
      · exact ⟨_, .bl _, rfl, fun q z => nomatch z⟩
      · exact ⟨_, .non, rfl, fun q z => nomatch z⟩
      · exact ⟨_, .str _ (by decide +kernel), rfl, fun q z => nomatch z⟩
      · exact ⟨_, .lst (s9 _ _ (s8 _ _ g7)) rfl, rfl, fun q z => by cases z; exact hq7⟩
      · exact ⟨_, .tup (s9 _ _ g8) rfl, rfl, fun q z => by cases z; exact xbk s7 hq8⟩) mb.1 mb.2
    refine ⟨_, rfl, _, _, rfl, rfl, (by show (0 : Int) < 9; decide), q9, _, _, r, rfl, rfl, SqL.of g9, er, ?_⟩
    exact q H9 r dr (s7.trans (s8.trans s9)) tr wr nr
end
end S03
set_option maxRecDepth 100000
set_option maxHeartbeats 4000000
namespace S03
open PySem L2 XL PyProof.Rows
def xm3 : Option Er → List V
  | some er => er.told
  | none => []
def xlo (t : Adr) : Sp := fun vs H Q E => ∃ (a ar dp do_ : Addr) (pw ph : Int) (ps : List Pt) (n x y s lo hv es el hi : V) (dn dx dy ds dl dv des del dhi : DV) (m : Int), vs = [.ref a, .ref ar, .int m] ∧ Pic t H a dp do_ pw ph ps ∧ H ar = some (.lst [n, x, y, s, lo, hv]) ∧ 0 ≤ m ∧ m ≤ 3 ∧ Thg H n dn ∧ Thg H x dx ∧ Thg H y dy ∧ Thg H s ds ∧ Thg H lo dl ∧ Thg H hv dv ∧
  ((2 < m ∧ es = .str "both" ∧ des = .str "both") ∨ (¬ 2 < m ∧ es = s ∧ des = ds)) ∧ ((1 < m ∧ el = .int 1 ∧ del = .int 1) ∨ (¬ 1 < m ∧ el = lo ∧ del = dl)) ∧ (((0 < m ∨ hv = .non) ∧ hi = .int ph ∧ dhi = .int ph) ∨ (¬ 0 < m ∧ hv ≠ .non ∧ hi = hv ∧ dhi = dv)) ∧
  Outs t H (xac pw ph ps dn dx dy des del dhi n x y es el hi) E (∀ nm i j sd l h H', dn = .str nm → dx = .int i → dy = .int j → des = .str sd → del = .int l → dhi = .int h → (∀ b u, b ≠ dp → H b = some u → H' b = some u) → Pic t H' a dp do_ pw ph (ps ++ [⟨nm, i, j, sd, l, h⟩]) → PtOk pw ph ⟨nm, i, j, sd, l, h⟩ → (∀ p ∈ ps, p.nm ≠ nm ∧ p.x ≠ i ∧ p.y ≠ j) → ps.length < 12 → Q .non H')
section
variable {P : Program} {w : World} {K : PySem.W.Frag} {mg : Str → Option Value} {base : Heap} {t : Adr}
theorem okT_au (T : Txt w K mg t) : FnOk true P w K mg base (CXo P w) 5 t.f_au t.d_au ["_law_picture", "_law_args_here", "_law_many"] (xlo t) := by
  refine T.F_au.okx (k := 4) sc_au (fun vs H Q E h => ?_) (fun cdv A outer s H vs Q E hr h => ?_)
  · obtain ⟨a, ar, dp, do_, pw, ph, ps, n, x, y, s', lo, hv, es, el, hi, dn, dx, dy, ds, dl, dv, des, del, dhi, m, rfl, _⟩ := h
    rfl
  · obtain ⟨a, ar, dp, do_, pw, ph, ps, n, x, y, s', lo, hv, es, el, hi, dn, dx, dy, ds, dl, dv, des, del, dhi, m, rfl, h⟩ := h
    refine ⟨_, xm (x8 (xaj xbq (pv 2) (xg) (xan _)) (xn (xai (xbv (pv 0) T.c_r T.m_e (okT_e T) (hr.mono (by decide)) T.b_er.choose_spec.2 T.b_er.choose_spec.1 xaq.pass (xb (xt xv (pv 1) (xg) (fun _ _ => rfl)) (xb (xt xv (pv 1) (xg) (fun _ _ => rfl)) (xb (xt xv (pv 1) (xg) (fun _ _ => rfl)) (xj))))))) (xw))
      (xm (x8 (xaj xbq (pv 2) (xg) (xan _)) (xn (xai (xbv (pv 0) T.c_r T.m_e (okT_e T) (hr.mono (by decide)) T.b_gb.choose_spec.2 T.b_gb.choose_spec.1 xaq.pass (xb (xt xv (pv 1) (xg) (fun _ _ => rfl)) (xb (xt xv (pv 1) (xg) (fun _ _ => rfl)) (xb (xt xv (pv 1) (xg) (fun _ _ => rfl)) (xb (xt xv (pv 1) (xg) (fun _ _ => rfl)) (xj)))))))) (xw))
      (xm (x8 (xaj xbq (pv 2) (xg) (xan _)) (xn (xai (xbv (pv 0) T.c_r T.m_e (okT_e T) (hr.mono (by decide)) T.b_gc.choose_spec.2 T.b_gc.choose_spec.1 xaq.pass (xb (xt xv (pv 1) (xg) (fun _ _ => rfl)) (xb (xt xv (pv 1) (xg) (fun _ _ => rfl)) (xb (xt xv (pv 1) (xg) (fun _ _ => rfl)) (xb (xt xv (pv 1) (xg) (fun _ _ => rfl)) (xb (xt xv (pv 1) (xg) (fun _ _ => rfl)) (xj))))))))) (xw))
      (xn (xai (xbv (pv 0) T.c_r T.m_e (okT_e T) (hr.mono (by decide)) T.b_e .nil xaq.pass (xam (xt xv (pv 1) (xg) (fun _ _ => rfl)) (xam (xt xv (pv 1) (xg) (fun _ _ => rfl)) (xam (xt xv (pv 1) (xg) (fun _ _ => rfl)) (xam (xt xv (pv 1) (xg) (fun _ _ => rfl)) (xam (xt xv (pv 1) (xg) (fun _ _ => rfl)) (xam (xt xv (pv 1) (xg) (fun _ _ => rfl)) (xj) rfl) rfl) rfl) rfl) rfl) rfl)))))), ?_⟩
    obtain ⟨pic, har, m0, m3, tn, tx, ty, ts, tl, tv, hs, hl, hh, hE, q⟩ := h
    obtain ⟨⟨dx0, hp⟩, _⟩ := id pic
    have top : 0 < m → hi = .int ph ∧ dhi = .int ph := fun z => by
      rcases hh with ⟨_, h⟩ | ⟨w, _⟩
      · exact h
      · exact absurd z w
    refine ⟨_, rfl, rfl, _, rfl, ?_⟩
    by_cases c3 : m = 3
    · subst c3
      obtain ⟨rfl, rfl⟩ := top (by decide)
      obtain ⟨rfl, rfl⟩ : es = .str "both" ∧ des = .str "both" := by
        rcases hs with ⟨_, h⟩ | ⟨z, _⟩
        · exact h
        · exact absurd (by decide) z
      obtain ⟨rfl, rfl⟩ : el = .int 1 ∧ del = .int 1 := by
        rcases hl with ⟨_, h⟩ | ⟨z, _⟩
        · exact h
        · exact absurd (by decide) z
      exact ifP (by rfl) ⟨_, rfl, a, dx0, _, rfl, hp, xbd (by decide +kernel), _, rfl, ar, _, 0, _, rfl, rfl, SqL.of har, rfl, _, rfl, ar, _, 1, _, rfl, rfl, SqL.of har, rfl, _, rfl, ar, _, 2, _, rfl, rfl, SqL.of har, rfl, a, dp, do_, pw, ph, ps, n, x, y, _, _, _, _, dn, dx, dy, _, _, _, _, rfl, pic, tn, tx, ty, .str _ (by decide +kernel), .int _, .non, .inl ⟨rfl, rfl, rfl⟩, hE, q⟩
    refine ifN (decide_eq_false fun z => c3 (V.int.inj z)) ⟨_, rfl, rfl, _, rfl, ?_⟩
    obtain ⟨rfl, rfl⟩ : es = s' ∧ des = ds := by
      rcases hs with ⟨z, _⟩ | ⟨_, h⟩
      · omega
      · exact h
    by_cases c2 : m = 2
    · subst c2
      obtain ⟨rfl, rfl⟩ := top (by decide)
      obtain ⟨rfl, rfl⟩ : el = .int 1 ∧ del = .int 1 := by
        rcases hl with ⟨_, h⟩ | ⟨z, _⟩
        · exact h
        · exact absurd (by decide) z
      exact ifP (by rfl) ⟨_, rfl, a, dx0, _, rfl, hp, xbd (by decide +kernel), _, rfl, ar, _, 0, _, rfl, rfl, SqL.of har, rfl, _, rfl, ar, _, 1, _, rfl, rfl, SqL.of har, rfl, _, rfl, ar, _, 2, _, rfl, rfl, SqL.of har, rfl, _, rfl, ar, _, 3, _, rfl, rfl, SqL.of har, rfl, a, dp, do_, pw, ph, ps, n, x, y, _, _, _, _, dn, dx, dy, _, _, _, _, rfl, pic, tn, tx, ty, ts, .int _, .non, .inl ⟨rfl, rfl, rfl⟩, hE, q⟩
    refine ifN (decide_eq_false fun z => c2 (V.int.inj z)) ⟨_, rfl, rfl, _, rfl, ?_⟩
    obtain ⟨rfl, rfl⟩ : el = lo ∧ del = dl := by
      rcases hl with ⟨z, _⟩ | ⟨_, h⟩
      · omega
      · exact h
    by_cases c1 : m = 1
    · subst c1
      obtain ⟨rfl, rfl⟩ := top (by decide)
      exact ifP (by rfl) ⟨_, rfl, a, dx0, _, rfl, hp, xbd (by decide +kernel), _, rfl, ar, _, 0, _, rfl, rfl, SqL.of har, rfl, _, rfl, ar, _, 1, _, rfl, rfl, SqL.of har, rfl, _, rfl, ar, _, 2, _, rfl, rfl, SqL.of har, rfl, _, rfl, ar, _, 3, _, rfl, rfl, SqL.of har, rfl, _, rfl, ar, _, 4, _, rfl, rfl, SqL.of har, rfl, a, dp, do_, pw, ph, ps, n, x, y, _, _, _, _, dn, dx, dy, _, _, _, _, rfl, pic, tn, tx, ty, ts, tl, .non, .inl ⟨rfl, rfl, rfl⟩, hE, q⟩
    refine ifN (decide_eq_false fun z => c1 (V.int.inj z)) ?_
    refine ⟨_, rfl, a, dx0, _, rfl, hp, xbd (by decide +kernel), _, rfl, ar, _, 0, _, rfl, rfl, SqL.of har, rfl, _, rfl, ar, _, 1, _, rfl, rfl, SqL.of har, rfl, _, rfl, ar, _, 2, _, rfl, rfl, SqL.of har, rfl, _, rfl, ar, _, 3, _, rfl, rfl, SqL.of har, rfl, _, rfl, ar, _, 4, _, rfl, rfl, SqL.of har, rfl, _, rfl, ar, _, 5, _, rfl, rfl, SqL.of har, rfl, a, dp, do_, pw, ph, ps, n, x, y, _, _, hv, hi, dn, dx, dy, _, _, dv, dhi, rfl, pic, tn, tx, ty, ts, tl, tv, ?_, hE, q⟩
    rcases hh with ⟨z, h⟩ | ⟨_, z⟩
    · rcases z with z | z
      · omega
      · exact .inl ⟨z, h⟩
    · exact .inr z
end
end S03
set_option maxRecDepth 100000
set_option maxHeartbeats 4000000
namespace S03
open PySem L2 XL PyProof.Rows
theorem xml {ps : List Pt} (nms : ∀ p ∈ ps, isNm p.nm = true) {d : DV} : ((ps.map fun p => DV.str p.nm).any fun z => dEq z d) = hasN ps d := by
  have step : ∀ s : Str, ((ps.map fun p => DV.str p.nm).any fun z => dEq z (.str s)) = ps.any fun p => decide (p.nm = s) := fun s => by
    rw [List.any_map]
    congr 1
  cases d with
  | str s =>
    rw [step]
    change _ = (isNm s && ps.any fun p => decide (p.nm = s))
    cases z : (ps.any fun p => decide (p.nm = s)) with
    | false => rw [Bool.and_false]
    | true =>
      obtain ⟨p, hp, e⟩ := List.any_eq_true.mp z
      rw [← show p.nm = s by simpa using e, nms p hp]
      rfl
  | _ =>
    change _ = false
    rw [List.any_eq_false]
    intro z hz
    obtain ⟨p, _, rfl⟩ := List.mem_map.mp hz
    exact fun e => nomatch e
def xlm (t : Adr) : Sp := fun vs H Q _ => ∃ (sz l ar : Addr) (w h : Int) (ps : List Pt) (qs : List Addr) (n x y s lo hi : V) (dn dx dy ds dl dh : DV), vs = [.ref sz, .ref l, .ref ar] ∧ H sz = some (.tup [.int w, .int h]) ∧ H l = some (.lst (qs.map V.ref)) ∧ PtsL H ps qs ∧ ps.length ≤ 12 ∧ (∀ p ∈ ps, isNm p.nm = true) ∧ H ar = some (.lst [n, x, y, s, lo, hi]) ∧ Thg H n dn ∧ Thg H x dx ∧ Thg H y dy ∧ Thg H s ds ∧ Thg H lo dl ∧ Thg H hi dh ∧
  ∀ H' m, H m = none → Same H H' → H' m = some (.lst (xm3 (xac w h ps dn dx dy ds dl dh n x y s lo hi))) → Q (.ref m) H'
theorem xjl {d : DV} : ([DV.str "left", DV.str "right", DV.str "both"].any fun z => dEq z d) = xcj d := by
  cases d with
  | str s =>
    show ((("left" : Str) == s) || ((("right" : Str) == s) || ((("both" : Str) == s) || false))) = (valV mirD (Sum.inr s)).isSome
    unfold mirD
    by_cases c : s = "left"
    · subst c
      decide +kernel
    · rw [xbb (fun z => c (Sum.inr.inj z).symm), show (("left" : Str) == s) = false from by simpa using fun z => c z.symm]
      by_cases c2 : s = "right"
      · subst c2
        decide +kernel
      · rw [xbb (fun z => c2 (Sum.inr.inj z).symm), show (("right" : Str) == s) = false from by simpa using fun z => c2 z.symm]
        by_cases c3 : s = "both"
        · subst c3
          decide +kernel
        · rw [xbb (fun z => c3 (Sum.inr.inj z).symm), show (("both" : Str) == s) = false from by simpa using fun z => c3 z.symm]
          rfl
  | non => rfl
  | bl b => rfl
  | int i => rfl
  | tup xs => rfl
  | lst xs => rfl
theorem xlq {K : PySem.W.Frag} {H : Hp} {q : Addr} (h : H q = some (.lst [.str "left", .str "right", .str "both"])) : Dv K H 1 (.ref q) (.lst [.str "left", .str "right", .str "both"]) := by
  refine .lst (SqL.of h) rfl fun j x d h1 h2 => ?_
  match j, h1, h2 with
  | 0, h1, h2 => cases h1; cases h2; exact .str
  | 1, h1, h2 => cases h1; cases h2; exact .str
  | 2, h1, h2 => cases h1; cases h2; exact .str
  | j + 3, h1, h2 => simp at h1
section
variable {P : Program} {w : World} {K : PySem.W.Frag} {mg : Str → Option Value} {base : Heap} {t : Adr}
theorem ok_ar (T : Txt w K mg t) : FnOk true P w K mg base (CXo P w) 2 t.f_ar t.d_ar ["_law_size", "_law_rows", "_law_args_here"] (xlm t) := by
  refine T.F_ar.okn (k := 1) sc_ar (fun vs H Q E h => ?_) (fun cdv A outer s H vs Q E hr h => ?_)
  · obtain ⟨sz, l, ar, w, ht, ps, qs, n, x, y, s', lo, hi, dn, dx, dy, ds, dl, dh, rfl, _⟩ := h
    rfl
  · obtain ⟨sz, l, ar, w, ht, ps, qs, n, x, y, s', lo, hi, dn, dx, dy, ds, dl, dh, rfl, h⟩ := h
    refine ⟨_, xm (xbs (pv 2) (xk6 rfl (xa7 (xap (i := 3) sc_ar.nd rfl (Or.inl rfl)) (xa7 (xap (i := 4) sc_ar.nd rfl (Or.inl rfl)) (xa7 (xap (i := 5) sc_ar.nd rfl (Or.inl rfl)) (xa7 (xap (i := 6) sc_ar.nd rfl (Or.inl rfl)) (xa7 (xap (i := 7) sc_ar.nd rfl (Or.inl rfl)) (xa7 (xap (i := 8) sc_ar.nd rfl (Or.inl rfl)) (xdt)))))))))
      (xm (x8 (PW.pt (xbe (xat (xad (xx xaa rfl T.n_isinstance boot_isinstance (xb (pv 3) (xb (xa5 (v := .ty "str") rfl T.n_str boot_str rfl) (xj)))))) (xbe (xaj xhz (xx xcw rfl T.n_len boot_len (xb (pv 3) (xj))) (xg) (xan _)) (xbc (xaj xga (pv 3) (x4) (by rfl)))))) (xn (xai (xab (xb (x4) (xb (pv 3) (xj)))))) (xw))
      (xm (x8 (PW.pt (xbe (xat (xad (x5 (ok_p T) (hr.mono (by decide)) rfl T.g_p T.F_p.kp T.b_p .nil xu (xb (pv 4) (xb (xg) (xb (xt xay (pv 0) (xg) (fun _ _ => rfl)) (xj))))))) (xbc (xat (xad (x5 (ok_p T) (hr.mono (by decide)) rfl T.g_p T.F_p.kp T.b_p .nil xu (xb (pv 5) (xb (xg) (xb (xt xay (pv 0) (xg) (fun _ _ => rfl)) (xj)))))))))) (xn (xai (xab (xb (x4) (xb (pv 4) (xb (pv 5) (xj))))))) (xw))
      (xm (x8 (xaj (xip (xb1 hr)) (pv 6) (xab (xb (x4) (xb (x4) (xb (x4) (xj))))) (by rfl)) (xn (xai (xab (xb (x4) (xb (pv 6) (xj)))))) (xw))
      (xm (x8 (PW.pt (xbe (xat (xad (x5 (ok_p T) (hr.mono (by decide)) rfl T.g_p T.F_p.kp T.b_p .nil xu (xb (pv 7) (xb (xg) (xb (xt xay (pv 0) (xg) (fun _ _ => rfl)) (xj))))))) (xbc (xat (xad (x5 (ok_p T) (hr.mono (by decide)) rfl T.g_p T.F_p.kp T.b_p .nil xu (xb (pv 8) (xb (pv 7) (xb (xt xay (pv 0) (xg) (fun _ _ => rfl)) (xj)))))))))) (xn (xai (xab (xb (x4) (xb (pv 7) (xb (pv 8) (xj))))))) (xw))
      (xm (x8 (xaj (xln (xb1 hr)) (pv 3) (xdi rfl (xb2 (zs := ["_law_row"]) (ys := []) (fr := []) (N0 := ["_law_size", "_law_rows", "_law_args_here", "_law_name", "_law_x", "_law_y", "_law_sides", "_law_low", "_law_high", "_law_at", "_law_row"]) (sc0 := xp s_ar) (by decide +kernel) rfl rfl rfl) (xbj (pv 1)) (fun _ _ _ _ _ ow nd => xap (i := 0) nd rfl (Or.inl (ow _ (by simp))) (Or.inr (ow _ (by simp)))) (xca (by decide)) (fun _ _ _ _ _ => xdb) (fun _ _ _ _ _ => xt (r := rIxT K) xay (pv 0) (xg) (fun _ _ => rfl))) (by rfl)) (xn (xai (xab (xb (x4) (xb (pv 3) (xj)))))) (xw))
      (xm (x8 (xaj xej (xx xb8 rfl T.n_len boot_len (xb (pv 1) (xj))) (xg) (xan _)) (xn (xai (xab (xb (x4) (xj))))) (xw))
      (xm (xbt PassesOwn.never rfl (xbj (xab (xb (xg) (xb (xg) (xj))))) (xap (i := 9) sc_ar.nd rfl (Or.inl rfl)) (xn (xbt PassesOwn.never rfl (xbj (pv 1)) (xap (i := 10) sc_ar.nd rfl (Or.inl rfl)) (xn (x8 (xaj xbq (xt xay (pv 10) (pv 9) (fun _ _ => rfl)) (xt xv (pv 2) (pv 9) (fun _ _ => rfl)) (xan _)) (xn (xai (xab (xb (xt xv (xab (xb (x4) (xb (x4) (xj)))) (xq xeu (pv 9) (xg)) (fun _ _ => rfl)) (xb (xt xay (pv 10) (xg) (fun _ _ => rfl)) (xj)))))) (xw))))))
      (xn (xai (xab (xj))))))))))), ?_⟩
    obtain ⟨hsz, hl, pts, ple, nms, har, tn, tx, ty, ts, tl, th, q⟩ := h
    have ql := pts.len
    refine ⟨_, rfl, ar, _, rfl, SqL.of har, rfl, _, _, rfl, _, _, rfl, _, _, rfl, _, _, rfl, _, _, rfl, _, _, rfl, rfl, ?_⟩
    have badN : ∀ m, H m = none → xdr dn = false → Q (.ref m) (upd H m (.lst [.str "name", n])) := fun m hm e => by
      refine q _ m hm (xo (Same.refl _) hm) ?_
      have oo : xac w ht ps dn dx dy ds dl dh n x y s' lo hi = some (.noName n) := by unfold xac; rw [e]; rfl
      rw [oo]
      exact xf
    cases tn with
    | int i => exact ⟨_, rfl, _, _, rfl, .inl ⟨_, _, false, .int i, rfl, (by rfl), false, rfl, iteT (iteT ⟨_, rfl, (by show 2 ≤ sizeLine; decide), fun m hm => badN m hm rfl⟩)⟩⟩
    | bl b => exact ⟨_, rfl, _, _, rfl, .inl ⟨_, _, false, .bl b, rfl, (by rfl), false, rfl, iteT (iteT ⟨_, rfl, (by show 2 ≤ sizeLine; decide), fun m hm => badN m hm rfl⟩)⟩⟩
    | non => exact ⟨_, rfl, _, _, rfl, .inl ⟨_, _, false, .non, rfl, (by rfl), false, rfl, iteT (iteT ⟨_, rfl, (by show 2 ≤ sizeLine; decide), fun m hm => badN m hm rfl⟩)⟩⟩
    | lst hq => exact ⟨_, rfl, _, _, rfl, .inl ⟨_, _, false, .lst hq, rfl, (by rfl), false, rfl, iteT (iteT ⟨_, rfl, (by show 2 ≤ sizeLine; decide), fun m hm => badN m hm rfl⟩)⟩⟩
    | tup hq => exact ⟨_, rfl, _, _, rfl, .inl ⟨_, _, false, .tup hq, rfl, (by rfl), false, rfl, iteT (iteT ⟨_, rfl, (by show 2 ≤ sizeLine; decide), fun m hm => badN m hm rfl⟩)⟩⟩
    | str nm xl =>
      have tn : Thg H (.str nm) (.str nm) := .str nm xl
      refine ⟨_, rfl, _, _, rfl, .inl ⟨_, _, true, .str nm, rfl, xa3, true, rfl, iteF ⟨_, rfl, _, rfl, (by first | exact Nat.lt_of_le_of_lt xl (by decide) | exact Nat.le_trans xl (by decide) | omega), rfl, _, rfl, ite2 (fun c => ?_) (fun c => ?_)⟩⟩⟩
      · have l1 : ¬ nm.length = 1 := fun z => by
          rw [z] at c
          simp at c
        exact iteT ⟨_, rfl, (by show 2 ≤ sizeLine; decide), fun m hm => badN m hm (by change isNm nm = false; unfold isNm; rw [decide_eq_false l1]; rfl)⟩
      have l1 : nm.length = 1 := by
        by_cases z : nm.length = 1
        · exact z
        · exact absurd (by simpa using fun e => z (by omega)) c
      refine ⟨_, rfl, _, _, rfl, rfl, _, rfl, ?_⟩
      rw [show (Builtin.Str.occurrences "abcdefghijklmnopqrstuvwxyz" nm 0 (Str.length "abcdefghijklmnopqrstuvwxyz") 1) = Builtin.Str.occurrences abc nm 0 abc.length 1 from rfl, xl9 l1]
      cases isn : isNm nm with
      | false => exact iteT ⟨_, rfl, (by show 2 ≤ sizeLine; decide), fun m hm => badN m hm isn⟩
      | true =>
        refine iteF ?_
        replace isn : xdr (.str nm) = true := isn
        have badC : ∀ m, H m = none → (xr dx 1 w && xr dy 1 ht) = false → Q (.ref m) (upd H m (.lst [.str "cell", x, y])) := fun m hm e => by
          refine q _ m hm (xo (Same.refl _) hm) ?_
          have oo : xac w ht ps (.str nm) dx dy ds dl dh (.str nm) x y s' lo hi = some (.noCell x y) := by unfold xac; rw [if_pos isn, if_neg (by rw [e]; decide)]
          rw [oo]
          exact xf
        refine ⟨_, rfl, _, rfl, sz, _, 0, _, rfl, rfl, SqT.of hsz, rfl, x, dx, 1, w, rfl, tx, _, rfl, ?_⟩
        cases wx : xr dx 1 w with
        | false => exact iteT (iteT ⟨_, rfl, _, rfl, (by show 3 ≤ sizeLine; decide), fun m hm => badC m hm (by rw [wx]; rfl)⟩)
        | true =>
          refine iteF ⟨_, rfl, _, rfl, sz, _, 1, _, rfl, rfl, SqT.of hsz, rfl, y, dy, 1, ht, rfl, ty, _, rfl, ?_⟩
          cases wY : xr dy 1 ht with
          | false => exact iteT ⟨_, rfl, _, rfl, (by show 3 ≤ sizeLine; decide), fun m hm => badC m hm (by rw [wx, wY]; rfl)⟩
          | true =>
            refine iteF ?_
            have wc : (xr dx 1 w && xr dy 1 ht) = true := by rw [wx, wY]; rfl
            obtain ⟨xi, rfl, _, _⟩ := xa0 wx
            obtain ⟨yi, rfl, _, _⟩ := xa0 wY
            obtain rfl := tx.int_of
            obtain rfl := ty.int_of
            refine ⟨_, rfl, (by show 3 ≤ sizeLine; decide), fun q0 hq0 => ?_⟩
            have s1 : Same H (upd H q0 (.lst [.str "left", .str "right", .str "both"])) := xo (Same.refl _) hq0
            have g1 : upd H q0 (.lst [.str "left", .str "right", .str "both"]) q0 = some (.lst [.str "left", .str "right", .str "both"]) := xf
            revert s1 g1
            generalize upd H q0 (.lst [.str "left", .str "right", .str "both"]) = H1
            intro s1 g1
            refine ⟨1, 1, ds, _, (ts.same s1).dv, xlq g1, by decide, by decide, _, rfl, ?_⟩
            rw [if_pos rfl, xjl]
            cases hs : xcj ds with
            | false =>
              refine iteT ⟨_, rfl, (by show 2 ≤ sizeLine; decide), fun m hm => ?_⟩
              refine q _ m (xbk s1 hm) (xo s1 hm) ?_
              have oo : xac w ht ps (.str nm) (.int xi) (.int yi) ds dl dh (.str nm) (.int xi) (.int yi) s' lo hi = some (.noSides s') := by unfold xac; rw [if_pos isn, if_pos wc, if_neg (by rw [hs]; decide)]
              rw [oo]
              exact xf
            | true =>
              refine iteF ?_
              obtain ⟨sd, rfl, hsd⟩ := xdo hs
              obtain rfl := ts.str_of
              have hsz1 := s1 _ _ hsz
              have badW : ∀ m, H1 m = none → (xr dl 1 ht && xr dh (intD dl) ht) = false → Q (.ref m) (upd H1 m (.lst [.str "window", lo, hi])) := fun m hm e => by
                refine q _ m (xbk s1 hm) (xo s1 hm) ?_
                have oo : xac w ht ps (.str nm) (.int xi) (.int yi) (.str sd) dl dh (.str nm) (.int xi) (.int yi) (.str sd) lo hi = some (.noWindow lo hi) := by unfold xac; rw [if_pos isn, if_pos wc, if_pos hs, if_neg (by rw [e]; decide)]
                rw [oo]
                exact xf
              refine ⟨_, rfl, _, rfl, sz, _, 1, _, rfl, rfl, SqT.of hsz1, rfl, lo, dl, 1, ht, rfl, tl.same s1, _, rfl, ?_⟩
              cases wl : xr dl 1 ht with
              | false => exact iteT (iteT ⟨_, rfl, _, rfl, (by show 3 ≤ sizeLine; decide), fun m hm => badW m hm (by rw [wl]; rfl)⟩)
              | true =>
                obtain ⟨li, rfl, _, _⟩ := xa0 wl
                obtain rfl := tl.int_of
                refine iteF ⟨_, rfl, _, rfl, _, rfl, sz, _, 1, _, rfl, rfl, SqT.of hsz1, rfl, hi, dh, li, ht, rfl, th.same s1, _, rfl, ?_⟩
                cases wh : xr dh li ht with
                | false => exact iteT ⟨_, rfl, _, rfl, (by show 3 ≤ sizeLine; decide), fun m hm => badW m hm (by rw [wl]; exact wh)⟩
                | true =>
                  refine iteF ?_
                  have wlh : (xr (.int li) 1 ht && xr dh (intD (.int li)) ht) = true := by rw [wl]; exact wh
                  have hl1 := s1 _ _ hl
                  have pts1 := pts.keep (Same.tups s1)
                  refine ⟨_, rfl, _, rfl, l, rfl, ⟨_, SqL.of hl1⟩, fun l1 hq1 => ?_⟩
                  refine xii (SqL.of hl1) (by rw [List.length_map]; exact Nat.lt_trans (by omega : qs.length < 13) (by decide)) hq1 (fun i y _ => ∃ p, ps[i]? = some p ∧ y = .str p.nm) (fun _ _ _ _ _ z => z) (fun i z H2 hz s2 N hN => ?_) (fun ys H2 s2 el2 ly f1 => ?_)
                  · rw [List.getElem?_map] at hz
                    obtain ⟨o, ho, rfl⟩ := Option.map_eq_some_iff.mp hz
                    obtain ⟨p, hpp, ep⟩ := (PtsL.keep (Same.tups s2) pts1).get ho
                    exact ⟨_, rfl, o, _, 0, _, rfl, rfl, SqT.of ep, rfl, hN _ _ (Same.refl _) ⟨p, hpp, rfl⟩⟩
                  have ey1 : ys = ps.map fun p => V.str p.nm := by
                    refine xko (by rw [ly, List.length_map, ql]) fun i y p hy hp => ?_
                    obtain ⟨p', h1, h2⟩ := f1 i y hy
                    rw [hp] at h1
                    cases h1
                    exact h2
                  subst ey1
                  have dvN : Dv K H2 1 (.ref l1) (.lst (ps.map fun p => DV.str p.nm)) := by
                    refine .lst (SqL.of el2) (by rw [List.length_map, List.length_map]) fun j x d h1 h2 => ?_
                    rw [List.getElem?_map] at h1 h2
                    obtain ⟨p, hp, rfl⟩ := Option.map_eq_some_iff.mp h1
                    rw [hp] at h2
                    cases h2
                    exact .str
                  have s12 := s1.trans s2
                  refine ⟨1, 1, .str nm, _, (tn.same s12).dv, dvN, by decide, by decide, _, rfl, ?_⟩
                  rw [if_neg (by decide), xml nms]
                  cases hh : hasN ps (.str nm) with
                  | true =>
                    refine iteT ⟨_, rfl, (by show 2 ≤ sizeLine; decide), fun m hm => ?_⟩
                    refine q _ m (xbk s12 hm) (xo s12 hm) ?_
                    have oo : xac w ht ps (.str nm) (.int xi) (.int yi) (.str sd) (.int li) dh (.str nm) (.int xi) (.int yi) (.str sd) (.int li) hi = some (.oldPoint (.str nm)) := by
                      unfold xac
                      rw [if_pos isn, if_pos wc, if_pos hs, if_pos wlh, if_pos hh]
                    rw [oo]
                    exact xf
                  | false =>
                    refine iteF ?_
                    have hh' : ¬ (hasN ps (.str nm) = true) := by rw [hh]; decide
                    have hl2 := s2 _ _ hl1
                    refine ⟨_, rfl, l, _, rfl, .inl (SqL.of hl2), _, _, rfl, rfl, _, rfl, ?_⟩
                    by_cases c12 : 12 ≤ ps.length
                    · refine ifP (decide_eq_true (by rw [List.length_map]; omega)) ⟨(by show 1 ≤ sizeLine; decide), fun m hm => ?_⟩
                      refine q _ m (xbk s12 hm) (xo s12 hm) ?_
                      have oo : xac w ht ps (.str nm) (.int xi) (.int yi) (.str sd) (.int li) dh (.str nm) (.int xi) (.int yi) (.str sd) (.int li) hi = some .tooMany := by
                        unfold xac
                        rw [if_pos isn, if_pos wc, if_pos hs, if_pos wlh, if_neg hh', if_pos c12]
                      rw [oo]
                      exact xf
                    refine ifN (decide_eq_false (by rw [List.length_map]; omega)) ?_
                    have om : xac w ht ps (.str nm) (.int xi) (.int yi) (.str sd) (.int li) dh (.str nm) (.int xi) (.int yi) (.str sd) (.int li) hi = xa8 ps nm xi yi := by
                      show _ = xa8 ps (xfv (.str nm)) (intD (.int xi)) (intD (.int yi))
                      unfold xac
                      rw [if_pos isn, if_pos wc, if_pos hs, if_pos wlh, if_neg hh', if_neg c12]
                    have noN : ∀ p ∈ ps, p.nm ≠ nm := fun p hp0 e => by
                      have z : hasN ps (.str nm) = true := by
                        change (isNm nm && ps.any fun p => decide (p.nm = nm)) = true
                        rw [show isNm nm = true from isn, Bool.true_and]
                        exact List.any_eq_true.mpr ⟨p, hp0, decide_eq_true e⟩
                      exact hh' z
                    refine ⟨(by show 2 ≤ sizeLine; decide), fun la hla => ?_⟩
                    have s8 : Same H2 (upd H2 la (.lst [.int 1, .int 2])) := xo (Same.refl _) hla
                    have g8 : upd H2 la (.lst [.int 1, .int 2]) la = some (.lst [.int 1, .int 2]) := xf
                    revert s8 g8
                    generalize upd H2 la (.lst [.int 1, .int 2]) = H8
                    intro s8 g8
                    have s02 := s12.trans s8
                    refine ⟨la, rfl, ⟨_, SqL.of g8⟩, ?_⟩
                    refine xb0 (xs := [.int 1, .int 2]) (Pv := fun i σ H3 => ∃ (v9 v10 : Option V), σ = [some (V.ref sz), some (.ref l), some (.ref ar), some (.str nm), some (.int xi), some (.int yi), some (.str sd), some (.int li), some hi, v9, v10] ∧ Same H8 H3 ∧ (0 < i → ps.find? (fun p => decide (p.nm ≠ nm) && decide (p.x = xi)) = none) ∧ (1 < i → ps.find? (fun p => decide (p.nm ≠ nm) && decide (p.y = yi)) = none)) ⟨_, _, rfl, Same.refl _, fun z => absurd z (Nat.lt_irrefl _), fun z => absurd z (by decide)⟩ (fun _ _ _ _ ⟨_, _, _, z, _⟩ => SqL.of (z _ _ g8)) ?_ ?_
                    · rintro i v σ H3 hv ⟨v9, v10, rfl, s3, n1, n2⟩
                      have hi2 : i < 2 := by
                        have := (List.getElem?_eq_some_iff.mp hv).1
                        simpa using this
                      obtain ⟨av, rfl, eav⟩ : ∃ av : Int, v = .int av ∧ av = 1 + (i : Int) := by
                        have : i = 0 ∨ i = 1 := by omega
                        rcases this with rfl | rfl
                        · exact ⟨1, (Option.some.inj hv).symm, rfl⟩
                        · exact ⟨2, (Option.some.inj hv).symm, rfl⟩
                      have s03 := s02.trans s3
                      have hl3 := s03 _ _ hl
                      refine ⟨_, rfl, l, rfl, ⟨_, SqL.of hl3⟩, ?_⟩
                      refine xb0 (xs := qs.map V.ref) (Pv := fun k σ H4 => ∃ (v10 : Option V), σ = [some (V.ref sz), some (.ref l), some (.ref ar), some (.str nm), some (.int xi), some (.int yi), some (.str sd), some (.int li), some hi, some (.int av), v10] ∧ Same H3 H4 ∧ ∀ (j : Nat) (p' : Pt), j < k → ps[j]? = some p' → (decide (p'.nm ≠ nm) && decide ((if i = 0 then p'.x else p'.y) = if i = 0 then xi else yi)) = false) ⟨_, rfl, Same.refl _, fun j p' z => absurd z (Nat.not_lt_zero _)⟩ (fun _ _ _ _ ⟨_, _, z, _⟩ => SqL.of (z _ _ hl3)) ?_ ?_
                      · rintro k v σ H4 hv ⟨v10, rfl, s4, no⟩
                        rw [List.getElem?_map] at hv
                        obtain ⟨o, ho, rfl⟩ := Option.map_eq_some_iff.mp hv
                        have s04 := s03.trans s4
                        obtain ⟨p, hpp, ep⟩ := (pts.keep (Same.tups s04)).get ho
                        have c2 : p.nm ≠ nm := noN p (List.mem_of_getElem? hpp)
                        have ix : atI (V.str p.nm :: ptV p) av = some (.int (if i = 0 then p.x else p.y)) := by
                          have : i = 0 ∨ i = 1 := by omega
                          rcases this with rfl | rfl <;> rw [eav] <;> rfl
                        have ix2 : atI [V.str nm, .int xi, .int yi, .str sd, .int li, hi] av = some (.int (if i = 0 then xi else yi)) := by
                          have : i = 0 ∨ i = 1 := by omega
                          rcases this with rfl | rfl <;> rw [eav] <;> rfl
                        refine ⟨_, rfl, _, rfl, o, _, _, _, rfl, rfl, SqT.of ep, ix, _, rfl, _, rfl, ar, _, _, _, rfl, rfl, SqL.of (s04 _ _ har), ix2, rfl, _, rfl, ?_⟩
                        by_cases c1 : (if i = 0 then p.x else p.y) = if i = 0 then xi else yi
                        · refine ifP (decide_eq_true (by rw [c1])) ?_
                          refine ⟨(by show 2 ≤ sizeLine; decide), fun q6 hq6 => ?_⟩
                          have s6 : Same H4 (upd H4 q6 (.lst [.str "column", .str "row"])) := xo (Same.refl _) hq6
                          have g6 : upd H4 q6 (.lst [.str "column", .str "row"]) q6 = some (.lst [.str "column", .str "row"]) := xf
                          revert s6 g6
                          generalize upd H4 q6 (.lst [.str "column", .str "row"]) = H6
                          intro s6 g6
                          have ix3 : atI [V.str "column", .str "row"] (av - 1) = some (.str (if i = 0 then "column" else "row")) := by
                            have : i = 0 ∨ i = 1 := by omega
                            rcases this with rfl | rfl <;> rw [eav] <;> rfl
                          refine ⟨_, rfl, _, _, rfl, rfl, q6, _, _, _, rfl, rfl, SqL.of g6, ix3, _, rfl, o, _, 0, _, rfl, rfl, SqT.of (s6 _ _ ep), rfl, (by show 2 ≤ sizeLine; decide), fun m hm => ?_⟩
                          refine q _ m (xbk (s04.trans s6) hm) (xo (s04.trans s6) hm) ?_
                          have fnd := xe2 (f := fun p => decide (p.nm ≠ nm) && decide ((if i = 0 then p.x else p.y) = if i = 0 then xi else yi)) hpp (by rw [decide_eq_true c2, decide_eq_true c1]; rfl) no
                          rw [om]
                          have : i = 0 ∨ i = 1 := by omega
                          rcases this with rfl | rfl
                          · have fnd' : ps.find? (fun p => decide (p.nm ≠ nm) && decide (p.x = xi)) = some p := fnd
                            unfold xa8
                            rw [fnd']
                            exact xf
                          · have fnd' : ps.find? (fun p => decide (p.nm ≠ nm) && decide (p.y = yi)) = some p := fnd
                            unfold xa8
                            rw [n1 (by decide), fnd']
                            exact xf
                        · refine ifN (decide_eq_false fun z => c1 (V.int.inj z)) ⟨_, rfl, s4, fun j p' hj hp' => ?_⟩
                          by_cases z : j = k
                          · subst z
                            rw [hpp] at hp'
                            cases hp'
                            rw [decide_eq_false c1, Bool.and_false]
                          · exact no j p' (by omega) hp'
                      · rintro σ H4 ⟨v10, rfl, s4, no⟩
                        have no' : ps.find? (fun p => decide (p.nm ≠ nm) && decide ((if i = 0 then p.x else p.y) = if i = 0 then xi else yi)) = none := by
                          rw [List.find?_eq_none]
                          intro p hp
                          obtain ⟨j, hj⟩ := List.getElem?_of_mem hp
                          rw [no j p (by rw [List.length_map, ql]; exact (List.getElem?_eq_some_iff.mp hj).1) hj]
                          decide
                        have : i = 0 ∨ i = 1 := by omega
                        rcases this with rfl | rfl
                        · exact ⟨_, _, rfl, s3.trans s4, fun _ => no', fun z => absurd z (by decide)⟩
                        · exact ⟨_, _, rfl, s3.trans s4, fun _ => n1 (by decide), fun _ => no'⟩
                    · rintro σ H3 ⟨v9, v10, rfl, s3, n1, n2⟩
                      refine ⟨(by show 0 ≤ sizeLine; exact Nat.zero_le _), fun m hm => ?_⟩
                      refine q _ m (xbk (s02.trans s3) hm) (xo (s02.trans s3) hm) ?_
                      rw [om]
                      unfold xa8
                      rw [n1 (by decide), n2 (by decide)]
                      exact xf
end
end S03
set_option maxRecDepth 100000
set_option maxHeartbeats 4000000
namespace S03
open PySem L2 XL PyProof.Rows
section
variable {n : Nat} {g : TG} {σ : L2.St} {fr : List Nat} {tc : TT} {te : TE} {l : Addr} {H1 : Hp} {Q : VK}
theorem xh9 {K : PySem.W.Frag} {a : Addr} {xs : List V} (hs : SqT K H1 a xs) (hlen : xs.length < sizeLine) (hl : H1 l = none) (p : Nat → Bool) (F : Nat → V → Hp → Prop) (stab : ∀ i y H H', Tp H H' → F i y H → F i y H')
    (step : ∀ (i : Nat) (x : V) (H2 : Hp), xs[i]? = some x → Same H1 H2 → ∀ (N : V → Hp → Prop) (M : Hp → Prop), (∀ y H', Same H2 H' → p i = true → F i y H' → N y H') → (∀ H', Same H2 H' → p i = false → M H') →
      g x (blk0 σ fr n) H2 fun σ' H3 => tc σ' H3 fun b H4 => if b = true then te σ' H4 N else M H4)
    (fin : ∀ ys H2, Same H1 H2 → H2 l = some (.lst ys) → ys.length = ((List.range xs.length).filter p).length → (∀ (j : Nat) (y : V) (i : Nat), ys[j]? = some y → ((List.range xs.length).filter p)[j]? = some i → F i y H2) → Q (.ref l) H2) : xcn (Itt K a) n g σ fr tc te l H1 Q := by
  refine xe3 xs.length hlen hl (fun i => xs.getD i .non) (fun i H lt s => ⟨xs, xs[i], Same.seqT s hs, List.getElem?_eq_getElem lt⟩) (fun i H v H' lt s y => ?_) (fun H s => ⟨xs, Same.seqT s hs, Nat.le_refl _⟩) p F stab (fun i H2 lt s N M h1 h2 => ?_) fin
  · obtain ⟨e, f⟩ := y
    have z := f xs (Same.seqT s hs)
    refine ⟨e, ?_⟩
    simp [z]
  · have e : xs[i]? = some (xs.getD i .non) := by simp [List.getElem?_eq_getElem lt]
    exact step i _ H2 e s N M h1 h2
end
structure R3 (t : Adr) (H : Hp) (a dp do_ l sz : Addr) (w h : Int) (ps : List Pt) : Prop where
  pic : Pic t H a dp do_ w h ps
  dt : H do_ = some (.dT [])
  pok : xfn w h ps
  hs : H sz = some (.tup [.int w, .int h])
  rl : ∃ qs : List Addr, H l = some (.lst (qs.map V.ref)) ∧ PtsL H ps qs
theorem R3.same {t : Adr} {H H' : Hp} {a dp do_ l sz : Addr} {w h : Int} {ps : List Pt} (s : Same H H') (r : R3 t H a dp do_ l sz w h ps) : R3 t H' a dp do_ l sz w h ps := ⟨Pic.same s r.pic, s _ _ r.dt, r.pok, s _ _ r.hs, let ⟨qs, e, p⟩ := r.rl; ⟨qs, s _ _ e, p.keep (Same.tups s)⟩⟩
def xjx (t : Adr) : Sp := fun vs H Q _ => ∃ (a dp do_ l sz : Addr) (w h : Int) (ps : List Pt), vs = [.ref a, .ref sz, .ref l] ∧ R3 t H a dp do_ l sz w h ps ∧ ∀ H', Same H H' → Q (.bl true) H'
theorem xkr {H : Hp} {do_ : Addr} (h : H do_ = some (.dT [])) : Sts H do_ [] := ⟨[], h, rfl, List.nodup_nil, Nat.zero_le _⟩
theorem xcs {K : PySem.W.Frag} {H : Hp} {e : Addr} (h : H e = some (.lst [])) : Dv K H 1 (.ref e) (.lst []) := .lst (SqL.of h) rfl (fun j x d e _ => by simp at e)
theorem xkc {K : PySem.W.Frag} {H : Hp} {q : Addr} {w h : Int} (e : H q = some (.tup [.int w, .int h])) : Dv K H 1 (.ref q) (.tup [.int w, .int h]) := by
  refine .tup (SqT.of e) rfl fun j x d h1 h2 => ?_
  match j, h1, h2 with
  | 0, h1, h2 => cases h1; cases h2; exact .int
  | 1, h1, h2 => cases h1; cases h2; exact .int
  | j + 2, h1, h2 => simp at h1
section
variable {P : Program} {w : World} {K : PySem.W.Frag} {mg : Str → Option Value} {base : Heap} {t : Adr}
theorem ok_ae (T : Txt w K mg t) : FnOk true P w K mg base (CXo P w) 2 t.f_ae t.d_ae ["_law_picture", "_law_size", "_law_rows"] (xjx t) := by
  refine T.F_ae.okn (k := 1) sc_ae (fun vs H Q E h => ?_) (fun cdv A outer s H vs Q E hr h => ?_)
  · obtain ⟨a, dp, do_, l, sz, w', ht, ps, rfl, _⟩ := h
    rfl
  · obtain ⟨a, dp, do_, l, sz, w', ht, ps, rfl, h⟩ := h
    refine ⟨_, xm (x6 (i := 3) sc_ae.nd rfl (Or.inl rfl) (xct (pv 0) T.c_r T.m_h (okF_h T) (hr.mono (by decide)) T.b_h .nil xu))
      (xm (x8 (PW.pt (xbe (xat (xad (xx xaa rfl T.n_isinstance boot_isinstance (xb (pv 3) (xb (xa5 (v := .ty "list") rfl T.n_list boot_list rfl) (xj)))))) (xbe (xaj (xgn (xb1 hr)) (pv 3) (pv 2) (xan _)) (xbc (xaj (xgn (xb1 hr)) (xct (pv 0) T.c_r T.m_s (ok_s T) (hr.mono (by decide)) T.b_s .nil xu) (xab (xj)) (xan _)))))) (xn (xai (xby))) (xw))
      (xm (xbt PassesOwn.never rfl (xbj (pv 3)) (xap (i := 4) sc_ae.nd rfl (Or.inl rfl)) (xn (x8 (PW.pt (xbe (xat (xad (xx xaa rfl T.n_isinstance boot_isinstance (xb (pv 4) (xb (xa5 (v := .ty "tuple") rfl T.n_tuple boot_tuple rfl) (xj)))))) (xbc (xaj xej (xx xb8 rfl T.n_len boot_len (xb (xdi rfl (xb2 (zs := ["_law_one"]) (ys := []) (fr := []) (N0 := ["_law_picture", "_law_size", "_law_rows", "_law_found", "_law_row"]) (sc0 := xp s_ae) (by decide +kernel) rfl rfl rfl) (xmg (pv 4)) (fun _ _ _ _ _ ow nd => xap (i := 0) nd rfl (Or.inl (ow _ (by simp))) (Or.inr (ow _ (by simp)))) (xca (by decide)) (fun _ _ _ _ _ => xez (xad (xx (r := xka K) xaa rfl T.n_isinstance boot_isinstance (xb (pv 0) (xb (xa5 (v := .ty "bool") rfl T.n_bool boot_bool rfl) (xj)))))) (fun _ _ _ _ _ => pv 0)) (xj))) (xg) (xan _))))) (xn (xai (xby))) (xw))))
      (xm (xbp (xfo PySem.F.plainAttrs_list PySem.F.slot_list_append PySem.F.type_list_append xci (pv 3) (xb (xg) (xj))))
      (xn (xai (xbo (xd2 (xfy (xb1 hr)) (xbg (xb (xaz (pv 0) rfl) (xb (xaz (pv 0) rfl) (xj)))) (pv 1) (xan _)) (xcv (xd2 (xfy (xb1 hr)) (xct (pv 0) T.c_r T.m_h (ok_h T) (hr.mono (by decide)) T.b_h .nil xu) (pv 2) (xan _))))))))), ?_⟩
    obtain ⟨r, q⟩ := h
    have pic := r.pic
    obtain ⟨⟨dx, hp⟩, _⟩ := id pic
    obtain ⟨qs, hl, pts⟩ := r.rl
    have ple := r.pok.le
    refine ⟨_, rfl, a, dx, _, rfl, hp, xbd (by decide +kernel), a, dp, do_, w', ht, ps, rfl, pic, fun H1 l1 qs1 fr1 s1 hl1 pt1 => ?_⟩
    have ql1 := pt1.len
    refine ⟨_, rfl, _, _, rfl, .inl ⟨_, _, true, .lst hl1, rfl, xa3, true, rfl, iteF ?_⟩⟩
    refine ⟨_, rfl, _, rfl, 2, 2, .lst (ps.map ptD), .lst (ps.map ptD), pt1.dv hl1, (pts.keep (Same.tups s1)).dv (s1 _ _ hl), by decide, by decide, _, rfl, ifN (by rw [xbu]; rfl) ?_⟩
    refine ⟨_, rfl, a, dx, _, rfl, s1 _ _ hp, xbd (by decide +kernel), a, dp, do_, w', ht, ps, [], rfl, Pic.same s1 pic, xkr (s1 _ _ r.dt), fun l2 ss2 rs2 fr2 sl2 pm2 pw2 => ?_⟩
    obtain rfl := pm2.eq_nil
    have e2 : rs2 = [] := by cases sl2; rfl
    subst e2
    have s2 : Same H1 (upd H1 l2 (.lst (List.map V.ref []))) := xo (Same.refl _) fr2
    have g2 : upd H1 l2 (.lst (List.map V.ref [])) l2 = some (.lst (List.map V.ref [])) := xf
    revert s2 g2
    generalize upd H1 l2 (.lst (List.map V.ref [])) = H2
    intro s2 g2
    rw [List.map_nil] at g2
    refine ⟨(by show 0 ≤ sizeLine; exact Nat.zero_le _), fun l3 fr3 => ?_⟩
    have s3 : Same H2 (upd H2 l3 (.lst [])) := xo (Same.refl _) fr3
    have g3 : upd H2 l3 (.lst []) l3 = some (.lst []) := xf
    revert s3 g3
    generalize upd H2 l3 (.lst []) = H3
    intro s3 g3
    have s13 := s2.trans s3
    refine ⟨1, 1, .lst [], .lst [], xcs (s3 _ _ g2), xcs g3, by decide, by decide, _, rfl, ifN (by rw [xbu]; rfl) ?_⟩
    have hl13 := s13 _ _ hl1
    have pt3 := pt1.keep (Same.tups s13)
    refine ⟨_, rfl, l1, rfl, ⟨_, SqL.of hl13⟩, xb0 (xs := qs1.map V.ref) (Pv := fun i σ H8 => ∃ v5 : Option V, σ = [some (.ref a), some (.ref sz), some (.ref l), some (.ref l1), v5] ∧ Same H3 H8) ⟨_, rfl, Same.refl _⟩ (fun _ _ _ _ ⟨_, _, z⟩ => SqL.of (z _ _ hl13)) ?_ ?_⟩
    · rintro i v σ H4 hv ⟨v5, rfl, s4⟩
      rw [List.getElem?_map] at hv
      obtain ⟨o, ho, rfl⟩ := Option.map_eq_some_iff.mp hv
      obtain ⟨p, hpp, ep⟩ := (pt3.keep (Same.tups s4)).get ho
      refine ⟨_, rfl, _, _, rfl, .inl ⟨_, _, true, .tup ep, rfl, xa3, true, rfl, iteF ?_⟩⟩
      refine ⟨_, rfl, o, rfl, ⟨_, SqT.of ep⟩, fun l5 hl5 => ?_⟩
      refine xh9 (SqT.of ep) (by show 6 < sizeLine; decide) hl5 (fun _ => false) (fun _ _ _ => True) (fun _ _ _ _ _ z => z) (fun i z H5 hz s5 N M hN hM => ?_) (fun ys H5 s5 el5 ly f5 => ?_)
      · have hz' : (∃ s, z = .str s) ∨ ∃ k, z = .int k := by
          match i, hz with
          | 0, hz => cases hz; exact .inl ⟨_, rfl⟩
          | 1, hz => cases hz; exact .inr ⟨_, rfl⟩
          | 2, hz => cases hz; exact .inr ⟨_, rfl⟩
          | 3, hz => cases hz; exact .inl ⟨_, rfl⟩
          | 4, hz => cases hz; exact .inr ⟨_, rfl⟩
          | 5, hz => cases hz; exact .inr ⟨_, rfl⟩
          | k + 6, hz => simp [ptV] at hz
        rcases hz' with ⟨s, rfl⟩ | ⟨k, rfl⟩
        · exact ⟨_, rfl, _, _, rfl, .inl ⟨_, _, false, .str s, rfl, (by rfl), false, rfl, iteF (hM _ (Same.refl _) rfl)⟩⟩
        · exact ⟨_, rfl, _, _, rfl, .inl ⟨_, _, false, .int k, rfl, (by rfl), false, rfl, iteF (hM _ (Same.refl _) rfl)⟩⟩
      have y0 : ys = [] := by
        rw [show (List.range (V.str p.nm :: ptV p).length).filter (fun _ => false) = [] by simp] at ly
        exact List.eq_nil_of_length_eq_zero ly
      subst y0
      exact ⟨l5, _, rfl, .inl (SqL.of el5), _, _, rfl, rfl, _, rfl, ifN (by rfl) ⟨_, rfl, s4.trans s5⟩⟩
    · rintro σ H4 ⟨v5, rfl, s4⟩
      have g14 := s4 _ _ hl13
      refine ⟨_, rfl, .inl ⟨rfl, _, SqL.of g14⟩, l1, _, _, rfl, rfl, g14, ?_, ?_⟩
      · rw [List.length_map]
        exact Nat.lt_trans (by omega : qs1.length < 13) (by decide)
      have s04 := s1.trans (s13.trans s4)
      have s08 : Same H (upd H4 l1 (.lst (qs1.map V.ref ++ [.int 0]))) := fun b u e => by
        rw [xh (xk e fr1)]
        exact s04 _ _ e
      generalize upd H4 l1 (.lst (qs1.map V.ref ++ [.int 0])) = H8 at s08
      have hp8 := s08 _ _ hp
      refine ⟨_, rfl, a, _, _, _, _, rfl, hp8, T.c_r, T.n_a3, lkW, _, rfl, a, _, _, _, _, rfl, hp8, T.c_r, T.n_a1, lkH, (by show 2 ≤ sizeLine; decide), fun q9 hq9 => ?_⟩
      have s9 : Same H8 (upd H8 q9 (.tup [.int w', .int ht])) := xo (Same.refl _) hq9
      have g9 : upd H8 q9 (.tup [.int w', .int ht]) q9 = some (.tup [.int w', .int ht]) := xf
      revert s9 g9
      generalize upd H8 q9 (.tup [.int w', .int ht]) = H9
      intro s9 g9
      have s09 := s08.trans s9
      refine ⟨_, rfl, 1, 1, .tup [.int w', .int ht], .tup [.int w', .int ht], xkc g9, xkc (s09 _ _ r.hs), by decide, by decide, _, rfl, ifP (by rw [xbu]) ?_⟩
      refine ⟨_, rfl, a, dx, _, rfl, s09 _ _ hp, xbd (by decide +kernel), a, dp, do_, w', ht, ps, rfl, Pic.same s09 pic, fun H6 l6 qs6 s6 hl6 pt6 => ?_⟩
      refine ⟨_, rfl, 2, 2, .lst (ps.map ptD), .lst (ps.map ptD), pt6.dv hl6, (pts.keep (Same.tups (s09.trans s6))).dv (s6 _ _ (s09 _ _ hl)), by decide, by decide, ?_⟩
      rw [xbu]
      exact q _ (s09.trans s6)
end
end S03
set_option maxRecDepth 100000
set_option maxHeartbeats 4000000
namespace S03
open PySem L2 XL PyProof.Rows
def elP (f ph : Int) (k : Nat) : Pt := ⟨ltr ((f + 3 * (0 + (k : Int))) % 26), 1 + (0 + (k : Int)), 1 + (f + 5 * (0 + (k : Int))) % 12, "both", 1, ph⟩
theorem xfw {f ph : Int} {j k : Nat} (h : j < k) (hk : k < 11) : (elP f ph j).nm ≠ (elP f ph k).nm ∧ (elP f ph j).x ≠ (elP f ph k).x ∧ (elP f ph j).y ≠ (elP f ph k).y := by
  refine ⟨fun e => ?_, ?_, ?_⟩
  · have z := xk5 (xau _ (by decide)).1 (xau _ (by decide)).1 e
    omega
  · show 1 + (0 + (j : Int)) ≠ 1 + (0 + (k : Int))
    omega
  · show 1 + (f + 5 * (0 + (j : Int))) % 12 ≠ 1 + (f + 5 * (0 + (k : Int))) % 12
    omega
theorem xkl {f pw ph : Int} {k : Nat} (w12 : 12 ≤ pw) (h12 : 12 ≤ ph) (hk : k < 11) : PtOk pw ph (elP f ph k) := by
  have b := xau (f + 5 * (0 + (k : Int))) (show (0 : Int) < 12 by decide)
  refine ⟨xgf (xau _ (by decide)).1 (xau _ (by decide)).2, ?_, ?_, ?_, ?_, .inr (.inr rfl), Int.le_refl 1, ?_, ?_⟩
  · show 1 ≤ 1 + (0 + (k : Int)); omega
  · show 1 + (0 + (k : Int)) ≤ pw; omega
  · show 1 ≤ 1 + (f + 5 * (0 + (k : Int))) % 12; omega
  · show 1 + (f + 5 * (0 + (k : Int))) % 12 ≤ ph; omega
  · show 1 ≤ ph; omega
  · show ph ≤ ph; omega
theorem xmk {f pw ph : Int} {n : Nat} (w12 : 12 ≤ pw) (h12 : 12 ≤ ph) (hn : n ≤ 11) : xfn pw ph ((List.range n).map (elP f ph)) := by
  have pw2 : (List.range n).Pairwise fun j k => j < k ∧ k < 11 := (List.pairwise_lt_range (n := n)).imp_of_mem fun {a b} _ hb h => ⟨h, by have := List.mem_range.mp hb; omega⟩
  refine ⟨fun p hp => ?_, ?_, ?_, ?_, by rw [List.length_map, List.length_range]; omega⟩
  · obtain ⟨k, hk, rfl⟩ := List.mem_map.mp hp
    exact xkl w12 h12 (by have := List.mem_range.mp hk; omega)
  all_goals rw [List.map_map, List.nodup_iff_pairwise_ne, List.pairwise_map]
  · exact pw2.imp fun h => (xfw h.1 h.2).1
  · exact pw2.imp fun h => (xfw h.1 h.2).2.1
  · exact pw2.imp fun h => (xfw h.1 h.2).2.2
def xj3 (t : Adr) : Sp := fun vs H Q _ => ∃ (a dp do_ : Addr) (c pw ph : Int), vs = [.ref a, .int c] ∧ Pic t H a dp do_ pw ph [] ∧ 12 ≤ pw ∧ 12 ≤ ph ∧
  ∀ (H' : Hp) (l : Addr) (ps : List Pt) (qs : List Addr), (∀ b u, b ≠ dp → H b = some u → H' b = some u) → H l = none → Pic t H' a dp do_ pw ph ps → xfn pw ph ps → H' l = some (.lst (qs.map V.ref)) → PtsL H' ps qs → Q (.ref l) H'
section
variable {P : Program} {w : World} {K : PySem.W.Frag} {mg : Str → Option Value} {base : Heap} {t : Adr}
theorem ok_ab (T : Txt w K mg t) : FnOk true P w K mg base (CXo P w) 5 t.f_ab t.d_ab ["_law_picture", "_law_cell_here"] (xj3 t) := by
  refine T.F_ab.okn (k := 4) sc_ab (fun vs H Q E h => ?_) (fun cdv A outer s H vs Q E hr h => ?_)
  · obtain ⟨a, dp, do_, c, pw, ph, rfl, _⟩ := h
    rfl
  · obtain ⟨a, dp, do_, c, pw, ph, rfl, h⟩ := h
    refine ⟨_, xm (x6 (i := 2) sc_ab.nd rfl (Or.inl rfl) (xab (xj)))
      (xm (x6 (i := 3) sc_ab.nd rfl (Or.inl rfl) (x5 (ok_u T) (hr.mono (by decide)) rfl T.g_u T.F_u.kp T.b_u .nil xu (xb (pv 1) (xb (xg) (xj)))))
      (xm (xbt PassesOwn.never rfl (xc0 rfl T.n_range (xb (xg) (xj))) (xap (i := 4) sc_ab.nd rfl (Or.inl rfl)) (xm (x6 (i := 5) sc_ab.nd rfl (Or.inl rfl) (xbg (xb (xt xjb (x4) (xq xao (xq xas (pv 3) (xq xbh (xg) (pv 4))) (xg)) (fun _ _ => rfl)) (xb (xq xas (xg) (pv 4)) (xb (xq xas (xg) (xq xao (xq xas (pv 3) (xq xbh (xg) (pv 4))) (xg))) (xb (x4) (xb (xg) (xj))))))))
      (xm (x6 (i := 5) sc_ab.nd rfl (Or.inl rfl) (xq xey (pv 5) (xbg (xb (xaz (pv 0) rfl) (xj)))))
      (xm (xbp (xbv (pv 0) T.c_r T.m_e (ok_e T) (hr.mono (by decide)) T.b_er.choose_spec.2 T.b_er.choose_spec.1 xu (xb (xt xay (pv 5) (xg) (fun _ _ => rfl)) (xb (xt xay (pv 5) (xg) (fun _ _ => rfl)) (xb (xt xay (pv 5) (xg) (fun _ _ => rfl)) (xj))))))
      (xn (xbp (xfo PySem.F.plainAttrs_list PySem.F.slot_list_append PySem.F.type_list_append xci (pv 2) (xb (pv 5) (xj)))))))))
      (xn (xai (pv 2))))), ?_⟩
    obtain ⟨pic, w12, h12, q⟩ := h
    obtain ⟨⟨dx0, hp⟩, ⟨kvs, hk, _⟩, _⟩ := id pic
    refine ⟨(by show 0 ≤ sizeLine; exact Nat.zero_le _), fun l hl => ?_⟩
    have s1 : Same H (upd H l (.lst [])) := xo (Same.refl _) hl
    have g1 : upd H l (.lst []) l = some (.lst []) := xf
    revert s1 g1
    generalize upd H l (.lst []) = H1
    intro s1 g1
    refine ⟨_, rfl, c, 20, rfl, fun f f0 f1 => ⟨11, rfl, by decide, by decide, ?_⟩⟩
    refine xc4 (n := 11) (Pv := fun i σ H6 => ∃ (v4 v5 : Option V) (qs : List Addr), σ = [some (.ref a), some (.int c), some (.ref l), some (.int f), v4, v5] ∧ (∀ b u, b ≠ dp → H b = some u → H6 b = some u) ∧ Pic t H6 a dp do_ pw ph ((List.range i).map (elP f ph)) ∧ H6 l = some (.lst (qs.map V.ref)) ∧ PtsL H6 ((List.range i).map (elP f ph)) qs) ?_ ?_ ?_
    · exact ⟨_, _, [], rfl, fun b u _ e => s1 _ _ e, Pic.same s1 pic, g1, .nil⟩
    · rintro i σ H6 hi ⟨v4, v5, qs, rfl, k6, pic6, hl6, pts6⟩
      have hi' : i < 11 := hi
      have ql := pts6.len
      rw [List.length_map, List.length_range] at ql
      refine ⟨_, rfl, _, rfl, _, _, rfl, rfl, .inl ⟨by decide, by decide⟩, _, _, rfl, rfl, _, _, rfl, rfl, (by show (0 : Int) < 26; decide), abc, _, _, rfl, rfl, (by decide +kernel), xg0 (xau _ (by decide)).1 (xau _ (by decide)).2, _, rfl, _, _, rfl, rfl, _, rfl, _, rfl, _, _, rfl, rfl, .inl ⟨by decide, by decide⟩, _, _, rfl, rfl, _, _, rfl, rfl, (by show (0 : Int) < 12; decide), _, _, rfl, rfl, (by show 5 ≤ sizeLine; decide), fun q5 hq5 => ?_⟩
      obtain ⟨pt, ept⟩ : ∃ pt, pt = elP f ph i := ⟨_, rfl⟩
      have e1 : (⟨#[97 + ((f + 3 * (0 + (i : Int))) % 26).toNat]⟩ : Str) = pt.nm := by rw [ept]; rfl
      have e2 : 1 + (0 + (i : Int)) = pt.x := by rw [ept]; rfl
      have e3 : 1 + (f + 5 * (0 + (i : Int))) % 12 = pt.y := by rw [ept]; rfl
      dsimp only
      rw [e1, e2, e3]
      have pok : PtOk pw ph pt := by rw [ept]; exact xkl w12 h12 hi'
      have s7 : Same H6 (upd H6 q5 (.tup [.str pt.nm, .int pt.x, .int pt.y, .str "both", .int 1])) := xo (Same.refl _) hq5
      have g7 : upd H6 q5 (.tup [.str pt.nm, .int pt.x, .int pt.y, .str "both", .int 1]) q5 = some (.tup [.str pt.nm, .int pt.x, .int pt.y, .str "both", .int 1]) := xf
      revert s7 g7
      generalize upd H6 q5 (.tup [.str pt.nm, .int pt.x, .int pt.y, .str "both", .int 1]) = H7
      intro s7 g7
      have ins6 := pic6.ins
      obtain ⟨dx6, hp6⟩ := ins6
      have hp7 := s7 _ _ hp6
      refine ⟨_, rfl, _, rfl, a, _, _, _, _, rfl, hp7, T.c_r, T.n_a1, lkH, (by show 1 ≤ sizeLine; decide), fun q6 hq6 => ?_⟩
      have s8 : Same H7 (upd H7 q6 (.tup [.int ph])) := xo (Same.refl _) hq6
      have g8 : upd H7 q6 (.tup [.int ph]) q6 = some (.tup [.int ph]) := xf
      revert s8 g8
      generalize upd H7 q6 (.tup [.int ph]) = H8
      intro s8 g8
      refine ⟨q5, q6, _, [.int ph], rfl, rfl, SqT.of (s8 _ _ g7), SqT.of g8, (by simp), (by show 5 + 1 ≤ sizeLine; decide), (fun z => nomatch z), fun _ q9 hq9 => ?_⟩
      change _
      have s9 : Same H8 (upd H8 q9 (.tup ([.str pt.nm, .int pt.x, .int pt.y, .str "both", .int 1] ++ [.int ph]))) := xo (Same.refl _) hq9
      have g9 : upd H8 q9 (.tup ([.str pt.nm, .int pt.x, .int pt.y, .str "both", .int 1] ++ [.int ph])) q9 = some (.tup ([.str pt.nm, .int pt.x, .int pt.y, .str "both", .int 1] ++ [.int ph])) := xf
      revert s9 g9
      generalize upd H8 q9 (.tup ([.str pt.nm, .int pt.x, .int pt.y, .str "both", .int 1] ++ [.int ph])) = H9
      intro s9 g9
      have g9' : H9 q9 = some (.tup (.str pt.nm :: ptV pt)) := by rw [g9, ept]; rfl
      have s69 := s7.trans (s8.trans s9)
      have hp9 := s69 _ _ hp6
      have tup9 := SqT.of (K := K) g9'
      refine ⟨_, rfl, a, dx6, _, rfl, hp9, xbd (by decide +kernel), _, rfl, q9, _, 0, _, rfl, rfl, tup9, rfl, _, rfl, q9, _, 1, _, rfl, rfl, tup9, rfl, _, rfl, q9, _, 2, _, rfl, rfl, tup9, rfl, a, dp, do_, pw, ph, (List.range i).map (elP f ph), pt.nm, pt.x, pt.y, "both", 1, ph, .non, rfl, Pic.same s69 pic6, .inl ⟨rfl, rfl⟩, pok.nm, pok.x1, pok.x2, pok.y1, pok.y2, .inr (.inr rfl), by decide, by omega, by omega, ?_, ?_, fun HA kA picA => ?_⟩
      · intro p hp
        obtain ⟨j, hj, rfl⟩ := List.mem_map.mp hp
        rw [ept]
        exact xfw (List.mem_range.mp hj) hi'
      · rw [List.length_map, List.length_range]
        omega
      obtain ⟨kv9, hk9, _⟩ := (Pic.same s69 pic6).pl
      have hl9 := s69 _ _ hl6
      have lA := kA _ _ (xak hl9 hk9 (fun z => nomatch z)) hl9
      have tA : Tups H9 HA := fun b xs e => kA _ _ (xak e hk9 (fun z => nomatch z)) e
      refine ⟨_, rfl, .inl ⟨rfl, _, SqL.of lA⟩, _, rfl, l, _, _, rfl, rfl, lA, ?_, ?_⟩
      · rw [List.length_map]
        exact Nat.lt_trans (by omega : qs.length < 13) (by decide)
      have bB : ∀ b u, b ≠ l → HA b = some u → upd HA l (.lst (qs.map V.ref ++ [.ref q9])) b = some u := fun b u nb e => by
        rw [xh nb]
        exact e
      have tB : Tups HA (upd HA l (.lst (qs.map V.ref ++ [.ref q9]))) := fun b xs e => bB _ _ (xak e lA (fun z => nomatch z)) e
      have gB : upd HA l (.lst (qs.map V.ref ++ [.ref q9])) l = some (.lst ((qs ++ [q9]).map V.ref)) := by
        rw [xf, List.map_append]
        rfl
      have en : (List.range (i + 1)).map (elP f ph) = (List.range i).map (elP f ph) ++ [pt] := by
        rw [List.range_succ, List.map_append, ept]
        rfl
      refine ⟨_, _, qs ++ [q9], rfl, fun b u nb e => bB _ _ (xk e hl) (kA _ _ nb (s69 _ _ (k6 _ _ nb e))), ?_, gB, ?_⟩
      · rw [en]
        have pA : Pic t HA a dp do_ pw ph ((List.range i).map (elP f ph) ++ [pt]) := by
          have z : (⟨pt.nm, pt.x, pt.y, "both", 1, ph⟩ : Pt) = pt := by rw [ept]; rfl
          rw [z] at picA
          exact picA
        exact ⟨let ⟨d, e⟩ := pA.ins; ⟨d, bB _ _ (xak e lA (fun z => nomatch z)) e⟩, let ⟨k, e, q⟩ := pA.pl; ⟨k, bB _ _ (xak e lA (fun z => nomatch z)) e, q.keep tB⟩, pA.w1, pA.w2, pA.h1, pA.h2, pA.len⟩
      · rw [en]
        exact PtsL.snoc (((pts6.keep (Same.tups s69)).keep tA).keep tB) (tB _ _ (tA _ _ g9'))
    · rintro σ H6 ⟨v4, v5, qs, rfl, k6, pic6, hl6, pts6⟩
      exact ⟨_, rfl, q H6 l _ qs k6 hl pic6 (xmk w12 h12 (Nat.le_refl 11)) hl6 pts6⟩
end
end S03
set_option maxRecDepth 100000
set_option maxHeartbeats 4000000
namespace S03
open PySem L2 XL PyProof.Rows
theorem xl5 (m : Int) : ∃ sd : Str, atI [V.str "both", .str "left", .str "right"] (m % 3) = some (.str sd) ∧ sd.length ≤ 1000 := by
  obtain ⟨h0, h1⟩ := xau m (show (0 : Int) < 3 by decide)
  have : m % 3 = 0 ∨ m % 3 = 1 ∨ m % 3 = 2 := by omega
  rcases this with e | e | e <;> rw [e]
  · exact ⟨_, rfl, by decide +kernel⟩
  · exact ⟨_, rfl, by decide +kernel⟩
  · exact ⟨_, rfl, by decide +kernel⟩
theorem Thg.keep {H H' : Hp} {a : Addr} (k : ∀ b u, b ≠ a → H b = some u → H' b = some u) {v : V} {d : DV} (n : v ≠ .ref a) (h : Thg H v d) : Thg H' v d := by
  cases h with
  | non => exact .non
  | bl b => exact .bl b
  | int i => exact .int i
  | str s h => exact .str s h
  | lst h f => exact .lst (k _ _ (fun z => n (by rw [z])) h) f
  | tup h f => exact .tup (k _ _ (fun z => n (by rw [z])) h) f
structure A6 (H : Hp) (a : Addr) (vs : List V) : Prop where
  len : vs.length = 6
  at_ : H a = some (.lst vs)
  all : ∀ v ∈ vs, (∃ d, Thg H v d) ∧ v ≠ .ref a
theorem A6.same {H H' : Hp} {a : Addr} {vs : List V} (s : Same H H') (h : A6 H a vs) : A6 H' a vs := ⟨h.len, s _ _ h.at_, fun v hv => let ⟨⟨d, e⟩, n⟩ := h.all v hv; ⟨⟨d, e.same s⟩, n⟩⟩
theorem A6.put {H : Hp} {a : Addr} {vs : List V} (h : A6 H a vs) (j : Nat) {v : V} {d : DV} (t : Thg H v d) (n : v ≠ .ref a) : A6 (upd H a (.lst (vs.set j v))) a (vs.set j v) := by
  have k : ∀ b u, b ≠ a → H b = some u → upd H a (.lst (vs.set j v)) b = some u := fun b u nb e => by
    rw [xh nb]
    exact e
  refine ⟨by rw [List.length_set]; exact h.len, xf, fun x hx => ?_⟩
  rcases List.mem_or_eq_of_mem_set hx with z | rfl
  · obtain ⟨⟨d', e⟩, n'⟩ := h.all x z
    exact ⟨⟨d', e.keep k n'⟩, n'⟩
  · exact ⟨⟨d, t.keep k n⟩, n⟩
def xlg : Sp := fun vs H Q _ => ∃ (c k w h : Int) (sz : Addr), vs = [.int c, .int k, .ref sz] ∧ H sz = some (.tup [.int w, .int h]) ∧ 1 ≤ w ∧ 1 ≤ h ∧ ∀ (H' : Hp) (ar : Addr) (xs : List V), Same H H' → H ar = none → A6 H' ar xs → Q (.ref ar) H'
section
variable {P : Program} {w : World} {K : PySem.W.Frag} {mg : Str → Option Value} {base : Heap} {t : Adr}
theorem ok_am (T : Txt w K mg t) : FnOk true P w K mg base (CXo P w) 3 t.f_am t.d_am ["_law_cell_here", "_law_k", "_law_size"] (xlg) := by
  refine T.F_am.okn (k := 2) sc_am (fun vs H Q E h => ?_) (fun cdv A outer s H vs Q E hr h => ?_)
  · obtain ⟨c, k, w', ht, sz, rfl, _⟩ := h
    rfl
  · obtain ⟨c, k, w', ht, sz, rfl, h⟩ := h
    refine ⟨_, xm (xdk rfl (xb2 (zs := ["_law_j"]) (ys := ["_law_cell_here", "_law_k"]) (fr := [0, 1]) (N0 := ["_law_cell_here", "_law_k", "_law_size", "_law_draws", "_law_width", "_law_height", "_law_args_here", "_law_low", "_law_j", "_law_at", "_law_odd_here"]) (sc0 := xp s_am) (by decide +kernel) rfl rfl rfl) (xc0 rfl T.n_range (xb (xg) (xj))) (fun _ _ _ _ _ ow nd => xap (i := 0) nd rfl (Or.inl (ow _ (by simp))) (Or.inr (ow _ (by simp)))) (xca (by decide)) (fun _ _ _ _ _ => xdb) (fun _ _ _ _ _ => x5 (ok_u T) (hr.mono (by decide)) rfl T.g_u T.F_u.kp T.b_u .nil xu (xb (pv 1) (xb (xq xas (xq xbh (xg) (pv 2)) (pv 0)) (xj)))) (j := 3) rfl (Or.inl rfl))
      (xm (xbs (pv 2) (xfz rfl (xa7 (xap (i := 4) sc_am.nd rfl (Or.inl rfl)) (xa7 (xap (i := 5) sc_am.nd rfl (Or.inl rfl)) (xdt)))))
      (xm (x6 (i := 6) sc_am.nd rfl (Or.inl rfl) (xab (xb (xt xjb (x4) (xq xao (xt xv (pv 3) (xg) (fun _ _ => rfl)) (xg)) (fun _ _ => rfl)) (xb (xq xas (xg) (xq xao (xt xv (pv 3) (xg) (fun _ _ => rfl)) (pv 4))) (xb (xq xas (xg) (xq xao (xt xv (pv 3) (xg) (fun _ _ => rfl)) (pv 5))) (xj))))))
      (xm (x6 (i := 7) sc_am.nd rfl (Or.inl rfl) (xq xas (xg) (xq xao (xt xv (pv 3) (xg) (fun _ _ => rfl)) (pv 5))))
      (xm (x6 (i := 6) sc_am.nd rfl (Or.inl rfl) (xq xa6 (pv 6) (xab (xb (xt xv (xab (xb (x4) (xb (x4) (xb (x4) (xj))))) (xq xao (xt xv (pv 3) (xg) (fun _ _ => rfl)) (xg)) (fun _ _ => rfl)) (xb (pv 7) (xb (xq xas (pv 7) (xq xao (xt xv (pv 3) (xg) (fun _ _ => rfl)) (xq xeu (xq xas (pv 5) (xg)) (pv 7)))) (xj)))))))
      (xm (xbt PassesOwn.never rfl (xc0 rfl T.n_range (xb (xq xas (xq xbi (xq xao (xt xv (pv 3) (xg) (fun _ _ => rfl)) (xg)) (xg)) (xq xbi (xq xao (xq xbi (xt xv (pv 3) (xg) (fun _ _ => rfl)) (xg)) (xg)) (xg))) (xj))) (xap (i := 8) sc_am.nd rfl (Or.inl rfl)) (xm (x6 (i := 9) sc_am.nd rfl (Or.inl rfl) (xq xao (xq xbi (xt xv (pv 3) (xg) (fun _ _ => rfl)) (xq xas (xq xbh (xg) (pv 8)) (xg))) (xg)))
      (xm (x6 (i := 10) sc_am.nd rfl (Or.inl rfl) (xq xbi (xt xv (pv 3) (pv 8) (fun _ _ => rfl)) (xg)))
      (xn ((by (with_reducible refine' xbf ?m99); (case m99 => ((with_reducible refine' x8 ?c29 ?a30 ?b31); (case c29 => exact xaj xbq (pv 9) (xg) (xan _)); (case a30 => ((with_reducible refine' xn ?c32); (case c32 => ((with_reducible refine' xbs ?e33 ?g34 ?s35 ?w36 ?h37); (case e33 => ((with_reducible refine' xt (r := rIxL K) ?r38 ?l39 ?j40 ?p41); (case r38 => exact xv); (case p41 => exact fun _ _ => rfl); (case j40 => exact xq xao (pv 10) (xg)); (case l39 => ((with_reducible refine' xab ?p42); (case p42 => ((with_reducible refine' xb ?e43 ?q44 rfl); (case e43 => exact x4); (case q44 => ((with_reducible refine' xb ?e45 ?q46 rfl); (case e45 => exact x4); (case q46 => ((with_reducible refine' xb ?e47 ?q48 rfl); (case e47 => exact x4); (case q48 => ((with_reducible refine' xb ?e49 ?q50 rfl); (case e49 => exact x4); (case q50 => ((with_reducible refine' xb ?e51 ?q52 rfl); (case e51 => exact xck); (case q52 => ((with_reducible refine' xb ?e53 ?q54 rfl); (case e53 => exact xg); (case q54 => ((with_reducible refine' xb ?e55 ?q56 rfl); (case e55 => exact xby); (case q56 => ((with_reducible refine' xb ?e57 ?q58 rfl); (case e57 => exact xab (xb (x4) (xj))); (case q58 => ((with_reducible refine' xb ?e59 ?q60 rfl); (case e59 => exact xbg (xb (x4) (xj))); (case q60 => ((exact xj))))))))))))))))))))))))); (case g34 => exact xb3 (pv 6) (xg) xbn); (case s35 => rfl); (case w36 => rfl); (case h37 => rfl))))); (case b31 => ((with_reducible refine' xn ?c61); (case c61 => ((with_reducible refine' xbf ?m98); (case m98 => ((with_reducible refine' x8 ?c62 ?a63 ?b64); (case c62 => exact xaj xbq (pv 9) (xg) (xan _)); (case a63 => ((with_reducible refine' xn ?c65); (case c65 => ((with_reducible refine' xbs ?e66 ?g67 ?s68 ?w69 ?h70); (case e66 => ((with_reducible refine' xt (r := rIxL K) ?r71 ?l72 ?j73 ?p74); (case r71 => exact xv); (case p74 => exact fun _ _ => rfl); (case j73 => exact xq xao (pv 10) (xg)); (case l72 => ((with_reducible refine' xab ?p75); (case p75 => ((with_reducible refine' xb ?e76 ?q77 rfl); (case e76 => exact x4); (case q77 => ((with_reducible refine' xb ?e78 ?q79 rfl); (case e78 => exact x4); (case q79 => ((with_reducible refine' xb ?e80 ?q81 rfl); (case e80 => exact x4); (case q81 => ((with_reducible refine' xb ?e82 ?q83 rfl); (case e82 => exact xck); (case q83 => ((with_reducible refine' xb ?e84 ?q85 rfl); (case e84 => exact xg); (case q85 => ((with_reducible refine' xb ?e86 ?q87 rfl); (case e86 => exact xby); (case q87 => ((with_reducible refine' xb ?e88 ?q89 rfl); (case e88 => exact xab (xb (x4) (xj))); (case q89 => ((with_reducible refine' xb ?e90 ?q91 rfl); (case e90 => exact xbg (xb (x4) (xb (x4) (xj)))); (case q91 => ((exact xj))))))))))))))))))))))); (case g67 => exact xb3 (pv 6) (xg) xbn); (case s68 => rfl); (case w69 => rfl); (case h70 => rfl))))); (case b64 => ((with_reducible refine' xn ?c92); (case c92 => ((with_reducible refine' xbs ?e93 ?g94 ?s95 ?w96 ?h97); (case e93 => ((exact x5 (ok_at T) (hr.mono (by decide)) rfl T.g_at T.F_at.kp T.b_at .nil xu (xb (pv 10) (xb (xt xv (xab (xam (xg) (xam (pv 4) (xam (pv 5) (xam (xg) (xam (pv 5) (xam (pv 5) (xj) rfl) rfl) rfl) rfl) rfl) rfl)) (pv 9) (fun _ _ => rfl)) (xj)))))); (case g94 => exact xb3 (pv 6) (pv 9) xbn); (case s95 => rfl); (case w96 => rfl); (case h97 => rfl)))))))))))))))))))
      (xn (xai (pv 6)))))))), ?_⟩
    obtain ⟨hsz, w1, h1, q⟩ := h
    refine ⟨8, rfl, by decide, by decide, fun l1 hl1 => ?_⟩
    refine xhy (m := 8) (by decide) hl1 (fun i y _ => ∃ z : Int, y = .int z ∧ 0 ≤ z) (fun _ _ _ _ _ z => z) (fun i H2 hi s2 N hN => ?_) (fun ys H1 s1 el1 ly f => ?_)
    · exact ⟨_, rfl, _, rfl, _, _, rfl, rfl, .inl ⟨by decide, by decide⟩, _, rfl, _, _, rfl, rfl, c, _, rfl, fun m m0 m1 => hN _ _ (Same.refl _) ⟨m, rfl, m0⟩⟩
    obtain ⟨y0, y1, y2, y3, y4, y5, y6, y7, rfl⟩ : ∃ y0 y1 y2 y3 y4 y5 y6 y7, ys = [y0, y1, y2, y3, y4, y5, y6, y7] := by
      match ys, ly with
      | [a, b, c, d, e, f, g, h], _ => exact ⟨a, b, c, d, e, f, g, h, rfl⟩
    obtain ⟨d0, rfl, p0⟩ := f 0 y0 rfl
    obtain ⟨d1, rfl, p1⟩ := f 1 y1 rfl
    obtain ⟨d2, rfl, p2⟩ := f 2 y2 rfl
    obtain ⟨d3, rfl, p3⟩ := f 3 y3 rfl
    obtain ⟨d4, rfl, p4⟩ := f 4 y4 rfl
    obtain ⟨d5, rfl, p5⟩ := f 5 y5 rfl
    obtain ⟨d6, rfl, p6⟩ := f 6 y6 rfl
    obtain ⟨d7, rfl, p7⟩ := f 7 y7 rfl
    have hsz1 := s1 _ _ hsz
    refine ⟨_, rfl, sz, _, rfl, SqT.of hsz1, rfl, _, _, rfl, _, _, rfl, rfl, ?_⟩
    refine ⟨_, rfl, l1, _, 0, _, rfl, rfl, SqL.of (el1), rfl, _, _, rfl, rfl, (by show (0 : Int) < 26; decide), abc, _, _, rfl, rfl, (by decide +kernel), xg0 (xau _ (by decide)).1 (xau _ (by decide)).2, _, rfl, l1, _, 1, _, rfl, rfl, SqL.of (el1), rfl, _, rfl, _, _, rfl, rfl, (by show 0 < w'; omega), _, _, rfl, rfl, _, rfl, l1, _, 2, _, rfl, rfl, SqL.of (el1), rfl, _, rfl, _, _, rfl, rfl, (by show 0 < ht; omega), _, _, rfl, rfl, (by show 3 ≤ sizeLine; decide), fun a1 ha1 => ?_⟩
    dsimp only
    rw [show (⟨#[97 + (d0 % 26).toNat]⟩ : Str) = ltr (d0 % 26) from rfl]
    have s2 : Same H1 (upd H1 a1 (.lst [.str (ltr (d0 % 26)), .int (1 + d1 % w'), .int (1 + d2 % ht)])) := xo (Same.refl _) ha1
    have g2 : upd H1 a1 (.lst [.str (ltr (d0 % 26)), .int (1 + d1 % w'), .int (1 + d2 % ht)]) a1 = some (.lst [.str (ltr (d0 % 26)), .int (1 + d1 % w'), .int (1 + d2 % ht)]) := xf
    revert s2 g2
    generalize upd H1 a1 (.lst [.str (ltr (d0 % 26)), .int (1 + d1 % w'), .int (1 + d2 % ht)]) = H2
    intro s2 g2
    have e12 := s2 _ _ el1
    refine ⟨_, rfl, l1, _, 3, _, rfl, rfl, SqL.of (e12), rfl, _, rfl, _, _, rfl, rfl, (by show 0 < ht; omega), _, _, rfl, rfl, ?_⟩
    have lb := xau d3 (show 0 < ht by omega)
    obtain ⟨lo, elo⟩ : ∃ lo, lo = 1 + d3 % ht := ⟨_, rfl⟩
    dsimp only
    rw [← elo]
    obtain ⟨sd, esd, sdl⟩ := xl5 d4
    refine ⟨_, rfl, (by show 3 ≤ sizeLine; decide), fun q3 hq3 => ?_⟩
    have s3 : Same H2 (upd H2 q3 (.lst [.str "both", .str "left", .str "right"])) := xo (Same.refl _) hq3
    have g3 : upd H2 q3 (.lst [.str "both", .str "left", .str "right"]) q3 = some (.lst [.str "both", .str "left", .str "right"]) := xf
    revert s3 g3
    generalize upd H2 q3 (.lst [.str "both", .str "left", .str "right"]) = H3
    intro s3 g3
    have e13 := s3 _ _ e12
    refine ⟨_, rfl, l1, _, 4, _, rfl, rfl, SqL.of (e13), rfl, _, _, rfl, rfl, (by show (0 : Int) < 3; decide), q3, _, _, .str sd, rfl, rfl, SqL.of g3, esd, _, rfl, _, rfl, _, rfl, l1, _, 5, _, rfl, rfl, SqL.of (e13), rfl, _, rfl, _, _, rfl, rfl, _, rfl, _, _, rfl, rfl, _, _, rfl, rfl, (by show 0 < ht + 1 - lo; omega), _, _, rfl, rfl, (by show 3 ≤ sizeLine; decide), fun q4 hq4 => ?_⟩
    obtain ⟨hi0, ehi⟩ : ∃ h, h = lo + d5 % (ht + 1 - lo) := ⟨_, rfl⟩
    dsimp only
    rw [← ehi]
    have s4 : Same H3 (upd H3 q4 (.lst [.str sd, .int lo, .int hi0])) := xo (Same.refl _) hq4
    have g4 : upd H3 q4 (.lst [.str sd, .int lo, .int hi0]) q4 = some (.lst [.str sd, .int lo, .int hi0]) := xf
    revert s4 g4
    generalize upd H3 q4 (.lst [.str sd, .int lo, .int hi0]) = H4
    intro s4 g4
    refine ⟨a1, q4, _, _, rfl, rfl, s4 _ _ (s3 _ _ g2), g4, (by show 3 + 3 ≤ sizeLine; decide), fun ar har => ?_⟩
    change _
    have s5 : Same H4 (upd H4 ar (.lst ([.str (ltr (d0 % 26)), .int (1 + d1 % w'), .int (1 + d2 % ht)] ++ [.str sd, .int lo, .int hi0]))) := xo (Same.refl _) har
    have g5 : upd H4 ar (.lst ([.str (ltr (d0 % 26)), .int (1 + d1 % w'), .int (1 + d2 % ht)] ++ [.str sd, .int lo, .int hi0])) ar = some (.lst ([.str (ltr (d0 % 26)), .int (1 + d1 % w'), .int (1 + d2 % ht)] ++ [.str sd, .int lo, .int hi0])) := xf
    revert s5 g5
    generalize upd H4 ar (.lst ([.str (ltr (d0 % 26)), .int (1 + d1 % w'), .int (1 + d2 % ht)] ++ [.str sd, .int lo, .int hi0])) = H5
    intro s5 g5
    have s25 := s3.trans (s4.trans s5)
    have e15 := s25 _ _ e12
    have s05 := s1.trans (s2.trans s25)
    have far : H ar = none := xbk (s1.trans (s2.trans (s3.trans s4))) har
    have nl1 : l1 ≠ ar := fun z => by rw [← z, s4 _ _ e13] at har; cases har
    have b6 := xau d6 (show (0 : Int) < 5 by decide)
    have b65 := xau (d6 / 5) (show (0 : Int) < 5 by decide)
    refine ⟨_, rfl, l1, _, 6, _, rfl, rfl, SqL.of (e15), rfl, _, _, rfl, rfl, (by show (0 : Int) < 5; decide), _, _, rfl, rfl, ⟨by decide, by decide⟩, _, rfl, l1, _, 6, _, rfl, rfl, SqL.of (e15), rfl, _, _, rfl, rfl, ⟨by decide, by decide⟩, _, _, rfl, rfl, (by show (0 : Int) < 5; decide), _, _, rfl, rfl, ⟨by decide, by decide⟩, _, _, rfl, rfl, d6 % 5 / 3 + d6 / 5 % 5 / 4, rfl, ?_, ?_, ?_⟩
    · omega
    · omega
    refine xc4 (Pv := fun i σ H6 => ∃ (v8 v9 v10 : Option V) (xs : List V), σ = [some (.int c), some (.int k), some (.ref sz), some (.ref l1), some (.int w'), some (.int ht), some (.ref ar), some (.int lo), v8, v9, v10] ∧ Same H H6 ∧ H6 l1 = some (.lst [V.int d0, .int d1, .int d2, .int d3, .int d4, .int d5, .int d6, .int d7]) ∧ A6 H6 ar xs) ?_ ?_ ?_
    · refine ⟨_, _, _, _, rfl, s05, e15, rfl, g5, fun v hv => ?_⟩
      simp only [List.cons_append, List.nil_append, List.mem_cons, List.not_mem_nil, or_false] at hv
      rcases hv with rfl | rfl | rfl | rfl | rfl | rfl
      · exact ⟨⟨_, .str _ (xld _)⟩, fun z => nomatch z⟩
      · exact ⟨⟨_, .int _⟩, fun z => nomatch z⟩
      · exact ⟨⟨_, .int _⟩, fun z => nomatch z⟩
      · exact ⟨⟨_, .str _ sdl⟩, fun z => nomatch z⟩
      · exact ⟨⟨_, .int _⟩, fun z => nomatch z⟩
      · exact ⟨⟨_, .int _⟩, fun z => nomatch z⟩
    · rintro i σ H6 hi ⟨v8, v9, v10, xs, rfl, s6, e6, a6⟩
      have hi2 : i < 2 := by omega
      obtain ⟨dj, edj⟩ : ∃ dj : Int, atI [V.int d0, .int d1, .int d2, .int d3, .int d4, .int d5, .int d6, .int d7] (0 + (i : Int)) = some (.int dj) := by
        have : i = 0 ∨ i = 1 := by omega
        rcases this with rfl | rfl
        · exact ⟨d0, rfl⟩
        · exact ⟨d1, rfl⟩
      refine ⟨_, rfl, l1, _, 7, _, rfl, rfl, SqL.of (e6), rfl, _, rfl, _, _, rfl, rfl, .inl ⟨by decide, by decide⟩, _, _, rfl, rfl, _, _, rfl, rfl, ⟨by omega, by omega⟩, _, _, rfl, rfl, (by show (0 : Int) < 6; decide), ?_⟩
      have bat := xau (d7 / (7 * (0 + (i : Int)) + 1)) (show (0 : Int) < 6 by decide)
      obtain ⟨at_, eat⟩ : ∃ x, x = d7 / (7 * (0 + (i : Int)) + 1) % 6 := ⟨_, rfl⟩
      dsimp only
      rw [← eat] at bat ⊢
      refine ⟨_, rfl, _, rfl, l1, _, _, .int dj, rfl, rfl, SqL.of e6, edj, _, _, rfl, rfl, ⟨by decide, by decide⟩, ?_⟩
      obtain ⟨od, eod⟩ : ∃ x, x = dj / 32 := ⟨_, rfl⟩
      dsimp only
      rw [← eod]
      have fin : ∀ (H9 : Hp) (s69 : Same H6 H9) (j : Nat) (r : V) (d : DV), Thg H9 r d → r ≠ .ref ar → Same H (upd H9 ar (.lst (xs.set j r))) ∧ upd H9 ar (.lst (xs.set j r)) l1 = some (.lst [V.int d0, .int d1, .int d2, .int d3, .int d4, .int d5, .int d6, .int d7]) ∧ A6 (upd H9 ar (.lst (xs.set j r))) ar (xs.set j r) := fun H9 s69 j r d tr nr => by
        refine ⟨fun b u e => ?_, ?_, (a6.same s69).put j tr nr⟩
        · rw [xh (xk e far)]
          exact s69 _ _ (s6 _ _ e)
        · rw [xh nl1]
          exact s69 _ _ e6
      refine ⟨fun σ H' => ∃ (xs' : List V), σ = [some (.int c), some (.int k), some (.ref sz), some (.ref l1), some (.int w'), some (.int ht), some (.ref ar), some (.int lo), some (.int (0 + (i : Int))), some (.int at_), some (.int od)] ∧ Same H H' ∧ H' l1 = some (.lst [V.int d0, .int d1, .int d2, .int d3, .int d4, .int d5, .int d6, .int d7]) ∧ A6 H' ar xs', ?_, ?_⟩
      · refine ⟨_, rfl, rfl, _, rfl, ?_⟩
        by_cases c0 : at_ = 0
        · refine ifP (decide_eq_true (by rw [c0])) ?_
          refine ⟨(by show 1 ≤ sizeLine; decide), fun q7 hq7 => ?_⟩
          have s7 : Same H6 (upd H6 q7 (.lst [.str "a"])) := xo (Same.refl _) hq7
          have g7 : upd H6 q7 (.lst [.str "a"]) q7 = some (.lst [.str "a"]) := xf
          revert s7 g7
          generalize upd H6 q7 (.lst [.str "a"]) = H7
          intro s7 g7
          refine ⟨(by show 1 ≤ sizeLine; decide), fun q8 hq8 => ?_⟩
          have s8 : Same H7 (upd H7 q8 (.tup [.str "a"])) := xo (Same.refl _) hq8
          have g8 : upd H7 q8 (.tup [.str "a"]) q8 = some (.tup [.str "a"]) := xf
          revert s8 g8
          generalize upd H7 q8 (.tup [.str "a"]) = H8
          intro s8 g8
          refine ⟨(by show 9 ≤ sizeLine; decide), fun q9 hq9 => ?_⟩
          have s9 : Same H8 (upd H8 q9 (.lst [.str "", .str "A", .str "ab", .str "1", .non, .int 7, .bl true, .ref q7, .ref q8])) := xo (Same.refl _) hq9
          have g9 : upd H8 q9 (.lst [.str "", .str "A", .str "ab", .str "1", .non, .int 7, .bl true, .ref q7, .ref q8]) q9 = some (.lst [.str "", .str "A", .str "ab", .str "1", .non, .int 7, .bl true, .ref q7, .ref q8]) := xf
          revert s9 g9
          generalize upd H8 q9 (.lst [.str "", .str "A", .str "ab", .str "1", .non, .int 7, .bl true, .ref q7, .ref q8]) = H9
          intro s9 g9
          have s69 := s7.trans (s8.trans s9)
          have n7 : q7 ≠ ar := fun z => by rw [z, a6.at_] at hq7; cases hq7
          have n8 : q8 ≠ ar := fun z => by rw [z, s7 _ _ a6.at_] at hq8; cases hq8
          have mb := xau od (show (0 : Int) < 9 by decide)
          obtain ⟨r, dr, er, tr, nr⟩ := xe1 (H := H9) (P := fun v d => v ≠ .ref ar) (xs := [.str "", .str "A", .str "ab", .str "1", .non, .int 7, .bl true, .ref q7, .ref q8]) (fun v hv => by
            simp only [List.mem_cons, List.not_mem_nil, or_false] at hv
            rcases hv with rfl | rfl | rfl | rfl | rfl | rfl | rfl | rfl | rfl
            · exact ⟨_, .str _ (by decide +kernel), fun z => nomatch z⟩
            · exact ⟨_, .str _ (by decide +kernel), fun z => nomatch z⟩
            · exact ⟨_, .str _ (by decide +kernel), fun z => nomatch z⟩
            · exact ⟨_, .str _ (by decide +kernel), fun z => nomatch z⟩
            · exact ⟨_, .non, fun z => nomatch z⟩
            · exact ⟨_, .int _, fun z => nomatch z⟩
            · exact ⟨_, .bl _, fun z => nomatch z⟩
            · exact ⟨_, .lst (s9 _ _ (s8 _ _ g7)) rfl, fun z => n7 (V.ref.inj z)⟩
            · exact ⟨_, .tup (s9 _ _ g8) rfl, fun z => n8 (V.ref.inj z)⟩) mb.1 mb.2
          refine ⟨_, rfl, _, _, rfl, rfl, (by show (0 : Int) < 9; decide), q9, _, _, r, rfl, rfl, SqL.of g9, er, ?_⟩
          exact ⟨_, rfl, ar, xs, 0, 0, rfl, rfl, s69 _ _ a6.at_, (by rw [a6.len]; rfl), _, rfl, fin H9 s69 0 r dr tr nr⟩
        refine ifN (decide_eq_false fun z => c0 (V.int.inj z)) ?_
        refine ⟨fun σ H' => ∃ (xs' : List V), σ = [some (.int c), some (.int k), some (.ref sz), some (.ref l1), some (.int w'), some (.int ht), some (.ref ar), some (.int lo), some (.int (0 + (i : Int))), some (.int at_), some (.int od)] ∧ Same H H' ∧ H' l1 = some (.lst [V.int d0, .int d1, .int d2, .int d3, .int d4, .int d5, .int d6, .int d7]) ∧ A6 H' ar xs', ?_, fun σ H' z => z⟩
        refine ⟨_, rfl, rfl, _, rfl, ?_⟩
        by_cases c3 : at_ = 3
        · refine ifP (decide_eq_true (by rw [c3])) ?_
          refine ⟨(by show 1 ≤ sizeLine; decide), fun q7 hq7 => ?_⟩
          have s7 : Same H6 (upd H6 q7 (.lst [.str "left"])) := xo (Same.refl _) hq7
          have g7 : upd H6 q7 (.lst [.str "left"]) q7 = some (.lst [.str "left"]) := xf
          revert s7 g7
          generalize upd H6 q7 (.lst [.str "left"]) = H7
          intro s7 g7
          refine ⟨(by show 2 ≤ sizeLine; decide), fun q8 hq8 => ?_⟩
          have s8 : Same H7 (upd H7 q8 (.tup [.str "left", .str "right"])) := xo (Same.refl _) hq8
          have g8 : upd H7 q8 (.tup [.str "left", .str "right"]) q8 = some (.tup [.str "left", .str "right"]) := xf
          revert s8 g8
          generalize upd H7 q8 (.tup [.str "left", .str "right"]) = H8
          intro s8 g8
          refine ⟨(by show 8 ≤ sizeLine; decide), fun q9 hq9 => ?_⟩
          have s9 : Same H8 (upd H8 q9 (.lst [.str "", .str "Both", .str "lef", .non, .int 1, .bl true, .ref q7, .ref q8])) := xo (Same.refl _) hq9
          have g9 : upd H8 q9 (.lst [.str "", .str "Both", .str "lef", .non, .int 1, .bl true, .ref q7, .ref q8]) q9 = some (.lst [.str "", .str "Both", .str "lef", .non, .int 1, .bl true, .ref q7, .ref q8]) := xf
          revert s9 g9
          generalize upd H8 q9 (.lst [.str "", .str "Both", .str "lef", .non, .int 1, .bl true, .ref q7, .ref q8]) = H9
          intro s9 g9
          have s69 := s7.trans (s8.trans s9)
          have n7 : q7 ≠ ar := fun z => by rw [z, a6.at_] at hq7; cases hq7
          have n8 : q8 ≠ ar := fun z => by rw [z, s7 _ _ a6.at_] at hq8; cases hq8
          have mb := xau od (show (0 : Int) < 8 by decide)
          obtain ⟨r, dr, er, tr, nr⟩ := xe1 (H := H9) (P := fun v d => v ≠ .ref ar) (xs := [.str "", .str "Both", .str "lef", .non, .int 1, .bl true, .ref q7, .ref q8]) (fun v hv => by
            simp only [List.mem_cons, List.not_mem_nil, or_false] at hv
            rcases hv with rfl | rfl | rfl | rfl | rfl | rfl | rfl | rfl
            · exact ⟨_, .str _ (by decide +kernel), fun z => nomatch z⟩
            · exact ⟨_, .str _ (by decide +kernel), fun z => nomatch z⟩
            · exact ⟨_, .str _ (by decide +kernel), fun z => nomatch z⟩
            · exact ⟨_, .non, fun z => nomatch z⟩
            · exact ⟨_, .int _, fun z => nomatch z⟩
            · exact ⟨_, .bl _, fun z => nomatch z⟩
            · exact ⟨_, .lst (s9 _ _ (s8 _ _ g7)) rfl, fun z => n7 (V.ref.inj z)⟩
            · exact ⟨_, .tup (s9 _ _ g8) rfl, fun z => n8 (V.ref.inj z)⟩) mb.1 mb.2
          refine ⟨_, rfl, _, _, rfl, rfl, (by show (0 : Int) < 8; decide), q9, _, _, r, rfl, rfl, SqL.of g9, er, ?_⟩
          exact ⟨_, rfl, ar, xs, 3, 3, rfl, rfl, s69 _ _ a6.at_, (by rw [a6.len]; rfl), _, rfl, fin H9 s69 3 r dr tr nr⟩
        refine ifN (decide_eq_false fun z => c3 (V.int.inj z)) ?_
        obtain ⟨m, em, m0⟩ : ∃ m : Int, atI [V.int 0, .int w', .int ht, .int 0, .int ht, .int ht] at_ = some (.int m) ∧ 0 ≤ m := by
          have : at_ = 1 ∨ at_ = 2 ∨ at_ = 4 ∨ at_ = 5 := by omega
          rcases this with e | e | e | e <;> rw [e]
          · exact ⟨_, rfl, by omega⟩
          · exact ⟨_, rfl, by omega⟩
          · exact ⟨_, rfl, by omega⟩
          · exact ⟨_, rfl, by omega⟩
        refine ⟨_, rfl, _, rfl, _, rfl, _, rfl, _, rfl, (by show 6 ≤ sizeLine; decide), fun q7 hq7 => ?_⟩
        have s7 : Same H6 (upd H6 q7 (.lst [.int 0, .int w', .int ht, .int 0, .int ht, .int ht])) := xo (Same.refl _) hq7
        have g7 : upd H6 q7 (.lst [.int 0, .int w', .int ht, .int 0, .int ht, .int ht]) q7 = some (.lst [.int 0, .int w', .int ht, .int 0, .int ht, .int ht]) := xf
        revert s7 g7
        generalize upd H6 q7 (.lst [.int 0, .int w', .int ht, .int 0, .int ht, .int ht]) = H7
        intro s7 g7
        refine ⟨_, rfl, q7, _, _, .int m, rfl, rfl, SqL.of g7, em, od, m, rfl, m0, fun H8 r dr s8 tr _ nr => ?_⟩
        have s68 := s7.trans s8
        have nr' : r ≠ .ref ar := fun z => by
          have := nr _ z
          rw [s7 _ _ a6.at_] at this
          cases this
        exact ⟨_, rfl, _, rfl, ar, xs, at_, at_.toNat, rfl, rfl, s68 _ _ a6.at_, (by rw [a6.len]; rcases (show at_ = 1 ∨ at_ = 2 ∨ at_ = 4 ∨ at_ = 5 by omega) with e | e | e | e <;> rw [e] <;> rfl), _, rfl, fin H8 s68 at_.toNat r dr tr nr'⟩
      · rintro σ H' ⟨xs', rfl, sx, ex, ax⟩
        exact ⟨_, _, _, xs', rfl, sx, ex, ax⟩
    · rintro σ H6 ⟨v8, v9, v10, xs, rfl, s6, e6, a6⟩
      exact ⟨_, rfl, q H6 ar xs s6 far a6⟩
end
end S03
set_option maxRecDepth 100000
set_option maxHeartbeats 4000000
namespace S03
open PySem L2 XL PyProof.Rows
def xjw (t : Adr) : Sp := fun vs H Q _ => ∃ (n : Int), vs = [.int n] ∧ ∀ H', Same H H' → Q (.bl true) H'
theorem xhe {d0 d1 : DV} (h : xr d0 1 30 = false ∨ xr d1 1 16 = false) : xb9 d0 d1 = some .noSize := by
  unfold xb9
  rcases h with e | e
  · rw [e]; rfl
  · rw [e, Bool.and_false]; rfl
section
variable {P : Program} {w : World} {K : PySem.W.Frag} {mg : Str → Option Value} {base : Heap} {t : Adr}
theorem ok_y (T : Txt w K mg t) : FnOk true P w K mg base (CXo P w) 5 t.f_y t.d_y ["_law_number"] (xjw t) := by
  refine T.F_y.okn (k := 4) sc_y (fun vs H Q E h => ?_) (fun cdv A outer s H vs Q E hr h => ?_)
  · obtain ⟨n, rfl, _⟩ := h
    rfl
  · obtain ⟨n, rfl, h⟩ := h
    refine ⟨_, xm (x6 (i := 1) sc_y.nd rfl (Or.inl rfl) (xab (xb (xq xas (xg) (xq xao (pv 0) (xg))) (xb (xq xas (xg) (xq xao (xq xbi (pv 0) (xg)) (xg))) (xj)))))
      (xm (x6 (i := 2) sc_y.nd rfl (Or.inl rfl) (xq xao (xq xbi (pv 0) (xg)) (xg)))
      (xm (xbs (x5 (ok_at T) (hr.mono (by decide)) rfl T.g_at T.F_at.kp T.b_at .nil xu (xb (xq xbi (pv 0) (xg)) (xb (xt xv (xab (xb (xg) (xb (xg) (xj)))) (pv 2) (fun _ _ => rfl)) (xj)))) (xb3 (pv 1) (pv 2) xbn))
      (xm (x6 (i := 3) sc_y.nd rfl (Or.inl rfl) (xck))
      (xm (xid (E := (fun σ' e C' H' => ∃ (sz : Addr) (k : Int), σ' = [some (.int n), some (.ref sz), some (.int k), some .non, none] ∧ C' = t.C_k ∧ xa9 t H H' e .noSize)) rfl T.g_ap T.mk_ap sc_y.nd (j := 4) rfl rfl rfl rfl (fun _ _ tk => xn (xbp (xgw T.k_r (okT_v T) (hr.mono (by decide)) rfl T.g_r T.b_v .nil tk.pass (xb (xt (r := rIxL K) xv (pv 1) (xg) (fun _ _ => rfl)) (xb (xt (r := rIxL K) xv (pv 1) (xg) (fun _ _ => rfl)) (xj)))))) (fun _ => xn (x6 (i := 3) sc_y.nd rfl (Or.inl rfl) (pv 4))))
      (xm (x8 (PW.pt (xbe (xat (xad (xx xaa rfl T.n_isinstance boot_isinstance (xb (pv 3) (xb (xah (v := .ref _) rfl T.g_k rfl) (xj)))))) (xbc (xat (xad (xx xaa rfl T.n_isinstance boot_isinstance (xb (pv 3) (xb (xa5 (v := .ty "ValueError") rfl T.n_eq PyProof.Rows.Boot.«ValueError» rfl) (xj))))))))) (xn (xai (xby))) (xw))
      (xn ((by (with_reducible refine' xai ?e100); (case e100 => ((exact xef (xx xaa rfl T.n_isinstance boot_isinstance (xb (pv 3) (xb (xbg (xam (xah (v := .ref _) rfl T.g_l rfl) (xam (xah (v := .ref _) rfl T.g_az rfl) (xam (xah (v := .ref _) rfl T.g_o rfl) (xam (xah (v := .ref _) rfl T.g_ax rfl) (xam (xah (v := .ref _) rfl T.g_i rfl) (xam (xah (v := .ref _) rfl T.g_d rfl) (xj) rfl) rfl) rfl) rfl) rfl) rfl)) (xj))))))))))))))), ?_⟩
    have q := h
    refine ⟨_, rfl, _, _, rfl, rfl, (by show (0 : Int) < 30; decide), _, _, rfl, rfl, _, rfl, _, _, rfl, rfl, ⟨by decide, by decide⟩, _, _, rfl, rfl, (by show (0 : Int) < 16; decide), _, _, rfl, rfl, (by show 2 ≤ sizeLine; decide), fun sz hsz => ?_⟩
    dsimp only
    have s1 : Same H (upd H sz (.lst [.int (1 + n % 30), .int (1 + n / 30 % 16)])) := xo (Same.refl _) hsz
    have g1 : upd H sz (.lst [.int (1 + n % 30), .int (1 + n / 30 % 16)]) sz = some (.lst [.int (1 + n % 30), .int (1 + n / 30 % 16)]) := xf
    revert s1 g1
    generalize upd H sz (.lst [.int (1 + n % 30), .int (1 + n / 30 % 16)]) = H1
    intro s1 g1
    refine ⟨_, rfl, _, _, rfl, rfl, ⟨by decide, by decide⟩, _, _, rfl, rfl, (by show (0 : Int) < 2; decide), ?_⟩
    have bk := xau (n / 480) (show (0 : Int) < 2 by decide)
    obtain ⟨k, ek⟩ : ∃ k, k = n / 480 % 2 := ⟨_, rfl⟩
    dsimp only
    rw [← ek] at bk ⊢
    have hk : k = 0 ∨ k = 1 := by omega
    obtain ⟨m, em, hm⟩ : ∃ m : Int, atI [V.int 30, .int 16] k = some (.int m) ∧ ((k = 0 ∧ m = 30) ∨ (k = 1 ∧ m = 16)) := by
      rcases hk with rfl | rfl
      · exact ⟨30, rfl, .inl ⟨rfl, rfl⟩⟩
      · exact ⟨16, rfl, .inr ⟨rfl, rfl⟩⟩
    refine ⟨_, rfl, _, _, rfl, rfl, ⟨by decide, by decide⟩, (by show 2 ≤ sizeLine; decide), fun q2 hq2 => ?_⟩
    have s2 : Same H1 (upd H1 q2 (.lst [.int 30, .int 16])) := xo (Same.refl _) hq2
    have g2 : upd H1 q2 (.lst [.int 30, .int 16]) q2 = some (.lst [.int 30, .int 16]) := xf
    revert s2 g2
    generalize upd H1 q2 (.lst [.int 30, .int 16]) = H2
    intro s2 g2
    refine ⟨_, rfl, q2, _, _, .int m, rfl, rfl, SqL.of g2, em, _, m, rfl, (by omega), fun H3 r d s3 tr wr nr => ?_⟩
    have g13 := s3 _ _ (s2 _ _ g1)
    have s03 := s1.trans (s2.trans s3)
    have nr' : r ≠ .ref sz := fun z => by
      have := nr _ z
      rw [s2 _ _ g1] at this
      cases this
    refine ⟨_, rfl, _, rfl, sz, _, k, k.toNat, rfl, rfl, g13, (by rcases hk with e | e <;> rw [e] <;> rfl), ?_⟩
    obtain ⟨v0, v1, d0, d1, ev, t0, t1, bad⟩ : ∃ (v0 v1 : V) (d0 d1 : DV), [V.int (1 + n % 30), .int (1 + n / 30 % 16)].set k.toNat r = [v0, v1] ∧ Thg (upd H3 sz (.lst ([V.int (1 + n % 30), .int (1 + n / 30 % 16)].set k.toNat r))) v0 d0 ∧ Thg (upd H3 sz (.lst ([V.int (1 + n % 30), .int (1 + n / 30 % 16)].set k.toNat r))) v1 d1 ∧ (xr d0 1 30 = false ∨ xr d1 1 16 = false) := by
      have kp : ∀ b u, b ≠ sz → H3 b = some u → upd H3 sz (.lst ([V.int (1 + n % 30), .int (1 + n / 30 % 16)].set k.toNat r)) b = some u := fun b u nb e => by
        rw [xh nb]
        exact e
      have kr := Thg.keep kp nr' tr
      rcases hm with ⟨e1, e2⟩ | ⟨e1, e2⟩
      · subst e1 e2
        exact ⟨r, _, d, _, rfl, kr, .int _, .inl wr⟩
      · subst e1 e2
        exact ⟨_, r, _, d, rfl, .int _, kr, .inr wr⟩
    rw [ev] at t0 t1 ⊢
    have s04 : Same H (upd H3 sz (.lst [v0, v1])) := fun b u e => by
      rw [xh (xk e hsz)]
      exact s03 _ _ e
    have g4 : upd H3 sz (.lst [v0, v1]) sz = some (.lst [v0, v1]) := xf
    generalize upd H3 sz (.lst [v0, v1]) = H4 at t0 t1 s04 g4 ⊢
    refine ⟨?_, ?_⟩
    · refine ⟨_, rfl, sz, _, 0, _, rfl, rfl, SqL.of g4, rfl, _, rfl, sz, _, 1, _, rfl, rfl, SqL.of g4, rfl, fun x dx hx hdx ne => ?_⟩
      have s45 : Same H4 (upd (upd H4 dx (.own x)) x (.ins t.C_r dx [])) := fun b u e => by
        rw [xh (xk e hx), xh (xk e hdx)]
        exact e
      refine ⟨x, dx, v0, v1, d0, d1, rfl, xf, t0.same s45, t1.same s45, fun er her e H' z => ?_, fun o => ?_⟩
      · rw [xhe bad] at her
        cases her
        exact ⟨sz, k, rfl, rfl, xa9.pre (s04.trans s45) z⟩
      · rw [xhe bad] at o
        cases o
    · rintro σ' e C' H' ⟨sz', k', rfl, rfl, ra⟩
      refine ⟨T.mk_k, T.mro_k, ?_⟩
      obtain ⟨s5, ea⟩ := ra
      rcases ea with ⟨_, he⟩ | ⟨z, _⟩
      rotate_left
      · exact absurd rfl z
      refine ⟨_, rfl, ?_⟩
      have hd : ∀ d, (none : Option Addr) = some d → ∃ fs, H' d = some (XD d fs) := fun d z => nomatch z
      refine ⟨_, rfl, _, _, rfl, .inr (.inl ⟨e, _, _, _, true, rfl, he, hd, T.x_k, rfl, T.kit_d8, true, rfl, iteF ?_⟩)⟩
      refine ⟨_, rfl, _, _, rfl, .inr (.inl ⟨e, _, _, _, true, rfl, he, hd, T.x_k, rfl, T.kitv_k, true, rfl, iteF ?_⟩)⟩
      refine ⟨_, rfl, (by show 6 ≤ sizeLine; decide), fun tq htq => ?_⟩
      have s6 : Same H' (upd H' tq (.tup [.ref t.C_l, .ref t.C_az, .ref t.C_o, .ref t.C_ax, .ref t.C_i, .ref t.C_d])) := xo (Same.refl _) htq
      have g6 : upd H' tq (.tup [.ref t.C_l, .ref t.C_az, .ref t.C_o, .ref t.C_ax, .ref t.C_i, .ref t.C_d]) tq = some (.tup [.ref t.C_l, .ref t.C_az, .ref t.C_o, .ref t.C_ax, .ref t.C_i, .ref t.C_d]) := xf
      revert s6 g6
      generalize upd H' tq (.tup [.ref t.C_l, .ref t.C_az, .ref t.C_o, .ref t.C_ax, .ref t.C_i, .ref t.C_d]) = H6
      intro s6 g6
      exact ⟨_, _, rfl, .inr (.inr ⟨e, _, _, tq, _, _, false, rfl, s6 _ _ he, (fun d z => nomatch z), T.x_k, rfl, SqT.of g6, rfl, T.kany2_k, false, rfl, q _ (s5.trans s6)⟩)⟩
end
end S03
set_option maxRecDepth 100000
set_option maxHeartbeats 4000000
namespace S03
open PySem L2 XL PyProof.Rows
theorem xjs {K : PySem.W.Frag} {H : Hp} {pw ph : Int} {ps : List Pt} {dn dx dy ds dl dh : DV} {n x y s lo hi : V} (tn : Thg H n dn) (tx : Thg H x dx) (ty : Thg H y dy) (ts : Thg H s ds) (tl : Thg H lo dl) (th : Thg H hi dh) {er : Er} (h : xac pw ph ps dn dx dy ds dl dh n x y s lo hi = some er) : er ≠ .noSize ∧ ∀ v ∈ er.told, ∃ d, Dv K H 1 v d := by
  have str : ∀ s : Str, ∃ d, Dv K H 1 (.str s) d := fun s => ⟨_, .str⟩
  have one : ∀ (w : Str) (v : V) (d : DV), Thg H v d → ∀ u ∈ [V.str w, v], ∃ d, Dv K H 1 u d := fun w v d t u hu => by
    simp only [List.mem_cons, List.not_mem_nil, or_false] at hu
    rcases hu with rfl | rfl
    · exact str _
    · exact ⟨_, t.dv⟩
  have two : ∀ (w : Str) (v v' : V) (d d' : DV), Thg H v d → Thg H v' d' → ∀ u ∈ [V.str w, v, v'], ∃ d, Dv K H 1 u d := fun w v v' d d' t t' u hu => by
    simp only [List.mem_cons, List.not_mem_nil, or_false] at hu
    rcases hu with rfl | rfl | rfl
    · exact str _
    · exact ⟨_, t.dv⟩
    · exact ⟨_, t'.dv⟩
  have nmd : ∀ (w nm : Str), ∀ u ∈ [V.str w, .str nm], ∃ d, Dv K H 1 u d := fun w nm u hu => by
    simp only [List.mem_cons, List.not_mem_nil, or_false] at hu
    rcases hu with rfl | rfl
    · exact str _
    · exact str _
  unfold xac at h
  split at h
  · split at h
    · split at h
      · split at h
        · split at h
          · cases h
            exact ⟨(fun z => nomatch z), one _ _ _ tn⟩
          · split at h
            · cases h
              refine ⟨(fun z => nomatch z), fun u hu => ?_⟩
              simp only [Er.told, List.mem_cons, List.not_mem_nil, or_false] at hu
              rw [hu]
              exact str _
            · unfold xa8 at h
              split at h
              · cases h
                exact ⟨(fun z => nomatch z), nmd _ _⟩
              · split at h
                · cases h
                  exact ⟨(fun z => nomatch z), nmd _ _⟩
                · cases h
        · cases h
          exact ⟨(fun z => nomatch z), two _ _ _ _ _ tl th⟩
      · cases h
        exact ⟨(fun z => nomatch z), one _ _ _ ts⟩
    · cases h
      exact ⟨(fun z => nomatch z), two _ _ _ _ _ tx ty⟩
  · cases h
    exact ⟨(fun z => nomatch z), one _ _ _ tn⟩
theorem xk2 {K : PySem.W.Frag} {H : Hp} : ∀ {vs : List V}, (∀ v ∈ vs, ∃ d, Dv K H 1 v d) → ∃ ds : List DV, ds.length = vs.length ∧ ∀ l, H l = some (.lst vs) → Dv K H 2 (.ref l) (.lst ds) := by
  intro vs all
  have : ∃ ds : List DV, ds.length = vs.length ∧ ∀ (j : Nat) (x : V) (d : DV), vs[j]? = some x → ds[j]? = some d → Dv K H 1 x d := by
    induction vs with
    | nil => exact ⟨[], rfl, fun j x d h => by simp at h⟩
    | cons v vs ih =>
      obtain ⟨ds, e, h⟩ := ih fun x hx => all x (List.mem_cons_of_mem _ hx)
      obtain ⟨d, hd⟩ := all v List.mem_cons_self
      refine ⟨d :: ds, by simp [e], fun j x y h1 h2 => ?_⟩
      cases j with
      | zero =>
        simp at h1 h2
        subst h1 h2
        exact hd
      | succ j => exact h j x y (by simpa using h1) (by simpa using h2)
  obtain ⟨ds, e, h⟩ := this
  exact ⟨ds, e, fun l hl => .lst (SqL.of hl) e.symm h⟩
theorem xkv {er : Er} : er.told ≠ [] := by cases er <;> exact fun z => nomatch z
theorem A6.six {H : Hp} {a : Addr} {vs : List V} (h : A6 H a vs) : ∃ (n x y s lo hv : V) (dn dx dy ds dl dv : DV), vs = [n, x, y, s, lo, hv] ∧ Thg H n dn ∧ Thg H x dx ∧ Thg H y dy ∧ Thg H s ds ∧ Thg H lo dl ∧ Thg H hv dv ∧ (n ≠ .ref a ∧ x ≠ .ref a ∧ y ≠ .ref a ∧ s ≠ .ref a ∧ lo ≠ .ref a ∧ hv ≠ .ref a) := by
  obtain ⟨len, _, all⟩ := h
  match vs, len with
  | [n, x, y, s, lo, hv], _ =>
    obtain ⟨⟨dn, h0⟩, n0⟩ := all n (by simp)
    obtain ⟨⟨dx, h1⟩, n1⟩ := all x (by simp)
    obtain ⟨⟨dy, h2⟩, n2⟩ := all y (by simp)
    obtain ⟨⟨ds, h3⟩, n3⟩ := all s (by simp)
    obtain ⟨⟨dl, h4⟩, n4⟩ := all lo (by simp)
    obtain ⟨⟨dv, h5⟩, n5⟩ := all hv (by simp)
    exact ⟨n, x, y, s, lo, hv, dn, dx, dy, ds, dl, dv, rfl, h0, h1, h2, h3, h4, h5, n0, n1, n2, n3, n4, n5⟩
def xju (t : Adr) : Sp := fun vs H Q _ => ∃ (a dp do_ sz rl ar : Addr) (w h m : Int) (ps : List Pt) (xs : List V), vs = [.ref a, .ref sz, .ref rl, .ref ar, .int m] ∧ R3 t H a dp do_ rl sz w h ps ∧ A6 H ar xs ∧ 0 ≤ m ∧ m ≤ 3 ∧
  ∀ (H' : Hp) (ps' : List Pt), (∀ b u, b ≠ dp → b ≠ rl → H b = some u → H' b = some u) → R3 t H' a dp do_ rl sz w h ps' → Q (.bl true) H'
section
variable {P : Program} {w : World} {K : PySem.W.Frag} {mg : Str → Option Value} {base : Heap} {t : Adr}
end
end S03
set_option maxRecDepth 100000
set_option maxHeartbeats 4000000
namespace S03
open PySem L2 XL PyProof.Rows
section
variable {P : Program} {w : World} {K : PySem.W.Frag} {mg : Str → Option Value} {base : Heap} {t : Adr}
theorem ok_ag (T : Txt w K mg t) : FnOk true P w K mg base (CXo P w) 6 t.f_ag t.d_ag ["_law_picture", "_law_size", "_law_rows", "_law_args_here", "_law_many"] (xju t) := by
  refine T.F_ag.okn (k := 5) sc_ag (fun vs H Q E h => ?_) (fun cdv A outer s H vs Q E hr h => ?_)
  · obtain ⟨a, dp, do_, sz, rl, ar, w', ht, m, ps, xs, rfl, _⟩ := h
    rfl
  · obtain ⟨a, dp, do_, sz, rl, ar, w', ht, m, ps, xs, rfl, h⟩ := h
    refine ⟨_, xm (x6 (i := 5) sc_ag.nd rfl (Or.inl rfl) (xfb xgm rfl T.n_list boot_list (xb (pv 3) (xj))))
      (xm (xbf (x8 (xaj xej (pv 4) (xg) (xan _)) (xn (xbs (x4) (xb3 (pv 5) (xg) xbn))) (xw)))
      (xm (xbf (x8 (xaj xej (pv 4) (xg) (xan _)) (xn (xbs (xg) (xb3 (pv 5) (xg) xbn))) (xw)))
      (xm (xbf (x8 (PW.pt (xbe (xaj xej (pv 4) (xg) (xan _)) (xbc (xaj xf2 (xt xv (pv 3) (xg) (fun _ _ => rfl)) (xck) (xan _))))) (xn (xbs (xt xay (pv 1) (xg) (fun _ _ => rfl)) (xb3 (pv 5) (xg) xbn))) (xw)))
      (xm (x6 (i := 6) sc_ag.nd rfl (Or.inl rfl) (x5 (ok_ar T) (hr.mono (by decide)) rfl T.g_ar T.F_ar.kp T.b_ar .nil xu (xb (pv 1) (xb (pv 2) (xb (pv 5) (xj))))))
      (xm (x6 (i := 7) sc_ag.nd rfl (Or.inl rfl) (xab (xj)))
      (xm (xbf (xid (E := (fun σ' e C' H' => ∃ (da du l0 : Addr) (er : Er), σ' = [some (.ref a), some (.ref sz), some (.ref rl), some (.ref ar), some (.int m), some (.ref da), some (.ref du), some (.ref l0), none] ∧ C' = er.cls t ∧ er ≠ .noSize ∧ xa9 t H H' e er ∧ H' du = some (.lst er.told) ∧ ∀ v ∈ er.told, ∃ d, Dv K H' 1 v d)) rfl T.g_ap T.mk_ap sc_ag.nd (j := 8) rfl rfl rfl rfl (fun _ _ tk => xn (xbf (x8 (xaj xk4 (x5 (okT_au T) (hr.mono (by decide)) rfl T.g_au T.F_au.kp T.b_au .nil tk.pass (xb (pv 0) (xb (pv 3) (xb (pv 4) (xj))))) (xck) (xan _)) (xn (xai (xby))) (xw)))) (fun _ => xn (x6 (i := 7) sc_ag.nd rfl (Or.inl rfl) (x5 (ok_al T) (Room.mark hr (by decide)) rfl T.g_al T.F_al.kp T.b_al .nil xu (xb (pv 8) (xj)))))))
      (xm (xbf (x8 (xaj (xgn (xb1 hr)) (pv 7) (pv 6) (xan _)) (xn (xai (xby))) (xw)))
      (xm (xbf (x8 (xaj (xfy (xb1 hr)) (pv 6) (xab (xj)) (xan _)) (xn (xbp (xfo PySem.F.plainAttrs_list PySem.F.slot_list_append PySem.F.type_list_append xci (pv 2) (xb (xfb xfk rfl T.n_tuple boot_tuple (xb (pv 5) (xj))) (xj))))) (xw)))
      (xn (xai (xby))))))))))), ?_⟩
    obtain ⟨r, a6, m0, m3, q⟩ := h
    obtain ⟨n, x, y, s', lo, hv, dn, dx, dy, ds, dl, dv, rfl, tn, tx, ty, ts, tl, tv, _⟩ := a6.six
    obtain ⟨qs, hrl, pts⟩ := r.rl
    refine ⟨_, rfl, ar, _, rfl, .inl (SqL.of a6.at_), fun da hda => ?_⟩
    have s1 : Same H (upd H da (.lst [n, x, y, s', lo, hv])) := xo (Same.refl _) hda
    have g1 : upd H da (.lst [n, x, y, s', lo, hv]) da = some (.lst [n, x, y, s', lo, hv]) := xf
    revert s1 g1
    generalize upd H da (.lst [n, x, y, s', lo, hv]) = H1
    intro s1 g1
    have wr : ∀ (H' : Hp) (vs : List V), Same H H' → Same H (upd H' da (.lst vs)) := fun H' vs s b u e => by
      rw [xh (xk e hda)]
      exact s _ _ e
    refine ⟨fun σ H' => ∃ (es : V) (des : DV), σ = [some (.ref a), some (.ref sz), some (.ref rl), some (.ref ar), some (.int m), some (.ref da), none, none, none] ∧ Same H H' ∧ H' da = some (.lst [n, x, y, es, lo, hv]) ∧ ((2 < m ∧ es = .str "both" ∧ des = .str "both") ∨ (¬ 2 < m ∧ es = s' ∧ des = ds)), ?_, ?_⟩
    · refine ⟨_, rfl, _, _, rfl, rfl, _, rfl, ?_⟩
      by_cases c : 2 < m
      · exact ifP (decide_eq_true c) ⟨_, rfl, da, _, 3, 3, rfl, rfl, g1, rfl, _, _, rfl, wr _ _ s1, xf, .inl ⟨c, rfl, rfl⟩⟩
      · exact ifN (decide_eq_false c) ⟨_, _, rfl, s1, g1, .inr ⟨c, rfl, rfl⟩⟩
    rintro σ H2 ⟨es, des, rfl, s2, g2, hs⟩
    refine ⟨fun σ H' => ∃ (el : V) (del : DV), σ = [some (.ref a), some (.ref sz), some (.ref rl), some (.ref ar), some (.int m), some (.ref da), none, none, none] ∧ Same H H' ∧ H' da = some (.lst [n, x, y, es, el, hv]) ∧ ((1 < m ∧ el = .int 1 ∧ del = .int 1) ∨ (¬ 1 < m ∧ el = lo ∧ del = dl)), ?_, ?_⟩
    · refine ⟨_, rfl, _, _, rfl, rfl, _, rfl, ?_⟩
      by_cases c : 1 < m
      · exact ifP (decide_eq_true c) ⟨_, rfl, da, _, 4, 4, rfl, rfl, g2, rfl, _, _, rfl, wr _ _ s2, xf, .inl ⟨c, rfl, rfl⟩⟩
      · exact ifN (decide_eq_false c) ⟨_, _, rfl, s2, g2, .inr ⟨c, rfl, rfl⟩⟩
    rintro σ H3 ⟨el, del, rfl, s3, g3, hl⟩
    refine ⟨fun σ H' => ∃ (hi : V) (dhi : DV), σ = [some (.ref a), some (.ref sz), some (.ref rl), some (.ref ar), some (.int m), some (.ref da), none, none, none] ∧ Same H H' ∧ H' da = some (.lst [n, x, y, es, el, hi]) ∧ (((0 < m ∨ hv = .non) ∧ hi = .int ht ∧ dhi = .int ht) ∨ (¬ 0 < m ∧ hv ≠ .non ∧ hi = hv ∧ dhi = dv)), ?_, ?_⟩
    · refine ⟨_, rfl, _, _, rfl, rfl, _, rfl, ?_⟩
      by_cases c : 0 < m
      · exact ifP (decide_eq_true c) (iteT ⟨_, rfl, sz, _, 1, _, rfl, rfl, SqT.of (s3 _ _ r.hs), rfl, _, rfl, da, _, 5, 5, rfl, rfl, g3, rfl, _, _, rfl, wr _ _ s3, xf, .inl ⟨.inl c, rfl, rfl⟩⟩)
      · refine ifN (decide_eq_false c) ⟨_, rfl, ar, _, 5, _, rfl, rfl, SqL.of (s3 _ _ a6.at_), rfl, rfl, _, rfl, ?_⟩
        by_cases z : hv = .non
        · exact ifP (decide_eq_true z) ⟨_, rfl, sz, _, 1, _, rfl, rfl, SqT.of (s3 _ _ r.hs), rfl, _, rfl, da, _, 5, 5, rfl, rfl, g3, rfl, _, _, rfl, wr _ _ s3, xf, .inl ⟨.inr z, rfl, rfl⟩⟩
        · exact ifN (decide_eq_false z) ⟨_, _, rfl, s3, g3, .inr ⟨c, z, rfl, rfl⟩⟩
    rintro σ H4 ⟨hi, dhi, rfl, s4, g4, hh⟩
    have tes : ∀ H', Same H H' → Thg H' es des := fun H' s => by
      rcases hs with ⟨_, rfl, rfl⟩ | ⟨_, rfl, rfl⟩
      · exact .str _ (by decide +kernel)
      · exact ts.same s
    have tel : ∀ H', Same H H' → Thg H' el del := fun H' s => by
      rcases hl with ⟨_, rfl, rfl⟩ | ⟨_, rfl, rfl⟩
      · exact .int _
      · exact tl.same s
    have thi : ∀ H', Same H H' → Thg H' hi dhi := fun H' s => by
      rcases hh with ⟨_, rfl, rfl⟩ | ⟨_, _, rfl, rfl⟩
      · exact .int _
      · exact tv.same s
    refine ⟨_, rfl, _, rfl, _, rfl, sz, rl, da, w', ht, ps, qs, n, x, y, es, el, hi, dn, dx, dy, des, del, dhi, rfl, s4 _ _ r.hs, s4 _ _ hrl, pts.keep (Same.tups s4), r.pok.le, (fun p hp => (r.pok.ok p hp).nm), g4, tn.same s4, tx.same s4, ty.same s4, tes _ s4, tel _ s4, thi _ s4, fun H5 du fr5 s5 g5 => ?_⟩
    refine ⟨(by show 0 ≤ sizeLine; exact Nat.zero_le _), fun l0 hl0 => ?_⟩
    have s6 : Same H5 (upd H5 l0 (.lst [])) := xo (Same.refl _) hl0
    have g6 : upd H5 l0 (.lst []) l0 = some (.lst []) := xf
    revert s6 g6
    generalize upd H5 l0 (.lst []) = H6
    intro s6 g6
    have s06 := s4.trans (s5.trans s6)
    have r6 := r.same s06
    obtain ⟨kv6, hk6, _⟩ := id r6.pic.pl
    refine ⟨(fun σ H' => (∃ (da' du' lt : Addr) (tl' : List V), σ = [some (V.ref a), some (.ref sz), some (.ref rl), some (.ref ar), some (.int m), some (.ref da'), some (.ref du'), some (.ref lt), none] ∧ Same H H' ∧ H' du' = some (.lst tl') ∧ H' lt = some (.lst tl') ∧ tl' ≠ [] ∧ ∀ v ∈ tl', ∃ d, Dv K H' 1 v d) ∨ ∃ (da' du' lt : Addr) (pt : Pt), σ = [some (V.ref a), some (.ref sz), some (.ref rl), some (.ref ar), some (.int m), some (.ref da'), some (.ref du'), some (.ref lt), none] ∧ (∀ b u, b ≠ dp → H b = some u → H' b = some u) ∧ H' du' = some (.lst []) ∧ H' lt = some (.lst []) ∧ H' da' = some (.lst (.str pt.nm :: ptV pt)) ∧ Pic t H' a dp do_ w' ht (ps ++ [pt]) ∧ PtOk w' ht pt ∧ (∀ p ∈ ps, p.nm ≠ pt.nm ∧ p.x ≠ pt.x ∧ p.y ≠ pt.y) ∧ ps.length < 12), ⟨?_, ?_⟩, ?_⟩
    · refine ⟨(fun σ H' => (∃ (da' du' lt : Addr) (tl' : List V), σ = [some (V.ref a), some (.ref sz), some (.ref rl), some (.ref ar), some (.int m), some (.ref da'), some (.ref du'), some (.ref lt), none] ∧ Same H H' ∧ H' du' = some (.lst tl') ∧ H' lt = some (.lst tl') ∧ tl' ≠ [] ∧ ∀ v ∈ tl', ∃ d, Dv K H' 1 v d) ∨ ∃ (da' du' lt : Addr) (pt : Pt), σ = [some (V.ref a), some (.ref sz), some (.ref rl), some (.ref ar), some (.int m), some (.ref da'), some (.ref du'), some (.ref lt), none] ∧ (∀ b u, b ≠ dp → H b = some u → H' b = some u) ∧ H' du' = some (.lst []) ∧ H' lt = some (.lst []) ∧ H' da' = some (.lst (.str pt.nm :: ptV pt)) ∧ Pic t H' a dp do_ w' ht (ps ++ [pt]) ∧ PtOk w' ht pt ∧ (∀ p ∈ ps, p.nm ≠ pt.nm ∧ p.x ≠ pt.x ∧ p.y ≠ pt.y) ∧ ps.length < 12), ?_, fun σ H' z => z⟩
      refine ⟨_, rfl, _, rfl, _, rfl, a, ar, dp, do_, w', ht, ps, n, x, y, s', lo, hv, es, el, hi, dn, dx, dy, ds, dl, dv, des, del, dhi, m, rfl, r6.pic, s06 _ _ a6.at_, m0, m3, tn.same s06, tx.same s06, ty.same s06, ts.same s06, tl.same s06, tv.same s06, hs, hl, hh, fun er her e H' z => ?_, fun oo nm i j sd l h H' e1 e2 e3 e4 e5 e6 k pc pok no len => ?_⟩
      · have s07 := s06.trans z.1
        have ot := xjs (K := K) (tn.same s07) (tx.same s07) (ty.same s07) (tes _ s07) (tel _ s07) (thi _ s07) her
        rw [her] at g5
        exact ⟨da, du, l0, er, rfl, rfl, ot.1, xa9.pre s06 z, z.1 _ _ (s6 _ _ g5), ot.2⟩
      · rw [oo] at g5
        have nd : ∀ b u, (∀ k, u ≠ HO.dK k) → H6 b = some u → H' b = some u := fun b u nu e => k b u (fun z => by rw [z, hk6] at e; cases e; exact nu _ rfl) e
        refine ⟨rfl, _, rfl, ifN (by rfl) (.inr ⟨da, du, l0, ⟨nm, i, j, sd, l, h⟩, rfl, fun b u nb e => k _ _ nb (s06 _ _ e), nd _ _ (by intro k z; cases z) (s6 _ _ g5), nd _ _ (by intro k z; cases z) g6, ?_, pc, pok, no, len⟩)⟩
        have g46 := nd _ _ (by intro k z; cases z) (s6 _ _ (s5 _ _ g4))
        have t6 := tes _ s06
        have t7 := tel _ s06
        have t8 := thi _ s06
        subst e1 e2 e3 e4 e5 e6
        rw [tn.str_of, tx.int_of, ty.int_of, t6.str_of, t7.int_of, t8.int_of] at g46
        exact g46
    · rintro σ' e C' H' ⟨da', du', l0', er, rfl, rfl, ner, ra, hdu, dvs⟩
      refine ⟨?_, ?_, ?_⟩
      · cases er
        · exact T.mk_o
        · exact T.mk_l
        · exact T.mk_g
        · exact T.mk_d
        · exact T.mk_f
        · exact T.mk_i
        · exact T.mk_a
        · exact T.mk_j
        · exact T.mk_k
      · cases er
        · exact T.mro_o
        · exact T.mro_l
        · exact T.mro_g
        · exact T.mro_d
        · exact T.mro_f
        · exact T.mro_i
        · exact T.mro_a
        · exact T.mro_j
        · exact T.mro_k
      · refine ⟨_, rfl, e, er, rfl, ra.2, ner, fun H2 l s2 hl => ?_⟩
        exact .inl ⟨da', du', l, er.told, rfl, ra.1.trans s2, s2 _ _ hdu, hl, xkv, fun v hv => let ⟨d, z⟩ := dvs v hv; ⟨d, z.same s2⟩⟩
    obtain ⟨kvH, hkH, _⟩ := id r.pic.pl
    rintro σ H7 (⟨da', du', lt, tl', rfl, s7, hdu, hlt, tne, dvs⟩ | ⟨da', du', lt, pt, rfl, k7, hdu, hlt, hda7, pc, pok, no, len⟩)
    · obtain ⟨ds', dsn, dsl⟩ := xk2 (K := K) dvs
      refine ⟨fun σ' H' => σ' = [some (V.ref a), some (.ref sz), some (.ref rl), some (.ref ar), some (.int m), some (.ref da'), some (.ref du'), some (.ref lt), none] ∧ H7 = H', ?_, ?_⟩
      · exact ⟨_, rfl, _, rfl, 2, 2, .lst ds', .lst ds', dsl lt hlt, dsl du' hdu, by decide, by decide, _, rfl, ifN (by rw [xbu]; rfl) ⟨rfl, rfl⟩⟩
      rintro σ' _ ⟨rfl, rfl⟩
      refine ⟨fun σ' H' => σ' = [some (V.ref a), some (.ref sz), some (.ref rl), some (.ref ar), some (.int m), some (.ref da'), some (.ref du'), some (.ref lt), none] ∧ Same H7 H', ?_, ?_⟩
      · refine ⟨_, rfl, (by show 0 ≤ sizeLine; exact Nat.zero_le _), fun le hle => ?_⟩
        have s8 : Same H7 (upd H7 le (.lst [])) := xo (Same.refl _) hle
        have g8 : upd H7 le (.lst []) le = some (.lst []) := xf
        revert s8 g8
        generalize upd H7 le (.lst []) = H8
        intro s8 g8
        have ne : dEq (.lst ds') (.lst []) = false := by
          cases ds' with
          | nil => exact absurd (List.eq_nil_of_length_eq_zero dsn.symm) tne
          | cons a l => rfl
        exact ⟨2, 1, .lst ds', .lst [], (dsl du' hdu).same s8, xcs g8, by decide, by decide, _, rfl, ifN ne ⟨rfl, s8⟩⟩
      rintro σ' H9 ⟨rfl, s9⟩
      exact q H9 ps (fun b u _ _ e => s9 _ _ (s7 _ _ e)) (r.same (s7.trans s9))
    · refine ⟨fun σ' H' => σ' = [some (V.ref a), some (.ref sz), some (.ref rl), some (.ref ar), some (.int m), some (.ref da'), some (.ref du'), some (.ref lt), none] ∧ H7 = H', ?_, ?_⟩
      · exact ⟨_, rfl, _, rfl, 1, 1, .lst [], .lst [], xcs hlt, xcs hdu, by decide, by decide, _, rfl, ifN (by rw [xbu]; rfl) ⟨rfl, rfl⟩⟩
      rintro σ' _ ⟨rfl, rfl⟩
      refine ⟨fun σ' H' => σ' = [some (V.ref a), some (.ref sz), some (.ref rl), some (.ref ar), some (.int m), some (.ref da'), some (.ref du'), some (.ref lt), none] ∧ (∀ b u, b ≠ dp → b ≠ rl → H b = some u → H' b = some u) ∧ R3 t H' a dp do_ rl sz w' ht (ps ++ [pt]), ?_, ?_⟩
      · refine ⟨_, rfl, (by show 0 ≤ sizeLine; exact Nat.zero_le _), fun le hle => ?_⟩
        have s8 : Same H7 (upd H7 le (.lst [])) := xo (Same.refl _) hle
        have g8 : upd H7 le (.lst []) le = some (.lst []) := xf
        revert s8 g8
        generalize upd H7 le (.lst []) = H8
        intro s8 g8
        refine ⟨1, 1, .lst [], .lst [], xcs (s8 _ _ hdu), xcs g8, by decide, by decide, _, rfl, ifP (by rw [xbu]) ?_⟩
        have hrl8 := s8 _ _ (k7 _ _ (xak hrl hkH (fun z => nomatch z)) hrl)
        refine ⟨_, rfl, .inl ⟨rfl, _, SqL.of hrl8⟩, _, rfl, da', _, rfl, .inl ⟨SqL.of (s8 _ _ hda7), fun tq htq => ?_⟩⟩
        have s9 : Same H8 (upd H8 tq (.tup (.str pt.nm :: ptV pt))) := xo (Same.refl _) htq
        have g9 : upd H8 tq (.tup (.str pt.nm :: ptV pt)) tq = some (.tup (.str pt.nm :: ptV pt)) := xf
        revert s9 g9
        generalize upd H8 tq (.tup (.str pt.nm :: ptV pt)) = H9
        intro s9 g9
        have hrl9 := s9 _ _ hrl8
        have ql := pts.len
        refine ⟨rl, _, _, rfl, rfl, hrl9, ?_, rfl, ?_, ?_⟩
        · rw [List.length_map]
          exact Nat.lt_trans (by omega : qs.length < 13) (by decide)
        · intro b u n1 n2 e
          rw [xh n2]
          exact s9 _ _ (s8 _ _ (k7 _ _ n1 e))
        · have bB : ∀ b u, b ≠ rl → H9 b = some u → upd H9 rl (.lst (qs.map V.ref ++ [.ref tq])) b = some u := fun b u nb e => by
            rw [xh nb]
            exact e
          have tB : Tups H9 (upd H9 rl (.lst (qs.map V.ref ++ [.ref tq]))) := fun b xs e => bB _ _ (xak e hrl9 (fun z => nomatch z)) e
          have s79 := s8.trans s9
          have pc9 := Pic.same s79 pc
          have tA : Tups H H9 := fun b xs e => s79 _ _ (k7 _ _ (xak e hkH (fun z => nomatch z)) e)
          have dt9 : H9 do_ = some (.dT []) := s79 _ _ (k7 _ _ (xak r.dt hkH (fun z => nomatch z)) r.dt)
          have hs9 : H9 sz = some (.tup [.int w', .int ht]) := tA _ _ r.hs
          refine ⟨⟨let ⟨d, e⟩ := pc9.ins; ⟨d, bB _ _ (xak e hrl9 (fun z => nomatch z)) e⟩, let ⟨k, e, q⟩ := pc9.pl; ⟨k, bB _ _ (xak e hrl9 (fun z => nomatch z)) e, q.keep tB⟩, pc9.w1, pc9.w2, pc9.h1, pc9.h2, pc9.len⟩, bB _ _ (xak dt9 hrl9 (fun z => nomatch z)) dt9, ?_, tB _ _ hs9, qs ++ [tq], ?_, PtsL.snoc ((pts.keep tA).keep tB) (tB _ _ g9)⟩
          · refine ⟨fun p hp => ?_, ?_, ?_, ?_, by rw [List.length_append]; exact (by omega : ps.length + 1 ≤ 12)⟩
            · rcases List.mem_append.mp hp with z | z
              · exact r.pok.ok p z
              · rw [List.mem_singleton.mp z]
                exact pok
            all_goals rw [List.map_append, List.nodup_append]
            · refine ⟨r.pok.nn, by simp, fun u hu v hv e => ?_⟩
              obtain ⟨p, hp, rfl⟩ := List.mem_map.mp hu
              rw [List.mem_singleton.mp hv] at e
              exact (no p hp).1 e
            · refine ⟨r.pok.nx, by simp, fun u hu v hv e => ?_⟩
              obtain ⟨p, hp, rfl⟩ := List.mem_map.mp hu
              rw [List.mem_singleton.mp hv] at e
              exact (no p hp).2.1 e
            · refine ⟨r.pok.ny, by simp, fun u hu v hv e => ?_⟩
              obtain ⟨p, hp, rfl⟩ := List.mem_map.mp hu
              rw [List.mem_singleton.mp hv] at e
              exact (no p hp).2.2 e
          · rw [xf, List.map_append]
            rfl
      rintro σ' H9 ⟨rfl, k9, r9⟩
      exact q H9 _ k9 r9
end
end S03
set_option maxRecDepth 100000
set_option maxHeartbeats 4000000
namespace S03
open PySem L2 XL PyProof.Rows
theorem xlt (n : Int) : ∃ b : Bool, ∀ f : Bool → V, atI [f false, f true] (n % 2) = some (f b) := by
  have z := xau n (show (0 : Int) < 2 by decide)
  have : n % 2 = 0 ∨ n % 2 = 1 := by omega
  rcases this with e | e <;> rw [e]
  · exact ⟨false, fun f => rfl⟩
  · exact ⟨true, fun f => rfl⟩
def Sz (H : Hp) (z : Addr) (w h : Int) : Prop := H z = some (.tup [.int w, .int h]) ∧ 1 ≤ w ∧ w ≤ 30 ∧ 1 ≤ h ∧ h ≤ 16
theorem Sz.same {H H' : Hp} {z : Addr} {w h : Int} (s : Tups H H') (x : Sz H z w h) : Sz H' z w h := ⟨s _ _ x.1, x.2⟩
def Fz (H : Hp) (l : Addr) : Nat → Prop
  | 0 => H l = some (.lst [])
  | 1 => ∃ (z : Addr) (w h : Int), H l = some (.lst [.ref z]) ∧ Sz H z w h
  | _ => ∃ (z0 z1 : Addr) (w0 h0 w1 h1 : Int), H l = some (.lst [.ref z0, .ref z1]) ∧ Sz H z0 w0 h0 ∧ Sz H z1 w1 h1
theorem Fz.same {H H' : Hp} {l : Addr} {i : Nat} (s : Same H H') (x : Fz H l i) : Fz H' l i := by
  match i, x with
  | 0, x => exact s _ _ x
  | 1, ⟨z, w, h, e, x⟩ => exact ⟨z, w, h, s _ _ e, x.same (Same.tups s)⟩
  | _ + 2, ⟨z0, z1, w0, h0, w1, h1, e, x0, x1⟩ => exact ⟨z0, z1, w0, h0, w1, h1, s _ _ e, x0.same (Same.tups s), x1.same (Same.tups s)⟩
theorem Fz.push {H : Hp} {l q : Addr} {i : Nat} {w h : Int} (hi : i < 2) (x : Fz H l i) (hq : Sz H q w h) : ∃ vs, H l = some (.lst vs) ∧ vs.length < 2 ∧ Fz (upd H l (.lst (vs ++ [.ref q]))) l (i + 1) := by
  match i, x with
  | 0, x => exact ⟨[], x, by decide, q, w, h, xf, hq.same fun b xs e => by rw [xh (xak e x (fun z => nomatch z))]; exact e⟩
  | 1, ⟨z, w', h', e, x⟩ =>
    have tt : Tups H (upd H l (.lst ([.ref z] ++ [.ref q]))) := fun b xs e' => by rw [xh (xak e' e (fun z => nomatch z))]; exact e'
    exact ⟨[.ref z], e, Nat.lt_succ_self 1, z, q, w', h', w, h, xf, x.same tt, hq.same tt⟩
  | i + 2, _ => omega
theorem Pic.np {t : Adr} {H H' : Hp} {a dp do_ : Addr} {w h : Int} {ps : List Pt} (s : Np H H') (p : Pic t H a dp do_ w h ps) : Pic t H' a dp do_ w h ps :=
  ⟨let ⟨d, e⟩ := p.ins; ⟨d, s _ _ (fun xs z => nomatch z) e⟩, let ⟨k, e, q⟩ := p.pl; ⟨k, s _ _ (fun xs z => nomatch z) e, q.keep fun b xs e => s _ _ (fun xs z => nomatch z) e⟩, p.w1, p.w2, p.h1, p.h2, p.len⟩
def One3 (t : Adr) (H0 H : Hp) (w0 h0 : Int) (ys : List V) : Prop := ∃ (a p o : Addr), ys = [.ref a] ∧ Pic t H a p o w0 h0 [] ∧ H o = some (.dT []) ∧ H0 p = none
def Two3 (t : Adr) (H0 H : Hp) (w0 h0 w1 h1 : Int) (ys : List V) : Prop := ∃ (a0 p0 o0 a1 p1 o1 : Addr), ys = [.ref a0, .ref a1] ∧ Pic t H a0 p0 o0 w0 h0 [] ∧ H o0 = some (.dT []) ∧ H0 p0 = none ∧ Pic t H a1 p1 o1 w1 h1 [] ∧ H o1 = some (.dT []) ∧ H0 p1 = none ∧ p0 ≠ p1
def Fp3 (t : Adr) (H0 : Hp) (w0 h0 w1 h1 : Int) : Nat → List V → Hp → Prop
  | 0, ys, _ => ys = []
  | 1, ys, H => One3 t H0 H w0 h0 ys
  | _, ys, H => Two3 t H0 H w0 h0 w1 h1 ys
theorem Fp3.np {t : Adr} {H0 H H' : Hp} {w0 h0 w1 h1 : Int} {i : Nat} {ys : List V} (s : Np H H') (h : Fp3 t H0 w0 h0 w1 h1 i ys H) : Fp3 t H0 w0 h0 w1 h1 i ys H' := by
  match i, h with
  | 0, h => exact h
  | 1, ⟨a, p, o, e, pc, eo, f⟩ => exact ⟨a, p, o, e, pc.np s, s _ _ (fun xs z => nomatch z) eo, f⟩
  | _ + 2, ⟨a0, p0, o0, a1, p1, o1, e, pc, eo, f, pc1, eo1, f1, n1⟩ => exact ⟨a0, p0, o0, a1, p1, o1, e, pc.np s, s _ _ (fun xs z => nomatch z) eo, f, pc1.np s, s _ _ (fun xs z => nomatch z) eo1, f1, n1⟩
theorem R3.keep {t : Adr} {H H' : Hp} {a dp do_ l sz d r : Addr} {w h : Int} {ps : List Pt} (k : ∀ b u, b ≠ d → b ≠ r → H b = some u → H' b = some u) {kv : List (Key × V)} (hd : H d = some (.dK kv)) {xs : List V} (hr : H r = some (.lst xs)) (n1 : dp ≠ d) (n2 : l ≠ r) (x : R3 t H a dp do_ l sz w h ps) : R3 t H' a dp do_ l sz w h ps := by
  have kt : Tups H H' := fun b xs e => k _ _ (xak e hd (fun z => nomatch z)) (xak e hr (fun z => nomatch z)) e
  exact ⟨⟨let ⟨d', e⟩ := x.pic.ins; ⟨d', k _ _ (xak e hd (fun z => nomatch z)) (xak e hr (fun z => nomatch z)) e⟩, let ⟨kk, e, q⟩ := x.pic.pl; ⟨kk, k _ _ n1 (xak e hr (fun z => nomatch z)) e, q.keep kt⟩, x.pic.w1, x.pic.w2, x.pic.h1, x.pic.h2, x.pic.len⟩, k _ _ (xak x.dt hd (fun z => nomatch z)) (xak x.dt hr (fun z => nomatch z)) x.dt, x.pok, kt _ _ x.hs, let ⟨qs, e, p⟩ := x.rl; ⟨qs, k _ _ (xak e hd (fun z => nomatch z)) n2 e, p.keep kt⟩⟩
structure A3 where
  a : Addr
  dp : Addr
  do_ : Addr
  rl : Addr
  sz : Addr
  w : Int
  h : Int
structure xce (t : Adr) (H0 H : Hp) (szl rwl pl : Addr) (A : Bool → A3) (ps : Bool → List Pt) : Prop where
  half : ∀ b, R3 t H (A b).a (A b).dp (A b).do_ (A b).rl (A b).sz (A b).w (A b).h (ps b)
  same : Same H0 H
  szl : H szl = some (.lst [.ref (A false).sz, .ref (A true).sz])
  rwl : H rwl = some (.lst [.ref (A false).rl, .ref (A true).rl])
  pl : H pl = some (.lst [.ref (A false).a, .ref (A true).a])
theorem xce.keep {t : Adr} {H0 H H' : Hp} {szl rwl pl : Addr} {A : Bool → A3} {ps : Bool → List Pt} (s : Same H H') (x : xce t H0 H szl rwl pl A ps) : xce t H0 H' szl rwl pl A ps := ⟨fun b => (x.half b).same s, x.same.trans s, s _ _ x.szl, s _ _ x.rwl, s _ _ x.pl⟩
structure Far3 (H0 : Hp) (szl rwl pl : Addr) (A : Bool → A3) : Prop where
  dp : ∀ b, (A b).dp ≠ (A (!b)).dp
  rl : ∀ b, (A b).rl ≠ (A (!b)).rl
  fdp : ∀ b, H0 (A b).dp = none
  frl : ∀ b, H0 (A b).rl = none
  nl : ∀ b, szl ≠ (A b).rl ∧ rwl ≠ (A b).rl ∧ pl ≠ (A b).rl
theorem xce.put {t : Adr} {H0 H H' : Hp} {szl rwl pl : Addr} {A : Bool → A3} {ps : Bool → List Pt} (f : Far3 H0 szl rwl pl A) (x : xce t H0 H szl rwl pl A ps) (b : Bool) {qs : List Pt} (k : ∀ c u, c ≠ (A b).dp → c ≠ (A b).rl → H c = some u → H' c = some u) (r : R3 t H' (A b).a (A b).dp (A b).do_ (A b).rl (A b).sz (A b).w (A b).h qs) : ∃ ps', xce t H0 H' szl rwl pl A ps' := by
  obtain ⟨kv, hd, _⟩ := (x.half b).pic.pl
  obtain ⟨qs0, hr, _⟩ := (x.half b).rl
  refine ⟨fun c => if c = b then qs else ps c, fun c => ?_, fun c u e => k _ _ (xk e (f.fdp b)) (xk e (f.frl b)) (x.same _ _ e), k _ _ (xak x.szl hd (fun z => nomatch z)) (f.nl b).1 x.szl, k _ _ (xak x.rwl hd (fun z => nomatch z)) (f.nl b).2.1 x.rwl, k _ _ (xak x.pl hd (fun z => nomatch z)) (f.nl b).2.2 x.pl⟩
  by_cases c0 : c = b
  · subst c0
    rw [if_pos rfl]
    exact r
  · rw [if_neg c0]
    have e : b = !c := by cases b <;> cases c <;> first | rfl | exact absurd rfl c0
    exact (x.half c).keep k hd hr (by rw [e]; exact f.dp c) (by rw [e]; exact f.rl c)
def xft (ns : List Int) (k : Int) : Int := if k < (ns.length : Int) then ns.getD k.toNat 0 else 7919 * k + 13
def mixF (c k : Int) : Int :=
  let n := ((c + 7919 * k) % 2147483647 * 48271 + k) % 2147483647
  let m := n * (n + 7) % 2147483629
  m * (m + 3) % 2147483587
def xli (K : PySem.W.Frag) : Sp := fun vs H Q _ => ∃ (a : Addr) (ns : List Int) (k : Int), vs = [.ref a, .int k] ∧ SqL K H a (ns.map V.int) ∧ 0 ≤ k ∧ k < 2 ^ 62 ∧ Q (.int (xft ns k)) H
def xl3 : Sp := fun vs H Q _ => ∃ c k : Int, vs = [.int c, .int k] ∧ (0 ≤ mixF c k → mixF c k < 2147483587 → Q (.int (mixF c k)) H)
section
variable {P : Program} {w : World} {K : PySem.W.Frag} {mg : Str → Option Value} {base : Heap} {t : Adr}
theorem okD_af (T : Txt w K mg t) : FnOk true P w K mg base (CXo P w) 1 t.f_af t.d_af ["_law_script", "_law_k"] (xli K) := by
  refine T.F_af.okn (k := 0) sc_af (fun vs H Q E h => ?_) (fun cdv A outer s H vs Q E hr h => ?_)
  · obtain ⟨a, ns, k, rfl, _⟩ := h
    rfl
  · obtain ⟨a, ns, k, rfl, h⟩ := h
    refine ⟨_, xm (x8 (xaj xmt (pv 1) (xx xb8 rfl T.n_len boot_len (xb (pv 0) (xj))) (xan _)) (xn (xai (xt xv (pv 0) (pv 1) (fun _ _ => rfl)))) (xw))
      (xn (xai (xq xas (xq xbh (xg) (pv 1)) (xg)))), ?_⟩
    obtain ⟨hs, k0, k1, q⟩ := h
    refine ⟨_, rfl, _, rfl, a, _, rfl, .inl hs, _, _, rfl, rfl, _, rfl, ?_⟩
    unfold xft at q
    refine ite2 (fun c => ?_) (fun c => ?_)
    · have c' : k < (ns.length : Int) := by simpa using c
      rw [if_pos c'] at q
      obtain ⟨j, rfl⟩ := Int.eq_ofNat_of_zero_le k0
      have lt : j < ns.length := by omega
      refine ⟨_, rfl, _, rfl, a, _, _, _, rfl, rfl, hs, xdz (by rw [List.getElem?_map, List.getElem?_eq_getElem lt]; rfl), ?_⟩
      rw [show ns.getD ((j : Int)).toNat 0 = ns[j] by simp [List.getD, List.getElem?_eq_getElem lt]] at q
      exact q
    · have c' : ¬ k < (ns.length : Int) := by simpa using c
      rw [if_neg c'] at q
      exact ⟨_, rfl, _, _, rfl, rfl, .inl ⟨by decide, by decide⟩, _, _, rfl, rfl, q⟩
theorem okD_u (T : Txt w K mg t) : FnOk true P w K mg base (CXo P w) 1 t.f_u t.d_u ["_law_cell_here", "_law_k"] (xl3) := by
  refine T.F_u.okn (k := 0) sc_u (fun vs H Q E h => ?_) (fun cdv A outer s H vs Q E hr h => ?_)
  · obtain ⟨c, k, rfl, _⟩ := h
    rfl
  · obtain ⟨c, k, rfl, h⟩ := h
    refine ⟨_, xm (x6 (i := 2) sc_u.nd rfl (Or.inl rfl) (xq xao (xq xas (pv 0) (xq xbh (xg) (pv 1))) (xg)))
      (xm (x6 (i := 2) sc_u.nd rfl (Or.inl rfl) (xq xao (xq xas (xq xbh (pv 2) (xg)) (pv 1)) (xg)))
      (xm (x6 (i := 2) sc_u.nd rfl (Or.inl rfl) (xq xao (xq xbh (pv 2) (xq xas (pv 2) (xg))) (xg)))
      (xn (xai (xq xao (xq xbh (pv 2) (xq xas (pv 2) (xg))) (xg)))))), ?_⟩
    refine ⟨_, rfl, _, rfl, _, _, rfl, rfl, .inl ⟨by decide, by decide⟩, _, _, rfl, rfl, _, _, rfl, rfl, (by show (0 : Int) < 2147483647; decide), ?_⟩
    refine ⟨_, rfl, _, _, rfl, rfl, .inr ⟨by decide, by decide⟩, _, rfl, _, _, rfl, rfl, _, _, rfl, rfl, (by show (0 : Int) < 2147483647; decide), ?_⟩
    refine ⟨_, rfl, _, rfl, _, _, rfl, rfl, _, _, rfl, rfl, .inl (xeh (by decide) (by decide)), _, _, rfl, rfl, (by show (0 : Int) < 2147483629; decide), ?_⟩
    refine ⟨_, rfl, _, rfl, _, _, rfl, rfl, _, _, rfl, rfl, .inl (xeh (by decide) (by decide)), _, _, rfl, rfl, (by show (0 : Int) < 2147483587; decide), ?_⟩
    exact h (xau _ (by decide)).1 (xau _ (by decide)).2
end
end S03
set_option maxRecDepth 100000
set_option maxHeartbeats 4000000
namespace S03
open PySem L2 XL PyProof.Rows
def xfm (K : PySem.W.Frag) : Sp := fun vs H Q _ => ∃ (a : Addr) (ns : List Int), vs = [.ref a] ∧ SqL K H a (ns.map V.int) ∧ ns.length ≤ 63 ∧ ∀ H', Q (.bl true) H'
section
variable {P : Program} {w : World} {K : PySem.W.Frag} {mg : Str → Option Value} {base : Heap} {t : Adr}
theorem xmj (T : Txt w K mg t) : FnOk true P w K mg base (CXo P w) 7 t.f_law t.d_law ["_law_script"] (xfm K) := by
  refine T.F_law.okn (k := 6) xb5 (fun vs H Q E h => ?_) (fun cdv A outer s H vs Q E hr h => ?_)
  · obtain ⟨sc, ns, rfl, _⟩ := h
    rfl
  · obtain ⟨sc, ns, rfl, h⟩ := h
    refine ⟨_, xm (x6 (i := 1) xb5.nd rfl (Or.inl rfl) (xab (xj)))
      (xm (xbt PassesOwn.never rfl (xc0 rfl T.n_range (xb (xg) (xj))) (xap (i := 2) xb5.nd rfl (Or.inl rfl)) (xm (x6 (i := 3) xb5.nd rfl (Or.inl rfl) (x5 (okD_u T) (hr.mono (by decide)) rfl T.g_u T.F_u.kp T.b_u .nil xu (xb (x5 (okD_af T) (hr.mono (by decide)) rfl T.g_af T.F_af.kp T.b_af .nil xu (xb (pv 0) (xb (xg) (xj)))) (xb (pv 2) (xj)))))
      (xm (xbp (xfo PySem.F.plainAttrs_list PySem.F.slot_list_append PySem.F.type_list_append xci (pv 1) (xb (xbg (xb (xq xas (xg) (xq xao (pv 3) (xg))) (xb (xq xas (xg) (xq xao (xq xbi (pv 3) (xg)) (xg))) (xj)))) (xj))))
      (xn (xbf (x8 (xat (xad (x5 (ok_y T) (hr.mono (by decide)) rfl T.g_y T.F_y.kp T.b_y .nil xu (xb (x5 (okD_u T) (hr.mono (by decide)) rfl T.g_u T.F_u.kp T.b_u .nil xu (xb (x5 (okD_af T) (hr.mono (by decide)) rfl T.g_af T.F_af.kp T.b_af .nil xu (xb (pv 0) (xb (xg) (xj)))) (xb (xq xas (xg) (pv 2)) (xj)))) (xj))))) (xn (xai (xby))) (xw)))))))
      (xm (x6 (i := 4) xb5.nd rfl (Or.inl rfl) (xab (xb (xab (xj)) (xb (xab (xj)) (xj)))))
      (xm (xbf (x8 (xaj xbq (xq xao (x5 (okD_u T) (hr.mono (by decide)) rfl T.g_u T.F_u.kp T.b_u .nil xu (xb (x5 (okD_af T) (hr.mono (by decide)) rfl T.g_af T.F_af.kp T.b_af .nil xu (xb (pv 0) (xb (xg) (xj)))) (xb (xg) (xj)))) (xg)) (xg) (xan _)) (xn (xbs (xbg (xb (xq xas (xg) (xq xao (xt xay (xt xv (pv 1) (xg) (fun _ _ => rfl)) (xg) (fun _ _ => rfl)) (xg))) (xb (xq xas (xg) (xq xao (xt xay (xt xv (pv 1) (xg) (fun _ _ => rfl)) (xg) (fun _ _ => rfl)) (xg))) (xj)))) (xb3 (pv 1) (xg) xbn))) (xw)))
      (xm (xdk rfl (xb2 (zs := ["_law_size"]) (ys := []) (fr := []) (N0 := ["_law_script", "_law_sizes", "_law_j", "_law_number", "_law_rows", "_law_pictures", "_law_k", "_law_at", "_law_args_here"]) (sc0 := xp xc6) (by decide +kernel) rfl rfl rfl) (xbj (pv 1)) (fun _ _ _ _ _ ow nd => xap (i := 0) nd rfl (Or.inl (ow _ (by simp))) (Or.inr (ow _ (by simp)))) (xca (by decide)) (fun _ _ _ _ _ => xdb) (fun _ _ _ _ _ => xgw T.k_r (ok_v T) (hr.mono (by decide)) rfl T.g_r T.b_v .nil xu (xb (xt (r := rIxT K) xay (pv 0) (xg) (fun _ _ => rfl)) (xb (xt (r := rIxT K) xay (pv 0) (xg) (fun _ _ => rfl)) (xj)))) (j := 5) rfl (Or.inl rfl))
      (xm (xbf (x8 (xaj xbq (xq xao (x5 (okD_u T) (hr.mono (by decide)) rfl T.g_u T.F_u.kp T.b_u .nil xu (xb (x5 (okD_af T) (hr.mono (by decide)) rfl T.g_af T.F_af.kp T.b_af .nil xu (xb (pv 0) (xb (xg) (xj)))) (xb (xg) (xj)))) (xg)) (xg) (xan _)) (xn (xbs (x5 (ok_ab T) (hr.mono (by decide)) rfl T.g_ab T.F_ab.kp T.b_ab .nil xu (xb (xt xv (pv 5) (xg) (fun _ _ => rfl)) (xb (x5 (okD_af T) (hr.mono (by decide)) rfl T.g_af T.F_af.kp T.b_af .nil xu (xb (pv 0) (xb (xg) (xj)))) (xj)))) (xb3 (pv 4) (xg) xbn))) (xw)))
      (xm (xbt PassesOwn.never rfl (xjd rfl T.n_range (xb (xg) (xb (xx (xis rfl) rfl T.n_min boot_min (xb (xx xb8 rfl T.n_len boot_len (xb (pv 0) (xj))) (xb (xg) (xj)))) (xj)))) (xap (i := 6) xb5.nd rfl (Or.inl rfl)) (xm (x6 (i := 3) xb5.nd rfl (Or.inl rfl) (x5 (okD_u T) (hr.mono (by decide)) rfl T.g_u T.F_u.kp T.b_u .nil xu (xb (xt xv (pv 0) (pv 6) (fun _ _ => rfl)) (xb (pv 6) (xj)))))
      (xm (x6 (i := 7) xb5.nd rfl (Or.inl rfl) (xq xao (pv 3) (xg)))
      (xm (x6 (i := 8) xb5.nd rfl (Or.inl rfl) (x5 (ok_am T) (hr.mono (by decide)) rfl T.g_am T.F_am.kp T.b_am .nil xu (xb (xt xv (pv 0) (pv 6) (fun _ _ => rfl)) (xb (pv 6) (xb (xt xv (pv 1) (pv 7) (fun _ _ => rfl)) (xj))))))
      (xm (xbf (x8 (xat (xad (x5 (ok_ag T) (hr.mono (by decide)) rfl T.g_ag T.F_ag.kp T.b_ag .nil xu (xb (xt xv (pv 5) (pv 7) (fun _ _ => rfl)) (xb (xt xv (pv 1) (pv 7) (fun _ _ => rfl)) (xb (xt xv (pv 4) (pv 7) (fun _ _ => rfl)) (xb (pv 8) (xb (xx (xir rfl) rfl T.n_max boot_max (xb (xg) (xb (xq xeu (xq xao (xq xbi (pv 3) (xg)) (xg)) (xg)) (xj)))) (xj))))))))) (xn (xai (xby))) (xw)))
      (xn (xbf (x8 (xat (xad (x5 (ok_ae T) (hr.mono (by decide)) rfl T.g_ae T.F_ae.kp T.b_ae .nil xu (xb (xt xv (pv 5) (pv 7) (fun _ _ => rfl)) (xb (xt xv (pv 1) (pv 7) (fun _ _ => rfl)) (xb (xt xv (pv 4) (pv 7) (fun _ _ => rfl)) (xj))))))) (xn (xai (xby))) (xw)))))))))
      (xn (xai (xbo (x5 (ok_ae T) (hr.mono (by decide)) rfl T.g_ae T.F_ae.kp T.b_ae .nil xu (xb (xt xv (pv 5) (xg) (fun _ _ => rfl)) (xb (xt xv (pv 1) (xg) (fun _ _ => rfl)) (xb (xt xv (pv 4) (xg) (fun _ _ => rfl)) (xj))))) (xcv (x5 (ok_ae T) (hr.mono (by decide)) rfl T.g_ae T.F_ae.kp T.b_ae .nil xu (xb (xt xv (pv 5) (xg) (fun _ _ => rfl)) (xb (xt xv (pv 1) (xg) (fun _ _ => rfl)) (xb (xt xv (pv 4) (xg) (fun _ _ => rfl)) (xj))))))))))))))), ?_⟩
    obtain ⟨hs, nl, q⟩ := h
    refine ⟨(by show 0 ≤ sizeLine; exact Nat.zero_le _), fun szl hszl => ?_⟩
    have s1 : Same H (upd H szl (.lst [])) := xo (Same.refl _) hszl
    have g1 : upd H szl (.lst []) szl = some (.lst []) := xf
    revert s1 g1
    generalize upd H szl (.lst []) = H1
    intro s1 g1
    refine ⟨2, rfl, by decide, by decide, ?_⟩
    refine xc4 (n := 2) (Pv := fun i σ H' => ∃ (v2 v3 : Option V), σ = [some (.ref sc), some (.ref szl), v2, v3, none, none, none, none, none] ∧ Same H H' ∧ Fz H' szl i) ⟨_, _, rfl, s1, g1⟩ ?_ ?_
    · rintro i σ H2 hi ⟨v2, v3, rfl, s2, fz⟩
      refine ⟨_, rfl, sc, ns, 0, rfl, s2.seq hs, by decide, by decide, _, rfl, _, _, rfl, fun m0 m1 => ?_⟩
      generalize mixF (xft ns 0) (0 + (i : Int)) = m at m0 m1 ⊢
      obtain ⟨vs0, hvs0⟩ : ∃ vs0, H2 szl = some (.lst vs0) := by
        have : i = 0 ∨ i = 1 := by omega
        rcases this with rfl | rfl
        · exact ⟨_, fz⟩
        · obtain ⟨_, _, _, e, _⟩ := fz
          exact ⟨_, e⟩
      refine ⟨_, rfl, .inl ⟨rfl, _, SqL.of hvs0⟩, _, rfl, _, _, rfl, rfl, (by show (0 : Int) < 30; decide), _, _, rfl, rfl, _, rfl, _, _, rfl, rfl, ⟨by decide, by decide⟩, _, _, rfl, rfl, (by show (0 : Int) < 16; decide), _, _, rfl, rfl, (by show 2 ≤ sizeLine; decide), fun sz hsz => ?_⟩
      dsimp only
      have s3 : Same H2 (upd H2 sz (.tup [.int (1 + m % 30), .int (1 + m / 30 % 16)])) := xo (Same.refl _) hsz
      have g3 : upd H2 sz (.tup [.int (1 + m % 30), .int (1 + m / 30 % 16)]) sz = some (.tup [.int (1 + m % 30), .int (1 + m / 30 % 16)]) := xf
      revert s3 g3
      generalize upd H2 sz (.tup [.int (1 + m % 30), .int (1 + m / 30 % 16)]) = H3
      intro s3 g3
      have b1 := xau m (show (0 : Int) < 30 by decide)
      have b2 := xau (m / 30) (show (0 : Int) < 16 by decide)
      obtain ⟨vs, hvs, lvs, fz'⟩ := (fz.same s3).push hi ⟨g3, by omega, by omega, by omega, by omega⟩
      refine ⟨szl, vs, _, rfl, rfl, hvs, Nat.lt_trans lvs (by decide), ?_⟩
      have s4 : Same H (upd H3 szl (.lst (vs ++ [.ref sz]))) := fun b u e => by
        rw [xh (xk e hszl)]
        exact s3 _ _ (s2 _ _ e)
      generalize upd H3 szl (.lst (vs ++ [.ref sz])) = H4 at fz' s4 ⊢
      refine ⟨fun σ H' => ∃ (v2 v3 : Option V), σ = [some (.ref sc), some (.ref szl), v2, v3, none, none, none, none, none] ∧ Same H H' ∧ Fz H' szl (i + 1), ?_, fun σ H' z => z⟩
      refine ⟨_, rfl, sc, ns, 0, rfl, s4.seq hs, by decide, by decide, _, rfl, _, _, rfl, rfl, _, _, rfl, fun m2 m3 => ⟨_, rfl, fun H5 s5 => ⟨true, rfl, iteF ⟨_, _, rfl, s4.trans s5, fz'.same s5⟩⟩⟩⟩
    rintro σ H2 ⟨v2, v3, rfl, s2, z0, z1, w0, h0, w1, h1, e2, x0, x1⟩
    refine ⟨(by show 0 ≤ sizeLine; exact Nat.zero_le _), fun m0 hm0 => ?_⟩
    have s3 : Same H2 (upd H2 m0 (.lst [])) := xo (Same.refl _) hm0
    have g3 : upd H2 m0 (.lst []) m0 = some (.lst []) := xf
    revert s3 g3
    generalize upd H2 m0 (.lst []) = H3
    intro s3 g3
    refine ⟨(by show 0 ≤ sizeLine; exact Nat.zero_le _), fun m1 hm1 => ?_⟩
    have s4 : Same H3 (upd H3 m1 (.lst [])) := xo (Same.refl _) hm1
    have g4 : upd H3 m1 (.lst []) m1 = some (.lst []) := xf
    revert s4 g4
    generalize upd H3 m1 (.lst []) = H4
    intro s4 g4
    refine ⟨(by show 2 ≤ sizeLine; decide), fun rwl hrwl => ?_⟩
    have s5 : Same H4 (upd H4 rwl (.lst [.ref m0, .ref m1])) := xo (Same.refl _) hrwl
    have g5 : upd H4 rwl (.lst [.ref m0, .ref m1]) rwl = some (.lst [.ref m0, .ref m1]) := xf
    revert s5 g5
    generalize upd H4 rwl (.lst [.ref m0, .ref m1]) = H5
    intro s5 g5
    have s25 := s3.trans (s4.trans s5)
    have s05 := s2.trans s25
    have e5 := s25 _ _ e2
    have g35 := s5 _ _ (s4 _ _ g3)
    have g45 := s5 _ _ g4
    obtain ⟨mm, emm⟩ : ∃ mm, mm = mixF (xft ns 0) 2 := ⟨_, rfl⟩
    refine ⟨fun σ H' => ∃ (z1 : Addr) (w1 h1 : Int), σ = [some (.ref sc), some (.ref szl), v2, v3, some (.ref rwl), none, none, none, none] ∧ Same H H' ∧ H' szl = some (.lst [.ref z0, .ref z1]) ∧ Sz H' z0 w0 h0 ∧ Sz H' z1 w1 h1 ∧ (mm % 2 = 1 → 12 ≤ w1 ∧ 12 ≤ h1) ∧ H' m0 = some (.lst []) ∧ H' m1 = some (.lst []) ∧ H' rwl = some (.lst [.ref m0, .ref m1]), ?_, ?_⟩
    · refine ⟨_, rfl, sc, ns, 0, rfl, s05.seq hs, by decide, by decide, _, _, rfl, fun mm0 mm1 => ⟨_, _, rfl, rfl, (by show (0 : Int) < 2; decide), rfl, _, rfl, ?_⟩⟩
      rw [← emm]
      refine ite2 (fun c => ?_) (fun c => ?_)
      · refine ⟨_, rfl, szl, _, 1, _, rfl, rfl, SqL.of e5, rfl, z1, _, 0, _, rfl, rfl, SqT.of (s25 _ _ x1.1), rfl, _, _, rfl, rfl, (by show (0 : Int) < 19; decide), _, _, rfl, rfl, _, rfl, szl, _, 1, _, rfl, rfl, SqL.of e5, rfl, z1, _, 1, _, rfl, rfl, SqT.of (s25 _ _ x1.1), rfl, _, _, rfl, rfl, (by show (0 : Int) < 5; decide), _, _, rfl, rfl, (by show 2 ≤ sizeLine; decide), fun zn hzn => ?_⟩
        dsimp only
        have s6 : Same H5 (upd H5 zn (.tup [.int (12 + w1 % 19), .int (12 + h1 % 5)])) := xo (Same.refl _) hzn
        have g6 : upd H5 zn (.tup [.int (12 + w1 % 19), .int (12 + h1 % 5)]) zn = some (.tup [.int (12 + w1 % 19), .int (12 + h1 % 5)]) := xf
        revert s6 g6
        generalize upd H5 zn (.tup [.int (12 + w1 % 19), .int (12 + h1 % 5)]) = H6
        intro s6 g6
        refine ⟨_, rfl, szl, _, 1, 1, rfl, rfl, s6 _ _ e5, rfl, ?_⟩
        have e6 := s6 _ _ e5
        have nr : ∀ b u, H5 b = some u → b ≠ szl → upd H6 szl (.lst ([V.ref z0, .ref z1].set 1 (.ref zn))) b = some u := fun b u e n => by
          rw [xh n]
          exact s6 _ _ e
        have tt : Tups H6 (upd H6 szl (.lst ([V.ref z0, .ref z1].set 1 (.ref zn)))) := fun b xs e => by
          rw [xh (xak e e6 (fun z => nomatch z))]
          exact e
        have n3 : m0 ≠ szl := Ne.symm (xk e2 hm0)
        have n4 : m1 ≠ szl := Ne.symm (xk (s3 _ _ e2) hm1)
        have n5 : rwl ≠ szl := Ne.symm (xk (s4 _ _ (s3 _ _ e2)) hrwl)
        have bb1 := xau w1 (show (0 : Int) < 19 by decide)
        have bb2 := xau h1 (show (0 : Int) < 5 by decide)
        refine ⟨zn, _, _, rfl, fun b u e => nr _ _ (s05 _ _ e) (xk e hszl), xf, (x0.same (Same.tups (s25.trans s6))).same tt, ⟨tt _ _ g6, by omega, by omega, by omega, by omega⟩, fun _ => ⟨by omega, by omega⟩, nr _ _ g35 n3, nr _ _ g45 n4, nr _ _ g5 n5⟩
      · refine ⟨z1, w1, h1, rfl, s05, e5, x0.same (Same.tups s25), x1.same (Same.tups s25), fun z => absurd (by simpa using z) c, g35, g45, g5⟩
    have fm0 : H m0 = none := s2.free hm0
    have fm1 : H m1 = none := (s2.trans s3).free hm1
    have frw : H rwl = none := (s2.trans (s3.trans s4)).free hrwl
    have nz0 : szl ≠ m0 := xk e2 hm0
    have nz1 : szl ≠ m1 := xk (s3 _ _ e2) hm1
    have nsr : szl ≠ rwl := xk (s4 _ _ (s3 _ _ e2)) hrwl
    have nm01 : m0 ≠ m1 := xk g3 hm1
    have nrm0 : rwl ≠ m0 := Ne.symm (xk (s4 _ _ g3) hrwl)
    have nrm1 : rwl ≠ m1 := Ne.symm (xk g4 hrwl)
    clear s1 g1 s2 e2 x0 x1 s3 g3 s4 g4 s5 g5 s25 s05 e5 g35 g45
    rintro σ H5 ⟨z1, w1, h1, rfl, s5, e5, x0, x1, big, g3, g4, g5⟩
    refine ⟨_, rfl, szl, rfl, ⟨_, SqL.of e5⟩, fun pl hpl => ?_⟩
    refine xh1 (SqL.of e5) (by show 2 < sizeLine; decide) hpl (Fp3 t H5 w0 h0 w1 h1) (fun H _ => rfl) (fun i ys H H' np z => z.np np) (fun i x ys H6 hx s6 z N hN => ?_) (fun ys H7 s7 e7 ly f7 => ?_)
    · have hz : ∃ (zz : Addr) (w' h' : Int), x = .ref zz ∧ Sz H6 zz w' h' ∧ (i = 0 → w' = w0 ∧ h' = h0) ∧ (i = 1 → w' = w1 ∧ h' = h1) ∧ i < 2 := by
        match i, hx with
        | 0, hx => cases hx; exact ⟨z0, w0, h0, rfl, x0.same (Same.tups s6), fun _ => ⟨rfl, rfl⟩, (fun e => nomatch e), by decide⟩
        | 1, hx => cases hx; exact ⟨z1, w1, h1, rfl, x1.same (Same.tups s6), (fun e => nomatch e), fun _ => ⟨rfl, rfl⟩, by decide⟩
        | k + 2, hx => simp at hx
      obtain ⟨zz, w', h', rfl, sz, hA, hB, i2⟩ := hz
      refine ⟨_, rfl, zz, _, 0, _, rfl, rfl, SqT.of sz.1, rfl, _, rfl, zz, _, 1, _, rfl, rfl, SqT.of sz.1, rfl, fun a dx hx hdx ne => ?_⟩
      obtain ⟨hz0, b1, b2, b3, b4⟩ := sz
      refine ⟨a, dx, w', h', rfl, xf, b1, b2, b3, b4, fun H8 dp do_ hdp8 hdo8 s8 pic8 hdt => ⟨rfl, ?_⟩⟩
      have k8 : Same H6 H8 := fun b u e => s8 b u (xk e hx) (by rw [xh (xk e hx), xh (xk e hdx)]; exact e)
      have fdp : H6 dp = none := by
        cases e : H6 dp with
        | none => rfl
        | some u => rw [xh (xk e hx), xh (xk e hdx), e] at hdp8; cases hdp8
      refine hN _ H8 k8 ?_
      have : i = 0 ∨ i = 1 := by omega
      rcases this with rfl | rfl
      · have z' : ys = [] := z
        subst z'
        obtain ⟨rfl, rfl⟩ := hA rfl
        exact ⟨a, dp, do_, rfl, pic8, hdt, s6.free fdp⟩
      · obtain ⟨a0, p0, o0, rfl, pc0, eo0, fo0⟩ := z
        obtain ⟨rfl, rfl⟩ := hB rfl
        obtain ⟨k0, hk0, _⟩ := id pc0.pl
        exact ⟨a0, p0, o0, a, dp, do_, rfl, Pic.same k8 pc0, k8 _ _ eo0, fo0, pic8, hdt, s6.free fdp, xk hk0 fdp⟩
    obtain ⟨a0, p0, o0, a1, p1, o1, rfl, pc0, eo0, fp0, pc1, eo1, fp1, np⟩ := f7
    have pok0 : ∀ w h : Int, xfn w h [] := fun w h => ⟨(fun p hp => nomatch hp), List.nodup_nil, List.nodup_nil, List.nodup_nil, Nat.zero_le _⟩
    have g37 := s7 _ _ g3
    have g47 := s7 _ _ g4
    have g57 := s7 _ _ g5
    have e57 := s7 _ _ e5
    have s07 := s5.trans s7
    have nq0 : pl ≠ m0 := Ne.symm (xk g3 hpl)
    have nq1 : pl ≠ m1 := Ne.symm (xk g4 hpl)
    obtain ⟨kv0, hk0, _⟩ := id pc0.pl
    obtain ⟨kv1, hk1, _⟩ := id pc1.pl
    refine ⟨fun σ H' => σ = [some (.ref sc), some (.ref szl), v2, v3, some (.ref rwl), some (.ref pl), none, none, none] ∧ ∃ (A : Bool → A3) (ps : Bool → List Pt), xce t H H' szl rwl pl A ps ∧ Far3 H szl rwl pl A, ?_, ?_⟩
    · refine ⟨_, rfl, sc, ns, 0, rfl, s07.seq hs, by decide, by decide, _, _, rfl, fun mm0 mm1 => ⟨_, _, rfl, rfl, (by show (0 : Int) < 2; decide), rfl, _, rfl, ?_⟩⟩
      rw [← emm]
      have r0 : R3 t H7 a0 p0 o0 m0 z0 w0 h0 [] := ⟨pc0, eo0, pok0 _ _, s7 _ _ x0.1, [], g37, .nil⟩
      refine ite2 (fun c => ?_) (fun c => ?_)
      · obtain ⟨bw, bh⟩ := big (by simpa using c)
        refine ⟨_, rfl, pl, _, 1, _, rfl, rfl, SqL.of e7, rfl, _, rfl, sc, ns, 0, rfl, s07.seq hs, by decide, by decide, a1, p1, o1, _, w1, h1, rfl, pc1, bw, bh, fun H8 l ps qs k8 hl8 pc8 pok8 el8 pt8 => ?_⟩
        have g58 := k8 _ _ (xak g57 hk1 (fun z => nomatch z)) g57
        have nrl : rwl ≠ l := xk g57 hl8
        refine ⟨_, rfl, rwl, _, 1, 1, rfl, rfl, g58, rfl, rfl, ?_⟩
        have gx : upd H8 rwl (.lst ([V.ref m0, .ref m1].set 1 (.ref l))) rwl = some (.lst [.ref m0, .ref l]) := xf
        have kx : ∀ b u, b ≠ rwl → H8 b = some u → upd H8 rwl (.lst ([V.ref m0, .ref m1].set 1 (.ref l))) b = some u := fun b u n e => by
          rw [xh n]
          exact e
        generalize upd H8 rwl (.lst ([V.ref m0, .ref m1].set 1 (.ref l))) = H9 at gx kx
        have r1 : R3 t H8 a1 p1 o1 l z1 w1 h1 ps := ⟨pc8, k8 _ _ (xak eo1 hk1 (fun z => nomatch z)) eo1, pok8, k8 _ _ (xak (s7 _ _ x1.1) hk1 (fun z => nomatch z)) (s7 _ _ x1.1), qs, el8, pt8⟩
        have hk08 := k8 _ _ np hk0
        refine ⟨fun b => cond b ⟨a1, p1, o1, l, z1, w1, h1⟩ ⟨a0, p0, o0, m0, z0, w0, h0⟩, fun b => cond b ps [], ⟨fun b => ?_, fun b u e => ?_, ?_, gx, ?_⟩, ⟨fun b => ?_, fun b => ?_, fun b => ?_, fun b => ?_, fun b => ?_⟩⟩
        · cases b
          · exact r0.keep (fun b u n1 n2 e => kx _ _ n2 (k8 _ _ n1 e)) hk1 g57 np (Ne.symm nrm0)
          · exact r1.keep (d := p0) (fun b u n1 n2 e => kx _ _ n2 e) hk08 g58 (Ne.symm np) (Ne.symm nrl)
        · exact kx _ _ (xk e frw) (k8 _ _ (xk (s5 _ _ e) fp1) (s07 _ _ e))
        · exact kx _ _ nsr (k8 _ _ (xak e57 hk1 (fun z => nomatch z)) e57)
        · exact kx _ _ (Ne.symm (xk g5 hpl)) (k8 _ _ (xak e7 hk1 (fun z => nomatch z)) e7)
        · cases b
          · exact np
          · exact Ne.symm np
        · have nml : m0 ≠ l := xk g37 hl8
          cases b
          · exact nml
          · exact Ne.symm nml
        · cases b
          · exact s5.free fp0
          · exact s5.free fp1
        · cases b
          · exact fm0
          · exact s07.free hl8
        · cases b
          · exact ⟨nz0, nrm0, nq0⟩
          · exact ⟨xk e57 hl8, nrl, xk e7 hl8⟩
      · have r1 : R3 t H7 a1 p1 o1 m1 z1 w1 h1 [] := ⟨pc1, eo1, pok0 _ _, s7 _ _ x1.1, [], g47, .nil⟩
        refine ⟨rfl, fun b => cond b ⟨a1, p1, o1, m1, z1, w1, h1⟩ ⟨a0, p0, o0, m0, z0, w0, h0⟩, fun b => [], ⟨fun b => ?_, s07, e57, g57, e7⟩, ⟨fun b => ?_, fun b => ?_, fun b => ?_, fun b => ?_, fun b => ?_⟩⟩
        · cases b
          · exact r0
          · exact r1
        · cases b
          · exact np
          · exact Ne.symm np
        · cases b
          · exact nm01
          · exact Ne.symm nm01
        · cases b
          · exact s5.free fp0
          · exact s5.free fp1
        · cases b
          · exact fm0
          · exact fm1
        · cases b
          · exact ⟨nz0, nrm0, nq0⟩
          · exact ⟨nz1, nrm1, nq1⟩
    rintro σ H8 ⟨rfl, A, ps0, B0, far⟩
    refine ⟨_, rfl, sc, _, rfl, .inl (B0.same.seq hs), _, _, rfl, 1, _, rfl, ?_, ?_⟩
    · refine ⟨by decide, by decide, ?_, ?_⟩ <;> (repeat' split) <;> simp only [List.length_map] at * <;> omega
    refine xc4 (Pv := fun i σ H' => ∃ (v3 v6 v7 v8 : Option V) (ps : Bool → List Pt), σ = [some (.ref sc), some (.ref szl), v2, v3, some (.ref rwl), some (.ref pl), v6, v7, v8] ∧ xce t H H' szl rwl pl A ps) ⟨_, _, _, _, ps0, rfl, B0⟩ ?_ ?_
    · rintro i σ H1 hi ⟨v3, v6, v7, v8, ps, rfl, B⟩
      have kl : 1 + i < ns.length := by
        revert hi
        (repeat' split) <;> simp only [List.length_map] at * <;> omega
      have hsc := B.same.seq hs
      have cell : atI (ns.map V.int) (1 + (i : Int)) = some (.int ns[1 + i]) := by
        rw [show 1 + (i : Int) = ((1 + i : Nat) : Int) by omega]
        exact xdz (by rw [List.getElem?_map, List.getElem?_eq_getElem kl]; rfl)
      refine ⟨_, rfl, _, rfl, sc, _, _, _, rfl, rfl, hsc, cell, _, rfl, _, _, rfl, fun n0 n1 => ?_⟩
      generalize mixF ns[1 + i] (1 + (i : Int)) = n at n0 n1 ⊢
      refine ⟨_, rfl, _, _, rfl, rfl, (by show (0 : Int) < 2; decide), ?_⟩
      obtain ⟨b, eb⟩ := xlt n
      refine ⟨_, rfl, _, rfl, sc, _, _, _, rfl, rfl, hsc, cell, _, rfl, _, rfl, _, rfl, szl, _, _, .ref (A b).sz, rfl, rfl, SqL.of B.szl, eb fun b => V.ref (A b).sz, _, _, (A b).w, (A b).h, (A b).sz, rfl, (B.half b).hs, (B.half b).pic.w1, (B.half b).pic.h1, fun H4 ar xs s4 har a6 => ?_⟩
      have B4 := B.keep s4
      refine ⟨fun σ H' => ∃ (v8 : Option V) (ps : Bool → List Pt), σ = [some (.ref sc), some (.ref szl), v2, some (.int n), some (.ref rwl), some (.ref pl), some (.int (1 + (i : Int))), some (.int (n % 2)), v8] ∧ xce t H H' szl rwl pl A ps, ?_, ?_⟩
      · refine ⟨_, rfl, _, rfl, pl, _, _, .ref (A b).a, rfl, rfl, SqL.of B4.pl, eb fun b => V.ref (A b).a, _, rfl, _, rfl, szl, _, _, .ref (A b).sz, rfl, rfl, SqL.of B4.szl, eb fun b => V.ref (A b).sz, _, rfl, _, rfl, rwl, _, _, .ref (A b).rl, rfl, rfl, SqL.of B4.rwl, eb fun b => V.ref (A b).rl, _, rfl, _, rfl, _, _, rfl, rfl, ⟨by decide, by decide⟩, _, _, rfl, rfl, (by show (0 : Int) < 7; decide), _, _, rfl, rfl, _, _, rfl, ?_⟩
        have mb := xau (n / 2) (show (0 : Int) < 7 by decide)
        refine ⟨(A b).a, (A b).dp, (A b).do_, (A b).sz, (A b).rl, ar, (A b).w, (A b).h, _, ps b, xs, rfl, B4.half b, a6, ?_, ?_, fun H5 qs k5 r5 => ⟨true, rfl, iteF ?_⟩⟩
        · split <;> omega
        · split <;> omega
        obtain ⟨ps', B5⟩ := B4.put far b k5 r5
        exact ⟨_, ps', rfl, B5⟩
      rintro σ H5 ⟨v8, ps5, rfl, B5⟩
      refine ⟨fun σ H' => ∃ (v3 v6 v7 v8 : Option V) (ps : Bool → List Pt), σ = [some (.ref sc), some (.ref szl), v2, v3, some (.ref rwl), some (.ref pl), v6, v7, v8] ∧ xce t H H' szl rwl pl A ps, ?_, fun σ H' z => z⟩
      refine ⟨_, rfl, _, rfl, pl, _, _, .ref (A b).a, rfl, rfl, SqL.of B5.pl, eb fun b => V.ref (A b).a, _, rfl, _, rfl, szl, _, _, .ref (A b).sz, rfl, rfl, SqL.of B5.szl, eb fun b => V.ref (A b).sz, _, rfl, _, rfl, rwl, _, _, .ref (A b).rl, rfl, rfl, SqL.of B5.rwl, eb fun b => V.ref (A b).rl, ?_⟩
      exact ⟨(A b).a, (A b).dp, (A b).do_, (A b).rl, (A b).sz, (A b).w, (A b).h, ps5 b, rfl, B5.half b, fun H6 s6 => ⟨true, rfl, iteF ⟨_, _, _, _, ps5, rfl, B5.keep s6⟩⟩⟩
    · rintro σ H1 ⟨v3, v6, v7, v8, ps, rfl, B⟩
      refine ⟨_, rfl, pl, _, 0, _, rfl, rfl, SqL.of B.pl, rfl, _, rfl, szl, _, 0, _, rfl, rfl, SqL.of B.szl, rfl, _, rfl, rwl, _, 0, _, rfl, rfl, SqL.of B.rwl, rfl, (A false).a, (A false).dp, (A false).do_, (A false).rl, (A false).sz, (A false).w, (A false).h, ps false, rfl, B.half false, fun H6 s6 => ?_⟩
      have B6 := B.keep s6
      refine ⟨true, rfl, iteT ?_⟩
      exact ⟨_, rfl, pl, _, 1, _, rfl, rfl, SqL.of B6.pl, rfl, _, rfl, szl, _, 1, _, rfl, rfl, SqL.of B6.szl, rfl, _, rfl, rwl, _, 1, _, rfl, rfl, SqL.of B6.rwl, rfl, (A true).a, (A true).dp, (A true).do_, (A true).rl, (A true).sz, (A true).w, (A true).h, ps true, rfl, B6.half true, fun H7 s7 => q _⟩
end
end S03
namespace PySem.W.Fast
def tw5071982211699023478:=0
def tw14171933444061496208:=0
def tw16459276150152426721:=0
def tw19372107797455493:=0
def tw15412455679327676090:=0
def tw2044814766923536263:=0
def tw4851060622251853663:=0
def tw2118546152904745962:=0
def tw14269920715963517206:=0
def tw17989611804197630249:=0
def tw7529022379052744927:=0
def tw6529038777118335879:=0
def tw8241005191895274857:=0
def tw2525928965149471467:=0
def tw13019356785248085236:=0
def tw5525886083129643928:=0
def tw14430171685338905618:=0
def tw7362767066008861126:=0
def tw10417578135665353105:=0
def tw16041330101678883390:=0
def tw12337679439273975012:=0
def tw16909584698667072458:=0
def tw16141580184159877649:=0
def tw12395438562993012176:=0
def tw8210173319398994441:=0
def tw17005665669055525252:=0
def tw13729913223364608128:=0
def tw5003390259099645303:=0
def tw4563566788991982783:=0
def tw2562991805670295494:=0
def tw1237149396899913226:=0
def tw16933862594542249571:=0
def tw2644643841132457292:=0
def tw377582155660621374:=0
def tw15374629427244484892:=0
def tw6956362405214009245:=0
def tw1097239036042985584:=0
def tw1524142648626797492:=0
def tw11807773518096539067:=0
def tw12666332963804906554:=0
def tw81589546537519949:=0
def tw12708208548191885465:=0
def tw15953901772789349829:=0
def tw1505761243402224559:=0
def tw12379259285428795471:=0
def tw688762423436023518:=0
def tw9852154968680202834:=0
def tw14664561837119883110:=0
def tw10361193317869905775:=0
def tw983501432765564182:=0
def tw1130716400622777695:=0
def tw11973564022501599829:=0
def tw10724746236568180574:=0
def tw8622041931188221188:=0
def tw5080558317435155589:=0
def tw968801524050029214:=0
def tw3577583921362291262:=0
def tw1228456693684902906:=0
def tw10959884275774023090:=0
def tw16608874016254597681:=0
def tw17228566991005203481:=0
def tw9512062238674211536:=0
def tw4513118417989128588:=0
def tw16488388179166440342:=0
def tw8654850732795663712:=0
def tw12790525600562067877:=0
def tw3411268748206244923:=0
def tw1428905356462241266:=0
def tw15777902501743091097:=0
def tw16690580702931680682:=0
def tw10073058035885409498:=0
def tw16129860286377480223:=0
def tw16543036782013227897:=0
def tw7189529447519351351:=0
def tw4589522904731197271:=0
def tw527326756713607180:=0
def tw12603195956133205007:=0
def tw7936750925660511652:=0
def tw13800140669323077770:=0
def tw10644621706230385007:=0
def tw7206716731678746972:=0
def tw3140282790653284837:=0
def tw13272394336971766982:=0
def tw10468530859119228443:=0
def tw15063365956332736111:=0
def tw7300214524980661480:=0
def tw12003458912464585790:=0
def tw3728792671084911720:=0
def tw9798692512846113981:=0
def tw6315256861083741692:=0
def tw13841250794611762535:=0
def tw1996793874686926404:=0
def tw8758767039321821866:=0
def tw18273590809785957379:=0
def tw16417272342109424816:=0
def tw14273432511732932833:=0
def tw8216188043167402189:=0
def tw8102694919905467446:=0
def tw3461882318609838822:=0
def tw3812419368963211532:=0
def tw15574889058930835822:=0
def tw873745455317955001:=0
def tw3422031826843642097:=0
def tw9977792698608767332:=0
def tw1443981267740340452:=0
def tw5677897631639466722:=0
def tw7050530520056999000:=0
def tw14790042930957029231:=0
def tw15479297380423453707:=0
def tw12416832143848031261:=0
def tw4839928221610746385:=0
def tw2901414113261860187:=0
def tw14800617084359783531:=0
def tw7215730868277747936:=0
def tw7696866950565898866:=0
def tw2905029139328425032:=0
def tw17276612737890647336:=0
def tw10075321103764123998:=0
def tw7149403354928614107:=0
def tw7822825552851157956:=0
def tw2156133643154941313:=0
def tw220295922123038498:=0
def tw7031893376329439513:=0
def tw2556852451748388304:=0
def tw5616116776872695397:=0
def tw16818826403755189598:=0
def tw16274544896093170241:=0
def tw6288729895697389334:=0
def tw13407352887333966329:=0
def tw15486578001157906283:=0
def tw2655814335567498178:=0
def tw17674710494118388020:=0
def tw18233395687752395718:=0
def tw14636890574655785487:=0
def tw11852427520715022050:=0
def tw2718804924947955984:=0
def tw12971423543540103799:=0
def tw3751413696957062412:=0
def tw8717394042460037578:=0
def tw1830069222799806468:=0
def tw8544036427625350595:=0
def tw10906019967786413025:=0
def tw2530019414147854732:=0
def tw1239629702111808433:=0
def tw12099128351108150186:=0
def tw15972668119097534776:=0
def tw15055679313599781873:=0
def tw13431647726882483999:=0
def tw9443616508051538550:=0
def tw16041296883420488340:=0
def tw11142492307244841579:=0
def tw7202461177781996820:=0
def tw15458692719408636804:=0
def tw5221456538553655108:=0
def tw16716688231044129431:=0
def tw13618582688928316687:=0
def tw14458136058995413682:=0
def tw10778492532951041593:=0
def tw1650306406499502857:=0
def tw3287997058012422575:=0
def tw4468666454701863192:=0
def tw15082817146381061986:=0
def tw12069328915043420957:=0
def tw14701297077724474403:=0
def tw7849693585072252273:=0
def tw6918582866988039801:=0
def tw956164140369129996:=0
def tw16035353492370573865:=0
def tw6685023725333972074:=0
def tw2860959529230457858:=0
def tw17177763489054416622:=0
def tw15052875734559561745:=0
def tw2796104392355452037:=0
def tw4989789654444261875:=0
def tw14544072487127199584:=0
def tw231942745860977800:=0
def tw8386611790220644173:=0
def tw636081323633067791:=0
def tw11907754437223782241:=0
def tw10055517220931841858:=0
def tw6986830692011645542:=0
def tw11376106273343899872:=0
def tw3631823548687127085:=0
def tw6038986625383476148:=0
def tw1589297207701743865:=0
def tw12613567521127047552:=0
def tw16623940827727554964:=0
def tw374175640698191933:=0
def tw7917899449689635593:=0
def tw11415403680171727060:=0
def tw14783802030853050061:=0
def tw18226238265953009160:=0
def tw8696709527725934349:=0
def tw14947608177170121024:=0
def tw7361180553706282911:=0
def tw16366389221553405007:=0
def tw2194048227622032239:=0
def tw9379767460478760428:=0
def tw12173090759475886386:=0
def tw16825687288718173763:=0
def tw7683317171597313275:=0
def tw3460985934874610324:=0
def tw15027191013835235088:=0
def tw13103071622860344442:=0
def tw1625730827848179028:=0
def tw5777493419146288497:=0
def tw18263775089542099619:=0
def tw17578923756281774309:=0
def tw869519948157174087:=0
def tw9856369704364605070:=0
def tw11691550594228880595:=0
def tw15510146781474489754:=0
def tw9443439803920794863:=0
def tw580121499506941041:=0
def tw4806031511059979249:=0
def tw1579966994583652630:=0
def tw4280070822267574487:=0
def tw7019579288223973734:=0
def tw12965024942638408036:=0
def tw12830562824133931784:=0
def tw1306505384359898280:=0
def tw15892317118471230175:=0
def tw12805621753075802646:=0
def tw2281903305394618984:=0
def tw11853460283896178009:=0
def tw2267663404167078868:=0
def tw5478570989992689347:=0
def tw4056204396741798863:=0
def tw7034957286639717896:=0
def tw17783011977928411210:=0
def tw13107224488736005949:=0
def tw9881940942494137590:=0
def tw4682524344838337798:=0
def tw15907799966101808001:=0
def tw15318760382571945631:=0
def tw10851721413248469545:=0
def tw18376310802718322285:=0
def tw1981757063909839873:=0
def tw534750580953951563:=0
def tw1034847079203920794:=0
def tw7733780737683535695:=0
def tw3719318725609881770:=0
def tw11969205029596232686:=0
def tw8984866589981988587:=0
def tw12129564396117025057:=0
def tw6626637620870918799:=0
def tw10935863844745408728:=0
def tw2488460344945744642:=0
def tw164818312827538393:=0
def tw475054764226623862:=0
def tw8294470798765801465:=0
def tw15720591130168173136:=0
def tw18327015673418338095:=0
def tw6129320226300015016:=0
def tw621615921295911212:=0
def tw16298905283143489517:=0
def tw18016642552662242814:=0
def tw6504634872906245829:=0
def tw616198992851846489:=0
def tw13383406592793473626:=0
def tw11543021245033005889:=0
def tw5444573906790481257:=0
def tw9872192815685252219:=0
def tw3145168675977039698:=0
def tw14713104939029213440:=0
def tw12722137221057877305:=0
def tw8250480114850651912:=0
def tw12708047038196684154:=0
def tw4961395839994815955:=0
def tw9617972626840234041:=0
def tw2407610083223027419:=0
def tw17287798665927399521:=0
def tw7677399795467276918:=0
def tw12197859072085028203:=0
def tw15891144497698593371:=0
def tw3854818798435012115:=0
def tw7539292127013942423:=0
def tw16108091525909806288:=0
def tw14279614605285555570:=0
def tw11931732409387534525:=0
def tw9306874377370280636:=0
def tw17452615982848561734:=0
def tw243750896172295454:=0
def tw10393281805579711589:=0
def tw575202171952447111:=0
def tw17338335197387292544:=0
def tw18016723595954645778:=0
def tw13256221703633517557:=0
def tw4694647541650209405:=0
def tw5888686127688160236:=0
def tw221550069106472971:=0
def tw8286102672752344154:=0
def tw4822796937357962406:=0
def tw3091399789856175019:=0
def tw102396991194472835:=0
def tw7125905976677340052:=0
def tw7312686213532078665:=0
def tw4735558894141578547:=0
def tw15652055919716549891:=0
def tw18011089876084589670:=0
def tw6496526211986341274:=0
def tw2624832900815526425:=0
def tw13217361363900919702:=0
def tw17186441138132668020:=0
def tw13153750928980506400:=0
def tw3203902292909816822:=0
def tw11315476994370376339:=0
def tw14642153681533196762:=0
def tw14525046835448467497:=0
def tw16255477215956479349:=0
def tw14718451213410631491:=0
def tw1242428002707081960:=0
def tw9368093168362439588:=0
def tw1140051626470724164:=0
def tw417419418228749990:=0
def tw2639901450626442986:=0
def tw10235790298021101406:=0
def tw16696789339443799882:=0
def tw3835731579886268356:=0
def tw16217548296703029705:=0
def tw18368752434374243587:=0
def tw9841633518630047564:=0
def tw10077243383355137697:=0
def tw16503131549102512689:=0
def tw18021540696170080513:=0
def tw17799042658989642240:=0
def tw4420924581715670575:=0
def tw5875304446255708091:=0
def tw17362980340350321264:=0
def tw13718146027272039829:=0
def tw3429764300013302116:=0
def tw2958735087943816792:=0
def tw7509755101232673464:=0
def tw10929527590707147142:=0
def tw18096230043683929120:=0
def tw8522574147960152225:=0
def tw13866855110114146683:=0
def tw18334664010808232988:=0
def tw2421150103283260544:=0
def tw9962401893793610520:=0
def tw1169295705245739903:=0
def tw9841802773410748812:=0
def tw4461771351660791974:=0
def tw16498067448313737930:=0
def tw4419154964628875077:=0
def tw307493822935232094:=0
def tw14027828221635681076:=0
def tw13154136599044292229:=0
def tw18134386648301383162:=0
def tw9855568638951910505:=0
def tw10062106732907476137:=0
def tw6095718184131710017:=0
def tw15705093441042195706:=0
def tw5303973652519703504:=0
def tw14755762301665491410:=0
def tw5832264787577695497:=0
def tw17086696753863905689:=0
def tw17900805052279009363:=0
def tw5077003124395336682:=0
def tw17101482467001851674:=0
def tw5792593873413369368:=0
def tw4995956745211542265:=0
def tw131877569853190807:=0
def tw1548579184711819998:=0
def tw5319459694496381718:=0
def tw17505247593963673013:=0
def tw8615386209409939805:=0
def tw4440486379156702908:=0
def tw17710088538658438077:=0
def tw684866158011909734:=0
def tw3289331077116605651:=0
def tw13634930999857957710:=0
def tw8831149506753670141:=0
def tw17857735944047786941:=0
def tw2063047792537792157:=0
def tw17002525282593146970:=0
def tw8526236939490579496:=0
def tw2751429296545206048:=0
def tw615350531317000607:=0
def tw2612941024468306392:=0
def tw1407361182589763248:=0
def tw2767183858095936902:=0
def tw1598780023484864685:=0
def tw15371273522975564753:=0
def tw11883260790481473327:=0
def tw535407822676533492:=0
def tw7937240413388097970:=0
def tw387142047654664795:=0
def tw13182205365294899323:=0
def tw9197047241628192911:=0
def tw7355544645675987145:=0
def tw7811694988724723167:=0
def tw12952298550096438823:=0
def tw1839817262477180351:=0
def tw12571986102510436667:=0
def tw748136240329562837:=0
def tw17185699910549279002:=0
def tw3453754139547987383:=0
def tw14472892745826792827:=0
def tw520927172632350305:=0
def tw7024400251970473958:=0
def tw12113802840433502837:=0
def tw14216821276793556427:=0
def tw5689354825288989830:=0
def tw5731024968153526614:=0
def tw9415213905209271560:=0
def tw5514054981932836936:=0
def tw10721603020276882374:=0
def tw8295620834013058738:=0
def tw6303223938796817496:=0
def tw15559841179399936538:=0
def tw9665249520248089339:=0
def tw3190969049865059747:=0
def tw11827213336389468900:=0
def tw3937141559962902275:=0
def tw9343812971547779416:=0
def tw15558047484457788112:=0
def tw17424420639306579481:=0
def tw12600534622540175840:=0
def tw12522635606800759691:=0
def tw7215152669412303018:=0
def tw11967657827804384766:=0
def tw4903217822220234260:=0
def tw16233760322321082710:=0
def tw3356501397128265836:=0
def tw10716988308325859641:=0
def tw3027132037349532843:=0
def tw11104713248526632927:=0
def tw9413846291865731985:=0
def tw15012449427175594267:=0
def tw14343945296002349951:=0
def tw15422792685891739306:=0
def tw5869822501188433370:=0
def tw5382346302201014202:=0
def tw4361333162060471517:=0
def tw796386123436904453:=0
def tw4925274107166038944:=0
def tw11277923510469976307:=0
def tw7098245699858001547:=0
def tw5733505510309121061:=0
def tw3628105496278743859:=0
def tw3863283389745355598:=0
def tw3273168276584774969:=0
def tw9002829650703819785:=0
def tw13204069068865195677:=0
def tw8395275412583797780:=0
def tw12234095185532889883:=0
def tw15642862974939591684:=0
def tw16273832021767304787:=0
def tw10526034767131871478:=0
def tw12423003674432627155:=0
def tw16819556391488133947:=0
def tw929130059246177578:=0
def tw17803498855550809860:=0
def tw4537069545138530285:=0
def tw15052003884638634245:=0
def tw18049713983471555837:=0
def tw12210522392681582937:=0
def tw7953370819634645592:=0
def tw8690126078957053573:=0
def tw13014341443874197778:=0
def tw980162610318775669:=0
def tw12826210262572854382:=0
def tw394104657467875639:=0
def tw5525223971443209421:=0
def tw10293305721136504424:=0
def tw1794551249940457653:=0
def tw15684533569724533624:=0
def tw3255786516877857179:=0
def tw16255001988995000340:=0
def tw7009939942749165932:=0
def tw8535953776500543900:=0
def tw5354113703894197534:=0
def tw17875905911873658915:=0
def tw1760639800500672133:=0
def tw15141291840990580589:=0
def tw12092574314440736502:=0
def tw4885343644336710599:=0
def tw15161986551224436065:=0
def tw15661155994685961124:=0
def tw3222452685290520483:=0
def tw3644703195100170029:=0
def tw15172019048688685963:=0
def tw11787806498347193671:=0
def tw2330655740518775088:=0
def tw7799314184825442653:=0
def tw11628689653630690334:=0
def tw14529054885787145854:=0
def tw16344379103685535500:=0
def tw16662713402353497346:=0
def tw13894689411804826514:=0
def tw2483328197188103120:=0
def tw14417311488577029327:=0
def tw756008826570594944:=0
def tw15602893758905836178:=0
def tw5739426456350615993:=0
def tw9003460555849107271:=0
def tw7646950909968763699:=0
def tw10740398652485489553:=0
def tw6778772054595743552:=0
def tw6394830548368717074:=0
def tw12022997266214601541:=0
def tw7582147559964164774:=0
def tw5531659371553266108:=0
def tw10124593407474726727:=0
def tw11945720000200885441:=0
def tw14890418206318290909:=0
def tw1548956253035532937:=0
def tw10103296118949465379:=0
def tw5284957962414413391:=0
def tw18391342417143903151:=0
def tw17103424266841012424:=0
def tw1329923836550229317:=0
def tw17584836365391627955:=0
def tw17975420013921419235:=0
def tw17886782124385327552:=0
def tw15998345956125593083:=0
def tw4361009480399656644:=0
def tw5532155530252834102:=0
def tw891335013617234329:=0
def tw5765154910967442892:=0
def tw4472628059696311352:=0
def tw8628680618895412638:=0
def tw6105882779992166884:=0
def tw310143029462488421:=0
def tw10836274162197887408:=0
def tw2364553256082606182:=0
def tw15142599413658444904:=0
def tw17287151949138527058:=0
def tw3298787366613088881:=0
def tw9492191399194604793:=0
def tw16334752757249262096:=0
def tw13421163418134065080:=0
def tw9713145073288405349:=0
def tw10140562783817991449:=0
def tw3611993923811438045:=0
def tw14797764398219276047:=0
def tw1970699595944661028:=0
def tw10226357523818374885:=0
def tw12695071200250490198:=0
def tw10120769978045129915:=0
def tw11290589668380598960:=0
def tw204712748339172350:=0
def tw6988130045025948092:=0
def tw10479649426110947714:=0
def tw8308265154609101143:=0
def tw15841100528093959992:=0
def tw10282760573854899504:=0
def tw3552246343308477448:=0
def tw319028889085262474:=0
def tw15393837849001524025:=0
def tw4480925247142862214:=0
def tw15302170256804860373:=0
def tw12751225047912326365:=0
def tw11278078457836183798:=0
def tw16977697427378403547:=0
def tw18363369595846813407:=0
def tw4923540794586233016:=0
def tw15454261409797433693:=0
def tw12080427093137014073:=0
def tw7491654323097177482:=0
def tw14400027262524269366:=0
def tw10335092525736267660:=0
def tw12222801734241250775:=0
def tw6983482623319681467:=0
def tw1404283702518654860:=0
def tw5044383348338466030:=0
def tw3366540426622867856:=0
def tw13203883576858160755:=0
def tw16520507445336038823:=0
def tw11990392791722205989:=0
def tw11025685529702282610:=0
def tw14927609144679809828:=0
def tw17401531949751710363:=0
def tw6945535410408605442:=0
def tw14004122256233858343:=0
def tw5808746330527866058:=0
def tw10819918073208439032:=0
def tw6568226462566570987:=0
def tw10121953286136930944:=0
def tw11100576728137149729:=0
def tw2124158179191022966:=0
def tw16494877600725167354:=0
def tw11019124445473243111:=0
def tw16266693901184443299:=0
def tw349207699059081898:=0
def tw12549494248825608590:=0
def tw7432410706738975547:=0
def tw15604302105622237964:=0
def tw9723623545206952311:=0
def tw9676860959974295625:=0
def tw16715789019361632180:=0
def tw6100591645014890559:=0
def tw11084053959760142943:=0
def tw13715502324237561733:=0
def tw8519941959023360702:=0
def tw4061590082762135862:=0
def tw726550470235595034:=0
def tw13154549499857248553:=0
def tw13403183347286554417:=0
def tw3697251484984320665:=0
def tw2684231784130669063:=0
def tw1701276398005151527:=0
def tw1363916594596533917:=0
def tw13269411501206940280:=0
def tw16998481886179531783:=0
def tw5038334093289163721:=0
def tw15209982117481933076:=0
def tw4222186789553049491:=0
def tw5332287561363796622:=0
def tw6104171498055916194:=0
def tw15360442104019559879:=0
def tw4843299156075268660:=0
def tw6524309961379358583:=0
def tw10994461032589875452:=0
def tw3343041810325814013:=0
def tw14814783053468621638:=0
def tw4893916970279207433:=0
def tw13808290573004358052:=0
def tw16635402561789774455:=0
def tw10346629432345619888:=0
def tw15742297210086856222:=0
def tw12606751616797742772:=0
def tw8598643609899337047:=0
def tw17455145218682599270:=0
def tw10835780302267948684:=0
def tw14771172224805785447:=0
def tw12381602868356167489:=0
def tw13890312499548478873:=0
def tw13289868410046674270:=0
def tw14794015623123501712:=0
def tw13731855131373158587:=0
def tw11855500365947561069:=0
def tw8063545795540940338:=0
def tw5172884864498633589:=0
def tw14759890476273982204:=0
def tw4159364469189533074:=0
def tw17634027973349009432:=0
def tw13182106902856578240:=0
def tw11556511696844399963:=0
def tw7092646665954619412:=0
def tw12134891525070489639:=0
def tw12745820429179672007:=0
def tw5602099419250074967:=0
def tw4827557188239790297:=0
def tw818646266553083859:=0
def tw16750791258395920412:=0
def tw11826542910828601586:=0
def tw6138222837444853029:=0
def tw7831269361077173114:=0
def tw371511568301926560:=0
def tw1124719945358144860:=0
def tw11742325692821330357:=0
def tw7608274416536010203:=0
def tw5302592907612325746:=0
def tw2291679546730280928:=0
def tw12887871129571967150:=0
def tw9116762191639872773:=0
def tw1785665832777256575:=0
def tw8086233192609354302:=0
def tw9252906068934554101:=0
def tw8191585718570274415:=0
def tw10961635226680771168:=0
def tw14922969201567878881:=0
def tw10589314287791295943:=0
def tw2847251195390870829:=0
def tw14662213637690589191:=0
def tw14174246042065882568:=0
def tw10815889495088611568:=0
def tw3060419580579676096:=0
def tw8578528614792636702:=0
def tw12224565578200436508:=0
def tw16886973677814143251:=0
def tw4508326506454496784:=0
def tw4817446591556418188:=0
def tw17071446293009010718:=0
def tw704821356905726416:=0
def tw10953031050714319181:=0
def tw7011671647632391033:=0
def tw9224663935075775517:=0
def tw703145436469550231:=0
def tw6124693108900631449:=0
def tw7268602202731212380:=0
def tw9402867141592546591:=0
def tw7644042190691059077:=0
def tw13681970878149372213:=0
def tw10701557065419089908:=0
def tw8681328184360478066:=0
def tw15835278816562195986:=0
def tw1755803193563278444:=0
def tw17024648848219537922:=0
def tw16929364145438465657:=0
def tw4853617726376863985:=0
def tw5816664143619540938:=0
def tw922762748096939624:=0
def tw3276209070242886182:=0
def tw17435327612383501106:=0
def tw13547539559745066245:=0
def tw17752061313911355533:=0
def tw7466691322488011918:=0
def tw9513672836227093013:=0
def tw4317247127812694744:=0
def tw5755203988226509790:=0
def tw1713668651877395569:=0
def tw14581191517723950395:=0
def tw14652944125731168429:=0
def tw13178278282589769223:=0
def tw4609971014562467693:=0
def tw1458197432637821756:=0
def tw5224835205384755799:=0
def tw18278163789529990169:=0
def tw14297060080160284491:=0
def tw5262152355292376279:=0
end PySem.W.Fast
namespace S03
open PySem L2 XL
theorem walk {l : PySem.W.OpenLaw} {q : Program} {loose : List Str} {XP : (Str → Option Value) → Heap → Prop} {YP : World → Heap → Prop} {d : DefRec} {K : Params → PySem.W.Frag} (hn : l.most = some 63) (hdf : d.params.defaults = [])
    (hY : ∀ (w : World) (h : Heap), YP w h → (K w.params).In h)
    (F : ∀ (w : World) (mg : Str → Option Value) (fa : Addr) (h : Heap), (K w.params).In h → h.Ns mainGlobals mg → mg d.name = some (.ref fa) →
      ∃ fd : FuncData, (∀ (s : Shared) (u : Value), BindsTo s fd ⟨[u], []⟩ [("_law_script", u)]) ∧ ∀ base : Heap, (K w.params).In base → base.Ns mainGlobals mg → FnOk true l.prog w (K w.params) mg base (CXo l.prog w) 7 fa fd ["_law_script"] (xfm (K w.params))) :
    PySem.W.WalkO q loose XP YP l.row.toRowW d [] (fun f vs => PySem.call f vs) :=
  L2.walk_of (q0 := true) (n := 63) (k := 7) (x := "_law_script") (CX := fun w => CXo l.prog w) (sp := fun w => xfm (K w.params)) hn (by decide) hdf ⟨fun _ => rfl, by decide, by decide⟩ hY F (fun _ _ a ns hl _ hS => ⟨a, ns, rfl, hS, hl, fun _ => rfl⟩)
    fun w H s e s' z => by obtain ⟨_, _, _, _, _, _, _, _, _, _, _, _, _, _, q⟩ := z; exact q
theorem all_mk {l : PySem.W.OpenLaw} {w : World} {K : PySem.W.Frag} {h : Heap} {mg : Str → Option Value} {fa : Addr} (hfa : mg "law" = some (.ref fa)) (TT : ∃ t, Txt w K mg t) :
    ∃ fd : FuncData, (∀ (s : Shared) (v : Value), BindsTo s fd ⟨[v], []⟩ [("_law_script", v)]) ∧ ∀ base : Heap, K.In base → base.Ns mainGlobals mg → FnOk true l.prog w K mg base (CXo l.prog w) 7 fa fd ["_law_script"] (xfm K) := by
  obtain ⟨t, T⟩ := TT
  have e := hfa.symm.trans T.g_law
  cases e
  refine ⟨t.d_law, fun s v => ?_, fun base _ _ => xmj T⟩
  obtain ⟨oc, od, kV, doc, pm, an, cdv, ct, osl, e, lk, hcd⟩ := T.F_law.ex
  rw [e]
  exact .of_eq rfl
end S03
open PySem PySem.W PyProof.Rows
set_option maxRecDepth 100000 in
set_option maxHeartbeats 0 in
theorem PySem.Challenge.cw_rimnotes_k03_points_put_holds : PySem.Challenge.rw_rimnotes_k03_points_put.Holds := by
  w_on; o_law; k_head; (case hw => w_witness2)
  k_fill
  refine S03.walk (l := PySem.Challenge.rw_rimnotes_k03_points_put) rfl rfl (fun w h Y => PySem.W.kIn_of Y) ?F
  case F =>
    intro w mg fa h KX G hmg
    refine S03.all_mk (h := h) hmg ?TT
    refine' S03.txt_mk (w := w) KX G ?g_ap ?g_k ?g_o ?g_l ?g_g ?g_d ?g_f ?g_av ?g_i ?g_a ?g_j ?g_ax ?g_az ?g_aw ?g_ay ?g_an ?g_ah ?g_ai ?g_aj ?g_ak ?g_q ?g_ao ?g_r ?a_ac ?l_ac ?c_ac ?k_ac ?i_ac ?a_ad ?l_ad ?c_ad ?k_ad ?i_ad ?a_z ?l_z ?c_z ?k_z ?i_z ?a_w ?l_w ?c_w ?k_w ?i_w ?a_x ?l_x ?c_x ?k_x ?i_x ?a_m ?l_m ?c_m ?k_m ?i_m ?a_aa ?l_aa ?c_aa ?k_aa ?i_aa ?a_t ?l_t ?c_t ?k_t ?i_t ?a_aq ?l_aq ?c_aq ?k_aq ?i_aq ?a_v ?l_v ?c_v ?k_v ?i_v ?a_e ?l_e ?c_e ?k_e ?i_e ?t_e ?a_h ?l_h ?c_h ?k_h ?i_h ?a_s ?l_s ?c_s ?k_s ?i_s ?a_c ?l_c ?c_c ?k_c ?i_c ?a_b ?l_b ?c_b ?k_b ?i_b ?a_af ?l_af ?c_af ?k_af ?i_af ?a_u ?l_u ?c_u ?k_u ?i_u ?a_al ?l_al ?c_al ?k_al ?i_al ?a_n ?l_n ?c_n ?k_n ?i_n ?a_p ?l_p ?c_p ?k_p ?i_p ?a_at ?l_at ?c_at ?k_at ?i_at ?a_am ?l_am ?c_am ?k_am ?i_am ?a_ar ?l_ar ?c_ar ?k_ar ?i_ar ?a_au ?l_au ?c_au ?k_au ?i_au ?a_ag ?l_ag ?c_ag ?k_ag ?i_ag ?a_ae ?l_ae ?c_ae ?k_ae ?i_ae ?a_y ?l_y ?c_y ?k_y ?i_y ?a_ab ?l_ab ?c_ab ?k_ab ?i_ab ?a_law ?l_law ?c_law ?k_law ?i_law ?kc_ap ?ov_ap ?hd_ap ?sa_ap ?ga_ap ?gh_ap ?ca_ap ?mk_ap ?kc_k ?ov_k ?hd_k ?sa_k ?ga_k ?gh_k ?ca_k ?mk_k ?kc_o ?ov_o ?hd_o ?sa_o ?ga_o ?gh_o ?ca_o ?mk_o ?kc_l ?ov_l ?hd_l ?sa_l ?ga_l ?gh_l ?ca_l ?mk_l ?kc_g ?ov_g ?hd_g ?sa_g ?ga_g ?gh_g ?ca_g ?mk_g ?kc_d ?ov_d ?hd_d ?sa_d ?ga_d ?gh_d ?ca_d ?mk_d ?kc_f ?ov_f ?hd_f ?sa_f ?ga_f ?gh_f ?ca_f ?mk_f ?kc_av ?ov_av ?hd_av ?sa_av ?ga_av ?gh_av ?ca_av ?mk_av ?kc_i ?ov_i ?hd_i ?sa_i ?ga_i ?gh_i ?ca_i ?mk_i ?kc_a ?ov_a ?hd_a ?sa_a ?ga_a ?gh_a ?ca_a ?mk_a ?kc_j ?ov_j ?hd_j ?sa_j ?ga_j ?gh_j ?ca_j ?mk_j ?kc_ax ?ov_ax ?hd_ax ?sa_ax ?ga_ax ?gh_ax ?ca_ax ?mk_ax ?kc_az ?ov_az ?hd_az ?sa_az ?ga_az ?gh_az ?ca_az ?mk_az ?kc_aw ?ov_aw ?hd_aw ?sa_aw ?ga_aw ?gh_aw ?ca_aw ?mk_aw ?kc_ay ?ov_ay ?hd_ay ?sa_ay ?ga_ay ?gh_ay ?ca_ay ?mk_ay ?kc_an ?ov_an ?hd_an ?sa_an ?ga_an ?gh_an ?ca_an ?mk_an ?kc_ah ?ov_ah ?hd_ah ?sa_ah ?ga_ah ?gh_ah ?ca_ah ?mk_ah ?kc_ai ?ov_ai ?hd_ai ?sa_ai ?ga_ai ?gh_ai ?ca_ai ?mk_ai ?kc_aj ?ov_aj ?hd_aj ?sa_aj ?ga_aj ?gh_aj ?ca_aj ?mk_aj ?kc_ak ?ov_ak ?hd_ak ?sa_ak ?ga_ak ?gh_ak ?ca_ak ?mk_ak ?kc_q ?ov_q ?hd_q ?sa_q ?ga_q ?gh_q ?ca_q ?mk_q ?kc_ao ?ov_ao ?hd_ao ?sa_ao ?ga_ao ?gh_ao ?ca_ao ?mk_ao ?kc_r ?pg_r ?hd_r ?po_r ?sa_r ?mk_r ?ca_r ?mo_r ?cg ?ct ?n_a1 ?n_a3 ?n_a0 ?n_a8 ?n_fw ?n_fi ?n_ee ?n_fj ?n_fx ?n_e2 ?n_gd ?n_ge ?n_fy ?n_fk ?n_fl ?n_fm ?n_fz ?n_e3 ?n_ft ?n_fu ?n_fn ?n_e4 ?n_e5 ?n_e6 ?n_fo ?n_c2 ?n_f5 ?n_f6 ?n_e7 ?n_es ?n_et ?n_c3 ?n_du ?n_ef ?n_f0 ?n_f1 ?n_e8 ?n_eu ?n_c4 ?n_ev ?n_e9 ?n_eg ?n_f2 ?n_f3 ?n_fp ?n_fa ?n_fb ?n_fc ?n_fq ?n_ew ?n_f7 ?n_f8 ?n_eh ?n_d9 ?n_bh ?n_ea ?n_ei ?n_dv ?n_fd ?n_fe ?n_fr ?n_ff ?n_dw ?n_fg ?n_fs ?n_ex ?n_f9 ?n_ga ?n_eq ?n_bool ?n_int ?n_isinstance ?n_len ?n_list ?n_max ?n_min ?n_range ?n_sorted ?n_str ?n_tuple ?kit_dx ?kit_dy ?kit_c6 ?kit_cb ?kit_cc ?kit_c7 ?kit_bj ?kit_c8 ?kit_c9 ?kit_dz ?kit_ej ?kit_da ?kit_d0 ?kany_o ?kitv_o ?mro_o ?kit_d1 ?kit_d2 ?kit_db ?kit_cd ?kit_ce ?kit_dc ?kit_bk ?kit_dd ?kit_de ?kit_d3 ?kit_ek ?kit_df ?kit_d4 ?kany_l ?kitv_l ?mro_l ?kit_dg ?kit_dh ?kit_cf ?kit_bt ?kit_bu ?kit_cg ?kit_a9 ?kit_ch ?kit_ci ?kit_di ?kit_d5 ?kit_cj ?kit_dj ?kany_g ?kitv_g ?mro_g ?kit_ck ?kit_cl ?kit_bv ?kit_bl ?kit_bm ?kit_bw ?kit_a4 ?kit_bx ?kit_by ?kit_cm ?kit_dk ?kit_bz ?kit_cn ?kany_d ?kitv_d ?mro_d ?kit_co ?kit_cp ?kit_b0 ?kit_bn ?kit_bo ?kit_b1 ?kit_a5 ?kit_b2 ?kit_b3 ?kit_cq ?kit_dl ?kit_b4 ?kit_cr ?kany_f ?kitv_f ?mro_f ?kit_dm ?kit_dn ?kit_cs ?kit_b5 ?kit_b6 ?kit_ct ?kit_ba ?kit_cu ?kit_cv ?kit_do ?kit_d6 ?kit_cw ?kit_dp ?kany_i ?kitv_i ?mro_i ?ns_i ?ns_fv ?kit_bp ?kit_bq ?kit_bb ?kit_a6 ?kit_a7 ?kit_bc ?kit_a2 ?kit_bd ?kit_be ?kit_br ?kit_b7 ?kit_bf ?kit_bs ?kany_a ?kitv_a ?mro_a ?kit_dq ?kit_dr ?kit_cx ?kit_b8 ?kit_b9 ?kit_cy ?kit_bg ?kit_cz ?kit_c0 ?kit_ds ?kit_d7 ?kit_c1 ?kit_dt ?kany_j ?kitv_j ?mro_j ?kit_ey ?kit_ez ?kit_el ?kit_eb ?kit_ec ?kit_em ?kit_c5 ?kit_en ?kit_eo ?kit_e0 ?kit_fh ?kit_ep ?kit_e1 ?kitv_k ?mro_k ?ns_k ?ns_f4 ?kit_d8 ?kany2_k ?v_ed ?v_bi ?v_ca ?g_as ?l_as ?ns_as
    (case g_ap => k_is)
    (case g_k => k_is)
    (case g_o => k_is)
    (case g_l => k_is)
    (case g_g => k_is)
    (case g_d => k_is)
    (case g_f => k_is)
    (case g_av => k_is)
    (case g_i => k_is)
    (case g_a => k_is)
    (case g_j => k_is)
    (case g_ax => k_is)
    (case g_az => k_is)
    (case g_aw => k_is)
    (case g_ay => k_is)
    (case g_an => k_is)
    (case g_ah => k_is)
    (case g_ai => k_is)
    (case g_aj => k_is)
    (case g_ak => k_is)
    (case g_q => k_is)
    (case g_ao => k_is)
    (case g_r => k_is)
    (case a_ac => k_is)
    (case l_ac => k_is)
    (case c_ac => k_is)
    (case k_ac => k_is)
    (case i_ac => k_is)
    (case a_ad => k_is)
    (case l_ad => k_is)
    (case c_ad => k_is)
    (case k_ad => k_is)
    (case i_ad => k_is)
    (case a_z => k_is)
    (case l_z => k_is)
    (case c_z => k_is)
    (case k_z => k_is)
    (case i_z => k_is)
    (case a_w => k_is)
    (case l_w => k_is)
    (case c_w => k_is)
    (case k_w => k_is)
    (case i_w => k_is)
    (case a_x => k_is)
    (case l_x => k_is)
    (case c_x => k_is)
    (case k_x => k_is)
    (case i_x => k_is)
    (case a_m => k_is)
    (case l_m => k_is)
    (case c_m => k_is)
    (case k_m => k_is)
    (case i_m => k_is)
    (case a_aa => k_is)
    (case l_aa => k_is)
    (case c_aa => k_is)
    (case k_aa => k_is)
    (case i_aa => k_is)
    (case a_t => k_is)
    (case l_t => k_is)
    (case c_t => k_is)
    (case k_t => k_is)
    (case i_t => k_is)
    (case a_aq => k_is)
    (case l_aq => k_is)
    (case c_aq => k_is)
    (case k_aq => k_is)
    (case i_aq => k_is)
    (case a_v => k_is)
    (case l_v => k_is)
    (case c_v => k_is)
    (case k_v => k_is)
    (case i_v => k_is)
    (case a_e => k_is)
    (case l_e => k_is)
    (case c_e => k_is)
    (case k_e => k_is)
    (case i_e => k_is)
    (case t_e => k_is)
    (case a_h => k_is)
    (case l_h => k_is)
    (case c_h => k_is)
    (case k_h => k_is)
    (case i_h => k_is)
    (case a_s => k_is)
    (case l_s => k_is)
    (case c_s => k_is)
    (case k_s => k_is)
    (case i_s => k_is)
    (case a_c => k_is)
    (case l_c => k_is)
    (case c_c => k_is)
    (case k_c => k_is)
    (case i_c => k_is)
    (case a_b => k_is)
    (case l_b => k_is)
    (case c_b => k_is)
    (case k_b => k_is)
    (case i_b => k_is)
    (case a_af => k_is)
    (case l_af => k_is)
    (case c_af => k_is)
    (case k_af => k_is)
    (case i_af => k_is)
    (case a_u => k_is)
    (case l_u => k_is)
    (case c_u => k_is)
    (case k_u => k_is)
    (case i_u => k_is)
    (case a_al => k_is)
    (case l_al => k_is)
    (case c_al => k_is)
    (case k_al => k_is)
    (case i_al => k_is)
    (case a_n => k_is)
    (case l_n => k_is)
    (case c_n => k_is)
    (case k_n => k_is)
    (case i_n => k_is)
    (case a_p => k_is)
    (case l_p => k_is)
    (case c_p => k_is)
    (case k_p => k_is)
    (case i_p => k_is)
    (case a_at => k_is)
    (case l_at => k_is)
    (case c_at => k_is)
    (case k_at => k_is)
    (case i_at => k_is)
    (case a_am => k_is)
    (case l_am => k_is)
    (case c_am => k_is)
    (case k_am => k_is)
    (case i_am => k_is)
    (case a_ar => k_is)
    (case l_ar => k_is)
    (case c_ar => k_is)
    (case k_ar => k_is)
    (case i_ar => k_is)
    (case a_au => k_is)
    (case l_au => k_is)
    (case c_au => k_is)
    (case k_au => k_is)
    (case i_au => k_is)
    (case a_ag => k_is)
    (case l_ag => k_is)
    (case c_ag => k_is)
    (case k_ag => k_is)
    (case i_ag => k_is)
    (case a_ae => k_is)
    (case l_ae => k_is)
    (case c_ae => k_is)
    (case k_ae => k_is)
    (case i_ae => k_is)
    (case a_y => k_is)
    (case l_y => k_is)
    (case c_y => k_is)
    (case k_y => k_is)
    (case i_y => k_is)
    (case a_ab => k_is)
    (case l_ab => k_is)
    (case c_ab => k_is)
    (case k_ab => k_is)
    (case i_ab => k_is)
    (case a_law => k_is)
    (case l_law => k_is)
    (case c_law => k_is)
    (case k_law => k_is)
    (case i_law => k_is)
    (case kc_ap => k_is)
    (case ov_ap => kernel_rfl)
    (case hd_ap => k_is)
    (case sa_ap => k_is)
    (case ga_ap => k_is)
    (case gh_ap => k_is)
    (case ca_ap => k_is)
    (case mk_ap => first | k_is | kernel_rfl)
    (case kc_k => k_is)
    (case ov_k => kernel_rfl)
    (case hd_k => k_is)
    (case sa_k => k_is)
    (case ga_k => k_is)
    (case gh_k => k_is)
    (case ca_k => k_is)
    (case mk_k => first | k_is | kernel_rfl)
    (case kc_o => k_is)
    (case ov_o => kernel_rfl)
    (case hd_o => k_is)
    (case sa_o => k_is)
    (case ga_o => k_is)
    (case gh_o => k_is)
    (case ca_o => k_is)
    (case mk_o => first | k_is | kernel_rfl)
    (case kc_l => k_is)
    (case ov_l => kernel_rfl)
    (case hd_l => k_is)
    (case sa_l => k_is)
    (case ga_l => k_is)
    (case gh_l => k_is)
    (case ca_l => k_is)
    (case mk_l => first | k_is | kernel_rfl)
    (case kc_g => k_is)
    (case ov_g => kernel_rfl)
    (case hd_g => k_is)
    (case sa_g => k_is)
    (case ga_g => k_is)
    (case gh_g => k_is)
    (case ca_g => k_is)
    (case mk_g => first | k_is | kernel_rfl)
    (case kc_d => k_is)
    (case ov_d => kernel_rfl)
    (case hd_d => k_is)
    (case sa_d => k_is)
    (case ga_d => k_is)
    (case gh_d => k_is)
    (case ca_d => k_is)
    (case mk_d => first | k_is | kernel_rfl)
    (case kc_f => k_is)
    (case ov_f => kernel_rfl)
    (case hd_f => k_is)
    (case sa_f => k_is)
    (case ga_f => k_is)
    (case gh_f => k_is)
    (case ca_f => k_is)
    (case mk_f => first | k_is | kernel_rfl)
    (case kc_av => k_is)
    (case ov_av => kernel_rfl)
    (case hd_av => k_is)
    (case sa_av => k_is)
    (case ga_av => k_is)
    (case gh_av => k_is)
    (case ca_av => k_is)
    (case mk_av => first | k_is | kernel_rfl)
    (case kc_i => k_is)
    (case ov_i => kernel_rfl)
    (case hd_i => k_is)
    (case sa_i => k_is)
    (case ga_i => k_is)
    (case gh_i => k_is)
    (case ca_i => k_is)
    (case mk_i => first | k_is | kernel_rfl)
    (case kc_a => k_is)
    (case ov_a => kernel_rfl)
    (case hd_a => k_is)
    (case sa_a => k_is)
    (case ga_a => k_is)
    (case gh_a => k_is)
    (case ca_a => k_is)
    (case mk_a => first | k_is | kernel_rfl)
    (case kc_j => k_is)
    (case ov_j => kernel_rfl)
    (case hd_j => k_is)
    (case sa_j => k_is)
    (case ga_j => k_is)
    (case gh_j => k_is)
    (case ca_j => k_is)
    (case mk_j => first | k_is | kernel_rfl)
    (case kc_ax => k_is)
    (case ov_ax => kernel_rfl)
    (case hd_ax => k_is)
    (case sa_ax => k_is)
    (case ga_ax => k_is)
    (case gh_ax => k_is)
    (case ca_ax => k_is)
    (case mk_ax => first | k_is | kernel_rfl)
    (case kc_az => k_is)
    (case ov_az => kernel_rfl)
    (case hd_az => k_is)
    (case sa_az => k_is)
    (case ga_az => k_is)
    (case gh_az => k_is)
    (case ca_az => k_is)
    (case mk_az => first | k_is | kernel_rfl)
    (case kc_aw => k_is)
    (case ov_aw => kernel_rfl)
    (case hd_aw => k_is)
    (case sa_aw => k_is)
    (case ga_aw => k_is)
    (case gh_aw => k_is)
    (case ca_aw => k_is)
    (case mk_aw => first | k_is | kernel_rfl)
    (case kc_ay => k_is)
    (case ov_ay => kernel_rfl)
    (case hd_ay => k_is)
    (case sa_ay => k_is)
    (case ga_ay => k_is)
    (case gh_ay => k_is)
    (case ca_ay => k_is)
    (case mk_ay => first | k_is | kernel_rfl)
    (case kc_an => k_is)
    (case ov_an => kernel_rfl)
    (case hd_an => k_is)
    (case sa_an => k_is)
    (case ga_an => k_is)
    (case gh_an => k_is)
    (case ca_an => k_is)
    (case mk_an => first | k_is | kernel_rfl)
    (case kc_ah => k_is)
    (case ov_ah => kernel_rfl)
    (case hd_ah => k_is)
    (case sa_ah => k_is)
    (case ga_ah => k_is)
    (case gh_ah => k_is)
    (case ca_ah => k_is)
    (case mk_ah => first | k_is | kernel_rfl)
    (case kc_ai => k_is)
    (case ov_ai => kernel_rfl)
    (case hd_ai => k_is)
    (case sa_ai => k_is)
    (case ga_ai => k_is)
    (case gh_ai => k_is)
    (case ca_ai => k_is)
    (case mk_ai => first | k_is | kernel_rfl)
    (case kc_aj => k_is)
    (case ov_aj => kernel_rfl)
    (case hd_aj => k_is)
    (case sa_aj => k_is)
    (case ga_aj => k_is)
    (case gh_aj => k_is)
    (case ca_aj => k_is)
    (case mk_aj => first | k_is | kernel_rfl)
    (case kc_ak => k_is)
    (case ov_ak => kernel_rfl)
    (case hd_ak => k_is)
    (case sa_ak => k_is)
    (case ga_ak => k_is)
    (case gh_ak => k_is)
    (case ca_ak => k_is)
    (case mk_ak => first | k_is | kernel_rfl)
    (case kc_q => k_is)
    (case ov_q => kernel_rfl)
    (case hd_q => k_is)
    (case sa_q => k_is)
    (case ga_q => k_is)
    (case gh_q => k_is)
    (case ca_q => k_is)
    (case mk_q => first | k_is | kernel_rfl)
    (case kc_ao => k_is)
    (case ov_ao => kernel_rfl)
    (case hd_ao => k_is)
    (case sa_ao => k_is)
    (case ga_ao => k_is)
    (case gh_ao => k_is)
    (case ca_ao => k_is)
    (case mk_ao => first | k_is | kernel_rfl)
    (case kc_r => k_is)
    (case pg_r => k_is)
    (case hd_r => k_is)
    (case po_r => k_is)
    (case sa_r => k_is)
    (case mk_r => first | k_is | kernel_rfl)
    (case ca_r => k_is)
    (case mo_r => k_is)
    (case cg => k_is)
    (case ct => k_is)
    (case n_a1 => k_is)
    (case n_a3 => k_is)
    (case n_a0 => k_is)
    (case n_a8 => k_is)
    (case n_fw => k_is)
    (case n_fi => k_is)
    (case n_ee => k_is)
    (case n_fj => k_is)
    (case n_fx => k_is)
    (case n_e2 => k_is)
    (case n_gd => k_is)
    (case n_ge => k_is)
    (case n_fy => k_is)
    (case n_fk => k_is)
    (case n_fl => k_is)
    (case n_fm => k_is)
    (case n_fz => k_is)
    (case n_e3 => k_is)
    (case n_ft => k_is)
    (case n_fu => k_is)
    (case n_fn => k_is)
    (case n_e4 => k_is)
    (case n_e5 => k_is)
    (case n_e6 => k_is)
    (case n_fo => k_is)
    (case n_c2 => k_is)
    (case n_f5 => k_is)
    (case n_f6 => k_is)
    (case n_e7 => k_is)
    (case n_es => k_is)
    (case n_et => k_is)
    (case n_c3 => k_is)
    (case n_du => k_is)
    (case n_ef => k_is)
    (case n_f0 => k_is)
    (case n_f1 => k_is)
    (case n_e8 => k_is)
    (case n_eu => k_is)
    (case n_c4 => k_is)
    (case n_ev => k_is)
    (case n_e9 => k_is)
    (case n_eg => k_is)
    (case n_f2 => k_is)
    (case n_f3 => k_is)
    (case n_fp => k_is)
    (case n_fa => k_is)
    (case n_fb => k_is)
    (case n_fc => k_is)
    (case n_fq => k_is)
    (case n_ew => k_is)
    (case n_f7 => k_is)
    (case n_f8 => k_is)
    (case n_eh => k_is)
    (case n_d9 => k_is)
    (case n_bh => k_is)
    (case n_ea => k_is)
    (case n_ei => k_is)
    (case n_dv => k_is)
    (case n_fd => k_is)
    (case n_fe => k_is)
    (case n_fr => k_is)
    (case n_ff => k_is)
    (case n_dw => k_is)
    (case n_fg => k_is)
    (case n_fs => k_is)
    (case n_ex => k_is)
    (case n_f9 => k_is)
    (case n_ga => k_is)
    (case n_eq => k_is)
    (case n_bool => k_is)
    (case n_int => k_is)
    (case n_isinstance => k_is)
    (case n_len => k_is)
    (case n_list => k_is)
    (case n_max => k_is)
    (case n_min => k_is)
    (case n_range => k_is)
    (case n_sorted => k_is)
    (case n_str => k_is)
    (case n_tuple => k_is)
    (case kit_dx => kernel_rfl)
    (case kit_dy => kernel_rfl)
    (case kit_c6 => kernel_rfl)
    (case kit_cb => kernel_rfl)
    (case kit_cc => kernel_rfl)
    (case kit_c7 => kernel_rfl)
    (case kit_bj => kernel_rfl)
    (case kit_c8 => kernel_rfl)
    (case kit_c9 => kernel_rfl)
    (case kit_dz => kernel_rfl)
    (case kit_ej => kernel_rfl)
    (case kit_da => kernel_rfl)
    (case kit_d0 => kernel_rfl)
    (case kany_o => kernel_rfl)
    (case kitv_o => kernel_rfl)
    (case mro_o => k_is)
    (case kit_d1 => kernel_rfl)
    (case kit_d2 => kernel_rfl)
    (case kit_db => kernel_rfl)
    (case kit_cd => kernel_rfl)
    (case kit_ce => kernel_rfl)
    (case kit_dc => kernel_rfl)
    (case kit_bk => kernel_rfl)
    (case kit_dd => kernel_rfl)
    (case kit_de => kernel_rfl)
    (case kit_d3 => kernel_rfl)
    (case kit_ek => kernel_rfl)
    (case kit_df => kernel_rfl)
    (case kit_d4 => kernel_rfl)
    (case kany_l => kernel_rfl)
    (case kitv_l => kernel_rfl)
    (case mro_l => k_is)
    (case kit_dg => kernel_rfl)
    (case kit_dh => kernel_rfl)
    (case kit_cf => kernel_rfl)
    (case kit_bt => kernel_rfl)
    (case kit_bu => kernel_rfl)
    (case kit_cg => kernel_rfl)
    (case kit_a9 => kernel_rfl)
    (case kit_ch => kernel_rfl)
    (case kit_ci => kernel_rfl)
    (case kit_di => kernel_rfl)
    (case kit_d5 => kernel_rfl)
    (case kit_cj => kernel_rfl)
    (case kit_dj => kernel_rfl)
    (case kany_g => kernel_rfl)
    (case kitv_g => kernel_rfl)
    (case mro_g => k_is)
    (case kit_ck => kernel_rfl)
    (case kit_cl => kernel_rfl)
    (case kit_bv => kernel_rfl)
    (case kit_bl => kernel_rfl)
    (case kit_bm => kernel_rfl)
    (case kit_bw => kernel_rfl)
    (case kit_a4 => kernel_rfl)
    (case kit_bx => kernel_rfl)
    (case kit_by => kernel_rfl)
    (case kit_cm => kernel_rfl)
    (case kit_dk => kernel_rfl)
    (case kit_bz => kernel_rfl)
    (case kit_cn => kernel_rfl)
    (case kany_d => kernel_rfl)
    (case kitv_d => kernel_rfl)
    (case mro_d => k_is)
    (case kit_co => kernel_rfl)
    (case kit_cp => kernel_rfl)
    (case kit_b0 => kernel_rfl)
    (case kit_bn => kernel_rfl)
    (case kit_bo => kernel_rfl)
    (case kit_b1 => kernel_rfl)
    (case kit_a5 => kernel_rfl)
    (case kit_b2 => kernel_rfl)
    (case kit_b3 => kernel_rfl)
    (case kit_cq => kernel_rfl)
    (case kit_dl => kernel_rfl)
    (case kit_b4 => kernel_rfl)
    (case kit_cr => kernel_rfl)
    (case kany_f => kernel_rfl)
    (case kitv_f => kernel_rfl)
    (case mro_f => k_is)
    (case kit_dm => kernel_rfl)
    (case kit_dn => kernel_rfl)
    (case kit_cs => kernel_rfl)
    (case kit_b5 => kernel_rfl)
    (case kit_b6 => kernel_rfl)
    (case kit_ct => kernel_rfl)
    (case kit_ba => kernel_rfl)
    (case kit_cu => kernel_rfl)
    (case kit_cv => kernel_rfl)
    (case kit_do => kernel_rfl)
    (case kit_d6 => kernel_rfl)
    (case kit_cw => kernel_rfl)
    (case kit_dp => kernel_rfl)
    (case kany_i => kernel_rfl)
    (case kitv_i => kernel_rfl)
    (case mro_i => k_is)
    (case ns_i => kernel_rfl)
    (case ns_fv => kernel_rfl)
    (case kit_bp => kernel_rfl)
    (case kit_bq => kernel_rfl)
    (case kit_bb => kernel_rfl)
    (case kit_a6 => kernel_rfl)
    (case kit_a7 => kernel_rfl)
    (case kit_bc => kernel_rfl)
    (case kit_a2 => kernel_rfl)
    (case kit_bd => kernel_rfl)
    (case kit_be => kernel_rfl)
    (case kit_br => kernel_rfl)
    (case kit_b7 => kernel_rfl)
    (case kit_bf => kernel_rfl)
    (case kit_bs => kernel_rfl)
    (case kany_a => kernel_rfl)
    (case kitv_a => kernel_rfl)
    (case mro_a => k_is)
    (case kit_dq => kernel_rfl)
    (case kit_dr => kernel_rfl)
    (case kit_cx => kernel_rfl)
    (case kit_b8 => kernel_rfl)
    (case kit_b9 => kernel_rfl)
    (case kit_cy => kernel_rfl)
    (case kit_bg => kernel_rfl)
    (case kit_cz => kernel_rfl)
    (case kit_c0 => kernel_rfl)
    (case kit_ds => kernel_rfl)
    (case kit_d7 => kernel_rfl)
    (case kit_c1 => kernel_rfl)
    (case kit_dt => kernel_rfl)
    (case kany_j => kernel_rfl)
    (case kitv_j => kernel_rfl)
    (case mro_j => k_is)
    (case kit_ey => kernel_rfl)
    (case kit_ez => kernel_rfl)
    (case kit_el => kernel_rfl)
    (case kit_eb => kernel_rfl)
    (case kit_ec => kernel_rfl)
    (case kit_em => kernel_rfl)
    (case kit_c5 => kernel_rfl)
    (case kit_en => kernel_rfl)
    (case kit_eo => kernel_rfl)
    (case kit_e0 => kernel_rfl)
    (case kit_fh => kernel_rfl)
    (case kit_ep => kernel_rfl)
    (case kit_e1 => kernel_rfl)
    (case kitv_k => kernel_rfl)
    (case mro_k => k_is)
    (case ns_k => kernel_rfl)
    (case ns_f4 => kernel_rfl)
    (case kit_d8 => kernel_rfl)
    (case kany2_k => kernel_rfl)
    (case v_ed => k_is)
    (case v_bi => k_is)
    (case v_ca => k_is)
    (case g_as => k_is)
    (case l_as => first | k_is | kernel_rfl)
    (case ns_as => kernel_rfl)
