import PyProof.Rows.All
import Wide.All
import OpenK.AllK
import Wide.FinOn
import Lean
import PyProof.EqAt
import PyProof.EqKinds
import PyProof.TupleCall
import PyProof.StationsW
import PyProof.ExcClass2
import PyProof.RulesAs
import PyProof.ExcBaseAll.ValueError
import OpenK.KDescr
import OpenK.KWalk
import PyProof.ExcAttrAll.ValueError
import PyProof.Comp
import PyProof.ListRange
import PyProof.DictItems
import KE.KPairComp
import KE.KDictOf
import PyProof.AttrMissHeap
import PyProof.Rows.Range3
import KE.KRevIter
import PyProof.ZipIter
import OpenK.KEqL
import PyProof.AutoListH
import PyProof.EnumMake
import PyProof.WalksEnum
import PyProof.NeKinds
import PyProof.MaxThree
import KE.KSortTup
import PyProof.StrLawsIn
import PyProof.DictValues
import PyProof.DictIter
import PyProof.Draws
import PyProof.DictWalks
import PyProof.ListNew
import PyProof.ListStr
import KE.KIntText
import PyProof.Rows.FStr
import PyProof.MeetsStr
import PyProof.Rows.CallKwBuiltin
import PyProof.Rows.StrNews
import PyProof.Rows.StrNews2
import PyProof.StrLawsChain
import PyProof.StrLawsFirst
import PyProof.StrLawsTight
import PyProof.DictUpdate
import PyProof.Rows.SetFrom
import PyProof.DictStraight
import PyProof.SetRoads
import PySem.SetOps
import KE.KDictList
import PyProof.TupleKey
import PyProof.DictFindH
import PyProof.MeetsDictList
import PyProof.MeetsSeq3
import PyProof.Rows.SortStr
import PyProof.SliceStr2
import PyProof.StrBlockI
import PyProof.StrCalls
import PyProof.StrLaws
import PySem.Challenge.RW_rimnotes_k66_columns
set_option Elab.async false
set_option linter.all false
set_option maxRecDepth 100000
set_option maxHeartbeats 4000000
set_option maxRecDepth 100000
namespace L2
open PySem PySem.Spec PyProof.Rows
variable {q0 : Bool}
abbrev Key := Sum Int Str
def keyIs : Key → Value → Bool
  | .inl k, v => Value.isInt k v
  | .inr x, v => Value.isStrOf x v
def keyH (w : World) : Key → Int
  | .inl k => hashInt k
  | .inr x => hashStr w x
theorem keyIs_shape : ∀ {k : Key} {v : Value}, keyIs k v = true → (∃ i t, k = Sum.inl i ∧ v = Value.int i t) ∨ (∃ x t, k = Sum.inr x ∧ v = Value.str x t)
  | .inl i, v, h => by
    obtain ⟨t, e⟩ := Value.isInt_shape (k := i) (v := v) h
    exact .inl ⟨i, t, rfl, e⟩
  | .inr x, v, h => by
    obtain ⟨t, e⟩ := Value.isStrOf_shape (x := x) (v := v) h
    exact .inr ⟨x, t, rfl, e⟩
theorem keyIs_int (i : Int) (t : Tok) : keyIs (.inl i) (.int i t) = true := by simp [keyIs, Value.isInt]
theorem keyIs_str (x : Str) (t : Tok) : keyIs (.inr x) (.str x t) = true := by simp [keyIs, Value.isStrOf]
theorem key_ll (a b : Int) : decide ((Sum.inl a : Key) = Sum.inl b) = (a == b) := by
  by_cases e : a = b
  · subst e; simp
  · have h : ¬ (Sum.inl a : Key) = Sum.inl b := fun q => e (Sum.inl.inj q)
    rw [decide_eq_false h]
    exact (beq_eq_false_iff_ne.mpr e).symm
theorem key_rr (a b : Str) : decide ((Sum.inr a : Key) = Sum.inr b) = decide (a = b) := by
  by_cases e : a = b
  · subst e; simp
  · have h : ¬ (Sum.inr a : Key) = Sum.inr b := fun q => e (Sum.inr.inj q)
    rw [decide_eq_false h, decide_eq_false e]
theorem key_lr (a : Int) (b : Str) : decide ((Sum.inl a : Key) = Sum.inr b) = false := decide_eq_false (fun q => nomatch q)
theorem key_rl (a : Str) (b : Int) : decide ((Sum.inr a : Key) = Sum.inl b) = false := decide_eq_false (fun q => nomatch q)
def mixKind (prog : Program) (w : World) : PySem.KeyKind prog w Key where
  is := keyIs
  hash := keyH w
  inj := fun v a b ha hb => by
    rcases keyIs_shape ha with ⟨i, t, rfl, rfl⟩ | ⟨x, t, rfl, rfl⟩
    · rcases keyIs_shape hb with ⟨j, u, rfl, e⟩ | ⟨y, u, rfl, e⟩
      · injection e with e1 _; rw [e1]
      · exact nomatch e
    · rcases keyIs_shape hb with ⟨j, u, rfl, e⟩ | ⟨y, u, rfl, e⟩
      · exact nomatch e
      · injection e with e1 _; rw [e1]
  byValue := fun k v h => by
    rcases keyIs_shape h with ⟨i, t, rfl, rfl⟩ | ⟨x, t, rfl, rfl⟩ <;> rfl
  pyHash := fun hv h => by
    rcases keyIs_shape hv with ⟨i, t, rfl, rfl⟩ | ⟨x, t, rfl, rfl⟩
    · exact wpAny_pyHash_int h
    · exact wpAny_pyHash_str h
  eqBool := fun hu hv h => by
    rcases keyIs_shape hu with ⟨i, t, rfl, rfl⟩ | ⟨x, t, rfl, rfl⟩
    · rcases keyIs_shape hv with ⟨j, u, rfl, rfl⟩ | ⟨y, u, rfl, rfl⟩
      · rw [key_ll] at h; exact wpAny_eqBool_int h
      · rw [key_lr] at h; exact SeqAt.EqAt.int_str i t y u _ _ _ _ h
    · rcases keyIs_shape hv with ⟨j, u, rfl, rfl⟩ | ⟨y, u, rfl, rfl⟩
      · rw [key_rl] at h; exact SeqAt.EqAt.str_int x t j u _ _ _ _ h
      · rw [key_rr] at h; exact wpAny_eqBool_str h
  «strs» := fun k x t v h => by
    rcases keyIs_shape h with ⟨i, u, rfl, e⟩ | ⟨y, u, rfl, e⟩
    · exact nomatch e
    · injection e with e1 _
      subst e1
      cases v <;> rfl
theorem mixKind_int (prog : Program) (w : World) (i : Int) (t : Tok) : (mixKind prog w).is (.inl i) (.int i t) = true := keyIs_int i t
theorem mixKind_str (prog : Program) (w : World) (x : Str) (t : Tok) : (mixKind prog w).is (.inr x) (.str x t) = true := keyIs_str x t
end L2
namespace L2
open PySem PySem.Spec PyProof.Rows
variable {q0 : Bool}
inductive V where
  | non | bl (b : Bool) | int (i : Int) | str (x : Str) | byt (b : Array UInt8) | flt (b : UInt64) | ref (a : Addr) | ty (n : String)
  deriving DecidableEq
def RelV : V → Value → Prop
  | .non, u => u = Value.none
  | .bl b, u => u = Value.bool b
  | .int i, u => ∃ t, u = Value.int i t
  | .str x, u => ∃ t, u = Value.str x t
  | .byt b, u => ∃ t, u = Value.bytes b t
  | .flt b, u => ∃ t, u = Value.float b t
  | .ref a, u => u = Value.ref a
  | .ty n, u => u = Value.type n
abbrev Vals : List V → List Value → Prop := Paired RelV
theorem Vals.length {xs : List V} {us : List Value} (r : Vals xs us) : xs.length = us.length := Paired.length r
theorem Vals.get : ∀ {xs : List V} {us : List Value} {i : Nat} {x : V}, Vals xs us → xs[i]? = some x → ∃ u, us[i]? = some u ∧ RelV x u
  | _, _, _, _, .nil, e => by simp at e
  | _, _, 0, _, .cons r _, e => by simp at e; subst e; exact ⟨_, rfl, r⟩
  | _, _, i + 1, x, .cons _ t, e => by
    obtain ⟨u, h1, h2⟩ := Vals.get (i := i) (x := x) t (by simpa using e)
    exact ⟨u, by simpa using h1, h2⟩
theorem Vals.append : ∀ {xs ys : List V} {us ws : List Value}, Vals xs us → Vals ys ws → Vals (xs ++ ys) (us ++ ws)
  | _, _, _, _, .nil, s => s
  | _, _, _, _, .cons r t, s => .cons r (Vals.append t s)
def RelO : Option V → Option Value → Prop
  | some v, some u => RelV v u
  | none, none => True
  | _, _ => False
def KV {κ : Type} : List (κ × V) → List (κ × Value) → Prop := Paired fun (p : κ × V) (q : κ × Value) => p.1 = q.1 ∧ RelV p.2 q.2
def kV : Key → V
  | .inl i => .int i
  | .inr x => .str x
inductive HO where
  /-- a list -/
  | lst (xs : List V)
  /-- a tuple (never changes) -/
  | tup (xs : List V)
  /-- a dict whose keys are ints and texts; one whose keys are tuples of ints and texts (the empty one is both) -/
  | dK (kvs : List (Key × V)) | dT (kvs : List (List Key × V))
  /-- a set of ints: its members, its size -/
  | set (S : Int → Bool) (n : Nat)
  /-- an instance of the class at C, its dict at dx, its attributes -/
  | ins (C dx : Addr) (fs : List (Str × V))
  /-- the dict of the instance at x -/
  | own (x : Addr)
  /-- the dict of an exception -/
  | xd (fs : List (Str × V))
  /-- a bound method, f of x -/
  | met (f x : Addr)
  /-- a range object lo, lo + 1, .. below hi -/
  | rng (lo hi : Int)
  /-- a thing that is known to the object (the script; a dict while a loop walks it): read, never written while it is so -/
  | frz (o : Obj) (u : HO)
  /-- a code object's table -/
  | tbl (ps : Array Value)
  /-- any other thing, by what is true of its one object (a def of one's own: SetO a S n := HO.ext fun h => ..) -/
  | ext (φ : Heap → Prop)
abbrev Hp := Addr → Option HO
def upd (H : Hp) (a : Addr) (o : HO) : Hp := fun b => if b = a then some o else H b
theorem upd_same {H : Hp} {a : Addr} {o : HO} : upd H a o a = some o := by unfold upd; rw [if_pos rfl]
theorem upd_ne {H : Hp} {a b : Addr} {o : HO} (h : b ≠ a) : upd H a o b = H b := by unfold upd; rw [if_neg h]
theorem upd_upd {H : Hp} {a : Addr} {o u : HO} : upd (upd H a o) a u = upd H a u := by
  funext b; unfold upd; split <;> rfl
theorem ne_of {H : Hp} {a b : Addr} {o u : HO} (h : H a = some o) (h' : H b = some u) (d : o ≠ u) : a ≠ b := by
  intro e; subst e; rw [h] at h'; exact d (Option.some.inj h')
theorem ne_of_none {H : Hp} {a b : Addr} {o : HO} (h : H a = some o) (h' : H b = none) : a ≠ b := by
  intro e; subst e; rw [h] at h'; cases h'
section
variable (P : Program) (w : World)
def ObjOk (H : Hp) (h : Heap) (a : Addr) : HO → Prop
  | .lst xs => xs.length ≤ sizeLine ∧ ∃ (its : List Value) (n : Nat), Vals xs its ∧ h.get? a = some { cls := .type "list", data := .seq its.toArray n }
  | .tup xs => xs.length ≤ sizeLine ∧ ∃ its : List Value, Vals xs its ∧ IsTup h a its.toArray
  | .dK kvs => kvs.length ≤ sizeLine ∧ (a == sysModules) = false ∧ ∃ vs, KV kvs vs ∧ h.DictOf (mixKind P w) a vs
  | .dT kvs => kvs.length ≤ sizeLine ∧ (a == sysModules) = false ∧ ∃ xs : List (List Key × Addr × Value),
      Paired (fun (p : List Key × V) (q : List Key × Addr × Value) => p.1 = q.1 ∧ H q.2.1 = some (.tup (p.1.map kV)) ∧ RelV p.2 q.2.2) kvs xs ∧
      ∃ o es ep, h.get? a = some o ∧ o.ExactDict ∧ o.data = .dict es ep ∧ es.toList = xs.map (entryOfKey (tupleKind (mixKind P w))) ∧ (xs.map (·.1)).Nodup
  | .set S n => h.SetOf (intKind P w) a S n
  | .ins C dx fs => H dx = some (.own a) ∧ fs.length ≤ 1000 ∧ dx ≠ a ∧ h.get? a = some (PySem.W.instObj C dx) ∧
      ∃ mA, h.Ns1 dx mA ∧ (∀ f, RelO (fs.lookup f) (mA f)) ∧ PySem.Within mA (fs.map (·.1))
  | .own _ => ∃ o, h.get? a = some o
  | .xd fs => ∃ mA, h.Ns1 a mA ∧ ∀ f, RelO (fs.lookup f) (mA f)
  | .rng lo hi => ∃ t u v, h.get? a = some { cls := .type "range", data := .fields #[.int lo t, .int hi u, .int 1 v] }
  | .frz o u => h.get? a = some o ∧ ObjOk H h a u
  | .tbl ps => h.get? a = some { cls := .none, data := .fields ps }
  | .met f x => h.get? a = some (PySem.W.methodObj (.ref f) (.ref x))
  | .ext φ => φ h ∧ (∃ o, h.get? a = some o) ∧ ∀ h1 h2 : Heap, φ h1 → (∀ o, h1.get? a = some o → h2.get? a = some o) → φ h2
def HOk (H : Hp) (h : Heap) : Prop := ∀ a o, H a = some o → ObjOk P w H h a o
end
section
variable {P : Program} {w : World} {H H' : Hp} {h h' : Heap} {a : Addr} {o : HO}
theorem ObjOk.lt (x : ObjOk P w H h a o) : a < h.objs.size := by
  cases o with
  | lst xs => obtain ⟨_, _, _, _, e⟩ := x; exact Heap.lt_size e
  | tup xs => obtain ⟨_, _, _, p⟩ := x; exact p.lt
  | dK kvs => obtain ⟨_, _, _, _, o, _, _, e, _⟩ := x; exact Heap.lt_size e
  | dT kvs => obtain ⟨_, _, _, _, o, _, _, e, _⟩ := x; exact Heap.lt_size e
  | set S n => obtain ⟨o, _, _, _, e, _⟩ := x; exact Heap.lt_size e
  | ins C dx fs => obtain ⟨_, _, _, e, _⟩ := x; exact Heap.lt_size e
  | own y => obtain ⟨_, e⟩ := x; exact Heap.lt_size e
  | xd fs => obtain ⟨_, ⟨_, _, _, e, _⟩, _⟩ := x; exact Heap.lt_size e
  | rng lo hi => obtain ⟨_, _, _, e⟩ := x; exact Heap.lt_size e
  | frz ob u => obtain ⟨e, _⟩ := x; exact Heap.lt_size e
  | tbl ps => exact Heap.lt_size (show h.get? a = some _ from x)
  | met f y => exact Heap.lt_size (show h.get? a = some _ from x)
  | ext φ => obtain ⟨_, ⟨_, e⟩, _⟩ := x; exact Heap.lt_size e
theorem Paired.mapP {α β : Type} {F G : α → β → Prop} : ∀ {l₁ : List α} {l₂ : List β}, Paired F l₁ l₂ → (∀ a b, F a b → G a b) → Paired G l₁ l₂
  | _, _, .nil, _ => .nil
  | _, _, .cons r t, f => .cons (f _ _ r) (Paired.mapP t f)
theorem ObjOk.stay (x : ObjOk P w H h a o) (k : ∀ b u, (b = a ∨ H b = some (.own a)) → h.get? b = some u → h'.get? b = some u)
    (ho : ∀ b, H b = some (.own a) → H' b = some (.own a)) (ht : ∀ b xs, H b = some (.tup xs) → H' b = some (.tup xs)) : ObjOk P w H' h' a o := by
  induction o with
  | lst xs => obtain ⟨z, its, n, r, e⟩ := x; exact ⟨z, its, n, r, k _ _ (.inl rfl) e⟩
  | tup xs => obtain ⟨z, its, r, ob, e, c⟩ := x; exact ⟨z, its, r, ob, k _ _ (.inl rfl) e, c⟩
  | dK kvs => obtain ⟨z, y, vs, r, ob, es, ep, e, c⟩ := x; exact ⟨z, y, vs, r, ob, es, ep, k _ _ (.inl rfl) e, c⟩
  | dT kvs =>
    obtain ⟨z, y, xs, r, ob, es, ep, e, c⟩ := x
    exact ⟨z, y, xs, Paired.mapP r fun p q z => ⟨z.1, ht _ _ z.2.1, z.2.2⟩, ob, es, ep, k _ _ (.inl rfl) e, c⟩
  | set S n => obtain ⟨ob, es, ep, t, e, c⟩ := x; exact ⟨ob, es, ep, t, k _ _ (.inl rfl) e, c⟩
  | ins C dx fs =>
    obtain ⟨d, z, ne, e, mA, ⟨od, es, ep, e2, c⟩, r⟩ := x
    exact ⟨ho _ d, z, ne, k _ _ (.inl rfl) e, mA, ⟨od, es, ep, k _ _ (.inr d) e2, c⟩, r⟩
  | own y => obtain ⟨ob, e⟩ := x; exact ⟨ob, k _ _ (.inl rfl) e⟩
  | xd fs => obtain ⟨mA, ⟨od, es, ep, e, c⟩, r⟩ := x; exact ⟨mA, ⟨od, es, ep, k _ _ (.inl rfl) e, c⟩, r⟩
  | rng lo hi => obtain ⟨t, u, v, e⟩ := x; exact ⟨t, u, v, k _ _ (.inl rfl) e⟩
  | frz ob u ih => obtain ⟨e, q⟩ := x; exact ⟨k _ _ (.inl rfl) e, ih q⟩
  | tbl ps =>
    have e : h.get? a = some { cls := .none, data := .fields ps } := x
    show h'.get? a = some { cls := .none, data := .fields ps }
    exact k a _ (.inl rfl) e
  | met f y =>
    have e : h.get? a = some (PySem.W.methodObj (.ref f) (.ref y)) := x
    show h'.get? a = some (PySem.W.methodObj (.ref f) (.ref y))
    exact k a _ (.inl rfl) e
  | ext φ => obtain ⟨p, ⟨o, e⟩, st⟩ := x; exact ⟨st _ _ p fun o q => k _ _ (.inl rfl) q, ⟨o, k _ _ (.inl rfl) e⟩, st⟩
theorem HOk.lt (x : HOk P w H h) (e : H a = some o) : a < h.objs.size := (x a o e).lt
theorem HOk.fresh (x : HOk P w H h) (e : h.objs.size ≤ a) : H a = none := by
  cases q : H a with
  | none => rfl
  | some u => exact absurd (Nat.lt_of_lt_of_le (x.lt q) e) (Nat.lt_irrefl _)
theorem HOk.kept (x : HOk P w H h) (k : ∀ b u, h.get? b = some u → h'.get? b = some u) : HOk P w H h' := fun a o e =>
  (x a o e).stay (fun b u _ q => k b u q) (fun _ q => q) fun _ _ q => q
theorem HOk.laid (x : HOk P w H h) (k : ∀ b u, h.get? b = some u → h'.get? b = some u) (hp : h.objs.size ≤ a) (new : ObjOk P w (upd H a o) h' a o) : HOk P w (upd H a o) h' := fun b u e => by
  have hn := x.fresh hp
  by_cases hb : b = a
  · subst hb; rw [upd_same] at e; cases e; exact new
  · rw [upd_ne hb] at e
    exact (x b u e).stay (fun c v _ q => k c v q) (fun c q => by rw [upd_ne (ne_of_none q hn)]; exact q) fun c xs q => by rw [upd_ne (ne_of_none q hn)]; exact q
end
def Rd (H : Hp) (a : Addr) (u : HO) : Prop := H a = some u ∨ ∃ o, H a = some (.frz o u)
theorem Rd.ok {P : Program} {w : World} {H : Hp} {h : Heap} {a : Addr} {u : HO} (r : Rd H a u) (x : HOk P w H h) : ObjOk P w H h a u := by
  rcases r with r | ⟨o, r⟩
  · exact x a u r
  · obtain ⟨_, q⟩ := x a _ r
    exact q
def Mut : Option HO → Prop
  | some (.lst _) => True
  | some (.dK _) => True
  | some (.dT _) => True
  | some (.set _ _) => True
  | some (.ins _ _ _) => True
  | some (.ext _) => True
  | _ => False
section
variable {P : Program} {w : World} {H : Hp} {h h' : Heap} {x e : Addr} {o' : HO}
theorem HOk.write (ok : HOk P w H h) (mu : Mut (H x)) (he : e = x ∨ H e = some (.own x)) (k : ∀ b u, b ≠ e → h.get? b = some u → h'.get? b = some u) (heo : ∃ u, h'.get? e = some u)
    (new : ObjOk P w (upd H x o') h' x o') : HOk P w (upd H x o') h' := fun b u q => by
  have nown : ∀ c y, H c = some (.own y) → c ≠ x := fun c y r z => by subst z; rw [r] at mu; exact mu
  have ntup : ∀ c xs, H c = some (.tup xs) → c ≠ x := fun c xs r z => by subst z; rw [r] at mu; exact mu
  by_cases hb : b = x
  · subst hb; rw [upd_same] at q; cases q; exact new
  · rw [upd_ne hb] at q
    by_cases hbe : b = e
    · have q' : H b = some (.own x) := by
        rcases he with z | z
        · exact absurd (hbe.trans z) hb
        · rw [hbe]; exact z
      rw [q] at q'; cases q'
      obtain ⟨v, hv⟩ := heo
      exact ⟨v, by rw [hbe]; exact hv⟩
    · refine (ok b u q).stay (fun c v hc r => k c v ?_ r) (fun c r => by rw [upd_ne (nown c b r)]; exact r) fun c xs r => by rw [upd_ne (ntup c xs r)]; exact r
      rcases hc with rfl | hc
      · exact hbe
      · rintro rfl
        rcases he with z | z
        · exact nown c b hc z
        · rw [hc] at z; cases z; exact hb rfl
end
structure Un (fs ex : List Addr) (H H' : Hp) (h h' : Heap) : Prop where
  keep : ∀ b o, h.get? b = some o → H b = none → b ∉ fs → b ∉ ex → h'.get? b = some o
  slot : ∀ b o, h.get? b = some o → H b = none → b ∈ fs → b ∉ ex → ∃ sl, h'.get? b = some { o with slots := sl }
  free : ∀ b o, h.get? b = some o → H b = none → b ∉ ex → H' b = none
  there : ∀ b o, h.get? b = some o → b ∉ ex → ∃ o', h'.get? b = some o'
  tups : ∀ b xs, H b = some (.tup xs) → H' b = some (.tup xs)
  frzs : ∀ b o u, H b = some (.frz o u) → H' b = some (.frz o u)
  tbls : ∀ b ps, H b = some (.tbl ps) → ∃ more, H' b = some (.tbl (ps ++ more))
section
variable {fs fs' ex ex' : List Addr} {H H1 H2 : Hp} {h h1 h2 h' : Heap} {a x e : Addr} {o : HO}
theorem Un.any (u : Un fs ex H H1 h h1) {b : Addr} {ob : Obj} (q : h.get? b = some ob) (n : H b = none) (hx : b ∉ ex) : ∃ sl, h1.get? b = some { ob with slots := sl } := by
  by_cases hb : b ∈ fs
  · exact u.slot b ob q n hb hx
  · exact ⟨ob.slots, u.keep b ob q n hb hx⟩
theorem Un.kept (k : ∀ b u, h.get? b = some u → h'.get? b = some u) : Un fs ex H H h h' :=
  ⟨fun b ob q _ _ _ => k b ob q, fun b ob q _ _ _ => ⟨ob.slots, k b ob q⟩, fun _ _ _ n _ => n, fun b ob q _ => ⟨ob, k b ob q⟩, fun _ _ q => q, fun _ _ _ q => q, fun _ ps q => ⟨#[], by rw [q]; simp⟩⟩
theorem Un.refl : Un fs ex H H h h := Un.kept fun _ _ q => q
theorem Un.laid (k : ∀ b u, h.get? b = some u → h'.get? b = some u) (hp : h.objs.size ≤ a) (hn : H a = none) : Un fs ex H (upd H a o) h h' where
  keep := fun b u q _ _ _ => k b u q
  slot := fun b u q _ _ _ => ⟨u.slots, k b u q⟩
  free := fun b u q n _ => by rw [upd_ne (Nat.ne_of_lt (Nat.lt_of_lt_of_le (Heap.lt_size q) hp))]; exact n
  there := fun b u q _ => ⟨u, k b u q⟩
  tups := fun b xs q => by rw [upd_ne (ne_of_none q hn)]; exact q
  frzs := fun b u xs q => by rw [upd_ne (ne_of_none q hn)]; exact q
  tbls := fun b ps q => ⟨#[], by rw [upd_ne (ne_of_none q hn), q]; simp⟩
theorem Un.write (mu : Mut (H x)) (he : e = x ∨ H e = some (.own x)) (k : ∀ b u, b ≠ e → h.get? b = some u → h'.get? b = some u) (heo : ∃ u, h'.get? e = some u) : Un fs ex H (upd H x o) h h' := by
  have hx : ∀ b, H b = none → b ≠ x := fun b n z => by subst z; rw [n] at mu; exact mu
  have hb : ∀ b, H b = none → b ≠ e := fun b n z => by
    subst z
    rcases he with r | r
    · exact hx b n r
    · rw [n] at r; cases r
  have hm : ∀ b u, H b = some u → ¬ Mut (some u) → b ≠ x := fun b u q nm z => by subst z; rw [q] at mu; exact nm mu
  refine ⟨fun b u q n _ _ => k b u (hb b n) q, fun b u q n _ _ => ⟨u.slots, k b u (hb b n) q⟩, fun b u q n _ => by rw [upd_ne (hx b n)]; exact n, fun b u q _ => ?_,
    fun b xs q => by rw [upd_ne (hm b _ q fun z => z)]; exact q, fun b u xs q => by rw [upd_ne (hm b _ q fun z => z)]; exact q, fun b ps q => ⟨#[], by rw [upd_ne (hm b _ q fun z => z), q]; simp⟩⟩
  by_cases hbe : b = e
  · subst hbe; exact heo
  · exact ⟨u, k b u hbe q⟩
end
def trk (h : Heap) (H : Hp) : List Addr := (List.range h.objs.size).filter fun a => (H a).isSome
def hidT (h : Heap) (H : Hp) : Heap := PySem.W.hideAll h (trk h H)
theorem hidT_size (h : Heap) (H : Hp) : (hidT h H).objs.size = h.objs.size := PySem.W.hideAll_size _ _
theorem hidT_get {h : Heap} {H : Hp} {b : Addr} {o : Obj} (e : h.get? b = some o) (n : H b = none) : (hidT h H).get? b = some o :=
  PySem.W.hideAll_get _ e fun hm => by
    have q : (H b).isSome = true := (List.mem_filter.mp hm).2
    rw [n] at q; simp at q
theorem of_hidT {h : Heap} {H : Hp} {b : Addr} {o : Obj} (e : (hidT h H).get? b = some o) : h.get? b = some o ∧ H b = none := by
  have e' : h.get? b = some o := PySem.W.of_hideAll (trk h H) e
  refine ⟨e', ?_⟩
  cases q : H b with
  | none => rfl
  | some x =>
    have hm : b ∈ trk h H := List.mem_filter.mpr ⟨List.mem_range.mpr (Heap.lt_size e'), by simp [q]⟩
    have z : (hidT h H).get? b = none := PySem.W.hideAll_none (trk h H) hm
    rw [z] at e; cases e
def allNews (g h : Heap) (L : Addr) : List (Addr × Obj) := (List.range h.objs.size).filterMap fun a => if a = L ∨ (g.get? a).isSome = true then none else (h.get? a).map fun o => (a, o)
def rest (g h : Heap) (L d : Addr) : List (Addr × Obj) := (allNews g h L).filter fun p => decide (p.1 ≠ d)
end L2
namespace L2
open PySem PySem.Spec PyProof.Rows
variable {q0 : Bool}
structure Mod (K : PySem.W.Frag) (mg : Str → Option Value) (base : Heap) : Prop where
  kin : K.In base
  glob : base.Ns mainGlobals mg
  blt : ∃ mb, base.Ns builtinsNs mb ∧ ∀ x : Str, x ≠ "__name__" → mb x = bootBuiltins x
  nolimit : base.NoLimit
structure Cx where
  prog : Program
  w : World
  K : PySem.W.Frag
  mg : Str → Option Value
  base : Heap
  A : Around
  N : List Str
  s₀ : Shared
  H₀ : Hp
  env : Env
  outer : List Env
  stack : List Env
  ex : List Addr
  fn : Str → Bool
  calm : Bool
  pn : List (Addr × Obj)
  xe : Value → Shared → Prop
def frs (l : List Env) : List Addr := l.filterMap (·.frame)
abbrev Cx.fs (X : Cx) : List Addr := frs X.outer
def Vis (sc : Scope) (x : Str) : Prop := sc.names.lookup x = some .local ∨ sc.names.lookup x = some .cell ∨ sc.names.lookup x = some .free
def Loc (sc : Scope) (x : Str) : Prop := sc.names.lookup x = some .local ∨ sc.names.lookup x = some .cell
def Look (env : Env) (h : Heap) (m : Str → Option Value) (x : Str) (u : Value) : Prop :=
  (env.kindOf x = some .local ∧ m x = some u) ∨ ((env.kindOf x = some .cell ∨ env.kindOf x = some .free) ∧ ∃ c, env.cells.lookup x = some c ∧ h.IsCell c (some u))
structure Cx.Ok (X : Cx) : Prop where
  mod : Mod X.K X.mg X.base
  kind : X.env.scope.kind = .function
  glob : X.env.globals = mainGlobals
  blt : X.env.builtins = builtinsNs
  above : X.s₀.heap.objs.size ≤ X.env.locals
  inj : ∀ x y c, X.env.cells.lookup x = some c → X.env.cells.lookup y = some c → x = y
  has : ∀ x, (X.env.kindOf x = some .cell ∨ X.env.kindOf x = some .free) → ∃ c, X.env.cells.lookup x = some c
  cab : ∀ x c, X.fn x = true → X.env.cells.lookup x = some c → X.s₀.heap.objs.size ≤ c
  hd : X.calm = true → X.A.handled = none
  frames : X.A.frames = some X.stack
  stk : X.stack = X.outer ∨ (X.stack = X.env :: X.outer ∧ X.env.frame = some X.env.locals)
  exf : ∀ b ∈ X.ex, b ≠ X.env.locals ∧ ∀ x c, X.env.cells.lookup x = some c → c ≠ b
  bs : ∀ b o, X.base.get? b = some o → X.s₀.heap.get? b = some o ∧ X.H₀ b = none
  bsz : X.base.objs.size ≤ X.s₀.heap.objs.size
  noex : ∀ b o, X.base.get? b = some o → b ∉ X.ex
  exfs : ∀ b ∈ X.ex, b ∉ X.fs
  funs : X.s₀.heap.FunFrames X.base X.outer
  frf : ∀ b ∈ X.fs, X.H₀ b = none
structure Inv (X : Cx) (pins : List (Addr × Obj)) (σ : List (Option V)) (H : Hp) (s : Shared) : Prop where
  ok : X.Ok
  os : s.os = X.s₀.os
  bare : AllBare s.gens
  base : Un X.fs X.ex X.H₀ H X.s₀.heap s.heap
  loc : ∃ m, s.heap.Ns X.env.locals m ∧ ∀ (i : Nat) (x : Str) (v : V), X.N[i]? = some x → σ[i]? = some (some v) → Vis X.env.scope x → ∃ u, RelV v u ∧ Look X.env s.heap m x u
  cell : ∀ x c, X.env.cells.lookup x = some c → ∃ v, s.heap.IsCell c v
  free : H X.env.locals = none
  freeC : ∀ x c, X.env.cells.lookup x = some c → H c = none
  pin : ∀ p ∈ X.pn ++ pins, s.heap.get? p.1 = some p.2 ∧ H p.1 = none ∧ p.1 ≠ X.env.locals ∧ p.1 ∉ X.fs ∧ ∀ v, p.2.data ≠ .cell v
  hok : HOk X.prog X.w H s.heap
  len : σ.length = X.N.length
section
variable {X : Cx} {pins : List (Addr × Obj)} {σ : List (Option V)} {H H' : Hp} {s : Shared} {h' : Heap}
theorem Cx.Ok.nofr (ok : X.Ok) {b : Addr} {o : Obj} (e : X.base.get? b = some o) : b ∉ X.fs := fun hb => by
  have := (ok.funs.mem hb).1
  rw [e] at this; cases this
theorem Inv.bs (I : Inv X pins σ H s) : ∀ b o, X.base.get? b = some o → s.heap.get? b = some o ∧ H b = none := fun b o e =>
  ⟨I.base.keep b o (I.ok.bs b o e).1 (I.ok.bs b o e).2 (I.ok.nofr e) (I.ok.noex b o e), I.base.free b o (I.ok.bs b o e).1 (I.ok.bs b o e).2 (I.ok.noex b o e)⟩
theorem Inv.bk (I : Inv X pins σ H s) : ∀ b o, X.base.get? b = some o → s.heap.get? b = some o := fun b o e => (I.bs b o e).1
theorem Inv.mod (I : Inv X pins σ H s) : Mod X.K X.mg X.base := I.ok.mod
theorem Inv.kIn (I : Inv X pins σ H s) : X.K.In s.heap := I.ok.mod.kin.keeps I.bk
theorem Inv.fr (I : Inv X pins σ H s) : ∃ m, Fr X.base X.env.locals s.heap m :=
  let ⟨m, hn, _⟩ := I.loc
  ⟨m, hn, I.bk, Nat.le_trans I.ok.bsz I.ok.above⟩
theorem Inv.lt (I : Inv X pins σ H s) : X.env.locals < s.heap.objs.size := let ⟨_, hn, _⟩ := I.loc; hn.lt
theorem Inv.sz (I : Inv X pins σ H s) : X.s₀.heap.objs.size ≤ s.heap.objs.size := Nat.le_trans I.ok.above (Nat.le_of_lt I.lt)
theorem Inv.nofs (I : Inv X pins σ H s) {a : Addr} (h : s.heap.objs.size ≤ a) : a ∉ X.fs := fun hb => by
  obtain ⟨_, o, ho, _⟩ := I.ok.funs.mem hb
  exact absurd (Nat.lt_of_lt_of_le (Heap.lt_size ho) (Nat.le_trans I.sz h)) (Nat.lt_irrefl _)
theorem Inv.cne (I : Inv X pins σ H s) : ∀ x c, X.env.cells.lookup x = some c → c ≠ X.env.locals := fun x c e z => by
  obtain ⟨v, o, ho, hd⟩ := I.cell x c e
  obtain ⟨m, ⟨o', es, ep, ho', hd', _⟩, _⟩ := I.loc
  rw [z, ho'] at ho; cases ho; rw [hd'] at hd; cases hd
theorem Inv.funs (I : Inv X pins σ H s) : s.heap.FunFrames X.base X.outer := by
  have all : ∀ (l : List Env), (∀ b ∈ frs l, b ∈ X.fs) → X.s₀.heap.FunFrames X.base l → s.heap.FunFrames X.base l := by
    intro l
    induction l with
    | nil => intro _ _; trivial
    | cons env r ih =>
      intro hs hl
      obtain ⟨hk, ⟨L, o, hf, hn, ho, hd⟩, hr⟩ := hl
      have hL : L ∈ X.fs := hs L (by unfold frs; rw [List.filterMap_cons, hf]; exact List.mem_cons_self)
      obtain ⟨sl, e⟩ := I.base.slot L o ho (I.ok.frf L hL) hL fun z => I.ok.exfs L z hL
      exact ⟨hk, ⟨L, _, hf, hn, e, hd⟩, ih (fun b hb => hs b (by unfold frs; rw [List.filterMap_cons, hf]; exact List.mem_cons_of_mem _ hb)) hr⟩
  exact all X.outer (fun _ hb => hb) I.ok.funs
theorem Inv.stack (I : Inv X pins σ H s) : s.heap.FunFrames X.base X.stack := by
  rcases I.ok.stk with e | ⟨e, hf⟩
  · rw [e]; exact I.funs
  · rw [e]
    obtain ⟨m, hn, _⟩ := I.loc
    refine .cons (by rw [I.ok.kind]; decide) hf hn ?_ I.funs
    exact Heap.get?_none_of_le (Nat.le_trans I.ok.bsz I.ok.above)
theorem Inv.stkSub (I : Inv X pins σ H s) : ∀ b ∈ frs X.stack, b ∈ X.env.locals :: X.fs := fun b hb => by
  rcases I.ok.stk with e | ⟨e, hf⟩
  · rw [e] at hb; exact List.mem_cons_of_mem _ hb
  · rw [e] at hb
    unfold frs at hb
    rw [List.filterMap_cons, hf] at hb
    exact hb
theorem Inv.stkFree (I : Inv X pins σ H s) : ∀ b ∈ frs X.stack, H b = none := fun b hb => by
  rcases List.mem_cons.mp (I.stkSub b hb) with e | hb
  · rw [e]; exact I.free
  · obtain ⟨_, o, ho, _⟩ := I.ok.funs.mem hb
    exact I.base.free b o ho (I.ok.frf b hb) fun z => I.ok.exfs b z hb
theorem Inv.step {g' : Array GenState} {t' : Nat} {d' : Drawn} {ch : List Addr} (I : Inv X pins σ H s)
    (hch : ∀ b ∈ ch, (b ∈ X.ex ∨ X.s₀.heap.objs.size ≤ b) ∧ b ≠ X.env.locals ∧ (∀ x c, X.env.cells.lookup x = some c → c ≠ b) ∧ ∀ p ∈ X.pn ++ pins, p.1 ≠ b)
    (keep : ∀ b o, b ≠ X.env.locals → b ∉ X.fs → b ∉ ch → s.heap.get? b = some o → H b = none → h'.get? b = some o)
    (slot : ∀ b o, b ≠ X.env.locals → b ∈ X.fs → b ∉ ch → s.heap.get? b = some o → H b = none → ∃ sl, h'.get? b = some { o with slots := sl }) (free : ∀ b o, b ∉ ch → s.heap.get? b = some o → H b = none → H' b = none)
    (there : ∀ b o, b ∉ ch → s.heap.get? b = some o → ∃ o', h'.get? b = some o')
    (tups : ∀ b xs, H b = some (.tup xs) → H' b = some (.tup xs)) (frzs : ∀ b o u, H b = some (.frz o u) → H' b = some (.frz o u)) (tbls : ∀ b ps, H b = some (.tbl ps) → ∃ more, H' b = some (.tbl (ps ++ more)))
    (ns : ∀ m, s.heap.Ns X.env.locals m → h'.Ns X.env.locals m) (hok : HOk X.prog X.w H' h') (hg : AllBare g') :
    Inv X pins σ H' { s with heap := h', gens := g', drawn := d', toks := t' } := by
  have neL : ∀ b o, X.s₀.heap.get? b = some o → b ≠ X.env.locals := fun b o e => Nat.ne_of_lt (Nat.lt_of_lt_of_le (Heap.lt_size e) I.ok.above)
  have neC : ∀ b o, X.s₀.heap.get? b = some o → b ∉ X.ex → b ∉ ch := fun b o e hx hb => by
    rcases (hch b hb).1 with z | z
    · exact hx z
    · exact absurd (Nat.lt_of_lt_of_le (Heap.lt_size e) z) (Nat.lt_irrefl _)
  have cellK : ∀ x c, X.env.cells.lookup x = some c → ∀ v, s.heap.IsCell c v → h'.IsCell c v := fun x c e v ⟨o, ho, hd⟩ => by
    have nch : c ∉ ch := fun z => (hch c z).2.2.1 x c e rfl
    by_cases hc : c ∈ X.fs
    · obtain ⟨sl, q⟩ := slot c o (I.cne x c e) hc nch ho (I.freeC x c e)
      exact ⟨_, q, hd⟩
    · exact ⟨o, keep c o (I.cne x c e) hc nch ho (I.freeC x c e), hd⟩
  refine ⟨I.ok, I.os, hg, ⟨fun b o e n hb hx => ?_, fun b o e n hb hx => ?_, fun b o e n hx => ?_, fun b o e hx => ?_, fun b xs e => tups b xs (I.base.tups b xs e), fun b o xs e => frzs b o xs (I.base.frzs b o xs e), fun b ps e => ?_⟩, ?_, fun x c e => ?_, ?_, fun x c e => ?_, fun p hp => ?_, hok, I.len⟩
  · exact keep b o (neL b o e) hb (neC b o e hx) (I.base.keep b o e n hb hx) (I.base.free b o e n hx)
  · obtain ⟨sl, e1⟩ := I.base.slot b o e n hb hx
    obtain ⟨sl', e2⟩ := slot b _ (neL b o e) hb (neC b o e hx) e1 (I.base.free b o e n hx)
    exact ⟨sl', e2⟩
  · obtain ⟨o', e1⟩ := I.base.there b o e hx
    exact free b o' (neC b o e hx) e1 (I.base.free b o e n hx)
  · obtain ⟨o', e1⟩ := I.base.there b o e hx
    exact there b o' (neC b o e hx) e1
  · obtain ⟨m1, e1⟩ := I.base.tbls b ps e
    obtain ⟨m2, e2⟩ := tbls b _ e1
    exact ⟨m1 ++ m2, by rw [e2, Array.append_assoc]⟩
  · obtain ⟨m, hn, hl⟩ := I.loc
    refine ⟨m, ns m hn, fun i x v e1 e2 e3 => ?_⟩
    obtain ⟨u, r, l⟩ := hl i x v e1 e2 e3
    refine ⟨u, r, ?_⟩
    rcases l with l | ⟨k, c, e, z⟩
    · exact .inl l
    · exact .inr ⟨k, c, e, cellK x c e _ z⟩
  · obtain ⟨v, z⟩ := I.cell x c e
    exact ⟨v, cellK x c e v z⟩
  · obtain ⟨m, ⟨o, _, _, ho, _⟩, _⟩ := I.loc
    exact free _ o (fun z => (hch _ z).2.1 rfl) ho I.free
  · obtain ⟨v, o, ho, hd⟩ := I.cell x c e
    exact free c o (fun z => (hch c z).2.2.1 x c e rfl) ho (I.freeC x c e)
  · obtain ⟨e, n, ne, nf, d⟩ := I.pin p hp
    have nch : p.1 ∉ ch := fun z => (hch p.1 z).2.2.2 p hp rfl
    exact ⟨keep p.1 p.2 ne nf nch e n, free p.1 p.2 nch e n, ne, nf, d⟩
theorem Inv.un {t' : Nat} (I : Inv X pins σ H s) (u : Un X.fs [] H H' s.heap h') (hok : HOk X.prog X.w H' h') : Inv X pins σ H' { s with heap := h', toks := t' } := by
  obtain ⟨m, ⟨o, es, ep, ho, r⟩, _⟩ := id I.loc
  obtain ⟨sl, hL⟩ := u.any ho I.free (by simp)
  exact I.step (g' := s.gens) (d' := s.drawn) (ch := []) (fun _ z => nomatch z) (fun b o _ hb _ e n => u.keep b o e n hb (by simp)) (fun b o _ hb _ e n => u.slot b o e n hb (by simp)) (fun b o _ e n => u.free b o e n (by simp)) (fun b o _ e => u.there b o e (by simp)) u.tups u.frzs u.tbls (fun m' hm => by
    obtain ⟨o', es', ep', ho', r'⟩ := hm
    rw [ho] at ho'; cases ho'
    exact ⟨_, es', ep', hL, r'⟩) hok I.bare
theorem Inv.call {g' : Array GenState} {t' : Nat} {d' : Drawn} {ch : List Addr} (I : Inv X pins σ H s) (u : Un (frs X.stack) ch H H' s.heap h') (hok : HOk X.prog X.w H' h') (hg : AllBare g')
    (hch : ∀ b ∈ ch, (b ∈ X.ex ∨ X.s₀.heap.objs.size ≤ b) ∧ b ≠ X.env.locals ∧ (∀ x c, X.env.cells.lookup x = some c → c ≠ b) ∧ ∀ p ∈ X.pn ++ pins, p.1 ≠ b) :
    Inv X pins σ H' { s with heap := h', gens := g', drawn := d', toks := t' } := by
  obtain ⟨m, ⟨o, es, ep, ho, r⟩, _⟩ := id I.loc
  obtain ⟨sl, hL⟩ := u.any ho I.free fun z => (hch _ z).2.1 rfl
  exact I.step (ch := ch) hch (fun b o hL hb hc e n => u.keep b o e n (fun z => (List.mem_cons.mp (I.stkSub b z)).elim hL hb) hc) (fun b o _ _ hc e n => u.any e n hc) (fun b o hc e n => u.free b o e n hc) (fun b o hc e => u.there b o e hc) u.tups u.frzs u.tbls (fun m' hm => by
    obtain ⟨o', es', ep', ho', r'⟩ := hm
    rw [ho] at ho'; cases ho'
    exact ⟨_, es', ep', hL, r'⟩) hok hg
theorem Inv.turned {t' : Nat} {it : Addr} (I : Inv X pins σ H s) (k : ∀ b o, b ≠ it → s.heap.get? b = some o → h'.get? b = some o) (hn : H it = none) (hL : it ≠ X.env.locals)
    (h1 : it ∈ X.ex ∨ X.s₀.heap.objs.size ≤ it) (h2 : ∀ x c, X.env.cells.lookup x = some c → c ≠ it) (h3 : ∀ p ∈ X.pn ++ pins, p.1 ≠ it) : Inv X pins σ H { s with heap := h', toks := t' } := by
  have nit : ∀ b u, H b = some u → b ≠ it := fun b u e z => by rw [z, hn] at e; cases e
  refine I.step (g' := s.gens) (d' := s.drawn) (ch := [it]) (fun b hb => ?_) (fun b o _ _ hc e _ => k b o (fun z => hc (by simp [z])) e) (fun b o _ _ hc e _ => ⟨o.slots, k b o (fun z => hc (by simp [z])) e⟩) (fun _ _ _ _ n => n)
    (fun b o hc e => ⟨o, k b o (fun z => hc (by simp [z])) e⟩) (fun _ _ e => e) (fun _ _ _ e => e) (fun b ps e => ⟨#[], by rw [e]; simp⟩) (fun m hm => ?_) (fun b u e => ?_) I.bare
  · have e : b = it := by simpa using hb
    subst e
    exact ⟨h1, hL, h2, h3⟩
  · obtain ⟨o, es, ep, ho, r⟩ := hm
    exact ⟨o, es, ep, k _ o (Ne.symm hL) ho, r⟩
  · refine (I.hok b u e).stay (fun c v hc q => k c v ?_ q) (fun _ q => q) fun _ _ q => q
    rcases hc with z | z
    · rw [z]; exact nit b u e
    · exact nit c _ z
theorem Inv.tok (I : Inv X pins σ H s) (t : Nat) : Inv X pins σ H { s with toks := t } := I.un (h' := s.heap) (t' := t) Un.refl I.hok
theorem Inv.kept {t' : Nat} (I : Inv X pins σ H s) (k : ∀ b u, s.heap.get? b = some u → h'.get? b = some u) : Inv X pins σ H { s with heap := h', toks := t' } := I.un (Un.kept k) (I.hok.kept k)
theorem Inv.laid {a : Addr} {o : HO} {t' : Nat} (I : Inv X pins σ H s) (k : ∀ b u, s.heap.get? b = some u → h'.get? b = some u) (hp : s.heap.objs.size ≤ a) (new : ObjOk X.prog X.w (upd H a o) h' a o) :
    Inv X pins σ (upd H a o) { s with heap := h', toks := t' } := I.un (Un.laid k hp (I.hok.fresh hp)) (I.hok.laid k hp new)
theorem Inv.write {x e : Addr} {o : HO} {t' : Nat} (I : Inv X pins σ H s) (mu : Mut (H x)) (he : e = x ∨ H e = some (.own x)) (k : ∀ b u, b ≠ e → s.heap.get? b = some u → h'.get? b = some u) (heo : ∃ u, h'.get? e = some u)
    (new : ObjOk X.prog X.w (upd H x o) h' x o) : Inv X pins σ (upd H x o) { s with heap := h', toks := t' } := I.un (Un.write mu he k heo) (I.hok.write mu he k heo new)
theorem Inv.weak {σ' : List (Option V)} (I : Inv X pins σ H s) (hl : σ'.length = σ.length) (w : ∀ (i : Nat) v, σ'[i]? = some (some v) → σ[i]? = some (some v)) : Inv X pins σ' H s :=
  ⟨I.ok, I.os, I.bare, I.base, let ⟨m, hn, hl'⟩ := I.loc; ⟨m, hn, fun i x v e1 e2 e3 => hl' i x v e1 (w i v e2) e3⟩, I.cell, I.free, I.freeC, I.pin, I.hok, hl.trans I.len⟩
theorem Inv.pins_of {pins' : List (Addr × Obj)} (I : Inv X pins σ H s) (h : ∀ p ∈ pins', s.heap.get? p.1 = some p.2 ∧ H p.1 = none ∧ p.1 ≠ X.env.locals ∧ p.1 ∉ X.fs ∧ ∀ v, p.2.data ≠ .cell v) : Inv X pins' σ H s :=
  ⟨I.ok, I.os, I.bare, I.base, I.loc, I.cell, I.free, I.freeC, fun p hp => (List.mem_append.mp hp).elim (fun z => I.pin p (List.mem_append_left _ z)) (h p), I.hok, I.len⟩
theorem nodup_ix {N : List Str} (hN : N.Nodup) {i j : Nat} {x : Str} (a : N[i]? = some x) (b : N[j]? = some x) : i = j := by
  obtain ⟨h1, e1⟩ := List.getElem?_eq_some_iff.mp a
  obtain ⟨h2, e2⟩ := List.getElem?_eq_some_iff.mp b
  exact (List.getElem_inj hN).mp (e1.trans e2.symm)
theorem store_ok2 {M : Model} {A : Around} {E : Value → Shared → Prop} {i : Nat} {x : Str} {v : V} {u : Value} {Q : Unit → Shared → Prop} (I : Inv X pins σ H s) (hN : X.N.Nodup) (hi : X.N[i]? = some x) (hx : Loc X.env.scope x) (r : RelV v u)
    (h : ∀ s', Inv X pins (σ.set i (some v)) H s' → (∃ a, Heap.SameBut a s.heap s'.heap ∧ (a = X.env.locals ∨ X.env.cells.lookup x = some a)) → Q () s') (hf : X.fn x = true ∨ X.env.scope.names.lookup x = some .local := by first | exact .inl rfl | exact .inr rfl | assumption) : wpAny M A (storeName X.env x u) Q E s := by
  obtain ⟨m, hn, hl⟩ := id I.loc
  have hcls : (X.env.scope.kind == .class || (X.env.scope.kind == .module && X.env.locals != X.env.globals)) = false := by rw [I.ok.kind]; rfl
  have hiσ : i < σ.length := by rw [I.len]; exact (List.getElem?_eq_some_iff.mp hi).1
  have cne := I.cne
  have tracked : ∀ {a : Addr} {h' : Heap}, (∃ o, s.heap.get? a = some o ∧ H a = none) → Heap.SameBut a s.heap h' → HOk X.prog X.w H h' := fun {a h'} ha hs b ob e => by
    obtain ⟨_, _, hfree⟩ := ha
    refine (I.hok b ob e).stay (fun c w' hc q => (hs.2 c ?_).trans q) (fun _ q => q) fun _ _ q => q
    rintro rfl
    rcases hc with rfl | hc
    · rw [hfree] at e; cases e
    · rw [hfree] at hc; cases hc
  rcases hx with hk | hk
  · refine wpAny_storeName_local hk hn (fun h' hn' hs => ?_) hcls
    obtain ⟨oL, _, _, hoL, _⟩ := id hn
    refine h _ ⟨I.ok, I.os, I.bare, ⟨fun b o e n hb hx => ?_, fun b o e n hb hx => ?_, I.base.free, fun b o e hx => ?_, I.base.tups, I.base.frzs, I.base.tbls⟩, ⟨_, hn', fun j y v' e1 e2 e3 => ?_⟩, fun y c e => ?_, I.free, I.freeC, fun p hp => ?_, tracked ⟨oL, hoL, I.free⟩ hs, by simpa using I.len⟩ ⟨_, hs, .inl rfl⟩
    · exact (hs.2 b (Nat.ne_of_lt (Nat.lt_of_lt_of_le (Heap.lt_size e) I.ok.above))).trans (I.base.keep b o e n hb hx)
    · obtain ⟨sl, e1⟩ := I.base.slot b o e n hb hx
      exact ⟨sl, (hs.2 b (Nat.ne_of_lt (Nat.lt_of_lt_of_le (Heap.lt_size e) I.ok.above))).trans e1⟩
    · obtain ⟨o', e1⟩ := I.base.there b o e hx
      exact ⟨o', (hs.2 b (Nat.ne_of_lt (Nat.lt_of_lt_of_le (Heap.lt_size e) I.ok.above))).trans e1⟩
    · by_cases hj : j = i
      · subst hj
        rw [hi] at e1; cases e1
        rw [List.getElem?_set_self hiσ] at e2
        cases e2
        exact ⟨u, r, .inl ⟨hk, by simp⟩⟩
      · rw [List.getElem?_set_ne (Ne.symm hj)] at e2
        obtain ⟨u', r', q⟩ := hl j y v' e1 e2 e3
        refine ⟨u', r', ?_⟩
        rcases q with ⟨k, e⟩ | ⟨k, c, e, z⟩
        · refine .inl ⟨k, ?_⟩
          have : y ≠ x := fun e => hj (nodup_ix hN e1 (e ▸ hi))
          simp [this, e]
        · exact .inr ⟨k, c, e, z.sameBut hs (cne y c e)⟩
    · obtain ⟨w', z⟩ := I.cell y c e
      exact ⟨w', z.sameBut hs (cne y c e)⟩
    · obtain ⟨e, n, ne, nf, d⟩ := I.pin p hp
      exact ⟨(hs.2 p.1 ne).trans e, n, ne, nf, d⟩
  · have hfn : X.fn x = true := by
      rcases hf with z | z
      · exact z
      · rw [z] at hk; cases hk
    obtain ⟨c, hc⟩ := I.ok.has x (.inl hk)
    obtain ⟨w', z⟩ := I.cell x c hc
    refine wpAny_storeName_cell I.ok.kind hk hc z (fun h' hc' hs => ?_)
    obtain ⟨oc, hoc, hocd⟩ := id z
    refine h { s with heap := h' } ⟨I.ok, I.os, I.bare, ⟨fun b o e n hb hx => ?_, fun b o e n hb hx => ?_, I.base.free, fun b o e hx => ?_, I.base.tups, I.base.frzs, I.base.tbls⟩, ⟨m, hn.sameBut hs (Ne.symm (cne x c hc)), fun j y v' e1 e2 e3 => ?_⟩, fun y c' e => ?_, I.free, I.freeC, fun p hp => ?_, tracked ⟨oc, hoc, I.freeC x c hc⟩ hs, by simpa using I.len⟩ ⟨c, hs, .inr hc⟩
    · exact (hs.2 b (Nat.ne_of_lt (Nat.lt_of_lt_of_le (Heap.lt_size e) (I.ok.cab x c hfn hc)))).trans (I.base.keep b o e n hb hx)
    · obtain ⟨sl, e1⟩ := I.base.slot b o e n hb hx
      exact ⟨sl, (hs.2 b (Nat.ne_of_lt (Nat.lt_of_lt_of_le (Heap.lt_size e) (I.ok.cab x c hfn hc)))).trans e1⟩
    · obtain ⟨o', e1⟩ := I.base.there b o e hx
      exact ⟨o', (hs.2 b (Nat.ne_of_lt (Nat.lt_of_lt_of_le (Heap.lt_size e) (I.ok.cab x c hfn hc)))).trans e1⟩
    · by_cases hj : j = i
      · subst hj
        rw [hi] at e1; cases e1
        rw [List.getElem?_set_self hiσ] at e2
        cases e2
        exact ⟨u, r, .inr ⟨.inl hk, c, hc, hc'⟩⟩
      · rw [List.getElem?_set_ne (Ne.symm hj)] at e2
        obtain ⟨u', r', q⟩ := hl j y v' e1 e2 e3
        refine ⟨u', r', ?_⟩
        rcases q with q | ⟨k, c', e, z'⟩
        · exact .inl q
        · refine .inr ⟨k, c', e, z'.sameBut hs ?_⟩
          rintro rfl
          exact hj (nodup_ix hN e1 (I.ok.inj _ _ _ e hc ▸ hi))
    · by_cases hcc : c' = c
      · subst hcc; exact ⟨_, hc'⟩
      · obtain ⟨w2, z2⟩ := I.cell y c' e
        exact ⟨w2, z2.sameBut hs hcc⟩
    · obtain ⟨e, n, ne, nf, d⟩ := I.pin p hp
      refine ⟨(hs.2 p.1 ?_).trans e, n, ne, nf, d⟩
      intro q
      rw [q, hoc] at e
      have q' : oc = p.2 := Option.some.inj e
      exact d w' (by rw [← q']; exact hocd)
theorem store_ok {M : Model} {A : Around} {E : Value → Shared → Prop} {i : Nat} {x : Str} {v : V} {u : Value} {Q : Unit → Shared → Prop} (I : Inv X pins σ H s) (hN : X.N.Nodup) (hi : X.N[i]? = some x) (hx : Loc X.env.scope x) (r : RelV v u)
    (h : ∀ s', Inv X pins (σ.set i (some v)) H s' → Q () s') (hf : X.fn x = true ∨ X.env.scope.names.lookup x = some .local := by first | exact .inl rfl | exact .inr rfl | assumption) : wpAny M A (storeName X.env x u) Q E s :=
  store_ok2 I hN hi hx r (fun s' I' _ => h s' I') hf
theorem Inv.call' {s' : Shared} {ch : List Addr} (I : Inv X pins σ H s) (ho : s'.os = s.os) (u : Un (frs X.stack) ch H H' s.heap s'.heap) (hok : HOk X.prog X.w H' s'.heap) (hg : AllBare s'.gens)
    (hch : ∀ b ∈ ch, (b ∈ X.ex ∨ X.s₀.heap.objs.size ≤ b) ∧ b ≠ X.env.locals ∧ (∀ x c, X.env.cells.lookup x = some c → c ≠ b) ∧ ∀ p ∈ X.pn ++ pins, p.1 ≠ b) : Inv X pins σ H' s' := by
  obtain ⟨h', g', d', t', o'⟩ := s'
  have e : o' = s.os := ho
  subst e
  exact I.call (g' := g') (t' := t') (d' := d') u hok hg hch
end
abbrev XK := Addr → Addr → Hp → Prop
abbrev St := List (Option V)
abbrev VK := V → Hp → Prop
abbrev TE := St → Hp → VK → Prop
abbrev TT := St → Hp → (Bool → Hp → Prop) → Prop
abbrev TA := St → Hp → (List V → Hp → Prop) → Prop
structure Ends where
  nx : St → Hp → Prop
  rt : VK
  bk : St → Hp → Prop := fun _ _ => False
  ct : St → Hp → Prop := fun _ _ => False
abbrev TS := Ends → St → Hp → Prop
def EP (X : Cx) (pins : List (Addr × Obj)) (σ : St) (Q : VK) (u : Value) (s' : Shared) : Prop := ∃ v H', Inv X pins σ H' s' ∧ RelV v u ∧ Q v H'
def TP (X : Cx) (pins : List (Addr × Obj)) (σ : St) (Q : Bool → Hp → Prop) (b : Bool) (s' : Shared) : Prop := ∃ H', Inv X pins σ H' s' ∧ Q b H'
def AP (X : Cx) (pins : List (Addr × Obj)) (σ : St) (Q : List V → Hp → Prop) (us : List Value) (s' : Shared) : Prop := ∃ vs H', Inv X pins σ H' s' ∧ Vals vs us ∧ Q vs H'
def SP (X : Cx) (pins : List (Addr × Obj)) (D : Ends) (f : Flow) (s' : Shared) : Prop :=
  match f with
  | .next => ∃ σ' H', Inv X pins σ' H' s' ∧ D.nx σ' H'
  | .brk => ∃ σ' H', Inv X pins σ' H' s' ∧ D.bk σ' H'
  | .cont => ∃ σ' H', Inv X pins σ' H' s' ∧ D.ct σ' H'
  | .ret u => ∃ v σ' H', Inv X pins σ' H' s' ∧ RelV v u ∧ D.rt v H'
def PE (X : Cx) (e : Expr) (t : TE) : Prop :=
  ∀ (pins : List (Addr × Obj)) (s : Shared) (σ : St) (H : Hp) (Q : VK), Inv X pins σ H s → t σ H Q → wpAny (model X.prog X.w) X.A (eval e X.env) (EP X pins σ Q) X.xe s
def PT (X : Cx) (e : Expr) (t : TT) : Prop :=
  ∀ (pins : List (Addr × Obj)) (s : Shared) (σ : St) (H : Hp) (Q : Bool → Hp → Prop), Inv X pins σ H s → t σ H Q → wpAny (model X.prog X.w) X.A (isTrue e X.env (eval e X.env)) (TP X pins σ Q) X.xe s
def PW (X : Cx) (e : Expr) (t : TT) : Prop :=
  ∀ (whole : Sem Value) (pins : List (Addr × Obj)) (s : Shared) (σ : St) (H : Hp) (Q : Bool → Hp → Prop), Inv X pins σ H s → t σ H Q → wpAny (model X.prog X.w) X.A (isTrue e X.env whole) (TP X pins σ Q) X.xe s
theorem PW.pt {X : Cx} {e : Expr} {t : TT} (h : PW X e t) : PT X e t := h _
def PA (X : Cx) (es : List Expr) (t : TA) : Prop :=
  ∀ (pos : Pos) (pins : List (Addr × Obj)) (s : Shared) (σ : St) (H : Hp) (Q : List V → Hp → Prop), Inv X pins σ H s → t σ H Q → wpAny (model X.prog X.w) X.A (spliced (backTo pos (starEach es X.env))) (AP X pins σ Q) X.xe s
def PS (X : Cx) (st : Stmt) (t : TS) : Prop :=
  ∀ (pins : List (Addr × Obj)) (s : Shared) (σ : St) (H : Hp) (D : Ends), Inv X pins σ H s → t D σ H → wpAny (model X.prog X.w) X.A (exec st X.env) (SP X pins D) X.xe s
def PSs (X : Cx) (st : List Stmt) (t : TS) : Prop :=
  ∀ (pins : List (Addr × Obj)) (s : Shared) (σ : St) (H : Hp) (D : Ends), Inv X pins σ H s → t D σ H → wpAny (model X.prog X.w) X.A (execs st X.env) (SP X pins D) X.xe s
theorem thn {α : Type} {t : Sem α} {Q Q' : α → Shared → Prop} {M : Model} {A : Around} {E : Value → Shared → Prop} {s : Shared} (h : wpAny M A t Q E s) (hQ : ∀ a s, Q a s → Q' a s) : wpAny M A t Q' E s := wpAny_mono h hQ fun _ _ x => x
end L2
namespace L2
open PySem PySem.Spec PyProof.Rows
variable {q0 : Bool}
section
variable {X : Cx}
def tVar (i : Nat) : TE := fun σ H Q => ∃ v, σ[i]? = some (some v) ∧ Q v H
def tC (v : V) : TE := fun _ H Q => Q v H
theorem pe_var {i : Nat} {x : Str} {pos : Pos} (hN : X.N[i]? = some x) (hv : Vis X.env.scope x) (hd : (x == ("__debug__" : Str)) = false := by decide) (hcd : (x == ("__classdict__" : Str)) = false := by decide) : PE X (.Name x pos) (tVar i) := by
  intro pins s σ H Q I h
  obtain ⟨v, e, h⟩ := h
  obtain ⟨m, hn, hl⟩ := I.loc
  obtain ⟨u, r, l⟩ := hl i x v hN e hv
  have fin : EP X pins σ Q u s := ⟨v, H, I, r, h⟩
  rcases l with ⟨hk, hm⟩ | ⟨hk, c, hc, hcell⟩
  · exact wpAny_Name (wpAny_loadName_local I.ok.kind hk hn hm fin) hd
  · rcases hk with hk | hk
    · exact wpAny_Name (wpAny_loadName_cell I.ok.kind hk hc hcell fin) hd
    · exact wpAny_Name (wpAny_loadName_free I.ok.kind hk hc hcell fin hcd) hd
theorem pe_int {i j pos} : PE X (.Constant (.int i) j pos) (tC (.int i)) := fun _ _ _ H _ I h => wpAny_Constant_int ⟨.int i, H, I.tok _, ⟨_, rfl⟩, h⟩
theorem pe_bl {b j pos} : PE X (.Constant (.bool b) j pos) (tC (.bl b)) := fun _ _ _ H _ I h => Constant_bool ⟨.bl b, H, I, rfl, h⟩
theorem pe_non {j pos} : PE X (.Constant .none j pos) (tC .non) := fun _ _ _ H _ I h => Constant_none ⟨.non, H, I, rfl, h⟩
theorem pe_str {x j pos} : PE X (.Constant (.str x) j pos) (tC (.str x)) := fun _ _ _ H _ I h => Calls.Constant_str ⟨.str x, H, I.tok _, ⟨_, rfl⟩, h⟩
def Gl (X : Cx) (x : Str) : Prop := X.env.kindOf x = some .globalImplicit
theorem ld_glob {E : Value → Shared → Prop} {pins : List (Addr × Obj)} {s : Shared} {σ : St} {H : Hp} {x : Str} {u : Value} {pos : Pos} {Q : Value → Shared → Prop} (I : Inv X pins σ H s) (hg : Gl X x) (hm : X.mg x = some u) (h : Q u s)
    (hd : (x == ("__debug__" : Str)) = false := by decide) : wpAny (model X.prog X.w) X.A (eval (.Name x pos) X.env) Q E s :=
  Calls.Name_function_global I.ok.kind hg (Calls.loadGlobal_global (by rw [I.ok.glob]; exact I.mod.glob.keeps I.bk) hm h) hd
theorem ld_blt {E : Value → Shared → Prop} {pins : List (Addr × Obj)} {s : Shared} {σ : St} {H : Hp} {x : Str} {u : Value} {pos : Pos} {Q : Value → Shared → Prop} (I : Inv X pins σ H s) (hg : Gl X x) (hm : X.mg x = none) (hv : bootBuiltins x = some u) (h : Q u s)
    (hn : x ≠ "__name__" := by decide) (hd : (x == ("__debug__" : Str)) = false := by decide) : wpAny (model X.prog X.w) X.A (eval (.Name x pos) X.env) Q E s := by
  obtain ⟨mb, h1, h2⟩ := I.mod.blt
  exact Calls.Name_function_global I.ok.kind hg (Calls.loadGlobal_builtin (by rw [I.ok.glob]; exact I.mod.glob.keeps I.bk) hm (by rw [I.ok.blt]; exact h1.keeps I.bk) ((h2 x hn).trans hv) h) hd
theorem pe_glob {x : Str} {v : V} {u : Value} {pos : Pos} (hg : Gl X x) (hm : X.mg x = some u) (r : RelV v u) (hd : (x == ("__debug__" : Str)) = false := by decide) : PE X (.Name x pos) (tC v) :=
  fun _ _ _ H _ I h => ld_glob I hg hm ⟨v, H, I, r, h⟩ hd
theorem pe_bltn {x : Str} {v : V} {u : Value} {pos : Pos} (hg : Gl X x) (hm : X.mg x = none) (hv : bootBuiltins x = some u) (r : RelV v u) (hn : x ≠ "__name__" := by decide) (hd : (x == ("__debug__" : Str)) = false := by decide) : PE X (.Name x pos) (tC v) :=
  fun _ _ _ H _ I h => ld_blt I hg hm hv ⟨v, H, I, r, h⟩ hn hd
variable {a b : Expr} {ta tb : TE} {pos : Pos}
def PC (X : Cx) (op : CmpOp) (a b : Expr) (t : TE) : Prop :=
  ∀ (pins : List (Addr × Obj)) (s : Shared) (σ : St) (H : Hp) (Q : VK), Inv X pins σ H s → t σ H Q →
    wpAny (model X.prog X.w) X.A (eval a X.env) (fun v s₁ => wpAny (model X.prog X.w) X.A (eval b X.env) (fun u s₂ => wpAny (model X.prog X.w) X.A (compareOp op v u) (EP X pins σ Q) X.xe s₂) X.xe s₁) X.xe s
theorem nobehind (b : Expr) {op : CmpOp} (h : op ≠ .In) (h2 : op ≠ .NotIn) : behindInMarks op b = false := by
  have e1 : (op == CmpOp.In) = false := by cases op <;> first | rfl | exact absurd rfl h
  have e2 : (op == CmpOp.NotIn) = false := by cases op <;> first | rfl | exact absurd rfl h2
  cases b <;> simp [behindInMarks, e1, e2]
def tB (t : TE) : TT := fun σ H Q => t σ H fun x H1 => ∃ c, x = .bl c ∧ Q c H1
theorem pt_cmp {op : CmpOp} {t : TE} (h : PC X op a b t) (h1 : behindInMarks op b = false := by first | exact nobehind _ (by decide) (by decide) | rfl) : PT X (.Compare a [op] [b] pos) (tB t) := by
  intro pins s σ H Q I hw
  refine wpAny_isTrue_Compare1 (thn (h pins s σ H _ I hw) fun v s1 h1 => thn h1 fun u s2 h2 => thn h2 fun c s3 ⟨x, H1, I1, r1, q1⟩ => ?_) h1
  obtain ⟨d, rfl, q⟩ := q1
  cases r1
  exact wpAny_truthy_bool ⟨H1, I1, q⟩
theorem pt_val {e : Expr} {t : TE} (h : PE X e t) (he : ∀ whole, isTrue e X.env whole = (do let v ← whole; standAt e.pos; holding [v] (truthy v)) := by intro _; rfl) : PT X e (tB t) := by
  intro pins s σ H Q I hw
  refine isTrue_plain (thn (h pins s σ H _ I hw) fun v s1 ⟨x, H1, I1, r1, q1⟩ => ?_) (he _)
  obtain ⟨d, rfl, q⟩ := q1
  cases r1
  exact wpAny_truthy_bool ⟨H1, I1, q⟩
variable {tA tB' : TT} {rest : List Expr}
def tOr (t u : TT) : TT := fun σ H Q => t σ H fun c H1 => if c = true then Q true H1 else u σ H1 Q
def tNot (t : TT) : TT := fun σ H Q => t σ H fun c H1 => Q (!c) H1
theorem pw_or1 (ha : PT X a tA) : PW X (.BoolOp .Or [a] pos) tA := by
  intro wh pins s σ H Q I h
  refine isTrue_or (thn (ha pins s σ H Q I h) fun c s1 e => ?_)
  cases c with
  | false => exact isTrue_or_nil e
  | true => exact e
theorem pw_or (ha : PT X a tA) (hb : PW X (.BoolOp .Or (b :: rest) pos) tB') : PW X (.BoolOp .Or (a :: b :: rest) pos) (tOr tA tB') := by
  intro wh pins s σ H Q I h
  refine isTrue_or (thn (ha pins s σ H _ I h) fun c s1 ⟨H1, I1, q1⟩ => ?_)
  cases c with
  | true => exact ⟨H1, I1, q1⟩
  | false => exact hb wh pins s1 σ H1 Q I1 q1
theorem pt_not (ha : PT X a tA) : PT X (.UnaryOp .Not a pos) (tNot tA) := by
  intro pins s σ H Q I h
  exact isTrue_not (ha pins s σ H (fun c H1 => Q (!c) H1) I h)
def tAndV (ta tb : TE) : TE := fun σ H Q => ta σ H fun x H1 => ∃ c, x = .bl c ∧ if c = true then tb σ H1 Q else Q (.bl false) H1
def tNotV (ta : TE) : TE := fun σ H Q => ta σ H fun x H1 => ∃ c, x = .bl c ∧ Q (.bl (!c)) H1
theorem pe_one {op} {t : TE} (h : PE X a t) : PE X (.BoolOp op [a] pos) t := fun pins s σ H Q I hw => BoolOp_one (h pins s σ H Q I hw)
theorem pe_and (ha : PE X a ta) (hb : PE X (.BoolOp .And (b :: rest) pos) tb) : PE X (.BoolOp .And (a :: b :: rest) pos) (tAndV ta tb) := by
  intro pins s σ H Q I h
  refine BoolOp_and (thn (ha pins s σ H _ I h) fun v s1 ⟨x, H1, I1, r1, q1⟩ => ?_)
  obtain ⟨c, rfl, q1⟩ := q1
  cases r1
  refine wpAny_truthy_bool ?_
  cases c with
  | true => exact hb pins s1 σ H1 Q I1 q1
  | false => exact ⟨.bl false, H1, I1, rfl, q1⟩
theorem pe_not (ha : PE X a ta) : PE X (.UnaryOp .Not a pos) (tNotV ta) := by
  intro pins s σ H Q I h
  refine UnaryOp_ (thn (ha pins s σ H _ I h) fun v s1 ⟨x, H1, I1, r1, q1⟩ => ?_)
  obtain ⟨c, rfl, q1⟩ := q1
  cases r1
  exact not_of (wpAny_truthy_bool ⟨.bl (!c), H1, I1, rfl, q1⟩)
def tIf (t : TT) (ta tb : TE) : TE := fun σ H Q => t σ H fun c H1 => if c = true then ta σ H1 Q else tb σ H1 Q
theorem pe_ifExp {c : Expr} (hc : PT X c tA) (ha : PE X a ta) (hb : PE X b tb) : PE X (.IfExp c a b pos) (tIf tA ta tb) := by
  intro pins s σ H Q I h
  refine wpAny_IfExp (thn (hc pins s σ H _ I h) fun d s1 ⟨H1, I1, q1⟩ => ?_)
  cases d with
  | true => exact ha pins s1 σ H1 Q I1 q1
  | false => exact hb pins s1 σ H1 Q I1 q1
end
end L2
namespace L2
open PySem PySem.Spec PyProof.Rows
variable {q0 : Bool}
def SqL (K : PySem.W.Frag) (H : Hp) (a : Addr) (xs : List V) : Prop :=
  Rd H a (.lst xs) ∨
    ∃ (o : Obj) (its : Array Value) (n : Nat), K.lookup a = some o ∧ o.cls = .type "list" ∧ o.dict = none ∧ o.data = .seq its n ∧ its.size ≤ sizeLine ∧ Vals xs its.toList
def SqT (K : PySem.W.Frag) (H : Hp) (a : Addr) (xs : List V) : Prop :=
  Rd H a (.tup xs) ∨
    ∃ (o : Obj) (its : Array Value) (n : Nat), K.lookup a = some o ∧ o.cls = .type "tuple" ∧ o.data = .seq its n ∧ its.size ≤ sizeLine ∧ Vals xs its.toList
def absV : Value → Option V
  | .none => some .non
  | .bool b => some (.bl b)
  | .int i _ => some (.int i)
  | .str x _ => some (.str x)
  | .bytes b _ => some (.byt b)
  | .float b _ => some (.flt b)
  | .ref a => some (.ref a)
  | .type n => some (.ty n)
  | _ => none
theorem RelV.abs {x : V} {u : Value} (r : RelV x u) : absV u = some x := by
  cases x with
  | non => cases r; rfl
  | bl _ => cases r; rfl
  | int _ => obtain ⟨t, rfl⟩ := r; rfl
  | str _ => obtain ⟨t, rfl⟩ := r; rfl
  | byt _ => obtain ⟨t, rfl⟩ := r; rfl
  | flt _ => obtain ⟨t, rfl⟩ := r; rfl
  | ref _ => cases r; rfl
  | ty _ => cases r; rfl
theorem RelV.inj {x y : V} {u : Value} (r : RelV x u) (q : RelV y u) : x = y := Option.some.inj (r.abs.symm.trans q.abs)
theorem Vals.inj : ∀ {xs ys : List V} {us : List Value}, Vals xs us → Vals ys us → xs = ys
  | _, _, _, .nil, .nil => rfl
  | _, _, _, .cons r t, .cons r' t' => by rw [r.inj r', Vals.inj t t']
section
variable {X : Cx} {pins : List (Addr × Obj)} {σ : St} {H : Hp} {s : Shared} {a : Addr} {xs ys : List V}
theorem SqL.of {K : PySem.W.Frag} (h : H a = some (.lst xs)) : SqL K H a xs := .inl (.inl h)
theorem SqT.of {K : PySem.W.Frag} (h : H a = some (.tup xs)) : SqT K H a xs := .inl (.inl h)
theorem Inv.list (I : Inv X pins σ H s) (h : SqL X.K H a xs) : ∃ its : List Value, Vals xs its ∧ PlainL s.heap a its.toArray ∧ xs.length ≤ sizeLine := by
  rcases h with h | ⟨o, its, n, hk, hc, hd, hs, hz, r⟩
  · obtain ⟨z, its, n, r, e⟩ := h.ok I.hok
    exact ⟨its, r, ⟨_, n, e, rfl, rfl, rfl⟩, z⟩
  · refine ⟨its.toList, r, ⟨o, n, I.kIn a o hk, hc, hd, by simpa using hs⟩, ?_⟩
    have e := r.length
    simp only [Array.length_toList] at e
    omega
theorem Inv.tuple (I : Inv X pins σ H s) (h : SqT X.K H a xs) : ∃ its : List Value, Vals xs its ∧ IsTup s.heap a its.toArray ∧ xs.length ≤ sizeLine := by
  rcases h with h | ⟨o, its, n, hk, hc, hs, hz, r⟩
  · obtain ⟨z, its, r, p⟩ := h.ok I.hok
    exact ⟨its, r, p, z⟩
  · refine ⟨its.toList, r, ⟨o, I.kIn a o hk, hc, n, by simpa using hs⟩, ?_⟩
    have e := r.length
    simp only [Array.length_toList] at e
    omega
theorem Inv.list_inj (I : Inv X pins σ H s) (h : SqL X.K H a xs) (h' : SqL X.K H a ys) : xs = ys := by
  obtain ⟨its, r, ⟨o, n, e, _, _, d⟩, _⟩ := I.list h
  obtain ⟨its', r', ⟨o', n', e', _, _, d'⟩, _⟩ := I.list h'
  rw [e] at e'; cases e'
  rw [d] at d'
  injection d' with d1 _
  have : its = its' := by simpa using congrArg Array.toList d1
  subst this
  exact r.inj r'
theorem Inv.tuple_inj (I : Inv X pins σ H s) (h : SqT X.K H a xs) (h' : SqT X.K H a ys) : xs = ys := by
  obtain ⟨its, r, ⟨o, e, _, n, d⟩, _⟩ := I.tuple h
  obtain ⟨its', r', ⟨o', e', _, n', d'⟩, _⟩ := I.tuple h'
  rw [e] at e'; cases e'
  rw [d] at d'
  injection d' with d1 _
  have : its = its' := by simpa using congrArg Array.toList d1
  subst this
  exact r.inj r'
end
abbrev Cx.wish (X : Cx) (E : Value → Shared → Prop) : Cx := { X with xe := E }
abbrev Cx.nox (X : Cx) : Cx := X.wish fun _ _ => False
theorem Cx.Ok.wish {X : Cx} (ok : X.Ok) (E : Value → Shared → Prop) : (X.wish E).Ok :=
  ⟨ok.mod, ok.kind, ok.glob, ok.blt, ok.above, ok.inj, ok.has, ok.cab, ok.hd, ok.frames, ok.stk, ok.exf, ok.bs, ok.bsz, ok.noex, ok.exfs, ok.funs, ok.frf⟩
theorem Cx.Ok.unwish {X : Cx} {E : Value → Shared → Prop} (ok : (X.wish E).Ok) : X.Ok :=
  ⟨ok.mod, ok.kind, ok.glob, ok.blt, ok.above, ok.inj, ok.has, ok.cab, ok.hd, ok.frames, ok.stk, ok.exf, ok.bs, ok.bsz, ok.noex, ok.exfs, ok.funs, ok.frf⟩
section
variable {X : Cx} {pins : List (Addr × Obj)} {σ : St} {H : Hp} {s : Shared} {E : Value → Shared → Prop}
theorem Inv.wish (I : Inv X pins σ H s) (E : Value → Shared → Prop) : Inv (X.wish E) pins σ H s := ⟨I.ok.wish E, I.os, I.bare, I.base, I.loc, I.cell, I.free, I.freeC, I.pin, I.hok, I.len⟩
theorem Inv.unwish (I : Inv (X.wish E) pins σ H s) : Inv X pins σ H s := ⟨I.ok.unwish, I.os, I.bare, I.base, I.loc, I.cell, I.free, I.freeC, I.pin, I.hok, I.len⟩
theorem SP.unwish {D : Ends} {f : Flow} {s' : Shared} (h : SP (X.wish E) pins D f s') : SP X pins D f s' := by
  cases f with
  | next => obtain ⟨σ', H', I, q⟩ := h; exact ⟨σ', H', I.unwish, q⟩
  | brk => obtain ⟨σ', H', I, q⟩ := h; exact ⟨σ', H', I.unwish, q⟩
  | cont => obtain ⟨σ', H', I, q⟩ := h; exact ⟨σ', H', I.unwish, q⟩
  | ret u => obtain ⟨v, σ', H', I, r, q⟩ := h; exact ⟨v, σ', H', I.unwish, r, q⟩
theorem PSs.nox {st : List Stmt} {t : TS} (h : PSs X.nox st t) : PSs X st t := fun pins s σ H D I hw =>
  wpAny_mono (h pins s σ H D (I.wish _) hw) (fun _ _ q => q.unwish) fun _ _ z => False.elim z
end
section
variable {X : Cx} {st : Stmt} {rest : List Stmt} {t u : TS} {e : Expr} {te : TE} {pos : Pos}
def tNext : TS := fun D σ H => D.nx σ H
def tSeq (t u : TS) : TS := fun D σ H => t { D with nx := u D } σ H
theorem pss_nil : PSs X [] tNext := fun _ _ σ H _ I h => wpAny_execs_nil ⟨σ, H, I, h⟩
theorem pss_cons (h1 : PS X st t) (h2 : PSs X rest u) : PSs X (st :: rest) (tSeq t u) := by
  intro pins s σ H D I h
  refine wpAny_execs_cons (thn (h1 pins s σ H { D with nx := u D } I h) fun f s1 q => ?_)
  cases f with
  | next =>
    obtain ⟨σ', H', I', q⟩ := q
    exact h2 pins s1 σ' H' D I' q
  | ret v => exact q
  | brk => exact q
  | cont => exact q
theorem pss_one (h1 : PS X st t) : PSs X [st] t := by
  intro pins s σ H D I h
  refine wpAny_execs_cons (thn (h1 pins s σ H D I h) fun f s1 q => ?_)
  cases f with
  | next => exact wpAny_execs_nil q
  | ret v => exact q
  | brk => exact q
  | cont => exact q
theorem Inv.quiet {pins : List (Addr × Obj)} {σ : St} {H : Hp} {s : Shared} (I : Inv X pins σ H s) : interactive X.env = false := by simp [interactive, I.ok.kind]
def tDrop (te : TE) : TS := fun D σ H => te σ H fun _ H1 => D.nx σ H1
theorem ps_expr (he : PE X e te) (hs : swapsWith e none pos.line X.env = pure false := by rfl) : PS X (.Expr e pos) (tDrop te) := by
  intro pins s σ H D I h
  exact wpAny_Expr_any (thn (he pins s σ H _ I h) fun v s1 ⟨x, H1, I1, r1, q1⟩ => ⟨σ, H1, I1, q1⟩) I.quiet hs
def tRet (te : TE) : TS := fun D σ H => te σ H D.rt
theorem ps_ret (he : PE X e te) : PS X (.Return (some e) pos) (tRet te) := by
  intro pins s σ H D I h
  exact wpAny_Return_some (thn (he pins s σ H _ I h) fun v s1 ⟨x, H1, I1, r1, q1⟩ => ⟨x, σ, H1, I1, r1, q1⟩)
def tIfS (c : TT) (t u : TS) : TS := fun D σ H => c σ H fun b H1 => if b = true then t D σ H1 else u D σ H1
theorem ps_if {c : Expr} {a b : List Stmt} {tc : TT} (hc : PT X c tc) (ha : PSs X a t) (hb : PSs X b u) : PS X (.If c a b pos) (tIfS tc t u) := by
  intro pins s σ H D I h
  refine wpAny_If (thn (hc pins s σ H _ I h) fun d s1 ⟨H1, I1, q1⟩ => ?_)
  cases d with
  | true => exact ha pins s1 σ H1 D I1 q1
  | false => exact hb pins s1 σ H1 D I1 q1
def tNever : TS := fun _ _ _ => False
theorem ps_never : PS X st tNever := fun _ _ _ _ _ _ h => h.elim
end
abbrev TG := V → St → Hp → (St → Hp → Prop) → Prop
abbrev TGs := List V → St → Hp → (St → Hp → Prop) → Prop
def PG (X : Cx) (target : Expr) (t : TG) : Prop :=
  ∀ (pins : List (Addr × Obj)) (s : Shared) (σ : St) (H : Hp) (v : V) (u : Value) (Q : St → Hp → Prop), Inv X pins σ H s → RelV v u → t v σ H Q →
    wpAny (model X.prog X.w) X.A (assign target X.env u) (fun _ s' => ∃ σ' H', Inv X pins σ' H' s' ∧ Q σ' H') X.xe s
def PGs (X : Cx) (ts : List Expr) (t : TGs) : Prop :=
  ∀ (pins : List (Addr × Obj)) (s : Shared) (σ : St) (H : Hp) (vs : List V) (us : List Value) (Q : St → Hp → Prop), Inv X pins σ H s → Vals vs us → t vs σ H Q →
    wpAny (model X.prog X.w) X.A (assignInOrder ((assignEach ts X.env).map (·.2)) us) (fun _ s' => ∃ σ' H', Inv X pins σ' H' s' ∧ Q σ' H') X.xe s
section
variable {X : Cx} {pos : Pos}
def gName (i : Nat) : TG := fun v σ H Q => Q (σ.set i (some v)) H
theorem pg_name {i : Nat} {x : Str} (hN : X.N.Nodup) (hi : X.N[i]? = some x) (hx : Loc X.env.scope x) (hf : X.fn x = true ∨ X.env.scope.names.lookup x = some .local := by first | exact .inl rfl | exact .inr rfl | assumption) : PG X (.Name x pos) (gName i) := by
  intro pins s σ H v u Q I r h
  exact wpAny_assign_Name (store_ok I hN hi hx r (fun s' I' => ⟨_, H, I', h⟩) hf)
def gNil : TGs := fun vs σ H Q => vs = [] ∧ Q σ H
def gCons (t : TG) (u : TGs) : TGs := fun vs σ H Q => ∃ v r, vs = v :: r ∧ t v σ H fun σ' H' => u r σ' H' Q
theorem pgs_nil : PGs X [] gNil := by
  intro pins s σ H vs us Q I r h
  obtain ⟨e, h⟩ := h
  subst e
  cases r
  exact assignInOrder_nil ⟨σ, H, I, h⟩
theorem pgs_cons {e : Expr} {es : List Expr} {t : TG} {u : TGs} (h1 : PG X e t) (h2 : PGs X es u)
    (hs : (assignEach (e :: es) X.env).map (·.2) = assign e X.env :: (assignEach es X.env).map (·.2) := by rfl) : PGs X (e :: es) (gCons t u) := by
  intro pins s σ H vs us Q I r h
  obtain ⟨v, vr, e1, h⟩ := h
  subst e1
  cases r with
  | cons r rr =>
    rw [hs]
    refine assignInOrder_cons (thn (h1 pins s σ H _ _ _ I r h) fun _ s1 ⟨σ1, H1, I1, q1⟩ => ?_)
    exact h2 pins s1 σ1 H1 _ _ Q I1 rr q1
def gTup (K : PySem.W.Frag) (n : Nat) (t : TGs) : TG := fun v σ H Q => ∃ a xs, v = .ref a ∧ SqT K H a xs ∧ xs.length = n ∧ t xs σ H Q
theorem pg_tup {es : List Expr} {k : Nat} {t : TGs} {n : Nat} (hc : X.calm = true) (h : PGs X es t)
    (hn : (assignEach es X.env).length = n := by rfl) (hst : (assignEach es X.env).findIdx? (·.1) = none := by rfl) : PG X (.Tuple es k pos) (gTup X.K n t) := by
  intro pins s σ H v u Q I r hw
  obtain ⟨a, xs, e1, hq, hl, hw⟩ := hw
  subst e1
  cases r
  obtain ⟨its, rv, ht, hz⟩ := I.tuple hq
  refine assign_Tuple_tuple (I.ok.hd hc) ht (by simp [hn, ← hl, rv.length]) hst fun h' hx => ?_
  have I1 : Inv X pins σ H { s with heap := h' } := I.kept (t' := s.toks) fun b o e => hx b o (Nat.ne_of_lt (Heap.lt_size e)) e
  exact h pins _ σ H xs _ Q I1 (by simpa using rv) hw
def tAsg (te : TE) (g : TG) : TS := fun D σ H => te σ H fun x H1 => g x σ H1 D.nx
theorem ps_asg {tg e : Expr} {te : TE} {g : TG} (he : PE X e te) (hg : PG X tg g) (hs : swapsWithSole [tg] e pos.line X.env = pure false := by rfl) (hw : swappedStores [tg] e X.env = pure none := by rfl)
    (h1 : (assignEach [tg] X.env).map (·.2) = [assign tg X.env] := by rfl) : PS X (.Assign [tg] e pos) (tAsg te g) := by
  intro pins s σ H D I h
  refine wpAny_Assign_stores (thn (he pins s σ H _ I h) fun v s1 ⟨x, H1, I1, r1, q1⟩ => ?_) hs hw
  rw [h1]
  exact thn (hg pins s1 σ H1 x v _ I1 r1 q1) fun _ s2 q => q
theorem ps_set {i : Nat} {x : Str} {e : Expr} {te : TE} {pos' : Pos} (hN : X.N.Nodup) (hi : X.N[i]? = some x) (hx : Loc X.env.scope x) (he : PE X e te) (hs : swapsWith e (some (.Name x pos')) pos.line X.env = pure false := by rfl) (hf : X.fn x = true ∨ X.env.scope.names.lookup x = some .local := by first | exact .inl rfl | exact .inr rfl | assumption) :
    PS X (.Assign [.Name x pos'] e pos) (tAsg te (gName i)) := by
  intro pins s σ H D I h
  refine wpAny_Assign_Name (thn (he pins s σ H _ I h) fun v s1 ⟨y, H1, I1, r1, q1⟩ => ?_) hs
  exact store_ok I1 hN hi hx r1 (fun s2 I2 => ⟨_, H1, I2, q1⟩) hf
end
section
variable {X : Cx} {pos : Pos}
end
structure It where
  go : Nat → Hp → Prop
  yld : Nat → Hp → V → Hp → Prop
  stop : Nat → Hp → Prop
def FpOk (X : Cx) (pins : List (Addr × Obj)) (H : Hp) (b : Addr) : Prop :=
  H b = none ∧ b ≠ X.env.locals ∧ b ∉ X.fs ∧ (b ∈ X.ex ∨ X.s₀.heap.objs.size ≤ b) ∧ (∀ x c, X.env.cells.lookup x = some c → c ≠ b) ∧ ∀ p ∈ X.pn ++ pins, p.1 ≠ b
theorem Inv.fpOk {X : Cx} {pins : List (Addr × Obj)} {σ : St} {H H' : Hp} {s : Shared} {b : Addr} (I : Inv X pins σ H s) (hb : s.heap.objs.size ≤ b) (hn : H' b = none) : FpOk X pins H' b := by
  refine ⟨hn, Nat.ne_of_gt (Nat.lt_of_lt_of_le I.lt hb), I.nofs hb, .inr (Nat.le_trans I.sz hb), fun x c e z => ?_, fun p hp z => ?_⟩
  · obtain ⟨v, q⟩ := I.cell x c e
    exact absurd (Nat.lt_of_lt_of_le q.lt (by rw [z]; exact hb)) (Nat.lt_irrefl _)
  · exact absurd (Nat.lt_of_lt_of_le (Heap.lt_size (I.pin p hp).1) (by rw [z]; exact hb)) (Nat.lt_irrefl _)
structure Turn (P : Program) (w : World) (K : PySem.W.Frag) (tg : Expr) (J : It) (fp : List Addr) (it : Addr) (tn : Nat → Heap → Prop) : Prop where
  mem : it ∈ fp
  obj : ∀ i h, tn i h → ∀ b ∈ fp, ∃ o, h.get? b = some o ∧ ∀ v, o.data ≠ .cell v
  keep : ∀ i h h', tn i h → (∀ b ∈ fp, ∀ o, h.get? b = some o → h'.get? b = some o) → tn i h'
  item : ∀ (X : Cx), X.prog = P → X.w = w → X.K = K → X.calm = true → ∀ (i : Nat) (pins : List (Addr × Obj)) (s : Shared) (σ : St) (H : Hp) (E : Value → Shared → Prop), Inv X pins σ H s → (∀ b ∈ fp, FpOk X pins H b) → tn i s.heap → J.go i H →
    wpAny (model P w) X.A (pyNext (.ref it)) (fun r s1 => ∃ u, r = some u ∧
      wpAny (model P w) X.A (letOwnedTupleGo tg (.ref it) u) (fun _ s2 => ∃ x H', Inv X pins σ H' s2 ∧ RelV x u ∧ J.yld i H x H' ∧ tn (i + 1) s2.heap ∧ ∀ b ∈ fp, H' b = none) E s1) E s
  done : ∀ (X : Cx), X.prog = P → X.w = w → X.K = K → X.calm = true → ∀ (i : Nat) (pins : List (Addr × Obj)) (s : Shared) (σ : St) (H : Hp) (E : Value → Shared → Prop), Inv X pins σ H s → (∀ b ∈ fp, FpOk X pins H b) → tn i s.heap → J.stop i H →
    wpAny (model P w) X.A (pyNext (.ref it)) (fun r s1 => r = none ∧ Inv X pins σ H s1) E s
  self : ∀ (A : Around) (i : Nat) (s : Shared) (Q : Value → Shared → Prop) (E : Value → Shared → Prop), tn i s.heap → Q (.ref it) s → wpAny (model P w) A (pyIter (.ref it)) Q E s
abbrev TI := St → Hp → (It → Hp → Prop) → Prop
def PIE (X : Cx) (pins : List (Addr × Obj)) (σ : St) (tg : Expr) (R : It → Hp → Prop) (itv : Value) (s2 : Shared) : Prop :=
  ∃ (it : Addr) (fp : List Addr) (tn : Nat → Heap → Prop) (J : It) (H' : Hp), itv = .ref it ∧ Inv X pins σ H' s2 ∧ Turn X.prog X.w X.K tg J fp it tn ∧ tn 0 s2.heap ∧ (∀ b ∈ fp, FpOk X pins H' b) ∧ R J H'
def PI (X : Cx) (tg iter : Expr) (wi : TI) : Prop :=
  ∀ (pins : List (Addr × Obj)) (s : Shared) (σ : St) (H : Hp) (R : It → Hp → Prop), Inv X pins σ H s → wi σ H R →
    wpAny (model X.prog X.w) X.A (eval iter X.env) (fun v s1 => wpAny (model X.prog X.w) X.A (pyIter v) (PIE X pins σ tg R) X.xe s1) X.xe s
theorem go_of {M : Model} {A : Around} {E : Value → Shared → Prop} {s : Shared} {tg : Expr} {it : Addr} {u : Value} {o : Obj} {n : String} {vs : Array Value} {Q : Unit → Shared → Prop} (ho : s.heap.get? it = some o) (hc : o.cls = .type n) (hd : o.data = .fields vs)
    (hn : ["enumerate", "zip", "dict_itemiterator", "dict_reverseitemiterator", "odict_iterator", "itertools.zip_longest", "itertools.pairwise"].contains n = false) (hQ : Q () s) : wpAny M A (letOwnedTupleGo tg (.ref it) u) Q E s := by
  unfold letOwnedTupleGo
  cases tg <;> first
    | exact wpAny_pure hQ
    | (cases u <;> first
        | exact wpAny_pure hQ
        | (refine wpAny_bind (wpAny_load ho ?_)
           rw [hc, hd]
           show wpAny M A (if (["enumerate", "zip", "dict_itemiterator", "dict_reverseitemiterator", "odict_iterator", "itertools.zip_longest", "itertools.pairwise"].contains n && vs[0]? == some (rawInt _)) = true then _ else _) Q E s
           rw [if_neg (by intro h; rw [hn, Bool.false_and] at h; cases h)]
           exact wpAny_pure hQ))
def Itl (K : PySem.W.Frag) (a : Addr) : It :=
  ⟨fun i H => ∃ xs x, SqL K H a xs ∧ xs[i]? = some x, fun i H x H' => H' = H ∧ ∀ xs, SqL K H a xs → xs[i]? = some x, fun i H => ∃ xs, SqL K H a xs ∧ xs.length ≤ i⟩
def Itr (lo : Int) (n : Nat) : It := ⟨fun i _ => i < n, fun i H x H' => H' = H ∧ x = .int (lo + i), fun i _ => n ≤ i⟩
theorem turn_list {P : Program} {w : World} {K : PySem.W.Frag} {tg : Expr} (a it : Addr) : Turn P w K tg (Itl K a) [it] it (fun i h => h.IsListIter it a i) where
  mem := by simp
  obj := fun i h st b hb => by
    have e : b = it := by simpa using hb
    subst e
    obtain ⟨o, e, c, d⟩ := st
    exact ⟨o, e, fun v z => by rw [d] at z; cases z⟩
  keep := fun i h h' st k => st.at fun o e => k it (by simp) o e
  item := by
    intro X hP hw hK hc i pins s σ H E I hf st hg
    subst hP hw hK
    obtain ⟨xs, x, hq, hx⟩ := hg
    obtain ⟨its, rv, p, hz⟩ := I.list hq
    obtain ⟨u, hu, ru⟩ := rv.get hx
    obtain ⟨f0, f1, f2, f3, f4, f5⟩ := hf it (by simp)
    refine wpAny_pyNext_list_item st p.isList (x := u) (by simpa using hu) fun h' st' sb => ?_
    have I1 : Inv X pins σ H { s with heap := h' } := I.turned (t' := s.toks) (fun b o hb e => (sb.2 b hb).trans e) f0 f1 f3 f4 f5
    obtain ⟨o, e, c, d⟩ := id st'
    exact ⟨u, rfl, go_of (s := { s with heap := h' }) e c d (by decide) ⟨x, H, I1, ru, ⟨rfl, fun ys hy => by rw [I.list_inj hy hq]; exact hx⟩, st', fun b hb => (hf b hb).1⟩⟩
  done := by
    intro X hP hw hK hc i pins s σ H E I hf st hg
    subst hP hw hK
    obtain ⟨xs, hq, hx⟩ := hg
    obtain ⟨its, rv, p, hz⟩ := I.list hq
    obtain ⟨f0, f1, f2, f3, f4, f5⟩ := hf it (by simp)
    have hl := rv.length
    exact wpAny_pyNext_list_end (I.ok.hd hc) st p.isList (by simp; omega) fun h' eb => ⟨rfl, I.turned (t' := s.toks) (fun b o hb e => eb b o hb e) f0 f1 f3 f4 f5⟩
  self := fun _ _ _ _ _ st h => wpAny_pyIter_listiter st h
theorem turn_range {P : Program} {w : World} {K : PySem.W.Frag} {tg : Expr} (it : Addr) (lo : Int) (n : Nat) : Turn P w K tg (Itr lo n) [it] it (fun i h => IsRangeIter h it (lo + (i : Nat) * 1) ((n : Int) - (i : Nat)) 1) where
  mem := by simp
  obj := fun i h st b hb => by
    have e : b = it := by simpa using hb
    subst e
    exact ⟨_, st, fun v z => by
      have z' : Data.fields _ = Data.cell v := z
      cases z'⟩
  keep := fun i h h' st k => k it (by simp) _ st
  item := by
    intro X hP hw hK hc i pins s σ H E I hf st hg
    subst hP hw hK
    obtain ⟨f0, f1, f2, f3, f4, f5⟩ := hf it (by simp)
    have W := Walks.range (prog := X.prog) (w := X.w) (I.ok.hd hc) it lo 1 n
    refine W.item i s _ _ hg st fun v h' tk hv st' kk => ?_
    obtain ⟨t, rfl⟩ := hv
    have I1 : Inv X pins σ H { s with heap := h', toks := tk } := I.turned (fun b o hb e => kk b o (by simpa using hb) e) f0 f1 f3 f4 f5
    refine ⟨_, rfl, go_of (s := { s with heap := h', toks := tk }) (n := "range_iterator") st' rfl rfl (by decide) ⟨.int (lo + i), H, I1, ⟨t, ?_⟩, ⟨rfl, rfl⟩, st', fun b hb => (hf b hb).1⟩⟩
    rw [Int.mul_one]
  done := by
    intro X hP hw hK hc i pins s σ H E I hf st hg
    subst hP hw hK
    obtain ⟨f0, f1, f2, f3, f4, f5⟩ := hf it (by simp)
    exact wpAny_pyNext_range_end (I.ok.hd hc) st (by have : n ≤ i := hg; omega) fun h' eb => ⟨rfl, I.turned (t' := s.toks) (fun b o hb e => eb b o hb e) f0 f1 f3 f4 f5⟩
  self := fun _ _ _ _ _ st h => wpAny_pyIter_rangeiter st h
end L2
namespace L2
open PySem PySem.Spec PyProof.Rows
variable {q0 : Bool}
section
variable {X : Cx} {tg : Expr}
def iList (K : PySem.W.Frag) (tl : TE) : TI := fun σ H R => tl σ H fun x H1 => ∃ a, x = .ref a ∧ (∃ xs, SqL K H1 a xs) ∧ R (Itl K a) H1
theorem pi_list {l : Expr} {tl : TE} (hl : PE X l tl) : PI X tg l (iList X.K tl) := by
  intro pins s σ H R I h
  refine thn (hl pins s σ H _ I h) fun v s1 ⟨x, H1, I1, r1, q1⟩ => ?_
  obtain ⟨a, e, ⟨xs, hq⟩, q⟩ := q1
  subst e
  cases r1
  obtain ⟨its, rv, p, hz⟩ := I1.list hq
  refine wpAny_pyIter_list p.isList ?_
  refine ⟨s1.heap.objs.size, [s1.heap.objs.size], _, _, H1, rfl, I1.kept (t' := s1.toks) fun b o e => Heap.get?_push_of_some _ e, turn_list a _, ⟨_, Heap.get?_push_size _ rfl, rfl, rfl⟩, fun b hb => ?_, q⟩
  have e : b = s1.heap.objs.size := by simpa using hb
  subst e
  exact I1.fpOk (Nat.le_refl _) (I1.hok.fresh (Nat.le_refl _))
theorem range_it {pins : List (Addr × Obj)} {σ : St} {H : Hp} {s : Shared} {R : It → Hp → Prop} {E : Value → Shared → Prop} {lo hi : Int} {t u v : Tok} {tk : Nat} (I : Inv X pins σ H s) (h1 : -(2 ^ 62) ≤ lo) (h2 : lo < 2 ^ 62) (h3 : -(2 ^ 62) ≤ hi) (h4 : hi < 2 ^ 62)
    (q : R (Itr lo (hi - lo).toNat) H) : wpAny (model X.prog X.w) X.A (pyIter (.ref s.heap.objs.size)) (PIE X pins σ tg R) E { s with heap := s.heap.push { cls := .type "range", data := .fields #[.int lo t, .int hi u, .int 1 v] }, toks := tk } := by
  refine wpAny_pyIter_range (IsRange.new ..) (small_one h1 h2 h3 h4) ?_
  have I1 : Inv X pins σ H { s with heap := s.heap.push { cls := .type "range", data := .fields #[.int lo t, .int hi u, .int 1 v] }, toks := tk } := I.kept fun b o e => Heap.get?_push_of_some _ e
  refine ⟨(s.heap.push { cls := .type "range", data := .fields #[.int lo t, .int hi u, .int 1 v] }).objs.size, [(s.heap.push { cls := .type "range", data := .fields #[.int lo t, .int hi u, .int 1 v] }).objs.size], _, _, H, rfl,
    I1.kept (t' := tk) fun b o e => Heap.get?_push_of_some _ e, turn_range _ lo (hi - lo).toNat, ?_, fun b hb => ?_, q⟩
  · have e1 : lo + ((0 : Nat) : Int) * 1 = lo := by simp
    have e2 : (((hi - lo).toNat : Nat) : Int) - ((0 : Nat) : Int) = Builtin.Range.rangeSize lo hi 1 := by rw [rangeSize_one]; split <;> omega
    show IsRangeIter _ _ (lo + ((0 : Nat) : Int) * 1) ((((hi - lo).toNat : Nat) : Int) - ((0 : Nat) : Int)) 1
    rw [e1, e2]
    exact Heap.get?_push_size _ rfl
  · have e : b = (s.heap.push { cls := .type "range", data := .fields #[.int lo t, .int hi u, .int 1 v] }).objs.size := by simpa using hb
    subst e
    exact I1.fpOk (Nat.le_refl _) (I1.hok.fresh (Nat.le_refl _))
def iRng1 (ta : TA) : TI := fun σ H R => ta σ H fun vs H1 => ∃ j : Int, vs = [.int j] ∧ -(2 ^ 62) ≤ j ∧ j < 2 ^ 62 ∧ R (Itr 0 j.toNat) H1
def iRng2 (ta : TA) : TI := fun σ H R => ta σ H fun vs H1 => ∃ i j : Int, vs = [.int i, .int j] ∧ (-(2 ^ 62) ≤ i ∧ i < 2 ^ 62 ∧ -(2 ^ 62) ≤ j ∧ j < 2 ^ 62) ∧ R (Itr i (j - i).toNat) H1
theorem pi_range1 {a : Expr} {ta : TA} {p pos : Pos} (hg : Gl X "range") (hm : X.mg "range" = none) (ha : PA X [a] ta) (hs : starEach [a] X.env = [(false, eval a X.env)] := by rfl) : PI X tg (.Call (.Name "range" p) [a] [] pos) (iRng1 ta) := by
  intro pins s σ H R I h
  refine Call_ (ld_blt I hg hm boot_range (PyProof.Rows.callWith_type1 (thn (ha pos pins s σ H _ I h) fun us s1 ⟨vs, H1, I1, r1, q1⟩ => ?_) hs rfl))
  obtain ⟨j, e, q1, q2, q⟩ := q1
  subst e
  cases r1 with
  | cons r rr =>
    cases rr
    obtain ⟨t, rfl⟩ := r
    exact call_range_1 (range_it I1 (by omega) (by omega) q1 q2 (by simpa using q))
theorem pi_range2 {a b : Expr} {ta : TA} {p pos : Pos} (hg : Gl X "range") (hm : X.mg "range" = none) (ha : PA X [a, b] ta) (hs : starEach [a, b] X.env = [(false, eval a X.env), (false, eval b X.env)] := by rfl) (hs2 : starEach [b] X.env = [(false, eval b X.env)] := by rfl) :
    PI X tg (.Call (.Name "range" p) [a, b] [] pos) (iRng2 ta) := by
  intro pins s σ H R I h
  refine Call_ (ld_blt I hg hm boot_range (PyProof.Rows.callWith_type1 (thn (ha pos pins s σ H _ I h) fun us s1 ⟨vs, H1, I1, r1, q1⟩ => ?_) (by rw [hs, hs2]) (by rw [hs2]; rfl)))
  obtain ⟨i, j, e, ⟨q1, q2, q3, q4⟩, q⟩ := q1
  subst e
  cases r1 with
  | cons r rr =>
    cases rr with
    | cons r' rr =>
      cases rr
      obtain ⟨t, rfl⟩ := r
      obtain ⟨t', rfl⟩ := r'
      exact call_range_2 (range_it I1 q1 q2 q3 q4 q)
def tFor (wi : TI) (g : TG) (tb : TS) : TS := fun D σ H => wi σ H fun J H1 => ∃ W : Nat → Nat → St → Hp → Prop, (∃ m, W 0 m σ H1) ∧ ∀ i m σ H, W i m σ H →
  (J.stop i H ∧ D.nx σ H) ∨ (J.go i H ∧ ∃ N : St → Hp → Prop, (∀ σ' H', N σ' H' → ∃ m', m' < m ∧ W (i + 1) m' σ' H') ∧ ∀ x H', J.yld i H x H' → g x σ H' fun σ2 H2 => tb { D with nx := N, ct := N, bk := D.nx } σ2 H2)
def pinsAt (fp : List Addr) (h : Heap) : List (Addr × Obj) := fp.filterMap fun b => (h.get? b).map fun o => (b, o)
theorem mem_pinsAt {fp : List Addr} {h : Heap} {b : Addr} {o : Obj} (hb : b ∈ fp) (e : h.get? b = some o) : (b, o) ∈ pinsAt fp h := List.mem_filterMap.mpr ⟨b, hb, by rw [e]; rfl⟩
theorem of_pinsAt {fp : List Addr} {h : Heap} {p : Addr × Obj} (hp : p ∈ pinsAt fp h) : p.1 ∈ fp ∧ h.get? p.1 = some p.2 := by
  obtain ⟨b, hb, e⟩ := List.mem_filterMap.mp hp
  cases q : h.get? b with
  | none => rw [q] at e; cases e
  | some o =>
    rw [q] at e
    have e' : (b, o) = p := Option.some.inj e
    subst e'
    exact ⟨hb, q⟩
theorem Inv.pinned {pins : List (Addr × Obj)} {σ : St} {H : Hp} {s : Shared} {fp : List Addr} (I : Inv X pins σ H s) (hf : ∀ b ∈ fp, FpOk X pins H b) (ho : ∀ b ∈ fp, ∃ o, s.heap.get? b = some o ∧ ∀ v, o.data ≠ .cell v) : Inv X (pins ++ pinsAt fp s.heap) σ H s :=
  I.pins_of fun p hp => (List.mem_append.mp hp).elim (fun z => I.pin p (List.mem_append_right _ z)) fun z => by
    obtain ⟨hb, e⟩ := of_pinsAt z
    obtain ⟨f0, f1, f2, _⟩ := hf p.1 hb
    obtain ⟨o, e', d⟩ := ho p.1 hb
    rw [e] at e'; cases e'
    exact ⟨e, f0, f1, f2, d⟩
theorem Inv.unpinned {pins pl : List (Addr × Obj)} {σ : St} {H : Hp} {s : Shared} (I : Inv X (pins ++ pl) σ H s) : Inv X pins σ H s := I.pins_of fun p hp => I.pin p (List.mem_append_right _ (List.mem_append_left _ hp))
theorem ps_for {iter : Expr} {body : List Stmt} {wi : TI} {g : TG} {tb : TS} {pos : Pos} (hp : PassesOwn (model X.prog X.w) X.A X.env X.xe) (hc : X.calm = true) (hi : PI X tg iter wi) (hg : PG X tg g) (hb : PSs X body tb)
    (hs : ∀ x, foldedSetIterable iter X.env x = pure x := by intro _; rfl) : PS X (.For tg iter body [] pos) (tFor wi g tb) := by
  intro pins s σ H D I h
  refine wpAny_For (thn (hi pins s σ H _ I h) fun v s1 h1 => thn h1 fun itv s2 h2 => ?_) hs
  obtain ⟨it, fp, tn, J, H2, e, I2, T, st2, f2, W, ⟨m0, w0⟩, turn⟩ := h2
  subst e
  -- what stays true of the iterator's objects through the loop
  have stat : ∀ {H' : Hp}, (∀ b ∈ fp, H' b = none) → ∀ b ∈ fp, FpOk X pins H' b := fun hn b hb => ⟨hn b hb, (f2 b hb).2⟩
  refine codeAny_forLoop_any (fun n s' => ∃ i σ' H', Inv X pins σ' H' s' ∧ tn i s'.heap ∧ (∀ b ∈ fp, H' b = none) ∧ W i n σ' H') ?_ m0 ⟨0, σ, H2, I2, st2, fun b hb => (f2 b hb).1, w0⟩
  rintro n s3 ⟨i, σ3, H3, I3, st3, fr3, w3⟩
  rcases turn i n σ3 H3 w3 with ⟨stop, qn⟩ | ⟨go, N, hN, step⟩
  · refine wpAny_passesOwn hp (thn (T.done X rfl rfl rfl hc i pins s3 σ3 H3 X.xe I3 (stat fr3) st3 stop) fun r s4 ⟨hr, I4⟩ => ?_)
    subst hr
    exact wpAny_execs_nil ⟨σ3, H3, I4, qn⟩
  · refine wpAny_passesOwn hp (thn (T.item X rfl rfl rfl hc i pins s3 σ3 H3 X.xe I3 (stat fr3) st3 go) fun r s4 ⟨u, hr, h4⟩ => ?_)
    subst hr
    refine wpAny_passesOwn hp (thn h4 fun _ s5 ⟨x, H5, I5, r5, y5, st5, fr5⟩ => ?_)
    have I5' := I5.pinned (stat fr5) (T.obj _ _ st5)
    refine wpAny_passesOwn hp (thn (hg _ s5 σ3 H5 x u _ I5' r5 (step x H5 y5)) fun _ s6 ⟨σ6, H6, I6, q6⟩ => ?_)
    refine wpAny_passesOwn hp (thn (hb _ s6 σ6 H6 _ I6 q6) fun f s7 q7 => ?_)
    have again : ∀ {σ7 : St} {H7 : Hp}, Inv X (pins ++ pinsAt fp s5.heap) σ7 H7 s7 → N σ7 H7 → ∃ m, m < n ∧ ∃ i σ' H', Inv X pins σ' H' s7 ∧ tn i s7.heap ∧ (∀ b ∈ fp, H' b = none) ∧ W i m σ' H' := fun {σ7 H7} I7 n7 => by
      obtain ⟨m', hm, w7⟩ := hN σ7 H7 n7
      refine ⟨m', hm, i + 1, σ7, H7, I7.unpinned, T.keep _ _ _ st5 fun b hb o e => (I7.pin (b, o) (List.mem_append_right _ (List.mem_append_right _ (mem_pinsAt hb e)))).1, fun b hb => ?_, w7⟩
      obtain ⟨o, e, d⟩ := T.obj _ _ st5 b hb
      exact (I7.pin (b, o) (List.mem_append_right _ (List.mem_append_right _ (mem_pinsAt hb e)))).2.1
    cases f with
    | next => obtain ⟨σ7, H7, I7, n7⟩ := q7; exact again I7 n7
    | cont => obtain ⟨σ7, H7, I7, n7⟩ := q7; exact again I7 n7
    | brk => obtain ⟨σ7, H7, I7, q7⟩ := q7; exact ⟨σ7, H7, I7.unpinned, q7⟩
    | ret v => obtain ⟨x7, σ7, H7, I7, r7, q7⟩ := q7; exact ⟨x7, σ7, H7, I7.unpinned, r7, q7⟩
end
theorem for_list {K : PySem.W.Frag} {a : Addr} {xs : List V} {g : TG} {tb : TS} {D : Ends} {σ : St} {H : Hp} (Pv : Nat → St → Hp → Prop) (h0 : Pv 0 σ H) (hl : ∀ i σ H, i ≤ xs.length → Pv i σ H → SqL K H a xs)
    (hs : ∀ i x σ H, xs[i]? = some x → Pv i σ H → g x σ H fun σ2 H2 => tb { D with nx := Pv (i + 1), ct := Pv (i + 1), bk := D.nx } σ2 H2) (hd : ∀ σ H, Pv xs.length σ H → D.nx σ H) :
    ∃ W : Nat → Nat → St → Hp → Prop, (∃ m, W 0 m σ H) ∧ ∀ i m σ H, W i m σ H →
      ((Itl K a).stop i H ∧ D.nx σ H) ∨ ((Itl K a).go i H ∧ ∃ N : St → Hp → Prop, (∀ σ' H', N σ' H' → ∃ m', m' < m ∧ W (i + 1) m' σ' H') ∧ ∀ x H', (Itl K a).yld i H x H' → g x σ H' fun σ2 H2 => tb { D with nx := N, ct := N, bk := D.nx } σ2 H2) := by
  refine ⟨fun i m σ H => m = xs.length - i ∧ i ≤ xs.length ∧ Pv i σ H, ⟨xs.length, by simp, Nat.zero_le _, h0⟩, ?_⟩
  rintro i m σ H ⟨rfl, hi, p⟩
  have q := hl i σ H hi p
  by_cases hlt : i < xs.length
  · refine .inr ⟨⟨xs, xs[i], q, by simp [hlt]⟩, Pv (i + 1), fun σ' H' p' => ⟨xs.length - (i + 1), by omega, rfl, hlt, p'⟩, fun x H' y => ?_⟩
    obtain ⟨e, y⟩ := y
    subst e
    exact hs i x σ _ (y xs q) p
  · have e : i = xs.length := by omega
    subst e
    exact .inl ⟨⟨xs, q, Nat.le_refl _⟩, hd σ H p⟩
theorem for_range {lo : Int} {n : Nat} {g : TG} {tb : TS} {D : Ends} {σ : St} {H : Hp} (Pv : Nat → St → Hp → Prop) (h0 : Pv 0 σ H)
    (hs : ∀ i σ H, i < n → Pv i σ H → g (.int (lo + i)) σ H fun σ2 H2 => tb { D with nx := Pv (i + 1), ct := Pv (i + 1), bk := D.nx } σ2 H2) (hd : ∀ σ H, Pv n σ H → D.nx σ H) :
    ∃ W : Nat → Nat → St → Hp → Prop, (∃ m, W 0 m σ H) ∧ ∀ i m σ H, W i m σ H →
      ((Itr lo n).stop i H ∧ D.nx σ H) ∨ ((Itr lo n).go i H ∧ ∃ N : St → Hp → Prop, (∀ σ' H', N σ' H' → ∃ m', m' < m ∧ W (i + 1) m' σ' H') ∧ ∀ x H', (Itr lo n).yld i H x H' → g x σ H' fun σ2 H2 => tb { D with nx := N, ct := N, bk := D.nx } σ2 H2) := by
  refine ⟨fun i m σ H => m = n - i ∧ i ≤ n ∧ Pv i σ H, ⟨n, by simp, Nat.zero_le _, h0⟩, ?_⟩
  rintro i m σ H ⟨rfl, hi, p⟩
  by_cases hlt : i < n
  · refine .inr ⟨hlt, Pv (i + 1), fun σ' H' p' => ⟨n - (i + 1), by omega, rfl, hlt, p'⟩, fun x H' y => ?_⟩
    obtain ⟨e, y⟩ := y
    subst e y
    exact hs i σ _ hlt p
  · have e : i = n := by omega
    subst e
    exact .inl ⟨Nat.le_refl _, hd σ H p⟩
end L2
namespace L2
open PySem PySem.Spec PyProof.Rows
variable {q0 : Bool}
abbrev R2 := V → V → Hp → VK → Prop
def OpR (X : Cx) (f : Value → Value → Sem Value) (r : R2) : Prop :=
  ∀ (pins : List (Addr × Obj)) (s : Shared) (σ : St) (H : Hp) (x y : V) (v u : Value) (Q : VK), Inv X pins σ H s → RelV x v → RelV y u → r x y H Q →
    wpAny (model X.prog X.w) X.A (f v u) (EP X pins σ Q) X.xe s
def UnR (X : Cx) (f : Value → Sem Value) (r : V → Hp → VK → Prop) : Prop :=
  ∀ (pins : List (Addr × Obj)) (s : Shared) (σ : St) (H : Hp) (x : V) (v : Value) (Q : VK), Inv X pins σ H s → RelV x v → r x H Q →
    wpAny (model X.prog X.w) X.A (f v) (EP X pins σ Q) X.xe s
def CallR (X : Cx) (f : Value) (r : List V → Hp → VK → Prop) : Prop :=
  ∀ (pins : List (Addr × Obj)) (s : Shared) (σ : St) (H : Hp) (xs : List V) (us : List Value) (Q : VK), Inv X pins σ H s → Vals xs us → r xs H Q →
    wpAny (model X.prog X.w) X.A (call f us) (EP X pins σ Q) X.xe s
def TruR (X : Cx) (r : V → Hp → (Bool → Hp → Prop) → Prop) : Prop :=
  ∀ (pins : List (Addr × Obj)) (s : Shared) (σ : St) (H : Hp) (x : V) (v : Value) (Q : Bool → Hp → Prop), Inv X pins σ H s → RelV x v → r x H Q →
    wpAny (model X.prog X.w) X.A (truthy v) (TP X pins σ Q) X.xe s
def tOp (r : R2) (ta tb : TE) : TE := fun σ H Q => ta σ H fun x H1 => tb σ H1 fun y H2 => r x y H2 Q
def tUn (r : V → Hp → VK → Prop) (ta : TE) : TE := fun σ H Q => ta σ H fun x H1 => r x H1 Q
def rI (C : Int → Int → Prop) (g : Int → Int → V) : R2 := fun x y H Q => ∃ i j, x = .int i ∧ y = .int j ∧ C i j ∧ Q (g i j) H
def rI0 (g : Int → Int → V) : R2 := fun x y H Q => ∃ i j, x = .int i ∧ y = .int j ∧ Q (g i j) H
def rU (g : Int → V) : V → Hp → VK → Prop := fun x H Q => ∃ i, x = .int i ∧ Q (g i) H
section
variable {X : Cx} {a b c : Expr} {ta tb tc : TE} {pos : Pos}
theorem binT (ha : PE X a ta) (hb : PE X b tb) {pins : List (Addr × Obj)} {s : Shared} {σ : St} {H : Hp} {R : V → V → Hp → Prop} (I : Inv X pins σ H s)
    (h : ta σ H fun x H1 => tb σ H1 fun y H2 => R x y H2) {Q : Value → Shared → Prop} {f : Value → Value → Sem Value}
    (hf : ∀ v u s2 x y H2, Inv X pins σ H2 s2 → RelV x v → RelV y u → R x y H2 → wpAny (model X.prog X.w) X.A (f v u) Q X.xe s2) :
    wpAny (model X.prog X.w) X.A (eval a X.env) (fun v s₁ => wpAny (model X.prog X.w) X.A (eval b X.env) (fun u s₂ => wpAny (model X.prog X.w) X.A (f v u) Q X.xe s₂) X.xe s₁) X.xe s := by
  refine thn (ha pins s σ H _ I h) fun v s1 ⟨x, H1, I1, r1, q1⟩ => ?_
  refine thn (hb pins s1 σ H1 _ I1 q1) fun u s2 ⟨y, H2, I2, r2, q2⟩ => ?_
  exact hf v u s2 x y H2 I2 r1 r2 q2
theorem pe_op {op : Operator} {r : R2} (ho : OpR X (binaryOp op) r) (ha : PE X a ta) (hb : PE X b tb) : PE X (.BinOp a op b pos) (tOp r ta tb) := by
  intro pins s σ H Q I h
  exact wpAny_BinOp (binT ha hb I h fun v u s2 x y H2 I2 rx ry q => ho pins s2 σ H2 x y v u Q I2 rx ry q)
theorem pe_un {op : UnaryOp} {r : V → Hp → VK → Prop} (ho : UnR X (unaryOp op) r) (ha : PE X a ta) : PE X (.UnaryOp op a pos) (tUn r ta) := by
  intro pins s σ H Q I h
  exact UnaryOp_ (thn (ha pins s σ H _ I h) fun v s1 ⟨x, H1, I1, r1, q1⟩ => ho pins s1 σ H1 x v Q I1 r1 q1)
theorem opI {f : Value → Value → Sem Value} {C : Int → Int → Prop} {g : Int → Int → Int}
    (rule : ∀ (i j : Int) (t u : Tok) (s : Shared) (Q : Value → Shared → Prop) (E : Value → Shared → Prop), C i j → Q (.int (g i j) s.toks) { s with toks := s.toks + 1 } → wpAny (model X.prog X.w) X.A (f (.int i t) (.int j u)) Q E s) :
    OpR X f (rI C fun i j => .int (g i j)) := by
  intro pins s σ H x y v u Q I rx ry h
  obtain ⟨i, j, rfl, rfl, hc, q⟩ := h
  obtain ⟨t, rfl⟩ := rx
  obtain ⟨t', rfl⟩ := ry
  exact rule i j t t' s _ _ hc ⟨.int (g i j), H, I.tok _, ⟨_, rfl⟩, q⟩
theorem opI0 {f : Value → Value → Sem Value} {g : Int → Int → Int}
    (rule : ∀ (i j : Int) (t u : Tok) (s : Shared) (Q : Value → Shared → Prop) (E : Value → Shared → Prop), Q (.int (g i j) s.toks) { s with toks := s.toks + 1 } → wpAny (model X.prog X.w) X.A (f (.int i t) (.int j u)) Q E s) :
    OpR X f (rI0 fun i j => .int (g i j)) := by
  intro pins s σ H x y v u Q I rx ry h
  obtain ⟨i, j, rfl, rfl, q⟩ := h
  obtain ⟨t, rfl⟩ := rx
  obtain ⟨t', rfl⟩ := ry
  exact rule i j t t' s _ _ ⟨.int (g i j), H, I.tok _, ⟨_, rfl⟩, q⟩
theorem opB0 {f : Value → Value → Sem Value} {g : Int → Int → Bool}
    (rule : ∀ (i j : Int) (t u : Tok) (s : Shared) (Q : Value → Shared → Prop) (E : Value → Shared → Prop), Q (.bool (g i j)) s → wpAny (model X.prog X.w) X.A (f (.int i t) (.int j u)) Q E s) :
    OpR X f (rI0 fun i j => .bl (g i j)) := by
  intro pins s σ H x y v u Q I rx ry h
  obtain ⟨i, j, rfl, rfl, q⟩ := h
  obtain ⟨t, rfl⟩ := rx
  obtain ⟨t', rfl⟩ := ry
  exact rule i j t t' s _ _ ⟨.bl (g i j), H, I, rfl, q⟩
def CDiv (i j : Int) : Prop := 0 < j ∧ j < 1073741824
def CPow (i j : Int) : Prop := 0 ≤ j ∧ j ≤ 1000000 ∧ i.natAbs < 2 ^ 64
def CMul (i j : Int) : Prop := (-(2 ^ 64) < i ∧ i < 2 ^ 64) ∨ (-(2 ^ 64) < j ∧ j < 2 ^ 64)
theorem CMul.ok {i j : Int} (h : CMul i j) : IntMulOk i j := by
  rcases h with ⟨h1, h2⟩ | ⟨h1, h2⟩
  · exact .of_left (intBits_le_64 h1 h2)
  · exact .of_right (intBits_le_64 h1 h2)
theorem two_pow_nn (k : Nat) : (0 : Int) ≤ 2 ^ k := by
  rw [two_pow_cast]
  exact Int.natCast_nonneg _
theorem op_add : OpR X (binaryOp .Add) (rI0 fun i j => .int (i + j)) := opI0 fun _ _ _ _ _ _ _ q => add_int q
theorem op_sub : OpR X (binaryOp .Sub) (rI0 fun i j => .int (i - j)) := opI0 fun _ _ _ _ _ _ _ q => sub_int q
theorem op_mul : OpR X (binaryOp .Mult) (rI CMul fun i j => .int (i * j)) := opI fun _ _ _ _ _ _ _ hc q => mul_int q hc.ok
theorem op_fdiv : OpR X (binaryOp .FloorDiv) (rI CDiv fun i j => .int (i / j)) := opI fun i j _ _ _ _ _ hc q => by
  have h1 : (0 : Int) < j := hc.1
  have h2 : j < 1073741824 := hc.2
  exact floordiv_int (by omega) (by rw [Int.fdiv_eq_ediv_of_nonneg i (by omega)]; exact q) (.inl (PyProof.noPylong_small (by omega)))
theorem op_mod : OpR X (binaryOp .Mod) (rI (fun _ j => 0 < j) fun i j => .int (i % j)) := opI fun i j _ _ _ _ _ hc q => by
  have h1 : (0 : Int) < j := hc
  exact mod_int' (by omega) (by rw [Int.fmod_eq_emod_of_nonneg i (by omega)]; exact q)
theorem op_pow : OpR X (binaryOp .Pow) (rI CPow fun i j => .int (i ^ j.toNat)) := opI fun _ _ _ _ _ _ _ hc q => pow_int_small hc.1 hc.2.1 hc.2.2 q
theorem op_shr : OpR X (binaryOp .RShift) (rI (fun _ j => 0 ≤ j) fun i j => .int (i / 2 ^ j.toNat)) := opI fun i j _ _ _ _ _ hc q =>
  rshift_int hc (by rw [Int.fdiv_eq_ediv_of_nonneg i (two_pow_nn _)]; exact q)
theorem unI {f : Value → Sem Value} {g : Int → Int}
    (rule : ∀ (i : Int) (t : Tok) (s : Shared) (Q : Value → Shared → Prop) (E : Value → Shared → Prop), Q (.int (g i) s.toks) { s with toks := s.toks + 1 } → wpAny (model X.prog X.w) X.A (f (.int i t)) Q E s) :
    UnR X f (rU fun i => .int (g i)) := by
  intro pins s σ H x v Q I rx h
  obtain ⟨i, rfl, q⟩ := h
  obtain ⟨t, rfl⟩ := rx
  exact rule i t s _ _ ⟨.int (g i), H, I.tok _, ⟨_, rfl⟩, q⟩
theorem un_neg : UnR X (unaryOp .USub) (rU fun i => .int (-i)) := unI fun _ _ _ _ _ q => neg_int q
end
def scal : V → V → Bool
  | .non, .non => true | .non, .int _ => true | .int _, .non => true | .non, .bl _ => true | .bl _, .non => true | .non, .str _ => true | .str _, .non => true
  | .int _, .int _ => true | .bl _, .bl _ => true | .str _, .str _ => true | .byt _, .byt _ => true
  | .int _, .str _ => true | .str _, .int _ => true | .bl _, .str _ => true | .str _, .bl _ => true
  | _, _ => false
def rEq : R2 := fun x y H Q => scal x y = true ∧ Q (.bl (decide (x = y))) H
def rNe : R2 := fun x y H Q => scal x y = true ∧ Q (.bl (!decide (x = y))) H
theorem dec_int {i j : Int} : decide (V.int i = V.int j) = (i == j) := by
  rw [Bool.eq_iff_iff]
  simp
theorem dec_bl {i j : Bool} : decide (V.bl i = V.bl j) = (i == j) := by
  rw [Bool.eq_iff_iff]
  simp
theorem dec_str {i j : Str} : decide (V.str i = V.str j) = (i == j) := by
  rw [Bool.eq_iff_iff]
  simp
theorem dec_byt {i j : Array UInt8} : decide (V.byt i = V.byt j) = (i.toList == j.toList) := by
  rw [Bool.eq_iff_iff]
  cases i
  cases j
  simp
section
variable {X : Cx} {a b c : Expr} {ta tb tc : TE} {pos : Pos}
theorem fin_bl {pins : List (Addr × Obj)} {σ : St} {H : Hp} {s : Shared} {Q : VK} {k k' : Bool} (I : Inv X pins σ H s) (q : Q (.bl k) H) (e : k = k') : EP X pins σ Q (.bool k') s := by
  subst e
  exact ⟨.bl k, H, I, rfl, q⟩
theorem op_eq : OpR X (compareOp .Eq) rEq := by
  intro pins s σ H x y v u Q I rx ry h
  obtain ⟨hs, q⟩ := h
  cases x with
  | non =>
    cases rx
    cases y with
    | non => cases ry; exact PySem.EqNone.eq_none_none (fin_bl I q (by simp))
    | bl j => cases ry; exact PySem.EqNone.eq_none_bool (fin_bl I q (by simp))
    | int j => obtain ⟨t', rfl⟩ := ry; exact PySem.EqNone.eq_none_int (fin_bl I q (by simp))
    | str j => obtain ⟨t', rfl⟩ := ry; exact PySem.EqNone.eq_none_str (fin_bl I q (by simp))
    | _ => exact absurd (show false = true from hs) Bool.false_ne_true
  | bl i =>
    cases rx
    cases y with
    | non => cases ry; exact PySem.EqNone.eq_bool_none (fin_bl I q (by simp))
    | bl j => cases ry; exact eq_bool (fin_bl I q dec_bl)
    | str j => obtain ⟨t', rfl⟩ := ry; exact PySem.EqMixed.eq_bool_str (fin_bl I q (by simp))
    | _ => exact absurd (show false = true from hs) Bool.false_ne_true
  | int i =>
    obtain ⟨t, rfl⟩ := rx
    cases y with
    | non => cases ry; exact PySem.EqNone.eq_int_none (fin_bl I q (by simp))
    | int j => obtain ⟨t', rfl⟩ := ry; exact eq_int (fin_bl I q dec_int)
    | str j => obtain ⟨t', rfl⟩ := ry; exact PySem.EqMixed.eq_int_str (fin_bl I q (by simp))
    | _ => exact absurd (show false = true from hs) Bool.false_ne_true
  | str i =>
    obtain ⟨t, rfl⟩ := rx
    cases y with
    | non => cases ry; exact PySem.EqNone.eq_str_none (fin_bl I q (by simp))
    | bl j => cases ry; exact PySem.EqMixed.eq_str_bool (fin_bl I q (by simp))
    | int j => obtain ⟨t', rfl⟩ := ry; exact PySem.EqMixed.eq_str_int (fin_bl I q (by simp))
    | str j => obtain ⟨t', rfl⟩ := ry; exact eq_str (fin_bl I q dec_str)
    | _ => exact absurd (show false = true from hs) Bool.false_ne_true
  | byt i =>
    obtain ⟨t, rfl⟩ := rx
    cases y with
    | byt j => obtain ⟨t', rfl⟩ := ry; exact PySem.W.eq_bytes (fin_bl I q dec_byt)
    | _ => exact absurd (show false = true from hs) Bool.false_ne_true
  | _ => cases y <;> exact absurd (show false = true from hs) Bool.false_ne_true
theorem op_ne : OpR X (compareOp .NotEq) rNe := by
  intro pins s σ H x y v u Q I rx ry h
  obtain ⟨hs, q⟩ := h
  cases x with
  | non =>
    cases rx
    cases y with
    | non => cases ry; exact PySem.EqNone.ne_none_none (fin_bl I q (by simp))
    | bl j => cases ry; exact PySem.EqNone.ne_none_bool (fin_bl I q (by simp))
    | int j => obtain ⟨t', rfl⟩ := ry; exact PySem.EqNone.ne_none_int (fin_bl I q (by simp))
    | str j => obtain ⟨t', rfl⟩ := ry; exact PySem.EqNone.ne_none_str (fin_bl I q (by simp))
    | _ => exact absurd (show false = true from hs) Bool.false_ne_true
  | bl i =>
    cases rx
    cases y with
    | non => cases ry; exact PySem.EqNone.ne_bool_none (fin_bl I q (by simp))
    | bl j => cases ry; exact ne_bool (fin_bl I q (congrArg not dec_bl))
    | str j => obtain ⟨t', rfl⟩ := ry; exact PySem.EqMixed.ne_bool_str (fin_bl I q (by simp))
    | _ => exact absurd (show false = true from hs) Bool.false_ne_true
  | int i =>
    obtain ⟨t, rfl⟩ := rx
    cases y with
    | non => cases ry; exact PySem.EqNone.ne_int_none (fin_bl I q (by simp))
    | int j => obtain ⟨t', rfl⟩ := ry; exact ne_int (fin_bl I q (congrArg not dec_int))
    | str j => obtain ⟨t', rfl⟩ := ry; exact PySem.EqMixed.ne_int_str (fin_bl I q (by simp))
    | _ => exact absurd (show false = true from hs) Bool.false_ne_true
  | str i =>
    obtain ⟨t, rfl⟩ := rx
    cases y with
    | non => cases ry; exact PySem.EqNone.ne_str_none (fin_bl I q (by simp))
    | bl j => cases ry; exact PySem.EqMixed.ne_str_bool (fin_bl I q (by simp))
    | int j => obtain ⟨t', rfl⟩ := ry; exact PySem.EqMixed.ne_str_int (fin_bl I q (by simp))
    | str j => obtain ⟨t', rfl⟩ := ry; exact ne_str (fin_bl I q (congrArg not dec_str))
    | _ => exact absurd (show false = true from hs) Bool.false_ne_true
  | byt i =>
    obtain ⟨t, rfl⟩ := rx
    cases y with
    | byt j => obtain ⟨t', rfl⟩ := ry; exact PySem.W.ne_bytes (fin_bl I q (congrArg not dec_byt))
    | _ => exact absurd (show false = true from hs) Bool.false_ne_true
  | _ => cases y <;> exact absurd (show false = true from hs) Bool.false_ne_true
theorem op_lt : OpR X (compareOp .Lt) (rI0 fun i j => .bl (decide (i < j))) := opB0 fun _ _ _ _ _ _ _ q => lt_int q
theorem op_le : OpR X (compareOp .LtE) (rI0 fun i j => .bl (decide (i ≤ j))) := opB0 fun _ _ _ _ _ _ _ q => le_int q
theorem op_gt : OpR X (compareOp .Gt) (rI0 fun i j => .bl (decide (j < i))) := opB0 fun _ _ _ _ _ _ _ q => gt_int q
theorem op_ge : OpR X (compareOp .GtE) (rI0 fun i j => .bl (decide (j ≤ i))) := opB0 fun _ _ _ _ _ _ _ q => ge_int q
theorem op_isN : OpR X (compareOp .Is) (fun x y H Q => y = .non ∧ Q (.bl (decide (x = .non))) H) := by
  intro pins s σ H x y v u Q I rx ry h
  obtain ⟨rfl, q⟩ := h
  cases ry
  refine is_none_gen (fin_bl I q ?_)
  cases x <;> first
    | (cases rx; rfl)
    | (obtain ⟨t, rfl⟩ := rx; rfl)
theorem op_notN : OpR X (compareOp .IsNot) (fun x y H Q => y = .non ∧ Q (.bl (!decide (x = .non))) H) := by
  intro pins s σ H x y v u Q I rx ry h
  obtain ⟨rfl, q⟩ := h
  cases ry
  refine isnot_none_gen (fin_bl I q ?_)
  cases x <;> first
    | (cases rx; rfl)
    | (obtain ⟨t, rfl⟩ := rx; rfl)
def isObj : HO → Bool
  | .lst _ => true
  | .ins _ _ _ => true
  | _ => false
theorem nomark (b : Expr) {op : CmpOp} (h : op ≠ .In := by decide) (h2 : op ≠ .NotIn := by decide) : behindInMarks op b = false := by
  have e1 : (op == CmpOp.In) = false := by cases op <;> first | rfl | exact absurd rfl h
  have e2 : (op == CmpOp.NotIn) = false := by cases op <;> first | rfl | exact absurd rfl h2
  cases b <;> simp [behindInMarks, e1, e2]
theorem pe_cmpR {op : CmpOp} {r : R2} (ho : OpR X (compareOp op) r) (ha : PE X a ta) (hb : PE X b tb) (hm : behindInMarks op b = false) : PE X (.Compare a [op] [b] pos) (tOp r ta tb) := by
  intro pins s σ H Q I h
  exact wpAny_Compare1 (binT ha hb I h fun v u s2 x y H2 I2 rx ry q => ho pins s2 σ H2 x y v u Q I2 rx ry q) hm
def tTest (t : TE) : TT := fun σ H Q => t σ H fun x H' => ∃ k, x = .bl k ∧ Q k H'
theorem pt_cmpR {op : CmpOp} {r : R2} (ho : OpR X (compareOp op) r) (ha : PE X a ta) (hb : PE X b tb) (hm : behindInMarks op b = false) : PT X (.Compare a [op] [b] pos) (tTest (tOp r ta tb)) := by
  intro pins s σ H Q I h
  refine wpAny_isTrue_Compare1 (thn (ha pins s σ H _ I h) fun v s1 ⟨x, H1, I1, r1, q1⟩ => thn (hb pins s1 σ H1 _ I1 q1) fun u s2 ⟨y, H2, I2, r2, q2⟩ =>
    thn (ho pins s2 σ H2 x y v u _ I2 r1 r2 q2) fun c s3 ⟨z, H3, I3, r3, k, e, q3⟩ => ?_) hm
  subst e
  cases r3
  exact wpAny_truthy_bool ⟨H3, I3, q3⟩
def tChain (r r' : R2) (ta tb tc : TE) : TE := fun σ H Q => ta σ H fun x H1 => tb σ H1 fun y H2 => r x y H2 fun z H3 => ∃ k, z = .bl k ∧
  (if k = true then tc σ H3 fun w' H4 => r' y w' H4 Q else Q (.bl false) H3)
theorem pe_chain {op op' : CmpOp} {r r' : R2} (ho : OpR X (compareOp op) r) (ho' : OpR X (compareOp op') r') (ha : PE X a ta) (hb : PE X b tb) (hc : PE X c tc)
    (hm : lastMarks [op, op'] [b, c] = false := by with_unfolding_all rfl) : PE X (.Compare a [op, op'] [b, c] pos) (tChain r r' ta tb tc) := by
  intro pins s σ H Q I h
  refine Compare_chain (thn (ha pins s σ H _ I h) fun v s1 ⟨x, H1, I1, r1, q1⟩ => chain_link (thn (hb pins s1 σ H1 _ I1 q1) fun u s2 ⟨y, H2, I2, r2, q2⟩ =>
    thn (ho pins s2 σ H2 x y v u _ I2 r1 r2 q2) fun d s3 ⟨z, H3, I3, r3, k, e, q3⟩ => ?_)) hm
  subst e
  cases r3
  refine wpAny_truthy_bool ?_
  cases k with
  | false => exact ite_ff ⟨.bl false, H3, I3, rfl, q3⟩
  | true => exact ite_tt (chain_last (thn (hc pins s3 σ H3 _ I3 q3) fun w' s4 ⟨z', H4, I4, r4, q4⟩ => ho' pins s4 σ H4 y z' u w' Q I4 r2 r4 q4))
def TruV (K : PySem.W.Frag) (x : V) (H : Hp) (k : Bool) : Prop :=
  match x with
  | .non => k = false
  | .bl b => k = b
  | .int i => k = (i != 0)
  | .str y => y.length ≤ sizeLine ∧ k = ((y.length : Int) != 0)
  | .byt y => y.size ≤ sizeLine ∧ k = ((y.size : Int) != 0)
  | .ref p => (∃ xs, SqL K H p xs ∧ k = !xs.isEmpty) ∨ (∃ xs, SqT K H p xs ∧ k = !xs.isEmpty) ∨ ∃ kvs, H p = some (.dK kvs) ∧ k = !kvs.isEmpty
  | _ => False
theorem isEmpty_kv {κ : Type} {kvs : List (κ × V)} {vs : List (κ × Value)} (r : KV kvs vs) : (!vs.isEmpty) = !kvs.isEmpty := by
  cases r <;> rfl
theorem isEmpty_of {xs : List V} {its : List Value} (r : Vals xs its) : (!its.toArray.isEmpty) = !xs.isEmpty := by
  cases r <;> simp
theorem line63 : (sizeLine : Nat) < 2 ^ 63 := by rw [sizeLine_eq]; decide
theorem tru_ok : TruR X (fun x H Q => ∃ k, TruV X.K x H k ∧ Q k H) := by
  intro pins s σ H x v Q I rx h
  obtain ⟨k, e, q⟩ := h
  have hl := line63
  have hs : sizeLine = 16777216 := sizeLine_eq
  cases x with
  | non =>
    cases rx
    have e' : k = false := e
    subst e'
    exact truthy_none ⟨H, I, q⟩
  | bl b =>
    cases rx
    have e' : k = b := e
    subst e'
    exact wpAny_truthy_bool ⟨H, I, q⟩
  | int i =>
    obtain ⟨t, rfl⟩ := rx
    have e' : k = (i != 0) := e
    subst e'
    exact PySem.P.truthy_int ⟨H, I, q⟩
  | str y =>
    obtain ⟨t, rfl⟩ := rx
    obtain ⟨hy, e'⟩ : y.length ≤ sizeLine ∧ k = ((y.length : Int) != 0) := e
    subst e'
    exact PySem.P.truthy_str (by omega) ⟨H, I.tok _, q⟩
  | byt y =>
    obtain ⟨t, rfl⟩ := rx
    obtain ⟨hy, e'⟩ : y.size ≤ sizeLine ∧ k = ((y.size : Int) != 0) := e
    subst e'
    exact PySem.W.truthy_bytes (by omega) ⟨H, I.tok _, q⟩
  | ref p =>
    cases rx
    have e' : (∃ xs, SqL X.K H p xs ∧ k = !xs.isEmpty) ∨ (∃ xs, SqT X.K H p xs ∧ k = !xs.isEmpty) ∨ ∃ kvs, H p = some (.dK kvs) ∧ k = !kvs.isEmpty := e
    rcases e' with ⟨xs, hx, e'⟩ | ⟨xs, hx, e'⟩ | ⟨kvs, hx, e'⟩
    · subst e'
      obtain ⟨its, r, pl, hz⟩ := I.list hx
      have hlen := r.length
      exact wpAny_truthy_list pl.isList (by simp only [List.size_toArray]; omega) ⟨H, I.tok _, by rw [isEmpty_of r]; exact q⟩
    · subst e'
      obtain ⟨its, r, pl, hz⟩ := I.tuple hx
      have hlen := r.length
      exact truthy_tuple pl (by simp only [List.size_toArray]; omega) ⟨H, I.tok _, by rw [isEmpty_of r]; exact q⟩
    · subst e'
      obtain ⟨hz, hS, vs, r, m⟩ : kvs.length ≤ sizeLine ∧ (p == sysModules) = false ∧ ∃ vs, KV kvs vs ∧ s.heap.DictOf (mixKind X.prog X.w) p vs := I.hok p _ hx
      have hlen : kvs.length = vs.length := Paired.length r
      exact wpAny_truthy_dict hS m (by omega) ⟨H, I.tok _, by rw [isEmpty_kv r]; exact q⟩
  | _ => exact (show False from e).elim
theorem pt_truth (ha : PE X a ta) (he : ∀ whole, isTrue a X.env whole = (do let v ← whole; standAt a.pos; holding [v] (truthy v))) :
    PT X a (fun σ H Q => ta σ H fun x H' => ∃ k, TruV X.K x H' k ∧ Q k H') := by
  intro pins s σ H Q I h
  exact isTrue_plain (thn (ha pins s σ H _ I h) fun v s1 ⟨x, H1, I1, r1, q1⟩ => tru_ok pins s1 σ H1 x v Q I1 r1 q1) (he _)
theorem vals1 {x : V} {us : List Value} (r : Vals [x] us) : ∃ u, us = [u] ∧ RelV x u := by
  cases r with
  | cons r1 r2 => cases r2; exact ⟨_, rfl, r1⟩
theorem vals2 {x y : V} {us : List Value} (r : Vals [x, y] us) : ∃ u w', us = [u, w'] ∧ RelV x u ∧ RelV y w' := by
  cases r with
  | cons r1 r2 =>
    cases r2 with
    | cons r3 r4 => cases r4; exact ⟨_, _, rfl, r1, r3⟩
theorem call_abs : CallR X (.builtin "abs") (fun xs H Q => ∃ i, xs = [.int i] ∧ Q (.int (if i < 0 then -i else i)) H) := by
  intro pins s σ H xs us Q I r h
  obtain ⟨i, rfl, q⟩ := h
  obtain ⟨u, rfl, t, rfl⟩ := vals1 r
  exact call_abs_int fun u tk => ⟨.int (if i < 0 then -i else i), H, I.tok _, ⟨_, rfl⟩, q⟩
theorem call_min2 (hc : X.calm = true) : CallR X (.builtin "min") (fun xs H Q => ∃ i j, xs = [.int i, .int j] ∧ Q (.int (if j < i then j else i)) H) := by
  intro pins s σ H xs us Q I r h
  obtain ⟨i, j, rfl, q⟩ := h
  obtain ⟨u, w', rfl, ⟨t, rfl⟩, ⟨t', rfl⟩⟩ := vals2 r
  refine min_two_ints (I.ok.hd hc) fun h' tk k => ⟨_, H, I.kept k, ?_, q⟩
  by_cases hj : j < i
  · rw [if_pos hj, if_pos hj]; exact ⟨_, rfl⟩
  · rw [if_neg hj, if_neg hj]; exact ⟨_, rfl⟩
end
end L2
namespace L2
open PySem PySem.Spec PyProof.Rows
variable {q0 : Bool}
structure ObjM (h : Heap) (x dx C : Addr) (mA : Str → Option Value) : Prop where
  obj : h.get? x = some (PySem.W.instObj C dx)
  ns : h.Ns1 dx mA
  ne : dx ≠ x
theorem lookIn_ns {h : Heap} {dx : Addr} {mA : Str → Option Value} (n : h.Ns1 dx mA) : ∃ od, h.get? dx = some od ∧ ∀ name, PySem.W.lookIn name od = some (mA name) := by
  obtain ⟨o, es, ep, ho, hd, hk, _, hm⟩ := n
  refine ⟨o, ho, fun name => ?_⟩
  have e := hm name
  unfold nsFind findBy at e
  rw [← Array.find?_toList] at e
  unfold PySem.W.lookIn
  rw [hd]
  dsimp only
  split
  · rename_i y q
    rw [q] at e
    exact congrArg some e
  · rename_i q
    rw [q] at e
    have a : es.toList.any (·.refKey) = false := by
      rw [List.any_eq_false]
      intro y hy
      obtain ⟨z, t, hkey⟩ := hk y (Array.mem_toList_iff.mp hy)
      simp [DictEntry.refKey, hkey]
    have a' : ¬ es.toList.any (·.refKey) = true := by rw [a]; exact Bool.false_ne_true
    rw [if_neg a']
    exact congrArg some e
theorem ObjM.look {h : Heap} {x dx C : Addr} {mA : Str → Option Value} (I : ObjM h x dx C mA) : ∃ od, PySem.W.InstAt h x (PySem.W.instObj C dx) C (some od) ∧ ∀ name, PySem.W.lookIn name od = some (mA name) :=
  let ⟨od, ho, hl⟩ := lookIn_ns I.ns
  ⟨od, ⟨I.obj, rfl, rfl, ho⟩, hl⟩
section
variable {prog : Program} {w : World} {A : Around} {E : Value → Shared → Prop} {s : Shared} {K : PySem.W.Frag} {x dx C f : Addr} {mA : Str → Option Value} {name : Str} {v : Value}
theorem get_map {expr : Bool} {Q : Value → Shared → Prop} (X : K.In s.heap) (I : ObjM s.heap x dx C mA) (hg : PySem.W.plainGet K C name = true) (hh : PySem.W.hasDictIn K C = true)
    (ha : PySem.W.findIn K (.ref C) name = some none) (hv : mA name = some v) (hv' : PySem.W.handedIn v = true) (h : Q v { s with toks := s.toks + 1 }) :
    wpAny (model prog w) A (getAttr (.ref x) name expr) Q E s := by
  obtain ⟨od, J, hl⟩ := I.look
  exact PySem.W.get_value X J (PySem.W.plainGet_of hg).1 (PySem.W.findObj_own hh ha rfl (by rw [hl, hv])) hv' h
theorem get_meth {pl : Sem Bool} {Q : Value × List Value → Shared → Prop} (X : K.In s.heap) (I : ObjM s.heap x dx C mA) (hg : PySem.W.plainGet K C name = true)
    (hf : PySem.W.findIn K (.ref C) name = some (some (.ref f))) (ht : PySem.W.isFn K (.ref f) = true) (hv : mA name = none) (h : Q (.ref f, [.ref x]) s) :
    wpAny (model prog w) A (getMethod (.ref x) name pl) Q E s := by
  obtain ⟨od, J, hl⟩ := I.look
  exact PySem.W.method_fn X J (PySem.W.plainGet_of hg).1 (PySem.W.plainGet_of hg).2 hf (beq_iff_eq.mp ht) (by show (PySem.W.lookIn name od).map (·.isSome) = some false; rw [hl, hv]; rfl) h
theorem set_map {ns : List Str} {Q : Unit → Shared → Prop} (X : K.In s.heap) (I : ObjM s.heap x dx C mA)
    (hs : PySem.W.findIn K (.ref C) "__setattr__" = some (some (.builtin "object.__setattr__"))) (hp : PySem.W.plainOver K C = true) (ht : PySem.W.takerIn K C name = some none) (hh : PySem.W.hasDictIn K C = true)
    (hw : PySem.Within mA ns) (hsz : ns.length ≤ sizeLine)
    (h : ∀ h', ObjM h' x dx C (fun y => if y = name then some v else mA y) → Heap.SameBut dx s.heap h' → Q () { s with heap := h', toks := s.toks + 2 }) :
    wpAny (model prog w) A (setAttr (.ref x) name v) Q E s := by
  obtain ⟨od, J, hl⟩ := I.look
  refine PySem.W.set_plain X J hs (PySem.W.osa_open (s := { s with toks := s.toks + 1 }) (r := none) X J hp ht fun b => ?_)
  obtain ⟨cd, hc, hd'⟩ := PySem.W.any_some hh
  have hx : s.heap.get? x = some ⟨.ref C, some dx, .plain, #[]⟩ := I.obj
  refine wpAny_bind (wpAny_pure (wpAny_bind (wpAny_bind (wpAny_loadPart hx (wpAny_bind (PySem.W.Looks.here (s := { s with toks := s.toks + 1 }) (PySem.W.looks_clsIn X hc) ?_))))))
  rw [hd']
  refine wpAny_pure (a := some dx) (wpAny_bind (wpAny_pure (wpAny_bind ?_)))
  refine wpAny_nsSet1 (s := { s with toks := s.toks + 1 }) I.ns fun h' hn2 hs2 => ?_
  obtain ⟨oD, esD, epD, hoD, hdD, hcD⟩ := hn2.count (PySem.Within.cons name v hw)
  refine wpAny_bind (wpAny_lookBehind hoD (by rw [hdD]; exact pastItsLine_dict (Nat.le_trans hcD (by rw [List.length_cons]; omega))) ?_)
  exact wpAny_pure (h _ ⟨(hs2.2 _ (Ne.symm I.ne)).trans I.obj, hn2, I.ne⟩ hs2)
theorem make_map {R : Result → Shared → Prop} {vs : List Value} {kw : List (Str × Value)} (X : K.In s.heap) (hm : PySem.W.makesIn K C = true)
    (hi : PySem.W.findIn K (.ref C) "__init__" = some (some (.ref f))) (hf : PySem.W.typeIn K (.ref f) = some (.type "function"))
    (h : codeAny (model prog w) (A.under (.builtin "type.__call__" ⟨.ref C :: vs, kw⟩)) (.call (.ref f) ⟨.ref (s.heap.objs.size + 1) :: vs, kw⟩) (PySem.W.InitBack (s.heap.objs.size + 1) R)
      { s with heap := (s.heap.push PySem.W.emptyDict).push (PySem.W.instObj C s.heap.objs.size) }) :
    codeAny (model prog w) A (.call (.ref C) ⟨vs, kw⟩) R s := by
  obtain ⟨hh, g, d, t, os⟩ := s
  exact PySem.W.make_core (PySem.W.makes_of X hm) (PySem.W.looks_findIn X hi) (fun self => PySem.W.bind_fn X self hf) (.inl rfl) h
end
def putF (f : Str) (v : V) : List (Str × V) → List (Str × V)
  | [] => [(f, v)]
  | (g, x) :: r => if g = f then (g, v) :: r else (g, x) :: putF f v r
theorem lookup_putF (f g : Str) (v : V) : ∀ fs : List (Str × V), (putF f v fs).lookup g = if g = f then some v else fs.lookup g
  | [] => by
    show List.lookup g [(f, v)] = _
    by_cases h : g = f
    · have hb : (g == f) = true := beq_iff_eq.mpr h
      simp only [List.lookup, hb, if_pos h]
    · have hb : (g == f) = false := beq_eq_false_iff_ne.mpr h
      simp only [List.lookup, hb, if_neg h]
  | (k, x) :: r => by
    have ih := lookup_putF f g v r
    rw [show putF f v ((k, x) :: r) = (if k = f then (k, v) :: r else (k, x) :: putF f v r) from rfl]
    by_cases hk : k = f
    · rw [if_pos hk]
      by_cases h : g = k
      · have hb : (g == k) = true := beq_iff_eq.mpr h
        simp only [List.lookup, hb, if_pos (h.trans hk)]
      · have hb : (g == k) = false := beq_eq_false_iff_ne.mpr h
        simp only [List.lookup, hb, if_neg (fun e : g = f => h (e.trans hk.symm))]
    · rw [if_neg hk]
      by_cases h : g = k
      · have hb : (g == k) = true := beq_iff_eq.mpr h
        simp only [List.lookup, hb, if_neg (fun e : g = f => hk (h.symm.trans e))]
      · have hb : (g == k) = false := beq_eq_false_iff_ne.mpr h
        simp only [List.lookup, hb]
        exact ih
theorem keys_putF (f : Str) (v : V) : ∀ fs : List (Str × V), f ∈ (putF f v fs).map (·.1) ∧ ∀ g, g ∈ fs.map (·.1) → g ∈ (putF f v fs).map (·.1)
  | [] => ⟨by simp [putF], fun g h => by simp at h⟩
  | (k, x) :: r => by
    obtain ⟨i1, i2⟩ := keys_putF f v r
    rw [show putF f v ((k, x) :: r) = (if k = f then (k, v) :: r else (k, x) :: putF f v r) from rfl]
    by_cases hk : k = f
    · rw [if_pos hk]
      subst hk
      exact ⟨by simp, fun g h => by simpa using h⟩
    · rw [if_neg hk]
      refine ⟨?_, fun g h => ?_⟩
      · rw [List.map_cons]
        exact List.mem_cons_of_mem _ i1
      · rw [List.map_cons] at h ⊢
        rcases List.mem_cons.mp h with e | e
        · exact List.mem_cons.mpr (.inl e)
        · exact List.mem_cons_of_mem _ (i2 g e)
theorem length_putF (f : Str) (v : V) : ∀ fs : List (Str × V), (putF f v fs).length ≤ fs.length + 1
  | [] => by simp [putF]
  | (k, x) :: r => by
    have ih := length_putF f v r
    rw [show putF f v ((k, x) :: r) = (if k = f then (k, v) :: r else (k, x) :: putF f v r) from rfl]
    by_cases hk : k = f
    · rw [if_pos hk, List.length_cons, List.length_cons]; omega
    · rw [if_neg hk, List.length_cons, List.length_cons]; omega
theorem RelO.some_of {v : V} {o : Option Value} (r : RelO (some v) o) : ∃ u, o = some u ∧ RelV v u := by
  cases o with
  | none => exact (show False from r).elim
  | some u => exact ⟨u, rfl, r⟩
theorem RelO.none_of {o : Option Value} (r : RelO none o) : o = none := by
  cases o with
  | none => rfl
  | some u => exact (show False from r).elim
theorem handed_of {v : V} {u : Value} (r : RelV v u) : PySem.W.handedIn u = true := by
  cases v with
  | non => cases (show u = Value.none from r); rfl
  | bl b => cases (show u = Value.bool b from r); rfl
  | int i => obtain ⟨t, e⟩ := (show ∃ t, u = Value.int i t from r); cases e; rfl
  | str x => obtain ⟨t, e⟩ := (show ∃ t, u = Value.str x t from r); cases e; rfl
  | byt b => obtain ⟨t, e⟩ := (show ∃ t, u = Value.bytes b t from r); cases e; rfl
  | flt b => obtain ⟨t, e⟩ := (show ∃ t, u = Value.float b t from r); cases e; rfl
  | ref a => cases (show u = Value.ref a from r); rfl
  | ty n => cases (show u = Value.type n from r); rfl
section
variable {P : Program} {w : World} {H H' : Hp} {h h' : Heap} {a C dx : Addr} {fs fs' : List (Str × V)}
theorem ins_get (hok : HOk P w H h) (e : H a = some (.ins C dx fs)) : ∃ mA, ObjM h a dx C mA ∧ (∀ f, RelO (fs.lookup f) (mA f)) ∧ PySem.Within mA (fs.map (·.1)) ∧ fs.length ≤ 1000 ∧ H dx = some (.own a) := by
  obtain ⟨d, z, ne, ob, mA, n, r, q⟩ := (show ObjOk P w H h a (.ins C dx fs) from hok a _ e)
  exact ⟨mA, ⟨ob, n, ne⟩, r, q, z, d⟩
end
structure Cls (K : PySem.W.Frag) (C : Addr) : Prop where
  pg : PySem.W.plainGet K C Str.empty = true
  hd : PySem.W.hasDictIn K C = true
  po : PySem.W.plainOver K C = true
  sa : PySem.W.findIn K (.ref C) "__setattr__" = some (some (.builtin "object.__setattr__"))
theorem Cls.get {K : PySem.W.Frag} {C : Addr} (c : Cls K C) (f : Str) : PySem.W.plainGet K C f = true := c.pg
def NoAttr (K : PySem.W.Frag) (C : Addr) (f : Str) : Prop := PySem.W.findIn K (.ref C) f = some none
theorem NoAttr.taker {K : PySem.W.Frag} {C : Addr} {f : Str} (n : NoAttr K C f) : PySem.W.takerIn K C f = some none := by
  unfold PySem.W.takerIn
  rw [show PySem.W.findIn K (.ref C) f = some none from n]
  rfl
structure Meth (K : PySem.W.Frag) (C : Addr) (m : Str) (f : Addr) : Prop where
  at_ : PySem.W.findIn K (.ref C) m = some (some (.ref f))
  fn : PySem.W.isFn K (.ref f) = true
  kp : PySem.W.keepIn K (.ref f) = true
section
variable {X : Cx} {pins : List (Addr × Obj)} {σ : St} {H : Hp} {s : Shared} {a C dx : Addr} {fs : List (Str × V)} {f : Str} {v : V} {A : Around} {E : Value → Shared → Prop}
theorem getattr_ok {b : Bool} {Q : Value → Shared → Prop} (I : Inv X pins σ H s) (e : H a = some (.ins C dx fs)) (c : Cls X.K C) (n : NoAttr X.K C f) (l : fs.lookup f = some v)
    (h : ∀ u s', Inv X pins σ H s' → RelV v u → Q u s') : wpAny (model X.prog X.w) A (getAttr (.ref a) f b) Q E s := by
  obtain ⟨mA, O, r, _, _, _⟩ := ins_get I.hok e
  obtain ⟨u, hu, ru⟩ := RelO.some_of (v := v) (o := mA f) (by rw [← l]; exact r f)
  exact get_map I.kIn O (c.get f) c.hd n hu (handed_of ru) (h u _ (I.tok _) ru)
theorem getmeth_ok {m : Str} {g : Addr} {pl : Sem Bool} {Q : Value × List Value → Shared → Prop} (I : Inv X pins σ H s) (e : H a = some (.ins C dx fs)) (c : Cls X.K C) (k : Meth X.K C m g) (l : fs.lookup m = none)
    (h : Q (.ref g, [.ref a]) s) : wpAny (model X.prog X.w) A (getMethod (.ref a) m pl) Q E s := by
  obtain ⟨mA, O, r, _, _, _⟩ := ins_get I.hok e
  have hn : mA m = none := RelO.none_of (by rw [← l]; exact r m)
  exact get_meth I.kIn O (c.get m) k.at_ k.fn hn h
theorem setattr_ok {y : V} {u : Value} {Q : Unit → Shared → Prop} (I : Inv X pins σ H s) (e : H a = some (.ins C dx fs)) (c : Cls X.K C) (n : NoAttr X.K C f) (hl : fs.length < 1000) (ry : RelV y u)
    (h : ∀ s', Inv X pins σ (upd H a (.ins C dx (putF f y fs))) s' → Q () s') : wpAny (model X.prog X.w) A (setAttr (.ref a) f u) Q E s := by
  obtain ⟨mA, O, r, wi, _, ho⟩ := ins_get I.hok e
  have hz : (fs.map (·.1)).length ≤ sizeLine := by rw [List.length_map, sizeLine_eq]; omega
  refine set_map I.kIn O c.sa c.po n.taker c.hd wi hz fun h' O' sb => h _ ?_
  have hd : ∃ o, h'.get? dx = some o := let ⟨o, _, _, e', _⟩ := O'.ns; ⟨o, e'⟩
  refine I.write (x := a) (e := dx) (by rw [e]; exact True.intro) (.inr ho) (fun b q hb z => (sb.2 b hb).trans z) hd ?_
  refine ⟨by rw [upd_ne O.ne]; exact ho, ?_, O.ne, O'.obj, _, O'.ns, fun g => ?_, fun g hg => ?_⟩
  · have := length_putF f y fs; omega
  · show RelO ((putF f y fs).lookup g) (if g = f then some u else mA g)
    rw [lookup_putF]
    by_cases q : g = f
    · rw [if_pos q, if_pos q]; exact ry
    · rw [if_neg q, if_neg q]; exact r g
  · by_cases q : g = f
    · rw [q]; exact (keys_putF f y fs).1
    · refine (keys_putF f y fs).2 g (wi g fun z => hg ?_)
      show (if g = f then some u else mA g) = none
      rw [if_neg q]; exact z
theorem Inv.made (I : Inv X pins σ H s) : Inv X pins σ (upd (upd H s.heap.objs.size (.own (s.heap.objs.size + 1))) (s.heap.objs.size + 1) (.ins C s.heap.objs.size []))
    { s with heap := (s.heap.push PySem.W.emptyDict).push (PySem.W.instObj C s.heap.objs.size) } := by
  have e1 : (s.heap.push PySem.W.emptyDict).get? s.heap.objs.size = some PySem.W.emptyDict := Heap.get?_push_size s.heap rfl
  have e2 : ((s.heap.push PySem.W.emptyDict).push (PySem.W.instObj C s.heap.objs.size)).get? (s.heap.objs.size + 1) = some (PySem.W.instObj C s.heap.objs.size) := by
    have := Heap.get?_push_size (s.heap.push PySem.W.emptyDict) (o := PySem.W.instObj C s.heap.objs.size) rfl
    rwa [Heap.size_push] at this
  have e3 : (s.heap.push PySem.W.emptyDict).Ns s.heap.objs.size (fun _ => none) := ⟨PySem.W.emptyDict, #[], _, e1, rfl, (fun e he => absurd he (by simp)), fun _ => rfl⟩
  have I1 := I.laid (a := s.heap.objs.size) (o := .own (s.heap.objs.size + 1)) (h' := s.heap.push PySem.W.emptyDict) (t' := s.toks) (fun b u q => Heap.get?_push_of_some _ q) (Nat.le_refl _) ⟨_, e1⟩
  refine I1.laid (a := s.heap.objs.size + 1) (o := .ins C s.heap.objs.size []) (t' := s.toks) (fun b u q => Heap.get?_push_of_some _ q) (Nat.le_of_eq (Heap.size_push _ _)) ?_
  have ne : s.heap.objs.size ≠ s.heap.objs.size + 1 := Nat.ne_of_lt (Nat.lt_succ_self _)
  refine ⟨by rw [upd_ne ne, upd_same], Nat.zero_le _, ne, e2, fun _ => none, (Heap.Ns1.of_empty e3).at fun o q => Heap.get?_push_of_some _ q, fun _ => True.intro, fun y hy => absurd rfl hy⟩
theorem attr_of {prog : Program} {w : World} {env : Env} {e : Expr} {f : Str} {pos : Pos} {s : Shared} {Q : Value → Shared → Prop} (hb : attributeBase e f env (eval e env) = eval e env)
    (h : wpAny (model prog w) A (eval e env) (fun o s₁ => wpAny (model prog w) A (getAttr o f true) Q E s₁) E s) : wpAny (model prog w) A (eval (.Attribute e f pos) env) Q E s :=
  Attribute_any_ h (by rw [arm_eval_Attribute, hb])
end
def tFld (K : PySem.W.Frag) (ta : TE) (f : Str) : TE := fun σ H Q => ta σ H fun x H1 => ∃ a C dx fs v, x = .ref a ∧ H1 a = some (.ins C dx fs) ∧ Cls K C ∧ NoAttr K C f ∧ fs.lookup f = some v ∧ Q v H1
def sFld (K : PySem.W.Frag) (ta tv : TE) (f : Str) : TS := fun D σ H => tv σ H fun y H1 => ta σ H1 fun x H2 => ∃ a C dx fs, x = .ref a ∧ H2 a = some (.ins C dx fs) ∧ Cls K C ∧ NoAttr K C f ∧ fs.length < 1000 ∧
  D.nx σ (upd H2 a (.ins C dx (putF f y fs)))
section
variable {X : Cx} {o e value : Expr} {f : Str} {pos pos' tpos : Pos} {ta tv : TE}
theorem pe_fld (he : PE X e ta) (hb : attributeBase e f X.env (eval e X.env) = eval e X.env) : PE X (.Attribute e f pos) (tFld X.K ta f) := by
  intro pins s σ H Q I h
  refine attr_of hb (thn (he pins s σ H _ I h) fun u s1 ⟨x, H1, I1, rx, a, C, dx, fs, v, ex, ea, c, n, l, q⟩ => ?_)
  subst ex
  obtain rfl : u = Value.ref a := rx
  exact getattr_ok I1 ea c n l fun u' s2 I2 ru => ⟨v, H1, I2, ru, q⟩
theorem ps_fld (ha : PE X o ta) (hv : PE X value tv) (hs : swapsWith value (some (.Attribute o f pos')) pos.line X.env = pure false) : PS X (.Assign [.Attribute o f pos'] value pos) (sFld X.K ta tv f) := by
  intro pins s σ H D I h
  refine plainObj_wpAny_Assign_Attribute (thn (hv pins s σ H _ I h) fun u s1 ⟨y, H1, I1, ry, q⟩ => thn (ha pins s1 σ H1 _ I1 q) fun ov s2 ⟨x, H2, I2, rx, a, C, dx, fs, ex, ea, c, n, l, q2⟩ => ?_) hs
  subst ex
  obtain rfl : ov = Value.ref a := rx
  exact setattr_ok I2 ea c n l ry fun s3 I3 => ⟨σ, _, I3, q2⟩
end
section
variable {X : Cx} {pins : List (Addr × Obj)} {σ : St} {H : Hp} {s : Shared} {A : Around} {E : Value → Shared → Prop} {Q : Value → Shared → Prop} {c : Value} {b : Bool}
inductive TyOf (K : PySem.W.Frag) (H : Hp) : V → Value → Prop where
  | non : TyOf K H .non (.type "NoneType")
  | bl (x : Bool) : TyOf K H (.bl x) (.type "bool")
  | int (i : Int) : TyOf K H (.int i) (.type "int")
  | str (x : Str) : TyOf K H (.str x) (.type "str")
  | flt (x : UInt64) : TyOf K H (.flt x) (.type "float")
  | lst {a : Addr} {xs : List V} (e : H a = some (.lst xs)) : TyOf K H (.ref a) (.type "list")
  | frz {a : Addr} {o : Obj} {xs : List V} (e : H a = some (.frz o (.lst xs))) : TyOf K H (.ref a) (.type "list")
  | tup {a : Addr} {xs : List V} (e : H a = some (.tup xs)) : TyOf K H (.ref a) (.type "tuple")
  | dK {a : Addr} {kvs : List (Key × V)} (e : H a = some (.dK kvs)) : TyOf K H (.ref a) (.type "dict")
  | dT {a : Addr} {kvs : List (List Key × V)} (e : H a = some (.dT kvs)) : TyOf K H (.ref a) (.type "dict")
  | ins {a C dx : Addr} {fs : List (Str × V)} (e : H a = some (.ins C dx fs)) (cl : Cls K C) (ha : PySem.W.findIn K (.ref C) "__class__" = some (some (.builtin "object.__class__")))
      (hn : PySem.W.specialIn K (.builtin "object.__class__") "__get__" = some (some (.builtin "getset_descriptor.__get__"))) (htk : PySem.W.takesIn K (.builtin "object.__class__") = some true)
      (hm : PySem.W.mroIn K C (.type "object") = some true) : TyOf K H (.ref a) (.ref C)
theorem isinst_ok {x : V} {u t : Value} (I : Inv X pins σ H s) (rx : RelV x u) (ty : TyOf X.K H x t) (e : PySem.W.kitOne X.K t c = some b) (h : ∀ tk, Q (.bool b) { s with toks := tk }) :
    wpAny (model X.prog X.w) A (call (.builtin "isinstance") [u, c]) Q E s := by
  cases ty with
  | non => cases (show u = Value.none from rx); exact PySem.W.kia_one PySem.W.kitx_none I.kIn True.intro e (fun z => nomatch z) h
  | bl y => cases (show u = Value.bool y from rx); exact PySem.W.kia_one PySem.W.kitx_bool I.kIn True.intro e (fun z => nomatch z) h
  | int i => obtain ⟨t, q⟩ := (show ∃ t, u = Value.int i t from rx); cases q; exact PySem.W.kia_one PySem.W.kitx_int I.kIn True.intro e (fun z => nomatch z) h
  | str y => obtain ⟨t, q⟩ := (show ∃ t, u = Value.str y t from rx); cases q; exact PySem.W.kia_one PySem.W.kitx_str I.kIn True.intro e (fun z => nomatch z) h
  | flt y => obtain ⟨t, q⟩ := (show ∃ t, u = Value.float y t from rx); cases q; exact PySem.W.kia_one PySem.W.kitx_float I.kIn True.intro e (fun z => nomatch z) h
  | @lst a xs ea =>
    cases (show u = Value.ref a from rx)
    obtain ⟨_, _, n, _, h1⟩ := (show ObjOk X.prog X.w H s.heap a (.lst xs) from I.hok a _ ea)
    exact PySem.W.kia_one PySem.W.kitx_list I.kIn ⟨_, h1, rfl⟩ e (fun z => nomatch z) h
  | @frz a ob xs ea =>
    cases (show u = Value.ref a from rx)
    obtain ⟨_, _, _, n, _, h1⟩ := (show ObjOk X.prog X.w H s.heap a (.frz ob (.lst xs)) from I.hok a _ ea)
    exact PySem.W.kia_one PySem.W.kitx_list I.kIn ⟨_, h1, rfl⟩ e (fun z => nomatch z) h
  | @tup a xs ea =>
    cases (show u = Value.ref a from rx)
    obtain ⟨_, _, _, p⟩ := (show ObjOk X.prog X.w H s.heap a (.tup xs) from I.hok a _ ea)
    obtain ⟨o, h1, h2, _⟩ := p
    exact PySem.W.kia_one PySem.W.kitx_tuple I.kIn ⟨o, h1, h2⟩ e (fun z => nomatch z) h
  | @dK a kvs ea =>
    cases (show u = Value.ref a from rx)
    obtain ⟨_, _, vs, _, p⟩ := (show ObjOk X.prog X.w H s.heap a (.dK kvs) from I.hok a _ ea)
    obtain ⟨o, es, ep, h1, h2, _⟩ := p
    exact PySem.W.kia_one PySem.W.kitx_dict I.kIn ⟨o, h1, h2.1⟩ e (fun z => nomatch z) h
  | @dT a kvs ea =>
    cases (show u = Value.ref a from rx)
    obtain ⟨_, _, xs, _, o, es, ep, h1, h2, _⟩ := (show ObjOk X.prog X.w H s.heap a (.dT kvs) from I.hok a _ ea)
    exact PySem.W.kia_one PySem.W.kitx_dict I.kIn ⟨o, h1, h2.1⟩ e (fun z => nomatch z) h
  | @ins a C dx fs ea cl ha hn htk hm =>
    cases (show u = Value.ref a from rx)
    obtain ⟨mA, O, _⟩ := ins_get I.hok ea
    obtain ⟨od, J, _⟩ := O.look
    exact PySem.W.kia_one (PySem.W.kitx_own (cl.get _) cl.hd ha hn htk hm) I.kIn J e (fun z => nomatch z) h
end
end L2
namespace L2
open PySem PySem.Spec PyProof.Rows
variable {q0 : Bool}
structure Room (q0 : Bool) (k : Nat) (A : Around) : Prop where
  hd : q0 = true → A.handled = none
  dp : A.depth + 3 * k + 5 < recursionLimit
  un : A.units + 16 * k + 200 < cLine
theorem Room.mono {j k : Nat} {A : Around} (r : Room q0 k A) (h : j ≤ k) : Room q0 j A := ⟨r.hd, by have := r.dp; omega, by have := r.un; omega⟩
theorem Room.deeper {k : Nat} {A : Around} (r : Room q0 (k + 1) A) (env : Env) : Room q0 k (A.deeper env) :=
  ⟨r.hd, by have := r.dp; show A.depth + 1 + 3 * k + 5 < _; omega, by have := r.un; show A.units + 3 + 16 * k + 200 < _; omega⟩
theorem make_depth {A : Around} {C : Addr} {us : List Value} {kw : List (Str × Value)} : (A.under (.builtin "type.__call__" ⟨.ref C :: us, kw⟩)).depth = A.depth + 1 := by
  first | rfl | simp [Around.under, Code.weight, Code.isCreation, Code.isGuard, Code.isCaller, Code.frames, Code.isFrame, guardIds]
theorem make_units {A : Around} {C : Addr} {us : List Value} {kw : List (Str × Value)} : (A.under (.builtin "type.__call__" ⟨.ref C :: us, kw⟩)).units = A.units + 1 := by
  first | rfl | simp [Around.under, Code.cUnits, Code.frames, Code.isFrame]
theorem Room.make {k : Nat} {A : Around} (r : Room q0 (k + 1) A) (C : Addr) (us : List Value) (kw : List (Str × Value)) : Room q0 k (A.under (.builtin "type.__call__" ⟨.ref C :: us, kw⟩)) :=
  ⟨r.hd, by have := r.dp; rw [make_depth]; omega, by have := r.un; rw [make_units]; omega⟩
theorem Room.depth {k : Nat} {A : Around} (r : Room q0 k A) : A.depth < recursionLimit := by have := r.dp; omega
theorem Room.units {k : Nat} {A : Around} (r : Room q0 k A) : A.units + 64 < cLine := by have := r.un; omega
def tNil : TA := fun _ H Q => Q [] H
def tCons (ta : TE) (tr : TA) : TA := fun σ H Q => ta σ H fun x H1 => tr σ H1 fun xs H2 => Q (x :: xs) H2
section
variable {X : Cx} {e : Expr} {es : List Expr} {te : TE} {t : TA} {pos : Pos}
theorem pa_nil : PA X [] tNil := fun _ _ _ _ H Q I h => Calls.spliced_nil ⟨[], H, I, .nil, h⟩
theorem pa_cons (ha : PE X e te) (hr : PA X es t) (hs : starEach (e :: es) X.env = (false, eval e X.env) :: starEach es X.env := by rfl) : PA X (e :: es) (tCons te t) := by
  intro pos pins s σ H Q I h
  rw [hs]
  show wpAny _ _ (spliced ((false, eval e X.env) :: backTo pos (starEach es X.env))) _ _ s
  refine Calls.spliced_cons (thn (ha pins s σ H _ I h) fun u s1 ⟨x, H1, I1, r1, q1⟩ => ?_)
  exact thn (hr pos pins s1 σ H1 _ I1 q1) fun us s2 ⟨xs, H2, I2, r2, q2⟩ => ⟨x :: xs, H2, I2, .cons r1 r2, q2⟩
def tTup (t : TA) : TE := fun σ H Q => t σ H fun xs H1 => xs.length ≤ sizeLine ∧ ∀ p, H1 p = none → Q (.ref p) (upd H1 p (.tup xs))
def tLst (t : TA) : TE := fun σ H Q => t σ H fun xs H1 => xs.length ≤ sizeLine ∧ ∀ p, H1 p = none → Q (.ref p) (upd H1 p (.lst xs))
theorem pe_tup {x1} (h : PA X es t) : PE X (.Tuple es x1 pos) (tTup t) := by
  intro pins s σ H Q I hq
  refine wpAny_Tuple_spliced (thn (h pos pins s σ H _ I hq) fun us s1 ⟨xs, H1, I1, r, z, q⟩ => ⟨by rw [← r.length]; exact z, ?_⟩)
  have hf : H1 s1.heap.objs.size = none := I1.hok.fresh (Nat.le_refl _)
  refine ⟨.ref s1.heap.objs.size, upd H1 s1.heap.objs.size (.tup xs), I1.laid (t' := s1.toks) (fun b u e => Heap.get?_push_of_some _ e) (Nat.le_refl _) ?_, rfl, q _ hf⟩
  exact ⟨z, us, r, ⟨_, Heap.get?_push_size _ rfl, rfl, _, rfl⟩⟩
theorem pe_lst (h : PA X es t) : PE X (.List es pos) (tLst t) := by
  intro pins s σ H Q I hq
  refine wpAny_List_spliced (thn (h pos pins s σ H _ I hq) fun us s1 ⟨xs, H1, I1, r, z, q⟩ => ⟨by rw [← r.length]; exact z, ?_⟩)
  have hf : H1 s1.heap.objs.size = none := I1.hok.fresh (Nat.le_refl _)
  refine ⟨.ref s1.heap.objs.size, upd H1 s1.heap.objs.size (.lst xs), I1.laid (t' := s1.toks) (fun b u e => Heap.get?_push_of_some _ e) (Nat.le_refl _) ?_, rfl, q _ hf⟩
  exact ⟨z, us, 0, r, Heap.get?_push_size _ rfl⟩
end
abbrev Sp := List V → Hp → VK → XK → Prop
abbrev CXT := List Env → Hp → Shared → XK → Value → Shared → Prop
structure Env0 (P : Program) (w : World) (K : PySem.W.Frag) (mg : Str → Option Value) (base : Heap) (A : Around) (outer : List Env) (s : Shared) (H : Hp) : Prop where
  frames : A.frames = some outer
  mod : Mod K mg base
  bs : ∀ b o, base.get? b = some o → s.heap.get? b = some o ∧ H b = none
  bsz : base.objs.size ≤ s.heap.objs.size
  funs : s.heap.FunFrames base outer
  frf : ∀ b ∈ frs outer, H b = none
  hok : HOk P w H s.heap
  bare : AllBare s.gens
def CE (outer : List Env) (P : Program) (w : World) (H : Hp) (s : Shared) (Q : VK) (u : Value) (s' : Shared) : Prop :=
  ∃ v H', s'.os = s.os ∧ AllBare s'.gens ∧ Un (frs outer) [] H H' s.heap s'.heap ∧ HOk P w H' s'.heap ∧ RelV v u ∧ Q v H'
def CR (CX : CXT) (outer : List Env) (P : Program) (w : World) (H : Hp) (s : Shared) (Q : VK) (E : XK) (r : Result) (s' : Shared) : Prop :=
  match r with
  | .ok (.ret u) => CE outer P w H s Q u s'
  | .ok _ => False
  | .error e => CX outer H s E e s'
structure FnOk (q0 : Bool) (P : Program) (w : World) (K : PySem.W.Frag) (mg : Str → Option Value) (base : Heap) (CX : CXT) (k : Nat) (f : Addr) (fd : FuncData) (ps : List Str) (sp : Sp) : Prop where
  len : ∀ vs H Q E, sp vs H Q E → vs.length = ps.length
  run : ∀ (A : Around) (outer : List Env) (s : Shared) (H : Hp) (args : Args) (us : List Value) (vs : List V) (Q : VK) (E : XK), Room q0 k A → Env0 P w K mg base A outer s H → BindsTo s fd args (ps.zip us) → Vals vs us → sp vs H Q E →
    codeAny (model P w) A (.call (.ref f) args) (CR CX outer P w H s Q E) s
theorem Env0.make {P : Program} {w : World} {K : PySem.W.Frag} {mg : Str → Option Value} {base : Heap} {A : Around} {outer : List Env} {s : Shared} {H : Hp} (e : Env0 P w K mg base A outer s H) (C : Addr) (us : List Value) (kw : List (Str × Value)) :
    Env0 P w K mg base (A.under (.builtin "type.__call__" ⟨.ref C :: us, kw⟩)) outer s H := ⟨by first | exact e.frames | (simpa [Around.under, Code.envs, Code.isFrame, pushEnvs] using e.frames), e.mod, e.bs, e.bsz, e.funs, e.frf, e.hok, e.bare⟩
section
variable {X : Cx} {pins : List (Addr × Obj)} {σ : St} {H : Hp} {s s' : Shared}
theorem Inv.env0 (I : Inv X pins σ H s) : Env0 X.prog X.w X.K X.mg X.base X.A X.stack s H :=
  ⟨I.ok.frames, I.ok.mod, I.bs, Nat.le_trans I.ok.bsz I.sz, I.stack, I.stkFree, I.hok, I.bare⟩
theorem Inv.after {Q : VK} {u : Value} (I : Inv X pins σ H s) (h : CE X.stack X.prog X.w H s Q u s') : EP X pins σ Q u s' := by
  obtain ⟨v, H', os, bare, un, hok, r, q⟩ := h
  obtain ⟨hh, g, d, t, os'⟩ := s'
  obtain rfl : os' = s.os := os
  exact ⟨v, H', I.call (h' := hh) (g' := g) (d' := d) (t' := t) (ch := []) un hok bare (fun b z => absurd z (by simp)), r, q⟩
end
def tCall (sp : Sp) (dvs : List V) (E : St → XK) (t : TA) : TE := fun σ H Q => t σ H fun vs H1 => sp (vs ++ dvs) H1 Q (E σ)
def tMeth (C : Addr) (m : Str) (sp : Sp) (dvs : List V) (E : St → XK) (ta : TE) (t : TA) : TE := fun σ H Q => ta σ H fun x H1 => ∃ a dx fs, x = .ref a ∧ H1 a = some (.ins C dx fs) ∧ fs.lookup m = none ∧
  t σ H1 fun vs H2 => sp (x :: (vs ++ dvs)) H2 Q (E σ)
def tMake (C : Addr) (sp : Sp) (dvs : List V) (E : St → XK) (t : TA) : TE := fun σ H Q => t σ H fun vs H1 => ∀ x dx, H1 x = none → H1 dx = none → dx ≠ x →
  sp (.ref x :: (vs ++ dvs)) (upd (upd H1 dx (.own x)) x (.ins C dx [])) (fun v H2 => v = .non ∧ Q (.ref x) H2) (E σ)
def Binds (K : PySem.W.Frag) (fd : FuncData) (ps : List Str) (ds : List Value) : Prop :=
  ∀ (s : Shared) (us : List Value), K.In s.heap → (us ++ ds).length = ps.length → BindsTo s fd ⟨us, []⟩ (ps.zip (us ++ ds))
theorem Binds.all {K : PySem.W.Frag} {fd : FuncData} {ps : List Str} (h : ∀ us : List Value, us.length = ps.length → bindArgs fd ⟨us, []⟩ = pure (ps.zip us)) : Binds K fd ps [] := fun s us _ hl => by
  rw [List.append_nil] at hl ⊢
  exact .of_eq (h us hl)
def Passes (CX : CXT) (X : Cx) (E : St → XK) : Prop := ∀ (pins : List (Addr × Obj)) (σ : St) (H : Hp) (s : Shared) (e : Value) (s' : Shared), Inv X pins σ H s → CX X.stack H s (E σ) e s' → X.xe e s'
section
variable {X : Cx} {CX : CXT} {k : Nat} {f C : Addr} {fd : FuncData} {ps : List Str} {sp : Sp} {dvs : List V} {ds : List Value} {E : St → XK} {x m : Str} {p pos apos : Pos} {e o : Expr} {es : List Expr} {ta : TE} {t : TA}
theorem run_fn {pins : List (Addr × Obj)} {σ : St} {H : Hp} {s : Shared} {Q : VK} {us : List Value} {vs : List V} (F : FnOk q0 X.prog X.w X.K X.mg X.base CX k f fd ps sp) (hr : Room q0 k X.A) (hb : Binds X.K fd ps ds) (hd : Vals dvs ds) (hx : Passes CX X E)
    (I : Inv X pins σ H s) (r : Vals vs us) (h : sp (vs ++ dvs) H Q (E σ)) : wpAny (model X.prog X.w) X.A (call (.ref f) us) (EP X pins σ Q) X.xe s := by
  have r2 : Vals (vs ++ dvs) (us ++ ds) := r.append hd
  have hl : (us ++ ds).length = ps.length := by rw [← r2.length]; exact F.len _ _ _ _ h
  refine wpAny_call (codeAny_mono (F.run X.A X.stack s H ⟨us, []⟩ (us ++ ds) (vs ++ dvs) Q (E σ) hr I.env0 (hb s us I.kIn hl) r2 h) fun r s' hq => ?_)
  cases r with
  | error e => exact hx pins σ H s e s' I hq
  | ok fl =>
    cases fl with
    | ret u => exact I.after hq
    | next => exact False.elim hq
    | brk => exact False.elim hq
    | cont => exact False.elim hq
theorem pe_call (F : FnOk q0 X.prog X.w X.K X.mg X.base CX k f fd ps sp) (hr : Room q0 k X.A) (hg : Gl X x) (hm : X.mg x = some (.ref f)) (hk : PySem.W.keepIn X.K (.ref f) = true) (hb : Binds X.K fd ps ds) (hd : Vals dvs ds) (hx : Passes CX X E)
    (ha : PA X (e :: es) t) (hdb : (x == ("__debug__" : Str)) = false := by decide) (he : starEach (e :: es) X.env = (false, eval e X.env) :: starEach es X.env := by rfl) (hpl : (backTo pos (starEach es X.env)).any (·.1) = false := by rfl) :
    PE X (.Call (.Name x p) (e :: es) [] pos) (tCall sp dvs E t) := by
  intro pins s σ H Q I h
  refine wpAny_Call_Name_kw (ld_glob I hg hm ?_ hdb)
  refine PySem.W.callWith_K (h₀ := X.base) I.ok.mod.kin hk (thn (ha pos pins s σ H _ I h) fun us s1 ⟨vs, H1, I1, r, q⟩ => ⟨I1.kIn, ?_⟩) he hpl
  exact run_fn F hr hb hd hx I1 r q
theorem pe_meth {pl : Sem Bool} (he : PE X o ta) (c : Cls X.K C) (hm : Meth X.K C m f) (F : FnOk q0 X.prog X.w X.K X.mg X.base CX k f fd ps sp) (hr : Room q0 k X.A) (hb : Binds X.K fd ps ds) (hd : Vals dvs ds) (hx : Passes CX X E) (ha : PA X (e :: es) t)
    (hst : starEach (e :: es) X.env = (false, eval e X.env) :: starEach es X.env := by rfl) (hpl : (backTo pos (starEach es X.env)).any (·.1) = false := by rfl)
    (ht : eval (.Call (.Attribute o m apos) (e :: es) [] pos) X.env = (do
      let ov ← eval o X.env
      standAt apos.atName
      let (f, first) ← holding [ov] (getMethod ov m pl)
      callWith pos f first (backTo pos (starEach (e :: es) X.env)) (backToKw pos (keywordEach [] X.env))) := by rfl) :
    PE X (.Call (.Attribute o m apos) (e :: es) [] pos) (tMeth C m sp dvs E ta t) := by
  intro pins s σ H Q I h
  refine PySem.W.methodCall_KW (pl := pl) (thn (he pins s σ H _ I h) fun u s1 ⟨x, H1, I1, rx, a, dx, fs, ex, ea, l, q⟩ => ?_) ht
  subst ex
  obtain rfl : u = Value.ref a := rx
  refine getmeth_ok I1 ea c hm l ?_
  refine PySem.W.callWith_K (first := [.ref a]) (h₀ := X.base) I.ok.mod.kin hm.kp (thn (ha pos pins s1 σ H1 _ I1 q) fun us s2 ⟨vs, H2, I2, r, q2⟩ => ⟨I2.kIn, ?_⟩) hst hpl
  exact run_fn (us := .ref a :: us) (vs := .ref a :: vs) F hr hb hd hx I2 (.cons rfl r) q2
theorem pe_meth0 {pl : Sem Bool} (he : PE X o ta) (c : Cls X.K C) (hm : Meth X.K C m f) (F : FnOk q0 X.prog X.w X.K X.mg X.base CX k f fd ps sp) (hr : Room q0 k X.A) (hb : Binds X.K fd ps ds) (hd : Vals dvs ds) (hx : Passes CX X E)
    (ht : eval (.Call (.Attribute o m apos) [] [] pos) X.env = (do
      let ov ← eval o X.env
      standAt apos.atName
      let (f, first) ← holding [ov] (getMethod ov m pl)
      callWith pos f first (backTo pos (starEach [] X.env)) (backToKw pos (keywordEach [] X.env))) := by rfl) :
    PE X (.Call (.Attribute o m apos) [] [] pos) (tMeth C m sp dvs E ta tNil) := by
  intro pins s σ H Q I h
  refine PySem.W.methodCall_KW (pl := pl) (thn (he pins s σ H _ I h) fun u s1 ⟨x, H1, I1, rx, a, dx, fs, ex, ea, l, q⟩ => ?_) ht
  subst ex
  obtain rfl : u = Value.ref a := rx
  refine getmeth_ok I1 ea c hm l ?_
  exact PySem.W.callWith_K0 (first := [.ref a]) I1.kIn hm.kp (run_fn (us := [.ref a]) (vs := [.ref a]) F hr hb hd hx I1 (.cons rfl .nil) q)
structure Mk (K : PySem.W.Frag) (C f : Addr) : Prop where
  makes : PySem.W.makesIn K C = true
  init : PySem.W.findIn K (.ref C) "__init__" = some (some (.ref f))
  fn : PySem.W.isFn K (.ref f) = true
  kp : PySem.W.keepIn K (.ref C) = true
theorem run_make {pins : List (Addr × Obj)} {σ : St} {H : Hp} {s : Shared} {Q : VK} {us : List Value} {vs : List V} (M : Mk X.K C f) (F : FnOk q0 X.prog X.w X.K X.mg X.base CX k f fd ps sp) (hr : Room q0 (k + 1) X.A) (hb : Binds X.K fd ps ds) (hd : Vals dvs ds)
    (hx : Passes CX X E) (I : Inv X pins σ H s) (r : Vals vs us)
    (h : ∀ x dx, H x = none → H dx = none → dx ≠ x → sp (.ref x :: (vs ++ dvs)) (upd (upd H dx (.own x)) x (.ins C dx [])) (fun v H2 => v = .non ∧ Q (.ref x) H2) (E σ)) :
    wpAny (model X.prog X.w) X.A (call (.ref C) us) (EP X pins σ Q) X.xe s := by
  have hq := h (s.heap.objs.size + 1) s.heap.objs.size (I.hok.fresh (Nat.le_succ _)) (I.hok.fresh (Nat.le_refl _)) (Nat.ne_of_lt (Nat.lt_succ_self _))
  have I2 := Inv.made (C := C) I
  have r2 : Vals (V.ref (s.heap.objs.size + 1) :: (vs ++ dvs)) (Value.ref (s.heap.objs.size + 1) :: (us ++ ds)) := .cons rfl (r.append hd)
  have hl : (Value.ref (s.heap.objs.size + 1) :: us ++ ds).length = ps.length := by
    have e := r2.length
    rw [F.len _ _ _ _ hq] at e
    exact e.symm
  refine wpAny_call (make_map (f := f) I.kIn M.makes M.init (beq_iff_eq.mp M.fn) (codeAny_mono (F.run _ X.stack _ _ ⟨Value.ref (s.heap.objs.size + 1) :: us, []⟩ (Value.ref (s.heap.objs.size + 1) :: (us ++ ds)) _ _ (E σ) (hr.make C us [])
    (I2.env0.make C us []) (hb _ (Value.ref (s.heap.objs.size + 1) :: us) I2.kIn hl) r2 hq) fun r s' hq' => ?_))
  cases r with
  | error e => exact hx pins σ _ _ e s' I2 hq'
  | ok fl =>
    cases fl with
    | ret u =>
      obtain ⟨v, H', I3, rv, ev, q3⟩ := I2.after hq'
      subst ev
      exact ⟨rv, ⟨V.ref (s.heap.objs.size + 1), H', I3, rfl, q3⟩⟩
    | next => exact False.elim hq'
    | brk => exact False.elim hq'
    | cont => exact False.elim hq'
theorem pe_make (M : Mk X.K C f) (F : FnOk q0 X.prog X.w X.K X.mg X.base CX k f fd ps sp) (hr : Room q0 (k + 1) X.A) (hg : Gl X x) (hm : X.mg x = some (.ref C)) (hb : Binds X.K fd ps ds) (hd : Vals dvs ds) (hx : Passes CX X E)
    (ha : PA X (e :: es) t) (hdb : (x == ("__debug__" : Str)) = false := by decide) (he : starEach (e :: es) X.env = (false, eval e X.env) :: starEach es X.env := by rfl) (hpl : (backTo pos (starEach es X.env)).any (·.1) = false := by rfl) :
    PE X (.Call (.Name x p) (e :: es) [] pos) (tMake C sp dvs E t) := by
  intro pins s σ H Q I h
  refine wpAny_Call_Name_kw (ld_glob I hg hm ?_ hdb)
  refine PySem.W.callWith_K (h₀ := X.base) I.ok.mod.kin M.kp (thn (ha pos pins s σ H _ I h) fun us s1 ⟨vs, H1, I1, r, q⟩ => ⟨I1.kIn, ?_⟩) he hpl
  exact run_make M F hr hb hd hx I1 r q
end
section
variable {X : Cx} {CX : CXT} {k : Nat} {f C : Addr} {fd : FuncData} {ps ks : List Str} {sp : Sp} {E : St → XK} {x m : Str} {p pos apos kpos : Pos} {e o : Expr} {es : List Expr} {kws : List Keyword} {te ta : TE} {t tk : TA} {nm : Option Str}
variable {g : List Value → List Value → List Value} {gV : List V → List V → List V}
end
structure FnScope (N P : List Str) (sc : Scope) : Prop where
  kind : sc.kind = .function
  co : sc.isCoroutine = false
  gen : sc.isGenerator = false
  nd : N.Nodup
  pre : N.take P.length = P
  par : ∀ x ∈ P, sc.names.lookup x = some .local ∨ sc.names.lookup x = some .cell
  nofree : ∀ y ∈ sc.names, y.2 ≠ .free
theorem bindL_out {kindOf : Str → Option NameKind} {x : Str} : ∀ {binds : List (Str × Value)} {m : Str → Option Value}, (∀ v, (x, v) ∉ binds) → bindL kindOf binds m x = m x
  | [], _, _ => rfl
  | (n, v) :: r, m, h => by
    unfold bindL
    rw [bindL_out fun w hw => h w (List.mem_cons_of_mem _ hw)]
    split
    · have : x ≠ n := by rintro rfl; exact h v List.mem_cons_self
      simp [this]
    · rfl
theorem bindC_out {kindOf : Str → Option NameKind} {x : Str} : ∀ {binds : List (Str × Value)} {m : Str → Option Value}, (∀ v, (x, v) ∉ binds) → bindC kindOf binds m x = m x
  | [], _, _ => rfl
  | (n, v) :: r, m, h => by
    unfold bindC
    rw [bindC_out fun w hw => h w (List.mem_cons_of_mem _ hw)]
    split
    · rfl
    · have : x ≠ n := by rintro rfl; exact h v List.mem_cons_self
      simp [this]
theorem bindL_get {kindOf : Str → Option NameKind} {x : Str} {v : Value} : ∀ {P : List Str} {vs : List Value} {i : Nat} {m : Str → Option Value}, P.Nodup → P[i]? = some x → vs[i]? = some v → kindOf x = some .local →
    bindL kindOf (P.zip vs) m x = some v
  | [], _, _, _, _, h, _, _ => by simp at h
  | _ :: _, [], _, _, _, _, h, _ => by simp at h
  | p :: P, w :: vs, 0, m, nd, h1, h2, hk => by
    simp at h1 h2; subst h1; subst h2
    show bindL kindOf ((p, w) :: P.zip vs) m p = _
    unfold bindL
    rw [bindL_out fun v hv => (List.nodup_cons.mp nd).1 (List.of_mem_zip hv).1, if_pos hk]
    simp
  | p :: P, w :: vs, i + 1, m, nd, h1, h2, hk => by
    show bindL kindOf ((p, w) :: P.zip vs) m x = _
    unfold bindL
    exact bindL_get (i := i) (List.nodup_cons.mp nd).2 (by simpa using h1) (by simpa using h2) hk
theorem bindC_get {kindOf : Str → Option NameKind} {x : Str} {v : Value} : ∀ {P : List Str} {vs : List Value} {i : Nat} {m : Str → Option Value}, P.Nodup → P[i]? = some x → vs[i]? = some v → kindOf x ≠ some .local →
    bindC kindOf (P.zip vs) m x = some v
  | [], _, _, _, _, h, _, _ => by simp at h
  | _ :: _, [], _, _, _, _, h, _ => by simp at h
  | p :: P, w :: vs, 0, m, nd, h1, h2, hk => by
    simp at h1 h2; subst h1; subst h2
    show bindC kindOf ((p, w) :: P.zip vs) m p = _
    unfold bindC
    rw [bindC_out fun v hv => (List.nodup_cons.mp nd).1 (List.of_mem_zip hv).1, if_neg hk]
    simp
  | p :: P, w :: vs, i + 1, m, nd, h1, h2, hk => by
    show bindC kindOf ((p, w) :: P.zip vs) m x = _
    unfold bindC
    exact bindC_get (i := i) (List.nodup_cons.mp nd).2 (by simpa using h1) (by simpa using h2) hk
def start (N : List Str) (vs : List V) : St := vs.map some ++ List.replicate (N.length - vs.length) none
def cxOf (q0 : Bool) (CX : CXT) (P : Program) (w : World) (K : PySem.W.Frag) (mg : Str → Option Value) (base : Heap) (N : List Str) (qual : Str) (scope : Scope) (f : Addr) (cd : Value) (A : Around) (outer : List Env) (s : Shared) (H : Hp) (E : XK) : Cx where
  prog := P
  w := w
  K := K
  mg := mg
  base := base
  A := A.deeper (envOfC qual scope s.heap.objs.size f cd)
  N := N
  s₀ := s
  H₀ := H
  env := envOfC qual scope s.heap.objs.size f cd
  outer := outer
  stack := envOfC qual scope s.heap.objs.size f cd :: outer
  ex := []
  calm := q0
  fn := fun _ => true
  pn := []
  xe := fun e s' => wpAny (model P w) (A.deeper (envOfC qual scope s.heap.objs.size f cd)) (leaving (envOfC qual scope s.heap.objs.size f cd) e) (fun _ s'' => CX outer H s E e s'') (fun e' s'' => CX outer H s E e' s'') s'
theorem cell_has {sc : Scope} {n : Nat} {x : Str} (h : sc.names.lookup x = some .cell) : ∃ c, (cellsFrom n sc.names []).lookup x = some c := by
  have q := PySem.W.cellsFrom_some sc.names n [] (.inl h)
  exact Option.isSome_iff_exists.mp q
theorem inv_start {CX : CXT} {P : Program} {w : World} {K : PySem.W.Frag} {mg : Str → Option Value} {base : Heap} {N ps : List Str} {qual : Str} {scope : Scope} {f : Addr} {cd : Value} {A : Around} {outer : List Env} {s s1 : Shared} {H : Hp} {E : XK} {us : List Value} {vs : List V}
    (S : FnScope N ps scope) (hd : q0 = true → A.handled = none) (e0 : Env0 P w K mg base A outer s H) (hl : vs.length = ps.length) (r : Vals vs us)
    (x : InCallC s s.heap.objs.size (bindL (envOfC qual scope s.heap.objs.size f cd).kindOf (ps.zip us) fun _ => none) (cellsFrom (s.heap.objs.size + 1) scope.names []) (bindC (envOfC qual scope s.heap.objs.size f cd).kindOf (ps.zip us) fun _ => none) s1) :
    Inv (cxOf q0 CX P w K mg base N qual scope f cd A outer s H E) [] (start N vs) H s1 := by
  have hpl : ps.length ≤ N.length := by have := congrArg List.length S.pre; rw [List.length_take] at this; omega
  obtain ⟨h1, tk, rfl, hk⟩ := x.done
  have noA : ∀ b : Addr, b ∉ (cxOf q0 CX P w K mg base N qual scope f cd A outer s H E).ex := fun b z => absurd (show b ∈ ([] : List Addr) from z) (by simp)
  refine ⟨⟨e0.mod, S.kind, rfl, rfl, Nat.le_refl _, fun y z c h1 h2 => ?_, fun y hy => ?_, fun y c _ h => ?_, hd, Around.frames_deeper e0.frames, .inr ⟨rfl, rfl⟩, fun b z => absurd z (noA b), e0.bs, e0.bsz, fun b _ _ => noA b, fun b z => absurd z (noA b), e0.funs, e0.frf⟩,
    rfl, e0.bare, Un.kept hk, ⟨_, x.toInCall.ns, fun i y v h1 h2 h3 => ?_⟩, fun y c h => ⟨_, x.cell y c h⟩, e0.hok.fresh (Nat.le_refl _), fun y c h => ?_, fun p hp => absurd (show p ∈ ([] : List (Addr × Obj)) from hp) (by simp), e0.hok.kept hk, ?_⟩
  · exact name_of_addr x.apart (PySem.mem_of_lookup h1) (PySem.mem_of_lookup h2)
  · have hy : scope.names.lookup y = some .cell ∨ scope.names.lookup y = some .free := hy
    rcases hy with hy | hy
    · exact cell_has hy
    · exact absurd rfl (S.nofree _ (PySem.mem_of_lookup hy))
  · exact Nat.le_of_lt (x.above y c (PySem.mem_of_lookup h))
  · have hi : i < vs.length := by
      unfold start at h2
      by_cases hi : i < vs.length
      · exact hi
      · rw [List.getElem?_append_right (by simpa using hi)] at h2
        rw [List.getElem?_replicate] at h2
        split at h2 <;> cases h2
    have ha : vs[i]? = some v := by
      unfold start at h2
      rw [List.getElem?_append_left (by simpa using hi), List.getElem?_map] at h2
      cases e : vs[i]? with
      | none => rw [e] at h2; cases h2
      | some a => rw [e] at h2; cases h2; rfl
    obtain ⟨u, hu, rv⟩ := r.get ha
    have hp : ps[i]? = some y := by
      rw [← S.pre, List.getElem?_take_of_lt (by omega)]; exact h1
    have ndP : ps.Nodup := by rw [← S.pre]; exact S.nd.sublist (List.take_sublist _ _)
    refine ⟨u, rv, ?_⟩
    rcases S.par y (List.mem_of_getElem? hp) with k | k
    · exact .inl ⟨k, bindL_get ndP hp hu k⟩
    · obtain ⟨c, e⟩ := cell_has (n := s.heap.objs.size + 1) k
      refine .inr ⟨.inl k, c, e, ?_⟩
      have q := x.cell y c e
      rw [bindC_get ndP hp hu (by show scope.names.lookup y ≠ _; rw [k]; decide)] at q
      exact q
  · exact e0.hok.fresh (Nat.le_of_lt (x.above y c (PySem.mem_of_lookup h)))
  · unfold start
    show _ = N.length
    rw [List.length_append, List.length_map, List.length_replicate]
    omega
theorem fn_of {CX : CXT} {P : Program} {w : World} {K : PySem.W.Frag} {mg : Str → Option Value} {base : Heap} {k : Nat} {f : Addr} {name qual : Str} {params : Arguments} {body : List Stmt} {scope : Scope} {dV kV doc pm cdv ct oc : Value} {an od : Option Addr}
    {osl : Array (Option Value)} {N ps : List Str} {sp : Sp} (lk : K.lookup f = some ⟨oc, od, .func (PySem.W.fnOf name qual params body scope dV kV doc pm an cdv ct), osl⟩) (hcd : PySem.W.codeIn K cdv qual = true) (S : FnScope N ps scope)
    (len : ∀ vs H Q E, sp vs H Q E → vs.length = ps.length)
    (hbody : ∀ (A : Around) (outer : List Env) (s : Shared) (H : Hp) (vs : List V) (Q : VK) (E : XK), Room q0 k (A.deeper (envOfC qual scope s.heap.objs.size f cdv)) → sp vs H Q E →
      ∃ t, PSs (cxOf q0 CX P w K mg base N qual scope f cdv A outer s H E) body t ∧ t { nx := fun _ H' => Q .non H', rt := Q } (start N vs) H) :
    FnOk q0 P w K mg base CX (k + 1) f (PySem.W.fnOf name qual params body scope dV kV doc pm an cdv ct) ps sp := by
  refine ⟨len, fun A outer s H args us vs Q E hr e0 hb r hsp => ?_⟩
  have hl := len _ _ _ _ hsp
  have KX : K.In s.heap := e0.mod.kin.keeps fun b o e => (e0.bs b o e).1
  have lim : s.heap.NoLimit := e0.mod.nolimit.keeps fun b o e => (e0.bs b o e).1
  have hkind : ∀ y ∈ ps.zip us, scope.names.lookup y.1 = some .local ∨ (scope.names.lookup y.1 = some .cell ∧ ((cellsFrom (s.heap.objs.size + 1) scope.names []).lookup y.1).isSome = true) := fun ⟨n, v⟩ hy => by
    rcases S.par n (List.of_mem_zip hy).1 with q | q
    · exact .inl q
    · exact .inr ⟨q, PySem.W.cellsFrom_some _ _ _ (.inl q)⟩
  refine codeAny_call_function hr.depth (KX _ _ lk) rfl S.co S.gen rfl (PySem.W.codeRec_of KX hcd) (hb _ _ _ _ ?_)
  refine wpAny_newFunctionEnv_cells S.kind hkind fun env he s1 x => ?_
  subst he
  refine ⟨lim.keeps x.toInCall.keep, codeAny_func ?_⟩
  obtain ⟨t, ht, hq⟩ := hbody A outer s H vs Q E (hr.deeper _) hsp
  have I : Inv (cxOf q0 CX P w K mg base N qual scope f cdv A outer s H E) [] (start N vs) H s1 := inv_start S hr.hd e0 hl r x
  refine wpAny_mono (ht [] s1 (start N vs) H _ I hq) (fun fl s' hs => ?_) fun e s' hs => hs
  have fin : ∀ {σ' : St} {H' : Hp} {v : V} {u : Value}, Inv (cxOf q0 CX P w K mg base N qual scope f cdv A outer s H E) [] σ' H' s' → RelV v u → Q v H' → CE outer P w H s Q u s' :=
    fun {σ' H' v u} J rv q => ⟨v, H', J.os, J.bare, J.base, J.hok, rv, q⟩
  cases fl with
  | ret u =>
    obtain ⟨v, σ', H', J, rv, q⟩ := hs
    exact fin J rv q
  | next =>
    obtain ⟨σ', H', J, q⟩ := hs
    exact fin (v := V.non) (u := Value.none) J rfl q
  | brk =>
    obtain ⟨_, _, _, q⟩ := hs
    exact False.elim q
  | cont =>
    obtain ⟨_, _, _, q⟩ := hs
    exact False.elim q
end L2
namespace L2
open PySem PySem.Spec PyProof.Rows
variable {q0 : Bool}
section
variable {X : Cx} {x : Str} {p pos : Pos} {e : Expr} {es : List Expr} {t : TA} {id T : String} {r : List V → Hp → VK → Prop}
def tCB (r : List V → Hp → VK → Prop) (t : TA) : TE := fun σ H Q => t σ H fun vs H1 => r vs H1 Q
theorem pe_callB (hc : CallR X (.builtin id) r) (hg : Gl X x) (hm : X.mg x = none) (hv : bootBuiltins x = some (.builtin id)) (ha : PA X (e :: es) t) (hn : x ≠ "__name__" := by decide) (hdb : (x == ("__debug__" : Str)) = false := by decide)
    (he : starEach (e :: es) X.env = (false, eval e X.env) :: starEach es X.env := by rfl) (hpl : (backTo pos (starEach es X.env)).any (·.1) = false := by rfl) : PE X (.Call (.Name x p) (e :: es) [] pos) (tCB r t) := by
  intro pins s σ H Q I h
  refine wpAny_Call_Name_kw (ld_blt I hg hm hv ?_ hn hdb)
  exact PyProof.Rows.callWith_builtin1 (thn (ha pos pins s σ H _ I h) fun us s1 ⟨vs, H1, I1, r1, q1⟩ => hc pins s1 σ H1 vs us Q I1 r1 q1) he hpl
theorem pe_callTy (hc : CallR X (.type T) r) (hg : Gl X x) (hm : X.mg x = none) (hv : bootBuiltins x = some (.type T)) (ha : PA X (e :: es) t) (hn : x ≠ "__name__" := by decide) (hdb : (x == ("__debug__" : Str)) = false := by decide)
    (he : starEach (e :: es) X.env = (false, eval e X.env) :: starEach es X.env := by rfl) (hpl : (backTo pos (starEach es X.env)).any (·.1) = false := by rfl) : PE X (.Call (.Name x p) (e :: es) [] pos) (tCB r t) := by
  intro pins s σ H Q I h
  refine wpAny_Call_Name_kw (ld_blt I hg hm hv ?_ hn hdb)
  exact PyProof.Rows.callWith_type1 (thn (ha pos pins s σ H _ I h) fun us s1 ⟨vs, H1, I1, r1, q1⟩ => hc pins s1 σ H1 vs us Q I1 r1 q1) he hpl
end
end L2
namespace HT
open PySem PyProof.Rows
section
open PySem.SeqAt
open PySem.AutoSeq1 (wpAny_loadPart')
open PySem.MeetsSeq PySem.MeetsSeq2 PySem.MeetsSeq3
end
section
variable {prog : Program} {w : World} {A : Around} {E : Value → Shared → Prop} {s : Shared}
theorem cat_tup {t b : Addr} {vs ws : List Value} {Q : Value → Shared → Prop} (ht : IsTup s.heap t vs.toArray) (hb : IsTup s.heap b ws.toArray) (hv : vs ≠ [])
    (h1 : ws = [] → Q (.ref t) s) (h2 : ws ≠ [] → Q (.ref s.heap.objs.size) { s with heap := s.heap.push { cls := .type "tuple", data := .seq (vs ++ ws).toArray } })
    (hsz : vs.length + ws.length ≤ sizeLine) : wpAny (model prog w) A (binaryOp .Add (.ref t) (.ref b)) Q E s := by
  obtain ⟨⟨cls, dd, data, sl⟩, ho, hc, n, hd⟩ := id ht
  obtain ⟨⟨cls2, dd2, data2, sl2⟩, ho2, hc2, n2, hd2⟩ := id hb
  simp only at hc hd hc2 hd2
  subst hc hd hc2 hd2
  have e : vs.toArray ++ ws.toArray = (vs ++ ws).toArray := by simp
  by_cases hw : ws = []
  · exact concat_meets ⟨_, ho, rfl⟩ ⟨_, ho2, rfl⟩ noFill_tuple_add seq_tuple_add PySem.F.slot_tuple_add PySem.F.entry_tuple_add (PySem.F.args_tuple_add_2 _ _)
      (tuple_addW1 t b vs.toArray ws.toArray n n2 dd dd2 sl sl2 (by simpa using hv) (by simp [hw])) ⟨ho, ho2, h1 hw⟩
  · refine concat_meets ⟨_, ho, rfl⟩ ⟨_, ho2, rfl⟩ noFill_tuple_add seq_tuple_add PySem.F.slot_tuple_add PySem.F.entry_tuple_add (PySem.F.args_tuple_add_2 _ _)
      (tuple_addW2 t b vs.toArray ws.toArray n n2 dd dd2 sl sl2 (by simpa using hv) (by simpa using hw) (by rw [List.size_toArray, List.size_toArray]; exact hsz)) ⟨ho, ho2, ?_⟩
    rw [e]
    exact h2 hw
end
end HT
namespace L2
open PySem PySem.Spec PyProof.Rows
variable {q0 : Bool}
abbrev TO := St → Hp → (Option Int → Hp → Prop) → Prop
theorem intsAre_of {ns : List Int} : ∀ {us : List Value}, Vals (ns.map V.int) us → IntsAre us ns := by
  induction ns with
  | nil => intro us r; rw [List.map_nil] at r; cases r; exact .nil
  | cons n ns ih =>
    intro us r
    rw [List.map_cons] at r
    cases r with
    | cons r1 r2 =>
      obtain ⟨t, e⟩ := r1
      subst e
      exact .cons n t (ih r2)
section
variable {X : Cx} {e : Expr} {te : TE} {lo hi : Option Expr} {tl th : TO} {pos p2 : Pos}
def rCatT (K : PySem.W.Frag) : R2 := fun x y H Q => ∃ a b xs ys, x = .ref a ∧ y = .ref b ∧ SqT K H a xs ∧ SqT K H b ys ∧ xs ≠ [] ∧ xs.length + ys.length ≤ sizeLine ∧
  (ys = [] → Q (.ref a) H) ∧ (ys ≠ [] → ∀ p, H p = none → Q (.ref p) (upd H p (.tup (xs ++ ys))))
theorem Vals.nil_iff {xs : List V} {us : List Value} (r : Vals xs us) : us = [] ↔ xs = [] := by
  cases r with
  | nil => simp
  | cons _ _ => simp
theorem op_catT : OpR X (binaryOp .Add) (rCatT X.K) := by
  intro pins s σ H x y v u Q I rx ry h
  obtain ⟨a, b, xs, ys, rfl, rfl, ha, hb, hx, hz, q1, q2⟩ := h
  cases rx
  cases ry
  obtain ⟨its, r1, p1, _⟩ := I.tuple ha
  obtain ⟨its2, r2, p2, _⟩ := I.tuple hb
  refine HT.cat_tup p1 p2 (fun z => hx (r1.nil_iff.mp z)) (fun z => ⟨.ref a, H, I, rfl, q1 (r2.nil_iff.mp z)⟩) (fun z => ?_) (by rw [← r1.length, ← r2.length]; exact hz)
  refine ⟨.ref s.heap.objs.size, _, I.laid (t' := s.toks) (o := .tup (xs ++ ys)) (fun b ob q => Heap.get?_push_of_some _ q) (Nat.le_refl _) ?_, rfl, q2 (fun w => z (r2.nil_iff.mpr w)) _ (I.hok.fresh (Nat.le_refl _))⟩
  exact ⟨by rw [List.length_append]; exact hz, _, r1.append r2, IsTup.new _ _⟩
end
end L2
namespace L2
open PySem PySem.Spec PyProof.Rows
variable {q0 : Bool}
def ixN (n : Nat) (i : Int) : Option Nat := if 0 ≤ i then (if i < n then some i.toNat else none) else if -(n : Int) ≤ i then some (i + n).toNat else none
def atI {α : Type} (xs : List α) (i : Int) : Option α := (ixN xs.length i).bind fun j => xs[j]?
theorem ixN_seq {n : Nat} {i : Int} {j : Nat} (h : ixN n i = some j) : seqIndex? i n = some j ∧ j < n ∧ -(n : Int) ≤ i ∧ i < n := by
  unfold ixN at h
  by_cases h0 : 0 ≤ i
  · rw [if_pos h0] at h
    by_cases h1 : i < n
    · rw [if_pos h1] at h
      have e : i.toNat = j := Option.some.inj h
      exact ⟨by rw [seqIndex_of h0 h1, e], by omega, by omega, h1⟩
    · rw [if_neg h1] at h; cases h
  · rw [if_neg h0] at h
    by_cases h1 : -(n : Int) ≤ i
    · rw [if_pos h1] at h
      have e : (i + n).toNat = j := Option.some.inj h
      exact ⟨by rw [seqIndex_neg (by omega) h1, e], by omega, h1, by omega⟩
    · rw [if_neg h1] at h; cases h
theorem atI_get {α : Type} {xs : List α} {i : Int} {v : α} (h : atI xs i = some v) : ∃ j, seqIndex? i xs.length = some j ∧ xs[j]? = some v ∧ j < xs.length ∧ -(xs.length : Int) ≤ i ∧ i < xs.length := by
  unfold atI at h
  cases e : ixN xs.length i with
  | none => rw [e] at h; cases h
  | some j =>
    rw [e] at h
    obtain ⟨h1, h2, h3, h4⟩ := ixN_seq e
    exact ⟨j, h1, h, h2, h3, h4⟩
theorem atI_nat {α : Type} {xs : List α} {j : Nat} {v : α} (h : xs[j]? = some v) : atI xs (j : Int) = some v := by
  have hj : j < xs.length := (List.getElem?_eq_some_iff.mp h).1
  have e : ixN xs.length (j : Int) = some j := by
    unfold ixN
    rw [if_pos (by omega), if_pos (by omega)]; simp
  unfold atI; rw [e]; exact h
theorem atI_last {α : Type} (xs : List α) (v : α) : atI (xs ++ [v]) (-1) = some v := by
  have hl : (xs ++ [v]).length = xs.length + 1 := by simp
  have e : ixN (xs ++ [v]).length (-1) = some xs.length := by
    unfold ixN
    rw [hl, if_neg (by decide), if_pos (by omega)]
    congr 1
    omega
  unfold atI
  rw [e]
  show (xs ++ [v])[xs.length]? = some v
  simp
def PlainIx (b : Expr) : Prop := ∀ o i, subscripted b false o i = operate [o, i] (getItem o i)
def IxR (X : Cx) (r : R2) : Prop :=
  ∀ (value slice : Expr) (pins : List (Addr × Obj)) (s : Shared) (σ : St) (H : Hp) (x y : V) (v u : Value) (Q : VK), Inv X pins σ H s → RelV x v → RelV y u → r x y H Q →
    subscripted slice false v u = operate [v, u] (getItem v u) → wpAny (model X.prog X.w) X.A (subscriptTail value slice v u) (EP X pins σ Q) X.xe s
def MtR (X : Cx) (id : String) (r : V → List V → Hp → VK → Prop) : Prop :=
  ∀ (pins : List (Addr × Obj)) (s : Shared) (σ : St) (H : Hp) (x : V) (xs : List V) (v : Value) (us : List Value) (Q : VK), Inv X pins σ H s → RelV x v → Vals xs us → r x xs H Q →
    wpAny (model X.prog X.w) X.A (call (.builtin id) (v :: us)) (EP X pins σ Q) X.xe s
section
variable {X : Cx} {a b : Expr} {ta tb : TE} {pos : Pos}
theorem pe_ix {r : R2} (hr : IxR X r) (ha : PE X a ta) (hb : PE X b tb) (hs : PlainIx b) : PE X (.Subscript a b pos) (tOp r ta tb) := by
  intro pins s σ H Q I h
  exact Subscript_ (binT ha hb I h fun v u s2 x y H2 I2 rx ry q => hr a b pins s2 σ H2 x y v u Q I2 rx ry q (hs _ _))
def rIxL (K : PySem.W.Frag) : R2 := fun x y H Q => ∃ p xs i v, x = .ref p ∧ y = .int i ∧ SqL K H p xs ∧ atI xs i = some v ∧ Q v H
def rIxT (K : PySem.W.Frag) : R2 := fun x y H Q => ∃ p xs i v, x = .ref p ∧ y = .int i ∧ SqT K H p xs ∧ atI xs i = some v ∧ Q v H
theorem ix_list : IxR X (rIxL X.K) := by
  intro value slice pins s σ H x y v u Q I rx ry h hs
  obtain ⟨p, xs, i, z, rfl, rfl, hq, he, q⟩ := h
  cases rx
  obtain ⟨t, rfl⟩ := ry
  obtain ⟨its, r, pl, hz⟩ := I.list hq
  obtain ⟨j, h1, h2, h3, h4, h5⟩ := atI_get he
  obtain ⟨w, ew, rw'⟩ := r.get h2
  have hl := r.length
  have hn := line63
  have fin : EP X pins σ Q w s := ⟨z, H, I, rw', q⟩
  by_cases h0 : 0 ≤ i
  · have hj : i.toNat = j := by
      rw [seqIndex_of h0 h5] at h1
      exact Option.some.inj h1
    exact item_listR pl.isList h0 (by omega) (by rw [hj]; simpa using ew) fin hs
  · have hj : (i + (its.toArray.size : Int)).toNat = j := by
      rw [seqIndex_neg (by omega) h4] at h1
      rw [List.size_toArray, ← hl]
      exact Option.some.inj h1
    exact subscriptTail_builtinR (x := w) pl.isList.typeIs slot_list_getitem.lookup
      (wpAny_getItem_list_neg (Q := fun r s' => r = w ∧ EP X pins σ Q r s') pl.isList (by omega) (by rw [List.size_toArray] <;> omega) (by omega) (by rw [hj]; simpa using ew) ⟨rfl, fin⟩) hs
theorem ix_tup : IxR X (rIxT X.K) := by
  intro value slice pins s σ H x y v u Q I rx ry h hs
  obtain ⟨p, xs, i, z, rfl, rfl, hq, he, q⟩ := h
  cases rx
  obtain ⟨t, rfl⟩ := ry
  obtain ⟨its, r, pl, hz⟩ := I.tuple hq
  obtain ⟨j, h1, h2, h3, h4, h5⟩ := atI_get he
  obtain ⟨w, ew, rw'⟩ := r.get h2
  have hl := r.length
  have hn := line63
  have fin : EP X pins σ Q w s := ⟨z, H, I, rw', q⟩
  exact subscriptTail_builtinR (x := w) pl.typeIs slot_tuple_getitem.lookup
    (getItem_tuple (j := j) (Q := fun r s' => r = w ∧ EP X pins σ Q r s') pl (by omega) (by omega) (by rw [List.size_toArray, ← hl]; exact h1) (by simpa using ew) ⟨rfl, fin⟩) hs
theorem Inv.lst {pins : List (Addr × Obj)} {σ : St} {H : Hp} {s : Shared} {p : Addr} {xs : List V} (I : Inv X pins σ H s) (h : H p = some (.lst xs)) :
    ∃ (its : List Value) (n : Nat), Vals xs its ∧ s.heap.get? p = some { cls := .type "list", data := .seq its.toArray n } ∧ xs.length ≤ sizeLine := by
  obtain ⟨z, its, n, r, e⟩ := I.hok p _ h
  exact ⟨its, n, r, e, z⟩
theorem call_len_seq : CallR X (.builtin "len") (fun xs H Q => ∃ p ys, xs = [.ref p] ∧ (SqL X.K H p ys ∨ SqT X.K H p ys) ∧ Q (.int ys.length) H) := by
  intro pins s σ H xs us Q I r h
  obtain ⟨p, ys, rfl, hq, q⟩ := h
  obtain ⟨u, rfl, rx⟩ := vals1 r
  cases rx
  have hn := line63
  rcases hq with hq | hq
  · obtain ⟨its, r', pl, hz⟩ := I.list hq
    have hlen := r'.length
    exact Calls.call_len_list pl.isList (by simp only [List.size_toArray] <;> omega) ⟨.int ys.length, H, I.tok _, ⟨s.toks + 1, by rw [List.size_toArray, hlen]⟩, q⟩
  · obtain ⟨its, r', pl, hz⟩ := I.tuple hq
    have hlen := r'.length
    exact len_tuple pl (by simp only [List.size_toArray] <;> omega) ⟨.int ys.length, H, I.tok _, ⟨s.toks + 1, by rw [List.size_toArray, hlen]⟩, q⟩
theorem call_len_str : CallR X (.builtin "len") (fun xs H Q => ∃ z, xs = [.str z] ∧ z.length ≤ sizeLine ∧ Q (.int z.length) H) := by
  intro pins s σ H xs us Q I r h
  obtain ⟨z, rfl, hz, q⟩ := h
  obtain ⟨u, rfl, t, rfl⟩ := vals1 r
  have hn := line63
  exact len_str (by omega) ⟨.int z.length, H, I.tok _, ⟨_, rfl⟩, q⟩
theorem call_list_of : CallR X (.type "list") (fun xs H Q => ∃ p ys, xs = [.ref p] ∧ (SqL X.K H p ys ∨ SqT X.K H p ys) ∧ ∀ l, H l = none → Q (.ref l) (upd H l (.lst ys))) := by
  intro pins s σ H xs us Q I r h
  obtain ⟨p, ys, rfl, hq, q⟩ := h
  obtain ⟨u, rfl, rx⟩ := vals1 r
  cases rx
  have fin : ∀ (its : List Value), Vals ys its → ys.length ≤ sizeLine → ∀ (h' : Heap) (c' : Nat), (∀ b o', s.heap.get? b = some o' → h'.get? b = some o') →
      h'.get? s.heap.objs.size = some { cls := .type "list", dict := none, data := .seq its.toArray c', slots := #[] } → EP X pins σ Q (.ref s.heap.objs.size) { s with heap := h' } := fun its r' hz h' c' kp e =>
    ⟨.ref s.heap.objs.size, _, I.laid (t' := s.toks) kp (Nat.le_refl _) (show ObjOk X.prog X.w _ h' _ (.lst ys) from ⟨hz, its, c', r', e⟩), rfl, q _ (I.hok.fresh (Nat.le_refl _))⟩
  rcases hq with hq | hq
  · obtain ⟨its, r', pl, hz⟩ := I.list hq
    have hlen := r'.length
    obtain ⟨o, ho, hc, n, hd⟩ := pl.isList
    exact call_list_seq p (.inl rfl) ho hc hd (fun h' c' kp e => fin its r' hz h' c' kp e) (by simp only [List.size_toArray] <;> omega)
  · obtain ⟨its, r', pl, hz⟩ := I.tuple hq
    have hlen := r'.length
    obtain ⟨o, ho, hc, n, hd⟩ := pl
    exact call_list_seq p (.inr rfl) ho hc hd (fun h' c' kp e => fin its r' hz h' c' kp e) (by simp only [List.size_toArray] <;> omega)
def tyV (K : PySem.W.Frag) (T : String) (x : V) (H : Hp) : Prop := match x with
  | .str _ => T = "str"
  | .int _ => T = "int"
  | .ref p => (T = "list" ∧ ∃ xs, SqL K H p xs) ∨ (T = "tuple" ∧ ∃ o, K.lookup p = some o ∧ o.cls = .type "tuple" ∧ o.dict = none) ∨
      (T = "dict" ∧ ((∃ kvs, H p = some (.dK kvs)) ∨ ∃ kvs, H p = some (.dT kvs))) ∨ (T = "set" ∧ ∃ S n, H p = some (.set S n))
  | _ => False
theorem tyV_is {pins : List (Addr × Obj)} {σ : St} {H : Hp} {s : Shared} {T : String} {x : V} {v : Value} (I : Inv X pins σ H s) (r : RelV x v) (ty : tyV X.K T x H) :
    s.TypeIs v T ∧ ∀ a, v = .ref a → ∃ ob, s.heap.get? a = some ob ∧ ob.dict = none := by
  cases x with
  | str z =>
    obtain ⟨t, rfl⟩ := r
    cases (show T = "str" from ty)
    exact ⟨typeIs_str s z t, fun _ e => nomatch e⟩
  | int i =>
    obtain ⟨t, rfl⟩ := r
    cases (show T = "int" from ty)
    exact ⟨typeIs_int s i t, fun _ e => nomatch e⟩
  | ref p =>
    cases r
    rcases ty with ⟨rfl, xs, hq⟩ | ⟨rfl, o, hk, hc, hd⟩ | ⟨rfl, hk⟩ | ⟨rfl, S, n, hk⟩
    · obtain ⟨its, _, pl, _⟩ := I.list hq
      refine ⟨pl.isList.typeIs, fun a e => ?_⟩
      cases e
      obtain ⟨o, n, e, c, hd, _⟩ := pl
      exact ⟨o, e, hd⟩
    · refine ⟨⟨o, I.kIn p o hk, hc⟩, fun a e => ?_⟩
      cases e
      exact ⟨o, I.kIn _ o hk, hd⟩
    · have z : ∃ o, s.heap.get? p = some o ∧ o.ExactDict := by
        rcases hk with ⟨kvs, hk⟩ | ⟨kvs, hk⟩
        · obtain ⟨_, _, _, _, o, _, _, e, ex, _⟩ := I.hok p _ hk
          exact ⟨o, e, ex⟩
        · obtain ⟨_, _, _, _, o, _, _, e, ex, _⟩ := I.hok p _ hk
          exact ⟨o, e, ex⟩
      obtain ⟨o, e, ex⟩ := z
      refine ⟨⟨o, e, ex.1⟩, fun a e2 => ?_⟩
      cases e2
      exact ⟨o, e, ex.2.1⟩
    · obtain ⟨o, _, _, _, e, ex, _⟩ := I.hok p _ hk
      refine ⟨⟨o, e, ex.1⟩, fun a e2 => ?_⟩
      cases e2
      exact ⟨o, e, ex.2.1⟩
  | _ => exact False.elim ty
def tBM (K : PySem.W.Frag) (T : String) (r : V → List V → Hp → VK → Prop) (to : TE) (t : TA) : TE := fun σ H Q => to σ H fun x H1 => tyV K T x H1 ∧ t σ H1 fun xs H2 => r x xs H2 Q
variable {o e : Expr} {es : List Expr} {to : TE} {t : TA} {name : Str} {apos cpos : Pos} {T id : String} {r : V → List V → Hp → VK → Prop}
theorem pe_bm (pa : PlainAttrs T) (slot : Slot T name id) (hty : typeOf (.builtin id) = pure (.type "method_descriptor")) (hm : MtR X id r) (ho : PE X o to) (ha : PA X (e :: es) t)
    (hbase : attributeBase o name X.env (eval o X.env) = eval o X.env := by rfl)
    (hfew : ((backTo cpos (starEach (e :: es) X.env)).all (fun x => !x.1) && (backToKw cpos (keywordEach [] X.env)).all (fun x => x.1.isSome)
      && decide ((e :: es).length + ([] : List Keyword).length + (if ([] : List Keyword).isEmpty then 0 else 1) < 30)) = true := by rfl)
    (hline : (apos.endLine == cpos.line) = true := by rfl) (hs : starEach (e :: es) X.env = (false, eval e X.env) :: starEach es X.env := by rfl) (hplain : (backTo cpos (starEach es X.env)).any (·.1) = false := by rfl) :
    PE X (.Call (.Attribute o name apos) (e :: es) [] cpos) (tBM X.K T r to t) := by
  intro pins s σ H Q I h
  refine wpAny_Call_method_late hbase hfew hline rfl (thn (ho pins s σ H _ I h) fun v s1 ⟨x, H1, I1, r1, ty, q1⟩ => ?_)
  obtain ⟨h1, h2⟩ := tyV_is I1 r1 ty
  refine ⟨T, id, pa, slot, hty, h1, h2, ?_⟩
  have hA := ha cpos pins s1 σ H1 _ I1 q1
  rw [hs] at hA ⊢
  refine Calls.callWith_builtin (by show (false || (backTo cpos (starEach es X.env)).any (·.1)) = false; rw [hplain] <;> rfl) (Calls.evalArgs_plain ?_)
  exact thn hA fun us s2 ⟨vs, H2, I2, r2, q2⟩ => hm pins s2 σ H2 x vs v us Q I2 r1 r2 q2
end
end L2
namespace L2
open PySem PySem.Spec PyProof.Rows
variable {q0 : Bool}
def MtM (X : Cx) (id : String) (r : V → List V → Hp → VK → Prop) : Prop :=
  ∀ (pins : List (Addr × Obj)) (s : Shared) (σ : St) (H : Hp) (x : V) (xs : List V) (v : Value) (us : List Value) (Q : VK), Inv X pins σ H s → RelV x v → Vals xs us → r x xs H Q →
    wpAny (model X.prog X.w) X.A (call (.builtin id) (v :: us)) (EP X pins σ Q) X.xe s
theorem Vals.one : ∀ {x : V} {us : List Value}, Vals [x] us → ∃ u, us = [u] ∧ RelV x u
  | _, _, .cons r .nil => ⟨_, rfl, r⟩
theorem Vals.eraseIdx : ∀ {xs : List V} {us : List Value} (i : Nat), Vals xs us → Vals (xs.eraseIdx i) (us.eraseIdx i)
  | _, _, _, .nil => .nil
  | _, _, 0, .cons _ t => t
  | _, _, i + 1, .cons r t => .cons r (Vals.eraseIdx i t)
theorem len_erase {α : Type} : ∀ (l : List α) (i : Nat), (l.eraseIdx i).length ≤ l.length
  | [], _ => Nat.le_refl _
  | _ :: _, 0 => Nat.le_succ _
  | _ :: r, i + 1 => Nat.succ_le_succ (len_erase r i)
section
variable {X : Cx} {pins : List (Addr × Obj)} {σ : St} {H : Hp} {s : Shared} {l b : Addr} {xs ys zs : List V}
theorem Inv.lset {its its' : List Value} {n : Nat} {f : Array Value → Array Value} {t' : Nat} (I : Inv X pins σ H s) (hH : H l = some (.lst xs))
    (e : s.heap.get? l = some { cls := .type "list", data := .seq its.toArray n }) (hf : f its.toArray = its'.toArray) (hv : Vals ys its') (hz : ys.length ≤ sizeLine) :
    Inv X pins σ (upd H l (.lst ys)) { s with heap := s.heap.update l (Obj.mapSeq f), toks := t' } := by
  have q := PySem.IsL.update e f
  rw [hf] at q
  refine I.write (x := l) (e := l) (by rw [hH]; exact trivial) (.inl rfl) (fun b' u hb hu => (Heap.get?_update_other s.heap (Obj.mapSeq f) (Ne.symm hb)).trans hu) ⟨_, q⟩ ?_
  exact ⟨hz, its', _, hv, q⟩
theorem Inv.lnew {its : List Value} {t' : Nat} (I : Inv X pins σ H s) (hv : Vals ys its) (hz : ys.length ≤ sizeLine) :
    Inv X pins σ (upd H s.heap.objs.size (.lst ys)) { s with heap := s.heap.push { cls := .type "list", data := .seq its.toArray }, toks := t' } :=
  I.laid (fun _ _ q => Heap.get?_push_of_some _ q) (Nat.le_refl _) ⟨hz, its, 0, hv, Heap.get?_push_size _ rfl⟩
theorem Inv.fresh (I : Inv X pins σ H s) : H s.heap.objs.size = none := I.hok.fresh (Nat.le_refl _)
theorem Inv.lstM (I : Inv X pins σ H s) (hH : H l = some (.lst xs)) : xs.length ≤ sizeLine ∧ ∃ (its : List Value) (n : Nat), Vals xs its ∧ xs.length = its.length ∧ s.heap.get? l = some { cls := .type "list", data := .seq its.toArray n } := by
  obtain ⟨z, its, n, r, e⟩ := I.hok l _ hH
  exact ⟨z, its, n, r, r.length, e⟩
end
section
variable {X : Cx}
def rAppend : V → List V → Hp → VK → Prop := fun x vs H Q => ∃ l xs y, x = .ref l ∧ vs = [y] ∧ H l = some (.lst xs) ∧ xs.length < sizeLine ∧ Q .non (upd H l (.lst (xs ++ [y])))
theorem mt_append : MtM X "list.append" rAppend := by
  intro pins s σ H x vs v us Q I rx rv h
  obtain ⟨l, xs, y, rfl, rfl, hH, hz, q⟩ := h
  cases rx
  obtain ⟨u, rfl, ru⟩ := rv.one
  obtain ⟨z, its, n, r, hl, e⟩ := I.lstM hH
  refine call_meets F.slot_list_append ⟨_, e, rfl⟩ F.entry_list_append (F.args_list_append_2 _ _) (PySem.list_append l its.toArray n u (by rw [List.size_toArray]; omega)) ⟨e, ?_⟩
  refine ⟨.non, _, I.lset (its' := its ++ [u]) hH e (by simp) (r.append (.cons ru .nil)) ?_, rfl, q⟩
  rw [List.length_append, List.length_singleton]
  omega
def rPopAt : V → List V → Hp → VK → Prop := fun x vs H Q => ∃ l xs i k y, x = .ref l ∧ vs = [.int i] ∧ H l = some (.lst xs) ∧ -(2 ^ 63) ≤ i ∧ i < 2 ^ 63 ∧ seqIndex? i xs.length = some k ∧ xs[k]? = some y ∧ Q y (upd H l (.lst (xs.eraseIdx k)))
theorem mt_popAt : MtM X "list.pop" rPopAt := by
  intro pins s σ H x vs v us Q I rx rv h
  obtain ⟨l, xs, i, k, y, rfl, rfl, hH, h1, h2, hk, hy, q⟩ := h
  cases rx
  obtain ⟨u, rfl, ru⟩ := rv.one
  obtain ⟨t, rfl⟩ := ru
  obtain ⟨z, its, n, r, hl, e⟩ := I.lstM hH
  obtain ⟨w, hw, rw'⟩ := r.get hy
  refine call_meets F.slot_list_pop ⟨_, e, rfl⟩ F.entry_list_pop (F.args_list_pop_2 _ _)
    (MeetsSeq.list_pop_at l its.toArray n i t k w (fitsIndex_both h1 h2) (by rw [List.size_toArray, ← hl]; exact hk) (by rw [← Array.getElem?_toList]; exact hw) (by rw [List.size_toArray]; omega)) ⟨e, ?_⟩
  refine ⟨y, _, I.lset (its' := its.eraseIdx k) hH e ?_ (r.eraseIdx k) ?_, rw', q⟩
  · show its.toArray.eraseIdxIfInBounds k = (its.eraseIdx k).toArray
    rw [List.eraseIdxIfInBounds_toArray]
  · have := len_erase xs k
    omega
def rCat : R2 := fun x y H Q => ∃ l b xs zs, x = .ref l ∧ y = .ref b ∧ H l = some (.lst xs) ∧ H b = some (.lst zs) ∧ xs.length + zs.length ≤ sizeLine ∧ ∀ p, H p = none → Q (.ref p) (upd H p (.lst (xs ++ zs)))
theorem op_cat : OpR X (binaryOp .Add) rCat := by
  intro pins s σ H x y v u Q I rx ry h
  obtain ⟨l, b, xs, zs, rfl, rfl, hH, hB, hz, q⟩ := h
  cases rx
  cases ry
  obtain ⟨z, its, n, r, hl, e⟩ := I.lstM hH
  obtain ⟨z2, its2, n2, r2, hl2, e2⟩ := I.lstM hB
  refine PySem.P.add_list e e2 ?_ (by rw [List.size_toArray, List.size_toArray]; omega)
  have ea : its.toArray ++ its2.toArray = (its ++ its2).toArray := by simp
  rw [ea]
  exact ⟨.ref _, _, I.lnew (t' := s.toks) (r.append r2) (by rw [List.length_append]; omega), rfl, q _ I.fresh⟩
end
section
variable {prog : Program} {w : World} {A : Around} {E : Value → Shared → Prop} {s : Shared}
end
section
variable {X : Cx}
end
end L2
namespace L2
open PySem PySem.Spec PyProof.Rows
variable {q0 : Bool}
section
variable {κ : Type} [DecidableEq κ]
def valV (kvs : List (κ × V)) (k : κ) : Option V := (kvs.find? fun kv => decide (kv.1 = k)).map (·.2)
def putK (kvs : List (κ × V)) (k : κ) (v : V) : List (κ × V) :=
  if (kvs.any fun kv => decide (kv.1 = k)) = true then kvs.map (fun kv => if kv.1 = k then (kv.1, v) else kv) else kvs ++ [(k, v)]
theorem valV_pos {p : κ × V} {r : List (κ × V)} {k : κ} (e : p.1 = k) : valV (p :: r) k = some p.2 := by simp [valV, List.find?_cons, e]
theorem valV_neg {p : κ × V} {r : List (κ × V)} {k : κ} (e : ¬ p.1 = k) : valV (p :: r) k = valV r k := by simp [valV, List.find?_cons, e]
theorem valV_any (k : κ) : ∀ kvs : List (κ × V), (kvs.any fun kv => decide (kv.1 = k)) = (valV kvs k).isSome
  | [] => rfl
  | p :: r => by
    rw [List.any_cons]
    by_cases e : p.1 = k
    · simp only [valV_pos e, decide_eq_true e, Bool.true_or, Option.isSome_some]
    · rw [valV_neg e, decide_eq_false e, Bool.false_or]; exact valV_any k r
theorem length_putK (kvs : List (κ × V)) (k : κ) (v : V) : (putK kvs k v).length ≤ kvs.length + 1 := by
  unfold putK
  split
  · rw [List.length_map]; omega
  · rw [List.length_append, List.length_cons, List.length_nil]; omega
theorem putK_new {kvs : List (κ × V)} {k : κ} (v : V) (h : valV kvs k = none) : putK kvs k v = kvs ++ [(k, v)] := by
  unfold putK
  rw [valV_any, h]
  exact if_neg (by decide)
theorem RelO.isSome_eq {o : Option V} {u : Option Value} (r : RelO o u) : o.isSome = u.isSome := by
  cases o with
  | none => cases u with
    | none => rfl
    | some _ => exact (show False from r).elim
  | some _ => cases u with
    | none => exact (show False from r).elim
    | some _ => rfl
theorem RelO.getD {o : Option V} {u : Option Value} {d : V} {d' : Value} (r : RelO o u) (rd : RelV d d') : RelV (o.getD d) (u.getD d') := by
  cases o with
  | none => cases u with
    | none => exact rd
    | some _ => exact (show False from r).elim
  | some _ => cases u with
    | none => exact (show False from r).elim
    | some _ => exact r
theorem KV.val {kvs : List (κ × V)} {vs : List (κ × Value)} (r : KV kvs vs) (k : κ) : RelO (valV kvs k) (valueAt vs k) := by
  unfold KV at r
  induction r with
  | nil => exact True.intro
  | @cons p q ps qs h t ih =>
    obtain ⟨h1, h2⟩ := h
    by_cases e : p.1 = k
    · have e' : q.1 = k := h1.symm.trans e
      have b : valueAt (q :: qs) k = some q.2 := by simp [valueAt, List.find?_cons, e']
      rw [valV_pos e, b]; exact h2
    · have e' : ¬ q.1 = k := fun z => e (h1.trans z)
      have b : valueAt (q :: qs) k = valueAt qs k := by simp [valueAt, List.find?_cons, e']
      rw [valV_neg e, b]; exact ih
theorem KV.any {kvs : List (κ × V)} {vs : List (κ × Value)} (r : KV kvs vs) (k : κ) : (kvs.any fun kv => decide (kv.1 = k)) = vs.any fun kv => decide (kv.1 = k) := by
  unfold KV at r
  induction r with
  | nil => rfl
  | cons h t ih => rw [List.any_cons, List.any_cons, ih, h.1]
theorem KV.repl {kvs : List (κ × V)} {vs : List (κ × Value)} (r : KV kvs vs) (k : κ) {y : V} {u : Value} (ry : RelV y u) :
    KV (kvs.map fun kv => if kv.1 = k then (kv.1, y) else kv) (vs.map fun kv => if kv.1 = k then (kv.1, u) else kv) := by
  unfold KV at r ⊢
  induction r with
  | nil => exact .nil
  | @cons p q ps qs h t ih =>
    rw [List.map_cons, List.map_cons]
    refine .cons ?_ ih
    obtain ⟨h1, h2⟩ := h
    by_cases e : p.1 = k
    · rw [if_pos e, if_pos (h1.symm.trans e)]; exact ⟨h1, ry⟩
    · rw [if_neg e, if_neg (fun z => e (h1.trans z))]; exact ⟨h1, h2⟩
theorem KV.put {kvs : List (κ × V)} {vs : List (κ × Value)} (r : KV kvs vs) (k : κ) {y : V} {u : Value} (ry : RelV y u) : KV (putK kvs k y) (stored vs k u) := by
  unfold putK stored
  rw [r.any k]
  by_cases e : (vs.any fun kv => decide (kv.1 = k)) = true
  · rw [if_pos e, if_pos e]; exact r.repl k ry
  · rw [if_neg e, if_neg e]; exact Paired.snoc r ⟨rfl, ry⟩
theorem KV.keys {kvs : List (κ × V)} {vs : List (κ × Value)} (r : KV kvs vs) : kvs.map (·.1) = vs.map (·.1) := by
  unfold KV at r
  induction r with
  | nil => rfl
  | cons h t ih => rw [List.map_cons, List.map_cons, ih, h.1]
theorem KV.length {kvs : List (κ × V)} {vs : List (κ × Value)} (r : KV kvs vs) : kvs.length = vs.length := Paired.length r
end
theorem kV_is {P : Program} {w : World} {k : Key} {u : Value} (r : RelV (kV k) u) : (mixKind P w).is k u = true := by
  cases k with
  | inl i => obtain ⟨t, e⟩ := (show ∃ t, u = Value.int i t from r); subst e; exact mixKind_int P w i t
  | inr x => obtain ⟨t, e⟩ := (show ∃ t, u = Value.str x t from r); subst e; exact mixKind_str P w x t
theorem items_are {P : Program} {w : World} : ∀ {ks : List Key} {us : List Value}, Vals (ks.map kV) us → ItemsAre (mixKind P w) ks us
  | [], _, r => by rw [List.map_nil] at r; cases r; exact .nil
  | k :: ks, _, r => by
    rw [List.map_cons] at r
    cases r with
    | cons h t => exact .cons (kV_is h) (items_are t)
abbrev KT (H : Hp) : List (List Key × V) → List (List Key × Addr × Value) → Prop := Paired fun p q => p.1 = q.1 ∧ H q.2.1 = some (.tup (p.1.map kV)) ∧ RelV p.2 q.2.2
theorem KT.val {H : Hp} {kvs : List (List Key × V)} {xs : List (List Key × Addr × Value)} (r : KT H kvs xs) (k : List Key) : RelO (valV kvs k) ((atKey xs k).map (·.2)) := by
  induction r with
  | nil => exact True.intro
  | @cons p q ps qs h t ih =>
    obtain ⟨h1, _, h2⟩ := h
    by_cases e : p.1 = k
    · have e' : q.1 = k := h1.symm.trans e
      have b : atKey (q :: qs) k = some q.2 := by simp [atKey, List.find?_cons, e']
      rw [valV_pos e, b]; exact h2
    · have e' : ¬ q.1 = k := fun z => e (h1.trans z)
      have b : atKey (q :: qs) k = atKey qs k := by simp [atKey, List.find?_cons, e']
      rw [valV_neg e, b]; exact ih
theorem KT.repl {H : Hp} {kvs : List (List Key × V)} {xs : List (List Key × Addr × Value)} (r : KT H kvs xs) (k : List Key) {y : V} {u : Value} (ry : RelV y u) :
    KT H (kvs.map fun kv => if kv.1 = k then (kv.1, y) else kv) (xs.map (putAt k u)) := by
  induction r with
  | nil => exact .nil
  | @cons p q ps qs h t ih =>
    rw [List.map_cons, List.map_cons]
    refine .cons ?_ ih
    obtain ⟨h1, h2, h3⟩ := h
    unfold putAt
    by_cases e : p.1 = k
    · rw [if_pos e, if_pos (h1.symm.trans e)]; exact ⟨h1, h2, ry⟩
    · rw [if_neg e, if_neg (fun z => e (h1.trans z))]; exact ⟨h1, h2, h3⟩
theorem KT.put {H : Hp} {kvs : List (List Key × V)} {xs : List (List Key × Addr × Value)} (r : KT H kvs xs) (k : List Key) {b : Addr} {y : V} {u : Value} (hb : H b = some (.tup (k.map kV))) (ry : RelV y u) :
    KT H (putK kvs k y) (storedH xs k b u) := by
  have e : (kvs.any fun kv => decide (kv.1 = k)) = (atKey xs k).isSome := by
    rw [valV_any, (r.val k).isSome_eq, Option.isSome_map]
  unfold putK storedH
  rw [e]
  by_cases q : (atKey xs k).isSome = true
  · rw [if_pos q, if_pos q]; exact r.repl k ry
  · rw [if_neg q, if_neg q]; exact Paired.snoc r ⟨rfl, hb, ry⟩
theorem KT.keeps {H H' : Hp} {kvs : List (List Key × V)} {xs : List (List Key × Addr × Value)} (r : KT H kvs xs) (ht : ∀ b ys, H b = some (.tup ys) → H' b = some (.tup ys)) : KT H' kvs xs :=
  Paired.mapP r fun _ _ z => ⟨z.1, ht _ _ z.2.1, z.2.2⟩
section
variable {P : Program} {w : World} {H : Hp} {h : Heap} {a : Addr}
theorem rd_of {u : HO} (ok : HOk P w H h) (e : Rd H a u) : ObjOk P w H h a u := e.ok ok
theorem dk_rd {kvs : List (Key × V)} (ok : HOk P w H h) (e : Rd H a (.dK kvs)) : kvs.length ≤ sizeLine ∧ (a == sysModules) = false ∧ ∃ vs, KV kvs vs ∧ h.DictOf (mixKind P w) a vs :=
  show ObjOk P w H h a (.dK kvs) from rd_of ok e
theorem dk_of {kvs : List (Key × V)} (ok : HOk P w H h) (e : H a = some (.dK kvs)) : kvs.length ≤ sizeLine ∧ (a == sysModules) = false ∧ ∃ vs, KV kvs vs ∧ h.DictOf (mixKind P w) a vs := dk_rd ok (.inl e)
theorem key_of {ks : List Key} (ok : HOk P w H h) (e : H a = some (.tup (ks.map kV))) : (tupleKind (mixKind P w)).is h ks a := by
  obtain ⟨_, its, r, o, h1, h2, n, h3⟩ := (show ObjOk P w H h a (.tup (ks.map kV)) from ok a _ e)
  exact ⟨o, its.toArray, n, h1, h2, h3, by simpa using items_are r⟩
theorem dt_rd {kvs : List (List Key × V)} (ok : HOk P w H h) (e : Rd H a (.dT kvs)) : kvs.length ≤ sizeLine ∧ (a == sysModules) = false ∧
    ∃ xs, KT H kvs xs ∧ h.DictOfH (tupleKind (mixKind P w)) a xs := by
  obtain ⟨z, y, xs, r, o, es, ep, h1, h2, h3, h4, h5⟩ := (show ObjOk P w H h a (.dT kvs) from rd_of ok e)
  refine ⟨z, y, xs, r, o, es, ep, h1, h2, h3, h4, fun x hx => ?_, h5⟩
  have all : ∀ {l : List (List Key × V)} {m : List (List Key × Addr × Value)}, KT H l m → ∀ x ∈ m, (tupleKind (mixKind P w)).is h x.1 x.2.1 := by
    intro l m q
    induction q with
    | nil => intro x hx; exact nomatch hx
    | @cons p q ps qs hq t ih =>
      intro x hx
      rcases List.mem_cons.mp hx with e | hx
      · subst e
        exact key_of ok (by rw [← hq.1]; exact hq.2.1)
      · exact ih x hx
  exact all r x hx
theorem dt_of {kvs : List (List Key × V)} (ok : HOk P w H h) (e : H a = some (.dT kvs)) : kvs.length ≤ sizeLine ∧ (a == sysModules) = false ∧
    ∃ xs, KT H kvs xs ∧ h.DictOfH (tupleKind (mixKind P w)) a xs := dt_rd ok (.inl e)
end
def DGet (H : Hp) (a : Addr) (y : V) (r : Option V) : Prop :=
  (∃ kvs k, Rd H a (.dK kvs) ∧ y = kV k ∧ r = valV kvs k) ∨ ∃ kvs k b, Rd H a (.dT kvs) ∧ y = .ref b ∧ H b = some (.tup (k.map kV)) ∧ r = valV kvs k
def DPut (H : Hp) (a : Addr) (y v : V) (H' : Hp) : Prop :=
  (∃ kvs k, H a = some (.dK kvs) ∧ y = kV k ∧ kvs.length < sizeLine ∧ H' = upd H a (.dK (putK kvs k v))) ∨
  ∃ kvs k b, H a = some (.dT kvs) ∧ y = .ref b ∧ H b = some (.tup (k.map kV)) ∧ kvs.length < sizeLine ∧ H' = upd H a (.dT (putK kvs k v))
theorem DGet.k {H : Hp} {a : Addr} {kvs : List (Key × V)} {k : Key} (e : H a = some (.dK kvs)) : DGet H a (kV k) (valV kvs k) := .inl ⟨kvs, k, .inl e, rfl, rfl⟩
theorem DGet.t {H : Hp} {a b : Addr} {kvs : List (List Key × V)} {k : List Key} (e : H a = some (.dT kvs)) (eb : H b = some (.tup (k.map kV))) : DGet H a (.ref b) (valV kvs k) := .inr ⟨kvs, k, b, .inl e, rfl, eb, rfl⟩
theorem DPut.k {H : Hp} {a : Addr} {kvs : List (Key × V)} {k : Key} {v : V} (e : H a = some (.dK kvs)) (hl : kvs.length < sizeLine) : DPut H a (kV k) v (upd H a (.dK (putK kvs k v))) := .inl ⟨kvs, k, e, rfl, hl, rfl⟩
theorem DPut.t {H : Hp} {a b : Addr} {kvs : List (List Key × V)} {k : List Key} {v : V} (e : H a = some (.dT kvs)) (eb : H b = some (.tup (k.map kV))) (hl : kvs.length < sizeLine) :
    DPut H a (.ref b) v (upd H a (.dT (putK kvs k v))) := .inr ⟨kvs, k, b, e, rfl, eb, hl, rfl⟩
section
variable {X : Cx} {pins : List (Addr × Obj)} {σ : St} {H : Hp} {s : Shared} {a : Addr} {y v : V} {u r : Value} {o : Option V} {A : Around} {E : Value → Shared → Prop}
theorem Inv.big (I : Inv X pins σ H s) : sysModules < s.heap.objs.size := by
  have h : mainGlobals < s.heap.objs.size := (I.mod.glob.keeps I.bk).lt
  exact Nat.lt_trans (by decide) h
theorem d_getItem {Q : Value → Shared → Prop} (hu : A.units + 1 < cLine) (I : Inv X pins σ H s) (g : DGet H a y (some v)) (ry : RelV y u) (h : ∀ w' s', Inv X pins σ H s' → RelV v w' → Q w' s') :
    wpAny (model X.prog X.w) A (getItem (.ref a) u) Q E s := by
  rcases g with ⟨kvs, k, e, ey, l⟩ | ⟨kvs, k, b, e, ey, eb, l⟩
  · subst ey
    obtain ⟨z, hd, vs, rel, dd⟩ := dk_rd I.hok e
    obtain ⟨w', hw, rw'⟩ := RelO.some_of (v := v) (o := valueAt vs k) (by rw [l]; exact rel.val k)
    exact wpAny_getItem_of (kV_is ry) dd.mapOf hw (h w' _ (I.tok _) rw')
  · subst ey
    cases (show u = Value.ref b from ry)
    obtain ⟨z, hd, xs, rel, dd⟩ := dt_rd I.hok e
    obtain ⟨w', hw, rw'⟩ := RelO.some_of (v := v) (o := (atKey xs k).map (·.2)) (by rw [l]; exact rel.val k)
    obtain ⟨p, hp, hp2⟩ := Option.map_eq_some_iff.mp hw
    refine wpAny_getItem_heap (tupleKind_room_in1 hu) (key_of I.hok eb) dd hp ?_
    rw [hp2]
    exact h w' _ (I.tok _) rw'
theorem d_in {Q : Value → Shared → Prop} (hu : A.units + 1 < cLine) (I : Inv X pins σ H s) (g : DGet H a y o) (ry : RelV y u) (h : ∀ s', Inv X pins σ H s' → Q (.bool o.isSome) s') :
    wpAny (model X.prog X.w) A (compareOp .In u (.ref a)) Q E s := by
  rcases g with ⟨kvs, k, e, ey, l⟩ | ⟨kvs, k, b, e, ey, eb, l⟩
  · subst ey
    obtain ⟨z, hd, vs, rel, dd⟩ := dk_rd I.hok e
    refine wpAny_in_of (kV_is ry) hd dd.mapOf ?_
    rw [← (rel.val k).isSome_eq, ← l]
    exact h _ (I.tok _)
  · subst ey
    cases (show u = Value.ref b from ry)
    obtain ⟨z, hd, xs, rel, dd⟩ := dt_rd I.hok e
    refine wpAny_in_heap (tupleKind_room_in1 hu) (key_of I.hok eb) hd dd ?_
    have q := (rel.val k).isSome_eq
    rw [Option.isSome_map] at q
    rw [← q, ← l]
    exact h _ (I.tok _)
theorem d_write {h' : Heap} {t' : Nat} {ob : HO} (I : Inv X pins σ H s) (mu : Mut (H a)) (hs : Heap.SameBut a s.heap h') (he : ∃ q, h'.get? a = some q) (new : ObjOk X.prog X.w (upd H a ob) h' a ob) :
    Inv X pins σ (upd H a ob) { s with heap := h', toks := t' } :=
  I.write (x := a) (e := a) mu (.inl rfl) (fun b q hb z => (hs.2 b hb).trans z) he new
theorem dk_new {P : Program} {w : World} {H' : Hp} {h' : Heap} {kvs : List (Key × V)} {vs : List (Key × Value)} (z : kvs.length ≤ sizeLine) (hd : (a == sysModules) = false) (rel : KV kvs vs) (dd : h'.DictOf (mixKind P w) a vs) :
    ObjOk P w H' h' a (.dK kvs) := ⟨z, hd, vs, rel, dd⟩
theorem d_setItem {H' : Hp} {Q : Unit → Shared → Prop} (hu : A.units + 1 < cLine) (I : Inv X pins σ H s) (g : DPut H a y v H') (ry : RelV y u) (rv : RelV v r) (h : ∀ s', Inv X pins σ H' s' → Q () s') :
    wpAny (model X.prog X.w) A (setItem (.ref a) u r) Q E s := by
  rcases g with ⟨kvs, k, e, ey, l, eH⟩ | ⟨kvs, k, b, e, ey, eb, l, eH⟩
  · subst ey eH
    obtain ⟨z, hd, vs, rel, dd⟩ := dk_of I.hok e
    have hz : vs.length ≤ sizeLine := by rw [← rel.length]; exact z
    have hl : (putK kvs k v).length ≤ sizeLine := by have := length_putK kvs k v; omega
    refine wpAny_setItem_pairs (hsz := hz) (kV_is ry) dd fun h' dd' hs => h _ ?_
    have he : ∃ q, h'.get? a = some q := let ⟨q, _, _, hq, _⟩ := dd'; ⟨q, hq⟩
    exact d_write I (by rw [e]; exact True.intro) hs he (dk_new hl hd (rel.put k rv) dd')
  · subst ey eH
    cases (show u = Value.ref b from ry)
    obtain ⟨z, hd, xs, rel, dd⟩ := dt_of I.hok e
    have hz : xs.length ≤ sizeLine := by rw [← Paired.length rel]; exact z
    have hl : (putK kvs k v).length ≤ sizeLine := by have := length_putK kvs k v; omega
    refine wpAny_setItem_heap (hsz := hz) (tupleKind_room_in1 hu) (key_of I.hok eb) dd fun h' dd' hs => h _ ?_
    obtain ⟨q, es, ep, hq, h2, h3, h4, _, h5⟩ := dd'
    refine d_write I (by rw [e]; exact True.intro) hs ⟨q, hq⟩ ⟨hl, hd, _, (rel.put k eb rv).keeps fun c ys ec => ?_, q, es, ep, hq, h2, h3, h4, h5⟩
    rw [upd_ne (ne_of ec e (fun z => nomatch z))]
    exact ec
end
section
variable {X : Cx} {pins : List (Addr × Obj)} {σ : St} {H : Hp} {s : Shared} {a : Addr} {kvs : List (Key × V)} {k : Key} {u : Value} {A : Around} {E : Value → Shared → Prop}
theorem d_len {Q : Value → Shared → Prop} (I : Inv X pins σ H s) (e : Rd H a (.dK kvs)) (h : ∀ t s', Inv X pins σ H s' → Q (.int kvs.length t) s') : wpAny (model X.prog X.w) A (call (.builtin "len") [.ref a]) Q E s := by
  obtain ⟨z, hd, vs, rel, dd⟩ := dk_rd I.hok e
  refine call_len_dict hd dd (by rw [← rel.length]; rw [sizeLine_eq] at z; omega) ?_
  rw [← rel.length]
  exact h _ _ (I.tok _)
end
def NoSl (i : Expr) : Prop := ∀ ov iv, subscripted i false ov iv = operate [ov, iv] (getItem ov iv)
theorem subD_of {prog : Program} {w : World} {A : Around} {E : Value → Shared → Prop} {s : Shared} {env : Env} {value slice : Expr} {pos : Pos} {T id : String} {Q : Value → Shared → Prop}
    (hl : typeLookup (.type T) "__getitem__" = pure (some (.builtin id))) (hs : NoSl slice)
    (h : wpAny (model prog w) A (eval value env) (fun o s₁ => wpAny (model prog w) A (eval slice env) (fun i s₂ => s₂.TypeIs o T ∧ wpAny (model prog w) A (getItem o i) Q E s₂) E s₁) E s) :
    wpAny (model prog w) A (eval (.Subscript value slice pos) env) Q E s := by
  refine Subscript_ (wpAny_mono h (fun o s₁ h₁ => wpAny_mono h₁ (fun i s₂ h₂ => ?_) fun _ _ x => x) fun _ _ x => x)
  obtain ⟨hT, h₂⟩ := h₂
  unfold subscriptTail
  refine wpAny_bind ?_
  rw [getitemInPython_of_ne hT.not_modules]
  refine wpAny_bind (wpAny_specialOf hT hl ?_)
  have fin : wpAny (model prog w) A (subscripted slice false o i) (fun r s₃ => wpAny (model prog w) A (letTemporaryGo value o r >>= fun _ => pure r) Q E s₃) E s₂ := by
    rw [hs o i]
    exact wpAny_operating (wpAny_mono h₂ (fun r s₃ h₃ => wpAny_bind (wpAny_letTemporaryGo (wpAny_pure h₃))) fun _ _ x => x)
  first
    | exact wpAny_pure (wpAny_bind fin)
    | exact wpAny_bind (wpAny_pure (wpAny_bind fin))
    | exact wpAny_bind fin
theorem dict_typeIs {X : Cx} {pins : List (Addr × Obj)} {σ : St} {H : Hp} {s : Shared} {a : Addr} {y : V} {o : Option V} (I : Inv X pins σ H s) (g : DGet H a y o) : s.TypeIs (.ref a) "dict" := by
  rcases g with ⟨kvs, k, e, _, _⟩ | ⟨kvs, k, b, e, _, _, _⟩
  · obtain ⟨_, _, vs, _, dd⟩ := dk_rd I.hok e
    exact dd.typeIs
  · obtain ⟨_, _, xs, _, dd⟩ := dt_rd I.hok e
    exact dd.typeIs
def tDGet (td ty : TE) : TE := fun σ H Q => td σ H fun x H1 => ty σ H1 fun y H2 => ∃ a v, x = .ref a ∧ DGet H2 a y (some v) ∧ Q v H2
def tDIn (ty td : TE) : TE := fun σ H Q => ty σ H fun y H1 => td σ H1 fun x H2 => ∃ a o, x = .ref a ∧ DGet H2 a y o ∧ Q (.bl o.isSome) H2
def sDPut (td ty tv : TE) : TS := fun D σ H => tv σ H fun v H1 => td σ H1 fun x H2 => ty σ H2 fun y H3 => ∃ a H4, x = .ref a ∧ DPut H3 a y v H4 ∧ D.nx σ H4
section
variable {X : Cx} {o i e value : Expr} {pos pos' tpos : Pos} {td ty tv : TE}
theorem pe_dget (hu : X.A.units + 1 < cLine) (ho : PE X o td) (hi : PE X i ty) (hs : NoSl i) : PE X (.Subscript o i pos) (tDGet td ty) := by
  intro pins s σ H Q I h
  refine subD_of PySem.F.slot_dict_getitem.lookup hs (thn (ho pins s σ H _ I h) fun u s1 ⟨x, H1, I1, rx, q1⟩ => thn (hi pins s1 σ H1 _ I1 q1) fun iv s2 ⟨y, H2, I2, ry, a, v, ex, g, q2⟩ => ?_)
  subst ex
  obtain rfl : u = Value.ref a := rx
  exact ⟨dict_typeIs I2 g, d_getItem hu I2 g ry fun w' s3 I3 rw' => ⟨v, H2, I3, rw', q2⟩⟩
theorem pc_din (hu : X.A.units + 1 < cLine) (hi : PE X i ty) (ho : PE X o td) : PC X .In i o (tDIn ty td) := by
  intro pins s σ H Q I h
  refine thn (hi pins s σ H _ I h) fun iv s1 ⟨y, H1, I1, ry, q1⟩ => thn (ho pins s1 σ H1 _ I1 q1) fun u s2 ⟨x, H2, I2, rx, a, ov, ex, g, q2⟩ => ?_
  subst ex
  obtain rfl : u = Value.ref a := rx
  exact d_in hu I2 g ry fun s3 I3 => ⟨.bl ov.isSome, H2, I3, rfl, q2⟩
theorem ps_dput (hu : X.A.units + 1 < cLine) (ho : PE X o td) (hi : PE X i ty) (hv : PE X value tv) (hs : swapsWith value (some (.Subscript o i pos')) pos.line X.env = pure false) :
    PS X (.Assign [.Subscript o i pos'] value pos) (sDPut td ty tv) := by
  intro pins s σ H D I h
  refine wpAny_Assign_Subscript (thn (hv pins s σ H _ I h) fun r s1 ⟨v, H1, I1, rv, q1⟩ => thn (ho pins s1 σ H1 _ I1 q1) fun u s2 ⟨x, H2, I2, rx, q2⟩ => thn (hi pins s2 σ H2 _ I2 q2) fun iv s3 ⟨y, H3, I3, ry, a, H4, ex, g, q3⟩ => ?_) hs
  subst ex
  obtain rfl : u = Value.ref a := rx
  exact d_setItem hu I3 g ry rv fun s4 I4 => ⟨σ, H4, I4, q3⟩
end
theorem dk_empty {P : Program} {w : World} {H : Hp} (h : Heap) (hb : sysModules < h.objs.size) : ObjOk P w H (h.push { cls := .type "dict", data := .dict #[] }) h.objs.size (.dK []) :=
  ⟨Nat.zero_le _, beq_eq_false_iff_ne.mpr (Ne.symm (Nat.ne_of_lt hb)), [], .nil, Heap.DictOf.new h⟩
theorem dt_empty {P : Program} {w : World} {H : Hp} (h : Heap) (hb : sysModules < h.objs.size) : ObjOk P w H (h.push { cls := .type "dict", data := .dict #[] }) h.objs.size (.dT []) :=
  ⟨Nat.zero_le _, beq_eq_false_iff_ne.mpr (Ne.symm (Nat.ne_of_lt hb)), [], .nil, _, #[], 0, Heap.get?_push_size _ rfl, ⟨rfl, rfl, rfl⟩, rfl, rfl, List.nodup_nil⟩
def tDNewK : TE := fun _ H Q => ∀ p, H p = none → Q (.ref p) (upd H p (.dK []))
def tDNewT : TE := fun _ H Q => ∀ p, H p = none → Q (.ref p) (upd H p (.dT []))
section
variable {X : Cx} {pos : Pos}
theorem pe_dnewK : PE X (.Dict [] [] pos) tDNewK := fun pins s σ H Q I h =>
  wpAny_Dict_empty ⟨.ref s.heap.objs.size, _, I.laid (a := s.heap.objs.size) (o := .dK []) (t' := s.toks) (fun _ _ q => Heap.get?_push_of_some _ q) (Nat.le_refl _) (dk_empty s.heap I.big), rfl, h _ (I.hok.fresh (Nat.le_refl _))⟩
theorem pe_dnewT : PE X (.Dict [] [] pos) tDNewT := fun pins s σ H Q I h =>
  wpAny_Dict_empty ⟨.ref s.heap.objs.size, _, I.laid (a := s.heap.objs.size) (o := .dT []) (t' := s.toks) (fun _ _ q => Heap.get?_push_of_some _ q) (Nat.le_refl _) (dt_empty s.heap I.big), rfl, h _ (I.hok.fresh (Nat.le_refl _))⟩
end
def mergeK (kvs more : List (Key × V)) : List (Key × V) := more.foldl (fun acc kv => putK acc kv.1 kv.2) kvs
theorem KV.merge : ∀ {more : List (Key × V)} {rs : List (Key × Value)} {kvs : List (Key × V)} {vs : List (Key × Value)}, KV more rs → KV kvs vs → KV (mergeK kvs more) (merged vs rs) := by
  intro more rs kvs vs r
  unfold KV at r
  induction r generalizing kvs vs with
  | nil => intro q; exact q
  | @cons p q ps qs h t ih =>
    intro r0
    have e : KV (putK kvs p.1 p.2) (stored vs q.1 q.2) := by
      have := r0.put p.1 h.2
      rw [← h.1]; exact this
    exact ih e
theorem length_mergeK : ∀ (more kvs : List (Key × V)), (mergeK kvs more).length ≤ kvs.length + more.length
  | [], kvs => by show kvs.length ≤ kvs.length + 0; omega
  | p :: r, kvs => by
    have h1 := length_mergeK r (putK kvs p.1 p.2)
    have h2 := length_putK kvs p.1 p.2
    show (mergeK (putK kvs p.1 p.2) r).length ≤ _
    rw [List.length_cons]; omega
structure M2 (X : Cx) (o : Expr) (m : Str) (apos : Pos) (e f : Expr) (cpos : Pos) : Prop where
  base : attributeBase o m X.env (eval o X.env) = eval o X.env
  few : ((backTo cpos (starEach [e, f] X.env)).all (fun x => !x.1) && (backToKw cpos (keywordEach [] X.env)).all (fun x => x.1.isSome)
    && decide (([e, f] : List Expr).length + ([] : List Keyword).length + (if ([] : List Keyword).isEmpty then 0 else 1) < 30)) = true
  line : (apos.endLine == cpos.line) = true
  trees : backTo cpos (starEach [e, f] X.env) = [(false, eval e X.env), (false, eval f X.env)]
def IsD (H : Hp) (a : Addr) : Prop := (∃ kvs, Rd H a (.dK kvs)) ∨ ∃ kvs, Rd H a (.dT kvs)
theorem isD_at {X : Cx} {pins : List (Addr × Obj)} {σ : St} {H : Hp} {s : Shared} {a : Addr} (I : Inv X pins σ H s) (d : IsD H a) :
    s.TypeIs (.ref a) "dict" ∧ (∀ b, Value.ref a = .ref b → ∃ ob, s.heap.get? b = some ob ∧ ob.dict = none) ∧ (a == sysModules) = false := by
  rcases d with ⟨kvs, e⟩ | ⟨kvs, e⟩
  · obtain ⟨_, hd, vs, _, dd⟩ := dk_rd I.hok e
    refine ⟨dd.typeIs, fun b q => ?_, hd⟩
    cases q
    obtain ⟨ob, _, _, h1, h2, _⟩ := dd
    exact ⟨ob, h1, h2.2.1⟩
  · obtain ⟨_, hd, xs, _, dd⟩ := dt_rd I.hok e
    refine ⟨dd.typeIs, fun b q => ?_, hd⟩
    cases q
    obtain ⟨ob, _, _, h1, h2, _⟩ := dd
    exact ⟨ob, h1, h2.2.1⟩
section
variable {X : Cx} {pins : List (Addr × Obj)} {σ : St} {H : Hp} {s : Shared} {a : Addr} {y d : V} {u r : Value} {o : Option V} {A : Around} {E : Value → Shared → Prop}
theorem d_get2 {Q : Value → Shared → Prop} (hu : A.units + 1 < cLine) (I : Inv X pins σ H s) (g : DGet H a y o) (ry : RelV y u) (rd : RelV d r) (h : ∀ w' s', Inv X pins σ H s' → RelV (o.getD d) w' → Q w' s') :
    wpAny (model X.prog X.w) A (call (.builtin "dict.get") [.ref a, u, r]) Q E s := by
  rcases g with ⟨kvs, k, e, ey, l⟩ | ⟨kvs, k, b, e, ey, eb, l⟩
  · subst ey
    obtain ⟨z, hd, vs, rel, dd⟩ := dk_rd I.hok e
    refine call_meetsIn PySem.F.slot_dict_get dd.typeIs PySem.F.entry_dict_get (PySem.F.args_dict_get_3 _ _ _) (meets_dict_get_default (mixKind X.prog X.w) a (kV_is ry) hd r) ⟨_, dd.mapOf, h _ _ (I.tok _) ?_⟩
    rw [l]
    exact (rel.val k).getD rd
  · subst ey
    cases (show u = Value.ref b from ry)
    obtain ⟨z, hd, xs, rel, dd⟩ := dt_rd I.hok e
    refine call_meetsIn PySem.F.slot_dict_get dd.typeIs PySem.F.entry_dict_get (PySem.F.args_dict_get_3 _ _ _) (meetsH_dict_get_default (tupleKind (mixKind X.prog X.w)) a b hd r) ⟨tupleKind_room_in1 hu, k, xs, key_of I.hok eb, dd, h _ _ (I.tok _) ?_⟩
    rw [l]
    exact (rel.val k).getD rd
end
def tDGet2 (td ty tx : TE) : TE := fun σ H Q => td σ H fun x H1 => ∃ a, x = .ref a ∧ IsD H1 a ∧ ty σ H1 fun y H2 => tx σ H2 fun z H3 => ∃ o, DGet H3 a y o ∧ Q (o.getD z) H3
section
variable {X : Cx} {o e f : Expr} {apos cpos : Pos} {td ty tx : TE}
theorem pe_dget2 (hu : X.A.units + 1 < cLine) (ho : PE X o td) (he : PE X e ty) (hf : PE X f tx) (m : M2 X o "get" apos e f cpos) : PE X (.Call (.Attribute o "get" apos) [e, f] [] cpos) (tDGet2 td ty tx) := by
  intro pins s σ H Q I h
  refine wpAny_Call_method m.base m.few m.line PySem.F.plainAttrs_dict PySem.F.slot_dict_get PySem.F.type_dict_get (thn (ho pins s σ H _ I h) fun u s1 ⟨x, H1, I1, rx, a, ex, d, q1⟩ => ?_)
  subst ex
  obtain rfl : u = Value.ref a := rx
  obtain ⟨t1, t2, _⟩ := isD_at I1 d
  refine ⟨t1, t2, ?_⟩
  rw [m.trees]
  refine Calls.callWith_builtin rfl (Calls.evalArgs_plain (Calls.spliced_cons (thn (he pins s1 σ H1 _ I1 q1) fun iv s2 ⟨y, H2, I2, ry, q2⟩ =>
    Calls.spliced_cons (thn (hf pins s2 σ H2 _ I2 q2) fun fv s3 ⟨z, H3, I3, rz, ov, g, q3⟩ => Calls.spliced_nil ?_))))
  exact d_get2 hu I3 g ry rz fun w' s4 I4 rw' => ⟨_, H3, I4, rw', q3⟩
end
section
variable {X : Cx} {pins : List (Addr × Obj)} {σ : St} {H : Hp} {s : Shared} {a : Addr} {kvs : List (Key × V)} {A : Around} {E : Value → Shared → Prop}
end
section
variable {X : Cx} {pins : List (Addr × Obj)} {σ : St} {H : Hp} {s : Shared} {a : Addr} {y : V} {u : Value} {A : Around} {E : Value → Shared → Prop}
end
end L2
namespace Att
open PySem PySem.W PySem.Calls PyProof.Rows
theorem ints_of_wellAll {P : Params} {h : Heap} : ∀ (ns : List Int) (vs : List Value), WellAll P h vs (ns.map WData.int) → IntsAre vs ns := by
  intro ns
  induction ns with
  | nil =>
    intro vs w
    rw [List.map_nil] at w
    cases w
    exact .nil
  | cons n ns ih =>
    intro vs w
    rw [List.map_cons] at w
    cases w with
    | cons a b =>
      cases a
      exact .cons _ _ (ih _ b)
theorem script_of {l : OpenLaw} {n : Nat} (hn : l.most = some n) {P : Params} {h : Heap} {args : List WData} {vals : List Value}
    (hpre : l.row.toRowW.claim.pre args = true) (hwl : WellAll P h vals args) :
    ∃ a vs ns, vals = [Value.ref a] ∧ args = [WData.list (ns.map WData.int)] ∧ h.get? a = some { cls := .type "list", data := .seq vs.toArray } ∧ IntsAre vs ns ∧ ns.length ≤ n := by
  have hsh : WShape.hasAll [] args [.list .int] = true := (pre_splitW hpre).1
  have hc : l.pre.holds [] { args := args } = true := (pre_splitW hpre).2
  obtain ⟨d, r, rfl, h1, h2⟩ := hasAllW_cons hsh
  obtain rfl := hasAllW_nil h2
  obtain ⟨xs, rfl, h3⟩ := hasW_list h1
  obtain ⟨ns, rfl⟩ := items_int h3
  have hlen : ns.length ≤ n := by
    unfold OpenLaw.pre at hc
    have h4 : (WTm.not (.lt (.lit (.int (n : Int))) (.len (.arg 0)))).holds [] { args := [.list (ns.map .int)] } = true := by
      have h4 := (holds_andW hc).1
      rw [hn] at h4
      exact h4
    have h5 := condW_of h4 (w_not (w_lt w_lit (w_len_list (w_arg rfl))))
    rw [List.length_map] at h5
    refine Nat.le_of_not_lt fun q => ?_
    have q' : (n : Int) < ((ns.length : Nat) : Int) := by omega
    first
      | (rw [decide_eq_true q'] at h5; exact absurd h5 (by decide))
      | (simp at h5; omega)
  cases hwl with
  | cons w1 w2 =>
    cases w2
    cases w1 with
    | list ho hall => exact ⟨_, _, ns, rfl, rfl, ho, ints_of_wellAll ns _ hall, hlen⟩
theorem post_true (l : OpenLaw) (args : List WData) : l.row.toRowW.claim.post args (.bool true) args = true :=
  postW_of (r := l.row.toRowW) (X := (true == true))
    (show WShape.has [] (.bool true) .bool = true by first | rfl | decide | simp [WShape.has, WShape.arms, WShape.armsAll])
    (show (WTm.eq .res (.lit (.bool true))).value [] { args := args, res := some (.bool true), after := args } = some (.bool (true == true)) from w_eq_bool (w_res rfl) w_lit) rfl
theorem attach_call {l : OpenLaw} {n : Nat} {q : Program} {loose : List Str} {XP : (Str → Option Value) → Heap → Prop} {YP : World → Heap → Prop} {d : DefRec}
    (hn : l.most = some n) (hdf : d.params.defaults = [])
    (call : ∀ (w : World) (s₀ s₁ : Shared) (mg mb : Str → Option Value) (fa : Addr) (o : Obj) (pm cd doc : Value) (a : Addr) (vs : List Value) (ns : List Int),
      Ground q loose [] XP w s₀ mg mb s₁.heap → YP w s₁.heap →
      s₁.heap.get? fa = some o → o.data = .func (docDef d.name d.params d.body d.scope pm cd doc) → s₁.heap.CodeRec cd d.name → mg d.name = some (.ref fa) →
      s₁.heap.get? a = some { cls := .type "list", data := .seq vs.toArray } → IntsAre vs ns → ns.length ≤ n → s₁.gens = #[] →
      codeAny (model l.prog w) callerA (.call (.ref fa) ⟨[.ref a], []⟩) (fun r s' => r = .ok (.ret (.bool true)) ∧ OldK s₁.heap s'.heap ∧ s'.os = s₁.os ∧ AllBare s'.gens) s₁) :
    WalkO q loose XP YP l.row.toRowW d [] (fun f vs => PySem.call f vs) := by
  intro w s₀ s₁ mg mb G Y fa o pm cd doc dV kV ho hd hcd hD hmg hg args vals as hpre hlay hrd hwl hlo
  obtain rfl : dV = .none := Dflts.none hD hdf
  obtain rfl : kV = .none := Dflts.noKw hD
  obtain ⟨a, vs, ns, rfl, rfl, hobj, hints, hlen⟩ := script_of hn hpre hwl
  refine enter_call (codeAny_mono (call w s₀ s₁ mg mb fa o pm cd doc a vs ns G Y ho (fd_plain hd) hcd hmg hobj hints hlen hg) fun r s' hq => ?_)
  obtain ⟨rfl, h2, h3, h4⟩ := hq
  exact ⟨.inl ⟨.bool true, .bool true, [], rfl, fun _ => rfl, .bool true, post_true l _, fun _ => ⟨List.Pairwise.nil, fun _ hm => (nomatch hm)⟩⟩, h2, h3, h4⟩
section
variable {prog : Program} {w : World} {A : Around} {E : Value → Shared → Prop} {s : Shared} {K : Frag}
def ledger (h : Heap) (L d : Addr) : List (Addr × Obj) := (List.range h.objs.size).filterMap fun a => if a = L ∨ a = d then none else (h.get? a).map fun o => (a, o)
end
end Att
namespace L2
open PySem PySem.Spec PyProof.Rows
variable {q0 : Bool}
theorem vals_ints : ∀ {vs : List Value} {ns : List Int}, IntsAre vs ns → Vals (ns.map V.int) vs
  | _, _, .nil => .nil
  | _, _, .cons n t h => .cons ⟨t, rfl⟩ (vals_ints h)
def Only (H : Hp) : Prop := ∀ b, H b = none ∨ ∃ o xs, H b = some (.frz o (.lst xs))
theorem law_call {P : Program} {w : World} {K : PySem.W.Frag} {mg mb : Str → Option Value} {CX : CXT} {k : Nat} {fa a : Addr} {fd : FuncData} {x : Str} {sp : Sp} {s₁ : Shared} {vs : List Value} {ns : List Int}
    (KX : K.In s₁.heap) (hns : s₁.heap.Ns mainGlobals mg) (hb : s₁.heap.Ns builtinsNs mb) (hbb : ∀ x : Str, x ≠ "__name__" → mb x = bootBuiltins x) (hlim : s₁.heap.NoLimit) (hg : s₁.gens = #[])
    (ha : s₁.heap.get? a = some { cls := .type "list", data := .seq vs.toArray }) (hi : IntsAre vs ns) (hl : ns.length ≤ sizeLine) (hr : Room q0 k callerA)
    (F : ∀ base : Heap, K.In base → base.Ns mainGlobals mg → FnOk q0 P w K mg base CX k fa fd [x] sp) (hbind : ∀ (s : Shared) (u : Value), BindsTo s fd ⟨[u], []⟩ [(x, u)])
    (hsp : ∀ H : Hp, Only H → SqL K H a (ns.map V.int) → sp [.ref a] H (fun v _ => v = .bl true) fun _ _ _ => False)
    (hCX : ∀ H e s', CX [] H s₁ (fun _ _ _ => False) e s' → False) :
    codeAny (model P w) callerA (.call (.ref fa) ⟨[.ref a], []⟩) (fun r s' => r = .ok (.ret (.bool true)) ∧ OldK s₁.heap s'.heap ∧ s'.os = s₁.os ∧ AllBare s'.gens) s₁ := by
  have rv := vals_ints hi
  have lenV := hi.length
  -- from an abstract heap in which nothing but the script may be tracked
  have core : ∀ H : Hp, Only H → SqL K H a (ns.map V.int) → HOk P w H s₁.heap → (∀ b, H b ≠ none → b = a) → (H a ≠ none → K.lookup a = none) →
      codeAny (model P w) callerA (.call (.ref fa) ⟨[.ref a], []⟩) (fun r s' => r = .ok (.ret (.bool true)) ∧ OldK s₁.heap s'.heap ∧ s'.os = s₁.os ∧ AllBare s'.gens) s₁ := by
    intro H hO hS hok hA hK
    have base_of : ∀ {b : Addr} {o : Obj}, s₁.heap.get? b = some o → H b = none → (hidT s₁.heap H).get? b = some o := fun e n => hidT_get e n
    have noA : ∀ {b : Addr} {o : Obj} {es : Array DictEntry} {ep : Nat}, s₁.heap.get? b = some o → o.data = .dict es ep → H b = none := fun {b o es ep} e d => by
      cases q : H b with
      | none => rfl
      | some u =>
        have e' : b = a := hA b (by rw [q]; simp)
        subst e'
        rw [ha] at e; cases e
        have d' : Data.seq vs.toArray _ = Data.dict es ep := d
        cases d'
    have nsK : ∀ {b : Addr} {m : Str → Option Value}, s₁.heap.Ns b m → (hidT s₁.heap H).Ns b m := fun {b m} ⟨o, es, ep, e, d, r⟩ => ⟨o, es, ep, base_of e (noA e d), d, r⟩
    have hKb : K.In (hidT s₁.heap H) := fun b o e => base_of (KX b o e) (by
      cases q : H b with
      | none => rfl
      | some u =>
        have e' : b = a := hA b (by rw [q]; simp)
        subst e'
        rw [hK (by rw [q]; simp)] at e; cases e)
    have hM : Mod K mg (hidT s₁.heap H) := ⟨hKb, nsK hns, ⟨mb, nsK hb, hbb⟩, let ⟨mc, h1, h2⟩ := hlim; ⟨mc, nsK h1, h2⟩⟩
    have e0 : Env0 P w K mg (hidT s₁.heap H) callerA [] s₁ H := ⟨rfl, hM, fun b o e => of_hidT e, Nat.le_of_eq (hidT_size _ _), trivial, fun b hb => absurd (show b ∈ ([] : List Addr) from hb) (by simp), hok, .of_eq hg⟩
    refine codeAny_mono ((F _ hKb (nsK hns)).run callerA [] s₁ H ⟨[.ref a], []⟩ [.ref a] [.ref a] _ _ hr e0 (hbind s₁ (.ref a)) (.cons rfl .nil) (hsp H hO hS)) fun r s' h => ?_
    cases r with
    | error e => exact (hCX H e s' h).elim
    | ok fl =>
      cases fl with
      | next => exact False.elim h
      | brk => exact False.elim h
      | cont => exact False.elim h
      | ret u =>
        obtain ⟨v, H', os, bare, un, hok', r', q⟩ := h
        have q' : v = .bl true := q
        subst q'
        obtain rfl : u = Value.bool true := r'
        refine ⟨rfl, OldK.of_keep fun b o e => ?_, os, bare⟩
        cases q : H b with
        | none => exact un.keep b o e q (by intro z; exact absurd (show b ∈ ([] : List Addr) from z) (by simp)) (by simp)
        | some u =>
          rcases hO b with z | ⟨ob, xs, z⟩
          · rw [q] at z; cases z
          · have z2 := un.frzs b ob _ z
            obtain ⟨e1, _⟩ := hok b _ z
            obtain ⟨e2, _⟩ := hok' b _ z2
            rw [e] at e1; cases e1
            exact e2
  cases hk : K.lookup a with
  | some o =>
    -- the script is one of the module's own objects
    have e := KX a o hk
    rw [ha] at e
    cases e
    refine core (fun _ => none) (fun _ => .inl rfl) (.inr ⟨_, vs.toArray, _, hk, rfl, rfl, rfl, by rw [List.size_toArray, lenV]; exact hl, by simpa using rv⟩) (fun b u z => by have z' : (none : Option HO) = some u := z; cases z') (fun b z => absurd rfl z) fun z => absurd rfl z
  | none =>
    refine core (fun b => if b = a then some (.frz { cls := .type "list", data := .seq vs.toArray } (.lst (ns.map V.int))) else none) (fun b => ?_) (.inl (.inr ⟨{ cls := .type "list", data := .seq vs.toArray }, if_pos rfl⟩)) (fun b u z => ?_) (fun b z => ?_) fun _ => hk
    · by_cases hb : b = a
      · exact .inr ⟨_, _, if_pos hb⟩
      · exact .inl (if_neg hb)
    · by_cases hb : b = a
      · have z' := (if_pos hb).symm.trans z
        cases z'
        subst hb
        exact ⟨ha, by rw [List.length_map]; exact hl, vs, _, rv, ha⟩
      · have z' := (if_neg hb).symm.trans z
        cases z'
    · by_cases hb : b = a
      · exact hb
      · exact absurd (if_neg hb) z
end L2
namespace L2
open PySem PySem.Spec PyProof.Rows
variable {q0 : Bool}
abbrev KOf {K : PySem.W.Frag} {h : Heap} (_ : K.In h) : PySem.W.Frag := K
theorem walk_of {l : PySem.W.OpenLaw} {n k : Nat} {q : Program} {loose : List Str} {XP : (Str → Option Value) → Heap → Prop} {YP : World → Heap → Prop} {d : DefRec} {K : Params → PySem.W.Frag} {CX : World → CXT} {sp : World → Sp} {x : Str}
    (hn : l.most = some n) (hn2 : n ≤ sizeLine) (hdf : d.params.defaults = []) (hr : Room q0 k callerA)
    (hY : ∀ (w : World) (h : Heap), YP w h → (K w.params).In h)
    (F : ∀ (w : World) (mg : Str → Option Value) (fa : Addr) (h : Heap), (K w.params).In h → h.Ns mainGlobals mg → mg d.name = some (.ref fa) →
      ∃ fd : FuncData, (∀ (s : Shared) (u : Value), BindsTo s fd ⟨[u], []⟩ [(x, u)]) ∧
        ∀ base : Heap, (K w.params).In base → base.Ns mainGlobals mg → FnOk q0 l.prog w (K w.params) mg base (CX w) k fa fd [x] (sp w))
    (hsp : ∀ (w : World) (H : Hp) (a : Addr) (ns : List Int), ns.length ≤ n → Only H → SqL (K w.params) H a (ns.map V.int) → sp w [.ref a] H (fun v _ => v = .bl true) fun _ _ _ => False)
    (hCX : ∀ (w : World) (H : Hp) (s : Shared) (e : Value) (s' : Shared), CX w [] H s (fun _ _ _ => False) e s' → False) :
    PySem.W.WalkO q loose XP YP l.row.toRowW d [] (fun f vs => PySem.call f vs) := by
  refine Att.attach_call hn hdf fun w s₀ s₁ mg mb fa o pm cd doc a vs ns G Y ho hd hcd hmg hobj hints hlen hg => ?_
  have KX := hY w _ Y
  obtain ⟨fd, hb, hF⟩ := F w mg fa _ KX G.T.g hmg
  exact law_call KX G.T.g G.T.b G.T.builtins G.T.nolimit hg hobj hints (Nat.le_trans hlen hn2) hr hF hb (fun H hO hS => hsp w H a ns hlen hO hS) fun H e s' => hCX w H s₁ e s'
end L2
namespace L2
open PySem PySem.Spec PyProof.Rows
variable {q0 : Bool}
def inClass (s : Stmt) (j : Nat) : Stmt := match s with
  | .ClassDef _ _ _ body _ _ _ _ _ _ _ => body.getD j (.Pass ⟨0, 0, 0, 0⟩)
  | _ => .Pass ⟨0, 0, 0, 0⟩
def defArgs (s : Stmt) : Arguments := match s with
  | .FunctionDef _ a _ _ _ _ _ _ _ _ => a
  | _ => { posonlyargs := [], args := [], vararg := none, kwonlyargs := [], kw_defaults := [], kwarg := none, defaults := [] }
def defBody (s : Stmt) : List Stmt := match s with
  | .FunctionDef _ _ b _ _ _ _ _ _ _ => b
  | _ => []
def defScope (s : Stmt) : Scope := match s with
  | .FunctionDef _ _ _ _ _ _ sc _ _ _ => sc
  | _ => { kind := .function, names := [], isGenerator := false, isCoroutine := false }
abbrev CX0 : CXT := fun _ _ _ _ _ _ => False
structure Fun (K : PySem.W.Frag) (x qual : Str) (st : Stmt) (f : Addr) (fd : FuncData) : Prop where
  ex : ∃ (oc : Value) (od : Option Addr) (kV doc pm : Value) (an : Option Addr) (cdv ct : Value) (osl : Array (Option Value)),
    fd = PySem.W.fnOf x qual (defArgs st) (defBody st) (defScope st) .none kV doc pm an cdv ct ∧ K.lookup f = some ⟨oc, od, .func fd, osl⟩ ∧ PySem.W.codeIn K cdv qual = true
  kp : PySem.W.keepIn K (.ref f) = true
section
variable {P : Program} {w : World} {K : PySem.W.Frag} {mg : Str → Option Value} {base : Heap}
theorem Fun.ok {x qual : Str} {st : Stmt} {f : Addr} {fd : FuncData} {N ps : List Str} {k : Nat} {sp : Sp} (F : Fun K x qual st f fd) (S : FnScope N ps (defScope st)) (len : ∀ vs H Q E, sp vs H Q E → vs.length = ps.length)
    (hbody : ∀ (cdv : Value) (A : Around) (outer : List Env) (s : Shared) (H : Hp) (vs : List V) (Q : VK) (E : XK), Room q0 k (A.deeper (envOfC qual (defScope st) s.heap.objs.size f cdv)) → sp vs H Q E →
      ∃ t, PSs (cxOf q0 CX0 P w K mg base N qual (defScope st) f cdv A outer s H E).nox (defBody st) t ∧ t { nx := fun _ H' => Q .non H', rt := Q } (start N vs) H) : FnOk q0 P w K mg base CX0 (k + 1) f fd ps sp := by
  obtain ⟨oc, od, kV, doc, pm, an, cdv, ct, osl, rfl, lk, hcd⟩ := F.ex
  refine fn_of lk hcd S len fun A outer s H vs Q E hr hsp => ?_
  obtain ⟨t, h, q⟩ := hbody cdv A outer s H vs Q E hr hsp
  exact ⟨t, h.nox, q⟩
theorem Fun.binds {x qual : Str} {st : Stmt} {f : Addr} {fd : FuncData} {ps : List Str} (F : Fun K x qual st f fd)
    (h : ∀ (kV doc pm : Value) (an : Option Addr) (cdv ct : Value) (us : List Value), us.length = ps.length → bindArgs (PySem.W.fnOf x qual (defArgs st) (defBody st) (defScope st) .none kV doc pm an cdv ct) ⟨us, []⟩ = pure (ps.zip us)) : Binds K fd ps [] := by
  obtain ⟨oc, od, kV, doc, pm, an, cdv, ct, osl, rfl, lk, hcd⟩ := F.ex
  exact .all (h kV doc pm an cdv ct)
theorem fun_mk {x qual : Str} {st : Stmt} {f : Addr} {oc : Value} {od an : Option Addr} {osl : Array (Option Value)} {kV doc pm cdv ct : Value} (l : K.lookup f = some ⟨oc, od, .func (PySem.W.fnOf x qual (defArgs st) (defBody st) (defScope st) .none kV doc pm an cdv ct), osl⟩)
    (c : PySem.W.codeIn K cdv qual = true) (k : PySem.W.keepIn K (.ref f) = true) : Fun K x qual st f (PySem.W.fnOf x qual (defArgs st) (defBody st) (defScope st) .none kV doc pm an cdv ct) := ⟨⟨oc, od, kV, doc, pm, an, cdv, ct, osl, rfl, l, c⟩, k⟩
end
theorem hu_of {A : Around} {k : Nat} (hr : Room q0 k A) : A.units + 1 < cLine := Nat.lt_of_le_of_lt (Nat.add_le_add_left (by decide : 1 ≤ 64) _) hr.units
section
variable {X : Cx}
theorem pv (i : Nat) {x : Str} {pos : Pos} (hN : X.N[i]? = some x := by rfl) (hv : Vis X.env.scope x := by first | exact Or.inl rfl | exact Or.inr (Or.inl rfl) | exact Or.inr (Or.inr rfl)) (hd : (x == ("__debug__" : Str)) = false := by decide)
    (hcd : (x == ("__classdict__" : Str)) = false := by decide) : PE X (.Name x pos) (tVar i) := pe_var hN hv hd hcd
end
theorem iteF {A B : Prop} (h : B) : if false = true then A else B := by
  rw [if_neg Bool.false_ne_true]
  exact h
theorem iteT {A B : Prop} (h : A) : if true = true then A else B := by
  rw [if_pos rfl]
  exact h
theorem ite2 {c A B : Prop} [Decidable c] (h1 : c → A) (h2 : ¬ c → B) : if c then A else B := by
  by_cases h : c
  · rw [if_pos h]
    exact h1 h
  · rw [if_neg h]
    exact h2 h
def Same (H H' : Hp) : Prop := ∀ b o, H b = some o → H' b = some o
theorem Same.refl (H : Hp) : Same H H := fun _ _ h => h
theorem Same.trans {H H1 H2 : Hp} (a : Same H H1) (b : Same H1 H2) : Same H H2 := fun c o h => b c o (a c o h)
theorem Same.free {H H' : Hp} (e : Same H H') {l : Addr} (h : H' l = Option.none) : H l = Option.none := by
  cases q : H l with
  | none => rfl
  | some o =>
    rw [e l o q] at h
    cases h
theorem Same.seq {K : PySem.W.Frag} {H H' : Hp} {a : Addr} {xs : List V} (e : Same H H') (h : SqL K H a xs) : SqL K H' a xs := by
  rcases h with (h | ⟨o, h⟩) | h
  · exact .inl (.inl (e _ _ h))
  · exact .inl (.inr ⟨o, e _ _ h⟩)
  · exact .inr h
end L2
namespace Srt
open PySem PySem.W PyProof.Rows
abbrev CM := Nat → Nat → (Bool → Shared → Prop) → Shared → Prop
abbrev g (p : Array Nat) (i : Nat) : Nat := p.getD i 0
structure Ord (n : Nat) (lt : Nat → Nat → Bool) : Prop where
  irr : ∀ i, i < n → lt i i = false
  tr : ∀ i j k, i < n → j < n → k < n → lt i j = true → lt j k = true → lt i k = true
  tot : ∀ i j, i < n → j < n → i ≠ j → lt i j = false → lt j i = true
def Cmp (n : Nat) (lt : Nat → Nat → Bool) (cmp : CM) (s : Shared) : Prop := ∀ i j, i < n → j < n → ∀ Q : Bool → Shared → Prop, Q (lt i j) s → cmp i j Q s
theorem wp_ret {α : Type} {cmp : CM} {a : α} {Q : α → Shared → Prop} {s : Shared} (h : Q a s) : KasT.kasWp cmp (.ret a) Q s := h
theorem wp_ask {α : Type} {cmp : CM} {i j : Nat} {k : Bool → KasT α} {Q : α → Shared → Prop} {s : Shared} (h : cmp i j (fun c s' => KasT.kasWp cmp (k c) Q s') s) : KasT.kasWp cmp (.ask i j k) Q s := h
theorem asc_0 {p : Array Nat} {n : Nat} : kas_asc p 0 n = .ret n := by unfold kas_asc; rfl
theorem asc_s {p : Array Nat} {f n : Nat} : kas_asc p (f + 1) n = .ask (p.getD n 0) (p.getD (n - 1) 0) fun c => if c = true then .ret n else kas_asc p f (n + 1) := by rw [kas_asc]
theorem bin_0 {p : Array Nat} {k : Nat} : kas_bin 0 p k = .ret p := by unfold kas_bin; rfl
theorem bin_s {f : Nat} {p : Array Nat} {k : Nat} : kas_bin (f + 1) p k = (kas_place p k k 0 k).bind fun l => kas_bin f (bubble p k (k - l)) (k + 1) := by rw [kas_bin]
theorem place_0 {p : Array Nat} {k l r : Nat} : kas_place p k 0 l r = .ret l := by unfold kas_place; rfl
theorem place_s {p : Array Nat} {k f l r : Nat} : kas_place p k (f + 1) l r = if l ≥ r then .ret l else .ask (p.getD k 0) (p.getD ((l + r) / 2) 0) fun c => if c = true then kas_place p k f l ((l + r) / 2) else kas_place p k f ((l + r) / 2 + 1) r := by rw [kas_place]
theorem desc_0 {p : Array Nat} {k l : Nat} : kas_desc 0 p k l = .ret (p, k, l) := by unfold kas_desc; rfl
theorem desc_s {f : Nat} {p : Array Nat} {k l : Nat} : kas_desc (f + 1) p k l = .ask (p.getD k 0) (p.getD (k - 1) 0) fun c => if c = true then (if l > 0 then kas_desc f (kas_rev p (k - (l + 1)) k) (k + 1) 0 else kas_desc f p (k + 1) 0) else .ask (p.getD (k - 1) 0) (p.getD k 0) fun d => if d = true then .ret (p, k, l) else kas_desc f p (k + 1) (l + 1) := by rw [kas_desc]
section
variable {n : Nat} {lt : Nat → Nat → Bool} {cmp : CM} {s : Shared}
structure Arr (n : Nat) (p : Array Nat) : Prop where
  sz : p.size = n
  lt : ∀ i, i < n → g p i < n
  inj : ∀ i j, i < n → j < n → g p i = g p j → i = j
  pm : p.Perm (List.range n).toArray
theorem g_at {p : Array Nat} {i : Nat} {v : Nat} (h : p[i]? = some v) : g p i = v := by
  show p.getD i 0 = v
  rw [Array.getD_eq_getD_getElem?, h]
  rfl
theorem Arr.at {p : Array Nat} (a : Arr n p) {i : Nat} (h : i < n) : p[i]? = some (g p i) := by
  have z : i < p.size := by rw [a.sz]; exact h
  have e : p[i]? = some p[i] := Array.getElem?_eq_getElem z
  rw [e, g_at e]
def Srtd (lt : Nat → Nat → Bool) (p : Array Nat) (m : Nat) : Prop := ∀ i j, i < j → j < m → lt (g p i) (g p j) = true
theorem srt_adj (o : Ord n lt) {p : Array Nat} (a : Arr n p) {m : Nat} (hm : m ≤ n) (h : ∀ i, 1 ≤ i → i < m → lt (g p (i - 1)) (g p i) = true) : Srtd lt p m := by
  intro i j hij hj
  obtain ⟨d, rfl⟩ : ∃ d, j = i + 1 + d := ⟨j - (i + 1), by omega⟩
  induction d with
  | zero => exact h (i + 1) (by omega) hj
  | succ d ih =>
    have h1 := ih (by omega) (by omega)
    have h2 := h (i + 1 + (d + 1)) (by omega) hj
    exact o.tr _ _ _ (a.lt _ (by omega)) (a.lt _ (by omega)) (a.lt _ (by omega)) h1 h2
theorem asc_wp (c : Cmp n lt cmp s) {p : Array Nat} (a : Arr n p) {G : Nat → Shared → Prop} : ∀ (f k : Nat), 1 ≤ k → k + f ≤ n →
    (∀ m, k ≤ m → m ≤ k + f → (∀ i, k ≤ i → i < m → lt (g p i) (g p (i - 1)) = false) → (m < k + f → lt (g p m) (g p (m - 1)) = true) → G m s) → KasT.kasWp cmp (kas_asc p f k) G s
  | 0, k, h1, hf, hG => by
    rw [asc_0]
    exact wp_ret (hG k (Nat.le_refl _) (by omega) (fun i h h' => by omega) (fun h => by omega))
  | f + 1, k, h1, hf, hG => by
    rw [asc_s]
    refine wp_ask (c _ _ (a.lt k (by omega)) (a.lt (k - 1) (by omega)) _ ?_)
    cases e : lt (g p k) (g p (k - 1)) with
    | true =>
      exact wp_ret (hG k (Nat.le_refl _) (by omega) (fun i h h' => by omega) (fun _ => e))
    | false =>
      show KasT.kasWp cmp (kas_asc p f (k + 1)) G s
      refine asc_wp c a f (k + 1) (by omega) (by omega) fun m hm hm2 h3 h4 => hG m (by omega) (by omega) (fun i hi hi2 => ?_) (fun h => h4 (by omega))
      by_cases z : i = k
      · rw [z]; exact e
      · exact h3 i (by omega) hi2
theorem desc_wp (o : Ord n lt) (c : Cmp n lt cmp s) {p : Array Nat} (a : Arr n p) {G : Array Nat × Nat × Nat → Shared → Prop} : ∀ (f k : Nat), 1 ≤ k → k + f ≤ n →
    (∀ m, k ≤ m → m ≤ k + f → (∀ i, k ≤ i → i < m → lt (g p i) (g p (i - 1)) = true) → G (p, m, 0) s) → KasT.kasWp cmp (kas_desc f p k 0) G s
  | 0, k, h1, hf, hG => by
    rw [desc_0]
    exact wp_ret (hG k (Nat.le_refl _) (by omega) (fun i h h' => by omega))
  | f + 1, k, h1, hf, hG => by
    rw [desc_s]
    refine wp_ask (c _ _ (a.lt k (by omega)) (a.lt (k - 1) (by omega)) _ ?_)
    cases e : lt (g p k) (g p (k - 1)) with
    | true =>
      show KasT.kasWp cmp (kas_desc f p (k + 1) 0) G s
      refine desc_wp o c a f (k + 1) (by omega) (by omega) fun m hm hm2 h3 => hG m (by omega) (by omega) fun i hi hi2 => ?_
      by_cases z : i = k
      · rw [z]; exact e
      · exact h3 i (by omega) hi2
    | false =>
      refine wp_ask (c _ _ (a.lt (k - 1) (by omega)) (a.lt k (by omega)) _ ?_)
      have ne : g p k ≠ g p (k - 1) := fun z => by have := a.inj _ _ (by omega) (by omega) z; omega
      rw [show lt (p.getD (k - 1) 0) (p.getD k 0) = true from o.tot _ _ (a.lt k (by omega)) (a.lt (k - 1) (by omega)) ne e]
      exact wp_ret (hG k (Nat.le_refl _) (by omega) (fun i h h' => by omega))
theorem Arr.rev {p : Array Nat} (a : Arr n p) {k : Nat} (hk : k ≤ n) : Arr n (kas_rev p 0 k) ∧ ∀ i, i < n → g (kas_rev p 0 k) i = if i < k then g p (k - 1 - i) else g p i := by
  have ge : ∀ i, i < n → g (kas_rev p 0 k) i = if i < k then g p (k - 1 - i) else g p i := fun i hi => by
    have z := getElem?_mirror_all (xs := p) (i := 0) (j := k) (by rw [a.sz]; exact hk) i
    by_cases c : i < k
    · rw [if_pos c]
      rw [if_pos ⟨Nat.zero_le _, c⟩, show 0 + k - 1 - i = k - 1 - i by omega, a.at (show k - 1 - i < n by omega)] at z
      exact g_at z
    · rw [if_neg c]
      rw [if_neg (fun w => c w.2), a.at hi] at z
      exact g_at z
  refine ⟨⟨by rw [kas_rev_size, a.sz], fun i hi => ?_, fun i j hi hj e => ?_, (mirror_perm _ _ _ _).trans a.pm⟩, ge⟩
  · rw [ge i hi]
    split <;> exact a.lt _ (by omega)
  · rw [ge i hi, ge j hj] at e
    split at e <;> split at e <;> have := a.inj _ _ (by omega) (by omega) e <;> omega
theorem count_wp (o : Ord n lt) (c : Cmp n lt cmp s) {p : Array Nat} (a : Arr n p) (h2 : 2 ≤ n) {G : Nat × Array Nat → Shared → Prop}
    (hG : ∀ m p', 1 ≤ m → m ≤ n → Arr n p' → Srtd lt p' m → G (m, p') s) : KasT.kasWp cmp (kas_count n p) G s := by
  unfold kas_count
  rw [KasT.kasWp_bind]
  have up : ∀ q, Arr n q → ∀ i, 1 ≤ i → i < n → lt (g q i) (g q (i - 1)) = false → lt (g q (i - 1)) (g q i) = true := fun q b i h1 hi e =>
    o.tot _ _ (b.lt i hi) (b.lt (i - 1) (by omega)) (fun z => by have := b.inj _ _ hi (by omega) z; omega) e
  refine asc_wp c a (n - 1) 1 (Nat.le_refl _) (by omega) fun m hm hm2 h3 h4 => ?_
  have sm : Srtd lt p m := srt_adj o a (by omega) fun i hi hi2 => up p a i hi (by omega) (h3 i hi hi2)
  show KasT.kasWp cmp (if (m == n) = true then _ else _) G s
  by_cases e1 : m = n
  · rw [if_pos (by simpa using e1)]
    exact wp_ret (hG m p hm (by omega) a sm)
  · rw [if_neg (by simpa using e1)]
    by_cases e2 : m > 1
    · rw [if_pos e2]
      refine wp_ask (c _ _ (a.lt 0 (by omega)) (a.lt (m - 1) (by omega)) _ ?_)
      rw [show lt (p.getD 0 0) (p.getD (m - 1) 0) = true from sm 0 (m - 1) (by omega) (by omega)]
      exact wp_ret (hG m p hm (by omega) a sm)
    · rw [if_neg e2]
      have m1 : m = 1 := by omega
      subst m1
      have d1 := h4 (by omega)
      unfold kas_descPart
      rw [KasT.kasWp_bind]
      refine desc_wp o c a (n - (1 + 1)) (1 + 1) (by omega) (by omega) fun k hk hk2 h5 => ?_
      show KasT.kasWp cmp (if (0 : Nat) > 0 then _ else kas_tail3 k n p) G s
      rw [if_neg (Nat.lt_irrefl 0)]
      unfold kas_tail3
      rw [KasT.kasWp_bind]
      obtain ⟨b, ge⟩ := a.rev (k := k) (by omega)
      refine asc_wp c b (n - k) k (by omega) (by omega) fun m' hm' hm2' h6 _ => ?_
      refine wp_ret (hG m' _ (by omega) (by omega) b (srt_adj o b (by omega) fun i hi hi2 => ?_))
      by_cases ik : i < k
      · rw [ge i (by omega), ge (i - 1) (by omega), if_pos ik, if_pos (by omega)]
        have e3 : k - 1 - (i - 1) - 1 = k - 1 - i := by omega
        by_cases z : k - 1 - (i - 1) = 1
        · have z' : k - 1 - i = 0 := by omega
          rw [z, z']
          exact d1
        · have := h5 (k - 1 - (i - 1)) (by omega) (by omega)
          rw [e3] at this
          exact this
      · exact up _ b i hi (by omega) (h6 i (by omega) hi2)
theorem place_wp (o : Ord n lt) (c : Cmp n lt cmp s) {p : Array Nat} (a : Arr n p) {k : Nat} (hk : k < n) (sk : Srtd lt p k) {G : Nat → Shared → Prop} : ∀ (f l r : Nat), l ≤ r → r ≤ k → r - l ≤ f →
    (∀ j, j < l → lt (g p k) (g p j) = false) → (∀ j, r ≤ j → j < k → lt (g p k) (g p j) = true) →
    (∀ m, m ≤ k → (∀ j, j < m → lt (g p k) (g p j) = false) → (∀ j, m ≤ j → j < k → lt (g p k) (g p j) = true) → G m s) → KasT.kasWp cmp (kas_place p k f l r) G s
  | 0, l, r, h1, h2, h3, lo, hi, hG => by
    rw [place_0]
    exact wp_ret (hG l (by omega) lo fun j hj hj2 => hi j (by omega) hj2)
  | f + 1, l, r, h1, h2, h3, lo, hi, hG => by
    rw [place_s]
    by_cases e : l ≥ r
    · rw [if_pos e]
      exact wp_ret (hG l (by omega) lo fun j hj hj2 => hi j (by omega) hj2)
    · rw [if_neg e]
      have m1 : (l + r) / 2 < r := by omega
      have m2 : l ≤ (l + r) / 2 := by omega
      refine wp_ask (c _ _ (a.lt k hk) (a.lt _ (by omega)) _ ?_)
      cases e2 : lt (g p k) (g p ((l + r) / 2)) with
      | true =>
        show KasT.kasWp cmp (kas_place p k f l ((l + r) / 2)) G s
        refine place_wp o c a hk sk f l _ m2 (by omega) (by omega) lo (fun j hj hj2 => ?_) hG
        by_cases z : j = (l + r) / 2
        · rw [z]; exact e2
        · exact o.tr _ _ _ (a.lt k hk) (a.lt _ (by omega)) (a.lt _ (by omega)) e2 (sk _ _ (by omega) hj2)
      | false =>
        show KasT.kasWp cmp (kas_place p k f ((l + r) / 2 + 1) r) G s
        refine place_wp o c a hk sk f _ r (by omega) h2 (by omega) (fun j hj => ?_) hi hG
        by_cases z : j = (l + r) / 2
        · rw [z]; exact e2
        · cases e3 : lt (g p k) (g p j) with
          | false => rfl
          | true =>
            have := o.tr _ _ _ (a.lt k hk) (a.lt _ (by omega)) (a.lt _ (by omega)) e3 (sk j ((l + r) / 2) (by omega) (by omega))
            rw [e2] at this
            cases this
theorem Arr.bub {p : Array Nat} (a : Arr n p) {k m : Nat} (hk : k < n) (hm : m ≤ k) : Arr n (bubble p k (k - m)) ∧ ∀ i, i < n → g (bubble p k (k - m)) i = if i = m then g p k else if m < i ∧ i ≤ k then g p (i - 1) else g p i := by
  have ge : ∀ i, i < n → g (bubble p k (k - m)) i = if i = m then g p k else if m < i ∧ i ≤ k then g p (i - 1) else g p i := fun i hi => by
    have z := getElem?_bubble (xs := p) (src := k) (by rw [a.sz]; exact hk) (k - m) (by omega) i
    rw [show k - (k - m) = m by omega] at z
    by_cases c : i = m
    · rw [if_pos c]
      rw [if_pos c, a.at hk] at z
      exact g_at z
    · rw [if_neg c]
      rw [if_neg c] at z
      by_cases d : m < i ∧ i ≤ k
      · rw [if_pos d]
        rw [if_pos d, a.at (show i - 1 < n by omega)] at z
        exact g_at z
      · rw [if_neg d]
        rw [if_neg d, a.at hi] at z
        exact g_at z
  refine ⟨⟨by rw [bubble_size, a.sz], fun i hi => ?_, fun i j hi hj e => ?_, (bubble_perm _ _ _).trans a.pm⟩, ge⟩
  · rw [ge i hi]
    split
    · exact a.lt _ hk
    · split <;> exact a.lt _ (by omega)
  · rw [ge i hi, ge j hj] at e
    split at e <;> (try split at e) <;> (try split at e) <;> (try split at e) <;> first | omega | (have := a.inj _ _ (by omega) (by omega) e; omega)
theorem bin_wp (o : Ord n lt) (c : Cmp n lt cmp s) {G : Array Nat → Shared → Prop} : ∀ (f k : Nat) (p : Array Nat), k + f = n → Arr n p → Srtd lt p k → (∀ p', Arr n p' → Srtd lt p' n → G p' s) → KasT.kasWp cmp (kas_bin f p k) G s
  | 0, k, p, h, a, sk, hG => by
    rw [bin_0]
    have : k = n := by omega
    subst this
    exact wp_ret (hG p a sk)
  | f + 1, k, p, h, a, sk, hG => by
    have hk : k < n := by omega
    rw [bin_s, KasT.kasWp_bind]
    refine place_wp o c a hk sk k 0 k (Nat.zero_le _) (Nat.le_refl _) (by omega) (fun j hj => by omega) (fun j hj hj2 => by omega) fun m hm lo hi => ?_
    obtain ⟨b, ge⟩ := a.bub hk hm
    refine bin_wp o c f (k + 1) _ (by omega) b (fun i j hij hj => ?_) hG
    have inS : ∀ i, i < m → lt (g p i) (g p k) = true := fun i hi' => o.tot _ _ (a.lt k hk) (a.lt i (by omega)) (fun z => by have := a.inj _ _ hk (by omega) z; omega) (lo i hi')
    have g1 : ∀ i, i < n → i = m → g (bubble p k (k - m)) i = g p k := fun i hi z => by rw [ge i hi, if_pos z]
    have g2 : ∀ i, i < n → m < i → i ≤ k → g (bubble p k (k - m)) i = g p (i - 1) := fun i hi z z2 => by rw [ge i hi, if_neg (by omega), if_pos ⟨z, z2⟩]
    have g3 : ∀ i, i < n → i < m → g (bubble p k (k - m)) i = g p i := fun i hi z => by rw [ge i hi, if_neg (by omega), if_neg (by omega)]
    by_cases j1 : j = m
    · rw [g1 j (by omega) j1, g3 i (by omega) (by omega)]
      exact inS i (by omega)
    · by_cases i1 : i = m
      · rw [g1 i (by omega) i1, g2 j (by omega) (by omega) (by omega)]
        exact hi (j - 1) (by omega) (by omega)
      · by_cases j2 : m < j
        · rw [g2 j (by omega) j2 (by omega)]
          by_cases i2 : m < i
          · rw [g2 i (by omega) i2 (by omega)]
            exact sk _ _ (by omega) (by omega)
          · rw [g3 i (by omega) (by omega)]
            by_cases z : i = j - 1
            · omega
            · exact sk _ _ (by omega) (by omega)
        · rw [g3 j (by omega) (by omega), g3 i (by omega) (by omega)]
          exact sk _ _ hij (by omega)
theorem arr_range : Arr n (List.range n).toArray := by
  have e : ∀ i, i < n → g (List.range n).toArray i = i := fun i hi => g_at (by rw [List.getElem?_toArray, List.getElem?_range hi])
  exact ⟨by simp, fun i hi => by rw [e i hi]; exact hi, fun i j hi hj z => by rw [e i hi, e j hj] at z; exact z, Array.Perm.refl _⟩
theorem sort_wp (o : Ord n lt) (c : Cmp n lt cmp s) (h2 : 2 ≤ n) {G : Array Nat → Shared → Prop} (hG : ∀ p, Arr n p → Srtd lt p n → G p s) : KasT.kasWp cmp (kas_sort n) G s := by
  unfold kas_sort
  rw [KasT.kasWp_bind]
  refine count_wp o c arr_range h2 fun m p hm hm2 a sm => ?_
  show KasT.kasWp cmp (if m < n then _ else _) G s
  by_cases e : m < n
  · rw [if_pos e]
    show KasT.kasWp cmp (kas_bin (n - max m 1) p (max m 1)) G s
    rw [Nat.max_eq_left hm]
    exact bin_wp o c (n - m) m p (by omega) a sm hG
  · rw [if_neg e]
    have : m = n := by omega
    subst this
    exact wp_ret (hG p a sm)
end
end Srt
set_option maxRecDepth 100000
namespace XL
open PySem
def Xat (h : Heap) (e : Addr) (cls : Value) (od tb : Option Addr) : Prop :=
  ∃ oe vs, h.get? e = some oe ∧ oe.cls = cls ∧ oe.dict = od ∧ oe.data = .fields vs ∧ 1 < vs.size ∧
    ((tb = none ∧ vs[1]? = some Value.none) ∨ ∃ T oT ts, tb = some T ∧ vs[1]? = some (.ref T) ∧ T ≠ e ∧ h.get? T = some oT ∧ oT.data = .fields ts ∧ ts[3]? = some Value.none)
structure Stp (fs : List Addr) (e : Addr) (tb : Option Addr) (h h' : Heap) : Prop where
  keep : ∀ b o, h.get? b = some o → b ≠ e → tb ≠ some b → b ∉ fs → h'.get? b = some o
  slot : ∀ b o, h.get? b = some o → b ∈ fs → ∃ sl, h'.get? b = some { o with slots := sl }
abbrev frsOf (l : List Env) : List Addr := l.filterMap (·.frame)
theorem dict_mapF (o : Obj) (f : Array Value → Array Value) : (o.mapFields f).dict = o.dict := by
  obtain ⟨c, d, dt, sl⟩ := o
  cases dt <;> rfl
section
variable {M : Model} {A : Around} {E : Value → Shared → Prop} {s : Shared}
theorem entry_x {base : Heap} {env : Env} {outer : List Env} {L e : Addr} {oe : Obj} {vs : Array Value} {hd : Value} {nx : Bool} {cls : Value} {od tb : Option Addr} {g : Heap} {Q : Unit → Shared → Prop}
    (fr : A.frames = some (env :: outer)) (ff : s.heap.FunFrames base (env :: outer)) (fL : env.frame = some L)
    (ge : s.heap.get? e = some oe) (de : oe.data = .fields vs) (se : 1 < vs.size) (ce : oe.cls = cls) (oo : oe.dict = od)
    (st : Stp (frsOf (env :: outer)) e tb g s.heap) (sz : g.objs.size ≤ s.heap.objs.size)
    (k : ∀ h' T, Stp (frsOf (env :: outer)) e tb g h' → g.objs.size ≤ T → Xat h' e cls od (some T) → Q () { s with heap := h' }) :
    wpAny M A (do let a ← frameOf env; let pl ← entryPlaceOf L nx; let b ← EntryCells.newEntry hd a .none (rawInt L) .none pl; setField (.ref e) 1 b) (fun _ s' => wpAny M A (setFlight (.ref e) none) Q E s') E s := by
  have nef : e ∉ frsOf (env :: outer) := fun hm => by
    obtain ⟨_, o, ho, hnf⟩ := ff.mem hm
    have z := ge.symm.trans ho
    cases z
    exact hnf vs de
  refine wpAny_bind (wpAny_frameOf_fun fr ff fL fun h1 so => ?_)
  refine wpAny_bind (wpAny_entryPlaceOf fun pl ip => ?_)
  unfold EntryCells.newEntry newFields
  refine wpAny_bind (wpAny_newObj_type ?_ (ip.sizeOk5 _ _ _ _ _))
  have e1 : h1.get? e = some oe := (so.2.1 e nef).trans ge
  generalize eT : ({ cls := .type "traceback", dict := none, data := .fields ([hd, .ref L, .none, rawInt L, .none] ++ (if pl.isEmpty then List.replicate 6 Value.none else pl)).toArray } : Obj) = oT
  have dT : oT.data = .fields ([hd, .ref L, .none, rawInt L, .none] ++ (if pl.isEmpty then List.replicate 6 Value.none else pl)).toArray := by rw [← eT]
  have fT : oT.isFreed = false := by rw [← eT]; rfl
  have e2 : (h1.push oT).get? e = some oe := Heap.get?_push_of_some oT e1
  refine wpAny_setField e2 de se ?_
  have nTe : h1.objs.size ≠ e := Nat.ne_of_gt (Heap.lt_size e1)
  have d3 := Obj.data_mapFields de (·.setIfInBounds 1 (Value.ref h1.objs.size))
  have e3 := Heap.get?_update_self (Obj.mapFields (·.setIfInBounds 1 (Value.ref h1.objs.size))) e2 (Obj.isFreed_of_fields d3)
  have T3 : ((h1.push oT).update e (Obj.mapFields (·.setIfInBounds 1 (Value.ref h1.objs.size)))).get? h1.objs.size = some oT :=
    (Heap.get?_update_other (h1.push oT) _ (Ne.symm nTe)).trans (Heap.get?_push_size h1 fT)
  unfold setFlight
  refine wpAny_bind (wpAny_field e3 d3 (x := .ref h1.objs.size) (by simp [se]) ?_)
  rw [if_pos (show (Value.ref h1.objs.size != Value.none) = true from by simp)]
  refine wpAny_setField T3 dT (by simp only [List.size_toArray, List.length_append, List.length_cons, List.length_nil] <;> omega) (k _ h1.objs.size ?_ ?_ ?_)
  · have go : ∀ b o, b ≠ e → h1.get? b = some o → (((h1.push oT).update e (Obj.mapFields (·.setIfInBounds 1 (Value.ref h1.objs.size)))).update h1.objs.size
        (Obj.mapFields (·.setIfInBounds 3 ((none : Option Addr).elim Value.none fun f => rawInt f)))).get? b = some o := fun b o be hb => by
      have bT : h1.objs.size ≠ b := Nat.ne_of_gt (Heap.lt_size hb)
      rw [Heap.get?_update_other _ _ bT, Heap.get?_update_other _ _ (Ne.symm be)]
      exact Heap.get?_push_of_some oT hb
    refine ⟨fun b o hb be bt bf => go b o be ((so.2.1 b bf).trans (st.keep b o hb be bt bf)), fun b o hb bf => ?_⟩
    obtain ⟨sl, h2⟩ := st.slot b o hb bf
    obtain ⟨sl2, h3⟩ := so.2.2 b _ h2
    exact ⟨sl2, go b _ (fun z => nef (z ▸ bf)) h3⟩
  · rw [so.1]; exact sz
  · refine ⟨_, _, ?_, (Obj.cls_mapFields _ _).trans ce, (dict_mapF _ _).trans oo, d3, by simp [se], .inr ⟨h1.objs.size, _, _, rfl, by simp [se], nTe, Heap.get?_update_self _ T3 (Obj.isFreed_of_fields (Obj.data_mapFields dT _)), Obj.data_mapFields dT _, ?_⟩⟩
    · rw [Heap.get?_update_other _ _ nTe]
      exact e3
    · first | (simp; done) | (rcases ip with rfl | ⟨_, _, _, _, _, _, _, rfl⟩ <;> simp)
theorem note_x {base : Heap} {env : Env} {outer : List Env} {L e : Addr} {cls : Value} {od tb : Option Addr} {Q : Unit → Shared → Prop}
    (fr : A.frames = some (env :: outer)) (ff : s.heap.FunFrames base (env :: outer)) (fL : env.frame = some L) (x : Xat s.heap e cls od tb)
    (k : ∀ h' T, Stp (frsOf (env :: outer)) e tb s.heap h' → s.heap.objs.size ≤ T → Xat h' e cls od (some T) → Q () { s with heap := h' }) :
    wpAny M A (noteFrame (.ref e) env) (fun _ s' => wpAny M A (setFlight (.ref e) none) Q E s') E s := by
  obtain ⟨oe, vs, ge, ce, oo, de, se, y⟩ := x
  unfold noteFrame
  simp only [fL]
  rcases y with ⟨rfl, h1⟩ | ⟨T, oT, ts, rfl, h1, nTe, gT, dT, h3⟩
  · refine wpAny_bind (wpAny_field ge de h1 ?_)
    rw [if_neg (by decide)]
    exact entry_x fr ff fL ge de se ce oo ⟨fun b o hb _ _ _ => hb, fun b o hb _ => ⟨o.slots, hb⟩⟩ (Nat.le_refl _) k
  · refine wpAny_bind (wpAny_field ge de h1 ?_)
    rw [if_pos (show (Value.ref T != Value.none) = true from by simp)]
    refine wpAny_bind (wpAny_field gT dT h3 ?_)
    rw [if_neg (show ¬ ((Value.none == rawInt L) = true) from by simp [rawInt])]
    refine wpAny_bind (wpAny_setField gT dT (Array.getElem?_eq_some_iff.mp h3).1 ?_)
    have ot : ∀ b, b ≠ T → (s.heap.update T (Obj.mapFields (·.setIfInBounds 3 Value.none))).get? b = s.heap.get? b := fun b hb => Heap.get?_update_other _ _ (Ne.symm hb)
    have nr : ∀ b o, s.heap.get? b = some o → (∀ vs, o.data ≠ .fields vs) → b ≠ T := fun b o hb hn q => by
      rw [q] at hb
      have z := gT.symm.trans hb
      cases z
      exact hn ts dT
    refine entry_x (g := s.heap) fr (ff.of_keeps fun b o hb hn => ⟨o, (ot b (nr b o hb hn)).trans hb, rfl⟩) fL ((ot e (Ne.symm nTe)).trans ge) de se ce oo
      ⟨fun b o hb _ bt _ => (ot b fun z => bt (congrArg some z.symm)).trans hb, fun b o hb bf => ⟨o.slots, ?_⟩⟩ (Nat.le_of_eq (Heap.size_after_update ..).symm) k
    · obtain ⟨_, o', ho', hn⟩ := ff.mem bf
      have z := hb.symm.trans ho'
      cases z
      exact (ot b (nr b _ hb hn)).trans hb
end
end XL
set_option maxRecDepth 100000
namespace XL
open PySem
section
variable {prog : Program} {w : World} {A : Around} {E : Value → Shared → Prop} {h : Heap} {g : Array GenState} {d : Drawn} {t : Nat} {os : OsState}
variable {nm qn : Str} {C N : Addr} {bs bm bmB : List Value} {hz : Bool} {sn : List Str} {sub : List Value} {ab : Bool} {col : Option Bool} {dd : Option Addr} {k0 k1 k2 k3 k5 : Option Value} {B ni ii : String}
theorem tcall_xinit (F : ExcBaseFacts B ni ii bmB) (T : OwnTail h bmB bm) {us : List Value} {fI : Addr} {oI : Obj} {Q : Fin → Shared → Prop}
    (gC : h.get? C = some (excClassObj nm qn C N bs bm hz sn sub ab col dd k0 k1 k2 k3 k5 ni))
    (hi : ∀ (A' : Around) (Q' : Option Value → Shared → Prop) (E' : Value → Shared → Prop) (s' : Shared), (∀ b o, h.get? b = some o → s'.heap.get? b = some o) → Q' (some (.ref fI)) s' → wpAny (model prog w) A' (typeLookup (.ref C) "__init__") Q' E' s')
    (gI : h.get? fI = some oI) (cI : oI.cls = .type "function") (lu : us.length ≤ sizeLine)
    (k : ∀ h' e, Heap.MadeExcOf h h' e (.ref C) us → h.objs.size ≤ e →
      wpAny (model prog w) A (call (.ref fI) (.ref e :: us)) (fun r s' => r = .none ∧ Q (.done (.ret (.ref e))) s') E ⟨h', g, d, t, os⟩) :
    wpAny (model prog w) A (Builtin.«type.__call__» ⟨.ref C :: us, []⟩) Q E ⟨h, g, d, t, os⟩ := by
  repeat (first | with_reducible refine wpAny_loadPart_at gC ?_ | with_reducible refine wpAny_madeBy_exc gC ?_ | wp_step)
  refine codeAny_call_builtin_code (Code.quiet_builtin _ F.quiet) (wpAny_check_new_subT F T gC ?_)
  refine codeAny_exc_new_subT F T gC ?_ lu
  show wpAny _ _ _ _ _ _
  generalize e1 : ({ cls := .type "tuple", data := .seq us.toArray } : Obj) = oT
  have fT : oT.isFreed = false := by rw [← e1]; rfl
  generalize e2 : ({ cls := .ref C, data := .fields #[.ref h.objs.size, .none, .none, .none, .bool false, .none] } : Obj) = oE
  have fE : oE.isFreed = false := by rw [← e2]; rfl
  have up : ∀ b o, h.get? b = some o → ((h.push oT).push oE).get? b = some o := fun b o q => Heap.get?_push_of_some oE (Heap.get?_push_of_some oT q)
  have gC' := up _ _ gC
  have gI' := up _ _ gI
  have gE : ((h.push oT).push oE).get? (h.objs.size + 1) = some oE := by
    have z := Heap.get?_push_size (h.push oT) fE
    rwa [Heap.size_push] at z
  have cE : oE.cls = .ref C := by rw [← e2]
  have me : (Value.ref C :: bm).contains (.ref C) = true := by simp
  unfold isInstance
  repeat (first | (with_reducible refine wpAny_loadPart_at gE ?_; rw [cE]) | (with_reducible refine wpAny_isSubtype_exc gC' ?_; rw [me]) | wp_step)
  show wpAny _ _ (typeLookup (.ref C) _) _ _ _
  refine hi _ _ _ _ up ?_
  refine wpAny_holding (wpAny_bind ?_)
  unfold bindSpecial
  refine wpAny_bind (wpAny_typeOf (T := "function") ⟨_, gI', cI⟩ ?_)
  rw [if_pos (by decide)]
  refine wpAny_pure (wpAny_bind (wpAny_mono (k _ (h.objs.size + 1) ⟨up, Heap.get?_none_of_le (Nat.le_succ _), h.objs.size, ?_, Heap.get?_none_of_le (Nat.le_refl _), ?_⟩ (Nat.le_succ _)) (fun r s' z => ?_) fun _ _ x => x))
  · rw [e2]; exact gE
  · rw [e1]; exact Heap.get?_push_of_some oE (Heap.get?_push_size h fT)
  · obtain ⟨rfl, z⟩ := z
    wp_walk
    exact z
theorem call_xinit (F : ExcBaseFacts B ni ii bmB) (T : OwnTail h bmB bm) {us : List Value} {fI : Addr} {oI : Obj} {Q : Value → Shared → Prop}
    (gC : h.get? C = some (excClassObj nm qn C N bs bm hz sn sub ab col dd k0 k1 k2 k3 k5 ni))
    (hi : ∀ (A' : Around) (Q' : Option Value → Shared → Prop) (E' : Value → Shared → Prop) (s' : Shared), (∀ b o, h.get? b = some o → s'.heap.get? b = some o) → Q' (some (.ref fI)) s' → wpAny (model prog w) A' (typeLookup (.ref C) "__init__") Q' E' s')
    (gI : h.get? fI = some oI) (cI : oI.cls = .type "function") (lu : us.length ≤ sizeLine)
    (k : ∀ h' e, Heap.MadeExcOf h h' e (.ref C) us → h.objs.size ≤ e →
      wpAny (model prog w) (A.under (.builtin "type.__call__" ⟨.ref C :: us, []⟩)) (call (.ref fI) (.ref e :: us)) (fun r s' => r = .none ∧ Q (.ref e) s') E ⟨h', g, d, t, os⟩) :
    wpAny (model prog w) A (call (.ref C) us) Q E ⟨h, g, d, t, os⟩ := by
  have a1 := tc_lookup
  have a2 := tc_bind (.ref C)
  have ty : (⟨h, g, d, t, os⟩ : Shared).TypeIs (.ref C) "type" := ⟨_, gC, rfl⟩
  refine wpAny_call (codeAny_of_tree ?_)
  show wpAny _ _ (callAny (.ref C) _) _ _ _
  repeat (any_goals (first | assumption | with_reducible refine wpAny_loadPart_at gC ?_ | wp_step))
  refine ⟨rfl, ?_⟩
  refine codeAny_call_builtin_at (Code.quiet_builtin _ (by decide +kernel)) entry_typeCall (wpAny_check_type_call_sub gC (tcall_xinit F T gC hi gI cI lu fun h' e hm hs => ?_))
  exact k h' e hm hs
theorem raise_x {M : Model} {s : Shared} {env : Env} {x : Sem Value} {Q : Flow → Shared → Prop} (hh : A.handled = none)
    (k : wpAny M A x (fun v s1 => ∃ e od C nm qn N bs bm hz sn sub ab col dd k0 k1 k2 k3 k5 ni, v = .ref e ∧ bm.contains (.type "BaseException") = true ∧ s1.heap.get? C = some (excClassObj nm qn C N bs bm hz sn sub ab col dd k0 k1 k2 k3 k5 ni) ∧ Xat s1.heap e (.ref C) od none ∧ E (.ref e) s1) E s) :
    wpAny M A (raiseStmt env (some x) none) Q E s := by
  unfold raiseStmt
  refine wpAny_bind (wpAny_mono k (fun v s1 z => ?_) fun _ _ x => x)
  obtain ⟨e, od, C, nm, qn, N, bs, bm, hz, sn, sub, ab, col, dd, k0, k1, k2, k3, k5, ni, rfl, bB, gC, ⟨oe, vs, ge, ce, oo, de, se, y⟩, zE⟩ := z
  have me : (Value.ref C :: bm).contains (.type "BaseException") = true := by rw [List.contains_cons, bB, Bool.or_true]
  obtain ⟨hp, g, d, tk, os⟩ := s1
  rcases y with ⟨_, y1⟩ | ⟨T, _, _, z, _⟩
  · repeat (first | (with_reducible refine wpAny_loadPart_at ge ?_; rw [ce]) | with_reducible refine wpAny_loadPart_at gC ?_ | (with_reducible refine wpAny_isSubtype_exc gC ?_; rw [me]) | wp_step)
    rw [de]
    refine wpAny_pure ?_
    rw [y1]
    refine wpAny_pure ?_
    rw [if_neg (by decide)]
    exact wpAny_pure (wpAny_raiseNew_none hh zE)
  · cases z
end
end XL
set_option maxRecDepth 100000
namespace XL
open PySem PySem.W PySem.Calls PyProof.Rows Builtin Builtin.ObjectAttr
def vErr : List Value := [.type "ValueError", .type "Exception", .type "BaseException", .type "object"]
def excLine : List Value → Bool
  | [] => false
  | .ref c :: r => excLine r || ((.ref c :: r : List Value) == vErr)
  | v :: r => (v :: r) == vErr
def excOver (K : Frag) (C : Addr) : Bool := (clsIn K C).any fun cd => excLine cd.mro
theorem line_pass (self : Value) : ∀ {l : List Value}, excLine l = true → refuseLoop self "__setattr__" l = pure ()
  | [], e => by cases e
  | v :: r, e => by
    have last : ((v :: r : List Value) == vErr) = true → refuseLoop self "__setattr__" (v :: r) = pure () := fun z => by
      rw [eq_of_beq z]
      exact PySem.F.store_ValueError.passes self
    cases v with
    | ref c =>
      rcases Bool.or_eq_true_iff.mp e with z | z
      · rw [refuseLoop_ref]
        exact line_pass self z
      · exact last z
    | _ => exact last e
theorem line_has : ∀ {l : List Value}, excLine l = true → l.contains (.type "object") = true ∧ l.contains (.type "BaseException") = true ∧ l.isEmpty = false
  | [], e => by cases e
  | v :: r, e => by
    have last : ((v :: r : List Value) == vErr) = true → (v :: r).contains (.type "object") = true ∧ (v :: r).contains (.type "BaseException") = true ∧ (v :: r).isEmpty = false := fun z => by
      rw [eq_of_beq z]
      exact ⟨by decide +kernel, by decide +kernel, rfl⟩
    cases v with
    | ref c =>
      rcases Bool.or_eq_true_iff.mp e with z | z
      · obtain ⟨a, b, _⟩ := line_has z
        exact ⟨by rw [List.contains_cons, a, Bool.or_true], by rw [List.contains_cons, b, Bool.or_true], rfl⟩
      · exact last z
    | _ => exact last e
structure XC (K : Frag) (C : Addr) : Prop where
  over : excOver K C = true
  hd : hasDictIn K C = true
  sa : findIn K (.ref C) "__setattr__" = some (some (.builtin "object.__setattr__"))
  ga : findIn K (.ref C) "__getattribute__" = some (some (.builtin "BaseException.__getattribute__"))
  gh : findIn K (.ref C) "__getattr__" = some none
  ca : findIn K (.ref C) "__class__" = some (some (.builtin "object.__class__"))
  cg : specialIn K (.builtin "object.__class__") "__get__" = some (some (.builtin "getset_descriptor.__get__"))
  ct : takesIn K (.builtin "object.__class__") = some true
section
variable {prog : Program} {w : World} {A : Around} {E : Value → Shared → Prop} {s : Shared} {K : Frag} {x C dx : Addr} {ox : Obj} {od : Option Obj} {name : Str} {v : Value} {R : Result → Shared → Prop}
theorem XC.mro (c : XC K C) : ∃ cd, clsIn K C = some cd ∧ excLine cd.mro = true ∧ cd.hasDict = true := by
  obtain ⟨cd, h1, h2⟩ := any_some c.over
  obtain ⟨cd', h3, h4⟩ := any_some c.hd
  rw [h1] at h3
  cases h3
  exact ⟨cd, h1, h2, h4⟩
theorem XC.isObj (c : XC K C) : mroIn K C (.type "object") = some true := by
  obtain ⟨cd, h1, h2, _⟩ := c.mro
  obtain ⟨a, _, b⟩ := line_has h2
  unfold mroIn
  rw [h1, Option.bind_some, if_neg (by rw [b]; decide), a]
theorem XC.isExc (c : XC K C) : mroIn K C (.type "BaseException") = some true := by
  obtain ⟨cd, h1, h2, _⟩ := c.mro
  obtain ⟨_, a, b⟩ := line_has h2
  unfold mroIn
  rw [h1, Option.bind_some, if_neg (by rw [b]; decide), a]
theorem osa_x {tk : Tok} (X : K.In s.heap) (c : XC K C) (I : InstAt s.heap x ox C od) (ha : findIn K (.ref C) name = some none)
    (h : wpAny (model prog w) A.in1 (storeInOwnDict (.ref x) (.ref C) (.str name tk) name v false)
      (fun fin s' => match fin with | .done f => R (.ok f) s' | .again c' => c'.quiet = true ∧ codeAny (model prog w) A c' R s') (fun e s' => R (.error e) s') s) :
    codeAny (model prog w) A (.call (.builtin "object.__setattr__") ⟨[.ref x, .str name tk, v], []⟩) R s := by
  have SF := PySem.F.store_object
  obtain ⟨cd, hc, hl, _⟩ := c.mro
  have sub : Looks (model prog w) s.heap (isInstance (.ref x) (.type "object")) true := I.type.andThen (looks_mroIn X c.isObj)
  refine codeAny_call_builtin SF.slot.plain SF.entry (@check_slot (model prog w) _ _ s "object.__setattr__" "object" "__setattr__" (.ref x) [.str name tk, v] [] _ SF.kind SF.split sub (SF.args (.ref x) (.str name tk) v) ?_)
  have hm : Looks (model prog w) s.heap (mroOf (.ref C)) cd.mro := (looks_clsIn X hc).andThen .now
  rw [osa_eq, refuse_eq]
  refine wpAny_bind (wpAny_bind (I.type.here (wpAny_bind (hm.here ?_))))
  rw [line_pass _ hl]
  refine wpAny_pure (wpAny_bind (I.type.here (wpAny_bind ((looks_findIn X ha).here (wpAny_bind ((Looks.now (a := (none : Option Value))).here ?_))))))
  exact h
theorem own_x (X : K.In s.heap) (c : XC K C) (hx : s.heap.get? x = some ox) (hc : ox.cls = .ref C) (ho : ox.dict = some dx) {Q : Option Addr → Shared → Prop} (h : Q (some dx) s) :
    wpAny (model prog w) A (ownDictForStores (.ref x)) Q E s := by
  obtain ⟨cd, h1, _, h2⟩ := c.mro
  unfold ownDictForStores instanceDict
  refine wpAny_bind (wpAny_loadPart hx ?_)
  rw [hc]
  refine wpAny_bind ((looks_clsIn X h1).here ?_)
  rw [h2, ho]
  exact wpAny_pure h
theorem set_x1 {ns : List Str} {mA : Str → Option Value} {Q : Unit → Shared → Prop} (X : K.In s.heap) (c : XC K C) (hx : s.heap.get? x = some ox) (hc : ox.cls = .ref C) (hn : notCls ox = true) (ho : ox.dict = some dx) (hm : s.heap.Ns1 dx mA)
    (ha : findIn K (.ref C) name = some none) (hw : PySem.Within mA ns) (hz : ns.length ≤ sizeLine)
    (h : ∀ h', h'.Ns1 dx (fun y => if y = name then some v else mA y) → Heap.SameBut dx s.heap h' → Q () { s with heap := h', toks := s.toks + 2 }) :
    wpAny (model prog w) A (setAttr (.ref x) name v) Q E s := by
  obtain ⟨o1, _, _, g1, _⟩ := id hm
  have I : InstAt s.heap x ox C (some o1) := ⟨hx, hc, hn, by rw [ho]; exact g1⟩
  refine set_plain X I c.sa (osa_x (s := { s with toks := s.toks + 1 }) X c I ha ?_)
  refine wpAny_bind (wpAny_pure (wpAny_bind (own_x (s := { s with toks := s.toks + 1 }) X c hx hc ho ?_)))
  refine wpAny_bind (wpAny_pure (wpAny_bind ?_))
  refine wpAny_nsSet1 (s := { s with toks := s.toks + 1 }) hm fun h' n2 s2 => ?_
  obtain ⟨oD, eD, pD, gD, dD, cD⟩ := n2.count (PySem.Within.cons name v hw)
  refine wpAny_bind (wpAny_lookBehind gD (by rw [dD]; exact pastItsLine_dict (Nat.le_trans cD (by rw [List.length_cons]; omega))) ?_)
  exact wpAny_pure (h _ n2 s2)
theorem set_x0 {Q : Unit → Shared → Prop} (X : K.In s.heap) (c : XC K C) (hx : s.heap.get? x = some ox) (hc : ox.cls = .ref C) (hn : notCls ox = true) (ho : ox.dict = none) (hf : ox.isFreed = false)
    (ha : findIn K (.ref C) name = some none)
    (h : ∀ h', h'.get? x = some { ox with dict := some s.heap.objs.size } → h'.Ns1 s.heap.objs.size (fun y => if y = name then some v else none) →
      (∀ b o, b ≠ x → s.heap.get? b = some o → h'.get? b = some o) → s.heap.objs.size ≤ h'.objs.size → Q () { s with heap := h', toks := s.toks + 2 }) :
    wpAny (model prog w) A (setAttr (.ref x) name v) Q E s := by
  obtain ⟨cd, h1, _, h2⟩ := c.mro
  have I : InstAt s.heap x ox C none := ⟨hx, hc, hn, by rw [ho]; trivial⟩
  refine set_plain X I c.sa (osa_x (s := { s with toks := s.toks + 1 }) X c I ha ?_)
  refine wpAny_bind (wpAny_pure (wpAny_bind ?_))
  unfold ownDictForStores instanceDict
  refine wpAny_bind (wpAny_loadPart (s := { s with toks := s.toks + 1 }) hx ?_)
  rw [hc]
  refine wpAny_bind ((looks_clsIn X h1).here (s := { s with toks := s.toks + 1 }) ?_)
  rw [h2, ho, if_neg (by simp)]
  obtain ⟨oc, odi, oda, osl⟩ := ox
  dsimp only at hc ho
  subst hc ho
  have hx1 : (s.heap.push { cls := .type "dict", data := .dict #[] }).get? x = some ⟨.ref C, none, oda, osl⟩ := Heap.get?_push_of_some _ hx
  have nx : x ≠ s.heap.objs.size := Nat.ne_of_lt (Heap.lt_size hx)
  have key : wpAny (model prog w) A.in1 (do let d ← alloc { cls := .type "dict", data := .dict #[] }; update x (fun o => { o with dict := some d }); dictMade (.ref C) x d)
      (fun a s' => wpAny (model prog w) A.in1 (match a with | some d => storeInDict d (.str name s.toks) name v | none => noDictFor (.ref x) (.ref C) name false)
        (fun fin s' => match fin with
          | .done f => (match (Except.ok f : Result) with | .ok (.ret _) => Q () s' | .ok _ => False | .error e => E e s')
          | .again c' => c'.quiet = true ∧ codeAny (model prog w) A c' (fun r s' => match r with | .ok (.ret _) => Q () s' | .ok _ => False | .error e => E e s') s')
        (fun e s' => E e s') s') (fun e s' => E e s') { s with toks := s.toks + 1 } := by
    refine wpAny_bind (wpAny_alloc' ?_)
    refine wpAny_bind (wpAny_update' hx1 ?_)
    refine wpAny_pure ?_
    dsimp only
    have g2 : ((s.heap.push { cls := .type "dict", data := .dict #[] }).update x fun o => { o with dict := some s.heap.objs.size }).get? s.heap.objs.size = some { cls := .type "dict", data := .dict #[] } :=
      (Heap.get?_update_ne _ _ _ _ nx.symm).trans (Heap.get?_push_at rfl rfl)
    have n2 : ((s.heap.push { cls := .type "dict", data := .dict #[] }).update x fun o => { o with dict := some s.heap.objs.size }).Ns s.heap.objs.size (fun _ => none) :=
      ⟨_, #[], _, g2, rfl, fun e he => absurd he (by simp), fun _ => rfl⟩
    unfold storeInDict newKeyGuard
    refine wpAny_bind (wpAny_pure (wpAny_bind (wpAny_nsSet1 (Heap.Ns1.of_empty n2) fun h' n3 s3 => ?_)))
    obtain ⟨oD, eD, pD, gD, dD, cD⟩ := n3.count (Within.cons name v Within.nil)
    refine wpAny_bind (wpAny_lookBehind gD (by rw [dD]; exact pastItsLine_dict (Nat.le_trans cD (by rw [List.length_cons, List.length_nil, sizeLine_eq]; omega))) ?_)
    refine wpAny_pure (h h' ?_ n3 (fun b o bx hb => ?_) ?_)
    · refine (s3.2 x nx).trans (Heap.get?_update_self _ hx1 ?_)
      cases oda <;> first | rfl | exact hf
    · exact (s3.2 b (Nat.ne_of_lt (Heap.lt_size hb))).trans ((Heap.get?_update_ne _ _ _ _ bx).trans (Heap.get?_push_of_some _ hb))
    · rw [s3.1, Heap.size_after_update, Heap.size_push]
      exact Nat.le_succ _
  cases oda <;> first | exact key | cases hn
theorem ga_bind (v : Value) : bindSpecial (.builtin "BaseException.__getattribute__") v = pure (.builtin "BaseException.__getattribute__", [v]) := by
  have f := PySem.F.attr_ValueError.ga.bind v
  exact f
theorem ga_plain : plainId "BaseException.__getattribute__" = true := PySem.F.attr_ValueError.ga.plain
theorem get_xo {Q : Value → Shared → Prop} {expr fill : Bool} {tk : Tok} (X : K.In s.heap) (c : XC K C) (I : InstAt s.heap x ox C od)
    (h : wpAny (model prog w) A.in1 (Builtin.«object.__getattribute__» ⟨[.ref x, .str name tk], []⟩)
      (fun fin s' => match fin with | .done (.ret v) => wpAny (model prog w) A (handedOut v) Q E s' | _ => False) (fun _ _ => False) s) :
    wpAny (model prog w) A (getAttrBy (.ref x) (.str name tk) fill expr) Q E s := by
  obtain ⟨hh, g, d, t, os⟩ := s
  have L0 := I.type (M := model prog w)
  have L1 := looks_findIn (M := model prog w) X c.ga
  have L2 := looks_findIn (M := model prog w) X c.gh
  have sub : Looks (model prog w) hh (isInstance (.ref x) (.type "BaseException")) true := I.type.andThen (looks_mroIn X c.isExc)
  have f2 : (onTheHeap (Value.ref C) && Value.builtin "BaseException.__getattribute__" == Value.builtin "object.__getattribute__") = false := by
    rw [show (Value.builtin "BaseException.__getattribute__" == Value.builtin "object.__getattribute__") = false from by decide +kernel]; rfl
  have f3 : (expr && onTheHeap (Value.builtin "BaseException.__getattribute__")) = false := by cases expr <;> rfl
  unfold getAttrBy
  refine wpAny_holding (wpAny_bind (L0.at (wpAny_bind (L1.at ?_))))
  dsimp only
  rw [f2]
  simp only [Bool.false_eq_true, if_false]
  unfold getAttrByItsOwn hookBefore
  refine wpAny_bind (L2.at (wpAny_bind (wpAny_attempt (wpAny_holding ?_))))
  unfold callGetattribute
  rw [f3]
  simp only [Bool.false_eq_true, if_false]
  unfold boundAndCalled
  rw [ga_bind]
  refine wpAny_bind (wpAny_pure (wpAny_call (codeAny_call_builtin ga_plain PySem.F.entry_bexc_ga
    (@check_slot (model prog w) _ _ ⟨hh, g, d, t, os⟩ "BaseException.__getattribute__" "BaseException" "__getattribute__" (.ref x) [.str name tk] [] _ (by decide +kernel) (by decide +kernel) sub (PySem.F.args_bexc_ga _ _) ?_))))
  refine wpAny_mono h (fun fin s' z => ?_) fun e s' z => z.elim
  rcases fin with (_ | _ | _ | _) | _ <;> first | exact z | exact z.elim
theorem get_x {Q : Value → Shared → Prop} {expr : Bool} (X : K.In s.heap) (c : XC K C) (hx : s.heap.get? x = some ox) (hc : ox.cls = .ref C) (hn : notCls ox = true) (ho : ox.dict = some dx) {o1 : Obj} (g1 : s.heap.get? dx = some o1) (hl : lookIn name o1 = some (some v))
    (ha : findIn K (.ref C) name = some none) (hv : handedIn v = true) (h : Q v { s with toks := s.toks + 1 }) :
    wpAny (model prog w) A (getAttr (.ref x) name expr) Q E s := by
  have I : InstAt s.heap x ox C (some o1) := ⟨hx, hc, hn, by rw [ho]; exact g1⟩
  have hf : findObj K C (some o1) name = some (.value v) := findObj_own c.hd ha rfl hl
  unfold getAttr
  refine wpAny_bind (wpAny_mkText ?_)
  refine get_xo (s := { s with toks := s.toks + 1 }) X c I ?_
  have L0 := I.type (M := model prog w)
  have L1 := looks_find (M := model prog w) X I hf
  obtain ⟨hh, g, d, t, os⟩ := s
  refine wpAny_bind (wpAny_pure (wpAny_bind (wpAny_pure (wpAny_bind (L0.at (wpAny_bind (L1.at ?_)))))))
  refine wpAny_pure ?_
  show wpAny _ _ (handedOut v) _ _ _
  rw [handedOut_of hv]
  exact wpAny_pure h
theorem get_xcls {Q : Option Value → Shared → Prop} (X : K.In s.heap) (c : XC K C) (I : InstAt s.heap x ox C od) (h : Q (some (.ref C)) { s with toks := s.toks + 1 }) :
    wpAny (model prog w) A (getAttr? (.ref x) "__class__") Q E s := by
  obtain ⟨cd, h1, _, h2⟩ := c.mro
  have hf : findObj K C od "__class__" = some (.bind (.builtin "getset_descriptor.__get__") (.builtin "object.__class__")) := by
    unfold findObj
    rw [h1, Option.bind_some, c.ca, Option.bind_some]
    simp [c.cg, c.ct]
  unfold getAttr? getAttrBy?
  refine wpAny_bind (wpAny_mkText (wpAny_bind (wpAny_attempt ?_)))
  refine get_xo (s := { s with toks := s.toks + 1 }) X c I ?_
  have L0 := I.type (M := model prog w)
  have L1 := looks_find (M := model prog w) X I hf
  refine wpAny_bind (wpAny_pure (wpAny_bind (wpAny_pure (wpAny_bind (L0.here (s := { s with toks := s.toks + 1 }) (wpAny_bind (L1.here (s := { s with toks := s.toks + 1 }) ?_)))))))
  show wpAny _ _ (holding [_] (call _ [_, .ref x, .ref C]) >>= ret) _ _ _
  refine wpAny_bind (wpAny_holding (wpAny_call (class_get (s := { s with toks := s.toks + 1 }) (ox := ox) (od := od) X I c.isObj ?_)))
  refine wpAny_pure ?_
  show wpAny _ _ (handedOut (.ref C)) _ _ _
  exact wpAny_pure (wpAny_pure h)
end
end XL
set_option maxRecDepth 100000
namespace XL
open PySem
theorem isStr_ne {x y : Str} {v : Value} (hx : v.isStr x = true) (n : y ≠ x) : v.isStr y = false := by
  cases v <;> simp_all [Value.isStr]
  exact fun z => n z.symm
theorem find_erase {name y : Str} (n : y ≠ name) : ∀ (l : List DictEntry) (i : Nat), l.findIdx? (·.key.isStr name) = some i → (l.eraseIdx i).find? (·.key.isStr y) = l.find? (·.key.isStr y)
  | [], i, h => by simp at h
  | e :: r, i, h => by
    rw [List.findIdx?_cons] at h
    by_cases q : e.key.isStr name = true
    · rw [if_pos q] at h
      cases h
      have z := isStr_ne q n
      simp [z]
    · rw [if_neg q] at h
      cases hi : r.findIdx? (·.key.isStr name) with
      | none => rw [hi] at h; cases h
      | some j =>
        rw [hi] at h
        cases h
        have ih := find_erase n r j hi
        simp only [List.eraseIdx_cons_succ, List.find?_cons]
        split
        · rfl
        · exact ih
section
variable {M : Model} {A : Around} {E : Value → Shared → Prop} {s : Shared} {env : Env}
theorem nsDel_x {a : Addr} {m : Str → Option Value} {name : Str} {Q : Bool → Shared → Prop} (hn : s.heap.Ns a m)
    (k : ∀ h' m', h'.Ns a m' → (∀ y, y ≠ name → m' y = m y) → Heap.SameBut a s.heap h' → Q (m name).isSome { s with heap := h' }) : wpAny M A (nsDel a name) Q E s := by
  obtain ⟨o, es, ep, ho, hd, hk, hm⟩ := id hn
  have nor : es.any (·.refKey) = false := by
    rw [Array.any_eq_false']
    intro e he
    obtain ⟨n, t, h⟩ := hk e he
    simp [DictEntry.refKey, h]
  have some_eq : (m name).isSome = es.any (·.key.isStr name) := by
    rw [← hm name]
    simp only [nsFind, findBy, Option.isSome_map]
    rw [Bool.eq_iff_iff]
    simp only [Array.find?_isSome, Array.any_eq_true]
    constructor
    · rintro ⟨z, hz, hp⟩
      obtain ⟨i, hi, rfl⟩ := Array.mem_iff_getElem.mp hz
      exact ⟨i, hi, hp⟩
    · rintro ⟨i, hi, hp⟩
      exact ⟨_, Array.getElem_mem hi, hp⟩
  have has : nsHas name o = pure (es.any (·.key.isStr name)) := by
    rw [nsHas_eq]
    unfold nsHasByArray
    rw [hd]
    show (if (es.any fun z => z.key.isStr name) = true then _ else _) = _
    generalize (es.any fun z => z.key.isStr name) = b
    cases b <;> simp [nor]
  unfold nsDel
  refine wpAny_bind (wpAny_loadPart ho ?_)
  rw [has]
  refine wpAny_bind (wpAny_pure ?_)
  rw [← some_eq]
  cases q : (m name).isSome
  · have z := k s.heap m hn (fun _ _ => rfl) (.refl ..)
    rw [q] at z
    exact wpAny_pure z
  · refine wpAny_bind (wpAny_updatePart ho (wpAny_pure ?_))
    have key : ∃ m', (s.heap.update a (Obj.dropName name)).Ns a m' ∧ ∀ y, y ≠ name → m' y = m y := by
      obtain ⟨cl, d, dt, sl⟩ := o
      subst hd
      cases hi : es.findIdx? (·.key.isStr name) with
      | none =>
        exact ⟨m, ⟨_, _, ep, Heap.get?_update_self _ ho (by simp only [Obj.dropName_eq, Obj.dropNameByArray, hi] <;> rfl), (by simp only [Obj.dropName_eq, Obj.dropNameByArray, hi] <;> rfl), hk, hm⟩, fun _ _ => rfl⟩
      | some i =>
        refine ⟨_, ⟨_, _, ep + 1, Heap.get?_update_self _ ho (by simp only [Obj.dropName_eq, Obj.dropNameByArray, hi] <;> rfl), (by simp only [Obj.dropName_eq, Obj.dropNameByArray, hi] <;> rfl), hk.erase i, fun _ => rfl⟩, fun y hy => ?_⟩
        rw [← hm y]
        obtain ⟨l⟩ := es
        have hi' : l.findIdx? (·.key.isStr name) = some i := by simpa using hi
        have z := find_erase hy l i hi'
        simp only [nsFind, findBy]
        have il : i < l.length := by
          have := List.findIdx?_eq_some_iff_findIdx_eq.mp hi'
          exact this.1
        have e1 : (Array.mk l).eraseIdxIfInBounds i = Array.mk (l.eraseIdx i) := by
          simp [Array.eraseIdxIfInBounds, il]
        rw [e1]
        simp only [List.find?_toArray]
        rw [z]
    obtain ⟨m', n', e'⟩ := key
    have z := k _ m' n' e' (Heap.SameBut.update ..)
    rw [q] at z
    exact z
theorem name_gone {n : Str} {pos : Pos} {m : Str → Option Value} {Q : Unit → Shared → Prop} (hl : env.kindOf n = some .local) (hn : s.heap.Ns env.locals m)
    (hp : (env.scope.kind == .class || (env.scope.kind == .module && env.locals != env.globals)) = false)
    (h : ∀ h' m', h'.Ns env.locals m' → (∀ y, y ≠ n → m' y = m y) → Heap.SameBut env.locals s.heap h' → Q () { s with heap := h', toks := s.toks + 1 }) :
    wpAny M A (do bindName env n .none; unbindBehindTheSuite env n pos) Q E s := by
  refine wpAny_bind (wpAny_bindName (wpAny_storeName_local hl hn (fun h1 n1 s1 => ?_) hp))
  unfold unbindBehindTheSuite
  refine wpAny_onRaise ?_
  unfold unbindName
  refine wpAny_bind (wpAny_point (wpAny_bind ?_))
  unfold deleteName
  simp only [hl, hp]
  rw [if_neg (by decide)]
  refine wpAny_bind (nsDel_x n1 fun h2 m2 n2 e2 s2 => ?_)
  simp only [if_true, Option.isSome_some, Bool.not_true, Bool.false_eq_true, if_false]
  refine wpAny_pure (wpAny_point (h h2 m2 n2 (fun y hy => ?_) (s1.trans s2)))
  rw [e2 y hy, if_neg hy]
end
end XL
set_option maxRecDepth 100000
namespace L2
open PySem PySem.Spec PyProof.Rows XL
variable {q0 : Bool}
def XN (e C : Addr) (od : Option Addr) : HO := .ext fun h => Xat h e (.ref C) od none
def XO (e C : Addr) (od : Option Addr) : HO := .ext fun h => ∃ ox vs, h.get? e = some ox ∧ ox.cls = .ref C ∧ ox.dict = od ∧ ox.data = .fields vs
def XD (dx : Addr) (fs : List (Str × V)) : HO := .ext fun h => fs.length ≤ 1000 ∧ ∃ mA, h.Ns1 dx mA ∧ (∀ f, RelO (fs.lookup f) (mA f)) ∧ PySem.Within mA (fs.map (·.1))
section
variable {P : Program} {w : World} {H : Hp} {h : Heap} {e C dx : Addr} {od : Option Addr} {fs : List (Str × V)}
theorem xn_ok (x : Xat h e (.ref C) od none) : ObjOk P w H h e (XN e C od) := by
  refine ⟨x, ?_, fun h1 h2 z k => ?_⟩
  · obtain ⟨oe, _, g, _⟩ := x
    exact ⟨oe, g⟩
  · obtain ⟨oe, vs, g, c, o, d, sz, y⟩ := z
    rcases y with y | ⟨T, _, _, z, _⟩
    · exact ⟨oe, vs, k oe g, c, o, d, sz, .inl y⟩
    · cases z
theorem xo_ok (x : ∃ ox vs, h.get? e = some ox ∧ ox.cls = .ref C ∧ ox.dict = od ∧ ox.data = .fields vs) : ObjOk P w H h e (XO e C od) := by
  refine ⟨x, ?_, fun h1 h2 z k => ?_⟩
  · obtain ⟨oe, _, g, _⟩ := x
    exact ⟨oe, g⟩
  · obtain ⟨oe, vs, g, c, o, d⟩ := z
    exact ⟨oe, vs, k oe g, c, o, d⟩
theorem xat_xo {tb : Option Addr} (x : Xat h e (.ref C) od tb) : ∃ ox vs, h.get? e = some ox ∧ ox.cls = .ref C ∧ ox.dict = od ∧ ox.data = .fields vs := by
  obtain ⟨oe, vs, g, c, o, d, _⟩ := x
  exact ⟨oe, vs, g, c, o, d⟩
theorem ns1_at {h1 h2 : Heap} {m : Str → Option Value} (n : h1.Ns1 dx m) (k : ∀ o, h1.get? dx = some o → h2.get? dx = some o) : h2.Ns1 dx m := by
  obtain ⟨o, es, ep, g, r⟩ := n
  exact ⟨o, es, ep, k o g, r⟩
theorem xd_ok (hl : fs.length ≤ 1000) {mA : Str → Option Value} (n : h.Ns1 dx mA) (r : ∀ f, RelO (fs.lookup f) (mA f)) (wi : PySem.Within mA (fs.map (·.1))) : ObjOk P w H h dx (XD dx fs) := by
  refine ⟨⟨hl, mA, n, r, wi⟩, ?_, fun h1 h2 z k => ?_⟩
  · obtain ⟨o, es, ep, g, _⟩ := n
    exact ⟨o, g⟩
  · obtain ⟨hl, mA, n, r, wi⟩ := z
    exact ⟨hl, mA, ns1_at n k, r, wi⟩
end
def CXo (P : Program) (w : World) : CXT := fun outer H s E u s' => ∃ e C od H' T, u = .ref e ∧ s'.os = s.os ∧ AllBare s'.gens ∧ Un (frs outer) [] H H' s.heap s'.heap ∧ HOk P w H' s'.heap ∧
  Xat s'.heap e (.ref C) od (some T) ∧ H' e = some (XO e C od) ∧ s.heap.objs.size ≤ T ∧ H' T = none ∧ E e C H'
def Tbs (X : Cx) (pins : List (Addr × Obj)) (H : Hp) (tb : Option Addr) : Prop := ∀ T, tb = some T → X.s₀.heap.objs.size ≤ T ∧ H T = none ∧ T ≠ X.env.locals ∧ (∀ x c, X.env.cells.lookup x = some c → c ≠ T) ∧ ∀ p ∈ X.pn ++ pins, p.1 ≠ T
def Takes (X : Cx) (E : St → XK) : Prop := ∀ (pins : List (Addr × Obj)) (σ : St) (H : Hp) (s : Shared) (e C : Addr) (od tb : Option Addr), Inv X pins σ H s → Xat s.heap e (.ref C) od tb → H e = some (XO e C od) →
  Tbs X pins H tb → E σ e C H → X.xe (.ref e) s
section
variable {X : Cx} {pins : List (Addr × Obj)} {σ : St} {H : Hp} {s : Shared} {e C : Addr} {od tb : Option Addr}
theorem Inv.size_lt (I : Inv X pins σ H s) {b : Addr} (h : s.heap.objs.size ≤ b) : H b = none ∧ b ≠ X.env.locals ∧ (∀ x c, X.env.cells.lookup x = some c → c ≠ b) ∧ ∀ p ∈ X.pn ++ pins, p.1 ≠ b := by
  refine ⟨I.hok.fresh h, fun z => ?_, fun x c hc z => ?_, fun p hp z => ?_⟩
  · rw [z] at h
    exact absurd I.lt (Nat.not_lt.mpr h)
  · obtain ⟨v, o, ho, _⟩ := I.cell x c hc
    rw [z] at ho
    exact absurd (Heap.lt_size ho) (Nat.not_lt.mpr h)
  · have g := (I.pin p hp).1
    rw [z] at g
    exact absurd (Heap.lt_size g) (Nat.not_lt.mpr h)
theorem Inv.noted {h' : Heap} {T : Addr} (I : Inv X pins σ H s) (he : H e = some (XO e C od)) (tbs : Tbs X pins H tb) (st : Stp (frs X.stack) e tb s.heap h') (x : Xat h' e (.ref C) od (some T)) :
    Inv X pins σ H { s with heap := h' } := by
  have neE : ∀ b, H b = none → b ≠ e := fun b n z => by rw [z, he] at n; cases n
  have neT : ∀ b u, H b = some u → tb ≠ some b := fun b u hb z => by rw [(tbs b z).2.1] at hb; cases hb
  have nfr : ∀ b u, H b = some u → b ∉ frs X.stack := fun b u hb z => by rw [I.stkFree b z] at hb; cases hb
  have kp : ∀ b u o, H b = some u → b ≠ e → s.heap.get? b = some o → h'.get? b = some o := fun b u o hb ne g => st.keep b o g ne (neT b u hb) (nfr b u hb)
  have un : Un (frs X.stack) tb.toList H H s.heap h' := by
    refine ⟨fun b o g n hb hx => st.keep b o g (neE b n) (fun z => hx (by rw [z]; simp)) hb, fun b o g n hb hx => st.slot b o g hb, fun b o g n hx => n, fun b o g hx => ?_, fun b xs z => z, fun b o u z => z, fun b ps z => ⟨#[], by rw [z]; simp⟩⟩
    by_cases b1 : b = e
    · subst b1
      obtain ⟨oe, _, ge, _⟩ := x
      exact ⟨oe, ge⟩
    · by_cases b2 : b ∈ frs X.stack
      · obtain ⟨sl, q⟩ := st.slot b o g b2
        exact ⟨_, q⟩
      · exact ⟨o, st.keep b o g b1 (fun z => hx (by rw [z]; simp)) b2⟩
  have hok : HOk X.prog X.w H h' := fun b u hb => by
    by_cases b1 : b = e
    · subst b1
      rw [he] at hb
      cases hb
      exact xo_ok (xat_xo x)
    · refine (I.hok b u hb).stay (fun c v hc q => ?_) (fun c q => q) fun c xs q => q
      rcases hc with rfl | hc
      · exact kp c u v hb b1 q
      · exact kp c _ v hc (fun z => by rw [z, he] at hc; cases hc) q
  refine I.call (g' := s.gens) (d' := s.drawn) (t' := s.toks) (ch := tb.toList) un hok I.bare fun b hb => ?_
  have z : tb = some b := by
    cases tb with
    | none => simp at hb
    | some T' => simp at hb; rw [hb]
  obtain ⟨a1, _, a3, a4, a5⟩ := tbs b z
  exact ⟨.inr a1, a3, a4, a5⟩
theorem Takes.pass {E : St → XK} (t : Takes X E) : Passes (CXo X.prog X.w) X E := fun pins σ H s u s' I h => by
  obtain ⟨e, C, od, H', T, rfl, os, bare, un, hok, x, he, sT, hT, q⟩ := h
  have J : Inv X pins σ H' s' := I.call' os un hok bare (ch := []) fun b z => absurd z (by simp)
  refine t pins σ H' s' e C od (some T) J x he (fun T' z => ?_) q
  cases z
  obtain ⟨_, a, b, c⟩ := I.size_lt sT
  exact ⟨Nat.le_trans I.sz sT, hT, a, b, c⟩
theorem pass_none : Passes (CXo X.prog X.w) X (fun _ _ _ _ => False) := fun pins σ H s u s' I h => by
  obtain ⟨e, C, od, H', T, _, _, _, _, _, _, _, _, _, q⟩ := h
  exact q.elim
theorem takes_def {P : Program} {w : World} {K : PySem.W.Frag} {mg : Str → Option Value} {base : Heap} {N : List Str} {qual : Str} {scope : Scope} {f : Addr} {cd : Value} {A : Around} {outer : List Env} {s₀ : Shared} {H₀ : Hp} {E : XK} :
    Takes (cxOf q0 (CXo P w) P w K mg base N qual scope f cd A outer s₀ H₀ E) (fun _ => E) := fun pins σ H s e C od tb I x he tbs q => by
  show wpAny (model P w) _ (leaving _ (.ref e)) _ _ s
  unfold leaving
  refine wpAny_bind (note_x (L := s₀.heap.objs.size) I.ok.frames I.stack rfl x fun h' T st sT x' => ?_)
  have J := I.noted he tbs st x'
  exact ⟨e, C, od, H, T, rfl, J.os, J.bare, J.base, J.hok, x', he, Nat.le_trans I.sz sT, I.hok.fresh sT, q⟩
end
end L2
set_option maxRecDepth 100000
namespace XL
open PySem PySem.W
def strKey (e : DictEntry) : Bool := match e.key with | .str _ _ => true | _ => false
def nsNoInit (K : Frag) (ns : Addr) : Bool := match K.lookup ns with
  | some ⟨_, _, .dict es _, _⟩ => es.toList.all strKey && !(es.toList.any (·.key.isStr "__init__"))
  | _ => false
def tailIn (K : Frag) : List Value → Bool
  | [] => false
  | .ref a :: r => (match K.lookup a with
      | some ⟨_, _, .cls cd, _⟩ => nsNoInit K cd.ns && tailIn K r
      | _ => false)
  | v :: r => (v :: r) == vErr
theorem ns_of {K : Frag} {h : Heap} {ns : Addr} (X : K.In h) (e : nsNoInit K ns = true) : ∃ mA, h.Ns ns mA ∧ mA "__init__" = none := by
  unfold nsNoInit at e
  split at e
  · rename_i es n sl ho
    obtain ⟨e1, e2⟩ := Bool.and_eq_true_iff.mp e
    refine ⟨_, ⟨_, es, _, X _ _ ho, rfl, fun z hz => ?_, fun _ => rfl⟩, ?_⟩
    · have q := List.all_eq_true.mp e1 z (Array.mem_toList_iff.mpr hz)
      unfold strKey at q
      split at q
      · rename_i a b c
        exact ⟨a, b, c⟩
      · cases q
    · unfold nsFind findBy
      rw [← Array.find?_toList]
      have z : es.toList.find? (fun e => e.key.isStr "__init__") = none := by
        rw [List.find?_eq_none]
        intro y hy q
        rw [Bool.not_eq_true', List.any_eq_false] at e2
        exact e2 y hy q
      rw [z]
      rfl
  · cases e
theorem tail_of {K : Frag} {h : Heap} (X : K.In h) : ∀ {l : List Value}, tailIn K l = true → OwnTail h vErr l
  | [], e => by cases e
  | v :: r, e => by
    have last : ((v :: r : List Value) == vErr) = true → OwnTail h vErr (v :: r) := fun z => by
      rw [eq_of_beq z]
      exact .base
    cases v with
    | ref a =>
      unfold tailIn at e
      split at e
      · rename_i c d cd sl ho
        obtain ⟨e1, e2⟩ := Bool.and_eq_true_iff.mp e
        obtain ⟨mA, n, z⟩ := ns_of X e1
        exact .own (X _ _ ho) n z (tail_of X e2)
      · cases e
    | _ => exact last e
def xmkIn (K : Frag) (C : Addr) : Bool := match K.lookup C with
  | some ⟨.type "type", _, .cls cd, sl⟩ => (match cd.mro, sl.toList with
    | .ref C' :: bm, [_, _, _, _, some (.builtin i), _] => C' == C && !cd.hasDel && i == "ValueError.__new__" && tailIn K bm
    | _, _ => false)
  | _ => false
theorem xmk_of {K : Frag} {h : Heap} {C : Addr} (X : K.In h) (q : xmkIn K C = true) : ∃ nm qn N bs bm hz sn sub ab col dd k0 k1 k2 k3 k5,
    h.get? C = some (excClassObj nm qn C N bs bm hz sn sub ab col dd k0 k1 k2 k3 k5 "ValueError.__new__") ∧ OwnTail h vErr bm := by
  unfold xmkIn at q
  split at q
  · rename_i dd cd sl ho
    split at q
    · rename_i C' bm k0 k1 k2 k3 n k5 hm hs
      simp only [Bool.and_eq_true, beq_iff_eq, Bool.not_eq_true'] at q
      obtain ⟨⟨⟨rfl, hdel⟩, rfl⟩, ht⟩ := q
      obtain ⟨nm, bs, mro, ns, qn, hd, sn, sub, ab, col, del⟩ := cd
      dsimp only at hm hdel
      subst hm hdel
      have hsl : sl = #[k0, k1, k2, k3, some (.builtin "ValueError.__new__"), k5] := by
        obtain ⟨l⟩ := sl
        simp only at hs
        rw [hs]
      subst hsl
      exact ⟨nm, qn, ns, bs, bm, hd, sn, sub, ab, col, dd, k0, k1, k2, k3, k5, X _ _ ho, tail_of X ht⟩
    · cases q
  · cases q
end XL
namespace L2
open PySem PySem.Spec PyProof.Rows XL
variable {q0 : Bool}
section
variable {X : Cx} {pins : List (Addr × Obj)} {σ : St} {H : Hp} {s : Shared} {a C dx : Addr} {od : Option Addr} {fs : List (Str × V)} {f : Str} {v y : V} {u : Value} {A : Around} {E : Value → Shared → Prop}
theorem xn_at (I : Inv X pins σ H s) (e : H a = some (XN a C od)) : Xat s.heap a (.ref C) od none := (I.hok a _ e).1
theorem xo_at (I : Inv X pins σ H s) (e : H a = some (XO a C od)) : ∃ ox vs, s.heap.get? a = some ox ∧ ox.cls = .ref C ∧ ox.dict = od ∧ ox.data = .fields vs := (I.hok a _ e).1
theorem xd_at (I : Inv X pins σ H s) (e : H dx = some (XD dx fs)) : fs.length ≤ 1000 ∧ ∃ mA, s.heap.Ns1 dx mA ∧ (∀ f, RelO (fs.lookup f) (mA f)) ∧ PySem.Within mA (fs.map (·.1)) := (I.hok dx _ e).1
theorem notCls_f {o : Obj} {vs : Array Value} (d : o.data = .fields vs) : PySem.W.notCls o = true := by
  unfold PySem.W.notCls
  rw [d]
theorem xset0_ok {Q : Unit → Shared → Prop} (I : Inv X pins σ H s) (e : H a = some (XN a C none)) (c : XC X.K C) (n : PySem.W.findIn X.K (.ref C) f = some none) (ry : RelV y u)
    (h : ∀ dx s', H dx = none → Inv X pins σ (upd (upd H dx (XD dx [(f, y)])) a (XN a C (some dx))) s' → Q () s') : wpAny (model X.prog X.w) A (setAttr (.ref a) f u) Q E s := by
  obtain ⟨oe, vs, g, ce, oo, de, sz, tb⟩ := xn_at I e
  refine set_x0 I.kIn c g ce (notCls_f de) oo (Obj.isFreed_of_fields de) n fun h' g' n' k sz' => h s.heap.objs.size _ (I.hok.fresh (Nat.le_refl _)) ?_
  have hN : H s.heap.objs.size = none := I.hok.fresh (Nat.le_refl _)
  have nad : a ≠ s.heap.objs.size := fun z => by rw [z, hN] at e; cases e
  have na : ∀ b, H b = none → b ≠ a := fun b nb z => by rw [z, e] at nb; cases nb
  have nd : ∀ b o, s.heap.get? b = some o → b ≠ s.heap.objs.size := fun b o gb => Nat.ne_of_lt (Heap.lt_size gb)
  have nd' : ∀ b u, H b = some u → b ≠ s.heap.objs.size := fun b u hb z => by rw [z, hN] at hb; cases hb
  have at1 : ∀ b, b ≠ a → b ≠ s.heap.objs.size → upd (upd H s.heap.objs.size (XD s.heap.objs.size [(f, y)])) a (XN a C (some s.heap.objs.size)) b = H b := fun b b1 b2 => by rw [upd_ne b1, upd_ne b2]
  have xnew : Xat h' a (.ref C) (some s.heap.objs.size) none := ⟨_, vs, g', ce, rfl, de, sz, by
    rcases tb with t | ⟨T, _, _, z, _⟩
    · exact .inl t
    · cases z⟩
  have own1 : ∀ b c, H c = some (.own b) → c ≠ a := fun b c hc z => by rw [z, e] at hc; cases hc
  have tup1 : ∀ c xs, H c = some (.tup xs) → c ≠ a := fun c xs hc z => by rw [z, e] at hc; cases hc
  refine I.un ⟨fun b o gb nb _ _ => k b o (na b nb) gb, fun b o gb nb _ _ => ⟨o.slots, k b o (na b nb) gb⟩, fun b o gb nb _ => ?_, fun b o gb _ => ?_, fun b xs z => ?_, fun b o w z => ?_, fun b ps z => ⟨#[], ?_⟩⟩ fun b w hb => ?_
  · rw [at1 b (na b nb) (nd b o gb)]; exact nb
  · by_cases b1 : b = a
    · exact ⟨_, by rw [b1]; exact g'⟩
    · exact ⟨o, k b o b1 gb⟩
  · rw [at1 b (tup1 b xs z) (nd' b _ z)]; exact z
  · rw [at1 b (fun q => by rw [q, e] at z; cases z) (nd' b _ z)]; exact z
  · rw [at1 b (fun q => by rw [q, e] at z; cases z) (nd' b _ z), z]; simp
  · by_cases b1 : b = a
    · subst b1
      rw [upd_same] at hb
      cases hb
      exact xn_ok xnew
    · rw [upd_ne b1] at hb
      by_cases b2 : b = s.heap.objs.size
      · subst b2
        rw [upd_same] at hb
        cases hb
        refine xd_ok (by show 1 ≤ 1000; decide) n' (fun g => ?_) fun g hg => ?_
        · show RelO (List.lookup g [(f, y)]) (if g = f then some u else none)
          by_cases q : g = f
          · rw [if_pos q, q]
            simp only [List.lookup_cons, beq_self_eq_true]
            exact ry
          · rw [if_neg q]
            simp only [List.lookup_cons, beq_eq_false_iff_ne.mpr q]
            exact trivial
        · by_cases q : g = f
          · simp [q]
          · exact absurd (show (if g = f then some u else none) = none from if_neg q) hg
      · rw [upd_ne b2] at hb
        refine (I.hok b w hb).stay (fun c v hc q => ?_) (fun c q => ?_) fun c xs q => ?_
        · rcases hc with rfl | hc
          · exact k c v b1 q
          · exact k c v (own1 b c hc) q
        · rw [at1 c (own1 b c q) (nd' c _ q)]; exact q
        · rw [at1 c (tup1 c xs q) (nd' c _ q)]; exact q
theorem xset1_ok {Q : Unit → Shared → Prop} (I : Inv X pins σ H s) (e : H a = some (XN a C (some dx))) (ed : H dx = some (XD dx fs)) (hl : fs.length < 1000) (c : XC X.K C) (n : PySem.W.findIn X.K (.ref C) f = some none) (ry : RelV y u)
    (h : ∀ s', Inv X pins σ (upd H dx (XD dx (putF f y fs))) s' → Q () s') : wpAny (model X.prog X.w) A (setAttr (.ref a) f u) Q E s := by
  obtain ⟨oe, vs, g, ce, oo, de, sz, tb⟩ := xn_at I e
  obtain ⟨_, mA, nm, r, wi⟩ := xd_at I ed
  have hz : (fs.map (·.1)).length ≤ sizeLine := by rw [List.length_map, sizeLine_eq]; omega
  refine set_x1 I.kIn c g ce (notCls_f de) oo nm n wi hz fun h' n' sb => h _ ?_
  have hd : ∃ o, h'.get? dx = some o := let ⟨o, _, _, e', _⟩ := n'; ⟨o, e'⟩
  refine I.write (x := dx) (e := dx) (by rw [ed]; exact True.intro) (.inl rfl) (fun b q hb z => (sb.2 b hb).trans z) hd ?_
  refine xd_ok (Nat.le_trans (length_putF f y fs) hl) n' (fun g => ?_) fun g hg => ?_
  · show RelO ((putF f y fs).lookup g) (if g = f then some u else mA g)
    rw [lookup_putF]
    by_cases q : g = f
    · rw [if_pos q, if_pos q]; exact ry
    · rw [if_neg q, if_neg q]; exact r g
  · by_cases q : g = f
    · rw [q]; exact (keys_putF f y fs).1
    · refine (keys_putF f y fs).2 g (wi g fun z => hg ?_)
      show (if g = f then some u else mA g) = none
      rw [if_neg q]; exact z
theorem xget_ok {b : Bool} {Q : Value → Shared → Prop} (I : Inv X pins σ H s) (e : H a = some (XO a C (some dx))) (ed : H dx = some (XD dx fs)) (c : XC X.K C) (n : PySem.W.findIn X.K (.ref C) f = some none) (l : fs.lookup f = some v)
    (h : ∀ u s', Inv X pins σ H s' → RelV v u → Q u s') : wpAny (model X.prog X.w) A (getAttr (.ref a) f b) Q E s := by
  obtain ⟨ox, vs, g, ce, oo, de⟩ := xo_at I e
  obtain ⟨_, mA, nm, r, wi⟩ := xd_at I ed
  obtain ⟨u, hu, ru⟩ := RelO.some_of (v := v) (o := mA f) (by rw [← l]; exact r f)
  obtain ⟨o1, g1, hl⟩ := lookIn_ns nm
  exact get_x I.kIn c g ce (notCls_f de) oo g1 (by rw [hl, hu]) n (handed_of ru) (h u _ (I.tok _) ru)
end
def sXF (K : PySem.W.Frag) (ta tv : TE) (f : Str) : TS := fun D σ H => tv σ H fun y H1 => ta σ H1 fun x H2 => ∃ a C, x = .ref a ∧ XC K C ∧ PySem.W.findIn K (.ref C) f = some none ∧
  ((H2 a = some (XN a C none) ∧ ∀ dx, H2 dx = none → D.nx σ (upd (upd H2 dx (XD dx [(f, y)])) a (XN a C (some dx)))) ∨
   ∃ dx fs, H2 a = some (XN a C (some dx)) ∧ H2 dx = some (XD dx fs) ∧ fs.length < 1000 ∧ D.nx σ (upd H2 dx (XD dx (putF f y fs))))
def tXF (K : PySem.W.Frag) (ta : TE) (f : Str) : TE := fun σ H Q => ta σ H fun x H1 => ∃ a C dx fs v, x = .ref a ∧ H1 a = some (XO a C (some dx)) ∧ H1 dx = some (XD dx fs) ∧ XC K C ∧ PySem.W.findIn K (.ref C) f = some none ∧ fs.lookup f = some v ∧ Q v H1
section
variable {X : Cx} {o e value : Expr} {f : Str} {pos pos' tpos : Pos} {ta tv te : TE}
theorem ps_xfld (ha : PE X o ta) (hv : PE X value tv) (hs : swapsWith value (some (.Attribute o f pos')) pos.line X.env = pure false) : PS X (.Assign [.Attribute o f pos'] value pos) (sXF X.K ta tv f) := by
  intro pins s σ H D I h
  refine plainObj_wpAny_Assign_Attribute (thn (hv pins s σ H _ I h) fun u s1 ⟨y, H1, I1, ry, q⟩ => thn (ha pins s1 σ H1 _ I1 q) fun ov s2 ⟨x, H2, I2, rx, a, C, ex, c, n, q2⟩ => ?_) hs
  subst ex
  obtain rfl : ov = Value.ref a := rx
  rcases q2 with ⟨ea, q2⟩ | ⟨dx, fs, ea, ed, hl, q2⟩
  · exact xset0_ok I2 ea c n ry fun dx s3 nd I3 => ⟨σ, _, I3, q2 dx nd⟩
  · exact xset1_ok I2 ea ed hl c n ry fun s3 I3 => ⟨σ, _, I3, q2⟩
theorem pe_xfld (he : PE X e te) (hb : attributeBase e f X.env (eval e X.env) = eval e X.env) : PE X (.Attribute e f pos) (tXF X.K te f) := by
  intro pins s σ H Q I h
  refine attr_of hb (thn (he pins s σ H _ I h) fun u s1 ⟨x, H1, I1, rx, a, C, dx, fs, v, ex, ea, ed, c, n, l, q⟩ => ?_)
  subst ex
  obtain rfl : u = Value.ref a := rx
  exact xget_ok I1 ea ed c n l fun u' s2 I2 ru => ⟨v, H1, I2, ru, q⟩
end
structure XMk (K : PySem.W.Frag) (C f : Addr) : Prop where
  makes : xmkIn K C = true
  init : PySem.W.findIn K (.ref C) "__init__" = some (some (.ref f))
  fn : PySem.W.isFn K (.ref f) = true
  kp : PySem.W.keepIn K (.ref C) = true
def tXMake (C : Addr) (sp : Sp) (dvs : List V) (t : TA) : TE := fun σ H Q => t σ H fun vs H1 => vs.length ≤ 1000 ∧ ∀ e, H1 e = none →
  sp (.ref e :: (vs ++ dvs)) (upd H1 e (XN e C none)) (fun v H2 => v = .non ∧ Q (.ref e) H2) (fun _ _ _ => False)
def tRaise (K : PySem.W.Frag) (te : TE) (E : St → XK) : TS := fun D σ H => te σ H fun v H1 => ∃ e C od, v = .ref e ∧ H1 e = some (XN e C od) ∧ xmkIn K C = true ∧ E σ e C (upd H1 e (XO e C od))
section
variable {X : Cx} {k : Nat} {f C : Addr} {fd : FuncData} {ps : List Str} {sp : Sp} {dvs : List V} {ds : List Value} {E : St → XK} {x m : Str} {p pos apos : Pos} {e o : Expr} {es : List Expr} {ta te : TE} {t : TA}
theorem run_xmake {pins : List (Addr × Obj)} {σ : St} {H : Hp} {s : Shared} {Q : VK} {us : List Value} {vs : List V} (M : XMk X.K C f) (F : FnOk q0 X.prog X.w X.K X.mg X.base (CXo X.prog X.w) k f fd ps sp) (hr : Room q0 (k + 1) X.A) (hb : Binds X.K fd ps ds) (hd : Vals dvs ds)
    (I : Inv X pins σ H s) (r : Vals vs us) (hl : vs.length ≤ 1000)
    (h : ∀ e, H e = none → sp (.ref e :: (vs ++ dvs)) (upd H e (XN e C none)) (fun v H2 => v = .non ∧ Q (.ref e) H2) (fun _ _ _ => False)) :
    wpAny (model X.prog X.w) X.A (call (.ref C) us) (EP X pins σ Q) X.xe s := by
  obtain ⟨nm, qn, N, bs, bm, hz, sn, sub, ab, col, dd, k0, k1, k2, k3, k5, gC, T⟩ := xmk_of I.kIn M.makes
  have ty : PySem.W.typeIn X.K (.ref f) = some (.type "function") := beq_iff_eq.mp M.fn
  obtain ⟨oI, gI, cI⟩ := Option.map_eq_some_iff.mp (show (X.K.lookup f).map (·.cls) = some (.type "function") from ty)
  have lu : us.length ≤ sizeLine := by
    have := r.length
    rw [← this, sizeLine_eq]
    omega
  obtain ⟨hh, gg, d, tk, os⟩ := s
  refine call_xinit PySem.F.excBase_ValueError T gC (fun A' Q' E' s' kk q => PySem.W.looks_findIn I.kIn M.init A' Q' E' s' kk q) (I.kIn _ _ gI) cI lu fun h' e hm se => ?_
  have hn : H e = none := I.hok.fresh se
  obtain ⟨t0, ge, _, _⟩ := hm.there
  have xa : Xat h' e (.ref C) none none := ⟨_, _, ge, rfl, rfl, rfl, by simp, .inl ⟨rfl, rfl⟩⟩
  have I2 : Inv X pins σ (upd H e (XN e C none)) ⟨h', gg, d, tk, os⟩ := I.laid (t' := tk) hm.keeps se (xn_ok xa)
  have hq := h e hn
  have r2 : Vals (V.ref e :: (vs ++ dvs)) (Value.ref e :: (us ++ ds)) := .cons rfl (r.append hd)
  have hl2 : (Value.ref e :: us ++ ds).length = ps.length := by
    have z := r2.length
    rw [F.len _ _ _ _ hq] at z
    exact z.symm
  refine wpAny_call (codeAny_mono (F.run _ X.stack _ _ ⟨Value.ref e :: us, []⟩ (Value.ref e :: (us ++ ds)) _ _ (fun _ _ _ => False) (hr.make C us [])
    (I2.env0.make C us []) (hb _ (Value.ref e :: us) I2.kIn hl2) r2 hq) fun r s' hq' => ?_)
  cases r with
  | error e' => exact (pass_none pins σ _ _ e' s' I2 hq')
  | ok fl =>
    cases fl with
    | ret u =>
      obtain ⟨v, H', I3, rv, ev, q3⟩ := I2.after hq'
      subst ev
      exact ⟨rv, ⟨V.ref e, H', I3, rfl, q3⟩⟩
    | next => exact False.elim hq'
    | brk => exact False.elim hq'
    | cont => exact False.elim hq'
theorem pe_xmake (M : XMk X.K C f) (F : FnOk q0 X.prog X.w X.K X.mg X.base (CXo X.prog X.w) k f fd ps sp) (hr : Room q0 (k + 1) X.A) (hg : Gl X x) (hm : X.mg x = some (.ref C)) (hb : Binds X.K fd ps ds) (hd : Vals dvs ds)
    (ha : PA X (e :: es) t) (hdb : (x == ("__debug__" : Str)) = false := by decide) (he : starEach (e :: es) X.env = (false, eval e X.env) :: starEach es X.env := by rfl) (hpl : (backTo pos (starEach es X.env)).any (·.1) = false := by rfl) :
    PE X (.Call (.Name x p) (e :: es) [] pos) (tXMake C sp dvs t) := by
  intro pins s σ H Q I h
  refine wpAny_Call_Name_kw (ld_glob I hg hm ?_ hdb)
  refine PySem.W.callWith_K (h₀ := X.base) I.ok.mod.kin M.kp (thn (ha pos pins s σ H _ I h) fun us s1 ⟨vs, H1, I1, r, hl, q⟩ => ⟨I1.kIn, ?_⟩) he hpl
  exact run_xmake M F hr hb hd I1 r hl q
theorem Inv.toXO {pins : List (Addr × Obj)} {σ : St} {H : Hp} {s : Shared} {e : Addr} {od : Option Addr} (I : Inv X pins σ H s) (h : H e = some (XN e C od)) : Inv X pins σ (upd H e (XO e C od)) s := by
  have x := xn_at I h
  obtain ⟨oe, _, ge, _⟩ := id x
  exact I.write (x := e) (e := e) (t' := s.toks) (by rw [h]; exact True.intro) (.inl rfl) (fun b u _ z => z) ⟨oe, ge⟩ (xo_ok (xat_xo x))
theorem tail_base {h : Heap} {bm : List Value} (T : OwnTail h vErr bm) : bm.contains (.type "BaseException") = true := T.hasType (by decide +kernel)
theorem ps_raise (hh : X.A.handled = none) (tk : Takes X E) (he : PE X e te) : PS X (.Raise (some e) none pos) (tRaise X.K te E) := by
  intro pins s σ H D I h
  rw [arm_exec_Raise]
  refine wpAny_bind (wpAny_standAt ?_)
  show wpAny _ _ (raiseStmt X.env (some (do let v ← eval e X.env; standAt pos; pure v)) none) _ _ s
  refine raise_x hh (wpAny_bind (thn (he pins s σ H _ I h) fun v s1 ⟨x, H1, I1, rx, a, C, od, ex, ea, mk, q⟩ => wpAny_bind (wpAny_standAt (wpAny_pure ?_))))
  subst ex
  obtain rfl : v = Value.ref a := rx
  obtain ⟨nm, qn, N, bs, bm, hz, sn, sub, ab, col, dd, k0, k1, k2, k3, k5, gC, T⟩ := xmk_of I1.kIn mk
  have x := xn_at I1 ea
  exact ⟨a, od, C, nm, qn, N, bs, bm, hz, sn, sub, ab, col, dd, k0, k1, k2, k3, k5, _, rfl, tail_base T, gC, x, tk pins σ _ s1 a C od none (I1.toXO ea) x upd_same (fun T' z => by cases z) q⟩
end
end L2
set_option maxRecDepth 100000
namespace XL
open PySem PySem.W
section
variable {M : Model} {A : Around} {E : Value → Shared → Prop} {s : Shared}
theorem flight_x {fs : List Addr} {e T : Addr} {cls : Value} {od : Option Addr} {Q : Unit → Shared → Prop} (x : Xat s.heap e cls od (some T)) (nf : ∀ b ∈ fs, b ≠ T)
    (k : ∀ h', Stp fs e (some T) s.heap h' → Xat h' e cls od (some T) → Q () { s with heap := h' }) : wpAny M A (setFlight (.ref e) none) Q E s := by
  obtain ⟨oe, vs, ge, ce, oo, de, se, y⟩ := x
  rcases y with ⟨z, _⟩ | ⟨T', oT, ts, z, h1, nTe, gT, dT, h3⟩
  · cases z
  · cases z
    unfold setFlight
    refine wpAny_bind (wpAny_field ge de h1 ?_)
    rw [if_pos (show (Value.ref T != Value.none) = true from by simp)]
    have z3 : 3 < ts.size := (Array.getElem?_eq_some_iff.mp h3).1
    have ot : ∀ b, b ≠ T → (s.heap.update T (Obj.mapFields (·.setIfInBounds 3 ((none : Option Addr).elim Value.none fun f => rawInt f)))).get? b = s.heap.get? b := fun b hb => Heap.get?_update_other _ _ (Ne.symm hb)
    refine wpAny_setField gT dT z3 (k _ ⟨fun b o hb _ bt _ => (ot b fun q => bt (congrArg some q.symm)).trans hb, fun b o hb bf => ⟨o.slots, (ot b (nf b bf)).trans hb⟩⟩ ?_)
    exact ⟨oe, vs, (ot e (Ne.symm nTe)).trans ge, ce, oo, de, se, .inr ⟨T, _, _, rfl, h1, nTe, Heap.get?_update_self _ gT (Obj.isFreed_of_fields (Obj.data_mapFields dT _)), Obj.data_mapFields dT _, by simp [z3]⟩⟩
variable {nm qn nm' qn' : Str} {C N C' N' : Addr} {bs bm bs' bm' : List Value} {hz hz' : Bool} {sn sn' : List Str} {sub sub' : List Value} {ab ab' : Bool} {col col' : Option Bool} {dd dd' : Option Addr} {k0 k1 k2 k3 k5 j0 j1 j2 j3 j5 : Option Value} {ni ni' : String}
theorem matches_own {h : Heap} {g : Array GenState} {d : Drawn} {t : Nat} {os : OsState} {e : Addr} {oe : Obj} {b : Bool} {Q : Bool → Shared → Prop}
    (gC : h.get? C = some (excClassObj nm qn C N bs bm hz sn sub ab col dd k0 k1 k2 k3 k5 ni)) (gC' : h.get? C' = some (excClassObj nm' qn' C' N' bs' bm' hz' sn' sub' ab' col' dd' j0 j1 j2 j3 j5 ni'))
    (ge : h.get? e = some oe) (ce : oe.cls = .ref C) (bB : bm'.contains (.type "BaseException") = true) (hm : (Value.ref C :: bm).contains (.ref C') = b)
    (k : Q b ⟨h, g, d, t, os⟩) : wpAny M A (excMatches (.ref e) (.ref C')) Q E ⟨h, g, d, t, os⟩ := by
  have mB : (Value.ref C' :: bm').contains (.type "BaseException") = true := by rw [List.contains_cons, bB, Bool.or_true]
  have nt := tc_notTuple
  unfold excMatches
  repeat (first | (with_reducible refine wpAny_loadPart_at ge ?_; rw [ce]) | with_reducible refine wpAny_loadPart_at gC' ?_ | (with_reducible refine wpAny_isSubtype_exc gC' ?_; rw [mB]) | (with_reducible refine wpAny_isSubtype_exc gC ?_; rw [hm]) | wp_step)
  cases b <;> (wp_walk; exact k)
end
end XL
namespace L2
open PySem PySem.Spec PyProof.Rows XL
variable {q0 : Bool}
abbrev Cx.tryc (X : Cx) (pins : List (Addr × Obj)) (xe : Value → Shared → Prop) : Cx := { X with xe := xe, pn := X.pn ++ pins }
abbrev Cx.hand (X : Cx) (e : Addr) : Cx := { X with A := X.A.mark (some (.ref e)), calm := false, xe := fun _ _ => False }
section
variable {X : Cx} {pins : List (Addr × Obj)} {σ : St} {H : Hp} {s : Shared}
theorem Cx.Ok.tryc (ok : X.Ok) (pins : List (Addr × Obj)) (xe : Value → Shared → Prop) : (X.tryc pins xe).Ok :=
  ⟨ok.mod, ok.kind, ok.glob, ok.blt, ok.above, ok.inj, ok.has, ok.cab, ok.hd, ok.frames, ok.stk, ok.exf, ok.bs, ok.bsz, ok.noex, ok.exfs, ok.funs, ok.frf⟩
theorem Cx.Ok.untryc {xe : Value → Shared → Prop} (ok : (X.tryc pins xe).Ok) : X.Ok :=
  ⟨ok.mod, ok.kind, ok.glob, ok.blt, ok.above, ok.inj, ok.has, ok.cab, ok.hd, ok.frames, ok.stk, ok.exf, ok.bs, ok.bsz, ok.noex, ok.exfs, ok.funs, ok.frf⟩
theorem Cx.Ok.hand (ok : X.Ok) (e : Addr) : (X.hand e).Ok :=
  ⟨ok.mod, ok.kind, ok.glob, ok.blt, ok.above, ok.inj, ok.has, ok.cab, (fun z => nomatch z), ok.frames, ok.stk, ok.exf, ok.bs, ok.bsz, ok.noex, ok.exfs, ok.funs, ok.frf⟩
theorem Inv.tryc (I : Inv X pins σ H s) (xe : Value → Shared → Prop) : Inv (X.tryc pins xe) [] σ H s :=
  ⟨I.ok.tryc pins xe, I.os, I.bare, I.base, I.loc, I.cell, I.free, I.freeC, fun p hp => I.pin p (by simpa using hp), I.hok, I.len⟩
theorem Inv.untryc {xe : Value → Shared → Prop} {pl : List (Addr × Obj)} (I : Inv (X.tryc pins xe) pl σ H s) : Inv X pins σ H s :=
  ⟨I.ok.untryc, I.os, I.bare, I.base, I.loc, I.cell, I.free, I.freeC, fun p hp => I.pin p (List.mem_append_left _ hp), I.hok, I.len⟩
theorem Inv.hand (I : Inv X pins σ H s) (e : Addr) : Inv (X.hand e) pins σ H s :=
  ⟨I.ok.hand e, I.os, I.bare, I.base, I.loc, I.cell, I.free, I.freeC, I.pin, I.hok, I.len⟩
theorem Inv.unhand {e : Addr} (ok : X.Ok) (I : Inv (X.hand e) pins σ H s) : Inv X pins σ H s :=
  ⟨ok, I.os, I.bare, I.base, I.loc, I.cell, I.free, I.freeC, I.pin, I.hok, I.len⟩
theorem Inv.gone {h' : Heap} {m m' : Str → Option Value} {n : Str} {j t' : Nat} (I : Inv X pins σ H s) (hN : X.N.Nodup) (hj : X.N[j]? = some n) (hl : X.env.scope.names.lookup n = some .local)
    (hm : s.heap.Ns X.env.locals m) (hv : ∀ (i : Nat) (x : Str) (v : V), X.N[i]? = some x → σ[i]? = some (some v) → Vis X.env.scope x → ∃ u, RelV v u ∧ Look X.env s.heap m x u)
    (n' : h'.Ns X.env.locals m') (e' : ∀ y, y ≠ n → m' y = m y) (sb : Heap.SameBut X.env.locals s.heap h') : Inv X pins (σ.set j none) H { s with heap := h', toks := t' } := by
  have kp : ∀ b o, b ≠ X.env.locals → s.heap.get? b = some o → h'.get? b = some o := fun b o nb g => (sb.2 b nb).trans g
  have neL : ∀ b o, X.s₀.heap.get? b = some o → b ≠ X.env.locals := fun b o e => Nat.ne_of_lt (Nat.lt_of_lt_of_le (Heap.lt_size e) I.ok.above)
  have trk : ∀ b u, H b = some u → b ≠ X.env.locals := fun b u hb z => by rw [z, I.free] at hb; cases hb
  refine ⟨I.ok, I.os, I.bare, ⟨fun b o e n hb hx => kp b o (neL b o e) (I.base.keep b o e n hb hx), fun b o e n hb hx => ?_, fun b o e n hx => I.base.free b o e n hx, fun b o e hx => ?_, I.base.tups, I.base.frzs, I.base.tbls⟩,
    ⟨m', n', fun i x v e1 e2 e3 => ?_⟩, fun x c e => ?_, I.free, I.freeC, fun p hp => ?_, fun b u hb => ?_, by rw [List.length_set]; exact I.len⟩
  · obtain ⟨sl, q⟩ := I.base.slot b o e n hb hx
    exact ⟨sl, kp b _ (neL b o e) q⟩
  · obtain ⟨o', q⟩ := I.base.there b o e hx
    exact ⟨o', kp b o' (neL b o e) q⟩
  · have nij : i ≠ j := fun z => by
      subst z
      have hl2 : i < σ.length := by rw [I.len]; exact (List.getElem?_eq_some_iff.mp hj).1
      rw [List.getElem?_set_self hl2] at e2
      cases e2
    rw [List.getElem?_set_ne (Ne.symm nij)] at e2
    have nx : x ≠ n := fun z => nij (nodup_ix hN e1 (by rw [z]; exact hj))
    obtain ⟨u, r, l⟩ := hv i x v e1 e2 e3
    refine ⟨u, r, ?_⟩
    rcases l with ⟨k, z⟩ | ⟨k, c, e, o, ho, hd⟩
    · exact .inl ⟨k, by rw [e' x nx]; exact z⟩
    · exact .inr ⟨k, c, e, o, kp c o (I.cne x c e) ho, hd⟩
  · obtain ⟨v, o, ho, hd⟩ := I.cell x c e
    exact ⟨v, o, kp c o (I.cne x c e) ho, hd⟩
  · obtain ⟨e, a, ne, nf, d⟩ := I.pin p hp
    exact ⟨kp p.1 p.2 ne e, a, ne, nf, d⟩
  · refine (I.hok b u hb).stay (fun c v hc q => ?_) (fun c q => q) fun c xs q => q
    rcases hc with rfl | hc
    · exact kp c v (trk c u hb) q
    · exact kp c v (trk c _ hc) q
end
def endH (D : Ends) (j : Nat) : Ends := { nx := fun σ H => D.nx (σ.set j none) H, rt := D.rt, bk := fun σ H => D.bk (σ.set j none) H, ct := fun σ H => D.ct (σ.set j none) H }
def tTry (K : PySem.W.Frag) (C0 : Addr) (j : Nat) (E : St → XK) (tb th : TS) : TS := fun D σ H => tb D σ H ∧ ∀ σ' e C H', E σ' e C H' → xmkIn K C = true ∧ PySem.W.mroIn K C (.ref C0) = some true ∧ th (endH D j) (σ'.set j (some (.ref e))) H'
section
variable {X : Cx} {pos np hpos : Pos} {body hbody : List Stmt} {b0 : Stmt} {cx n : Str} {C0 : Addr} {j : Nat} {E : St → XK} {tb th : TS}
theorem ps_try (hg : Gl X cx) (hm : X.mg cx = some (.ref C0)) (mk0 : xmkIn X.K C0 = true) (hN : X.N.Nodup) (hj : X.N[j]? = some n) (hl : X.env.scope.names.lookup n = some .local) (hf : X.env.frame = some X.env.locals) (hst : X.stack = X.env :: X.outer)
    (hb : ∀ pins xe, Takes (X.tryc pins xe) E → PSs (X.tryc pins xe) body tb) (hh : ∀ e, PSs (X.hand e) (b0 :: hbody) th) (hdb : (cx == ("__debug__" : Str)) = false := by decide) :
    PS X (.Try body [.ExceptHandler (some (.Name cx np)) (some n) (b0 :: hbody) hpos] [] [] pos) (tTry X.K C0 j E tb th) := by
  intro pins s σ H D I ⟨h1, h2⟩
  refine wpAny_Try_except ?_
  have ok := I.ok
  have T : Takes (X.tryc pins (fun e s₁ => wpAny (model X.prog X.w) X.A (noteFrame e X.env) (fun _ s₂ => wpAny (model X.prog X.w) X.A (setFlight e none) (fun _ s₃ => wpAny (model X.prog X.w) X.A (handleBy e X.env [.ExceptHandler (some (.Name cx np)) (some n) (b0 :: hbody) hpos]) (SP X pins D) X.xe s₃) X.xe s₂) X.xe s₁)) E := by
    intro pl σ' H' s' e C od tb' I' x he tbs q
    have J := I'.untryc
    have tbs' : Tbs X pins H' tb' := fun T z => by
      obtain ⟨a1, a2, a3, a4, a5⟩ := tbs T z
      exact ⟨a1, a2, a3, a4, fun p hp => a5 p (List.mem_append_left _ hp)⟩
    obtain ⟨mkC, mro, hth⟩ := h2 σ' e C H' q
    have fr : X.A.frames = some (X.env :: X.outer) := by rw [← hst]; exact J.ok.frames
    have ff : s'.heap.FunFrames X.base (X.env :: X.outer) := by rw [← hst]; exact J.stack
    refine note_x (L := X.env.locals) fr ff hf x fun h' T st sT x' => ?_
    rw [← hst] at st
    have J2 := J.noted he tbs' st x'
    have fr2 : X.base.objs.size ≤ s'.heap.objs.size := Nat.le_trans J.ok.bsz J.sz
    have ff2 : h'.FunFrames X.base X.stack := J2.stack
    have nT : ∀ b ∈ frs X.stack, b ≠ T := fun b hb z => by
      obtain ⟨_, o, ho, hnf⟩ := J.stack.mem hb
      rw [z] at ho
      exact absurd (Heap.lt_size ho) (Nat.not_lt.mpr sT)
    have fresh := J.size_lt sT
    have tbs2 : Tbs X pins H' (some T) := fun T' z => by
      cases z
      exact ⟨Nat.le_trans J.sz sT, fresh.1, fresh.2.1, fresh.2.2.1, fresh.2.2.2⟩
    obtain ⟨nm, qn, N, bs, bm, hz, sn, sub, ab, col, dd, k0, k1, k2, k3, k5, gC, TC⟩ := xmk_of J2.kIn mkC
    obtain ⟨nm', qn', N', bs', bm', hz', sn', sub', ab', col', dd', j0, j1, j2, j3, j5, gC0, TC0⟩ := xmk_of J2.kIn mk0
    refine wpAny_handleBy_cons (codeAny_handlers_test (ld_glob (X := X.hand e) (J2.hand e) hg hm ?_ hdb)) (by intro z; cases z)
    obtain ⟨oe, _, ge, ce, _⟩ := id x'
    have hmr : (Value.ref C :: bm).contains (.ref C0) = true := by
      obtain ⟨cd, e1, e2⟩ := Option.bind_eq_some_iff.mp mro
      have e3 : (Value.ref C :: bm) = cd.mro := by
        unfold PySem.W.clsIn at e1
        split at e1
        · rename_i c1 d1 cd1 sl1 ho
          cases e1
          have z := (J2.kIn _ _ ho).symm.trans gC
          injection z with z
          injection z with _ _ z _
          injection z with z
          rw [z]
        · cases e1
      rw [e3]
      split at e2
      · cases e2
      · exact Option.some.inj e2
    refine matches_own (M := model X.prog X.w) gC gC0 ge ce (tail_base TC0) hmr ?_
    show codeAny _ _ _ _ _
    refine codeAny_handlers_suite_as (flight_x (fs := frs X.stack) x' nT fun h3 st3 x3 => ?_)
    have J3 : Inv X pins σ' H' { s' with heap := h3 } := J2.noted he tbs2 st3 x3
    refine store_ok (v := V.ref e) J3 hN hj (.inl hl) rfl (fun s4 J4 => ?_) (.inr hl)
    refine wpAny_mono (hh e pins s4 _ H' _ (J4.hand e) hth) (fun f s5 q5 => ?_) fun _ _ z => z.elim
    have fin : ∀ {σ5 : St} {H5 : Hp} {Q : Unit → Shared → Prop}, Inv (X.hand e) pins σ5 H5 s5 → (∀ s6, Inv X pins (σ5.set j none) H5 s6 → Q () s6) →
        wpAny (model X.prog X.w) X.A (do bindName X.env n Value.none; unbindBehindTheSuite X.env n hpos) Q X.xe s5 := fun {σ5 H5 Q} K5 kq => by
      have K6 : Inv X pins σ5 H5 s5 := Inv.unhand ok K5
      obtain ⟨m, hm5, hv5⟩ := K6.loc
      refine name_gone (show X.env.kindOf n = some .local from hl) hm5 (by simp [ok.kind]) fun h6 m6 n6 e6 s6 => kq _ (K6.gone hN hj hl hm5 hv5 n6 e6 s6)
    cases f with
    | next =>
      obtain ⟨σ5, H5, K5, z⟩ := q5
      exact fin K5 fun s6 K6 => ⟨_, H5, K6, z⟩
    | brk =>
      obtain ⟨σ5, H5, K5, z⟩ := q5
      exact fin K5 fun s6 K6 => ⟨_, H5, K6, z⟩
    | cont =>
      obtain ⟨σ5, H5, K5, z⟩ := q5
      exact fin K5 fun s6 K6 => ⟨_, H5, K6, z⟩
    | ret u =>
      obtain ⟨v, σ5, H5, K5, r, z⟩ := q5
      exact fin K5 fun s6 K6 => ⟨v, _, H5, K6, r, z⟩
  refine wpAny_mono (hb pins _ T [] s σ H D (I.tryc _) h1) (fun f s1 q => ?_) fun u s1 q => q
  cases f with
  | next =>
    obtain ⟨σ', H', J, z⟩ := q
    exact wpAny_execs_nil ⟨σ', H', J.untryc, z⟩
  | brk =>
    obtain ⟨σ', H', J, z⟩ := q
    exact ⟨σ', H', J.untryc, z⟩
  | cont =>
    obtain ⟨σ', H', J, z⟩ := q
    exact ⟨σ', H', J.untryc, z⟩
  | ret u =>
    obtain ⟨v, σ', H', J, r, z⟩ := q
    exact ⟨v, σ', H', J.untryc, r, z⟩
end
end L2
set_option maxRecDepth 100000
namespace XL
open PySem PySem.W
theorem kitx_x {K : Frag} {x C : Addr} (c : XC K C) : KitX K (.ref x) (.ref C) (fun h => ∃ ox od, InstAt h x ox C od) where
  ty := fun _ _ _ ⟨_, _, I⟩ => I.type
  it := fun _ _ X _ => by
    obtain ⟨cd, hc, _, _⟩ := c.mro
    unfold clsIn at hc
    split at hc
    · rename_i c' d' cd' sl' ho
      intro A' Q' E' s' k q
      unfold isType loadHead
      exact wpAny_bind (wpAny_loadPart (k _ _ (X _ _ ho)) (wpAny_pure q))
    · cases hc
  ne := fun h tp dd its n sl X htp => by
    obtain ⟨cd, hc, _, _⟩ := c.mro
    refine Bool.eq_false_iff.mpr fun q => ?_
    have e : C = tp := Value.ref.inj (beq_iff_eq.mp q)
    subst e
    unfold clsIn at hc
    split at hc
    · rename_i c' d' cd' sl' ho
      have z := (X _ _ ho).symm.trans htp
      cases z
    · cases hc
  ca := fun X ⟨ox, od, I⟩ k => get_xcls X c I k
end XL
namespace L2
open PySem PySem.Spec PyProof.Rows XL
variable {q0 : Bool}
def clsV : V → Option Value
  | .ty n => some (.type n)
  | .ref a => some (.ref a)
  | _ => none
theorem clsV_rel {c : V} {u cv : Value} (e : clsV c = some cv) (r : RelV c u) : u = cv := by
  cases c <;> first | (cases e; exact r) | cases e
def clsVs : List V → Option (List Value)
  | [] => some []
  | c :: r => (clsV c).bind fun a => (clsVs r).map (a :: ·)
theorem clsVs_rel : ∀ {cs : List V} {us cv : List Value}, clsVs cs = some cv → Vals cs us → us = cv
  | [], _, _, e, .nil => by cases e; rfl
  | c :: r, _, _, e, .cons rc rr => by
    obtain ⟨a, e1, e2⟩ := Option.bind_eq_some_iff.mp e
    obtain ⟨b, e3, rfl⟩ := Option.map_eq_some_iff.mp e2
    rw [clsV_rel e1 rc, clsVs_rel e3 rr]
section
variable {X : Cx} {pins : List (Addr × Obj)} {σ : St} {H : Hp} {s : Shared} {A : Around} {E : Value → Shared → Prop} {Q : Value → Shared → Prop}
theorem xo_inst {a C : Addr} {od : Option Addr} (I : Inv X pins σ H s) (h : H a = some (XO a C od)) (hd : ∀ d, od = some d → ∃ o, s.heap.get? d = some o) : ∃ ox odx, PySem.W.InstAt s.heap a ox C odx := by
  obtain ⟨ox, vs, g, ce, oo, de⟩ := xo_at I h
  cases e : od with
  | none => exact ⟨ox, none, g, ce, notCls_f de, by rw [oo, e]; trivial⟩
  | some d =>
    obtain ⟨o, go⟩ := hd d e
    exact ⟨ox, some o, g, ce, notCls_f de, by rw [oo, e]; exact go⟩
end
def rIsin (K : PySem.W.Frag) : List V → Hp → VK → Prop := fun xs H Q => ∃ x c, xs = [x, c] ∧ ((∃ t cv b, TyOf K H x t ∧ clsV c = some cv ∧ PySem.W.kitOne K t cv = some b ∧ Q (.bl b) H) ∨
  (∃ a C od cv b, x = .ref a ∧ H a = some (XO a C od) ∧ (∀ d, od = some d → ∃ fs, H d = some (XD d fs)) ∧ XC K C ∧ clsV c = some cv ∧ PySem.W.kitOne K (.ref C) cv = some b ∧ Q (.bl b) H) ∨
  (∃ a C od p cs cv b, x = .ref a ∧ H a = some (XO a C od) ∧ (∀ d, od = some d → ∃ fs, H d = some (XD d fs)) ∧ XC K C ∧ c = .ref p ∧ SqT K H p cs ∧ clsVs cs = some cv ∧ PySem.W.kitAny K (.ref C) cv = some b ∧ Q (.bl b) H))
section
variable {X : Cx}
theorem call_isin : CallR X (.builtin "isinstance") (rIsin X.K) := by
  intro pins s σ H us xs Q I r h
  obtain ⟨x, c, rfl, h⟩ := h
  obtain ⟨u, v, rfl, ru, rv⟩ := vals2 r
  rcases h with ⟨t, cv, b, ty, ec, ek, q⟩ | ⟨a, C, od, cv, b, rfl, ha, hd, xc, ec, ek, q⟩ | ⟨a, C, od, p, cs, cv, b, rfl, ha, hd, xc, rfl, hp, ec, ek, q⟩
  · obtain rfl := clsV_rel ec rv
    exact isinst_ok I ru ty ek fun tk => ⟨.bl b, H, I.tok tk, rfl, q⟩
  · obtain rfl := clsV_rel ec rv
    obtain rfl : u = Value.ref a := ru
    refine PySem.W.kia_one (kitx_x xc) I.kIn (xo_inst I ha fun d e => ?_) ek (fun z => nomatch z) fun tk => ⟨.bl b, H, I.tok tk, rfl, q⟩
    obtain ⟨fs, hw⟩ := hd d e
    obtain ⟨_, _, ⟨o, _, _, go, _⟩, _⟩ := xd_at I hw
    exact ⟨o, go⟩
  · obtain rfl : u = Value.ref a := ru
    obtain rfl : v = Value.ref p := rv
    obtain ⟨its, vi, it, _⟩ := I.tuple hp
    obtain rfl := clsVs_rel ec vi
    obtain ⟨o, g, oc, n, od'⟩ := it
    obtain ⟨c1, d1, dt1, sl1⟩ := o
    dsimp only at oc od'
    subst oc od'
    refine PySem.W.kia_tup (kitx_x xc) I.kIn (xo_inst I ha fun d e => ?_) g ek (fun z => nomatch z) fun tk => ⟨.bl b, H, I.tok tk, rfl, q⟩
    obtain ⟨fs, hw⟩ := hd d e
    obtain ⟨_, _, ⟨o, _, _, go, _⟩, _⟩ := xd_at I hw
    exact ⟨o, go⟩
end
end L2
set_option maxRecDepth 100000
namespace L2
open PySem PySem.Spec PyProof.Rows XL
variable {q0 : Bool}
def frees (scope : Scope) : List Str := (scope.names.filter fun x => x.2 == .free).map (·.1)
def Cx.clo (X : Cx) (scope : Scope) : List (Str × Addr) := (frees scope).reverse.map fun n => (n, (X.env.cells.lookup n).getD 0)
theorem closure_of {env : Env} {f : Str → Addr} : ∀ (l : List (Str × NameKind)) (acc : List (Str × Addr)), (∀ x ∈ l, x.2 = .free → env.cells.lookup x.1 = some (f x.1)) →
    (forIn l acc fun x cs => (if x.2 == .free then do let c ← cellOf env x.1; pure (ForInStep.yield ((x.1, c) :: cs)) else pure (ForInStep.yield cs) : Sem (ForInStep (List (Str × Addr))))) =
      pure ((((l.filter fun x => x.2 == .free).map (·.1)).reverse.map fun n => (n, f n)) ++ acc)
  | [], acc, _ => rfl
  | x :: r, acc, h => by
    have ih := fun a => closure_of r a fun y hy => h y (List.mem_cons_of_mem _ hy)
    rw [List.forIn_cons]
    by_cases q : x.2 = .free
    · have e := h x List.mem_cons_self q
      have qb : (x.2 == NameKind.free) = true := by rw [q]; rfl
      rw [if_pos qb, List.filter_cons, if_pos qb]
      have ec : cellOf env x.1 = pure (f x.1) := by unfold cellOf; rw [e]
      rw [ec]
      simp only [pure_bind]
      rw [ih]
      simp
    · have qb : (x.2 == NameKind.free) = false := by simpa using q
      rw [if_neg (by rw [qb]; decide), List.filter_cons, if_neg (by rw [qb]; decide)]
      simp only [pure_bind]
      rw [ih]
theorem clo_of {X : Cx} {scope : Scope} (h : ∀ n ∈ frees scope, ∃ c, X.env.cells.lookup n = some c) : closureFor scope X.env = pure (X.clo scope) := by
  unfold closureFor
  have z := closure_of (env := X.env) (f := fun n => (X.env.cells.lookup n).getD 0) scope.names [] fun x hx hf => by
    obtain ⟨c, e⟩ := h x.1 (List.mem_map.mpr ⟨x, List.mem_filter.mpr ⟨hx, by simp [hf]⟩, rfl⟩)
    rw [e]
    rfl
  rw [List.append_nil] at z
  refine (bind_pure (m := Sem) _).trans ?_
  exact z
theorem clo_mem {X : Cx} {scope : Scope} {n : Str} {c : Addr} (h : (X.clo scope).lookup n = some c) : n ∈ frees scope ∧ c = (X.env.cells.lookup n).getD 0 := by
  have z := PySem.mem_of_lookup h
  unfold Cx.clo at z
  obtain ⟨y, hy, e⟩ := List.mem_map.mp z
  injection e with e1 e2
  subst e1
  exact ⟨List.mem_reverse.mp hy, e2.symm⟩
theorem lookup_map_self {f : Str → Addr} {n : Str} : ∀ {l : List Str}, n ∈ l → (l.map fun y => (y, f y)).lookup n = some (f n)
  | [], h => by simp at h
  | y :: r, h => by
    rw [List.map_cons, List.lookup_cons]
    by_cases q : n = y
    · subst q
      simp
    · rw [show (n == y) = false from by simpa using q]
      exact lookup_map_self ((List.mem_cons.mp h).resolve_left q)
theorem clo_get {X : Cx} {scope : Scope} {n : Str} {c : Addr} (hn : n ∈ frees scope) (h : X.env.cells.lookup n = some c) : (X.clo scope).lookup n = some c := by
  have z := lookup_map_self (f := fun n => (X.env.cells.lookup n).getD 0) (List.mem_reverse.mpr hn)
  unfold Cx.clo
  rw [z, h]
  rfl
section
variable {X : Cx} {pins : List (Addr × Obj)} {σ : St} {H : Hp} {s : Shared} {scope : Scope} {x : Str} {ys : List Str} {fr : List Nat} {fp : List Addr}
end
section
variable {X : Cx} {pins : List (Addr × Obj)} {σ : St} {H : Hp} {s : Shared} {scope : Scope} {x : Str} {ys : List Str} {fr : List Nat} {fp : List Addr}
end
def tTrue : TT := fun _ H Q => Q true H
def PIf (X : Cx) (ifs : List Expr) (t : TT) : Prop :=
  ∀ (pins : List (Addr × Obj)) (s : Shared) (σ : St) (H : Hp) (Q : Bool → Hp → Prop), Inv X pins σ H s → t σ H Q →
    wpAny (model X.prog X.w) X.A (forIn ifs true fun c r => if r = true then do let ok ← isTrue c X.env (eval c X.env); pure (ForInStep.yield ok) else pure (ForInStep.yield r)) (TP X pins σ Q) X.xe s
theorem pif_nil {X : Cx} : PIf X [] tTrue := fun pins s σ H Q I h => wpAny_pure ⟨H, I, h⟩
theorem pif_one {X : Cx} {c : Expr} {t : TT} (hc : PT X c t) : PIf X [c] t := fun pins s σ H Q I h => by
  rw [List.forIn_cons]
  refine wpAny_bind ?_
  rw [if_pos rfl]
  refine wpAny_bind (wpAny_mono (hc pins s σ H Q I h) (fun b s1 q => wpAny_pure ?_) fun _ _ z => z)
  exact wpAny_pure q
section
variable {X : Cx} {scope : Scope} {x : Str} {ys : List Str} {fr : List Nat} {elt iter : Expr} {ifs : List Expr} {px pos : Pos} {wi : TI} {tc : TT} {te : TE}
end
end L2
set_option maxRecDepth 100000
namespace L2
open PySem PySem.Spec PyProof.Rows XL
variable {q0 : Bool}
theorem relab_has {env : Env} {scope : Scope} (nc : ∀ y ∈ scope.names, y.2 ≠ .cell) (n : Str) (h : (relabel scope env).names.lookup n = some .cell ∨ (relabel scope env).names.lookup n = some .free) : n ∈ frees scope := by
  have key : ∀ k, (relabel scope env).names.lookup n = some k → (k = .cell ∨ k = .free) → n ∈ frees scope := fun k e hk => by
    obtain ⟨y, hy, ey⟩ := List.mem_map.mp (PySem.mem_of_lookup e)
    obtain ⟨m, j⟩ := y
    dsimp only at ey
    split at ey
    · rename_i q
      injection ey with e1 e2
      subst e1
      have : j = .free := by
        simp only [Bool.and_eq_true, beq_iff_eq] at q
        exact q.1.1
      subst this
      exact List.mem_map.mpr ⟨_, List.mem_filter.mpr ⟨hy, by simp⟩, rfl⟩
    · injection ey with e1 e2
      subst e1 e2
      rcases hk with z | z
      · exact absurd z (nc _ hy)
      · subst z
        exact List.mem_map.mpr ⟨_, List.mem_filter.mpr ⟨hy, by simp⟩, rfl⟩
  rcases h with h | h
  · exact key _ h (.inl rfl)
  · exact key _ h (.inr rfl)
theorem relab_free {env : Env} {scope : Scope} {n : Str} (h : scope.names.lookup n = some .free) : (relabel scope env).names.lookup n = some .cell ∨ (relabel scope env).names.lookup n = some .free := by
  have key : ∀ (l : List (Str × NameKind)), l.lookup n = some .free → (l.map fun (m, k) => if (k == NameKind.free && env.scope.kind == .function && env.kindOf m == some .cell) then (m, NameKind.cell) else (m, k)).lookup n = some .cell ∨
      (l.map fun (m, k) => if (k == NameKind.free && env.scope.kind == .function && env.kindOf m == some .cell) then (m, NameKind.cell) else (m, k)).lookup n = some .free := fun l => by
    induction l with
    | nil => intro e; simp at e
    | cons y r ih =>
      intro e
      obtain ⟨m, k⟩ := y
      rw [List.map_cons]
      rw [List.lookup_cons] at e
      cases q : n == m with
      | true =>
        rw [q] at e
        cases e
        dsimp only
        split
        · left; rw [List.lookup_cons, q]
        · right; rw [List.lookup_cons, q]
      | false =>
        rw [q] at e
        have z := ih e
        dsimp only
        split <;> (rw [List.lookup_cons, q]; exact z)
  exact key _ h
section
variable {P : Program} {w : World} {K : PySem.W.Frag} {mg : Str → Option Value} {base : Heap}
theorem Fun.okx {x qual : Str} {st : Stmt} {f : Addr} {fd : FuncData} {N ps : List Str} {k : Nat} {sp : Sp} (F : Fun K x qual st f fd) (S : FnScope N ps (defScope st)) (len : ∀ vs H Q E, sp vs H Q E → vs.length = ps.length)
    (hbody : ∀ (cdv : Value) (A : Around) (outer : List Env) (s : Shared) (H : Hp) (vs : List V) (Q : VK) (E : XK), Room q0 k (A.deeper (envOfC qual (defScope st) s.heap.objs.size f cdv)) → sp vs H Q E →
      ∃ t, PSs (cxOf q0 (CXo P w) P w K mg base N qual (defScope st) f cdv A outer s H E) (defBody st) t ∧ t { nx := fun _ H' => Q .non H', rt := Q } (start N vs) H) : FnOk q0 P w K mg base (CXo P w) (k + 1) f fd ps sp := by
  obtain ⟨oc, od, kV, doc, pm, an, cdv, ct, osl, rfl, lk, hcd⟩ := F.ex
  exact fn_of lk hcd S len fun A outer s H vs Q E hr hsp => hbody cdv A outer s H vs Q E hr hsp
theorem Fun.okn {x qual : Str} {st : Stmt} {f : Addr} {fd : FuncData} {N ps : List Str} {k : Nat} {sp : Sp} (F : Fun K x qual st f fd) (S : FnScope N ps (defScope st)) (len : ∀ vs H Q E, sp vs H Q E → vs.length = ps.length)
    (hbody : ∀ (cdv : Value) (A : Around) (outer : List Env) (s : Shared) (H : Hp) (vs : List V) (Q : VK) (E : XK), Room q0 k (A.deeper (envOfC qual (defScope st) s.heap.objs.size f cdv)) → sp vs H Q E →
      ∃ t, PSs (cxOf q0 (CXo P w) P w K mg base N qual (defScope st) f cdv A outer s H E).nox (defBody st) t ∧ t { nx := fun _ H' => Q .non H', rt := Q } (start N vs) H) : FnOk q0 P w K mg base (CXo P w) (k + 1) f fd ps sp := by
  obtain ⟨oc, od, kV, doc, pm, an, cdv, ct, osl, rfl, lk, hcd⟩ := F.ex
  refine fn_of lk hcd S len fun A outer s H vs Q E hr hsp => ?_
  obtain ⟨t, h, q⟩ := hbody cdv A outer s H vs Q E hr hsp
  exact ⟨t, h.nox, q⟩
end
end L2
set_option maxRecDepth 100000
namespace L2
open PySem PySem.Spec PyProof.Rows XL
theorem ifP {b : Bool} {A B : Prop} (h : b = true) (q : A) : if b = true then A else B := by
  rw [if_pos h]
  exact q
theorem ifN {b : Bool} {A B : Prop} (h : b = false) (q : B) : if b = true then A else B := by
  rw [if_neg (by rw [h]; decide)]
  exact q
end L2
set_option maxRecDepth 100000
namespace L2
open PySem PySem.Spec PyProof.Rows XL
section
variable {X : Cx}
theorem op_le_str : OpR X (compareOp .LtE) (fun x y H Q => ∃ i j, x = .str i ∧ y = .str j ∧ Q (.bl (!decide (j.cps.toList < i.cps.toList))) H) := by
  intro pins s σ H x y v u Q I rx ry h
  obtain ⟨i, j, rfl, rfl, q⟩ := h
  obtain ⟨t, rfl⟩ := rx
  obtain ⟨t', rfl⟩ := ry
  exact PySem.P.le_str (fin_bl I q rfl)
theorem call_range2 : CallR X (.type "range") (fun xs H Q => ∃ i j, xs = [.int i, .int j] ∧ ∀ p, H p = none → Q (.ref p) (upd H p (.rng i j))) := by
  intro pins s σ H xs us Q I r h
  obtain ⟨i, j, rfl, q⟩ := h
  obtain ⟨u, w', rfl, ⟨t, rfl⟩, ⟨t', rfl⟩⟩ := vals2 r
  refine call_range_2 ⟨.ref s.heap.objs.size, _, I.laid (t' := s.toks + 1) (fun b o e => Heap.get?_push_of_some _ e) (Nat.le_refl _) (show ObjOk X.prog X.w _ _ _ (.rng i j) from ⟨_, _, _, Heap.get?_push_size _ rfl⟩), rfl, q _ (I.hok.fresh (Nat.le_refl _))⟩
end
end L2
set_option maxRecDepth 100000
namespace L2
open PySem PySem.Spec PyProof.Rows
variable {q0 : Bool}
section
variable {X : Cx}
theorem vals_of : ∀ {us : List Value} {ys : List V}, us.length = ys.length → (∀ (j : Nat) (y : V) (u : Value), ys[j]? = some y → us[j]? = some u → RelV y u) → Vals ys us
  | [], [], _, _ => .nil
  | u :: us, y :: ys, hl, h => .cons (h 0 y u rfl rfl) (vals_of (Nat.succ.inj hl) fun j y' u' e e' => h (j + 1) y' u' e e')
def rngL (lo hi : Int) : List V := (List.range (hi - lo).toNat).map fun (i : Nat) => V.int (lo + (i : Int))
theorem call_list_rng (hc : X.calm = true) : CallR X (.type "list") (fun xs H Q => ∃ p lo hi, xs = [.ref p] ∧ H p = some (.rng lo hi) ∧ (-(2 ^ 62) ≤ lo ∧ lo < 2 ^ 62 ∧ -(2 ^ 62) ≤ hi ∧ hi < 2 ^ 62) ∧ (hi - lo).toNat ≤ 1000 ∧
    ∀ l, H l = none → Q (.ref l) (upd H l (.lst (rngL lo hi)))) := by
  intro pins s σ H xs us Q I r h
  obtain ⟨p, lo, hi, rfl, hp, ⟨h1, h2, h3, h4⟩, hn, q⟩ := h
  obtain ⟨u, rfl, rx⟩ := vals1 r
  cases rx
  obtain ⟨t1, t2, t3, g⟩ := (show ObjOk X.prog X.w H s.heap p (.rng lo hi) from I.hok p _ hp)
  refine call_list_range (I.ok.hd hc) g (small_one h1 h2 h3 h4) (n := (hi - lo).toNat) (by rw [rangeSize_one]; split <;> omega) (Nat.le_trans hn (by decide)) fun h' tk acc' c' kp e it => ?_
  have len : acc'.toList.length = (rngL lo hi).length := by rw [rngL, List.length_map, List.length_range]; exact it.1
  refine ⟨.ref s.heap.objs.size, _, I.laid (t' := tk) kp (Nat.le_refl _) (show ObjOk X.prog X.w _ h' _ (.lst (rngL lo hi)) from ⟨?_, acc'.toList, c', vals_of len fun j y u ey eu => ?_, by simpa using e⟩), rfl, q _ (I.hok.fresh (Nat.le_refl _))⟩
  · rw [rngL, List.length_map, List.length_range]
    exact Nat.le_trans hn (by decide)
  · have eu' : acc'[j]? = some u := by simpa using eu
    obtain ⟨t, e2⟩ := it.2 j u eu'
    have lt : j < (hi - lo).toNat := by
      have := (List.getElem?_eq_some_iff.mp ey).1
      simpa [rngL] using this
    rw [rngL, List.getElem?_map, List.getElem?_range lt] at ey
    cases ey
    exact ⟨t, by rw [e2, Int.mul_one]⟩
end
end L2
set_option maxRecDepth 100000
namespace L2
open PySem PySem.Spec PyProof.Rows
variable {q0 : Bool}
structure FunD (K : PySem.W.Frag) (x qual : Str) (st : Stmt) (T f : Addr) (fd : FuncData) : Prop where
  ex : ∃ (oc : Value) (od : Option Addr) (kV doc pm : Value) (an : Option Addr) (cdv ct : Value) (osl : Array (Option Value)),
    fd = PySem.W.fnOf x qual (defArgs st) (defBody st) (defScope st) (.ref T) kV doc pm an cdv ct ∧ K.lookup f = some ⟨oc, od, .func fd, osl⟩ ∧ PySem.W.codeIn K cdv qual = true
  kp : PySem.W.keepIn K (.ref f) = true
section
variable {P : Program} {w : World} {K : PySem.W.Frag} {mg : Str → Option Value} {base : Heap}
theorem FunD.okn {x qual : Str} {st : Stmt} {T f : Addr} {fd : FuncData} {N ps : List Str} {k : Nat} {sp : Sp} (F : FunD K x qual st T f fd) (S : FnScope N ps (defScope st)) (len : ∀ vs H Q E, sp vs H Q E → vs.length = ps.length)
    (hbody : ∀ (cdv : Value) (A : Around) (outer : List Env) (s : Shared) (H : Hp) (vs : List V) (Q : VK) (E : XK), Room q0 k (A.deeper (envOfC qual (defScope st) s.heap.objs.size f cdv)) → sp vs H Q E →
      ∃ t, PSs (cxOf q0 (CXo P w) P w K mg base N qual (defScope st) f cdv A outer s H E).nox (defBody st) t ∧ t { nx := fun _ H' => Q .non H', rt := Q } (start N vs) H) : FnOk q0 P w K mg base (CXo P w) (k + 1) f fd ps sp := by
  obtain ⟨oc, od, kV, doc, pm, an, cdv, ct, osl, rfl, lk, hcd⟩ := F.ex
  refine fn_of lk hcd S len fun A outer s H vs Q E hr hsp => ?_
  obtain ⟨t, h, q⟩ := hbody cdv A outer s H vs Q E hr hsp
  exact ⟨t, h.nox, q⟩
theorem FunD.binds {x qual : Str} {st : Stmt} {T f : Addr} {fd : FuncData} {ps : List Str} {o : Obj} {items : Array Value} {n : Nat} {ds : List Value} (F : FunD K x qual st T f fd) (ho : K.lookup T = some o) (hs : o.data = .seq items n) (m : Nat) (hm : m + ds.length = ps.length)
    (h : ∀ (kV doc pm : Value) (an : Option Addr) (cdv ct : Value) (us : List Value), us.length = m →
      ∃ k, bindArgs (PySem.W.fnOf x qual (defArgs st) (defBody st) (defScope st) (.ref T) kV doc pm an cdv ct) ⟨us, []⟩ = seqItems? (.ref T) >>= k ∧ k (some items) = pure (ps.zip (us ++ ds))) : Binds K fd ps ds := by
  obtain ⟨oc, od, kV, doc, pm, an, cdv, ct, osl, rfl, lk, hcd⟩ := F.ex
  intro s us hK hl
  rw [List.length_append] at hl
  obtain ⟨k, h1, h2⟩ := h kV doc pm an cdv ct us (by omega)
  exact BindsTo.of_defaults rfl (hK _ _ ho) hs h1 h2
theorem fund_mk {x qual : Str} {st : Stmt} {T f : Addr} {oc : Value} {od an : Option Addr} {osl : Array (Option Value)} {kV doc pm cdv ct : Value} (l : K.lookup f = some ⟨oc, od, .func (PySem.W.fnOf x qual (defArgs st) (defBody st) (defScope st) (.ref T) kV doc pm an cdv ct), osl⟩)
    (c : PySem.W.codeIn K cdv qual = true) (k : PySem.W.keepIn K (.ref f) = true) : FunD K x qual st T f (PySem.W.fnOf x qual (defArgs st) (defBody st) (defScope st) (.ref T) kV doc pm an cdv ct) := ⟨⟨oc, od, kV, doc, pm, an, cdv, ct, osl, rfl, l, c⟩, k⟩
end
end L2
set_option maxRecDepth 100000
namespace L2
open PySem PySem.Spec PyProof.Rows XL
variable {q0 : Bool}
abbrev Cx.blkG (X : Cx) (scope : Scope) (zs : List Str) (ys : List Str) (C : Addr) (ex : List Addr) (s : Shared) (H : Hp) (pn : List (Addr × Obj)) : Cx where
  prog := X.prog
  w := X.w
  K := X.K
  mg := X.mg
  base := X.base
  A := X.A
  N := zs ++ ys
  s₀ := s
  H₀ := H
  env := compEnvC scope (X.clo scope) C X.env
  outer := X.stack
  stack := X.stack
  ex := ex
  fn := fun _ => false
  calm := X.calm
  pn := pn
  xe := fun _ _ => False
theorem compLoop_testsG {prog : Program} {w : World} {A : Around} {R : Result → Shared → Prop} {s : Shared} {elt target iter : Expr} {ifs : List Expr} {scope : Scope} {pos : Pos} {it acc : Value} {env : Env} (I : Nat → Shared → Prop)
    (turn : ∀ n s, I n s → wpAny (model prog w) A (pyNext it) (fun r s₁ => match r with
      | none => R (.ok .next) s₁
      | some v => wpAny (model prog w) A (letOwnedTupleGo target it v) (fun _ s₀ => wpAny (model prog w) A (assign target env v) (fun _ s₂ =>
          wpAny (model prog w) A (forIn ifs true fun c r => if r = true then do let ok ← isTrue c env (eval c env); pure (ForInStep.yield ok) else pure (ForInStep.yield r)) (fun ok s₃ =>
            if ok = true then wpAny (model prog w) A (eval elt env) (fun x s₄ =>
              wpAny (model prog w) A (call (.builtin "list.append") [acc, x]) (fun _ s₅ => ∃ m, m < n ∧ I m s₅) (notedBy (model prog w) A env fun e s' => R (.error e) s') s₄) (notedBy (model prog w) A env fun e s' => R (.error e) s') s₃
            else ∃ m, m < n ∧ I m s₃) (notedBy (model prog w) A env fun e s' => R (.error e) s') s₂) (notedBy (model prog w) A env fun e s' => R (.error e) s') s₀) (notedBy (model prog w) A env fun e s' => R (.error e) s') s₁) (notedBy (model prog w) A env fun e s' => R (.error e) s') s)
    (n : Nat) (h : I n s) : codeAny (model prog w) A (.compLoop (.ListComp elt [⟨target, iter, ifs, 0⟩] scope pos) 0 it acc env) R s := by
  refine codeAny_loop rfl I (fun n s hI => ?_) n h
  show wpAny _ A ((compTurn (.ListComp elt [⟨target, iter, ifs, 0⟩] scope pos) 0 it acc env).onRaise (fun x => do noteFrame x env; theTreesLotGoes x)) _ _ s
  refine wpAny_noted ?_
  rw [compTurn_list]
  refine wpAny_bind (wpAny_standAt (wpAny_bind (wpAny_mono (turn n s hI) (fun r s₁ h₁ => ?_) fun _ _ h' => h')))
  cases r with
  | none => exact wpAny_pure h₁
  | some v =>
    refine wpAny_bind (wpAny_mono h₁ (fun _ s₀ h₀ => wpAny_bind (wpAny_mono h₀ (fun _ s₂ h₂ => wpAny_bind (wpAny_mono h₂ (fun ok s₃ h₃ => ?_) fun _ _ h' => h')) fun _ _ h' => h')) fun _ _ h' => h')
    cases ok with
    | false => exact wpAny_pure ⟨rfl, h₃⟩
    | true =>
      exact wpAny_bind (wpAny_bind (wpAny_mono h₃ (fun x s₄ h₄ => wpAny_bind (wpAny_mono h₄ (fun _ s₅ h₅ => wpAny_pure (wpAny_pure ⟨rfl, h₅⟩)) fun _ _ h' => h')) fun _ _ h' => h'))
structure BlkG (X : Cx) (scope : Scope) (zs : List Str) (ys : List Str) (fr : List Nat) : Prop where
  kind : scope.kind = .function
  own : ∀ x ∈ zs, scope.names.lookup x = some .local
  ncell : ∀ y ∈ scope.names, y.2 ≠ .cell
  names : ∀ y ∈ scope.names, y.2 = .local → scope.names.lookup y.1 = some .local
  free : ∀ n ∈ frees scope, X.env.scope.names.lookup n = some .cell
  has : ∀ n, ((relabel scope X.env).names.lookup n = some .cell ∨ (relabel scope X.env).names.lookup n = some .free) → n ∈ frees scope
  slots : fr.map (fun i => X.N[i]?) = ys.map some
  ysf : ∀ y ∈ ys, y ∈ frees scope
  ysc : ∀ y ∈ ys, (relabel scope X.env).names.lookup y = some .cell ∨ (relabel scope X.env).names.lookup y = some .free
  nd : X.N.Nodup
  ndb : (zs ++ ys).Nodup
def blk0 (σ : St) (fr : List Nat) (n : Nat) : St := List.replicate n none ++ fr.map fun i => (σ[i]?).join
section
variable {X : Cx} {pins : List (Addr × Obj)} {σ : St} {H : Hp} {s : Shared} {scope : Scope} {zs : List Str} {ys : List Str} {fr : List Nat} {fp : List Addr}
theorem BlkG.cells (B : BlkG X scope zs ys fr) (I : Inv X pins σ H s) : ∀ n ∈ frees scope, ∃ c, X.env.cells.lookup n = some c := fun n hn => I.ok.has n (.inl (B.free n hn))
theorem BlkG.sub (B : BlkG X scope zs ys fr) (I : Inv X pins σ H s) {n : Str} {c : Addr} (h : (X.clo scope).lookup n = some c) : X.env.cells.lookup n = some c := by
  obtain ⟨a, b⟩ := clo_mem h
  obtain ⟨d, e⟩ := B.cells I n a
  rw [e] at b
  rw [b, e]
  rfl
theorem Inv.blkG {h1 : Heap} {m1 : Str → Option Value} {t' : Nat} (B : BlkG X scope zs ys fr) (I : Inv X pins σ H s) (hf : ∀ b ∈ fp, FpOk X pins H b) (hz : ∀ b ∈ fp, b < s.heap.objs.size) (n1 : h1.Ns s.heap.objs.size m1) (k1 : ∀ b o, s.heap.get? b = some o → h1.get? b = some o) :
    Inv (X.blkG scope zs ys s.heap.objs.size fp s H (X.pn ++ pins)) [] (blk0 σ fr zs.length) H { s with heap := h1, toks := t' } := by
  have sub : ∀ n c, (X.clo scope).lookup n = some c → X.env.cells.lookup n = some c := fun n c h => B.sub I h
  have cz : ∀ n c, X.env.cells.lookup n = some c → c < s.heap.objs.size := fun n c e => by
    obtain ⟨v, o, ho, _⟩ := I.cell n c e
    exact Heap.lt_size ho
  have nfs : ∀ b ∈ fp, b ∉ frs X.stack := fun b hb z => (List.mem_cons.mp (I.stkSub b z)).elim (hf b hb).2.1 (hf b hb).2.2.1
  have fz : ∀ b, b ∈ frs X.stack → b < s.heap.objs.size := fun b hb => by
    obtain ⟨_, o, ho, _⟩ := I.stack.mem hb
    exact Heap.lt_size ho
  refine ⟨⟨I.ok.mod, B.kind, I.ok.glob, I.ok.blt, Nat.le_refl _, fun y z c h1 h2 => I.ok.inj y z c (sub y c h1) (sub z c h2), fun y hy => ?_, (fun y c hy _ => nomatch hy), I.ok.hd, I.ok.frames, .inl rfl, fun b hb => ⟨?_, fun y c h => (hf b hb).2.2.2.2.1 y c (sub y c h)⟩,
      I.bs, Nat.le_trans I.ok.bsz I.sz, fun b o e hb => ?_, fun b hb => nfs b hb, I.stack, I.stkFree⟩,
    rfl, I.bare, Un.kept k1, ⟨m1, n1, fun i y v e1 e2 e3 => ?_⟩, fun y c h => ?_, I.hok.fresh (Nat.le_refl _), fun y c h => I.freeC y c (sub y c h), fun p hp => ?_, I.hok.kept k1, ?_⟩
  · obtain ⟨c, e⟩ := B.cells I y (B.has y hy)
    exact ⟨c, clo_get (B.has y hy) e⟩
  · exact Nat.ne_of_lt (hz b hb)
  · rcases (hf b hb).2.2.2.1 with z | z
    · exact I.ok.noex b o e z
    · exact absurd (Nat.lt_of_lt_of_le (Heap.lt_size (I.ok.bs b o e).1) z) (Nat.lt_irrefl _)
  · have ln : (List.replicate zs.length (none : Option V)).length = zs.length := List.length_replicate
    by_cases lt : i < zs.length
    · have e2' : (blk0 σ fr zs.length)[i]? = some (some v) := e2
      unfold blk0 at e2'
      rw [List.getElem?_append_left (by rw [ln]; exact lt), List.getElem?_replicate] at e2'
      split at e2' <;> cases e2'
    · obtain ⟨k, rfl⟩ : ∃ k, i = zs.length + k := ⟨i - zs.length, by omega⟩
      have e2' : (fr.map fun i => (σ[i]?).join)[k]? = some (some v) := by
        have z : (blk0 σ fr zs.length)[zs.length + k]? = some (some v) := e2
        unfold blk0 at z
        rw [List.getElem?_append_right (by rw [ln]; omega), ln] at z
        simpa using z
      have e1' : ys[k]? = some y := by
        have z : (zs ++ ys)[zs.length + k]? = some y := e1
        rw [List.getElem?_append_right (by omega)] at z
        simpa using z
      rw [List.getElem?_map] at e2'
      obtain ⟨j, hj, ej⟩ := Option.map_eq_some_iff.mp e2'
      have ev : σ[j]? = some (some v) := by
        cases q : σ[j]? with
        | none => rw [q] at ej; cases ej
        | some w => rw [q] at ej; exact congrArg some ej
      have eN : X.N[j]? = some y := by
        have z := congrArg (fun l => l[k]?) B.slots
        simp only [List.getElem?_map, hj, e1', Option.map_some] at z
        exact Option.some.inj z
      have my : y ∈ ys := List.mem_of_getElem? e1'
      obtain ⟨m, _, lk⟩ := I.loc
      obtain ⟨u, r, l⟩ := lk j y v eN ev (.inr (.inl (B.free y (B.ysf y my))))
      refine ⟨u, r, .inr ⟨B.ysc y my, ?_⟩⟩
      rcases l with ⟨kk, _⟩ | ⟨_, c, e, o, ho, hd⟩
      · have z := B.free y (B.ysf y my)
        rw [show X.env.scope.names.lookup y = some .local from kk] at z
        cases z
      · exact ⟨c, clo_get (B.ysf y my) e, o, k1 c o ho, hd⟩
  · obtain ⟨v, o, ho, hd⟩ := I.cell y c (sub y c h)
    exact ⟨v, o, k1 c o ho, hd⟩
  · have hp' : p ∈ X.pn ++ pins := by simpa using hp
    obtain ⟨a1, a2, a3, a4, a5⟩ := I.pin p hp'
    exact ⟨k1 _ _ a1, a2, Nat.ne_of_lt (Heap.lt_size a1), fun z => (List.mem_cons.mp (I.stkSub _ z)).elim a3 a4, a5⟩
  · have z := congrArg List.length B.slots
    simp only [List.length_map] at z
    simp [blk0, z]
end
section
variable {X : Cx} {pins : List (Addr × Obj)} {σ : St} {H : Hp} {s : Shared} {scope : Scope} {zs : List Str} {ys : List Str} {fr : List Nat} {fp : List Addr}
theorem Inv.unblkG {C : Addr} {s' : Shared} {h2 : Heap} {σ' : St} {H' : Hp} {pl : List (Addr × Obj)} (I : Inv X pins σ H s) (hf : ∀ b ∈ fp, FpOk X pins H b) (hC : s.heap.objs.size ≤ C) (J : Inv (X.blkG scope zs ys C fp s H (X.pn ++ pins)) pl σ' H' s') (sb : Heap.SameBut C s'.heap h2) :
    Inv X pins σ H' { s' with heap := h2 } := by
  have kp : ∀ b o, b ≠ C → s'.heap.get? b = some o → h2.get? b = some o := fun b o nb g => (sb.2 b nb).trans g
  have old : ∀ b o, s.heap.get? b = some o → b ≠ C := fun b o g => Nat.ne_of_lt (Nat.lt_of_lt_of_le (Heap.lt_size g) hC)
  have trk : ∀ b u, H' b = some u → b ≠ C := fun b u hb z => by
    have f : H' C = none := J.free
    rw [z, f] at hb
    cases hb
  refine I.call' (s' := { s' with heap := h2 }) J.os (ch := fp) ⟨fun b o e n hb hx => kp b o (old b o e) (J.base.keep b o e n hb hx), fun b o e n hb hx => ?_, fun b o e n hx => J.base.free b o e n hx, fun b o e hx => ?_, J.base.tups, J.base.frzs, J.base.tbls⟩ (fun b u hb => ?_) J.bare fun b hb => ?_
  · obtain ⟨sl, q⟩ := J.base.slot b o e n hb hx
    exact ⟨sl, kp b _ (old b o e) q⟩
  · obtain ⟨o', q⟩ := J.base.there b o e hx
    exact ⟨o', kp b o' (old b o e) q⟩
  · refine (J.hok b u hb).stay (fun c v hc q => ?_) (fun c q => q) fun c xs q => q
    rcases hc with rfl | hc
    · exact kp c v (trk c u hb) q
    · exact kp c v (trk c _ hc) q
  · obtain ⟨_, a1, _, a3, a4, a5⟩ := hf b hb
    exact ⟨a3, a1, a4, a5⟩
end
def GOk (n : Nat) (g : TG) : Prop := ∀ v σ H Q, g v σ H Q → g v σ H (fun σ' H' => Q σ' H' ∧ σ'.length = σ.length ∧ ∀ i, n ≤ i → σ'[i]? = σ[i]?)
theorem gok_name {i n : Nat} (h : i < n) : GOk n (gName i) := fun v σ H Q q => ⟨q, by simp, fun j hj => by rw [List.getElem?_set_ne (by omega)]⟩
def CompG (J : It) (n : Nat) (g : TG) (σ : St) (fr : List Nat) (tc : TT) (te : TE) (l : Addr) (H1 : Hp) (Q : VK) : Prop := ∃ W : Nat → Nat → List V → Hp → Prop, (∃ m, W 0 m [] (upd H1 l (.lst []))) ∧ ∀ i m xs H2, W i m xs H2 →
  (J.stop i H2 ∧ Q (.ref l) H2) ∨ (J.go i H2 ∧ ∀ v H3, J.yld i H2 v H3 → g v (blk0 σ fr n) H3 fun σ' H3' => tc σ' H3' fun b H4 => if b = true then
    (te σ' H4 fun y H5 => H5 l = some (.lst xs) ∧ xs.length < sizeLine ∧ ∃ m', m' < m ∧ W (i + 1) m' (xs ++ [y]) (upd H5 l (.lst (xs ++ [y])))) else ∃ m', m' < m ∧ W (i + 1) m' xs H4)
def tCompG (wi : TI) (n : Nat) (g : TG) (fr : List Nat) (tc : TT) (te : TE) : TE := fun σ H Q => wi σ H fun J H1 => ∀ l, H1 l = none → CompG J n g σ fr tc te l H1 Q
section
variable {X : Cx} {scope : Scope} {zs : List Str} {ys : List Str} {fr : List Nat} {elt iter tg : Expr} {g : TG} {ifs : List Expr} {px pos : Pos} {wi : TI} {tc : TT} {te : TE}
theorem comp_coreG {pins : List (Addr × Obj)} {s : Shared} {σ : St} {H : Hp} {Q : VK} {U : Option (Value → Sem Unit)} {R : Value → Shared → Prop} (hc : X.calm = true) (B : BlkG X scope zs ys fr) (hi : PI X tg iter wi) (hg : ∀ C ex s H pn, (∀ x ∈ zs, (relabel scope X.env).names.lookup x = some .local) → (zs ++ ys).Nodup → PG (X.blkG scope zs ys C ex s H pn) tg g) (gok : GOk zs.length g)
    (hif : ∀ C ex s H pn, PIf (X.blkG scope zs ys C ex s H pn) ifs tc) (he : ∀ C ex s H pn, PE (X.blkG scope zs ys C ex s H pn) elt te) (I : Inv X pins σ H s) (h : tCompG wi zs.length g fr tc te σ H Q)
    (fin : ∀ C l H' s' m, (X.s₀.heap.objs.size ≤ C ∧ C ≠ X.env.locals ∧ (∀ x c, X.env.cells.lookup x = some c → c ≠ C) ∧ ∀ p ∈ X.pn ++ pins, p.1 ≠ C) → H' C = none → s'.heap.Ns C m → (∀ h2, Heap.SameBut C s'.heap h2 → Inv X pins σ H' { s' with heap := h2 }) → Q (.ref l) H' → compPost (model X.prog X.w) X.A X.xe U R (.ref l) C (.ok .next) s') :
    wpAny (model X.prog X.w) X.A (eval iter X.env) (fun v s1 => wpAny (model X.prog X.w) X.A (pyIter v) (fun it s2 => wpAny (model X.prog X.w) X.A (newList []) (fun acc s3 =>
      wpAny (model X.prog X.w) X.A (newFunctionEnv scope X.env.globals (X.clo scope) [] X.env.qual none .none (some X.env)) (fun cenv s4 =>
        codeAny (model X.prog X.w) X.A (.compStart (.ListComp elt [⟨tg, iter, ifs, 0⟩] scope pos) 0 it acc { cenv with scope := relabel scope X.env }) (compPost (model X.prog X.w) X.A X.xe U R acc cenv.locals) s4) X.xe s3) X.xe s2) X.xe s1) X.xe s := by
  refine thn (hi pins s σ H _ I h) fun v s1 h1 => thn h1 fun itv s2 h2 => ?_
  obtain ⟨it, fp, tn, J, H2, rfl, I2, T, st2, f2, body⟩ := h2
  have hN : H2 s2.heap.objs.size = none := I2.hok.fresh (Nat.le_refl _)
  obtain ⟨W, ⟨m0, w0⟩, turn⟩ := body s2.heap.objs.size hN
  refine wpAny_newObj_type ?_
  generalize hs3 : ({ s2 with heap := s2.heap.push { cls := .type "list", data := .seq ([] : List Value).toArray } } : Shared) = s3
  have k3 : ∀ b o, s2.heap.get? b = some o → s3.heap.get? b = some o := fun b o g => by rw [← hs3]; exact Heap.get?_push_of_some _ g
  have I3 : Inv X pins σ (upd H2 s2.heap.objs.size (.lst [])) s3 := by
    rw [← hs3]
    exact I2.laid (t' := s2.toks) (fun b u e => Heap.get?_push_of_some _ e) (Nat.le_refl _) ⟨Nat.zero_le _, [], 0, .nil, Heap.get?_push_size _ rfl⟩
  have z2 : ∀ b ∈ fp, b < s2.heap.objs.size := fun b hb => by
    obtain ⟨o, g, _⟩ := T.obj 0 _ st2 b hb
    exact Heap.lt_size g
  have z3 : ∀ b ∈ fp, b < s3.heap.objs.size := fun b hb => by
    obtain ⟨o, g, _⟩ := T.obj 0 _ st2 b hb
    exact Heap.lt_size (k3 b o g)
  have f3 : ∀ b ∈ fp, FpOk X pins (upd H2 s2.heap.objs.size (.lst [])) b := fun b hb => ⟨by rw [upd_ne (Nat.ne_of_lt (z2 b hb))]; exact (f2 b hb).1, (f2 b hb).2⟩
  have st3 : tn 0 s3.heap := T.keep _ _ _ st2 fun b _ o g => k3 b o g
  refine wpAny_newFunctionEnv B.ncell (by intro y hy; simp at hy) (fun h1 n1 sb1 => ?_) B.kind
  have k4 : ∀ b o, s3.heap.get? b = some o → h1.get? b = some o := fun b o g => sb1.extBut b o (Nat.ne_of_lt (Heap.lt_size g)) (Heap.get?_push_of_some _ g)
  have I4 := I3.blkG (t' := s3.toks + ([] : List (Str × Value)).length) B f3 z3 n1 k4
  have st4 : tn 0 h1 := T.keep _ _ _ st3 fun b _ o g => k4 b o g
  have own' : ∀ x ∈ zs, (relabel scope X.env).names.lookup x = some .local := fun x hx => lookup_relabel_local (B.own x hx)
  -- the iterator's objects, through the loop
  have stat : ∀ {H' : Hp}, (∀ b ∈ fp, H' b = none) → ∀ b ∈ fp, FpOk (X.blkG scope zs ys s3.heap.objs.size fp s3 (upd H2 s2.heap.objs.size (.lst [])) (X.pn ++ pins)) [] H' b := fun hn b hb => by
    obtain ⟨_, a1, a2, a3, a4, a5⟩ := f3 b hb
    exact ⟨hn b hb, Nat.ne_of_lt (z3 b hb), fun z => (List.mem_cons.mp (I3.stkSub b z)).elim a1 a2, .inl hb, fun y c h => a4 y c (B.sub I3 h), fun p hp => a5 p (by simpa using hp)⟩
  have loop : ∀ s4 : Shared, s4 = { s3 with heap := h1, toks := s3.toks + ([] : List (Str × Value)).length } →
      codeAny (model X.prog X.w) X.A (.compLoop (.ListComp elt [⟨tg, iter, ifs, 0⟩] scope pos) 0 (.ref it) (.ref s2.heap.objs.size) (compEnvC scope (X.clo scope) s3.heap.objs.size X.env))
        (compPost (model X.prog X.w) X.A X.xe U R (.ref s2.heap.objs.size) s3.heap.objs.size) s4 := by
    rintro s4 rfl
    refine compLoop_testsG (fun n s' => ∃ i xs H', Inv (X.blkG scope zs ys s3.heap.objs.size fp s3 (upd H2 s2.heap.objs.size (.lst [])) (X.pn ++ pins)) [] (blk0 σ fr zs.length) H' s' ∧ tn i s'.heap ∧ (∀ b ∈ fp, H' b = none) ∧ W i n xs H') ?_ m0
      ⟨0, [], _, I4, st4, fun b hb => (f3 b hb).1, w0⟩
    rintro n s5 ⟨i, xs, H5, I5, st5, fr5, w5⟩
    rcases turn i n xs H5 w5 with ⟨stop, q⟩ | ⟨go, step⟩
    · refine wpAny_mono (T.done (X.blkG scope zs ys s3.heap.objs.size fp s3 (upd H2 s2.heap.objs.size (.lst [])) (X.pn ++ pins)) rfl rfl rfl hc i [] s5 _ H5 (fun _ _ => False) I5 (stat fr5) st5 stop) (fun r s6 ⟨hr, I6⟩ => ?_) fun _ _ z => z.elim
      subst hr
      obtain ⟨m, hm, _⟩ := I6.loc
      exact fin _ _ H5 s6 m ⟨I3.sz, (I3.size_lt (Nat.le_refl _)).2⟩ I6.free hm (fun h2 sb => I3.unblkG f3 (Nat.le_refl _) I6 sb) q
    · refine wpAny_mono (T.item (X.blkG scope zs ys s3.heap.objs.size fp s3 (upd H2 s2.heap.objs.size (.lst [])) (X.pn ++ pins)) rfl rfl rfl hc i [] s5 _ H5 (fun _ _ => False) I5 (stat fr5) st5 go) (fun r s6 ⟨u, hr, h6⟩ => ?_) fun _ _ z => z.elim
      subst hr
      refine wpAny_mono h6 (fun _ s7 ⟨y, H7, I7, r7, y7, st7, fr7⟩ => ?_) fun _ _ z => z.elim
      have I7' := I7.pinned (stat fr7) (T.obj _ _ st7)
      refine wpAny_mono (hg _ _ _ _ _ own' B.ndb _ s7 _ H7 y u _ I7' r7 (gok _ _ _ _ (step y H7 y7))) (fun _ s8 ⟨σ8, H8, I8, q8, l8, k8⟩ => ?_) fun _ _ z => z.elim
      have back : ∀ {s9 : Shared} {H9 : Hp} {xs' : List V}, Inv (X.blkG scope zs ys s3.heap.objs.size fp s3 (upd H2 s2.heap.objs.size (.lst [])) (X.pn ++ pins)) ([] ++ pinsAt fp s7.heap) σ8 H9 s9 → (∃ m', m' < n ∧ W (i + 1) m' xs' H9) →
          ∃ m, m < n ∧ ∃ i xs H', Inv (X.blkG scope zs ys s3.heap.objs.size fp s3 (upd H2 s2.heap.objs.size (.lst [])) (X.pn ++ pins)) [] (blk0 σ fr zs.length) H' s9 ∧ tn i s9.heap ∧ (∀ b ∈ fp, H' b = none) ∧ W i m xs H' := fun {s9 H9 xs'} I9 ⟨m', lt, w9⟩ => by
        refine ⟨m', lt, i + 1, xs', H9, I9.unpinned.weak l8.symm (fun j v e => ?_), T.keep _ _ _ st7 fun b hb o e => (I9.pin (b, o) (List.mem_append_right _ (List.mem_append_right _ (mem_pinsAt hb e)))).1, fun b hb => ?_, w9⟩
        · by_cases lj : j < zs.length
          · unfold blk0 at e
            rw [List.getElem?_append_left (by rw [List.length_replicate]; exact lj), List.getElem?_replicate] at e
            split at e <;> cases e
          · rw [k8 j (by omega)]
            exact e
        obtain ⟨o, e, d⟩ := T.obj _ _ st7 b hb
        exact (I9.pin (b, o) (List.mem_append_right _ (List.mem_append_right _ (mem_pinsAt hb e)))).2.1
      refine wpAny_mono (hif _ _ _ _ _ _ s8 _ H8 _ I8 q8) (fun ok s9 ⟨H9, I9, q9⟩ => ?_) fun _ _ z => z.elim
      cases ok with
      | false =>
        rw [if_neg (by decide)] at q9 ⊢
        exact back I9 q9
      | true =>
        rw [if_pos rfl] at q9 ⊢
        refine wpAny_mono (he _ _ _ _ _ _ s9 _ H9 _ I9 q9) (fun ev s10 ⟨yv, H10, I10, r10, hl, len, w10⟩ => ?_) fun _ _ z => z.elim
        refine wpAny_mono (mt_append (X := X.blkG scope zs ys s3.heap.objs.size fp s3 (upd H2 s2.heap.objs.size (.lst [])) (X.pn ++ pins)) _ s10 _ H10 (.ref s2.heap.objs.size) [yv] (.ref s2.heap.objs.size) [ev] (fun v H' => H' = upd H10 s2.heap.objs.size (.lst (xs ++ [yv]))) I10 rfl (.cons r10 .nil) ⟨_, xs, yv, rfl, rfl, hl, len, rfl⟩)
          (fun _ s11 ⟨_, H11, I11, _, e11⟩ => ?_) fun _ _ z => z.elim
        subst e11
        exact back I11 w10
  exact codeAny_compStart_list (loop _ rfl) (T.self _ 0 _ _ _ st4 (loop _ rfl))
theorem pe_compG (hc : X.calm = true) (B : BlkG X scope zs ys fr) (hi : PI X tg iter wi) (hg : ∀ C ex s H pn, (∀ x ∈ zs, (relabel scope X.env).names.lookup x = some .local) → (zs ++ ys).Nodup → PG (X.blkG scope zs ys C ex s H pn) tg g) (gok : GOk zs.length g) (hif : ∀ C ex s H pn, PIf (X.blkG scope zs ys C ex s H pn) ifs tc) (he : ∀ C ex s H pn, PE (X.blkG scope zs ys C ex s H pn) elt te)
    (hs : ∀ x, foldedSetIterable iter X.env x = pure x := by intro _; rfl) : PE X (.ListComp elt [⟨tg, iter, ifs, 0⟩] scope pos) (tCompG wi zs.length g fr tc te) := by
  intro pins s σ H Q I h
  rw [eval_ListComp]
  refine wpAny_comprehension_free (use := none) rfl hs (clo_of (B.cells I)) B.kind B.names (comp_coreG hc B hi hg gok hif he I h fun C l H' s' m _ _ hm iv q => ?_)
  exact ⟨m, hm, fun h2 sb => ⟨.ref l, H', iv h2 sb, rfl, q⟩⟩
theorem ps_setcG {j : Nat} {y : Str} {py spos : Pos} (hc : X.calm = true) (B : BlkG X scope zs ys fr) (hi : PI X tg iter wi) (hg : ∀ C ex s H pn, (∀ x ∈ zs, (relabel scope X.env).names.lookup x = some .local) → (zs ++ ys).Nodup → PG (X.blkG scope zs ys C ex s H pn) tg g) (gok : GOk zs.length g) (hif : ∀ C ex s H pn, PIf (X.blkG scope zs ys C ex s H pn) ifs tc) (he : ∀ C ex s H pn, PE (X.blkG scope zs ys C ex s H pn) elt te)
    (hj : X.N[j]? = some y) (hy : Loc X.env.scope y) (hf : X.fn y = true ∨ X.env.scope.names.lookup y = some .local := by first | exact .inl rfl | exact .inr rfl | assumption)
    (hsw : swapsWith (.ListComp elt [⟨tg, iter, ifs, 0⟩] scope pos) (some (.Name y py)) spos.line X.env = pure true := by rfl)
    (hs : ∀ x, foldedSetIterable iter X.env x = pure x := by intro _; rfl) : PS X (.Assign [.Name y py] (.ListComp elt [⟨tg, iter, ifs, 0⟩] scope pos) spos) (tAsg (tCompG wi zs.length g fr tc te) (gName j)) := by
  intro pins s σ H D I h
  rw [exec_Assign_Name_used _ _ _ _ hsw]
  refine wpAny_bind (wpAny_standAt (wpAny_bind ?_))
  show wpAny _ _ (do let _ ← comprehension (.ListComp elt [⟨tg, iter, ifs, 0⟩] scope pos) scope X.env _ (newList []) false (eval iter X.env) (some (assign (.Name y py) X.env))) _ _ s
  refine wpAny_bind (wpAny_mono (wpAny_comprehension_free (use := some (assign (.Name y py) X.env)) (Q := fun _ s' => SP X pins D .next s') rfl hs (clo_of (B.cells I)) B.kind B.names
    (comp_coreG hc B hi hg gok hif he I h fun C l H' s' m hC hn hm iv q => ?_)) (fun _ s' z => wpAny_pure (wpAny_pure z)) fun _ _ e => e)
  show wpAny _ _ (assign (.Name y py) X.env (.ref l)) _ _ _
  have J : Inv X pins σ H' s' := iv s'.heap (.refl ..)
  refine wpAny_assign_Name (store_ok2 (v := V.ref l) J B.nd hj hy rfl (fun s2 J2 ⟨a, sb, ha⟩ => ?_) hf)
  have na : a ≠ C := by
    rcases ha with z | z
    · rw [z]; exact Ne.symm hC.2.1
    · exact hC.2.2.1 _ _ z
  refine ⟨m, ?_, fun h2 s3 => ?_⟩
  · obtain ⟨o, es, ep, g, r⟩ := hm
    exact ⟨o, es, ep, (sb.2 C (Ne.symm na)).trans g, r⟩
  · exact ⟨_, H', J2.turned (t' := s2.toks) (fun b o nb g => (s3.2 b nb).trans g) hn (hC.2.1) (.inr hC.1) hC.2.2.1 hC.2.2.2, q⟩
end
def blkOkG (scope sc0 : Scope) (N0 : List Str) (zs : List Str) (ys : List Str) (fr : List Nat) : Bool :=
  scope.kind == .function && zs.all (fun x => scope.names.lookup x == some .local) && scope.names.all (fun y => y.2 != .cell) && scope.names.all (fun y => y.2 != .local || scope.names.lookup y.1 == some .local) &&
  (frees scope).all (fun n => sc0.names.lookup n == some .cell) && fr.map (fun i => N0[i]?) == ys.map some && ys.all (fun y => scope.names.lookup y == some .free) && decide N0.Nodup && decide (zs ++ ys).Nodup
theorem blkG_ofN {X : Cx} {scope sc0 : Scope} {N0 : List Str} {zs : List Str} {ys : List Str} {fr : List Nat} (chk : blkOkG scope sc0 N0 zs ys fr = true) (es : X.env.scope = sc0) (eN : X.N = N0) : BlkG X scope zs ys fr := by
  unfold blkOkG at chk
  simp only [Bool.and_eq_true, beq_iff_eq, List.all_eq_true, decide_eq_true_eq] at chk
  obtain ⟨⟨⟨⟨⟨⟨⟨⟨a1, a2⟩, a3⟩, a4⟩, a5⟩, a6⟩, a7⟩, a8⟩, a9⟩ := chk
  have nc : ∀ y ∈ scope.names, y.2 ≠ .cell := fun y hy => by simpa using a3 y hy
  refine ⟨a1, a2, nc, fun y hy hl => ?_, fun n hn => by rw [es]; exact a5 n hn, fun n h => relab_has nc n h, by rw [eN]; exact a6, fun y hy => ?_, fun y hy => relab_free (a7 y hy), by rw [eN]; exact a8, a9⟩
  · have z := a4 y hy
    rw [hl] at z
    simpa using z
  · exact List.mem_map.mpr ⟨(y, .free), List.mem_filter.mpr ⟨PySem.mem_of_lookup (a7 y hy), by simp⟩, rfl⟩
theorem blkG_of {X : Cx} {scope sc0 : Scope} {N0 : List Str} {zs : List Str} {ys : List Str} {fr : List Nat} (chk : blkOkG scope sc0 N0 zs ys fr = true) (es : X.env.scope = sc0) (eN : X.N = N0) (_ : X.stack = X.env :: X.outer) : BlkG X scope zs ys fr := blkG_ofN chk es eN
theorem gok_tup {K : PySem.W.Frag} {m n : Nat} {t : TGs} (h : ∀ vs σ H Q, t vs σ H Q → t vs σ H (fun σ' H' => Q σ' H' ∧ σ'.length = σ.length ∧ ∀ i, n ≤ i → σ'[i]? = σ[i]?)) : GOk n (gTup K m t) := fun v σ H Q q => by
  obtain ⟨a, xs, e, hs, hl, q⟩ := q
  exact ⟨a, xs, e, hs, hl, h _ _ _ _ q⟩
theorem goks_nil {n : Nat} : ∀ vs σ H Q, gNil vs σ H Q → gNil vs σ H (fun σ' H' => Q σ' H' ∧ σ'.length = σ.length ∧ ∀ i, n ≤ i → σ'[i]? = σ[i]?) := fun vs σ H Q q => ⟨q.1, q.2, rfl, fun _ _ => rfl⟩
theorem goks_cons {i n : Nat} (hi : i < n) {t : TGs} (h : ∀ vs σ H Q, t vs σ H Q → t vs σ H (fun σ' H' => Q σ' H' ∧ σ'.length = σ.length ∧ ∀ i, n ≤ i → σ'[i]? = σ[i]?)) :
    ∀ vs σ H Q, gCons (gName i) t vs σ H Q → gCons (gName i) t vs σ H (fun σ' H' => Q σ' H' ∧ σ'.length = σ.length ∧ ∀ i, n ≤ i → σ'[i]? = σ[i]?) := fun vs σ H Q q => by
  obtain ⟨v, r, e, q⟩ := q
  refine ⟨v, r, e, ?_⟩
  have z := h _ _ _ _ q
  have e2 : ∀ (j : Nat), n ≤ j → (σ.set i (some v))[j]? = σ[j]? := fun j hj => by rw [List.getElem?_set_ne (by omega)]
  have e1 : (σ.set i (some v)).length = σ.length := by simp
  have key : (fun σ' H' => Q σ' H' ∧ σ'.length = (σ.set i (some v)).length ∧ ∀ j, n ≤ j → σ'[j]? = (σ.set i (some v))[j]?) = (fun σ' (H' : Hp) => Q σ' H' ∧ σ'.length = σ.length ∧ ∀ j, n ≤ j → σ'[j]? = σ[j]?) := by
    funext σ' H'
    rw [e1]
    refine propext ⟨fun ⟨a, b, c⟩ => ⟨a, b, fun j hj => (c j hj).trans (e2 j hj)⟩, fun ⟨a, b, c⟩ => ⟨a, b, fun j hj => (c j hj).trans (e2 j hj).symm⟩⟩
  rw [key] at z
  exact z
theorem compG_by {J : It} {n : Nat} {g : TG} {σ : St} {fr : List Nat} {tc : TT} {te : TE} {l : Addr} {H1 : Hp} {Q : VK} (len : Nat) (Pv : Nat → List V → Hp → Prop) (h0 : Pv 0 [] (upd H1 l (.lst []))) (hgo : ∀ i xs H, i < len → Pv i xs H → J.go i H)
    (step : ∀ i xs H2 v H3, i < len → Pv i xs H2 → J.yld i H2 v H3 → ∀ N : List V → Hp → Prop, (∀ xs' H', Pv (i + 1) xs' H' → N xs' H') → g v (blk0 σ fr n) H3 fun σ' H3' => tc σ' H3' fun b H4 => if b = true then
      (te σ' H4 fun y H5 => H5 l = some (.lst xs) ∧ xs.length < sizeLine ∧ N (xs ++ [y]) (upd H5 l (.lst (xs ++ [y])))) else N xs H4)
    (fin : ∀ xs H2, Pv len xs H2 → J.stop len H2 ∧ Q (.ref l) H2) : CompG J n g σ fr tc te l H1 Q := by
  refine ⟨fun i m xs H => m = len - i ∧ i ≤ len ∧ Pv i xs H, ⟨len, by simp, Nat.zero_le _, h0⟩, ?_⟩
  rintro i m xs H2 ⟨rfl, hi, p⟩
  by_cases lt : i < len
  · exact .inr ⟨hgo i xs H2 lt p, fun v H3 y => step i xs H2 v H3 lt p y (fun xs' H' => ∃ m', m' < len - i ∧ m' = len - (i + 1) ∧ i + 1 ≤ len ∧ Pv (i + 1) xs' H') fun xs' H' q => ⟨_, by omega, rfl, lt, q⟩⟩
  · have e : i = len := by omega
    subst e
    exact .inl (fin xs H2 p)
end L2
set_option maxRecDepth 100000
namespace L2
open PySem PySem.Spec PyProof.Rows XL
variable {q0 : Bool}
section
variable {X : Cx} {pins : List (Addr × Obj)} {σ : St} {H : Hp} {s : Shared}
theorem Inv.adopt {p : Addr} {o : HO} (I : Inv X pins σ H s) (n : H p = none) (h0 : X.s₀.heap.objs.size ≤ p) (hL : p ≠ X.env.locals) (hC : ∀ x c, X.env.cells.lookup x = some c → c ≠ p) (hp : ∀ q ∈ X.pn ++ pins, q.1 ≠ p)
    (new : ObjOk X.prog X.w (upd H p o) s.heap p o) : Inv X pins σ (upd H p o) s := by
  have ne : ∀ b u, H b = some u → b ≠ p := fun b u e => ne_of_none e n
  refine ⟨I.ok, I.os, I.bare, ⟨I.base.keep, I.base.slot, fun b ob e hn hx => ?_, I.base.there, fun b xs e => ?_, fun b ob u e => ?_, fun b ps e => ?_⟩, I.loc, I.cell, ?_, fun x c e => ?_, fun q hq => ?_, fun b u e => ?_, I.len⟩
  · rw [upd_ne (Nat.ne_of_lt (Nat.lt_of_lt_of_le (Heap.lt_size e) h0))]
    exact I.base.free b ob e hn hx
  · have z := I.base.tups b xs e
    rw [upd_ne (ne b _ z)]
    exact z
  · have z := I.base.frzs b ob u e
    rw [upd_ne (ne b _ z)]
    exact z
  · obtain ⟨m, z⟩ := I.base.tbls b ps e
    exact ⟨m, by rw [upd_ne (ne b _ z)]; exact z⟩
  · rw [upd_ne (Ne.symm hL)]
    exact I.free
  · rw [upd_ne (hC x c e)]
    exact I.freeC x c e
  · obtain ⟨a1, a2, a3⟩ := I.pin q hq
    exact ⟨a1, by rw [upd_ne (hp q hq)]; exact a2, a3⟩
  · by_cases hb : b = p
    · subst hb
      rw [upd_same] at e
      cases e
      exact new
    · rw [upd_ne hb] at e
      exact (I.hok b u e).stay (fun c v _ q => q) (fun c q => by rw [upd_ne (ne c _ q)]; exact q) fun c xs q => by rw [upd_ne (ne c _ q)]; exact q
theorem Inv.thaw {d : Addr} {o : Obj} {u : HO} (I : Inv X pins σ H s) (e : H d = some (.frz o u)) (nf : ∀ o' u', X.H₀ d ≠ some (.frz o' u')) : Inv X pins σ (upd H d u) s := by
  have ne : ∀ b v, H b = some v → (∀ o' u', v ≠ .frz o' u') → b ≠ d := fun b v h1 h2 z => by
    subst z
    rw [e] at h1
    cases h1
    exact h2 _ _ rfl
  have ne0 : ∀ b, H b = none → b ≠ d := fun b h1 z => by
    subst z
    rw [e] at h1
    cases h1
  refine ⟨I.ok, I.os, I.bare, ⟨I.base.keep, I.base.slot, fun b ob q hn hx => ?_, I.base.there, fun b xs q => ?_, fun b ob v q => ?_, fun b ps q => ?_⟩, I.loc, I.cell, ?_, fun x c q => ?_, fun p hp => ?_, fun b v q => ?_, I.len⟩
  · have z := I.base.free b ob q hn hx
    rw [upd_ne (ne0 b z)]
    exact z
  · have z := I.base.tups b xs q
    rw [upd_ne (ne b _ z (fun _ _ h => nomatch h))]
    exact z
  · have z := I.base.frzs b ob v q
    have hb : b ≠ d := fun w => by
      subst w
      exact nf _ _ q
    rw [upd_ne hb]
    exact z
  · obtain ⟨m, z⟩ := I.base.tbls b ps q
    exact ⟨m, by rw [upd_ne (ne b _ z (fun _ _ h => nomatch h))]; exact z⟩
  · rw [upd_ne (ne0 _ I.free)]
    exact I.free
  · rw [upd_ne (ne0 _ (I.freeC x c q))]
    exact I.freeC x c q
  · obtain ⟨a1, a2, a3⟩ := I.pin p hp
    exact ⟨a1, by rw [upd_ne (ne0 _ a2)]; exact a2, a3⟩
  · have st : ∀ (a : Addr) (v : HO), ObjOk X.prog X.w H s.heap a v → ObjOk X.prog X.w (upd H d u) s.heap a v := fun a v k =>
      k.stay (fun c v _ q => q) (fun c q => by rw [upd_ne (ne c _ q (fun _ _ h => nomatch h))]; exact q) fun c xs q => by rw [upd_ne (ne c _ q (fun _ _ h => nomatch h))]; exact q
    by_cases hb : b = d
    · subst hb
      rw [upd_same] at q
      cases q
      obtain ⟨g, ok⟩ := I.hok b _ e
      exact st _ _ ok
    · rw [upd_ne hb] at q
      exact st _ _ (I.hok b v q)
theorem Inv.nofrz {d : Addr} {kvs : List (Key × V)} (I : Inv X pins σ H s) (e : H d = some (.dK kvs)) : ∀ o' u', X.H₀ d ≠ some (.frz o' u') := fun o' u' z => by
  have q := I.base.frzs d o' u' z
  rw [e] at q
  cases q
theorem KV.get : ∀ {kvs : List (Key × V)} {vs : List (Key × Value)} {i : Nat} {k : Key} {x : V}, KV kvs vs → kvs[i]? = some (k, x) → ∃ u, vs[i]? = some (k, u) ∧ RelV x u
  | _, _, _, _, _, .nil, e => by simp at e
  | _, (_, _) :: _, 0, _, _, .cons r _, e => by
    simp at e
    subst e
    obtain ⟨r1, r2⟩ := r
    dsimp only at r1 r2
    subst r1
    exact ⟨_, rfl, r2⟩
  | _, _, i + 1, k, x, .cons _ t, e => by
    obtain ⟨u, h1, h2⟩ := KV.get (i := i) (k := k) (x := x) t (by simpa using e)
    exact ⟨u, by simpa using h1, h2⟩
theorem kV_rel {P : Program} {w : World} {k : Key} {u : Value} (h : (mixKind P w).is k u = true) : RelV (kV k) u := by
  rcases keyIs_shape (show keyIs k u = true from h) with ⟨i, t, rfl, rfl⟩ | ⟨x, t, rfl, rfl⟩
  · exact ⟨t, rfl⟩
  · exact ⟨t, rfl⟩
theorem frz_at {d : Addr} {o : Obj} {kvs : List (Key × V)} {ep : Nat} (I : Inv X pins σ H s) (e : H d = some (.frz o (.dK kvs))) (hep : ∃ es, o.data = .dict es ep) : ∃ vs, KV kvs vs ∧ s.heap.DictAt (mixKind X.prog X.w) d vs ep := by
  obtain ⟨g, _, _, vs, rel, o', es', ep', g', ex, hdat, hk, hp, hn⟩ := I.hok d _ e
  rw [g] at g'
  cases g'
  obtain ⟨es, he⟩ := hep
  rw [he] at hdat
  cases hdat
  exact ⟨vs, rel, o, _, g, ex, he, hk, hp, hn⟩
end
def Iti (d : Addr) (o : Obj) (kvs : List (Key × V)) : It :=
  ⟨fun i H => H d = some (.frz o (.dK kvs)) ∧ i < kvs.length, fun i H v H' => ∃ p k x, kvs[i]? = some (k, x) ∧ v = .ref p ∧ H p = none ∧ H' = upd H p (.tup [kV k, x]), fun i H => H d = some (.frz o (.dK kvs)) ∧ kvs.length ≤ i⟩
theorem turn_items {P : Program} {w : World} {K : PySem.W.Frag} {elts : List Expr} {x1} {tpos : Pos} (d it : Addr) (o : Obj) (kvs : List (Key × V)) (ep : Nat) (hep : ∃ es, o.data = .dict es ep) :
    Turn P w K (.Tuple elts x1 tpos) (Iti d o kvs) [it] it (fun i h => ∃ ok ov, IsItemIter h it d i kvs.length ep ok ov) where
  mem := by simp
  obj := fun i h st b hb => by
    have e : b = it := by simpa using hb
    subst e
    obtain ⟨ok, ov, st⟩ := st
    exact ⟨_, st, fun v z => by
      have z' : Data.fields _ = Data.cell v := z
      cases z'⟩
  keep := fun i h h' ⟨ok, ov, st⟩ k => ⟨ok, ov, k it (by simp) _ st⟩
  item := by
    intro X hP hw hK hc i pins s σ H E I hf st hg
    subst hP hw hK
    obtain ⟨ok, ov, st⟩ := st
    obtain ⟨e, lt⟩ := hg
    obtain ⟨vs, rel, da⟩ := frz_at I e hep
    obtain ⟨f0, f1, f2, f3, f4, f5⟩ := hf it (by simp)
    have hl : kvs.length = vs.length := rel.length
    obtain ⟨⟨k, x⟩, q⟩ : ∃ y, kvs[i] = y := ⟨_, rfl⟩
    have hx : kvs[i]? = some (k, x) := by rw [List.getElem?_eq_getElem lt, q]
    obtain ⟨u, hv, ru⟩ := rel.get hx
    rw [hl] at st
    refine wpAny_pyNext_items_item st da hv fun key h' hkey hout ht hz hkp => ?_
    refine ⟨_, rfl, wpAny_letOwnedTupleGo_items hout fun h'' hit' hsb => ?_⟩
    have kk : ∀ b o, b ≠ it → s.heap.get? b = some o → h''.get? b = some o := fun b o hb g => (hsb.2 b hb).trans (hkp b o hb g)
    have I1 : Inv X pins σ H { s with heap := h'' } := I.turned (t' := s.toks) kk f0 f1 f3 f4 f5
    obtain ⟨n0, nL, nC, nP⟩ := I.size_lt (Nat.le_refl s.heap.objs.size)
    have itlt : it < s.heap.objs.size := Heap.lt_size st
    have pne : s.heap.objs.size ≠ it := Nat.ne_of_gt itlt
    have hp : h''.get? s.heap.objs.size = some { cls := .type "tuple", data := .seq #[key, u] } := (hsb.2 _ pne).trans ht
    refine ⟨.ref s.heap.objs.size, upd H s.heap.objs.size (.tup [kV k, x]), I1.adopt n0 I.sz nL nC nP ⟨by show 2 ≤ sizeLine; decide, [key, u], .cons (kV_rel hkey) (.cons ru .nil), _, hp, rfl, _, rfl⟩, rfl, ⟨_, k, x, hx, rfl, n0, rfl⟩, ?_, fun b hb => ?_⟩
    · rw [← hl] at hit'
      exact ⟨_, _, hit'⟩
    · have e : b = it := by simpa using hb
      subst e
      rw [upd_ne (Ne.symm pne)]
      exact f0
  done := by
    intro X hP hw hK hc i pins s σ H E I hf st hg
    subst hP hw hK
    obtain ⟨ok, ov, st⟩ := st
    obtain ⟨e, le⟩ := hg
    obtain ⟨vs, rel, da⟩ := frz_at I e hep
    obtain ⟨f0, f1, f2, f3, f4, f5⟩ := hf it (by simp)
    have hl : kvs.length = vs.length := rel.length
    rw [hl] at st
    exact wpAny_pyNext_items_end (I.ok.hd hc) st da (by simpa using (by omega : vs.length ≤ i)) fun h' eb => ⟨rfl, I.turned (t' := s.toks) (fun b o hb e => eb b o hb e) f0 f1 f3 f4 f5⟩
  self := fun _ _ _ _ _ ⟨ok, ov, st⟩ h => PySem.W.kcp_self st h
def iItems (X : Cx) (to : TE) : TI := fun σ H R => to σ H fun x H1 => ∃ d kvs, x = .ref d ∧ H1 d = some (.dK kvs) ∧ ∀ ob, (∀ o' u', X.H₀ d ≠ some (.frz o' u')) → R (Iti d ob kvs) (upd H1 d (.frz ob (.dK kvs)))
section
variable {X : Cx} {o : Expr} {to : TE} {elts : List Expr} {x1 : _} {tpos apos cpos : Pos}
theorem pi_items (ho : PE X o to) (hbase : attributeBase o "items" X.env (eval o X.env) = eval o X.env := by rfl) (hline : (apos.endLine == cpos.line) = true := by rfl) :
    PI X (.Tuple elts x1 tpos) (.Call (.Attribute o "items" apos) [] [] cpos) (iItems X to) := by
  intro pins s σ H R I h
  refine wpAny_Call_method0_late hbase hline (thn (ho pins s σ H _ I h) fun v s1 ⟨x, H1, I1, r1, q1⟩ => ?_)
  obtain ⟨d, kvs, e1, e, q⟩ := q1
  subst e1
  cases r1
  obtain ⟨z, hd, vs, rel, dd⟩ := dk_of I1.hok e
  obtain ⟨ob, es, ep, g, ex, hdat, hk, hp, hn⟩ := id dd
  refine ⟨"dict", "dict.items", PySem.F.plainAttrs_dict, PySem.F.slot_dict_items, PySem.F.type_dict_items, dd.typeIs, fun a e2 => ?_, Calls.callWith_builtin rfl (PySem.evalArgs_none ?_)⟩
  · cases e2
    exact ⟨ob, g, ex.2.1⟩
  refine call_meetsIn PySem.F.slot_dict_items dd.typeIs PySem.F.entry_dict_items (PySem.F.args_dict_items_1 _) (meets_dict_items (mixKind X.prog X.w) d hd) ⟨⟨vs, dd⟩, ?_⟩
  have da : (s1.heap.push { cls := .type "dict_items", data := .fields #[.ref d] }).DictAt (mixKind X.prog X.w) d vs ep := ⟨ob, es, Heap.get?_push_of_some _ g, ex, hdat, hk, hp, hn⟩
  refine wpAny_pyIter_items (s := { s1 with heap := s1.heap.push { cls := .type "dict_items", data := .fields #[.ref d] } }) ⟨_, Heap.get?_push_size _ rfl, rfl, rfl⟩ da ?_
  have I2 : Inv X pins σ H1 { s1 with heap := s1.heap.push { cls := .type "dict_items", data := .fields #[.ref d] } } := I1.kept (t' := s1.toks) fun b o e => Heap.get?_push_of_some _ e
  generalize hs2 : ({ s1 with heap := s1.heap.push { cls := .type "dict_items", data := .fields #[.ref d] } } : Shared) = s2 at I2
  have g2 : s2.heap.get? d = some ob := by rw [← hs2]; exact Heap.get?_push_of_some _ g
  have I3 : Inv X pins σ (upd H1 d (.frz ob (.dK kvs))) s2 := I2.write (t' := s2.toks) (x := d) (e := d) (by rw [e]; exact True.intro) (.inl rfl) (fun b u _ q => q) ⟨ob, g2⟩ ⟨g2, I2.hok d _ e⟩
  have I4 : Inv X pins σ (upd H1 d (.frz ob (.dK kvs))) { s2 with heap := s2.heap.push { cls := .type "dict_itemiterator", data := .fields #[.none, .bool false, .ref d, .int 0 0, .int vs.length 0, .int ep 0, .none, .none] } } :=
    I3.kept (t' := s2.toks) fun b o e => Heap.get?_push_of_some _ e
  have fin : PIE X pins σ (.Tuple elts x1 tpos) R (.ref s2.heap.objs.size) { s2 with heap := s2.heap.push { cls := .type "dict_itemiterator", data := .fields #[.none, .bool false, .ref d, .int 0 0, .int vs.length 0, .int ep 0, .none, .none] } } := by
    refine ⟨s2.heap.objs.size, [s2.heap.objs.size], _, _, upd H1 d (.frz ob (.dK kvs)), rfl, I4, turn_items d _ ob kvs ep ⟨es, hdat⟩, ⟨.none, .none, ?_⟩, fun b hb => ?_, q ob (I1.nofrz e)⟩
    · have hl : kvs.length = vs.length := rel.length
      show IsItemIter _ _ d 0 kvs.length ep .none .none
      rw [hl]
      exact Heap.get?_push_size _ rfl
    · have eb : b = s2.heap.objs.size := by simpa using hb
      subst eb
      exact I3.fpOk (Nat.le_refl _) (I3.hok.fresh (Nat.le_refl _))
  exact fin
theorem thaw_end {pins : List (Addr × Obj)} {σ : St} {Q : VK} {u : Value} {s : Shared} (h : EP X pins σ (fun v H2 => ∃ d ob u, H2 d = some (.frz ob u) ∧ (∀ o' u', X.H₀ d ≠ some (.frz o' u')) ∧ Q v (upd H2 d u)) u s) : EP X pins σ Q u s := by
  obtain ⟨v, H2, I2, r2, d, ob, u', e, nf, q⟩ := h
  exact ⟨v, _, I2.thaw e nf, r2, q⟩
theorem pe_thaw {e : Expr} {t : TE} (h : PE X e t) : PE X e (fun σ H Q => t σ H fun v H2 => ∃ d ob u, H2 d = some (.frz ob u) ∧ (∀ o' u', X.H₀ d ≠ some (.frz o' u')) ∧ Q v (upd H2 d u)) := fun pins s σ H Q I q =>
  thn (h pins s σ H _ I q) fun _ _ z => thaw_end z
end
end L2
set_option maxRecDepth 100000
namespace PySem.F
theorem xl_plain_dict_loop : plainId "dict.update.loop" = true := by decide +kernel
theorem xl_entry_dict_loop : entryFor table "dict.update.loop" = some Builtin.«dict.update.loop» := entryFor_of_tree (by kernel_rfl)
end PySem.F
namespace L2
open PySem PySem.Spec PyProof.Rows XL
variable {q0 : Bool}
section
variable {X : Cx} {pins : List (Addr × Obj)} {σ : St} {H : Hp} {s : Shared} {a : Addr} {y v : V} {u r : Value} {A : Around} {E : Value → Shared → Prop}
theorem d_dictSet {H' : Hp} {Q : Unit → Shared → Prop} (hu : A.units < cLine) (I : Inv X pins σ H s) (g : DPut H a y v H') (ry : RelV y u) (rv : RelV v r) (h : ∀ s', Inv X pins σ H' s' → Q () s') :
    wpAny (model X.prog X.w) A (dictSet a u r) Q E s := by
  rcases g with ⟨kvs, k, e, ey, l, eH⟩ | ⟨kvs, k, b, e, ey, eb, l, eH⟩
  · subst ey eH
    obtain ⟨z, hd, vs, rel, dd⟩ := dk_of I.hok e
    have hz : vs.length ≤ sizeLine := by rw [← rel.length]; exact z
    have hl : (putK kvs k v).length ≤ sizeLine := by have := length_putK kvs k v; omega
    refine wpAny_dictSet_pairs (hsz := hz) (kV_is ry) dd fun h' dd' hs => h _ ?_
    have he : ∃ q, h'.get? a = some q := let ⟨q, _, _, hq, _⟩ := dd'; ⟨q, hq⟩
    exact d_write I (by rw [e]; exact True.intro) hs he (dk_new hl hd (rel.put k rv) dd')
  · subst ey eH
    cases (show u = Value.ref b from ry)
    obtain ⟨z, hd, xs, rel, dd⟩ := dt_of I.hok e
    have hz : xs.length ≤ sizeLine := by rw [← Paired.length rel]; exact z
    have hl : (putK kvs k v).length ≤ sizeLine := by have := length_putK kvs k v; omega
    refine wpAny_dictSet_heap (hsz := hz) (show (tupleKind (mixKind X.prog X.w)).room A from hu) (key_of I.hok eb) dd fun h' dd' hs => h _ ?_
    obtain ⟨q, es, ep, hq, h2, h3, h4, _, h5⟩ := dd'
    refine d_write I (by rw [e]; exact True.intro) hs ⟨q, hq⟩ ⟨hl, hd, _, (rel.put k eb rv).keeps fun c ys ec => ?_, q, es, ep, hq, h2, h3, h4, h5⟩
    rw [upd_ne (ne_of ec e (fun z => nomatch z))]
    exact ec
end
end L2
set_option maxRecDepth 100000
namespace L2
open PySem PySem.Spec PyProof.Rows XL
variable {q0 : Bool}
section
variable {X : Cx} {tg : Expr}
end
theorem vals_at {xs : List V} {us : List Value} (r : Vals xs us) {j : Nat} (h : j < us.toArray.size) : ∃ x, xs[j]? = some x ∧ RelV x us.toArray[j] := by
  have hl := r.length
  have hj : j < xs.length := by simp at h; omega
  obtain ⟨u, h1, h2⟩ := r.get (x := xs[j]) (List.getElem?_eq_getElem hj)
  refine ⟨xs[j], List.getElem?_eq_getElem hj, ?_⟩
  have : us.toArray[j] = u := by
    have z := List.getElem?_eq_some_iff.mp h1
    obtain ⟨z1, z2⟩ := z
    simpa using z2
  rw [this]
  exact h2
section
variable {X : Cx} {pins : List (Addr × Obj)} {σ : St} {H : Hp} {s : Shared}
end
theorem hu3_of {A : Around} {k : Nat} (hr : Room q0 k A) : A.units + 3 < cLine := by have := hr.un; omega
theorem hu20_of {A : Around} {k : Nat} (hr : Room q0 k A) : A.units + 20 < cLine := by have := hr.un; omega
theorem call_lenD {X : Cx} : CallR X (.builtin "len") (fun xs H Q => ∃ a kvs, xs = [.ref a] ∧ H a = some (.dK kvs) ∧ Q (.int kvs.length) H) := by
  intro pins s σ H xs us Q I r h
  obtain ⟨a, kvs, rfl, e, q⟩ := h
  obtain ⟨u, rfl, rx⟩ := vals1 r
  obtain rfl : u = Value.ref a := rx
  exact d_len I (.inl e) fun t s' I' => ⟨.int _, H, I', ⟨t, rfl⟩, q⟩
inductive Ents (w : World) : List DictEntry → List (Key × V) → Prop
  | nil : Ents w [] []
  | cons {k : Key} {x : V} {key val : Value} {h : Int} {es : List DictEntry} {kvs : List (Key × V)} (hh : h = keyH w k) (hk : RelV (kV k) key) (hv : RelV x val) (r : Ents w es kvs) : Ents w (⟨h, key, val⟩ :: es) ((k, x) :: kvs)
def GDict (w : World) (K : PySem.W.Frag) (D : Addr) (kvs : List (Key × V)) : Prop := (D == sysModules) = false ∧ ∃ (es : Array DictEntry) (ep : Nat), K.lookup D = some ⟨.type "dict", none, .dict es ep, #[]⟩ ∧ Ents w es.toList kvs ∧ (kvs.map (·.1)).Nodup
theorem Ents.ok {P : Program} {w : World} {es : List DictEntry} {kvs : List (Key × V)} (h : Ents w es kvs) : ∃ vs, KV kvs vs ∧ Pairs (mixKind P w) es vs ∧ ∀ e ∈ es, ∃ k, (mixKind P w).is k e.key = true ∧ e.hash = (mixKind P w).hash k := by
  induction h with
  | nil => exact ⟨[], .nil, .nil, fun e z => nomatch z⟩
  | @cons k x key val h es kvs hh hk hv _ ih =>
    obtain ⟨vs, a, b, c⟩ := ih
    refine ⟨(k, val) :: vs, .cons ⟨rfl, hv⟩ a, .cons (kV_is hk) rfl b, fun e he => ?_⟩
    rcases List.mem_cons.mp he with rfl | z
    · exact ⟨k, kV_is hk, hh⟩
    · exact c e z
section
variable {X : Cx} {pins : List (Addr × Obj)} {σ : St} {H : Hp} {s : Shared} {D : Addr} {kvs : List (Key × V)}
theorem gdict_at (I : Inv X pins σ H s) (g : GDict X.w X.K D kvs) : ∃ vs, KV kvs vs ∧ s.heap.DictOf (mixKind X.prog X.w) D vs := by
  obtain ⟨_, es, ep, l, en, nd⟩ := g
  obtain ⟨vs, a, b, c⟩ := en.ok (P := X.prog)
  refine ⟨vs, a, _, es, ep, I.kIn _ _ l, ⟨rfl, rfl, rfl⟩, rfl, fun e he => c e (by simpa using he), b, ?_⟩
  rw [← a.keys]
  exact nd
def tGIn (kvs : List (Key × V)) (neg : Bool) (ty : TE) : TE := fun σ H Q => ty σ H fun y H1 => ∃ k : Key, y = kV k ∧ Q (.bl (if neg then !(valV kvs k).isSome else (valV kvs k).isSome)) H1
theorem pc_gnotin {i : Expr} {ty : TE} {x : Str} {p : Pos} (hi : PE X i ty) (hg : Gl X x) (hm : X.mg x = some (.ref D)) (g : GDict X.w X.K D kvs) (hd : (x == ("__debug__" : Str)) = false := by decide) : PC X .NotIn i (.Name x p) (tGIn kvs true ty) := by
  intro pins s σ H Q I h
  refine thn (hi pins s σ H _ I h) fun iv s1 ⟨y, H1, I1, ry, k, ey, q1⟩ => thn (pe_glob (v := .ref D) hg hm rfl hd pins s1 σ H1 (fun v H2 => v = .ref D ∧ H2 = H1) I1 ⟨rfl, rfl⟩) fun u s2 ⟨x, H2, I2, rx, e1, e2⟩ => ?_
  subst ey e1 e2
  obtain rfl : u = Value.ref D := rx
  obtain ⟨vs, rel, dd⟩ := gdict_at I2 g
  refine wpAny_notIn_of (kV_is ry) g.1 dd.mapOf ?_
  rw [← (rel.val k).isSome_eq]
  exact ⟨.bl _, _, I2.tok _, rfl, q1⟩
end
end L2
set_option maxRecDepth 100000
namespace L2
open PySem PySem.Spec PyProof.Rows XL
variable {q0 : Bool}
theorem preSum_take {ns : List Int} {f : Nat → Int} (h : ∀ j (l : j < ns.length), f j = ns[j]) : ∀ j, j ≤ ns.length → preSum f j = (ns.take j).sum := by
  intro j
  induction j with
  | zero => intro _; rfl
  | succ j ih =>
    intro l
    have l' : j < ns.length := l
    show preSum f j + f j = _
    rw [ih (Nat.le_of_lt l'), h j l', List.take_add_one, List.getElem?_eq_getElem l', List.sum_append]
    simp
theorem sum_in {ns : List Int} (B : Int) (hb : ∀ n ∈ ns, -B ≤ n ∧ n ≤ B) (h0 : 0 ≤ B) : -(ns.length * B) ≤ ns.sum ∧ ns.sum ≤ ns.length * B := by
  induction ns with
  | nil => simp
  | cons a r ih =>
    have := ih fun n hn => hb n (List.mem_cons_of_mem _ hn)
    have := hb a List.mem_cons_self
    rw [List.sum_cons, List.length_cons]
    have e : ((r.length + 1 : Nat) : Int) * B = r.length * B + B := by rw [Int.natCast_add, Int.add_mul]; simp
    rw [e]
    omega
def rSumL (K : PySem.W.Frag) : List V → Hp → VK → Prop := fun xs H Q => ∃ (p : Addr) (ns : List Int), xs = [.ref p] ∧ SqL K H p (ns.map V.int) ∧ (ns.length ≤ 1000 ∧ ∀ n ∈ ns, -1000000 ≤ n ∧ n ≤ 1000000) ∧ Q (.int ns.sum) H
theorem call_sumL {X : Cx} (hc : X.calm = true) : CallR X (.builtin "sum") (rSumL X.K) := by
  intro pins s σ H xs us Q I r h
  obtain ⟨p, ns, rfl, hs, ⟨hlen, hb⟩, q⟩ := h
  obtain ⟨u, rfl, rx⟩ := vals1 r
  obtain rfl : u = Value.ref p := rx
  obtain ⟨its, vi, ⟨o, n, g, c, _, d⟩, _⟩ := I.list hs
  have hi : IntsAre its ns := intsAre_of vi
  have il : s.heap.IsList p its.toArray := ⟨o, g, c, n, d⟩
  obtain ⟨zs, e⟩ := hi.allInts.items
  have en : ns = zs.toList.map (·.1) := by rw [← hi.numsOf, ← nums_intItems, ← e]
  rw [e] at il
  have sz : zs.size = ns.length := by rw [en, List.length_map, Array.length_toList]
  have hat : ∀ j (l : j < ns.length), numAt zs j = ns[j] := fun j l => by
    rw [numAt_eq, ← en]
    simp [List.getD, l]
  have bd : ∀ j, j ≤ ns.length → InLong (ns.take j).sum := fun j l => by
    have := sum_in 1000000 (ns := ns.take j) (fun n hn => hb n (List.mem_of_mem_take hn)) (by decide)
    have hl : (ns.take j).length ≤ 1000 := by rw [List.length_take]; omega
    unfold InLong
    omega
  refine sum_intList (I.ok.hd hc) il (fun j hj => ⟨?_, ?_⟩) fun h' tk t' hk => ?_
  · rw [hat j (by omega)]
    have := hb ns[j] (List.getElem_mem _)
    unfold InLong
    omega
  · rw [preSum_take hat (j + 1) (by omega)]
    exact bd _ (by omega)
  · refine ⟨.int _, H, I.kept hk, ⟨t', rfl⟩, ?_⟩
    rw [sz, preSum_take hat _ (Nat.le_refl _), List.take_length]
    exact q
end L2
set_option maxRecDepth 100000
namespace L2
open PySem PySem.Spec PyProof.Rows XL
variable {q0 : Bool}
section
variable {X : Cx} {pins : List (Addr × Obj)} {σ : St} {H : Hp} {s : Shared} {h' : Heap}
theorem Inv.turnedL {t' : Nat} {ch : List Addr} (I : Inv X pins σ H s) (k : ∀ b o, b ∉ ch → s.heap.get? b = some o → h'.get? b = some o) (hf : ∀ b ∈ ch, FpOk X pins H b) : Inv X pins σ H { s with heap := h', toks := t' } := by
  have nit : ∀ b u, H b = some u → b ∉ ch := fun b u e z => by
    have := (hf b z).1
    rw [this] at e
    cases e
  refine I.step (g' := s.gens) (d' := s.drawn) (ch := ch) (fun b hb => ?_) (fun b o _ _ hc e _ => k b o hc e) (fun b o _ _ hc e _ => ⟨o.slots, k b o hc e⟩) (fun _ _ _ _ n => n)
    (fun b o hc e => ⟨o, k b o hc e⟩) (fun _ _ e => e) (fun _ _ _ e => e) (fun b ps e => ⟨#[], by rw [e]; simp⟩) (fun m hm => ?_) (fun b u e => ?_) I.bare
  · obtain ⟨f0, f1, f2, f3, f4, f5⟩ := hf b hb
    exact ⟨f3, f1, f4, f5⟩
  · obtain ⟨o, es, ep, ho, r⟩ := hm
    exact ⟨o, es, ep, k _ o (fun z => (hf _ z).2.1 rfl) ho, r⟩
  · refine (I.hok b u e).stay (fun c v hc q => k c v ?_ q) (fun _ q => q) fun _ _ q => q
    rcases hc with z | z
    · rw [z]; exact nit b u e
    · exact nit c _ z
end
section
variable {X : Cx} {tg : Expr}
end
def Itz (K : PySem.W.Frag) (l1 l2 : Addr) : It :=
  ⟨fun i H => ∃ xs ys x y, SqL K H l1 xs ∧ SqL K H l2 ys ∧ xs[i]? = some x ∧ ys[i]? = some y,
   fun i H v H' => ∃ p x y, (∀ xs, SqL K H l1 xs → xs[i]? = some x) ∧ (∀ ys, SqL K H l2 ys → ys[i]? = some y) ∧ v = .ref p ∧ H p = none ∧ H' = upd H p (.tup [x, y]),
   fun i H => ∃ xs ys, SqL K H l1 xs ∧ SqL K H l2 ys ∧ (xs.length ≤ i ∨ ys.length ≤ i)⟩
structure Five (z TI TO i1 i2 : Addr) : Prop where
  TIz : TI ≠ z
  TOz : TO ≠ z
  i1z : i1 ≠ z
  i2z : i2 ≠ z
  TITO : TI ≠ TO
  TIi1 : TI ≠ i1
  TIi2 : TI ≠ i2
  TOi1 : TO ≠ i1
  TOi2 : TO ≠ i2
  i12 : i1 ≠ i2
theorem ne_num {a b : Nat} (h : a ≠ b) : (a : Addr) ≠ (b : Addr) := h
theorem five_of (n : Nat) : Five (n + 4) (n + 2) (n + 3) n (n + 1) :=
  ⟨ne_num (by omega), ne_num (by omega), ne_num (by omega), ne_num (by omega), ne_num (by omega), ne_num (by omega), ne_num (by omega), ne_num (by omega), ne_num (by omega), ne_num (by omega)⟩
def ZipSt (z TI TO i1 i2 l1 l2 : Addr) (i : Nat) (h : Heap) : Prop := IsZip h z TI TO .none ∧ IsPair h TI (.ref i1) (.ref i2) ∧ (∃ a b, IsPair h TO a b) ∧ h.IsListIter i1 l1 i ∧ h.IsListIter i2 l2 i
theorem cls_ne {h : Heap} {a b : Addr} {x y : String} (ha : ∃ o, h.get? a = some o ∧ o.cls = .type x) (hb : ∃ o, h.get? b = some o ∧ o.cls = .type y) (n : (Value.type x == Value.type y) = false) : a ≠ b := fun e => by
  subst e
  obtain ⟨o, ho, hc⟩ := ha
  obtain ⟨u, hu, hd⟩ := hb
  rw [ho] at hu
  cases hu
  rw [hc] at hd
  rw [hd] at n
  simp at n
theorem zip_apart {z TI TO i1 i2 l1 l2 : Addr} {i : Nat} {h : Heap} {xs ys : Array Value} (D : Five z TI TO i1 i2) (st : ZipSt z TI TO i1 i2 l1 l2 i h) (hl1 : h.IsList l1 xs) (hl2 : h.IsList l2 ys) : ZipApart z TI TO i1 i2 l1 l2 := by
  obtain ⟨hz, hTI, ⟨a, b, hTO⟩, h1, h2⟩ := st
  have cz : ∃ o, h.get? z = some o ∧ o.cls = .type "zip" := ⟨_, hz, rfl⟩
  have cO : ∃ o, h.get? TO = some o ∧ o.cls = .type "tuple" := ⟨_, hTO, rfl⟩
  have c1 : ∃ o, h.get? i1 = some o ∧ o.cls = .type "list_iterator" := let ⟨o, e, c, _⟩ := h1; ⟨o, e, c⟩
  have c2 : ∃ o, h.get? i2 = some o ∧ o.cls = .type "list_iterator" := let ⟨o, e, c, _⟩ := h2; ⟨o, e, c⟩
  have k1 : ∃ o, h.get? l1 = some o ∧ o.cls = .type "list" := let ⟨o, e, c, _⟩ := hl1; ⟨o, e, c⟩
  have k2 : ∃ o, h.get? l2 = some o ∧ o.cls = .type "list" := let ⟨o, e, c, _⟩ := hl2; ⟨o, e, c⟩
  exact ⟨D.TIz, D.TOz, D.i1z, D.i2z, D.TITO, D.TIi1, D.TIi2, D.TOi1, D.TOi2, D.i12, cls_ne k1 cz (by decide), cls_ne k1 cO (by decide), cls_ne k1 c1 (by decide), cls_ne k1 c2 (by decide), cls_ne k2 cz (by decide), cls_ne k2 cO (by decide), cls_ne k2 c1 (by decide), cls_ne k2 c2 (by decide)⟩
theorem turn_zip {P : Program} {w : World} {K : PySem.W.Frag} {elts : List Expr} {x1} {tpos : Pos} (z TI TO i1 i2 l1 l2 : Addr) (D : Five z TI TO i1 i2) :
    Turn P w K (.Tuple elts x1 tpos) (Itz K l1 l2) [z, TI, TO, i1, i2] z (ZipSt z TI TO i1 i2 l1 l2) where
  mem := by simp
  obj := fun i h st b hb => by
    obtain ⟨hz, hTI, ⟨a, c, hTO⟩, ⟨o1, e1, c1, d1⟩, ⟨o2, e2, c2, d2⟩⟩ := st
    simp only [List.mem_cons, List.not_mem_nil, or_false] at hb
    rcases hb with rfl | rfl | rfl | rfl | rfl
    · exact ⟨_, hz, fun v k => by have k' : Data.fields _ = Data.cell v := k; cases k'⟩
    · exact ⟨_, hTI, fun v k => by have k' : Data.seq _ _ = Data.cell v := k; cases k'⟩
    · exact ⟨_, hTO, fun v k => by have k' : Data.seq _ _ = Data.cell v := k; cases k'⟩
    · exact ⟨_, e1, fun v k => by rw [d1] at k; cases k⟩
    · exact ⟨_, e2, fun v k => by rw [d2] at k; cases k⟩
  keep := fun i h h' ⟨hz, hTI, ⟨a, c, hTO⟩, h1, h2⟩ k => ⟨k z (by simp) _ hz, k TI (by simp) _ hTI, ⟨a, c, k TO (by simp) _ hTO⟩, h1.at fun o e => k i1 (by simp) o e, h2.at fun o e => k i2 (by simp) o e⟩
  item := by
    intro X hP hw hK hc i pins s σ H E I hf st hg
    subst hP hw hK
    obtain ⟨xs, ys, x, y, hq1, hq2, hx, hy⟩ := hg
    obtain ⟨its, rv, p, hz1⟩ := I.list hq1
    obtain ⟨its2, rv2, p2, hz2⟩ := I.list hq2
    obtain ⟨u, hu, ru⟩ := rv.get hx
    obtain ⟨u2, hu2, ru2⟩ := rv2.get hy
    have ap := zip_apart D st p.isList p2.isList
    obtain ⟨hz, hTI, ⟨a, c, hTO⟩, h1, h2⟩ := id st
    refine wpAny_pyNext_zip_item ap hz hTI hTO h1 h2 p.isList p2.isList (x := u) (y := u2) (by simpa using hu) (by simpa using hu2) fun h' a1 a2 a3 a4 a5 a6 a7 => ?_
    refine ⟨_, rfl, wpAny_letOwnedTupleGo_zip (s := { s with heap := h' }) a1 fun h'' hz' hsb => ?_⟩
    have zlt : z < s.heap.objs.size := Heap.lt_size hz
    have pne : s.heap.objs.size ≠ z := Nat.ne_of_gt zlt
    have kk : ∀ b o, b ∉ [z, TI, TO, i1, i2] → s.heap.get? b = some o → h''.get? b = some o := fun b o hb g => by
      simp only [List.mem_cons, List.not_mem_nil, or_false, not_or] at hb
      exact (hsb.2 b hb.1).trans (a7 b o hb.1 hb.2.2.1 hb.2.2.2.1 hb.2.2.2.2 g)
    have I1 : Inv X pins σ H { s with heap := h'' } := I.turnedL (t' := s.toks) kk hf
    obtain ⟨n0, nL, nC, nP⟩ := I.size_lt (Nat.le_refl s.heap.objs.size)
    have hp : h''.get? s.heap.objs.size = some { cls := .type "tuple", data := .seq #[u, u2] } := (hsb.2 _ pne).trans a5
    have hTI' : h'.get? TI = _ := a7 TI _ ap.TIz ap.TITO ap.TIi1 ap.TIi2 hTI
    refine ⟨.ref s.heap.objs.size, upd H s.heap.objs.size (.tup [x, y]), I1.adopt n0 I.sz nL nC nP ⟨by show 2 ≤ sizeLine; decide, [u, u2], .cons ru (.cons ru2 .nil), _, hp, rfl, _, rfl⟩, rfl,
      ⟨_, x, y, fun zs hz => by rw [I.list_inj hz hq1]; exact hx, fun zs hz => by rw [I.list_inj hz hq2]; exact hy, rfl, n0, rfl⟩, ?_, fun b hb => ?_⟩
    · exact ⟨hz', hsb.extBut _ _ ap.TIz hTI', ⟨_, _, hsb.extBut _ _ ap.TOz a2⟩, a3.extBut hsb.extBut ap.i1z, a4.extBut hsb.extBut ap.i2z⟩
    · obtain ⟨o, ho, _⟩ : ∃ o, s.heap.get? b = some o ∧ ∀ v, o.data ≠ .cell v := by
        obtain ⟨⟨o1, e1, c1, d1⟩, ⟨o2, e2, c2, d2⟩⟩ := And.intro h1 h2
        simp only [List.mem_cons, List.not_mem_nil, or_false] at hb
        rcases hb with rfl | rfl | rfl | rfl | rfl
        · exact ⟨_, hz, fun v k => by have k' : Data.fields _ = Data.cell v := k; cases k'⟩
        · exact ⟨_, hTI, fun v k => by have k' : Data.seq _ _ = Data.cell v := k; cases k'⟩
        · exact ⟨_, hTO, fun v k => by have k' : Data.seq _ _ = Data.cell v := k; cases k'⟩
        · exact ⟨_, e1, fun v k => by rw [d1] at k; cases k⟩
        · exact ⟨_, e2, fun v k => by rw [d2] at k; cases k⟩
      rw [upd_ne (Nat.ne_of_lt (Heap.lt_size ho))]
      exact (hf b hb).1
  done := by
    intro X hP hw hK hc i pins s σ H E I hf st hg
    subst hP hw hK
    obtain ⟨xs, ys, hq1, hq2, hl⟩ := hg
    obtain ⟨its, rv, p, hz1⟩ := I.list hq1
    obtain ⟨its2, rv2, p2, hz2⟩ := I.list hq2
    have e1 := rv.length
    have e2 := rv2.length
    have ap := zip_apart D st p.isList p2.isList
    obtain ⟨hz, hTI, ⟨a, c, hTO⟩, h1, h2⟩ := id st
    refine wpAny_pyNext_zip_end (I.ok.hd hc) ap hz hTI hTO h1 h2 p.isList p2.isList ?_ fun h' a7 => ⟨rfl, I.turnedL (t' := s.toks) (fun b o hb g => ?_) hf⟩
    · rcases hl with l | l
      · left; simp; omega
      · right; simp; omega
    · simp only [List.mem_cons, List.not_mem_nil, or_false, not_or] at hb
      exact a7 b o hb.1 hb.2.2.1 hb.2.2.2.1 hb.2.2.2.2 g
  self := fun _ _ _ _ _ st h => wpAny_pyIter_zip st.1 h
def iZip (K : PySem.W.Frag) (ta : TA) : TI := fun σ H R => ta σ H fun vs H1 => ∃ a b xs ys, vs = [.ref a, .ref b] ∧ SqL K H1 a xs ∧ SqL K H1 b ys ∧ R (Itz K a b) H1
section
variable {X : Cx} {elts : List Expr} {x1 : _} {tpos : Pos}
theorem pi_zip {a b : Expr} {ta : TA} {p pos : Pos} (hg : Gl X "zip") (hm : X.mg "zip" = none) (ha : PA X [a, b] ta) (hs : starEach [a, b] X.env = [(false, eval a X.env), (false, eval b X.env)] := by rfl) (hs2 : starEach [b] X.env = [(false, eval b X.env)] := by rfl) :
    PI X (.Tuple elts x1 tpos) (.Call (.Name "zip" p) [a, b] [] pos) (iZip X.K ta) := by
  intro pins s σ H R I h
  refine Call_ (ld_blt I hg hm PyProof.Rows.Boot.«zip» (PyProof.Rows.callWith_type1 (thn (ha pos pins s σ H _ I h) fun us s1 ⟨vs, H1, I1, r1, q1⟩ => ?_) (by rw [hs, hs2]) (by rw [hs2]; rfl)))
  obtain ⟨l1, l2, xs, ys, e, hq1, hq2, q⟩ := q1
  subst e
  obtain ⟨u, u2, rfl, ru, ru2⟩ := vals2 r1
  obtain rfl : u = Value.ref l1 := ru
  obtain rfl : u2 = Value.ref l2 := ru2
  obtain ⟨its, rv, p1, hz1⟩ := I1.list hq1
  obtain ⟨its2, rv2, p2, hz2⟩ := I1.list hq2
  refine call_zip_2 p1.isList p2.isList fun h' hz hTI hTO h1 h2 hsz hk => ?_
  refine wpAny_pyIter_zip (s := { s1 with heap := h' }) hz ?_
  have I2 : Inv X pins σ H1 { s1 with heap := h' } := I1.kept (t' := s1.toks) hk
  refine ⟨_, [s1.heap.objs.size + 4, s1.heap.objs.size + 2, s1.heap.objs.size + 3, s1.heap.objs.size, s1.heap.objs.size + 1], _, _, H1, rfl, I2, turn_zip _ _ _ _ _ l1 l2 (five_of s1.heap.objs.size), ⟨hz, hTI, ⟨_, _, hTO⟩, h1, h2⟩, fun b hb => ?_, q⟩
  have hb' : s1.heap.objs.size ≤ b := by
    simp only [List.mem_cons, List.not_mem_nil, or_false] at hb
    rcases hb with rfl | rfl | rfl | rfl | rfl
    · exact Nat.le_add_right _ 4
    · exact Nat.le_add_right _ 2
    · exact Nat.le_add_right _ 3
    · exact Nat.le_refl _
    · exact Nat.le_add_right _ 1
  exact I1.fpOk hb' (I1.hok.fresh hb')
end
end L2
set_option maxRecDepth 100000
namespace L2
open PySem PySem.Spec PyProof.Rows XL
variable {q0 : Bool}
theorem for_zip {K : PySem.W.Frag} {a b : Addr} {xs ys : List V} {g : TG} {tb : TS} {D : Ends} {σ : St} {H : Hp} (n : Nat) (hx : n ≤ xs.length) (hy : n ≤ ys.length) (hn : xs.length ≤ n ∨ ys.length ≤ n) (Pv : Nat → St → Hp → Prop) (h0 : Pv 0 σ H) (hl : ∀ i σ H, i ≤ n → Pv i σ H → SqL K H a xs ∧ SqL K H b ys)
    (hs : ∀ i x y p σ H, xs[i]? = some x → ys[i]? = some y → H p = none → Pv i σ H → g (.ref p) σ (upd H p (.tup [x, y])) fun σ2 H2 => tb { D with nx := Pv (i + 1), ct := Pv (i + 1), bk := D.nx } σ2 H2) (hd : ∀ σ H, Pv n σ H → D.nx σ H) :
    ∃ W : Nat → Nat → St → Hp → Prop, (∃ m, W 0 m σ H) ∧ ∀ i m σ H, W i m σ H →
      ((Itz K a b).stop i H ∧ D.nx σ H) ∨ ((Itz K a b).go i H ∧ ∃ N : St → Hp → Prop, (∀ σ' H', N σ' H' → ∃ m', m' < m ∧ W (i + 1) m' σ' H') ∧ ∀ x H', (Itz K a b).yld i H x H' → g x σ H' fun σ2 H2 => tb { D with nx := N, ct := N, bk := D.nx } σ2 H2) := by
  refine ⟨fun i m σ H => m = n - i ∧ i ≤ n ∧ Pv i σ H, ⟨n, by simp, Nat.zero_le _, h0⟩, ?_⟩
  rintro i m σ H ⟨rfl, hi, p⟩
  obtain ⟨q1, q2⟩ := hl i σ H hi p
  by_cases hlt : i < n
  · refine .inr ⟨⟨xs, ys, xs[i], ys[i], q1, q2, List.getElem?_eq_getElem (by omega), List.getElem?_eq_getElem (by omega)⟩, Pv (i + 1), fun σ' H' p' => ⟨n - (i + 1), by omega, rfl, hlt, p'⟩, fun x H' y => ?_⟩
    obtain ⟨r, x', y', e1, e2, rfl, hr, rfl⟩ := y
    exact hs i x' y' r σ H (e1 _ q1) (e2 _ q2) hr p
  · have e : i = n := by omega
    subst e
    exact .inl ⟨⟨xs, ys, q1, q2, hn⟩, hd σ H p⟩
section
variable {X : Cx} {elts : List Expr} {x1 : _} {tpos : Pos}
end
end L2
namespace L2
open PySem PySem.Spec PyProof.Rows XL
end L2
set_option maxRecDepth 100000
namespace L2
open PySem PySem.Spec PyProof.Rows XL
def tMid (t : TS) : TS := fun D σ H => ∃ Pv : St → Hp → Prop, t { D with nx := Pv } σ H ∧ ∀ σ' H', Pv σ' H' → D.nx σ' H'
theorem ps_mid {X : Cx} {st : Stmt} {t : TS} (h : PS X st t) : PS X st (tMid t) := by
  intro pins s σ H D I q
  obtain ⟨Pv, q1, q2⟩ := q
  refine thn (h pins s σ H { D with nx := Pv } I q1) fun fl s1 z => ?_
  cases fl with
  | next =>
    obtain ⟨σ', H', I', r⟩ := z
    exact ⟨σ', H', I', q2 _ _ r⟩
  | _ => exact z
end L2
set_option maxRecDepth 100000
namespace XL
open PySem PySem.W
section
variable {prog : Program} {w : World} {A : Around} {E : Value → Shared → Prop} {h : Heap} {g : Array GenState} {d : Drawn} {t : Nat} {os : OsState}
variable {nm qn : Str} {C N : Addr} {bs bm bmB : List Value} {hz : Bool} {sn : List Str} {sub : List Value} {ab : Bool} {col : Option Bool} {dd : Option Addr} {k0 k1 k2 k3 k5 : Option Value} {B ni ii : String}
end
end XL
namespace L2
open PySem PySem.Spec PyProof.Rows XL
variable {q0 : Bool}
section
variable {X : Cx} {C : Addr} {x : Str} {p pos : Pos}
end
section
variable {X : Cx} {pos np hpos np1 np2 hpos1 hpos2 : Pos} {body hbody hbody1 hbody2 : List Stmt} {b0 b1 b2 : Stmt} {cx cx1 cx2 n : Str} {C0 C1 C2 : Addr} {j : Nat} {E : St → XK} {tb th th1 th2 : TS} {rest : List ExceptHandler}
end
end L2
set_option maxRecDepth 100000
namespace L2
open PySem PySem.Spec PyProof.Rows XL
section
variable {X : Cx} {a b c d : Expr} {ta tb tc td : TE} {pos : Pos}
end
end L2
set_option maxRecDepth 100000
set_option maxHeartbeats 4000000
namespace L2
open PySem PySem.Calls PyProof PyProof.Rows
theorem vals3 {x y z : V} {us : List Value} (r : Vals [x, y, z] us) : ∃ u v w, us = [u, v, w] ∧ RelV x u ∧ RelV y v ∧ RelV z w := by
  cases r with
  | cons r1 r2 =>
    cases r2 with
    | cons r3 r4 =>
      cases r4 with
      | cons r5 r6 => cases r6; exact ⟨_, _, _, rfl, r1, r3, r5⟩
theorem call_min3 {X : Cx} (hc : X.calm = true) : CallR X (.builtin "min") (fun xs H Q => ∃ i j k : Int, xs = [.int i, .int j, .int k] ∧ ∀ m : Int, m ≤ i → m ≤ j → m ≤ k → (m = i ∨ m = j ∨ m = k) → Q (.int m) H) := by
  intro pins s σ H xs us Q I r h
  obtain ⟨i, j, k, rfl, q⟩ := h
  obtain ⟨u, v, w', rfl, ⟨t, rfl⟩, ⟨t', rfl⟩, ⟨t2, rfl⟩⟩ := vals3 r
  refine min_three_ints (I.ok.hd hc) fun h' tk k' => ?_
  by_cases h1 : j < i
  · rw [if_pos h1]
    by_cases h2 : k < j
    · rw [if_pos h2]
      exact ⟨.int k, H, I.kept k', ⟨_, rfl⟩, q k (by omega) (by omega) (by omega) (.inr (.inr rfl))⟩
    · rw [if_neg h2]
      exact ⟨.int j, H, I.kept k', ⟨_, rfl⟩, q j (by omega) (by omega) (by omega) (.inr (.inl rfl))⟩
  · rw [if_neg h1]
    by_cases h2 : k < i
    · rw [if_pos h2]
      exact ⟨.int k, H, I.kept k', ⟨_, rfl⟩, q k (by omega) (by omega) (by omega) (.inr (.inr rfl))⟩
    · rw [if_neg h2]
      exact ⟨.int i, H, I.kept k', ⟨_, rfl⟩, q i (by omega) (by omega) (by omega) (.inl rfl)⟩
section
variable {X : Cx}
end
end L2
set_option maxRecDepth 100000
namespace PySem.F
theorem xl_zip_nokeys : typeLookup (.type "zip") "keys" = pure none := by rw [typeLookup_type, builtinLookup_eq_fast]; kernel_rfl
theorem xl_zip_nogetattr : typeLookup (.type "zip") "__getattr__" = pure none := by rw [typeLookup_type, builtinLookup_eq_fast]; kernel_rfl
theorem xl_entry_zip_getattribute : entryFor table "zip.__getattribute__" = some Builtin.«object.__getattribute__» := entryFor_alias (id' := "object.__getattribute__") (by kernel_rfl) (by decide +kernel) (by decide +kernel) (by kernel_rfl)
end PySem.F
namespace L2
open PySem PySem.Spec PyProof.Rows XL
variable {q0 : Bool}
theorem meets_zip_keys (a : Addr) (vs : Array Value) (u : Tok) :
  Meets (Builtin.«object.__getattribute__» { pos := [Value.ref a, Value.str (Str.ofString "keys") u] }) fun A R s => s.heap.get? a = some { cls := .type "zip", data := .fields vs } ∧ raisesAttr (Value.ref a) (Str.ofString "keys") A R s := by
  have hm := F.xl_zip_nokeys
  refine Meets.of_wp ?_
  rintro prog w A R ⟨hp, g, d, tk, os⟩ ⟨hx, hA, h⟩
  have hT : ∀ tk', (⟨hp, g, d, tk', os⟩ : Shared).TypeIs (.ref a) "zip" := fun _ => ⟨_, hx, rfl⟩
  unfold Builtin.«object.__getattribute__»
  repeat (any_goals (first | assumption | exact hT _ | wp_step))
  try rw [if_neg (by decide +kernel)]
  repeat (any_goals (first | assumption | exact hT _ | wp_step))
  exact wpAny_raiseAttrError hA h (by decide +kernel)
theorem keys_missZ {prog : Program} {w : World} {A : Around} {E : Value → Shared → Prop} {s : Shared} {a : Addr} {vs : Array Value} {Q : Option Value → Shared → Prop}
    (hx : s.heap.get? a = some { cls := .type "zip", data := .fields vs }) (hA : A.handled = none)
    (h : ∀ h' tk, (∀ b o, s.heap.get? b = some o → h'.get? b = some o) → Q none { s with heap := h', toks := tk }) : wpAny (model prog w) A (getAttr? (.ref a) "keys") Q E s := by
  obtain ⟨hp, g, d, tk, os⟩ := s
  have hT : ∀ tk', (⟨hp, g, d, tk', os⟩ : Shared).TypeIs (.ref a) "zip" := fun _ => ⟨_, hx, rfl⟩
  have f1 := sub_AttributeError
  have f3 := F.slot_zip_getattribute.lookup
  have f4 := F.slot_zip_getattribute.bind (.ref a)
  have f5 := F.xl_zip_nogetattr
  unfold getAttr? getAttrBy? getAttrBy
  repeat (any_goals (first | assumption | exact hT _ | ((with_reducible show wpAny _ _ (call (Value.builtin "zip.__getattribute__") _ _) _ _ _); refine call_meets F.slot_zip_getattribute (hT _) F.xl_entry_zip_getattribute (F.args_zip_getattribute_2 _ _) (meets_zip_keys a vs _) ⟨hx, hA, fun h' tk' e hx' => ?_⟩) | wp_step))
  obtain ⟨t', u', he⟩ := hx'.there
  have hk := hx'.of.keeps
  show wpAny _ _ (getattributeRaised _ _ _ _ _ _ _) _ _ _
  unfold getattributeRaised
  repeat (any_goals (first | assumption | wp_step))
  exact h _ _ hk
theorem xl_wp_alive {α : Type} {M : Model} {A : Around} {Q : α → Shared → Prop} {E : Value → Shared → Prop} {s : Shared} {a : Addr} {k : Option Obj → Sem α} (h : wpAny M A (k (s.heap.get? a)) Q E s) : wpAny M A (Sem.loadIfAlive a k) Q E s := by
  unfold wpAny at h ⊢
  intros
  rw [Sem.wp_loadIfAlive]
  apply h <;> assumption
theorem xl_zip_next2 {z TI TO i1 i2 l1 l2 : Addr} {k1 k2 : Nat} {xs ys : Array Value} {x y : Value} {T : Nat} {oT : Obj} {b1 : Bool} (ap : ZipApart z TI TO i1 i2 l1 l2) :
    Meets (Builtin.«zip.__next__» { pos := [Value.ref z] }) fun A R s =>
      s.heap.get? z = some { cls := .type "zip", data := .fields #[rawInt T, .bool b1, .bool false, .ref TI, .ref TO] } ∧ s.heap.get? T = some oT ∧ IsPair s.heap TI (.ref i1) (.ref i2) ∧ s.heap.IsListIter i1 l1 k1 ∧ s.heap.IsListIter i2 l2 k2 ∧ s.heap.IsList l1 xs ∧ s.heap.IsList l2 ys ∧ xs[k1]? = some x ∧ ys[k2]? = some y ∧
      (∀ h' : Heap, h'.get? z = some { cls := .type "zip", data := .fields #[rawInt T, .bool true, .bool false, .ref TI, .ref TO] } → h'.IsListIter i1 l1 (k1 + 1) → h'.IsListIter i2 l2 (k2 + 1) → IsPair h' s.heap.objs.size x y → h'.objs.size = s.heap.objs.size + 1 →
        (∀ (c : Addr) (o : Obj), c ≠ z → c ≠ i1 → c ≠ i2 → s.heap.get? c = some o → h'.get? c = some o) → R (.ok (.ret (.ref s.heap.objs.size))) { s with heap := h' }) := by
  refine Meets.of_wp ?_
  rintro prog w A R ⟨hp, g, d, tk, os⟩ ⟨hz, hT, hTI, h1, h2, hl1, hl2, hx, hy, h⟩
  unfold Builtin.«zip.__next__»
  repeat (any_goals (first | assumption | wp_step))
  refine xl_wp_alive ?_
  show wpAny _ _ (pure (hp.get? T)) _ _ _
  rw [show hp.get? T = some oT from hT]
  refine wpAny_pure ?_
  rw [if_neg (by simp)]
  repeat (any_goals (first | assumption | wp_step))
  have flag : ∀ Q : Bool → Shared → Prop, (∀ h0 : Heap, h0.get? z = some { cls := .type "zip", data := .fields #[rawInt T, .bool true, .bool false, .ref TI, .ref TO] } → h0.objs.size = hp.objs.size → (∀ c o, c ≠ z → hp.get? c = some o → h0.get? c = some o) → Q false ⟨h0, g, d, tk, os⟩) →
      wpAny (model prog w) A.in1 (if (#[rawInt T, Value.bool b1, Value.bool false, Value.ref TI, Value.ref TO][1] != Value.bool true) = true then do
        let __r ← setField (Value.ref z) 1 (Value.bool true)
        (fun __r => pure false) __r
      else (fun __r => pure false) ()) Q (fun e s' => R (Except.error e) s') ⟨hp, g, d, tk, os⟩ := by
    intro Q hQ
    cases b1 with
    | true =>
      rw [if_neg (by simp)]
      exact wpAny_pure (hQ hp hz rfl fun c o _ e => e)
    | false =>
      rw [if_pos (by simp)]
      refine wpAny_bind (wpAny_setField_rec hz (by show 1 < 5; decide) fun h0 e0 s0 => ?_)
      exact wpAny_pure (hQ h0 e0 s0.1 fun c o hc e => s0.extBut c o hc e)
  refine flag _ fun h0 e0 z0 s0 => ?_
  rw [if_neg (by decide)]
  simp only [← Array.forIn_toList, List.forIn_cons]
  have e1 : h0.IsListIter i1 l1 k1 := h1.at fun o e => s0 _ _ ap.i1z e
  have e2 : h0.IsListIter i2 l2 k2 := h2.at fun o e => s0 _ _ ap.i2z e
  have m1 : h0.IsList l1 xs := let ⟨o, e, r⟩ := hl1; ⟨o, s0 _ _ ap.l1z e, r⟩
  have m2 : h0.IsList l2 ys := let ⟨o, e, r⟩ := hl2; ⟨o, s0 _ _ ap.l2z e, r⟩
  refine wpAny_bind (wpAny_bind (wpAny_bind (wpAny_holding ?_)))
  show wpAny _ _ (Builtin.SmallTypes.nextOf (.ref i1) >>= fun x => pure (some x)) _ _ _
  refine wpAny_bind (wpAny_nextOf_list_item e1 m1 hx fun h3 f1 t3 => wpAny_pure ?_)
  refine wpAny_pure ?_
  have f2 : h3.IsListIter i2 l2 k2 := e2.at fun o e => t3.extBut _ _ (Ne.symm ap.i12) e
  have m3 : h3.IsList l2 ys := let ⟨o, e, r⟩ := m2; ⟨o, t3.extBut _ _ ap.l2i1 e, r⟩
  refine wpAny_bind (wpAny_bind (wpAny_holding ?_))
  show wpAny _ _ (Builtin.SmallTypes.nextOf (.ref i2) >>= fun x => pure (some x)) _ _ _
  refine wpAny_bind (wpAny_nextOf_list_item f2 m3 hy fun h4 g2 t4 => wpAny_pure ?_)
  refine wpAny_pure ?_
  show wpAny _ _ (pure ((none : Option PySem.Fin), #[x, y])) _ _ _
  refine wpAny_pure ?_
  have z4 : h4.objs.size = hp.objs.size := t4.1.trans (t3.1.trans z0)
  refine wpAny_bind (wpAny_newTuple (wpAny_pure ⟨_, rfl, ?_⟩) (by show 2 ≤ sizeLine; decide))
  have k4 : ∀ c o, c ≠ i1 → c ≠ i2 → h0.get? c = some o → h4.get? c = some o := fun c o n1 n2 e => t4.extBut _ _ n2 (t3.extBut _ _ n1 e)
  have g1 : h4.IsListIter i1 l1 (k1 + 1) := f1.at fun o e => t4.extBut _ _ ap.i12 e
  have hh := h (h4.push { cls := .type "tuple", data := .seq #[x, y] }) (Heap.get?_push_of_some _ (k4 _ _ (Ne.symm ap.i1z) (Ne.symm ap.i2z) e0)) (g1.at fun o e => Heap.get?_push_of_some _ e) (g2.at fun o e => Heap.get?_push_of_some _ e) (by show Heap.get? _ hp.objs.size = _; rw [← z4]; exact Heap.get?_push_size _ rfl) (by rw [Heap.size_push, z4]) (fun c o nz n1 n2 e => Heap.get?_push_of_some _ (k4 _ _ n1 n2 (s0 _ _ nz e)))
  show R (Except.ok (Flow.ret (Value.ref h4.objs.size))) _
  rw [z4]
  exact hh
end L2
set_option maxRecDepth 100000
namespace L2
open PySem PySem.Spec PyProof.Rows XL
variable {q0 : Bool}
structure ZS (z TI TO i1 i2 l1 l2 : Addr) (P : Nat → Prop) (i : Nat) (h : Heap) : Prop where
  st : IsZip h z TI TO .none ∨ ∃ (T : Nat) (b1 : Bool), P T ∧ h.get? z = some { cls := .type "zip", data := .fields #[rawInt T, .bool b1, .bool false, .ref TI, .ref TO] }
  ti : IsPair h TI (.ref i1) (.ref i2)
  to : ∃ a b, IsPair h TO a b
  j1 : h.IsListIter i1 l1 i
  j2 : h.IsListIter i2 l2 i
section
variable {z TI TO i1 i2 l1 l2 : Addr} {P : Nat → Prop} {i : Nat} {h : Heap}
theorem ZS.zobj (st : ZS z TI TO i1 i2 l1 l2 P i h) : ∃ vs, h.get? z = some { cls := .type "zip", data := .fields vs } := by
  rcases st.st with e | ⟨T, b1, _, e⟩
  · exact ⟨_, e⟩
  · exact ⟨_, e⟩
theorem ZS.apart {xs ys : Array Value} (D : Five z TI TO i1 i2) (st : ZS z TI TO i1 i2 l1 l2 P i h) (hl1 : h.IsList l1 xs) (hl2 : h.IsList l2 ys) : ZipApart z TI TO i1 i2 l1 l2 := by
  obtain ⟨vs, ez⟩ := st.zobj
  obtain ⟨_, hTI, ⟨a, b, hTO⟩, h1, h2⟩ := st
  have cz : ∃ o, h.get? z = some o ∧ o.cls = .type "zip" := ⟨_, ez, rfl⟩
  have cO : ∃ o, h.get? TO = some o ∧ o.cls = .type "tuple" := ⟨_, hTO, rfl⟩
  have c1 : ∃ o, h.get? i1 = some o ∧ o.cls = .type "list_iterator" := let ⟨o, e, c, _⟩ := h1; ⟨o, e, c⟩
  have c2 : ∃ o, h.get? i2 = some o ∧ o.cls = .type "list_iterator" := let ⟨o, e, c, _⟩ := h2; ⟨o, e, c⟩
  have k1 : ∃ o, h.get? l1 = some o ∧ o.cls = .type "list" := let ⟨o, e, c, _⟩ := hl1; ⟨o, e, c⟩
  have k2 : ∃ o, h.get? l2 = some o ∧ o.cls = .type "list" := let ⟨o, e, c, _⟩ := hl2; ⟨o, e, c⟩
  exact ⟨D.TIz, D.TOz, D.i1z, D.i2z, D.TITO, D.TIi1, D.TIi2, D.TOi1, D.TOi2, D.i12, cls_ne k1 cz (by decide), cls_ne k1 cO (by decide), cls_ne k1 c1 (by decide), cls_ne k1 c2 (by decide), cls_ne k2 cz (by decide), cls_ne k2 cO (by decide), cls_ne k2 c1 (by decide), cls_ne k2 c2 (by decide)⟩
theorem ZS.obj (st : ZS z TI TO i1 i2 l1 l2 P i h) : ∀ b ∈ [z, TI, TO, i1, i2], ∃ o, h.get? b = some o ∧ ∀ v, o.data ≠ .cell v := fun b hb => by
  obtain ⟨vs, ez⟩ := st.zobj
  obtain ⟨_, hTI, ⟨a, c, hTO⟩, ⟨o1, e1, c1, d1⟩, ⟨o2, e2, c2, d2⟩⟩ := st
  simp only [List.mem_cons, List.not_mem_nil, or_false] at hb
  rcases hb with rfl | rfl | rfl | rfl | rfl
  · exact ⟨_, ez, fun v k => by have k' : Data.fields _ = Data.cell v := k; cases k'⟩
  · exact ⟨_, hTI, fun v k => by have k' : Data.seq _ _ = Data.cell v := k; cases k'⟩
  · exact ⟨_, hTO, fun v k => by have k' : Data.seq _ _ = Data.cell v := k; cases k'⟩
  · exact ⟨_, e1, fun v k => by rw [d1] at k; cases k⟩
  · exact ⟨_, e2, fun v k => by rw [d2] at k; cases k⟩
theorem ZS.keep {h' : Heap} {P' : Nat → Prop} (st : ZS z TI TO i1 i2 l1 l2 P i h) (k : ∀ b ∈ [z, TI, TO, i1, i2], ∀ o, h.get? b = some o → h'.get? b = some o) (hP : ∀ T, P T → P' T) : ZS z TI TO i1 i2 l1 l2 P' i h' := by
  obtain ⟨s0, hTI, ⟨a, c, hTO⟩, h1, h2⟩ := st
  refine ⟨?_, k TI (by simp) _ hTI, ⟨a, c, k TO (by simp) _ hTO⟩, h1.at fun o e => k i1 (by simp) o e, h2.at fun o e => k i2 (by simp) o e⟩
  rcases s0 with e | ⟨T, b1, p, e⟩
  · exact .inl (k z (by simp) _ e)
  · exact .inr ⟨T, b1, hP T p, k z (by simp) _ e⟩
theorem next_zs {prog : Program} {w : World} {A : Around} {E : Value → Shared → Prop} {s : Shared} {xs ys : Array Value} {x y : Value} {Q : Option Value → Shared → Prop} (D : Five z TI TO i1 i2) (st : ZS z TI TO i1 i2 l1 l2 P i s.heap) (hP : ∀ T, P T → ∃ o, s.heap.get? T = some o)
    (hl1 : s.heap.IsList l1 xs) (hl2 : s.heap.IsList l2 ys) (hx : xs[i]? = some x) (hy : ys[i]? = some y)
    (h : ∀ h' : Heap, ZS z TI TO i1 i2 l1 l2 (fun T => T = s.heap.objs.size ∨ P T) (i + 1) h' → IsPair h' s.heap.objs.size x y → h'.objs.size = s.heap.objs.size + 1 → (∀ c o, c ∉ [z, TI, TO, i1, i2] → s.heap.get? c = some o → h'.get? c = some o) → Q (some (.ref s.heap.objs.size)) { s with heap := h' }) :
    wpAny (model prog w) A (pyNext (.ref z)) Q E s := by
  have ap := st.apart D hl1 hl2
  obtain ⟨s0, hTI, ⟨a, c, hTO⟩, h1, h2⟩ := st
  rcases s0 with e | ⟨T, b1, p, e⟩
  · refine wpAny_pyNext_zip_item ap e hTI hTO h1 h2 hl1 hl2 hx hy fun h' a1 a2 a3 a4 a5 a6 a7 => h h' ⟨.inr ⟨_, false, .inl rfl, a1⟩, a7 TI _ ap.TIz ap.TITO ap.TIi1 ap.TIi2 hTI, ⟨_, _, a2⟩, a3, a4⟩ a5 a6 fun c o hc g => ?_
    simp only [List.mem_cons, List.not_mem_nil, or_false, not_or] at hc
    exact a7 c o hc.1 hc.2.2.1 hc.2.2.2.1 hc.2.2.2.2 g
  · obtain ⟨oT, hT⟩ := hP T p
    have tz : s.TypeIs (.ref z) "zip" := ⟨_, e, rfl⟩
    unfold pyNext
    refine wpAny_bind (wpAny_attempt (wpAny_callSpecial?_slot tz F.slot_zip_next ?_))
    refine call_meets F.slot_zip_next tz F.entry_zip_next (F.args_zip_next_1 _) (xl_zip_next2 ap) ⟨e, hT, hTI, h1, h2, hl1, hl2, hx, hy, fun h' a1 a3 a4 a5 a6 a7 => ?_⟩
    refine wpAny_pure (h h' ⟨.inr ⟨T, true, .inr p, a1⟩, a7 TI _ ap.TIz ap.TIi1 ap.TIi2 hTI, ⟨_, _, a7 TO _ ap.TOz ap.TOi1 ap.TOi2 hTO⟩, a3, a4⟩ a5 a6 fun c o hc g => ?_)
    simp only [List.mem_cons, List.not_mem_nil, or_false, not_or] at hc
    exact a7 c o hc.1 hc.2.2.2.1 hc.2.2.2.2 g
theorem end_zs {prog : Program} {w : World} {A : Around} {E : Value → Shared → Prop} {s : Shared} {xs ys : Array Value} {Q : Option Value → Shared → Prop} (hh : A.handled = none) (D : Five z TI TO i1 i2) (st : ZS z TI TO i1 i2 l1 l2 P i s.heap) (hP : ∀ T, P T → ∃ o, s.heap.get? T = some o)
    (hl1 : s.heap.IsList l1 xs) (hl2 : s.heap.IsList l2 ys) (hx : xs[i]? = none)
    (h : ∀ h' : Heap, (∀ c o, c ∉ [z, TI, TO, i1, i2] → s.heap.get? c = some o → h'.get? c = some o) → Q none { s with heap := h' }) :
    wpAny (model prog w) A (pyNext (.ref z)) Q E s := by
  have ap := st.apart D hl1 hl2
  obtain ⟨s0, hTI, ⟨a, c, hTO⟩, h1, h2⟩ := st
  rcases s0 with e | ⟨T, b1, p, e⟩
  · refine wpAny_pyNext_zip_end hh ap e hTI hTO h1 h2 hl1 hl2 (.inl hx) fun h' a7 => h h' fun c o hc g => ?_
    simp only [List.mem_cons, List.not_mem_nil, or_false, not_or] at hc
    exact a7 c o hc.1 hc.2.2.1 hc.2.2.2.1 hc.2.2.2.2 g
  · obtain ⟨oT, hT⟩ := hP T p
    obtain ⟨hp, g, d, tk, os⟩ := s
    have tz : (⟨hp, g, d, tk, os⟩ : Shared).TypeIs (.ref z) "zip" := ⟨_, e, rfl⟩
    have stp : ∀ (h0 h' : Heap) (x : Addr), (∀ c o, c ≠ z → hp.get? c = some o → h0.get? c = some o) → Heap.ExtBut i1 h0 h' → ∀ c o, c ∉ [z, TI, TO, i1, i2] → hp.get? c = some o → h'.get? c = some o := fun h0 h' x k1 k2 c o hc g => by
      simp only [List.mem_cons, List.not_mem_nil, or_false, not_or] at hc
      exact k2 c o hc.2.2.2.1 (k1 c o hc.1 g)
    unfold pyNext
    refine wpAny_bind (wpAny_attempt (wpAny_callSpecial?_slot tz F.slot_zip_next ?_))
    refine wpAny_call_entry F.slot_zip_next tz F.entry_zip_next ?_ (F.args_zip_next_1 _)
    unfold Builtin.«zip.__next__»
    repeat (any_goals (first | assumption | wp_step))
    refine xl_wp_alive ?_
    show wpAny _ _ (pure (hp.get? T)) _ _ _
    rw [show hp.get? T = some oT from hT]
    refine wpAny_pure ?_
    rw [if_neg (by simp)]
    repeat (any_goals (first | assumption | wp_step))
    have flag : ∀ (Q : Bool → Shared → Prop) (E : Value → Shared → Prop), (∀ h0 : Heap, (∀ c o, c ≠ z → hp.get? c = some o → h0.get? c = some o) → Q false ⟨h0, g, d, tk, os⟩) →
        wpAny (model prog w) A.in1 (if (#[rawInt T, Value.bool b1, Value.bool false, Value.ref TI, Value.ref TO][1] != Value.bool true) = true then do
          let __r ← setField (Value.ref z) 1 (Value.bool true)
          (fun __r => pure false) __r
        else (fun __r => pure false) ()) Q E ⟨hp, g, d, tk, os⟩ := by
      intro Q E hQ
      cases b1 with
      | true =>
        rw [if_neg (by simp)]
        exact wpAny_pure (hQ hp fun c o _ e => e)
      | false =>
        rw [if_pos (by simp)]
        refine wpAny_bind (wpAny_setField_rec e (by show 1 < 5; decide) fun h0 e0 s0 => ?_)
        exact wpAny_pure (hQ h0 fun c o hc e => s0.extBut c o hc e)
    refine flag _ _ fun h0 s0 => ?_
    rw [if_neg (by decide)]
    simp only [← Array.forIn_toList, List.forIn_cons]
    have e1 : h0.IsListIter i1 l1 i := h1.at fun o e => s0 _ _ ap.i1z e
    have m1 : h0.IsList l1 xs := let ⟨o, e, r⟩ := hl1; ⟨o, s0 _ _ ap.l1z e, r⟩
    refine wpAny_bind (wpAny_bind (wpAny_bind (wpAny_holding ?_)))
    show wpAny _ _ (Builtin.SmallTypes.nextOf (.ref i1) >>= fun x => pure (some x)) _ _ _
    refine wpAny_bind (wpAny_nextOf_list_end hh e1 m1 hx fun h' ex k2 ⟨oe, he, ce⟩ => ?_)
    refine wpAny_bind (wpAny_isInstance ⟨oe, he, ce⟩ isSubtype_stop ?_)
    exact wpAny_pure (h h' (stp h0 h' ex s0 k2))
end
end L2
set_option maxRecDepth 100000
namespace L2
open PySem PySem.Spec PyProof.Rows XL
variable {q0 : Bool}
def putsK (acc : List (Key × V)) (ps : List (Key × V)) : List (Key × V) := ps.foldl (fun a p => putK a p.1 p.2) acc
theorem update_loopZ {X : Cx} {pins : List (Addr × Obj)} {σ : St} {A : Around} {R : Result → Shared → Prop} (hh : A.in1.handled = none) (hu : A.in1.units < cLine) {z TI TO i1 i2 l1 l2 d : Addr} (D : Five z TI TO i1 i2) {ks : List Key} {vs : List V} (hlen : vs.length = ks.length) {H0 : Hp}
    (g1 : H0 l1 = some (.lst (ks.map kV))) (g2 : H0 l2 = some (.lst vs)) (g0 : H0 d = none) :
    ∀ (m i : Nat) (acc : List (Key × V)) (j : Int) (H : Hp) (s : Shared), m + i = ks.length → Inv X pins σ H s → Same H0 H → H d = some (.dK acc) → acc.length + m < sizeLine → ZS z TI TO i1 i2 l1 l2 (fun T => ∃ ts, H T = some (.tup ts)) i s.heap → (∀ b ∈ [z, TI, TO, i1, i2], FpOk X pins H b) →
      (∀ s' H', Inv X pins σ H' s' → Same H0 H' → H' d = some (.dK (putsK acc ((ks.zip vs).drop i))) → R (.ok (.ret .none)) s') →
      codeAny (model X.prog X.w) A (.builtin "dict.update.loop" ⟨[.ref d, .ref z, rawInt j, .none], []⟩) R s := by
  intro m
  induction m with
  | zero =>
    intro i acc j H s hi I sm hd _ st hf fin
    obtain ⟨its, rv, p, hz1⟩ := I.list (SqL.of (sm _ _ g1))
    obtain ⟨its2, rv2, p2, hz2⟩ := I.list (SqL.of (sm _ _ g2))
    have e1 := rv.length
    rw [List.length_map] at e1
    refine codeAny_builtin F.xl_entry_dict_loop ?_
    rw [Around.under_plainId F.xl_plain_dict_loop _]
    show wpAny _ A.in1 (pyNext (.ref z) >>= _) _ _ s
    refine wpAny_bind (end_zs hh D st (fun T ⟨ts, hT⟩ => let ⟨_, _, _, o, e, _⟩ := I.hok _ _ hT; ⟨o, e⟩) p.isList p2.isList (by simp; omega) fun h' k => ?_)
    show wpAny _ A.in1 (Builtin.Dict.addKeywords d [] >>= _) _ _ _
    refine wpAny_bind (wpAny_pure (wpAny_pure (fin _ H (I.turnedL (t' := s.toks) k hf) sm ?_)))
    rw [hd, List.drop_of_length_le (by rw [List.length_zip]; omega)]
    rfl
  | succ m ih =>
    intro i acc j H s hi I sm hd hb st hf fin
    obtain ⟨its, rv, p, hz1⟩ := I.list (SqL.of (sm _ _ g1))
    obtain ⟨its2, rv2, p2, hz2⟩ := I.list (SqL.of (sm _ _ g2))
    have ik : i < ks.length := by omega
    have hx : (ks.map kV)[i]? = some (kV ks[i]) := by rw [List.getElem?_map, List.getElem?_eq_getElem ik]; rfl
    have hy : vs[i]? = some vs[i] := List.getElem?_eq_getElem (by omega)
    obtain ⟨u, hu1, ru⟩ := rv.get hx
    obtain ⟨u2, hu2, ru2⟩ := rv2.get hy
    refine codeAny_builtin F.xl_entry_dict_loop ?_
    rw [Around.under_plainId F.xl_plain_dict_loop _]
    show wpAny _ A.in1 (pyNext (.ref z) >>= _) _ _ s
    refine wpAny_bind (next_zs D st (fun T ⟨ts, hT⟩ => let ⟨_, _, _, o, e, _⟩ := I.hok _ _ hT; ⟨o, e⟩) p.isList p2.isList (x := u) (y := u2) (by simpa using hu1) (by simpa using hu2) fun h' st' et sz' k => ?_)
    have I1 : Inv X pins σ H { s with heap := h' } := I.turnedL (t' := s.toks) k hf
    obtain ⟨n0, nL, nC, nP⟩ := I.size_lt (Nat.le_refl s.heap.objs.size)
    have I2 : Inv X pins σ (upd H s.heap.objs.size (.tup [kV ks[i], vs[i]])) { s with heap := h' } := I1.adopt n0 I.sz nL nC nP ⟨by show 2 ≤ sizeLine; decide, [u, u2], .cons ru (.cons ru2 .nil), _, et, rfl, _, rfl⟩
    have lt : ∀ b ∈ [z, TI, TO, i1, i2], b ≠ s.heap.objs.size := fun b hb => by
      obtain ⟨o, e, _⟩ := st.obj b hb
      exact Nat.ne_of_lt (Heap.lt_size e)
    have nd : d ≠ s.heap.objs.size := ne_of_none hd n0
    have hf2 : ∀ b ∈ [z, TI, TO, i1, i2], FpOk X pins (upd H s.heap.objs.size (.tup [kV ks[i], vs[i]])) b := fun b hb => by
      obtain ⟨f0, f1, f2, f3, f4, f5⟩ := hf b hb
      exact ⟨by rw [upd_ne (lt b hb)]; exact f0, f1, f2, f3, f4, f5⟩
    show wpAny _ A.in1 (holding [.ref s.heap.objs.size] _ >>= _) _ _ _
    refine wpAny_bind (wpAny_holding ?_)
    refine wpAny_bind (wpAny_tryCatch ?_)
    unfold Builtin.Dict.pairItems
    refine wpAny_bind (wpAny_typeOf (T := "tuple") ⟨_, et, rfl⟩ ?_)
    rw [if_pos (by decide)]
    refine wpAny_bind (wpAny_seqItems et rfl (wpAny_pure ?_))
    show wpAny _ A.in1 (holding [u, u2] (dictSet d u u2)) _ _ _
    have I2' := I2.pinned (fp := [z, TI, TO, i1, i2]) hf2 st'.obj
    have hd2 : upd H s.heap.objs.size (.tup [kV ks[i], vs[i]]) d = some (.dK acc) := by rw [upd_ne nd]; exact hd
    refine wpAny_holding (d_dictSet hu I2' (DPut.k hd2 (by omega)) ru ru2 fun s' I3 => ?_)
    refine wpAny_pure ⟨plainId_quiet F.xl_plain_dict_loop _, ?_⟩
    have kp : ∀ b ∈ [z, TI, TO, i1, i2], ∀ o, h'.get? b = some o → s'.heap.get? b = some o := fun b hb o e => (I3.pin (b, o) (List.mem_append_right _ (List.mem_append_right _ (mem_pinsAt hb e)))).1
    have lp := length_putK acc ks[i] vs[i]
    refine ih (i + 1) (putK acc ks[i] vs[i]) (j + 1) _ s' (by omega) I3.unpinned ?_ upd_same (by omega) (st'.keep kp fun T hT => ?_) (fun b hb => ?_) fun s4 H4 I4 sm4 h4 => ?_
    · intro b o e
      have nb : b ≠ d := ne_of_none e g0
      rw [upd_ne nb, upd_ne (ne_of_none (sm _ _ e) n0)]
      exact sm _ _ e
    · rcases hT with rfl | ⟨ts, hT⟩
      · exact ⟨_, by rw [upd_ne (Ne.symm nd)]; exact upd_same⟩
      · exact ⟨ts, by rw [upd_ne (ne_of hT hd (fun z => nomatch z)), upd_ne (ne_of_none hT n0)]; exact hT⟩
    · obtain ⟨f0, f1, f2, f3, f4, f5⟩ := hf2 b hb
      exact ⟨by rw [upd_ne (Ne.symm (ne_of_none hd2 f0))]; exact f0, f1, f2, f3, f4, f5⟩
    · refine fin s4 H4 I4 sm4 ?_
      rw [h4, List.drop_eq_getElem_cons (i := i) (by rw [List.length_zip]; omega), List.getElem_zip]
      rfl
def tDictZip (ta : TA) : TE := fun σ H Q => ta σ H fun xs H1 => ∃ (l1 l2 : Addr) (ks : List Key) (vs : List V), xs = [.ref l1, .ref l2] ∧ H1 l1 = some (.lst (ks.map kV)) ∧ H1 l2 = some (.lst vs) ∧ vs.length = ks.length ∧ ks.length < 1000 ∧
  ∀ H2 d, Same H1 H2 → H1 d = none → H2 d = some (.dK (putsK [] (ks.zip vs))) → Q (.ref d) H2
theorem pe_dictZip {X : Cx} {a b : Expr} {ta : TA} {p p2 pos pos2 : Pos} (hc : X.calm = true) (hu : X.A.units + 3 < cLine) (hg : Gl X "dict") (hm : X.mg "dict" = none) (hv : bootBuiltins "dict" = some (.type "dict")) (hg2 : Gl X "zip") (hm2 : X.mg "zip" = none) (ha : PA X [a, b] ta)
    (hs : starEach [a, b] X.env = [(false, eval a X.env), (false, eval b X.env)] := by rfl) (hs2 : starEach [b] X.env = [(false, eval b X.env)] := by rfl)
    (hs3 : starEach [.Call (.Name "zip" p2) [a, b] [] pos2] X.env = [(false, eval (.Call (.Name "zip" p2) [a, b] [] pos2) X.env)] := by rfl) :
    PE X (.Call (.Name "dict" p) [.Call (.Name "zip" p2) [a, b] [] pos2] [] pos) (tDictZip ta) := by
  intro pins s σ H Q I h
  refine wpAny_Call_Name_kw (ld_blt I hg hm hv ?_)
  refine PyProof.Rows.callWith_type1 ?_ (by rw [hs3]; rfl) rfl
  rw [hs3]
  show wpAny _ _ (spliced ((false, eval (.Call (.Name "zip" p2) [a, b] [] pos2) X.env) :: backTo pos [])) _ _ s
  refine Calls.spliced_cons ?_
  refine Call_ (ld_blt I hg2 hm2 PyProof.Rows.Boot.«zip» (PyProof.Rows.callWith_type1 (thn (ha pos2 pins s σ H _ I h) fun us s1 ⟨xs, H1, I1, r1, q1⟩ => ?_) (by rw [hs, hs2]) (by rw [hs2]; rfl)))
  obtain ⟨l1, l2, ks, vs, e, g1, g2, hlen, hz, q⟩ := q1
  subst e
  obtain ⟨u, u2, rfl, ru, ru2⟩ := vals2 r1
  obtain rfl : u = Value.ref l1 := ru
  obtain rfl : u2 = Value.ref l2 := ru2
  obtain ⟨its, rv, p1, hz1⟩ := I1.list (SqL.of g1)
  obtain ⟨its2, rv2, p2, hz2⟩ := I1.list (SqL.of g2)
  refine call_zip_2 p1.isList p2.isList fun h' hz' hTI hTO h1 h2 hsz hk => ?_
  have I2 : Inv X pins σ H1 { s1 with heap := h' } := I1.kept (t' := s1.toks) hk
  refine Calls.spliced_nil ?_
  have D := five_of s1.heap.objs.size
  have st : ZS (s1.heap.objs.size + 4) (s1.heap.objs.size + 2) (s1.heap.objs.size + 3) s1.heap.objs.size (s1.heap.objs.size + 1) l1 l2 (fun _ => False) 0 h' := ⟨.inl hz', hTI, ⟨_, _, hTO⟩, h1, h2⟩
  have fr : ∀ c ∈ [s1.heap.objs.size + 4, s1.heap.objs.size + 2, s1.heap.objs.size + 3, s1.heap.objs.size, s1.heap.objs.size + 1], FpOk X pins H1 c := fun c hc => by
    have hc' : s1.heap.objs.size ≤ c := by
      simp only [List.mem_cons, List.not_mem_nil, or_false] at hc
      rcases hc with rfl | rfl | rfl | rfl | rfl
      · exact Nat.le_add_right _ 4
      · exact Nat.le_add_right _ 2
      · exact Nat.le_add_right _ 3
      · exact Nat.le_refl _
      · exact Nat.le_add_right _ 1
    exact I1.fpOk hc' (I1.hok.fresh hc')
  revert I2 st
  generalize hs2 : ({ s1 with heap := h' } : Shared) = s2
  intro I2 st
  have eh : s2.heap = h' := by rw [← hs2]
  rw [← eh] at st
  refine callType_codes (Q₁ := fun obj s₁ => obj = .ref s2.heap.objs.size ∧ s₁ = { s2 with heap := s2.heap.push { cls := .type "dict", data := .dict #[] } }) F.kt_called_dict (F.kt_typeCall_dict_1 _) F.entry_dict_init (kt_code_dict_new _ ⟨rfl, rfl⟩) ?_
  rintro obj s₁ ⟨rfl, rfl⟩
  have I3 : Inv X pins σ (upd H1 s2.heap.objs.size (.dK [])) { s2 with heap := s2.heap.push { cls := .type "dict", data := .dict #[] } } :=
    I2.laid (t' := s2.toks) (fun b u e => Heap.get?_push_of_some _ e) (Nat.le_refl _) (dk_empty s2.heap I2.big)
  have hT : (Shared.mk (s2.heap.push { cls := .type "dict", data := .dict #[] }) s2.gens s2.drawn s2.toks s2.os).TypeIs (.ref s2.heap.objs.size) "dict" := ⟨_, Heap.get?_push_size _ rfl, rfl⟩
  have st3 := st.keep (h' := s2.heap.push { cls := .type "dict", data := .dict #[] }) (P' := fun _ => False) (fun b _ o e => Heap.get?_push_of_some _ e) fun _ z => z
  obtain ⟨zv, ez⟩ := st3.zobj
  refine ⟨hT, F.args_dict_init_2 _ _, ?_⟩
  unfold Builtin.«dict.__init__»
  refine wpAny_bind ?_
  unfold Builtin.Dict.selfAndRest
  refine wpAny_bind (wpAny_notOrdered_dict hT ?_)
  show wpAny _ _ (pure (s2.heap.objs.size, [Value.ref (s1.heap.objs.size + 4)])) _ _ _
  refine wpAny_pure ?_
  show wpAny _ _ (Builtin.Dict.updateFrom "dict.__init__" s2.heap.objs.size (.ref (s1.heap.objs.size + 4)) [] .none) _ _ _
  unfold Builtin.Dict.updateFrom
  refine wpAny_bind (wpAny_typeOf (T := "zip") ⟨_, ez, rfl⟩ ?_)
  rw [if_pos (by decide)]
  refine wpAny_bind (keys_missZ ez (I.ok.hd hc) fun h4 tk hk4 => ?_)
  have I4 := I3.kept (h' := h4) (t' := tk) hk4
  have st4 := st3.keep (h' := h4) (P' := fun _ => False) (fun b _ o e => hk4 _ _ e) fun _ z => z
  show wpAny _ _ (rule _ >>= _) _ _ _
  refine wpAny_bind (wpAny_rule ?_)
  have iz : IsZip h4 (s1.heap.objs.size + 4) (s1.heap.objs.size + 2) (s1.heap.objs.size + 3) .none := by
    rcases st4.st with e | ⟨_, _, z, _⟩
    · exact e
    · exact z.elim
  refine wpAny_bind (wpAny_pyIter_zip iz ?_)
  refine wpAny_pure ⟨plainId_quiet F.xl_plain_dict_loop _, ?_⟩
  have nf : H1 s2.heap.objs.size = none := I2.fresh
  have lt : ∀ c ∈ [s1.heap.objs.size + 4, s1.heap.objs.size + 2, s1.heap.objs.size + 3, s1.heap.objs.size, s1.heap.objs.size + 1], c ≠ s2.heap.objs.size := fun c hc => by
    obtain ⟨o, e, _⟩ := st.obj c hc
    exact Nat.ne_of_lt (Heap.lt_size e)
  refine update_loopZ (A := X.A.in1) (I.ok.hd hc) (by show X.A.units + 1 + 1 < cLine; omega) D hlen (H0 := H1) g1 g2 nf ks.length 0 [] 0 _ _ (by omega) I4 ?_ upd_same (by simp only [List.length_nil]; exact Nat.lt_of_lt_of_le (by omega : 0 + ks.length < 1000) (by decide)) (st4.keep (fun _ _ _ e => e) fun _ z => z.elim) (fun c hc => ?_) fun s5 H5 I5 sm5 h5 => ?_
  · exact fun b o e => by rw [upd_ne (ne_of_none e nf)]; exact e
  · obtain ⟨f0, f1, f2, f3, f4, f5⟩ := fr c hc
    exact ⟨by rw [upd_ne (lt c hc)]; exact f0, f1, f2, f3, f4, f5⟩
  · exact ⟨rfl, ⟨.ref _, H5, I5, rfl, q H5 _ sm5 nf h5⟩⟩
end L2
set_option maxRecDepth 100000
namespace L2
open PySem PySem.Spec PyProof.Rows XL
variable {q0 : Bool}
section
variable {X : Cx} {pos np1 np2 np3 hpos1 hpos2 hpos3 : Pos} {body hbody1 hbody2 hbody3 : List Stmt} {rest : List ExceptHandler} {b1 b2 b3 : Stmt} {cx1 cx2 cx3 n : Str} {C1 C2 C3 : Addr} {j : Nat} {E : St → XK} {tb th1 th2 th3 : TS}
end
end L2
set_option maxRecDepth 100000
namespace L2
open PySem PySem.Spec PyProof.Rows XL PySem.W
variable {q0 : Bool}
theorem list_sort_tups {prog : Program} {w : World} {A : Around} {E : Value → Shared → Prop} {s : Shared} {a : Addr} {vs : List Value} {n : Nat} {P : PySem.Fin → Shared → Prop}
    (h : s.heap.get? a = some (seqObj "list" vs.toArray n)) (h2 : 2 ≤ vs.length) (h64 : vs.length < 64)
    (hk : ∀ s' : Shared, s'.heap = (((s.heap.update a (Obj.mapSeq fun x => #[])).push (seqObj "tuple" vs.toArray 0)).push (seqObj "list" #[] 0)) → s' = { s with heap := s'.heap } →
      wpAny (model prog w) A (keyKind' vs.toArray) (fun κ s'' => s'' = s' ∧ KasT.kasWp (kas_ask prog w A κ vs) (kas_sort vs.length) (fun p s3 => s3 = s' ∧ P (.done (.ret .none)) { s with heap := sortedHeap s.heap a vs (p.map fun i => vs.getD i .none) }) s'') (fun _ _ => False) s') :
    wpAny (model prog w) A (Builtin.«list.sort» { pos := [.ref a] }) P E s := by
  obtain ⟨hp, g, d, tk, os⟩ := s
  rw [list_sort_plain]
  repeat (any_goals (first | assumption | wp_step))
  have z : ¬ vs.toArray.toList.toArray.size > sizeLine := by
    simp
    exact Nat.le_of_lt (Nat.lt_trans h64 (by decide))
  rw [if_neg z]
  generalize keyKind' vs.toArray = kk at hk ⊢
  repeat (any_goals (first | assumption | wp_step))
  have hk' := hk { heap := ((hp.update a (Obj.mapSeq fun x => #[])).push (seqObj "tuple" vs.toArray 0)).push (seqObj "list" #[] 0), gens := g, drawn := d, toks := tk, os := os } rfl rfl
  refine wpAny_mono hk' (fun κ s'' z => ?_) (fun _ _ z => z.elim)
  obtain ⟨e, q⟩ := z
  subst e
  show wpAny _ _ (StateT.run (if vs.toArray.size < 2 then pure () else sortRuns') _ >>= _) _ _ _
  rw [if_neg (by simp; omega)]
  refine wpAny_bind (wpAny_mono (kat_run (E := E) (Q := fun st' s' => ∃ p : Array Nat, p.size = vs.length ∧ arrOf st' = Array.map (kas_item (vs.toArray.zip vs.toArray)) p ∧ failedOf st' = none ∧ s' = _ ∧ P (.done (.ret .none)) { heap := sortedHeap hp a vs (p.map fun i => vs.getD i .none), gens := g, drawn := d, toks := tk, os := os }) rfl h2 h64 (fun p st' s' hp' e f q' => ⟨p, hp', e, f, q'.1, q'.2⟩) q) (fun r s' z => ?_) fun _ _ z => z)
  obtain ⟨u, st⟩ := r
  obtain ⟨p, psz, e, f, rfl, q'⟩ := z
  have al : a < hp.objs.size := Heap.lt_size h
  have g1 : (((hp.update a (Obj.mapSeq fun x => #[])).push (seqObj "tuple" vs.toArray 0)).push (seqObj "list" #[] 0)).get? a = some (seqObj "list" #[] (n + 1)) := by
    refine Heap.get?_push_of_some _ (Heap.get?_push_of_some _ ?_)
    rw [Heap.get?_update_self _ h rfl]
    have z : ((0 : Nat) == vs.length) = false := by
      cases vs with
      | nil => simp at h2
      | cons => rfl
    simp [Obj.mapSeq, z]
  have e2 : (if (((fun x => #[]) vs.toArray : Array Value).size == vs.toArray.size) = true then n else n + 1) = n + 1 := by
    rw [if_neg]
    simp
    omega
  simp only [e2, f]
  have e3 : Array.map (fun x => x.snd) (arrOf st) = p.map fun i => vs.getD i .none := by
    rw [e, Array.map_map]
    congr 1
    funext i
    show (kas_item (vs.toArray.zip vs.toArray) i).snd = _
    unfold kas_item
    by_cases c : i < vs.length
    · simp [List.getElem?_eq_getElem c, c]
    · simp [List.getElem?_eq_none (by omega : vs.length ≤ i), c]
  simp only [e3]
  repeat (any_goals (first | assumption | wp_step))
  have e4 : (Obj.mapSeq (fun x => Array.map (fun i => vs.getD i Value.none) p) (seqObj "list" #[] (n + 1))).data.pastItsLine = none := by
    show (if (Array.map (fun i => vs.getD i Value.none) p).size > sizeLine + 1 then _ else none) = none
    rw [if_neg]
    rw [Array.size_map, psz]
    have : vs.length < sizeLine := Nat.lt_trans h64 (by decide)
    omega
  rw [e4]
  refine wpAny_pure ?_
  rw [f]
  show wpAny _ _ (if (n + 1 != n + 1) = true then _ else _) _ _ _
  rw [if_neg (by simp)]
  exact wpAny_pure q'
end L2
set_option maxRecDepth 100000
namespace L2
open PySem PySem.Spec PyProof.Rows XL PySem.W
variable {q0 : Bool}
def kLess : Key → Key → Bool
  | .inl a, .inl b => decide (a < b)
  | .inr a, .inr b => decide (a.cps.toList < b.cps.toList)
  | _, _ => false
def lexK : List Key → List Key → Bool
  | [], [] => false
  | [], _ :: _ => true
  | _ :: _, [] => false
  | x :: xs, y :: ys => if x = y then lexK xs ys else kLess x y
abbrev shp (k : List Key) : List Bool := k.map Sum.isLeft
theorem str_cps {a b : Str} (h : a.cps.toList = b.cps.toList) : a = b := by
  cases a
  cases b
  simp at h
  rw [h]
theorem kLess_irr (x : Key) : kLess x x = false := by
  cases x with
  | inl a => simp [kLess]
  | inr a => exact PyProof.Rows.strKind.irrefl a.cps.toList
theorem kLess_tr {x y z : Key} (h1 : kLess x y = true) (h2 : kLess y z = true) : kLess x z = true := by
  cases x <;> cases y <;> cases z <;> simp only [kLess, Bool.false_eq_true] at h1 h2
  · have a := of_decide_eq_true h1
    have b := of_decide_eq_true h2
    exact decide_eq_true (Int.lt_trans a b)
  · exact PyProof.Rows.strKind.trans _ _ _ h1 h2
theorem kLess_tot {x y : Key} (hs : x.isLeft = y.isLeft) (ne : x ≠ y) (h : kLess x y = false) : kLess y x = true := by
  cases x with
  | inl a =>
    cases y with
    | inl b =>
      have h' : ¬ a < b := of_decide_eq_false h
      have n' : a ≠ b := fun e => ne (by rw [e])
      exact decide_eq_true (show b < a by omega)
    | inr b => cases hs
  | inr a =>
    cases y with
    | inl b => cases hs
    | inr b =>
      cases e : kLess (.inr b) (.inr a) with
      | true => rfl
      | false => exact absurd (by rw [str_cps (PyProof.Rows.strKind.total _ _ h e)]) ne
theorem lexK_irr : ∀ x : List Key, lexK x x = false
  | [] => rfl
  | x :: xs => by
    unfold lexK
    rw [if_pos rfl]
    exact lexK_irr xs
theorem lexK_tr : ∀ {x y z : List Key}, shp x = shp y → shp y = shp z → lexK x y = true → lexK y z = true → lexK x z = true
  | [], [], _, _, _, h, _ => by cases h
  | [], _ :: _, _, h, _, _, _ => by cases h
  | _ :: _, [], _, h, _, _, _ => by cases h
  | _ :: _, _ :: _, [], _, h, _, _ => by cases h
  | x :: xs, y :: ys, z :: zs, h1, h2, h3, h4 => by
    simp only [shp, List.map_cons, List.cons.injEq] at h1 h2
    unfold lexK at h3 h4 ⊢
    by_cases xy : x = y
    · subst xy
      rw [if_pos rfl] at h3
      by_cases yz : x = z
      · rw [if_pos yz] at h4 ⊢
        exact lexK_tr h1.2 h2.2 h3 h4
      · rw [if_neg yz] at h4 ⊢
        exact h4
    · rw [if_neg xy] at h3
      by_cases yz : y = z
      · subst yz
        rw [if_neg xy]
        exact h3
      · rw [if_neg yz] at h4
        have h5 := kLess_tr h3 h4
        rw [if_neg (fun e => by rw [e, kLess_irr] at h5; cases h5)]
        exact h5
theorem lexK_tot : ∀ {x y : List Key}, shp x = shp y → x ≠ y → lexK x y = false → lexK y x = true
  | [], [], _, h, _ => absurd rfl h
  | [], _ :: _, h, _, _ => by cases h
  | _ :: _, [], h, _, _ => by cases h
  | x :: xs, y :: ys, h1, h2, h3 => by
    simp only [shp, List.map_cons, List.cons.injEq] at h1
    unfold lexK at h3 ⊢
    by_cases xy : x = y
    · subst xy
      rw [if_pos rfl] at h3 ⊢
      exact lexK_tot h1.2 (fun e => h2 (by rw [e])) h3
    · rw [if_neg xy] at h3
      rw [if_neg (fun e => xy e.symm)]
      exact kLess_tot h1.1 xy h3
theorem lex_wp {prog : Program} {w : World} {A : Around} {s : Shared} {b : Bool} {Q : Bool → Shared → Prop} : ∀ (xs ys : List Key) (us vs : List Value) (i : Nat), shp xs = shp ys → Vals (xs.map kV) us → Vals (ys.map kV) vs → Q (lexK xs ys) s → KatLex prog w A b false Q (us.zip vs) i s
  | [], [], _, _, i, _, .nil, .nil, q => kat_nil q
  | [], _ :: _, _, _, _, h, _, _, _ => by cases h
  | _ :: _, [], _, _, _, h, _, _, _ => by cases h
  | x :: xs, y :: ys, _, _, i, h, .cons ru r, .cons rv r', q => by
    simp only [shp, List.map_cons, List.cons.injEq] at h
    unfold lexK at q
    cases x with
    | inl a =>
      cases y with
      | inr c => cases h.1
      | inl c =>
        obtain ⟨t, rfl⟩ := ru
        obtain ⟨t', rfl⟩ := rv
        refine kat_cons (wpAny_eqBool_int ?_)
        unfold KatGo
        by_cases e : a = c
        · subst e
          rw [if_pos rfl] at q
          rw [if_pos (by simp)]
          exact lex_wp xs ys _ _ (i + 1) h.2 r r' q
        · rw [if_neg (fun z => e (Sum.inl.inj z))] at q
          rw [if_neg (by simpa using e)]
          cases (b && i == 0) with
          | true => exact oneLt_int q
          | false => exact kat_one _ _ (lt_int q)
    | inr a =>
      cases y with
      | inl c => cases h.1
      | inr c =>
        obtain ⟨t, rfl⟩ := ru
        obtain ⟨t', rfl⟩ := rv
        refine kat_cons (wpAny_eqBool_str ?_)
        unfold KatGo
        by_cases e : a = c
        · subst e
          rw [if_pos rfl] at q
          rw [if_pos (by simp)]
          exact lex_wp xs ys _ _ (i + 1) h.2 r r' q
        · rw [if_neg (fun z => e (Sum.inr.inj z))] at q
          rw [if_neg (by simpa using e)]
          cases (b && i == 0) with
          | true => exact oneLt_str q
          | false => exact kat_one _ _ (lt_str q)
theorem list_sort_few {prog : Program} {w : World} {A : Around} {E : Value → Shared → Prop} {s : Shared} {a : Addr} {vs : List Value} {n : Nat} {P : PySem.Fin → Shared → Prop}
    (h : s.heap.get? a = some (seqObj "list" vs.toArray n)) (h2 : vs.length < 2) (q' : P (.done (.ret .none)) { s with heap := sortedHeap s.heap a vs vs.toArray }) :
    wpAny (model prog w) A (Builtin.«list.sort» { pos := [.ref a] }) P E s := by
  obtain ⟨hp, g, d, tk, os⟩ := s
  rcases vs with _ | ⟨v, _ | ⟨v', r⟩⟩
  · rw [list_sort_plain]
    repeat (any_goals (first | assumption | wp_step))
    show wpAny _ _ (pure (PUnit.unit, SortSt.mk' general' ((#[] : Array Value).zip #[]) #[] 7 none)) _ _ _
    refine wpAny_pure ?_
    have e3 : Array.map (fun x => x.snd) (arrOf (SortSt.mk' general' ((#[] : Array Value).zip #[]) #[] 7 none)) = #[] := by
      show Array.map (fun x => x.snd) ((#[] : Array Value).zip #[]) = #[]
      simp
    simp only [e3]
    have g1 : (((hp.update a (Obj.mapSeq fun x => #[])).push (seqObj "tuple" #[] 0)).push (seqObj "list" #[] 0)).get? a = some (seqObj "list" #[] (n)) := by
      refine Heap.get?_push_of_some _ (Heap.get?_push_of_some _ ?_)
      rw [Heap.get?_update_self _ h rfl]
      rfl
    show wpAny _ _ (seqEpoch a >>= _) _ _ _
    repeat (any_goals (first | assumption | wp_step))
  · rw [list_sort_plain]
    repeat (any_goals (first | assumption | wp_step))
    show wpAny _ _ (pure (PUnit.unit, SortSt.mk' general' ((#[v] : Array Value).zip #[v]) #[] 7 none)) _ _ _
    refine wpAny_pure ?_
    have e3 : Array.map (fun x => x.snd) (arrOf (SortSt.mk' general' ((#[v] : Array Value).zip #[v]) #[] 7 none)) = #[v] := by
      show Array.map (fun x => x.snd) ((#[v] : Array Value).zip #[v]) = #[v]
      simp
    simp only [e3]
    have g1 : (((hp.update a (Obj.mapSeq fun x => #[])).push (seqObj "tuple" #[v] 0)).push (seqObj "list" #[] 0)).get? a = some (seqObj "list" #[] (n + 1)) := by
      refine Heap.get?_push_of_some _ (Heap.get?_push_of_some _ ?_)
      rw [Heap.get?_update_self _ h rfl]
      rfl
    show wpAny _ _ (seqEpoch a >>= _) _ _ _
    repeat (any_goals (first | assumption | wp_step))
  · simp at h2
    omega
theorem vals_refs {α : Type} (f : α → Addr) : ∀ (es : List α), Vals (es.map fun x => V.ref (f x)) (es.map fun x => Value.ref (f x))
  | [] => .nil
  | x :: r => .cons rfl (vals_refs f r)
theorem kat_of {P : Program} {w : World} {H : Hp} {h : Heap} (ok : HOk P w H h) {b : Bool} {sh : List Bool} : ∀ (es : List (List Key × Addr × Value)), (∀ x ∈ es, H x.2.1 = some (.tup (x.1.map kV))) → (∀ x ∈ es, shp x.1 = b :: sh) →
    ∃ fs, KatTups h (es.map fun x => Value.ref x.2.1) fs ∧ fs.length = es.length ∧ ∀ v ∈ fs, if b = true then ∃ i t, v = Value.int i t else ∃ i t, v = Value.str i t
  | [], _, _ => ⟨[], KatTups.nil, rfl, fun _ z => nomatch z⟩
  | x :: es, h1, h2 => by
    obtain ⟨fs, k, l, m⟩ := kat_of ok es (fun y hy => h1 y (List.mem_cons_of_mem _ hy)) (fun y hy => h2 y (List.mem_cons_of_mem _ hy))
    obtain ⟨z2, ts, rt, ot, et, ct, nt, dt⟩ := ok x.2.1 _ (h1 x List.mem_cons_self)
    have s1 := h2 x List.mem_cons_self
    obtain ⟨k1, a1, v1⟩ := x
    cases k1 with
    | nil => cases s1
    | cons k0 kr =>
      simp only [shp, List.map_cons, List.cons.injEq] at s1
      simp only [List.map_cons] at rt
      cases rt with
      | @cons _ u _ us ru rr =>
        refine ⟨u :: fs, KatTups.cons et ct dt (by simp) k, by simp [l], fun v hv => ?_⟩
        rcases List.mem_cons.mp hv with rfl | hv'
        · cases k0 with
          | inl i =>
            obtain ⟨t, rfl⟩ := ru
            rw [if_pos (show b = true from s1.1.symm)]
            exact ⟨i, t, rfl⟩
          | inr i =>
            obtain ⟨t, rfl⟩ := ru
            rw [if_neg (show ¬ b = true by rw [← s1.1]; simp)]
            exact ⟨i, t, rfl⟩
        · exact m v hv'
theorem sort_core {X : Cx} {pins : List (Addr × Obj)} {σ : St} {H : Hp} {s : Shared} {h1 : Heap} {tk : Nat} {Q : VK} {sh : List Bool} (es' : List (List Key × Addr × Value)) (I1 : Inv X pins σ H { s with heap := h1, toks := tk })
    (hl : es'.length < 64) (km : ∀ x ∈ es', H x.2.1 = some (.tup (x.1.map kV))) (shE : ∀ x ∈ es', shp x.1 = sh) (hpos : 0 < sh.length) (hnd : (List.map (fun x => x.fst) es').Nodup)
    (q : ∀ (l : Addr) (ts : List (List Key × Addr)), H l = none → ts.Perm (es'.map fun x => (x.1, x.2.1)) → (ts.map (·.1)).Pairwise (fun x y => lexK x y = true) → Q (.ref l) (upd H l (.lst (ts.map fun t => .ref t.2)))) :
    wpAny (model X.prog X.w) X.A.in1 (newList (es'.map fun x => Value.ref x.2.1) >>= fun l => holding [l] (call (.builtin "list.sort") [l] []) >>= fun _ => ret l) (fun fin s' => ∃ v, fin = Fin.done (Flow.ret v) ∧ EP X pins σ Q v s') X.xe { s with heap := h1, toks := tk } := by
  have hz : es'.length ≤ sizeLine := Nat.le_of_lt (Nat.lt_trans hl (by decide))
  have vals : Vals (es'.map fun x => V.ref x.2.1) (es'.map fun x => Value.ref x.2.1) := vals_refs (fun x => x.2.1) es'
  have I2 := I1.lnew (t' := tk) vals (by rw [List.length_map]; exact hz)
  refine wpAny_bind (wpAny_newList ?_ (by rw [List.length_map]; exact hz))
  have fr : H h1.objs.size = none := I1.fresh
  have gl : (h1.push { cls := .type "list", data := .seq (es'.map fun x => Value.ref x.2.1).toArray }).get? h1.objs.size = some (seqObj "list" (es'.map fun x => Value.ref x.2.1).toArray 0) := Heap.get?_push_size _ rfl
  refine wpAny_bind (wpAny_holding (wpAny_call_entry slot_list_sort ⟨_, gl, rfl⟩ entry_list_sort ?_ (args_list_sort _)))
  have J1 := I2.lset (l := h1.objs.size) (its := es'.map fun x => Value.ref x.2.1) (its' := []) (ys := []) (f := fun _ => #[]) (t' := tk) upd_same gl rfl .nil (Nat.zero_le _)
  have J2 := J1.kept (t' := tk) (h' := (((h1.push { cls := .type "list", data := .seq (es'.map fun x => Value.ref x.2.1).toArray }).update h1.objs.size (Obj.mapSeq fun _ => #[])).push (seqObj "tuple" (es'.map fun x => Value.ref x.2.1).toArray 0)).push (seqObj "list" #[] 0)) fun b u e => Heap.get?_push_of_some _ (Heap.get?_push_of_some _ e)
  obtain ⟨z9, its9, n9, r9, hl9, e9⟩ := J2.lstM upd_same
  have done : ∀ (ts : List (List Key × Addr)), ts.Perm (es'.map fun x => (x.1, x.2.1)) → (ts.map (·.1)).Pairwise (fun x y => lexK x y = true) →
      EP X pins σ Q (.ref h1.objs.size) { s with heap := sortedHeap (h1.push { cls := .type "list", data := .seq (es'.map fun x => Value.ref x.2.1).toArray }) h1.objs.size (es'.map fun x => Value.ref x.2.1) (ts.map fun t => Value.ref t.2).toArray, toks := tk } := by
    intro ts pm pw
    have tl : ts.length = es'.length := by rw [pm.length_eq, List.length_map]
    have J3 := J2.lset (l := h1.objs.size) (its := its9) (its' := ts.map fun t => Value.ref t.2) (ys := ts.map fun t => V.ref t.2) (f := fun _ => (ts.map fun t => Value.ref t.2).toArray) (t' := tk) upd_same e9 rfl (vals_refs (fun t => t.2) ts) (by rw [List.length_map, tl]; exact hz)
    rw [upd_upd, upd_upd] at J3
    exact ⟨.ref h1.objs.size, _, J3, rfl, q _ ts fr pm pw⟩
  by_cases few : es'.length < 2
  · refine list_sort_few gl (by rw [List.length_map]; exact few) ⟨_, rfl, wpAny_pure ⟨_, rfl, ?_⟩⟩
    have := done (es'.map fun x => (x.1, x.2.1)) (List.Perm.refl _) ?_
    · rw [List.map_map] at this
      exact this
    · match es', few with
      | [], _ => exact .nil
      | [x], _ => exact List.pairwise_singleton _ _
      | _ :: _ :: _, h => exact absurd h (by simp)
  · refine list_sort_tups gl (by rw [List.length_map]; omega) (by rw [List.length_map]; exact hl) fun s' es1 es2 => ?_
    obtain ⟨b, sh0, rfl⟩ : ∃ b sh0, sh = b :: sh0 := by
      cases sh with
      | nil => simp at hpos
      | cons b r => exact ⟨b, r, rfl⟩
    rw [es1] at es2
    subst es2
    have km2 : ∀ x ∈ es', upd (upd H h1.objs.size (.lst (es'.map fun x => V.ref x.2.1))) h1.objs.size (.lst []) x.2.1 = some (.tup (x.1.map kV)) := fun x hx => by
      rw [upd_ne (ne_of_none (km x hx) fr), upd_ne (ne_of_none (km x hx) fr)]
      exact km x hx
    obtain ⟨fs, kt, fl, fm⟩ := kat_of J2.hok es' km2 shE
    have few' : 2 ≤ es'.length := by omega
    refine kat_kind (T := if b = true then .type "int" else .type "str") kt (by omega) (fun v hv => ?_) (by cases b <;> rfl) ⟨rfl, ?_⟩
    · have z := fm v hv
      cases b with
      | true =>
        obtain ⟨i, t, rfl⟩ := z
        exact fun A Q E s _ q => wpAny_typeOf (T := "int") rfl q
      | false =>
        obtain ⟨i, t, rfl⟩ := z
        exact fun A Q E s _ q => wpAny_typeOf (T := "str") rfl q
    rw [List.length_map]
    have eAt : ∀ i, i < es'.length → es'[i]? = some (es'.getD i ([], 0, .none)) := fun i hi => by
      rw [List.getD_eq_getElem?_getD, List.getElem?_eq_getElem hi]
      rfl
    have eM : ∀ i, i < es'.length → es'.getD i ([], 0, .none) ∈ es' := fun i hi => List.mem_of_getElem? (eAt i hi)
    have vAt : ∀ i, i < es'.length → (es'.map fun x => Value.ref x.2.1).getD i .none = .ref (es'.getD i ([], 0, .none)).2.1 := fun i hi => by
      rw [List.getD_eq_getElem?_getD, List.getElem?_map, eAt i hi]
      rfl
    have shI : ∀ i j, i < es'.length → j < es'.length → shp (es'.getD i ([], 0, .none)).1 = shp (es'.getD j ([], 0, .none)).1 := fun i j hi hj => by rw [shE _ (eM i hi), shE _ (eM j hj)]
    refine Srt.sort_wp (lt := fun i j => lexK (es'.getD i ([], 0, .none)).1 (es'.getD j ([], 0, .none)).1) ⟨fun i hi => lexK_irr _, fun i j k hi hj hk => lexK_tr (shI i j hi hj) (shI j k hj hk), fun i j hi hj ne => lexK_tot (shI i j hi hj) fun e => ne ?_⟩ (fun i j hi hj Q' q' => ?_) few' fun p arr srt => ⟨rfl, _, rfl, wpAny_pure ⟨_, rfl, ?_⟩⟩
    · have e1 : (es'.map (·.1))[i]? = (es'.map (·.1))[j]? := by rw [List.getElem?_map, List.getElem?_map, eAt i hi, eAt j hj]; exact congrArg some e
      exact (List.getElem?_inj (by rw [List.length_map]; exact hi) hnd).mp e1
    · show wpAny _ _ (keyLt' _ ((es'.map fun x => Value.ref x.2.1).getD i .none) ((es'.map fun x => Value.ref x.2.1).getD j .none)) _ _ _
      rw [vAt i hi, vAt j hj]
      obtain ⟨_, ti, ri, oi, ei, _, ni, di⟩ := J2.hok _ _ (km2 _ (eM i hi))
      obtain ⟨_, tj, rj, oj, ej, _, nj, dj⟩ := J2.hok _ _ (km2 _ (eM j hj))
      have l1 := Vals.length ri
      have l2 := Vals.length rj
      have l3 := congrArg List.length (shI i j hi hj)
      simp only [List.length_map] at l1 l2 l3
      refine kat_lt ei di ej dj ?_
      rw [decide_eq_false (by simp; omega)]
      exact lex_wp _ _ _ _ 0 (shI i j hi hj) ri rj q'
    have pl : ∀ i ∈ p.toList, i < es'.length := fun i hi => by
      have := (Array.Perm.mem_iff arr.pm).mp (Array.mem_toList_iff.mp hi)
      simpa using this
    have := done (p.toList.map fun i => ((es'.getD i ([], 0, .none)).1, (es'.getD i ([], 0, .none)).2.1)) ?_ ?_
    · rw [List.map_map] at this
      have e2 : (p.map fun i => (es'.map fun x => Value.ref x.2.1).getD i .none) = (p.toList.map ((fun t : List Key × Addr => Value.ref t.2) ∘ fun i => ((es'.getD i ([], 0, .none)).1, (es'.getD i ([], 0, .none)).2.1))).toArray := by
        rw [← Array.toList_inj, Array.toList_map]
        exact List.map_congr_left fun i hi => vAt i (pl i hi)
      rw [e2]
      exact this
    · have e3 : (es'.map fun x => (x.1, x.2.1)) = (List.range es'.length).map fun i => ((es'.getD i ([], 0, .none)).1, (es'.getD i ([], 0, .none)).2.1) := by
        refine List.ext_getElem? fun i => ?_
        by_cases c : i < es'.length
        · rw [List.getElem?_map, eAt i c, List.getElem?_map, List.getElem?_range c]
          rfl
        · rw [List.getElem?_eq_none (by rw [List.length_map]; omega), List.getElem?_eq_none (by simp; omega)]
      rw [e3]
      refine List.Perm.map _ ?_
      have := Array.Perm.toList arr.pm
      simpa using this
    · rw [List.map_map, List.pairwise_map, List.pairwise_iff_getElem]
      intro i j hi hj hij
      have z := srt i j hij (by rw [← arr.sz]; simpa using hj)
      have gi : Srt.g p i = p.toList[i] := Srt.g_at (by rw [← Array.getElem?_toList]; exact List.getElem?_eq_getElem hi)
      have gj : Srt.g p j = p.toList[j] := Srt.g_at (by rw [← Array.getElem?_toList]; exact List.getElem?_eq_getElem hj)
      rw [gi, gj] at z
      exact z
def rSortedL : List V → Hp → VK → Prop := fun xs H Q => ∃ (d : Addr) (ts0 : List (List Key × Addr)) (sh : List Bool), xs = [.ref d] ∧ H d = some (.lst (ts0.map fun t => .ref t.2)) ∧ ts0.length < 64 ∧ (∀ t ∈ ts0, H t.2 = some (.tup (t.1.map kV))) ∧ (∀ t ∈ ts0, shp t.1 = sh) ∧ 0 < sh.length ∧ (ts0.map (·.1)).Nodup ∧
  ∀ (l : Addr) (ts : List (List Key × Addr)), H l = none → ts.Perm ts0 → (ts.map (·.1)).Pairwise (fun x y => lexK x y = true) → Q (.ref l) (upd H l (.lst (ts.map fun t => .ref t.2)))
theorem vals_back {α : Type} (f : α → Addr) : ∀ {es : List α} {us : List Value}, Vals (es.map fun x => V.ref (f x)) us → us = es.map fun x => Value.ref (f x)
  | [], _, .nil => rfl
  | x :: es, _, .cons r rs => by
    cases r
    rw [vals_back f rs]
    rfl
theorem call_sortedL {X : Cx} (hc : X.calm = true) : CallR X (.builtin "sorted") rSortedL := by
  intro pins s σ H xs us Q I r h
  obtain ⟨d, ts0, sh, rfl, hd, hl, km, hsh, hpos, hnd, q⟩ := h
  obtain ⟨u, rfl, ru⟩ := vals1 r
  obtain rfl : u = Value.ref d := ru
  obtain ⟨z, its, n, rv, hlen, el⟩ := I.lstM hd
  have eits := vals_back (fun t : List Key × Addr => t.2) rv
  refine Calls.call_function_entry kind_sorted plain_sorted entry_sorted (args_sorted1 _) ?_
  unfold Builtin.sorted
  refine wpAny_bind (wpAny_pure ?_)
  show wpAny _ _ (collect (.ref d) >>= _) _ _ _
  refine wpAny_bind (wpAny_collect_seq d (T := "list") (.inl rfl) el rfl rfl (fun h1 keep => ?_) (by rw [List.size_toArray, eits, List.length_map]; exact Nat.le_of_lt (Nat.lt_trans hl (by decide))))
  have I1 : Inv X pins σ H { s with heap := h1, toks := s.toks } := I.kept keep
  have e0 : its.toArray.toList = (ts0.map fun t => (t.1, t.2, Value.none)).map fun x => Value.ref x.2.1 := by
    rw [List.map_map, eits]
    rfl
  rw [e0]
  refine sort_core (ts0.map fun t => (t.1, t.2, Value.none)) I1 (by rw [List.length_map]; exact hl) (fun x hx => ?_) (fun x hx => ?_) hpos (by rw [List.map_map]; exact hnd) fun l ts fr pm pw => q l ts fr ?_ pw
  · obtain ⟨t, ht, rfl⟩ := List.mem_map.mp hx
    exact km t ht
  · obtain ⟨t, ht, rfl⟩ := List.mem_map.mp hx
    exact hsh t ht
  · rw [List.map_map] at pm
    have e1 : ts0.map ((fun x : List Key × Addr × Value => (x.1, x.2.1)) ∘ fun t => (t.1, t.2, Value.none)) = ts0 := List.map_id _
    rw [e1] at pm
    exact pm
end L2
set_option maxRecDepth 100000
namespace L2
open PySem PySem.Spec PyProof.Rows XL PySem.W
variable {q0 : Bool}
theorem valV_ix {κ : Type} [DecidableEq κ] : ∀ {kvs : List (κ × V)} {k : κ} {v : V}, valV kvs k = some v → ∃ i : Nat, kvs[i]? = some (k, v)
  | [], k, v, h => by cases h
  | p :: r, k, v, h => by
    by_cases e : p.1 = k
    · rw [valV_pos e] at h
      cases h
      exact ⟨0, by simp [← e]⟩
    · rw [valV_neg e] at h
      obtain ⟨i, hi⟩ := valV_ix h
      exact ⟨i + 1, by simpa using hi⟩
section
variable {X : Cx} {o e : Expr} {td ty : TE} {apos cpos : Pos}
end
end L2
set_option maxRecDepth 100000
namespace L2
open PySem PySem.Spec PyProof.Rows XL PySem.W
variable {q0 : Bool}
end L2
set_option maxRecDepth 100000
set_option maxHeartbeats 1000000
namespace L2
open PySem PySem.Spec PyProof.Rows XL PySem.W
inductive DV where
  | non
  | bl (b : Bool)
  | int (i : Int)
  | str (x : Str)
  | tup (xs : List DV)
  | lst (xs : List DV)
mutual
def dEq : DV → DV → Bool
  | .non, .non => true
  | .bl a, .bl b => a == b
  | .bl a, .int b => (if a then 1 else 0) == b
  | .int a, .bl b => a == (if b then 1 else 0)
  | .int a, .int b => a == b
  | .str a, .str b => a == b
  | .tup xs, .tup ys => dEqs xs ys
  | .lst xs, .lst ys => dEqs xs ys
  | _, _ => false
def dEqs : List DV → List DV → Bool
  | [], [] => true
  | x :: xs, y :: ys => dEq x y && dEqs xs ys
  | _, _ => false
end
mutual
theorem dEq_refl : ∀ d, dEq d d = true
  | .non => rfl
  | .bl _ => by simp [dEq]
  | .int _ => by simp [dEq]
  | .str _ => by simp [dEq]
  | .tup xs => by simp only [dEq]; exact dEqs_refl xs
  | .lst xs => by simp only [dEq]; exact dEqs_refl xs
theorem dEqs_refl : ∀ xs, dEqs xs xs = true
  | [] => rfl
  | x :: xs => by simp only [dEqs, Bool.and_eq_true]; exact ⟨dEq_refl x, dEqs_refl xs⟩
end
mutual
def DV.pl : DV → Bool
  | .bl _ => false
  | .tup xs => pls xs
  | .lst xs => pls xs
  | _ => true
def pls : List DV → Bool
  | [] => true
  | x :: xs => x.pl && pls xs
end
theorem dEqs_all : ∀ {xs ys : List DV} {e : Nat → Bool}, (∀ (j : Nat) (x y : DV), xs[j]? = some x → ys[j]? = some y → e j = dEq x y) → ((List.range (min xs.length ys.length)).all e && xs.length == ys.length) = dEqs xs ys
  | [], [], _, _ => rfl
  | [], _ :: _, _, _ => by simp [dEqs]
  | _ :: _, [], _, _ => by simp [dEqs]
  | x :: xs, y :: ys, e, h => by
    have ih := dEqs_all (xs := xs) (ys := ys) (e := fun j => e (j + 1)) (fun j a b ha hb => h (j + 1) a b (by simpa using ha) (by simpa using hb))
    have h0 := h 0 x y rfl rfl
    rw [List.length_cons, List.length_cons, show min (xs.length + 1) (ys.length + 1) = min xs.length ys.length + 1 by omega, List.range_succ_eq_map, List.all_cons, List.all_map]
    show _ = (dEq x y && dEqs xs ys)
    rw [← ih, h0]
    have z : ((xs.length + 1 == ys.length + 1) : Bool) = (xs.length == ys.length) := by
      rw [Bool.eq_iff_iff]
      simp
    rw [z, Bool.and_assoc]
    rfl
theorem dEqs_len : ∀ {xs ys : List DV}, xs.length ≠ ys.length → dEqs xs ys = false
  | [], [], h => absurd rfl h
  | [], _ :: _, _ => rfl
  | _ :: _, [], _ => rfl
  | x :: xs, y :: ys, h => by
    show (dEq x y && dEqs xs ys) = false
    rw [dEqs_len (xs := xs) (ys := ys) (fun z => h (by simp [z]))]
    exact Bool.and_false _
inductive Dv (K : PySem.W.Frag) (H : Hp) : Nat → V → DV → Prop
  | non {n : Nat} : Dv K H n .non .non
  | bl {n : Nat} {b : Bool} : Dv K H n (.bl b) (.bl b)
  | int {n : Nat} {b : Int} : Dv K H n (.int b) (.int b)
  | str {n : Nat} {b : Str} : Dv K H n (.str b) (.str b)
  | tup {n : Nat} {a : Addr} {xs : List V} {ds : List DV} (ha : SqT K H a xs) (hl : xs.length = ds.length) (h : ∀ (j : Nat) (x : V) (d : DV), xs[j]? = some x → ds[j]? = some d → Dv K H n x d) : Dv K H (n + 1) (.ref a) (.tup ds)
  | lst {n : Nat} {a : Addr} {xs : List V} {ds : List DV} (ha : SqL K H a xs) (hl : xs.length = ds.length) (h : ∀ (j : Nat) (x : V) (d : DV), xs[j]? = some x → ds[j]? = some d → Dv K H n x d) : Dv K H (n + 1) (.ref a) (.lst ds)
section
variable {X : Cx} {pins : List (Addr × Obj)} {σ : St} {H : Hp} {s : Shared}
theorem two_kinds {h : Heap} {a : Addr} {i j : Array Value} (p : h.IsTuple a i) (q : PlainL h a j) : False := by
  obtain ⟨o, e, c, _⟩ := p
  obtain ⟨o', n, e', c', _⟩ := q
  rw [e] at e'
  cases e'
  rw [c] at c'
  exact absurd c' (by decide)
theorem ext_of {xs ys : List DV} (h : xs.length = ys.length) (f : ∀ (j : Nat) (x y : DV), xs[j]? = some x → ys[j]? = some y → x = y) : xs = ys := by
  refine List.ext_getElem? fun j => ?_
  by_cases c : j < xs.length
  · rw [List.getElem?_eq_getElem c, List.getElem?_eq_getElem (by omega), f j _ _ (List.getElem?_eq_getElem c) (List.getElem?_eq_getElem (by omega))]
  · rw [List.getElem?_eq_none (by omega), List.getElem?_eq_none (by omega)]
theorem dv_fun (I : Inv X pins σ H s) {n : Nat} {x : V} {d : DV} (h : Dv X.K H n x d) : ∀ {m : Nat} {e : DV}, Dv X.K H m x e → d = e := by
  induction h with
  | non => intro m e h; cases h; rfl
  | bl => intro m e h; cases h; rfl
  | int => intro m e h; cases h; rfl
  | str => intro m e h; cases h; rfl
  | @tup n a xs ds ha hl h ih =>
    intro m e h2
    cases h2 with
    | @tup m _ ys es hb kl k =>
      obtain rfl := I.tuple_inj ha hb
      refine congrArg DV.tup (ext_of (by omega) fun j d e h1 h2 => ?_)
      have lt : j < xs.length := by
        have := (List.getElem?_eq_some_iff.mp h1).1
        omega
      exact ih j xs[j] d (List.getElem?_eq_getElem lt) h1 (k j xs[j] e (List.getElem?_eq_getElem lt) h2)
    | @lst m _ ys es hb kl k =>
      obtain ⟨its, _, t1, _⟩ := I.tuple ha
      obtain ⟨its2, _, t2, _⟩ := I.list hb
      exact (two_kinds t1 t2).elim
  | @lst n a xs ds ha hl h ih =>
    intro m e h2
    cases h2 with
    | @lst m _ ys es hb kl k =>
      obtain rfl := I.list_inj ha hb
      refine congrArg DV.lst (ext_of (by omega) fun j d e h1 h2 => ?_)
      have lt : j < xs.length := by
        have := (List.getElem?_eq_some_iff.mp h1).1
        omega
      exact ih j xs[j] d (List.getElem?_eq_getElem lt) h1 (k j xs[j] e (List.getElem?_eq_getElem lt) h2)
    | @tup m _ ys es hb kl k =>
      obtain ⟨its, _, t1, _⟩ := I.tuple hb
      obtain ⟨its2, _, t2, _⟩ := I.list ha
      exact (two_kinds t1 t2).elim
def at2 (f : DV → DV → Bool) (ds es : List DV) (j : Nat) : Bool := match ds[j]?, es[j]? with | some d, some e => f d e | _, _ => false
theorem at2_of {f : DV → DV → Bool} {ds es : List DV} {j : Nat} {d e : DV} (h : ds[j]? = some d) (h2 : es[j]? = some e) : at2 f ds es j = f d e := by
  unfold at2
  rw [h, h2]
theorem dv_at (I : Inv X pins σ H s) {n : Nat} {x : V} {d : DV} (h : Dv X.K H n x d) : ∀ {m : Nat} {y : V} {e : DV}, Dv X.K H m y e → ∀ {A : Around} {u v : Value}, A.units + n + m < cLine → RelV x u → RelV y v →
    SeqAt.EqAt A s u v (dEq d e) ∧ SeqAt.RcAt A s u v (dEq d e) ∧ SeqAt.RcNeAt A s u v (!dEq d e) := by
  induction h with
  | @non n =>
    intro m y e h2 A u v hu rx ry
    obtain rfl : u = Value.none := rx
    cases h2 with
    | @non  =>
      obtain rfl : v = Value.none := ry
      exact ⟨SeqAt.EqAt.same _, SeqAt.RcAt.none_none, SeqAt.RcNeAt.none_none⟩
    | @bl _ b2 =>
      obtain rfl : v = Value.bool _ := ry
      exact ⟨SeqAt.EqAt.none_bool _, SeqAt.RcAt.none_bool _, SeqAt.RcNeAt.none_bool _⟩
    | @int _ b2 =>
      obtain ⟨_, rfl⟩ := ry
      exact ⟨SeqAt.EqAt.none_int _ _, SeqAt.RcAt.none_int _ _, SeqAt.RcNeAt.none_int _ _⟩
    | @str _ b2 =>
      obtain ⟨_, rfl⟩ := ry
      exact ⟨SeqAt.EqAt.none_str _ _, SeqAt.RcAt.none_str _ _, SeqAt.RcNeAt.none_str _ _⟩
    | @tup m b ys es hb kl k =>
      obtain rfl : v = Value.ref _ := ry
      obtain ⟨its2, r2, t2, z2⟩ := I.tuple hb
      have l2 := r2.length
      exact ⟨SeqAt.EqAt.none_tuple t2 (by omega), SeqAt.RcAt.none_tuple t2 (by omega), SeqAt.RcNeAt.none_tuple t2 (by omega)⟩
    | @lst m b ys es hb kl k =>
      obtain rfl : v = Value.ref _ := ry
      obtain ⟨its2, r2, t2, z2⟩ := I.list hb
      have l2 := r2.length
      exact ⟨SeqAt.EqAt.none_list t2.isList (by omega), SeqAt.RcAt.none_list t2.isList (by omega), SeqAt.RcNeAt.none_list t2.isList (by omega)⟩
  | @bl n b1 =>
    intro m y e h2 A u v hu rx ry
    obtain rfl : u = Value.bool _ := rx
    cases h2 with
    | @non  =>
      obtain rfl : v = Value.none := ry
      exact ⟨SeqAt.EqAt.bool_none _, SeqAt.RcAt.bool_none _, SeqAt.RcNeAt.bool_none _⟩
    | @bl _ b2 =>
      obtain rfl : v = Value.bool _ := ry
      exact ⟨SeqAt.EqAt.bool_bool _ _, SeqAt.RcAt.bool_bool _ _, SeqAt.RcNeAt.bool_bool _ _⟩
    | @int _ b2 =>
      obtain ⟨_, rfl⟩ := ry
      exact ⟨SeqAt.EqAt.bool_int _ _ _, SeqAt.RcAt.bool_int _ _ _, SeqAt.RcNeAt.bool_int _ _ _⟩
    | @str _ b2 =>
      obtain ⟨_, rfl⟩ := ry
      exact ⟨SeqAt.EqAt.bool_str _ _ _, SeqAt.RcAt.bool_str _ _ _, SeqAt.RcNeAt.bool_str _ _ _⟩
    | @tup m b ys es hb kl k =>
      obtain rfl : v = Value.ref _ := ry
      obtain ⟨its2, r2, t2, z2⟩ := I.tuple hb
      have l2 := r2.length
      exact ⟨SeqAt.EqAt.bool_tuple _ t2 (by omega), SeqAt.RcAt.bool_tuple _ t2 (by omega), SeqAt.RcNeAt.bool_tuple _ t2 (by omega)⟩
    | @lst m b ys es hb kl k =>
      obtain rfl : v = Value.ref _ := ry
      obtain ⟨its2, r2, t2, z2⟩ := I.list hb
      have l2 := r2.length
      exact ⟨SeqAt.EqAt.bool_list _ t2.isList (by omega), SeqAt.RcAt.bool_list _ t2.isList (by omega), SeqAt.RcNeAt.bool_list _ t2.isList (by omega)⟩
  | @int n b1 =>
    intro m y e h2 A u v hu rx ry
    obtain ⟨_, rfl⟩ := rx
    cases h2 with
    | @non  =>
      obtain rfl : v = Value.none := ry
      exact ⟨SeqAt.EqAt.int_none _ _, SeqAt.RcAt.int_none _ _, SeqAt.RcNeAt.int_none _ _⟩
    | @bl _ b2 =>
      obtain rfl : v = Value.bool _ := ry
      exact ⟨SeqAt.EqAt.int_bool _ _ _, SeqAt.RcAt.int_bool _ _ _, SeqAt.RcNeAt.int_bool _ _ _⟩
    | @int _ b2 =>
      obtain ⟨_, rfl⟩ := ry
      exact ⟨SeqAt.EqAt.int_int _ _ _ _, SeqAt.RcAt.int_int _ _ _ _, SeqAt.RcNeAt.int_int _ _ _ _⟩
    | @str _ b2 =>
      obtain ⟨_, rfl⟩ := ry
      exact ⟨SeqAt.EqAt.int_str _ _ _ _, SeqAt.RcAt.int_str _ _ _ _, SeqAt.RcNeAt.int_str _ _ _ _⟩
    | @tup m b ys es hb kl k =>
      obtain rfl : v = Value.ref _ := ry
      obtain ⟨its2, r2, t2, z2⟩ := I.tuple hb
      have l2 := r2.length
      exact ⟨SeqAt.EqAt.int_tuple _ _ t2 (by omega), SeqAt.RcAt.int_tuple _ _ t2 (by omega), SeqAt.RcNeAt.int_tuple _ _ t2 (by omega)⟩
    | @lst m b ys es hb kl k =>
      obtain rfl : v = Value.ref _ := ry
      obtain ⟨its2, r2, t2, z2⟩ := I.list hb
      have l2 := r2.length
      exact ⟨SeqAt.EqAt.int_list _ _ t2.isList (by omega), SeqAt.RcAt.int_list _ _ t2.isList (by omega), SeqAt.RcNeAt.int_list _ _ t2.isList (by omega)⟩
  | @str n b1 =>
    intro m y e h2 A u v hu rx ry
    obtain ⟨_, rfl⟩ := rx
    cases h2 with
    | @non  =>
      obtain rfl : v = Value.none := ry
      exact ⟨SeqAt.EqAt.str_none _ _, SeqAt.RcAt.str_none _ _, SeqAt.RcNeAt.str_none _ _⟩
    | @bl _ b2 =>
      obtain rfl : v = Value.bool _ := ry
      exact ⟨SeqAt.EqAt.str_bool _ _ _, SeqAt.RcAt.str_bool _ _ _, SeqAt.RcNeAt.str_bool _ _ _⟩
    | @int _ b2 =>
      obtain ⟨_, rfl⟩ := ry
      exact ⟨SeqAt.EqAt.str_int _ _ _ _, SeqAt.RcAt.str_int _ _ _ _, SeqAt.RcNeAt.str_int _ _ _ _⟩
    | @str _ b2 =>
      obtain ⟨_, rfl⟩ := ry
      exact ⟨SeqAt.EqAt.str_str _ _ _ _, SeqAt.RcAt.str_str _ _ _ _, SeqAt.RcNeAt.str_str _ _ _ _⟩
    | @tup m b ys es hb kl k =>
      obtain rfl : v = Value.ref _ := ry
      obtain ⟨its2, r2, t2, z2⟩ := I.tuple hb
      have l2 := r2.length
      exact ⟨SeqAt.EqAt.str_tuple _ _ t2 (by omega), SeqAt.RcAt.str_tuple _ _ t2 (by omega), SeqAt.RcNeAt.str_tuple _ _ t2 (by omega)⟩
    | @lst m b ys es hb kl k =>
      obtain rfl : v = Value.ref _ := ry
      obtain ⟨its2, r2, t2, z2⟩ := I.list hb
      have l2 := r2.length
      exact ⟨SeqAt.EqAt.str_list _ _ t2.isList (by omega), SeqAt.RcAt.str_list _ _ t2.isList (by omega), SeqAt.RcNeAt.str_list _ _ t2.isList (by omega)⟩
  | @tup n a xs ds ha hl h ih =>
    intro m y e h2 A u v hu rx ry
    obtain rfl : u = Value.ref _ := rx
    obtain ⟨its, r1, t1, z1⟩ := I.tuple ha
    have l1 := r1.length
    cases h2 with
    | @non  =>
      obtain rfl : v = Value.none := ry
      exact ⟨SeqAt.EqAt.tuple_none t1 (by omega), SeqAt.RcAt.tuple_none t1 (by omega), SeqAt.RcNeAt.tuple_none t1 (by omega)⟩
    | @bl _ b2 =>
      obtain rfl : v = Value.bool _ := ry
      exact ⟨SeqAt.EqAt.tuple_bool _ t1 (by omega), SeqAt.RcAt.tuple_bool _ t1 (by omega), SeqAt.RcNeAt.tuple_bool _ t1 (by omega)⟩
    | @int _ b2 =>
      obtain ⟨_, rfl⟩ := ry
      exact ⟨SeqAt.EqAt.tuple_int _ _ t1 (by omega), SeqAt.RcAt.tuple_int _ _ t1 (by omega), SeqAt.RcNeAt.tuple_int _ _ t1 (by omega)⟩
    | @str _ b2 =>
      obtain ⟨_, rfl⟩ := ry
      exact ⟨SeqAt.EqAt.tuple_str _ _ t1 (by omega), SeqAt.RcAt.tuple_str _ _ t1 (by omega), SeqAt.RcNeAt.tuple_str _ _ t1 (by omega)⟩
    | @tup m b ys es hb kl k =>
      obtain rfl : v = Value.ref _ := ry
      obtain ⟨its2, r2, t2, z2⟩ := I.tuple hb
      have l2 := r2.length
      have step : ∀ (j : Nat) (h1 : j < its.toArray.size) (h2 : j < its2.toArray.size), SeqAt.EqAt A.in1 s its.toArray[j] its2.toArray[j] (at2 dEq ds es j) := fun j h1 h2 => by
        obtain ⟨x, hx, rx⟩ := vals_at r1 h1
        obtain ⟨y, hy, ry⟩ := vals_at r2 h2
        have j1 : j < ds.length := by simp at h1; omega
        have j2 : j < es.length := by simp at h2; omega
        rw [at2_of (List.getElem?_eq_getElem j1) (List.getElem?_eq_getElem j2)]
        exact (ih j x _ hx (List.getElem?_eq_getElem j1) (k j y _ hy (List.getElem?_eq_getElem j2)) (A := A.in1) (by show A.units + 1 + n + m < cLine; omega) rx ry).1
      have all := dEqs_all (xs := ds) (ys := es) (e := at2 dEq ds es) fun j x y h1 h2 => at2_of h1 h2
      have both : SeqAt.RcAt A s (.ref a) (.ref b) (dEqs ds es) ∧ SeqAt.RcNeAt A s (.ref a) (.ref b) (!dEqs ds es) := by
        have z1 := SeqAt.RcAt.tuples (A := A) (e := at2 dEq ds es) (show s.heap.IsTuple a its.toArray from t1) (show s.heap.IsTuple b its2.toArray from t2) (by omega) step
        have z2 := SeqAt.RcNeAt.tuples (A := A) (e := at2 dEq ds es) (show s.heap.IsTuple a its.toArray from t1) (show s.heap.IsTuple b its2.toArray from t2) (by omega) step
        have e1 : its.toArray.size = ds.length := by simp; omega
        have e2 : its2.toArray.size = es.length := by simp; omega
        rw [e1, e2, all] at z1 z2
        exact ⟨z1, z2⟩
      simp only [dEq]
      refine ⟨?_, both⟩
      by_cases q : a = b
      · subst q
        have ed : DV.tup ds = DV.tup es := dv_fun I (Dv.tup ha hl h) (Dv.tup hb kl k)
        rw [show es = ds by injection ed with z; exact z.symm, dEqs_refl]
        exact SeqAt.EqAt.same _
      · exact .of_refs q both.1
    | @lst m b ys es hb kl k =>
      obtain rfl : v = Value.ref _ := ry
      obtain ⟨its2, r2, t2, z2⟩ := I.list hb
      have l2 := r2.length
      exact ⟨SeqAt.EqAt.tuple_list t1 t2.isList (by omega), SeqAt.RcAt.tuple_list t1 t2.isList (by omega), SeqAt.RcNeAt.tuple_list t1 t2.isList (by omega)⟩
  | @lst n a xs ds ha hl h ih =>
    intro m y e h2 A u v hu rx ry
    obtain rfl : u = Value.ref _ := rx
    obtain ⟨its, r1, t1, z1⟩ := I.list ha
    have l1 := r1.length
    cases h2 with
    | @non  =>
      obtain rfl : v = Value.none := ry
      exact ⟨SeqAt.EqAt.list_none t1.isList (by omega), SeqAt.RcAt.list_none t1.isList (by omega), SeqAt.RcNeAt.list_none t1.isList (by omega)⟩
    | @bl _ b2 =>
      obtain rfl : v = Value.bool _ := ry
      exact ⟨SeqAt.EqAt.list_bool _ t1.isList (by omega), SeqAt.RcAt.list_bool _ t1.isList (by omega), SeqAt.RcNeAt.list_bool _ t1.isList (by omega)⟩
    | @int _ b2 =>
      obtain ⟨_, rfl⟩ := ry
      exact ⟨SeqAt.EqAt.list_int _ _ t1.isList (by omega), SeqAt.RcAt.list_int _ _ t1.isList (by omega), SeqAt.RcNeAt.list_int _ _ t1.isList (by omega)⟩
    | @str _ b2 =>
      obtain ⟨_, rfl⟩ := ry
      exact ⟨SeqAt.EqAt.list_str _ _ t1.isList (by omega), SeqAt.RcAt.list_str _ _ t1.isList (by omega), SeqAt.RcNeAt.list_str _ _ t1.isList (by omega)⟩
    | @tup m b ys es hb kl k =>
      obtain rfl : v = Value.ref _ := ry
      obtain ⟨its2, r2, t2, z2⟩ := I.tuple hb
      have l2 := r2.length
      exact ⟨SeqAt.EqAt.list_tuple t1.isList t2 (by omega), SeqAt.RcAt.list_tuple t1.isList t2 (by omega), SeqAt.RcNeAt.list_tuple t1.isList t2 (by omega)⟩
    | @lst m b ys es hb kl k =>
      obtain rfl : v = Value.ref _ := ry
      obtain ⟨its2, r2, t2, z2⟩ := I.list hb
      have l2 := r2.length
      have step : ∀ (j : Nat) (h1 : j < its.toArray.size) (h2 : j < its2.toArray.size), SeqAt.EqAt A.in1 s its.toArray[j] its2.toArray[j] (at2 dEq ds es j) := fun j h1 h2 => by
        obtain ⟨x, hx, rx⟩ := vals_at r1 h1
        obtain ⟨y, hy, ry⟩ := vals_at r2 h2
        have j1 : j < ds.length := by simp at h1; omega
        have j2 : j < es.length := by simp at h2; omega
        rw [at2_of (List.getElem?_eq_getElem j1) (List.getElem?_eq_getElem j2)]
        exact (ih j x _ hx (List.getElem?_eq_getElem j1) (k j y _ hy (List.getElem?_eq_getElem j2)) (A := A.in1) (by show A.units + 1 + n + m < cLine; omega) rx ry).1
      have all := dEqs_all (xs := ds) (ys := es) (e := at2 dEq ds es) fun j x y h1 h2 => at2_of h1 h2
      have both : SeqAt.RcAt A s (.ref a) (.ref b) (dEqs ds es) ∧ SeqAt.RcNeAt A s (.ref a) (.ref b) (!dEqs ds es) := by
        have e1 : its.toArray.size = ds.length := by simp; omega
        have e2 : its2.toArray.size = es.length := by simp; omega
        by_cases c : ds.length = es.length
        · have z1 := SeqAt.RcAt.lists (A := A) (e := at2 dEq ds es) t1.isList t2.isList (by omega) (by omega) step
          have z2 := SeqAt.RcNeAt.lists (A := A) (e := at2 dEq ds es) t1.isList t2.isList (by omega) (by omega) step
          have all' : (List.range ds.length).all (at2 dEq ds es) = dEqs ds es := by
            rw [← all, c, Nat.min_self]
            simp
          rw [e1, all'] at z1 z2
          exact ⟨z1, z2⟩
        · rw [dEqs_len c]
          exact ⟨SeqAt.RcAt.lists_lengths (A := A) t1.isList t2.isList (by rw [e1, e2]; simpa using c) (by omega), SeqAt.RcNeAt.lists_lengths (A := A) t1.isList t2.isList (by rw [e1, e2]; simpa using c) (by omega)⟩
      simp only [dEq]
      refine ⟨?_, both⟩
      by_cases q : a = b
      · subst q
        have ed : DV.lst ds = DV.lst es := dv_fun I (Dv.lst ha hl h) (Dv.lst hb kl k)
        rw [show es = ds by injection ed with z; exact z.symm, dEqs_refl]
        exact SeqAt.EqAt.same _
      · exact .of_refs q both.1
end
theorem Same.seqL {K : PySem.W.Frag} {H H' : Hp} {a : Addr} {xs : List V} (s : Same H H') (h : SqL K H a xs) : SqL K H' a xs := by
  rcases h with (h | ⟨ob, h⟩) | h
  · exact .inl (.inl (s _ _ h))
  · exact .inl (.inr ⟨ob, s _ _ h⟩)
  · exact .inr h
def rNeV (K : PySem.W.Frag) : R2 := fun x y H Q => ∃ (n m : Nat) (d e : DV), Dv K H n x d ∧ Dv K H m y e ∧ n ≤ 9 ∧ m ≤ 9 ∧ Q (.bl (!dEq d e)) H
section
variable {X : Cx}
theorem op_neV (hu : X.A.units + 20 < cLine) : OpR X (compareOp .NotEq) (rNeV X.K) := by
  intro pins s σ H x y u v Q I rx ry h
  obtain ⟨n, m, d, e, h1, h2, hn, hm, q⟩ := h
  exact PySem.W.cmp_ofNotEq ((dv_at I h1 h2 (A := X.A) (by omega) rx ry).2.2 X.prog X.w X.xe _ ⟨.bl _, H, I, rfl, q⟩)
end
end L2
set_option maxRecDepth 100000
set_option maxHeartbeats 1000000
namespace L2
open PySem PySem.Spec PyProof.Rows XL PySem.W
def Tp (H H' : Hp) : Prop := ∀ b xs, H b = some (.tup xs) → H' b = some (.tup xs)
theorem Same.tp {H H' : Hp} (s : Same H H') : Tp H H' := fun b xs e => s b _ e
theorem Tp.trans {H H' H'' : Hp} (s : Tp H H') (r : Tp H' H'') : Tp H H'' := fun b xs e => r b xs (s b xs e)
theorem tp_lst {H : Hp} {l : Addr} {xs ys : List V} (h : H l = some (.lst xs)) : Tp H (upd H l (.lst ys)) := fun b zs e => by
  rw [upd_ne (fun z => by rw [z, h] at e; cases e)]
  exact e
section
variable {J : It} {n : Nat} {g : TG} {σ : St} {fr : List Nat} {tc : TT} {te : TE} {l : Addr} {H1 : Hp} {Q : VK}
theorem comp_go (len : Nat) (hlen : len < sizeLine) (hl : H1 l = none) (x : Nat → V) (hgo : ∀ i H, i < len → Same H1 H → J.go i H) (hy : ∀ i H v H', i < len → Same H1 H → J.yld i H v H' → H' = H ∧ v = x i) (hst : ∀ H, Same H1 H → J.stop len H)
    (p : Nat → Bool) (F : Nat → V → Hp → Prop) (stab : ∀ i y H H', Tp H H' → F i y H → F i y H')
    (step : ∀ i H2, i < len → Same H1 H2 → ∀ (N : V → Hp → Prop) (M : Hp → Prop), (∀ y H', Same H2 H' → p i = true → F i y H' → N y H') → (∀ H', Same H2 H' → p i = false → M H') →
      g (x i) (blk0 σ fr n) H2 fun σ' H3 => tc σ' H3 fun b H4 => if b = true then te σ' H4 N else M H4)
    (fin : ∀ ys H2, Same H1 H2 → H2 l = some (.lst ys) → ys.length = ((List.range len).filter p).length → (∀ (j : Nat) (y : V) (i : Nat), ys[j]? = some y → ((List.range len).filter p)[j]? = some i → F i y H2) → Q (.ref l) H2) : CompG J n g σ fr tc te l H1 Q := by
  refine compG_by len (fun i ys H2 => Same H1 H2 ∧ H2 l = some (.lst ys) ∧ ys.length = ((List.range i).filter p).length ∧ ∀ (j : Nat) (y : V) (k : Nat), ys[j]? = some y → ((List.range i).filter p)[j]? = some k → F k y H2) ?_ ?_ ?_ ?_
  · refine ⟨fun b u e => ?_, upd_same, rfl, fun j y k e => by simp at e⟩
    rw [upd_ne (ne_of_none e hl)]
    exact e
  · rintro i ys H2 lt ⟨s, _⟩
    exact hgo i H2 lt s
  · rintro i ys H2 v H3 lt ⟨s, el, ly, f⟩ yl N hN
    obtain ⟨rfl, rfl⟩ := hy i H2 v H3 lt s yl
    refine step i H3 lt s _ _ (fun y H' s' pt hf => ?_) (fun H' s' pf => ?_)
    · have el' := s' _ _ el
      have ylen : ys.length < sizeLine := by
        rw [ly]
        refine Nat.lt_of_le_of_lt (List.length_filter_le _ _) ?_
        rw [List.length_range]
        omega
      refine ⟨el', ylen, hN _ _ ⟨fun b u e => ?_, upd_same, ?_, fun j z k e1 e2 => ?_⟩⟩
      · rw [upd_ne (ne_of_none e hl)]
        exact s' _ _ (s _ _ e)
      · rw [List.range_succ, List.filter_append, List.length_append, List.length_append, ly, List.filter_cons_of_pos pt]
        rfl
      · rw [List.range_succ, List.filter_append, List.filter_cons_of_pos pt] at e2
        by_cases c : j < ys.length
        · rw [List.getElem?_append_left c] at e1
          rw [List.getElem?_append_left (by omega)] at e2
          exact stab _ _ _ _ ((Same.tp s').trans (tp_lst el')) (f j z k e1 e2)
        · rw [List.getElem?_append_right (by omega)] at e1 e2
          rw [← ly] at e2
          cases hj : j - ys.length with
          | zero =>
            rw [hj] at e1 e2
            simp at e1 e2
            subst e1 e2
            exact stab _ _ _ _ (tp_lst el') hf
          | succ m =>
            rw [hj] at e1
            simp at e1
    · refine hN _ _ ⟨s.trans s', s' _ _ el, ?_, fun j z k e1 e2 => ?_⟩
      · rw [List.range_succ, List.filter_append, List.filter_cons_of_neg (by simp [pf])]
        simpa using ly
      · rw [List.range_succ, List.filter_append, List.filter_cons_of_neg (by simp [pf])] at e2
        simp only [List.filter_nil, List.append_nil] at e2
        exact stab _ _ _ _ (Same.tp s') (f j z k e1 e2)
  · rintro ys H2 ⟨s, el, ly, f⟩
    exact ⟨hst _ s, fin ys H2 s el ly f⟩
theorem comp_listF {K : PySem.W.Frag} {a : Addr} {xs : List V} (hs : SqL K H1 a xs) (hlen : xs.length < sizeLine) (hl : H1 l = none) (p : Nat → Bool) (F : Nat → V → Hp → Prop) (stab : ∀ i y H H', Tp H H' → F i y H → F i y H')
    (step : ∀ (i : Nat) (x : V) (H2 : Hp), xs[i]? = some x → Same H1 H2 → ∀ (N : V → Hp → Prop) (M : Hp → Prop), (∀ y H', Same H2 H' → p i = true → F i y H' → N y H') → (∀ H', Same H2 H' → p i = false → M H') →
      g x (blk0 σ fr n) H2 fun σ' H3 => tc σ' H3 fun b H4 => if b = true then te σ' H4 N else M H4)
    (fin : ∀ ys H2, Same H1 H2 → H2 l = some (.lst ys) → ys.length = ((List.range xs.length).filter p).length → (∀ (j : Nat) (y : V) (i : Nat), ys[j]? = some y → ((List.range xs.length).filter p)[j]? = some i → F i y H2) → Q (.ref l) H2) : CompG (Itl K a) n g σ fr tc te l H1 Q := by
  refine comp_go xs.length hlen hl (fun i => xs.getD i .non) (fun i H lt s => ⟨xs, xs[i], Same.seqL s hs, List.getElem?_eq_getElem lt⟩) (fun i H v H' lt s y => ?_) (fun H s => ⟨xs, Same.seqL s hs, Nat.le_refl _⟩) p F stab (fun i H2 lt s N M h1 h2 => ?_) fin
  · obtain ⟨e, f⟩ := y
    have z := f xs (Same.seqL s hs)
    refine ⟨e, ?_⟩
    simp [z]
  · have e : xs[i]? = some (xs.getD i .non) := by simp [List.getElem?_eq_getElem lt]
    exact step i _ H2 e s N M h1 h2
theorem cut_true {i : Nat} {x : V} {σ0 : St} {H2 : Hp} {N : V → Hp → Prop} {M : Hp → Prop} {g : TG} {te : TE} (h : g x σ0 H2 fun σ' H3 => te σ' H3 N) : g x σ0 H2 fun σ' H3 => tTrue σ' H3 fun b H4 => if b = true then te σ' H4 N else M H4 := by
  have e : (fun (σ' : St) (H3 : Hp) => tTrue σ' H3 fun b H4 => if b = true then te σ' H4 N else M H4) = fun σ' H3 => te σ' H3 N := by
    funext σ' H3
    show (if true = true then te σ' H3 N else M H3) = te σ' H3 N
    rw [if_pos rfl]
  rw [e]
  exact h
theorem filter_all (m : Nat) : (List.range m).filter (fun _ => true) = List.range m := by simp
theorem comp_list {K : PySem.W.Frag} {a : Addr} {xs : List V} (hs : SqL K H1 a xs) (hlen : xs.length < sizeLine) (hl : H1 l = none) (F : Nat → V → Hp → Prop) (stab : ∀ i y H H', Tp H H' → F i y H → F i y H')
    (step : ∀ (i : Nat) (x : V) (H2 : Hp), xs[i]? = some x → Same H1 H2 → ∀ (N : V → Hp → Prop), (∀ y H', Same H2 H' → F i y H' → N y H') → g x (blk0 σ fr n) H2 fun σ' H3 => te σ' H3 N)
    (fin : ∀ ys H2, Same H1 H2 → H2 l = some (.lst ys) → ys.length = xs.length → (∀ (i : Nat) (y : V), ys[i]? = some y → F i y H2) → Q (.ref l) H2) : CompG (Itl K a) n g σ fr tTrue te l H1 Q := by
  refine comp_listF hs hlen hl (fun _ => true) F stab (fun i x H2 hx s N M h1 h2 => cut_true (i := i) (step i x H2 hx s N fun y H' s' f => h1 y H' s' rfl f)) (fun ys H2 s e ly f => ?_)
  rw [filter_all, List.length_range] at ly
  refine fin ys H2 s e ly fun i y hy => f i y i hy ?_
  rw [filter_all, List.getElem?_range (by have := (List.getElem?_eq_some_iff.mp hy).1; omega)]
theorem comp_rangeF {lo : Int} {m : Nat} (hlen : m < sizeLine) (hl : H1 l = none) (p : Nat → Bool) (F : Nat → V → Hp → Prop) (stab : ∀ i y H H', Tp H H' → F i y H → F i y H')
    (step : ∀ (i : Nat) H2, i < m → Same H1 H2 → ∀ (N : V → Hp → Prop) (M : Hp → Prop), (∀ y H', Same H2 H' → p i = true → F i y H' → N y H') → (∀ H', Same H2 H' → p i = false → M H') →
      g (.int (lo + i)) (blk0 σ fr n) H2 fun σ' H3 => tc σ' H3 fun b H4 => if b = true then te σ' H4 N else M H4)
    (fin : ∀ ys H2, Same H1 H2 → H2 l = some (.lst ys) → ys.length = ((List.range m).filter p).length → (∀ (j : Nat) (y : V) (i : Nat), ys[j]? = some y → ((List.range m).filter p)[j]? = some i → F i y H2) → Q (.ref l) H2) : CompG (Itr lo m) n g σ fr tc te l H1 Q := by
  exact comp_go m hlen hl (fun i => .int (lo + i)) (fun i H lt s => lt) (fun i H v H' lt s y => y) (fun H s => Nat.le_refl _) p F stab (fun i H2 lt s N M h1 h2 => step i H2 lt s N M h1 h2) fin
theorem comp_range {lo : Int} {m : Nat} (hlen : m < sizeLine) (hl : H1 l = none) (F : Nat → V → Hp → Prop) (stab : ∀ i y H H', Tp H H' → F i y H → F i y H')
    (step : ∀ (i : Nat) H2, i < m → Same H1 H2 → ∀ (N : V → Hp → Prop), (∀ y H', Same H2 H' → F i y H' → N y H') → g (.int (lo + i)) (blk0 σ fr n) H2 fun σ' H3 => te σ' H3 N)
    (fin : ∀ ys H2, Same H1 H2 → H2 l = some (.lst ys) → ys.length = m → (∀ (i : Nat) (y : V), ys[i]? = some y → F i y H2) → Q (.ref l) H2) : CompG (Itr lo m) n g σ fr tTrue te l H1 Q := by
  refine comp_rangeF hlen hl (fun _ => true) F stab (fun i H2 hi s N M h1 h2 => cut_true (i := i) (step i H2 hi s N fun y H' s' f => h1 y H' s' rfl f)) (fun ys H2 s e ly f => ?_)
  rw [filter_all, List.length_range] at ly
  refine fin ys H2 s e ly fun i y hy => f i y i hy ?_
  rw [filter_all, List.getElem?_range (by have := (List.getElem?_eq_some_iff.mp hy).1; omega)]
end
theorem ys_eq {α : Type} {f : α → V} : ∀ {as : List α} {ys : List V}, ys.length = as.length → (∀ (i : Nat) (y : V) (a : α), ys[i]? = some y → as[i]? = some a → y = f a) → ys = as.map f
  | [], [], _, _ => rfl
  | [], _ :: _, h, _ => by cases h
  | _ :: _, [], h, _ => by cases h
  | a :: as, y :: ys, h, k => by
    rw [List.map_cons, k 0 y a rfl rfl, ys_eq (as := as) (ys := ys) (by simpa using h) fun i y' a' h1 h2 => k (i + 1) y' a' (by simpa using h1) (by simpa using h2)]
theorem filt_ix {α : Type} (q : α → Bool) : ∀ (as : List α) (p : Nat → Bool), (∀ (i : Nat) (a : α), as[i]? = some a → p i = q a) → ((List.range as.length).filter p).filterMap (fun i => as[i]?) = as.filter q
  | [], _, _ => rfl
  | a :: as, p, h => by
    have ih := filt_ix q as (fun i => p (i + 1)) fun i b hb => h (i + 1) b (by simpa using hb)
    rw [List.length_cons, List.range_succ_eq_map]
    have e : ((List.range as.length).map Nat.succ).filter p = ((List.range as.length).filter (fun i => p (i + 1))).map Nat.succ := by
      rw [List.filter_map]
      rfl
    have h0 := h 0 a rfl
    by_cases c : q a = true
    · rw [List.filter_cons_of_pos (by rw [h0]; exact c), List.filter_cons_of_pos c, e, List.filterMap_cons]
      simp only [List.getElem?_cons_zero, List.filterMap_map]
      rw [← ih]
      rfl
    · rw [List.filter_cons_of_neg (by rw [h0]; exact c), List.filter_cons_of_neg c, e, List.filterMap_map, ← ih]
      rfl
theorem ix_filt {α : Type} (q : α → Bool) {as : List α} {p : Nat → Bool} (h : ∀ (i : Nat) (a : α), as[i]? = some a → p i = q a) : ((List.range as.length).filter p).length = (as.filter q).length ∧ ∀ j i : Nat, ((List.range as.length).filter p)[j]? = some i → as[i]? = (as.filter q)[j]? := by
  rw [← filt_ix q as p h]
  have all : ∀ i ∈ (List.range as.length).filter p, ∃ a, as[i]? = some a := fun i hi => by
    have := List.mem_range.mp (List.mem_filter.mp hi).1
    exact ⟨as[i], List.getElem?_eq_getElem this⟩
  generalize (List.range as.length).filter p = is at all
  induction is with
  | nil => exact ⟨rfl, fun j i e => by simp at e⟩
  | cons i is ih =>
    obtain ⟨a, ha⟩ := all i List.mem_cons_self
    obtain ⟨h1, h2⟩ := ih fun k hk => all k (List.mem_cons_of_mem _ hk)
    rw [List.filterMap_cons, ha]
    refine ⟨by simp [h1], fun j k e => ?_⟩
    cases j with
    | zero =>
      simp at e
      subst e
      exact ha
    | succ m => exact h2 m k (by simpa using e)
end L2
set_option maxRecDepth 100000
set_option maxHeartbeats 1000000
namespace XL
open PySem PySem.MeetsSeq PySem.MeetsSeq2 PySem.MeetsSeq3 PySem.SeqAt
open AutoSeq1 (wpAny_loadPart')
end XL
namespace L2
open PySem PySem.Spec PyProof.Rows XL PySem.W
section
variable {X : Cx}
end
section
variable {J : It} {n : Nat} {g : TG} {σ : St} {fr : List Nat} {tc : TT} {te : TE} {l : Addr} {H1 : Hp} {Q : VK}
end
end L2
set_option maxRecDepth 100000
set_option maxHeartbeats 1000000
namespace XL
open PySem L2
open PyProof.Rows (assign_Tuple)
section
variable {prog : Program} {w : World} {A : Around} {E : Value → Shared → Prop}
end
section
variable {X : Cx} {pos : Pos}
end
end XL
set_option maxRecDepth 100000
set_option maxHeartbeats 1000000
namespace L2
open PySem PySem.Spec PyProof.Rows XL PySem.W
section
variable {J : It} {n : Nat} {g : TG} {σ : St} {fr : List Nat} {tc : TT} {te : TE} {l : Addr} {H1 : Hp} {Q : VK}
end
end L2
set_option maxRecDepth 100000
set_option maxHeartbeats 1000000
namespace L2
open PySem PySem.Spec PyProof.Rows XL PySem.W
section
variable {J : It} {n : Nat} {g : TG} {σ : St} {fr : List Nat} {tc : TT} {te : TE} {l : Addr} {H1 : Hp} {Q : VK}
end
end L2
set_option maxRecDepth 100000
set_option maxHeartbeats 1000000
namespace L2
open PySem PySem.Spec PyProof.Rows XL PySem.W PySem.Builtin PySem.Builtin.Str
section
variable {prog : Program} {w : World} {A : Around} {E : Value → Shared → Prop} {s : Shared} {x y : Str} {t u : Tok} {Q : Value → Shared → Prop}
end
section
variable {X : Cx}
end
end L2
set_option maxRecDepth 100000
set_option maxHeartbeats 1000000
namespace L2
open PySem PySem.Spec PyProof.Rows XL
open AutoSeq1 (wpAny_loadPart')
section
variable {prog : Program} {w : World} {A : Around} {E : Value → Shared → Prop} {s : Shared}
end
section
variable {prog : Program} {w : World} {A : Around} {E : Value → Shared → Prop} {s : Shared}
end
section
variable {prog : Program} {w : World} {K : Type} [DecidableEq K] {knd : KeyKind prog w K} {A : Around} {E : Value → Shared → Prop} {s : Shared}
end
section
variable {X : Cx} {elts : List Expr} {x1 : _} {tpos : Pos}
end
section
variable {X : Cx} {o : Expr} {to : TE} {tg : Expr} {apos cpos : Pos}
end
end L2
set_option maxRecDepth 100000
set_option maxHeartbeats 1000000
namespace L2
open PySem PySem.Spec PyProof.Rows XL
section
variable {prog : Program} {w : World} {A : Around} {E : Value → Shared → Prop} {s : Shared}
end
section
variable {X : Cx}
end
end L2
set_option maxRecDepth 100000
set_option maxHeartbeats 1000000
namespace L2
open PySem PySem.Spec PyProof.Rows XL
section
variable {X : Cx} {o : Expr} {to : TE} {tg : Expr}
end
end L2
set_option maxRecDepth 100000
set_option maxHeartbeats 1000000
namespace L2
open PySem PySem.Spec PyProof.Rows XL
open AutoSeq1 (wpAny_loadPart')
section
variable {M : Model} {A : Around} {E : Value → Shared → Prop} {s : Shared} {env : Env}
end
section
variable {prog : Program} {w : World} {A : Around} {E : Value → Shared → Prop} {s : Shared}
end
section
variable {prog : Program} {w : World} {A : Around} {E : Value → Shared → Prop} {s : Shared}
end
end L2
set_option maxRecDepth 100000
set_option maxHeartbeats 1000000
namespace L2
open PySem PySem.Spec PyProof.Rows XL
section
variable {X : Cx} {elts : List Expr} {x1 : _} {tpos : Pos}
end
end L2
set_option maxRecDepth 100000
set_option maxHeartbeats 1000000
namespace L2
open PySem PySem.Spec PyProof.Rows XL
end L2
set_option maxRecDepth 100000
set_option maxHeartbeats 1000000
namespace L2
open PySem PySem.Spec PyProof.Rows XL PySem.W PySem.Builtin PySem.Builtin.Str
section
variable {J : It} {n : Nat} {g : TG} {σ : St} {fr : List Nat} {tc : TT} {te : TE} {l : Addr} {H1 : Hp} {Q : VK}
end
end L2
set_option maxRecDepth 100000
set_option maxHeartbeats 1000000
namespace L2
open PySem PySem.Spec PyProof.Rows XL PySem.W PySem.Builtin PySem.Builtin.Str
section
variable {X : Cx}
end
end L2
namespace L2
open PySem PySem.Spec PyProof.Rows XL PySem.W
end L2
set_option maxRecDepth 100000
set_option maxHeartbeats 1000000
namespace L2
open PySem PySem.Spec PyProof.Rows XL PySem.W
section
variable {X : Cx}
end
end L2
namespace L2
open PySem PySem.Spec PyProof.Rows XL PySem.W
section
variable {X : Cx}
def sgnL (x : Str) : List V := x.cps.toList.map fun c => V.str ⟨#[c]⟩
theorem call_list_txt (hc : X.calm = true) : CallR X (.type "list") (fun xs H Q => ∃ x : Str, xs = [.str x] ∧ x.length ≤ 1000 ∧ ∀ l, H l = none → Q (.ref l) (upd H l (.lst (sgnL x)))) := by
  intro pins s σ H xs us Q I r h
  obtain ⟨x, rfl, hn, q⟩ := h
  obtain ⟨u, rfl, t, rfl⟩ := vals1 r
  refine PySem.call_list_str (I.ok.hd hc) x t (fun h' tk acc' c' kp e it => ?_) (Nat.le_trans hn (by decide))
  have len : acc'.toList.length = (sgnL x).length := by
    rw [sgnL, List.length_map]
    have := it.1
    simpa using this
  refine ⟨.ref s.heap.objs.size, _, I.laid (t' := tk) kp (Nat.le_refl _) (show ObjOk X.prog X.w _ h' _ (.lst (sgnL x)) from ⟨?_, acc'.toList, c', vals_of len fun j y u ey eu => ?_, by simpa using e⟩), rfl, q _ (I.hok.fresh (Nat.le_refl _))⟩
  · rw [sgnL, List.length_map]
    have : x.cps.toList.length = x.length := by simp [Str.length]
    exact Nat.le_trans (by omega : _ ≤ 1000) (by decide)
  · have eu' : acc'[j]? = some u := by simpa using eu
    obtain ⟨c, t2, e1, e2⟩ := it.2 j u eu'
    rw [sgnL, List.getElem?_map, Array.getElem?_toList, e1] at ey
    cases ey
    exact ⟨t2, e2⟩
end
end L2
set_option maxRecDepth 100000
set_option maxHeartbeats 1000000
namespace L2
open PySem PySem.Spec PyProof.Rows XL PySem.W
section
variable {J : It} {n : Nat} {g : TG} {σ : St} {fr : List Nat} {tc : TT} {te : TE} {l : Addr} {H1 : Hp} {Q : VK} {α : Type}
end
end L2
set_option maxRecDepth 100000
set_option maxHeartbeats 1000000
namespace L2
open PySem PySem.Spec PyProof.Rows XL PySem.W PySem.Builtin PySem.Builtin.Str
section
variable {X : Cx}
end
end L2
set_option maxRecDepth 100000
set_option maxHeartbeats 1000000
namespace L2
open PySem PySem.Spec PyProof.Rows XL PySem.W PySem.Builtin PySem.Builtin.Str
end L2
set_option maxRecDepth 100000
set_option maxHeartbeats 1000000
namespace L2
open PySem PySem.Spec PyProof.Rows XL PySem.W PySem.Builtin PySem.Builtin.Str
section
variable {prog : Program} {w : World} {K : Type} [DecidableEq K] {A : Around} {E : Value → Shared → Prop} {s : Shared}
end
section
variable {prog : Program} {w : World} {K : Type} [DecidableEq K] {kk : KeyKind prog w K} {A : Around} {E : Value → Shared → Prop} {s : Shared}
end
end L2
set_option maxRecDepth 100000
namespace L2
open PySem
def th (a b : Int) : Int := reduceHash (Builtin.Tuple.tupleHashOf [hashInt a, hashInt b])
end L2
set_option maxRecDepth 100000
set_option maxHeartbeats 4000000
namespace XL
open PySem PySem.Spec PyProof.Rows
def oneEach (acc : List Str) (x : Str) : List Str := if acc.any (· == x) = true then acc else acc ++ [x]
def firsts (val : Nat → Str) (i : Nat) : List Str := ((List.range i).map val).foldl oneEach []
section
variable {pr : Program} {wd : World} {ar : Around} {R : Result → Shared → Prop} {it : Addr} {fp wr : List Addr} {G : Array GenState → Array GenState → Prop} {n : Nat} {P : Nat → Value → Prop} {St : Nat → Shared → Prop}
end
section
variable {pr : Program} {wd : World} {ar : Around} {E : Value → Shared → Prop} {s : Shared}
end
end XL
set_option maxRecDepth 100000
set_option maxHeartbeats 4000000
namespace L2
open PySem PySem.Spec PyProof.Rows XL
def unlike (xs : List Str) : Nat := (xs.foldl oneEach []).length
section
variable {X : Cx}
end
end L2
set_option maxRecDepth 100000
set_option maxHeartbeats 4000000
namespace L2
open PySem PySem.Spec PyProof.Rows XL
end L2
set_option maxRecDepth 100000
namespace XS
open PySem PySem.SetTable
end XS
set_option maxRecDepth 100000
namespace XS
open PySem PySem.SetTable
variable {t : SetTable} {es : Array (Int × Value)} {L : List Row}
end XS
set_option maxRecDepth 100000
namespace XS
open PySem PySem.SetTable
end XS
set_option maxRecDepth 100000
set_option maxHeartbeats 4000000
namespace XS
open PySem PySem.Spec PySem.SetTable
section
variable {prog : Program} {w : World} {K : Type} [DecidableEq K] {knd : KeyKind prog w K} {A : Around} {E : Value → Shared → Prop} {s : Shared}
end
end XS
set_option maxRecDepth 100000
set_option maxHeartbeats 4000000
namespace XS
open PySem PySem.Spec PySem.SetTable
section
variable {prog : Program} {w : World} {K : Type} [DecidableEq K] {knd : KeyKind prog w K} {A : Around} {E : Value → Shared → Prop} {s : Shared}
end
end XS
set_option maxRecDepth 100000
set_option maxHeartbeats 4000000
namespace XS
open PySem PySem.Spec PySem.SetTable
section
variable {prog : Program} {w : World} {K : Type} [DecidableEq K] {knd : KeyKind prog w K} {A : Around} {E : Value → Shared → Prop} {s : Shared}
end
end XS
set_option maxRecDepth 100000
set_option maxHeartbeats 4000000
namespace XS
open PySem PySem.Spec PyProof.Rows
section
variable {K : Type} [DecidableEq K]
end
section
variable {pr : Program} {wd : World} {K : Type} [DecidableEq K] {knd : KeyKind pr wd K}
variable {ar : Around} {R : Result → Shared → Prop} {it : Addr} {fp wr : List Addr} {G : Array GenState → Array GenState → Prop} {n : Nat} {P : Nat → Value → Prop} {St : Nat → Shared → Prop}
end
end XS
set_option maxRecDepth 100000
set_option maxHeartbeats 4000000
namespace XS
open PySem PySem.Spec PyProof.Rows XL
section
variable {pr : Program} {wd : World} {K : Type} [DecidableEq K] {knd : KeyKind pr wd K} {ar : Around} {E : Value → Shared → Prop} {s : Shared}
end
end XS
set_option maxRecDepth 100000
set_option maxHeartbeats 4000000
namespace L2
open PySem PySem.Spec PyProof.Rows XL XS
section
variable {K : Type} [DecidableEq K]
end
section
variable {X : Cx}
end
end L2
namespace L2
open PySem PySem.Spec PyProof.Rows
section
variable {X : Cx}
end
end L2
set_option maxRecDepth 100000
set_option maxHeartbeats 1000000
namespace L2
open PySem PySem.Spec PyProof.Rows XL PySem.W
section
variable {J : It} {n : Nat} {g : TG} {σ : St} {fr : List Nat} {tc : TT} {te : TE} {l : Addr} {H1 : Hp} {Q : VK} {α : Type}
end
end L2
set_option maxRecDepth 100000
set_option maxHeartbeats 4000000
namespace L2
open PySem PySem.Spec PyProof.Rows XL PySem.W
section
variable {X : Cx} {pins : List (Addr × Obj)} {σ : St} {H : Hp} {s : Shared}
end
section
variable {X : Cx} {o : Expr} {to : TE} {tg : Expr} {elts : List Expr} {x1 : _} {tpos apos cpos : Pos}
end
section
variable {d : Addr} {ob : Obj} {kvs : List (List Key × V)} {g : TG} {tb : TS} {D : Ends} {σ : St} {H : Hp}
end
end L2
set_option maxRecDepth 100000
set_option maxHeartbeats 4000000
namespace L2
open PySem PySem.Spec PyProof.Rows XL PySem.W
section
variable {X : Cx} {o : Expr} {to : TE} {apos cpos p pos : Pos}
end
end L2
set_option maxRecDepth 100000
set_option maxHeartbeats 1000000
namespace L2
open PySem PySem.Spec PyProof.Rows XL PySem.W
section
variable {n : Nat} {g : TG} {σ : St} {fr : List Nat} {tc : TT} {te : TE} {l : Addr} {H1 : Hp} {Q : VK}
end
end L2
set_option maxRecDepth 100000
set_option maxHeartbeats 4000000
namespace L2
open PySem PySem.Spec PyProof.Rows XL PySem.W
section
variable {X : Cx} {o : Expr} {to : TE} {apos cpos p pos : Pos}
end
end L2
set_option maxRecDepth 100000
set_option maxHeartbeats 4000000
namespace L2
open PySem PySem.Spec PyProof.Rows XL PySem.W
section
variable {X : Cx} {o e : Expr} {es : List Expr} {to : TE} {t : TA} {name : Str} {apos cpos : Pos} {T id : String} {r : V → List V → Hp → VK → Prop}
end
end L2
set_option maxRecDepth 100000
set_option maxHeartbeats 4000000
namespace L2
open PySem PySem.Spec PyProof.Rows XL PySem.W
section
variable {prog : Program} {w : World} {A : Around} {E : Value → Shared → Prop} {s : Shared} {a b : Addr} {oa ob : Obj} {es es2 : Array DictEntry} {ep ep2 : Nat}
theorem rng_still {M : Model} {β : Type} {n : Nat} {f : Nat → β → Sem (ForInStep β)} {b0 : β} {Q : β → Shared → Prop} (turn : ∀ i, i < n → ∀ R : ForInStep β → Shared → Prop, R (.yield b0) s → wpAny M A (f i b0) R E s) (q : Q b0 s) : wpAny M A (forIn [:n] b0 f) Q E s := by
  rw [Std.Legacy.Range.forIn_eq_forIn_range', show ([:n] : Std.Legacy.Range).size = n by simp [Std.Legacy.Range.size]]
  refine wpAny_forIn_list _ (fun rs c t => c = b0 ∧ t = s ∧ ∀ x ∈ rs, x < n) _ (fun x rs c t h => ?_) (fun c t h => ?_) _ _ ⟨rfl, rfl, fun x hx => ?_⟩
  · obtain ⟨rfl, rfl, lt⟩ := h
    exact turn x (lt x (List.mem_cons_self ..)) _ ⟨rfl, rfl, fun y hy => lt y (List.mem_cons_of_mem _ hy)⟩
  · obtain ⟨rfl, rfl, _⟩ := h
    exact q
  · have := List.mem_range'.mp hx
    obtain ⟨k, hk, e⟩ := this
    show x < n
    have e : x = 0 + 1 * k := e
    omega
theorem shows_all {Q : Unit → Shared → Prop} (n : (a == sysModules) = false) (q : Q () s) : wpAny (model prog w) A (Builtin.Dict.showsAll a) Q E s := by
  rw [Builtin.Dict.showsAll, if_neg (by simp [n])]
  exact wpAny_pure q
theorem same_pairs {id : String} {Q : Bool → Shared → Prop} (ga : s.heap.get? a = some oa) (da : oa.data = .dict es ep) (gb : s.heap.get? b = some ob) (db : ob.data = .dict es2 ep2) (na : (a == sysModules) = false) (nb : (b == sysModules) = false) (sz : es.size = es2.size)
    (find : ∀ (i : Nat) (hi : i < es.size) (R : Option Nat → Shared → Prop), R (some i) s → wpAny (model prog w) A (dictFind b es[i].key es[i].hash) R E s)
    (val : ∀ (i : Nat) (h1 : i < es.size) (h2 : i < es2.size) (R : Bool → Shared → Prop), R true s → wpAny (model prog w) A (eqBool es[i].val es2[i].val) R E s)
    (q : Q true s) : wpAny (model prog w) A (Builtin.Dict.samePairs id a b) Q E s := by
  unfold Builtin.Dict.samePairs
  refine wpAny_bind (shows_all na (wpAny_bind (shows_all nb (wpAny_bind (wpAny_dictEntries ga da (wpAny_bind (wpAny_dictEntries gb db ?_)))))))
  rw [if_neg (by simp [sz])]
  refine wpAny_bind (wpAny_dictEpoch ga da (wpAny_bind (rng_still (fun i hi R hR => ?_) (wpAny_pure q))))
  have hi2 : i < es2.size := by omega
  refine wpAny_bind (wpAny_dictEntries ga da ?_)
  rw [Array.getElem?_eq_getElem hi]
  refine wpAny_bind (wpAny_holding (wpAny_bind (find i hi _ (wpAny_bind (wpAny_dictEntries gb db ?_)))))
  rw [Array.getElem?_eq_getElem hi2]
  refine wpAny_holding (val i hi hi2 _ ?_)
  rw [if_neg (by decide)]
  refine wpAny_bind (wpAny_dictEpoch ga da ?_)
  rw [if_neg (by simp)]
  exact wpAny_pure hR
structure Alike (prog : Program) (w : World) (A : Around) (s : Shared) (a b : Addr) : Prop where
  ta : s.TypeIs (.ref a) "dict"
  tb : s.TypeIs (.ref b) "dict"
  pairs : ∀ (id : String) (E : Value → Shared → Prop) (Q : Bool → Shared → Prop), Q true s → wpAny (model prog w) A (Builtin.Dict.samePairs id a b) Q E s
theorem slot_two {nm : String} {Q : Value × Value → Shared → Prop} (h : s.TypeIs (.ref a) "dict") (q : Q (.ref a, .ref b) s) : wpAny (model prog w) A (Builtin.Dict.dictSlotArgs nm ⟨[.ref a, .ref b], []⟩) Q E s := by
  rw [Builtin.Dict.dictSlotArgs]
  exact wpAny_bind (wpAny_notOrdered_dict h (show wpAny _ _ (pure _) _ _ s from wpAny_pure q))
theorem meets_dict_eq : MeetsIn prog w (Builtin.«dict.__eq__» ⟨[.ref a, .ref b], []⟩) (fun A R s => Alike prog w A.in1 s a b ∧ R (.ok (.ret (.bool true))) s) :=
  .of_wp fun A R s ⟨al, h⟩ => wpAny_bind (slot_two al.ta (wpAny_bind (wpAny_isInstance al.tb (b := true) (by rw [isSubtype_type]; rfl) (by
    rw [if_neg (by decide)]
    exact wpAny_bind (wpAny_pure (wpAny_bind (wpAny_pure (wpAny_bind (al.pairs _ _ _ (wpAny_pure ⟨_, rfl, h⟩)))))))))) 
theorem meets_dict_ne : MeetsIn prog w (Builtin.«dict.__ne__» ⟨[.ref a, .ref b], []⟩) (fun A R s => Alike prog w A.in1 s a b ∧ R (.ok (.ret (.bool false))) s) :=
  .of_wp fun A R s ⟨al, h⟩ => wpAny_bind (slot_two al.ta (wpAny_bind (wpAny_isInstance al.tb (b := true) (by rw [isSubtype_type]; rfl) (by
    rw [if_neg (by decide)]
    exact wpAny_bind (wpAny_pure (wpAny_bind (wpAny_pure (wpAny_bind (al.pairs _ _ _ (wpAny_pure ⟨_, rfl, h⟩))))))))))
end
end L2
set_option maxRecDepth 100000
set_option maxHeartbeats 4000000
namespace L2
open PySem PySem.Spec PyProof.Rows XL PySem.W
section
variable {X : Cx} {pins : List (Addr × Obj)} {σ : St} {H : Hp} {s : Shared} {a b : Addr} {A : Around}
theorem pairs_at {prog : Program} {w : World} {K : Type} [DecidableEq K] {knd : KeyKind prog w K} {es : List DictEntry} {vs : List (K × Value)} (h : Pairs knd es vs) : ∀ {i : Nat} {e : DictEntry}, es[i]? = some e → ∃ kv, vs[i]? = some kv ∧ knd.is kv.1 e.key = true ∧ e.val = kv.2 := by
  induction h with
  | nil => intro i e h; simp at h
  | cons h1 h2 _ ih =>
    intro i e he
    cases i with
    | zero =>
      simp at he
      subst he
      exact ⟨_, rfl, h1, h2⟩
    | succ i => exact ih (by simpa using he)
theorem paired_at {α β : Type} {R : α → β → Prop} {xs : List α} {ys : List β} (h : Paired R xs ys) : ∀ {i : Nat} {x : α} {y : β}, xs[i]? = some x → ys[i]? = some y → R x y := by
  induction h with
  | nil => intro i x y h; simp at h
  | cons h _ ih =>
    intro i x y h1 h2
    cases i with
    | zero =>
      simp at h1 h2
      subst h1 h2
      exact h
    | succ i => exact ih (by simpa using h1) (by simpa using h2)
theorem nd_at {α β : Type} {f : α → β} {l : List α} (nd : (l.map f).Nodup) {i j : Nat} {x y : α} (hi : l[i]? = some x) (hj : l[j]? = some y) (e : f x = f y) : i = j := by
  have h1 : i < (l.map f).length := by rw [List.length_map]; exact (List.getElem?_eq_some_iff.mp hi).1
  refine (List.getElem?_inj h1 nd).mp ?_
  rw [List.getElem?_map, List.getElem?_map, hi, hj, Option.map_some, Option.map_some, e]
theorem alike_k (I : Inv X pins σ H s) {kvs : List (Key × V)} (ea : H a = some (.dK kvs)) (eb : H b = some (.dK kvs)) (iv : ∀ kv ∈ kvs, ∃ n : Int, kv.2 = .int n) : Alike X.prog X.w A s a b := by
  obtain ⟨_, na, va, ra, da⟩ := dk_of I.hok ea
  obtain ⟨_, nb, vb, rb, db⟩ := dk_of I.hok eb
  obtain ⟨oa, es, ep, ga, xa, ha, ka, pa, nda⟩ := id da
  obtain ⟨ob, es2, ep2, gb, xb, hb, kb, pb, ndb⟩ := id db
  have la : es.size = kvs.length := by
    have := pa.length
    have := ra.length
    simp at *
    omega
  have lb : es2.size = kvs.length := by
    have := pb.length
    have := rb.length
    simp at *
    omega
  have at1 : ∀ (i : Nat) (hi : i < es.size), ∃ v, (mixKind X.prog X.w).is (kvs[i]'(by omega)).1 es[i].key = true ∧ es[i].val = v ∧ RelV (kvs[i]'(by omega)).2 v := fun i hi => by
    obtain ⟨kv, h1, h2, h3⟩ := pairs_at pa (i := i) (e := es[i]) (by simp [hi])
    obtain ⟨q1, q2⟩ := paired_at ra (List.getElem?_eq_getElem (show i < kvs.length by omega)) h1
    exact ⟨_, by rw [q1]; exact h2, h3, q2⟩
  have at2 : ∀ (i : Nat) (hi : i < es2.size), ∃ v, (mixKind X.prog X.w).is (kvs[i]'(by omega)).1 es2[i].key = true ∧ es2[i].val = v ∧ RelV (kvs[i]'(by omega)).2 v := fun i hi => by
    obtain ⟨kv, h1, h2, h3⟩ := pairs_at pb (i := i) (e := es2[i]) (by simp [hi])
    obtain ⟨q1, q2⟩ := paired_at rb (List.getElem?_eq_getElem (show i < kvs.length by omega)) h1
    exact ⟨_, by rw [q1]; exact h2, h3, q2⟩
  have nk : (kvs.map (·.1)).Nodup := by rw [rb.keys]; exact ndb
  refine ⟨⟨oa, ga, xa.1⟩, ⟨ob, gb, xb.1⟩, fun id E Q h => same_pairs ga ha gb hb na nb (by omega) (fun i hi R hR => ?_) (fun i h1 h2 R hR => ?_) h⟩
  · obtain ⟨v, k1, _, _⟩ := at1 i hi
    obtain ⟨k', k2, hh⟩ := ka es[i] (Array.getElem_mem hi)
    obtain rfl := (mixKind X.prog X.w).inj _ _ _ k1 k2
    rw [hh]
    refine wpAny_dictFind_of k1 gb hb kb ?_
    have : (es2.findIdx? fun e => (mixKind X.prog X.w).is (kvs[i]'(by omega)).1 e.key) = some i := by
      rw [Array.findIdx?_eq_some_iff_getElem]
      obtain ⟨v2, k3, _, _⟩ := at2 i (by omega)
      refine ⟨by omega, k3, fun j hj z => ?_⟩
      obtain ⟨v4, k4, _, _⟩ := at2 j (by omega)
      have e := (mixKind X.prog X.w).inj _ _ _ z k4
      have := nd_at (f := fun p : Key × V => p.1) nk (List.getElem?_eq_getElem (show i < kvs.length by omega)) (List.getElem?_eq_getElem (show j < kvs.length by omega)) e
      omega
    rw [this]
    exact hR
  · obtain ⟨v, _, e1, r1⟩ := at1 i h1
    obtain ⟨v2, _, e2, r2⟩ := at2 i h2
    obtain ⟨n, en⟩ := iv _ (List.getElem_mem (show i < kvs.length by omega))
    rw [en] at r1 r2
    obtain ⟨t1, rfl⟩ := r1
    obtain ⟨t2, rfl⟩ := r2
    rw [e1, e2]
    have z := SeqAt.EqAt.int_int (A := A) (s := s) n t1 n t2 X.prog X.w E R
    exact z (by simpa using hR)
theorem alike_t (I : Inv X pins σ H s) (hu : A.units < cLine) {kvs : List (List Key × V)} (ea : H a = some (.dT kvs)) (eb : H b = some (.dT kvs)) (iv : ∀ kv ∈ kvs, ∃ n : Int, kv.2 = .int n) : Alike X.prog X.w A s a b := by
  obtain ⟨_, na, va, ra, da⟩ := dt_of I.hok ea
  obtain ⟨_, nb, vb, rb, db⟩ := dt_of I.hok eb
  obtain ⟨oa, es, ep, ga, xa, ha, ka, pa, nda⟩ := id da
  obtain ⟨ob, es2, ep2, gb, xb, hb, kb, pb, ndb⟩ := id db
  have la0 := ra.length
  have lb0 := rb.length
  have la : es.size = va.length := size_of_entries ka
  have lb : es2.size = vb.length := size_of_entries kb
  refine ⟨⟨oa, ga, xa.1⟩, ⟨ob, gb, xb.1⟩, fun id E Q h => same_pairs ga ha gb hb na nb (by omega) (fun i hi R hR => ?_) (fun i h1 h2 R hR => ?_) h⟩
  · have e0 : es[i]? = some es[i] := by simp [hi]
    have hva : va[i]? = some (va[i]'(by omega)) := List.getElem?_eq_getElem (by omega)
    have hvb : vb[i]? = some (vb[i]'(by omega)) := List.getElem?_eq_getElem (by omega)
    have hkv : kvs[i]? = some (kvs[i]'(by omega)) := List.getElem?_eq_getElem (by omega)
    rw [entry_at ka i, hva, Option.map_some] at e0
    have e0 := Option.some.inj e0
    obtain ⟨q1, _, _⟩ := paired_at ra hkv hva
    obtain ⟨q2, _, _⟩ := paired_at rb hkv hvb
    rw [← e0]
    show wpAny _ _ (dictFind b (.ref (va[i]'(by omega)).2.1) ((tupleKind (mixKind X.prog X.w)).hash (va[i]'(by omega)).1)) _ _ s
    refine wpAny_dictFind_heap hu (pa _ (List.getElem_mem (show i < va.length by omega))) gb hb kb pb ndb (fun z => ?_) (fun j p hj => ?_)
    · refine absurd ?_ (z i (vb[i]'(by omega)).2)
      rw [hvb, ← q1, q2]
    · have : j = i := nd_at (f := fun p : List Key × Addr × Value => p.1) ndb hj hvb (by rw [← q2, q1])
      rw [this]
      exact hR
  · have hva : va[i]? = some (va[i]'(by omega)) := List.getElem?_eq_getElem (by omega)
    have hvb : vb[i]? = some (vb[i]'(by omega)) := List.getElem?_eq_getElem (by omega)
    have hkv : kvs[i]? = some (kvs[i]'(by omega)) := List.getElem?_eq_getElem (by omega)
    have e1 : es[i]? = some es[i] := by simp [h1]
    have e2 : es2[i]? = some es2[i] := by simp [h2]
    rw [entry_at ka i, hva, Option.map_some] at e1
    rw [entry_at kb i, hvb, Option.map_some] at e2
    have e1 := Option.some.inj e1
    have e2 := Option.some.inj e2
    obtain ⟨_, _, r1⟩ := paired_at ra hkv hva
    obtain ⟨_, _, r2⟩ := paired_at rb hkv hvb
    obtain ⟨n, en⟩ := iv _ (List.getElem_mem (show i < kvs.length by omega))
    rw [en] at r1 r2
    rw [← e1, ← e2]
    show wpAny _ _ (eqBool (va[i]'(by omega)).2.2 (vb[i]'(by omega)).2.2) _ _ s
    obtain ⟨t1, w1⟩ := r1
    obtain ⟨t2, w2⟩ := r2
    rw [w1, w2]
    have z := SeqAt.EqAt.int_int (A := A) (s := s) n t1 n t2 X.prog X.w E R
    exact z (by simpa using hR)
def Yes (prog : Program) (w : World) (A : Around) (s : Shared) (y x : Value) : Prop := (∀ (E : Value → Shared → Prop) (Q : Bool → Shared → Prop), Q true s → wpAny (model prog w) A (eqBool y x) Q E s) ∧
  (∀ (E : Value → Shared → Prop) (Q : Value → Shared → Prop), Q (.bool true) s → wpAny (model prog w) A (richCompare .Eq y x) Q E s) ∧ ∀ (E : Value → Shared → Prop) (Q : Value → Shared → Prop), Q (.bool false) s → wpAny (model prog w) A (richCompare .NotEq y x) Q E s
theorem yes_refs {prog : Program} {w : World} (h : ∀ (E : Value → Shared → Prop) (Q : Value → Shared → Prop), Q (.bool true) s → wpAny (model prog w) A (richCompare .Eq (.ref a) (.ref b)) Q E s) (E : Value → Shared → Prop) (Q : Bool → Shared → Prop) (q : Q true s) : wpAny (model prog w) A (eqBool (.ref a) (.ref b)) Q E s := by
  by_cases c : a = b
  · subst c
    exact SeqAt.EqAt.same _ prog w E Q q
  · have nb : ¬ (Value.ref a == Value.ref b) = true := fun z => c (Value.ref.inj (eq_of_beq z))
    rw [eqBool]
    exact wpAny_holding (by rw [if_neg nb]; exact wpAny_bind (h E _ (wpAny_truthy_bool q)))
theorem yes_dict {prog : Program} {w : World} (al : Alike prog w A.in1 s a b) (hu : A.units < cLine) : Yes prog w A s (.ref a) (.ref b) := by
  have h1 : ∀ (E : Value → Shared → Prop) (Q : Value → Shared → Prop), Q (.bool true) s → wpAny (model prog w) A (richCompare .Eq (.ref a) (.ref b)) Q E s := fun E Q q =>
    wpAny_richCompare_same_room al.ta al.tb PySem.F.slot_dict_eq (call_meetsIn PySem.F.slot_dict_eq al.ta PySem.F.entry_dict_eq (PySem.F.args_dict_eq_2 _ _) meets_dict_eq ⟨al, (fun z => nomatch z), q⟩) hu
  have h2 : ∀ (E : Value → Shared → Prop) (Q : Value → Shared → Prop), Q (.bool false) s → wpAny (model prog w) A (richCompare .NotEq (.ref a) (.ref b)) Q E s := fun E Q q =>
    wpAny_richCompare_same_room al.ta al.tb PySem.F.slot_dict_ne (call_meetsIn PySem.F.slot_dict_ne al.ta PySem.F.entry_dict_ne (PySem.F.args_dict_ne_2 _ _) meets_dict_ne ⟨al, (fun z => nomatch z), q⟩) hu
  exact ⟨yes_refs h1, h1, h2⟩
end
end L2
set_option maxRecDepth 100000
set_option maxHeartbeats 4000000
namespace L2
open PySem PySem.Spec PyProof.Rows XL PySem.W
section
variable {prog : Program} {w : World} {a b : Addr}
end
section
variable {X : Cx}
def Tw1 (K : PySem.W.Frag) (H : Hp) (x y : V) : Prop := (∃ n m d, Dv K H n x d ∧ Dv K H m y d ∧ n ≤ 8 ∧ m ≤ 8) ∨ (∃ a b kvs, x = .ref a ∧ y = .ref b ∧ H a = some (.dK kvs) ∧ H b = some (.dK kvs) ∧ ∀ kv ∈ kvs, ∃ n : Int, kv.2 = .int n) ∨
  ∃ a b kvs, x = .ref a ∧ y = .ref b ∧ H a = some (.dT kvs) ∧ H b = some (.dT kvs) ∧ ∀ kv ∈ kvs, ∃ n : Int, kv.2 = .int n
theorem tw1_yes {pins : List (Addr × Obj)} {σ : St} {H : Hp} {s : Shared} (I : Inv X pins σ H s) {A : Around} (hu : A.units + 17 < cLine) {x y : V} {u v : Value} (h : Tw1 X.K H x y) (rx : RelV x u) (ry : RelV y v) : Yes X.prog X.w A s u v := by
  rcases h with ⟨n, m, d, h1, h2, hn, hm⟩ | ⟨a, b, kvs, rfl, rfl, ea, eb, iv⟩ | ⟨a, b, kvs, rfl, rfl, ea, eb, iv⟩
  · have z := dv_at I h1 h2 (A := A) (u := u) (v := v) (by omega) rx ry
    rw [dEq_refl] at z
    exact ⟨fun E Q => z.1 X.prog X.w E Q, fun E Q => z.2.1 X.prog X.w E Q, fun E Q => z.2.2 X.prog X.w E Q⟩
  · obtain rfl : u = Value.ref _ := rx
    obtain rfl : v = Value.ref _ := ry
    exact yes_dict (alike_k I ea eb iv) (by omega)
  · obtain rfl : u = Value.ref _ := rx
    obtain rfl : v = Value.ref _ := ry
    exact yes_dict (alike_t I (show A.units + 1 < cLine by omega) ea eb iv) (by omega)
end
end L2
set_option maxRecDepth 100000
set_option maxHeartbeats 4000000
namespace L2
open PySem PySem.Spec PyProof.Rows XL PySem.W
section
variable {prog : Program} {w : World} {A : Around} {E : Value → Shared → Prop} {s : Shared} {a : Addr} {o : Obj} {es : Array DictEntry} {ep : Nat}
end
section
variable {X : Cx} {pins : List (Addr × Obj)} {σ : St} {H : Hp} {s : Shared} {a : Addr} {o : Expr} {to : TE} {apos cpos : Pos}
end
end L2
set_option maxRecDepth 100000
set_option maxHeartbeats 4000000
namespace L2
open PySem PySem.Spec PyProof.Rows XL PySem.W
end L2
set_option maxRecDepth 100000
set_option maxHeartbeats 4000000
namespace L2
open PySem PySem.Spec PyProof.Rows XL PySem.W PySem.MeetsSeq3
section
variable {prog : Program} {w : World} {a b : Addr} {us vs : Array Value} {n n2 : Nat} {dd dd2 : Option Addr} {sl sl2 : Array (Option Value)}
structure Rows2 (prog : Program) (w : World) (A : Around) (s : Shared) (a b : Addr) (us vs : Array Value) (n n2 : Nat) (dd dd2 : Option Addr) (sl sl2 : Array (Option Value)) : Prop where
  ga : s.heap.get? a = some { cls := .type "list", dict := dd, data := .seq us n, slots := sl }
  gb : s.heap.get? b = some { cls := .type "list", dict := dd2, data := .seq vs n2, slots := sl2 }
  it : ∀ (j : Nat) (h1 : j < us.size) (h2 : j < vs.size) (E : Value → Shared → Prop) (Q : Bool → Shared → Prop), Q true s → wpAny (model prog w) A.in1 (eqBool us[j] vs[j]) Q E s
theorem lp_eq (sz : us.size = vs.size) : ∀ (m i : Nat), us.size = i + m → MeetsIn prog w (Builtin.«list.__eq__.loop» ⟨[.ref a, .ref b, rawInt i, rawInt 2], []⟩) (fun A R s => Rows2 prog w A s a b us vs n n2 dd dd2 sl sl2 ∧ R (.ok (.ret (.bool true))) s)
  | 0, i, em => fun A R s0 hyp => by
    obtain ⟨hp, gl, dr, tk, os⟩ := s0
    obtain ⟨⟨ga, gb, it⟩, done⟩ := hyp
    wp_walk using wpAny_loadPart' ga, wpAny_loadPart' gb
    rw [show us[((i : Nat) : Int).toNat]? = none by simp; omega, show vs[((i : Nat) : Int).toNat]? = none by simp; omega]
    wp_walk using wpAny_loadPart' ga, wpAny_loadPart' gb
    rw [sz]
    exact (show R (.ok (.ret (.bool (vs.size == vs.size)))) _ from by simpa using done)
  | m + 1, i, em => fun A R s0 hyp => by
    obtain ⟨hp, gl, dr, tk, os⟩ := s0
    obtain ⟨⟨ga, gb, it⟩, done⟩ := hyp
    have l1 : i < us.size := by omega
    have l2 : i < vs.size := by omega
    wp_walk using wpAny_loadPart' ga, wpAny_loadPart' gb
    rw [show us[((i : Nat) : Int).toNat]? = some us[i] by simp [l1], show vs[((i : Nat) : Int).toNat]? = some vs[i] by simp [l2]]
    refine wpAny_bind (it i l1 l2 _ _ ?_)
    wp_walk
    refine ⟨plainId_quiet plain_eq_loop _, codeAny_builtin entry_eq_loop ?_⟩
    rw [Around.under_plainId plain_eq_loop _, show ((i : Nat) : Int) + 1 = ((i + 1 : Nat) : Int) from rfl]
    exact lp_eq sz m (i + 1) (by omega) A R _ ⟨⟨ga, gb, it⟩, done⟩
theorem meets_lst_eq (sz : us.size = vs.size) : MeetsIn prog w (Builtin.«list.__eq__» ⟨[.ref a, .ref b], []⟩) (fun A R s => Rows2 prog w A s a b us vs n n2 dd dd2 sl sl2 ∧ R (.ok (.ret (.bool true))) s) := fun A R s0 hyp => by
  obtain ⟨hp, gl, dr, tk, os⟩ := s0
  obtain ⟨⟨ga, gb, it⟩, done⟩ := hyp
  have ft := AutoSeq1.sub_list_list
  have ns : ¬ (us.size != vs.size) = true := by simp [sz]
  wp_walk using wpAny_loadPart' ga, wpAny_loadPart' gb
  refine ⟨plainId_quiet plain_eq_loop _, codeAny_builtin entry_eq_loop ?_⟩
  rw [Around.under_plainId plain_eq_loop _]
  exact lp_eq sz us.size 0 (by omega) A R _ ⟨⟨ga, gb, it⟩, done⟩
theorem lp_ne (sz : us.size = vs.size) : ∀ (m i : Nat), us.size = i + m → MeetsIn prog w (Builtin.«list.__eq__.loop» ⟨[.ref a, .ref b, rawInt i, rawInt 3], []⟩) (fun A R s => Rows2 prog w A s a b us vs n n2 dd dd2 sl sl2 ∧ R (.ok (.ret (.bool false))) s)
  | 0, i, em => fun A R s0 hyp => by
    obtain ⟨hp, gl, dr, tk, os⟩ := s0
    obtain ⟨⟨ga, gb, it⟩, done⟩ := hyp
    wp_walk using wpAny_loadPart' ga, wpAny_loadPart' gb
    rw [show us[((i : Nat) : Int).toNat]? = none by simp; omega, show vs[((i : Nat) : Int).toNat]? = none by simp; omega]
    wp_walk using wpAny_loadPart' ga, wpAny_loadPart' gb
    rw [sz]
    exact (show R (.ok (.ret (.bool (vs.size != vs.size)))) _ from by simpa using done)
  | m + 1, i, em => fun A R s0 hyp => by
    obtain ⟨hp, gl, dr, tk, os⟩ := s0
    obtain ⟨⟨ga, gb, it⟩, done⟩ := hyp
    have l1 : i < us.size := by omega
    have l2 : i < vs.size := by omega
    wp_walk using wpAny_loadPart' ga, wpAny_loadPart' gb
    rw [show us[((i : Nat) : Int).toNat]? = some us[i] by simp [l1], show vs[((i : Nat) : Int).toNat]? = some vs[i] by simp [l2]]
    refine wpAny_bind (it i l1 l2 _ _ ?_)
    wp_walk
    refine ⟨plainId_quiet plain_eq_loop _, codeAny_builtin entry_eq_loop ?_⟩
    rw [Around.under_plainId plain_eq_loop _, show ((i : Nat) : Int) + 1 = ((i + 1 : Nat) : Int) from rfl]
    exact lp_ne sz m (i + 1) (by omega) A R _ ⟨⟨ga, gb, it⟩, done⟩
theorem meets_lst_ne (sz : us.size = vs.size) : MeetsIn prog w (Builtin.«list.__ne__» ⟨[.ref a, .ref b], []⟩) (fun A R s => Rows2 prog w A s a b us vs n n2 dd dd2 sl sl2 ∧ R (.ok (.ret (.bool false))) s) := fun A R s0 hyp => by
  obtain ⟨hp, gl, dr, tk, os⟩ := s0
  obtain ⟨⟨ga, gb, it⟩, done⟩ := hyp
  have ft := AutoSeq1.sub_list_list
  have ns : ¬ (us.size != vs.size) = true := by simp [sz]
  wp_walk using wpAny_loadPart' ga, wpAny_loadPart' gb
  refine ⟨plainId_quiet plain_eq_loop _, codeAny_builtin entry_eq_loop ?_⟩
  rw [Around.under_plainId plain_eq_loop _]
  exact lp_ne sz us.size 0 (by omega) A R _ ⟨⟨ga, gb, it⟩, done⟩
theorem yes_lst {A : Around} {s : Shared} (ta : s.heap.IsList a us) (tb : s.heap.IsList b vs) (sz : us.size = vs.size) (hu : A.units < cLine) (items : ∀ (j : Nat) (h1 : j < us.size) (h2 : j < vs.size), Yes prog w A.in1 s us[j] vs[j]) : Yes prog w A s (.ref a) (.ref b) := by
  obtain ⟨⟨c1, d1, q1, l1⟩, ga, ea, n1, fa⟩ := id ta
  obtain ⟨⟨c2, d2, q2, l2⟩, gb, eb, n2, fb⟩ := id tb
  simp only at ea fa eb fb
  subst ea fa eb fb
  have rw2 : Rows2 prog w A s a b us vs n1 n2 d1 d2 l1 l2 := ⟨ga, gb, fun j h1 h2 => (items j h1 h2).1⟩
  have h1 : ∀ (E : Value → Shared → Prop) (Q : Value → Shared → Prop), Q (.bool true) s → wpAny (model prog w) A (richCompare .Eq (.ref a) (.ref b)) Q E s := fun E Q q =>
    wpAny_richCompare_same_room ⟨_, ga, rfl⟩ ⟨_, gb, rfl⟩ PySem.F.slot_list_eq (call_meetsIn PySem.F.slot_list_eq ⟨_, ga, rfl⟩ PySem.F.entry_list_eq (PySem.F.args_list_eq_2 _ _) (meets_lst_eq sz) ⟨rw2, (fun z => nomatch z), q⟩) hu
  have h2 : ∀ (E : Value → Shared → Prop) (Q : Value → Shared → Prop), Q (.bool false) s → wpAny (model prog w) A (richCompare .NotEq (.ref a) (.ref b)) Q E s := fun E Q q =>
    wpAny_richCompare_same_room ⟨_, ga, rfl⟩ ⟨_, gb, rfl⟩ PySem.F.slot_list_ne (call_meetsIn PySem.F.slot_list_ne ⟨_, ga, rfl⟩ PySem.F.entry_list_ne (PySem.F.args_list_ne_2 _ _) (meets_lst_ne sz) ⟨rw2, (fun z => nomatch z), q⟩) hu
  exact ⟨yes_refs h1, h1, h2⟩
end
section
variable {X : Cx}
def TwL (K : PySem.W.Frag) (H : Hp) (x y : V) : Prop := ∃ a b xs ys, x = .ref a ∧ y = .ref b ∧ SqL K H a xs ∧ SqL K H b ys ∧ xs.length = ys.length ∧ ∀ (j : Nat) (u v : V), xs[j]? = some u → ys[j]? = some v → Tw1 K H u v
theorem twl_yes {pins : List (Addr × Obj)} {σ : St} {H : Hp} {s : Shared} (I : Inv X pins σ H s) {A : Around} (hu : A.units + 18 < cLine) {x y : V} {u v : Value} (h : TwL X.K H x y) (rx : RelV x u) (ry : RelV y v) : Yes X.prog X.w A s u v := by
  obtain ⟨a, b, xs, ys, rfl, rfl, ha, hb, le, al⟩ := h
  obtain rfl : u = Value.ref _ := rx
  obtain rfl : v = Value.ref _ := ry
  obtain ⟨us, r1, t1, z1⟩ := I.list ha
  obtain ⟨vs, r2, t2, z2⟩ := I.list hb
  have l1 := r1.length
  have l2 := r2.length
  refine yes_lst t1.isList t2.isList (by simp; omega) (by omega) fun j h1 h2 => ?_
  obtain ⟨x, hx, rx⟩ := vals_at r1 h1
  obtain ⟨y, hy, ry⟩ := vals_at r2 h2
  exact tw1_yes I (show A.units + 1 + 17 < cLine by omega) (al j x y hx hy) rx ry
def rNeYL (K : PySem.W.Frag) : R2 := fun x y H Q => TwL K H x y ∧ Q (.bl false) H
theorem op_neYL (hu : X.A.units + 20 < cLine) : OpR X (compareOp .NotEq) (rNeYL X.K) := by
  intro pins s σ H x y u v Q I rx ry h
  exact PySem.W.cmp_ofNotEq ((twl_yes I (A := X.A) (by omega) h.1 rx ry).2.2 X.xe _ ⟨.bl _, H, I, rfl, h.2⟩)
def rDictCp : List V → Hp → VK → Prop := fun xs H Q => ∃ (d : Addr) (kvs : List (Key × V)), xs = [.ref d] ∧ H d = some (.dK kvs) ∧ ∀ a, H a = none → Q (.ref a) (upd H a (.dK kvs))
theorem call_dictCp : CallR X (.type "dict") rDictCp := by
  intro pins s σ H xs us Q I r h
  obtain ⟨d, kvs, rfl, e, q⟩ := h
  obtain ⟨u, rfl, rx⟩ := vals1 r
  obtain rfl : u = Value.ref d := rx
  obtain ⟨z, hsys, vs, rel, dd⟩ := dk_of I.hok e
  refine kt_call_dict hsys dd (by rw [← rel.length]; exact z) fun h' dd' sb => ?_
  have I1 : Inv X pins σ (upd H s.heap.objs.size (.dK [])) { s with heap := s.heap.push { cls := .type "dict", data := .dict #[] } } := I.laid (t' := s.toks) (fun b u e => Heap.get?_push_of_some _ e) (Nat.le_refl _) (dk_empty s.heap I.big)
  obtain ⟨o, es, ep, g, rest⟩ := id dd'
  have I2 := d_write (t' := s.toks) (ob := .dK kvs) I1 (by rw [upd_same]; exact True.intro) sb ⟨o, g⟩ ⟨z, (by
    have := (dk_of I1.hok (a := s.heap.objs.size) upd_same).2.1
    exact this), vs, rel, dd'⟩
  rw [upd_upd] at I2
  exact ⟨.ref _, _, I2, rfl, q _ I.fresh⟩
end
end L2
set_option maxRecDepth 100000
set_option maxHeartbeats 1000000
namespace L2
open PySem PySem.Spec PyProof.Rows XL PySem.W
section
variable {X : Cx} {elts : List Expr} {x1 : _} {tpos : Pos}
end
section
variable {n : Nat} {g : TG} {σ : St} {fr : List Nat} {te : TE} {l : Addr} {H1 : Hp} {Q : VK}
end
section
variable {d : Addr} {ob : Obj} {kvs : List (Key × V)} {g : TG} {tb : TS} {D : Ends} {σ : St} {H : Hp}
end
end L2
set_option maxRecDepth 100000
set_option maxHeartbeats 1000000
namespace L2
open PySem PySem.Spec PyProof.Rows XL PySem.W
section
variable {X : Cx}
end
end L2
set_option maxRecDepth 100000
set_option maxHeartbeats 1000000
namespace L2
open PySem PySem.Spec PyProof.Rows XL PySem.W
def rUpdK : V → List V → Hp → VK → Prop := fun x vs H Q => ∃ (a b : Addr) (kvs more : List (Key × V)), x = .ref a ∧ vs = [.ref b] ∧ a ≠ b ∧ H a = some (.dK kvs) ∧ H b = some (.dK more) ∧ kvs.length + more.length ≤ 1000 ∧ Q .non (upd H a (.dK (mergeK kvs more)))
theorem mt_updateK {X : Cx} : MtM X "dict.update" rUpdK := by
  intro pins s σ H x vs v us Q I rx rv h
  obtain ⟨a, b, kvs, more, rfl, rfl, ab, ha, hb, hz, q⟩ := h
  cases rx
  obtain ⟨u, rfl, ru⟩ := rv.one
  cases (show u = Value.ref b from ru)
  obtain ⟨za, hda, xs, rela, da⟩ := dk_of I.hok ha
  obtain ⟨zb, hdb, ms, relb, db⟩ := dk_of I.hok hb
  have la := rela.length
  have lb := relb.length
  have hl : (mergeK kvs more).length ≤ sizeLine := by
    have e1 := length_mergeK more kvs
    exact Nat.le_trans (by omega : _ ≤ 1000) (by decide)
  refine call_meetsIn PySem.F.slot_dict_update da.typeIs PySem.F.entry_dict_update (PySem.F.args_dict_update_2 _ _) (meets_dict_update (mixKind X.prog X.w) a b ab hdb) ⟨xs, ms, da, db, ?_, fun h' dd' _ hs => ?_⟩
  · exact Nat.le_trans (by omega : _ ≤ 1000) (by decide)
  · obtain ⟨o, es, ep, g, rest⟩ := id dd'
    exact ⟨.non, _, d_write (t' := s.toks) (ob := .dK (mergeK kvs more)) I (by rw [ha]; exact True.intro) hs ⟨o, g⟩ (dk_new hl hda (relb.merge rela) dd'), rfl, q⟩
end L2
set_option maxRecDepth 100000
set_option maxHeartbeats 1000000
namespace L2
open PySem PySem.Spec PyProof.Rows XL PySem.W
theorem call_range1 {X : Cx} : CallR X (.type "range") (fun xs H Q => ∃ j, xs = [.int j] ∧ ∀ p, H p = none → Q (.ref p) (upd H p (.rng 0 j))) := by
  intro pins s σ H xs us Q I r h
  obtain ⟨j, rfl, q⟩ := h
  obtain ⟨u, rfl, ⟨t, rfl⟩⟩ := vals1 r
  refine call_range_1 ⟨.ref s.heap.objs.size, _, I.laid (t' := s.toks + 1 + 1) (fun b o e => Heap.get?_push_of_some _ e) (Nat.le_refl _) (show ObjOk X.prog X.w _ _ _ (.rng 0 j) from ⟨_, _, _, Heap.get?_push_size _ rfl⟩), rfl, q _ (I.hok.fresh (Nat.le_refl _))⟩
end L2
namespace Sprd
structure Nt where
  h : Int
  lo : Int
  hi : Int
  ws : Int
def ab (x : Int) : Int := if x < 0 then -x else x
structure Way where
  e : Int
  s : Int
  ps : List Int
inductive AL : List Nt → List Int → Int → Int → Prop
  | nil : AL [] [] (-99) 0
  | snoc {ns : List Nt} {ps : List Int} {e s : Int} {n : Nt} {p : Int} (h : AL ns ps e s) (h1 : n.lo ≤ p) (h2 : p + n.h - 1 ≤ n.hi) (h3 : e ≤ p) : AL (ns ++ [n]) (ps ++ [p]) (p + n.h) (s + ab (p - n.ws))
theorem AL.len {ns : List Nt} {ps : List Int} {e s : Int} (h : AL ns ps e s) : ps.length = ns.length := by
  induction h with
  | nil => rfl
  | snoc _ _ _ _ ih => simp [ih]
theorem AL.inv {ns : List Nt} {n : Nt} {ps : List Int} {e s : Int} (h : AL (ns ++ [n]) ps e s) : ∃ ps' e' s' p, AL ns ps' e' s' ∧ ps = ps' ++ [p] ∧ n.lo ≤ p ∧ p + n.h - 1 ≤ n.hi ∧ e' ≤ p ∧ e = p + n.h ∧ s = s' + ab (p - n.ws) := by
  generalize hL : ns ++ [n] = L at h
  cases h with
  | nil => simp at hL
  | snoc h h1 h2 h3 =>
    obtain ⟨a, b⟩ := List.append_inj' hL rfl
    simp at b
    subst a b
    exact ⟨_, _, _, _, h, rfl, h1, h2, h3, rfl, rfl⟩
theorem AL.inv0 {ps : List Int} {e s : Int} (h : AL [] ps e s) : ps = [] ∧ e = -99 ∧ s = 0 := by
  generalize hL : ([] : List Nt) = L at h
  cases h with
  | nil => exact ⟨rfl, rfl, rfl⟩
  | snoc h h1 h2 h3 => simp at hL
abbrev Rw (a b : Way) : Prop := a.e < b.e ∧ b.s < a.s
structure Good (ns : List Nt) (ws : List Way) : Prop where
  al : ∀ w ∈ ws, AL ns w.ps w.e w.s
  so : ws.Pairwise Rw
  co : ∀ ps e s, AL ns ps e s → ∃ w, w ∈ ws ∧ w.e ≤ e ∧ w.s ≤ s
theorem good0 : Good [] [⟨-99, 0, []⟩] where
  al := fun w hw => by
    have := List.mem_singleton.mp hw
    subst this
    exact .nil
  so := by simp
  co := fun ps e s h => by
    obtain ⟨_, rfl, rfl⟩ := h.inv0
    exact ⟨_, List.mem_singleton.mpr rfl, Int.le_refl _, Int.le_refl _⟩
def more (a : Way) (n : Nt) (p : Int) : Int := a.s + ab (p - n.ws)
def better (F : List Way) (m : Int) : Bool := match F.getLast? with | none => true | some f => decide (m < f.s)
def aheadW (ws : List Way) (p : Int) : List Way := ws.filter fun w => decide (w.e ≤ p)
def stepW (ws : List Way) (n : Nt) (F : List Way) (p : Int) : List Way :=
  match (aheadW ws p).getLast? with
  | none => F
  | some a => if better F (more a n p) = true then F ++ [⟨p + n.h, more a n p, a.ps ++ [p]⟩] else F
def foundW (ws : List Way) (n : Nt) : Nat → List Way
  | 0 => []
  | i + 1 => stepW ws n (foundW ws n i) (n.lo + i)
def waysW (ws : List Way) (n : Nt) : List Way := foundW ws n (n.hi - n.h + 2 - n.lo).toNat
structure GoodF (ns : List Nt) (n : Nt) (p0 : Int) (F : List Way) : Prop where
  al : ∀ f ∈ F, AL (ns ++ [n]) f.ps f.e f.s ∧ f.e < p0 + n.h
  so : F.Pairwise Rw
  co : ∀ ps e s, AL (ns ++ [n]) ps e s → e < p0 + n.h → ∃ f, f ∈ F ∧ f.e ≤ e ∧ f.s ≤ s
theorem last_le {F : List Way} (so : F.Pairwise Rw) {a : Way} (h : F.getLast? = some a) : a ∈ F ∧ ∀ w ∈ F, a.s ≤ w.s ∧ w.e ≤ a.e := by
  obtain ⟨r, rfl⟩ : ∃ r, F = r ++ [a] := by
    have := List.getLast?_eq_some_iff.mp h
    exact this
  refine ⟨by simp, fun w hw => ?_⟩
  rcases List.mem_append.mp hw with z | z
  · have := (List.pairwise_append.mp so).2.2 w z a (by simp)
    exact ⟨Int.le_of_lt this.2, Int.le_of_lt this.1⟩
  · have := List.mem_singleton.mp z
    subst this
    exact ⟨Int.le_refl _, Int.le_refl _⟩
theorem stepW_good {ns : List Nt} {ws : List Way} {n : Nt} {F : List Way} {p0 : Int} (G : Good ns ws) (g : GoodF ns n p0 F) (h1 : n.lo ≤ p0) (h2 : p0 + n.h - 1 ≤ n.hi) : GoodF ns n (p0 + 1) (stepW ws n F p0) := by
  have so' : (aheadW ws p0).Pairwise Rw := G.so.filter _
  unfold stepW
  cases ha : (aheadW ws p0).getLast? with
  | none =>
    dsimp only
    refine ⟨fun f hf => ⟨(g.al f hf).1, by have := (g.al f hf).2; omega⟩, g.so, fun ps e s h he => ?_⟩
    by_cases c : e < p0 + n.h
    · exact g.co ps e s h c
    · obtain ⟨ps', e', s', p, a, rfl, b1, b2, b3, rfl, rfl⟩ := h.inv
      obtain ⟨w, hw, w1, w2⟩ := G.co _ _ _ a
      have : aheadW ws p0 = [] := List.getLast?_eq_none_iff.mp ha
      have hm : w ∈ aheadW ws p0 := List.mem_filter.mpr ⟨hw, by simp; omega⟩
      rw [this] at hm
      cases hm
  | some a =>
    dsimp only
    obtain ⟨am, al⟩ := last_le so' ha
    obtain ⟨am1, am2⟩ := List.mem_filter.mp am
    have am3 : a.e ≤ p0 := by simpa using am2
    have cm : ∀ ps e s, AL (ns ++ [n]) ps e s → e < p0 + 1 + n.h → ¬ e < p0 + n.h → e = p0 + n.h ∧ more a n p0 ≤ s := fun ps e s h he c => by
      obtain ⟨ps', e', s', p, b, rfl, b1, b2, b3, rfl, rfl⟩ := h.inv
      have : p = p0 := by omega
      subst this
      obtain ⟨w, hw, w1, w2⟩ := G.co _ _ _ b
      have hm : w ∈ aheadW ws p := List.mem_filter.mpr ⟨hw, by simp; omega⟩
      have := (al w hm).1
      refine ⟨rfl, ?_⟩
      unfold more
      omega
    split
    · rename_i hb
      refine ⟨fun f hf => ?_, ?_, fun ps e s h he => ?_⟩
      · rcases List.mem_append.mp hf with z | z
        · exact ⟨(g.al f z).1, by have := (g.al f z).2; omega⟩
        · have := List.mem_singleton.mp z
          subst this
          exact ⟨.snoc (G.al a am1) h1 h2 am3, by dsimp only; omega⟩
      · refine List.pairwise_append.mpr ⟨g.so, by simp, fun x hx y hy => ?_⟩
        have := List.mem_singleton.mp hy
        subst this
        have z := (g.al x hx).2
        refine ⟨z, ?_⟩
        unfold better at hb
        cases hl : F.getLast? with
        | none =>
          have : F = [] := List.getLast?_eq_none_iff.mp hl
          rw [this] at hx
          cases hx
        | some f =>
          rw [hl] at hb
          have hb' : more a n p0 < f.s := by simpa using hb
          have := (last_le g.so hl).2 x hx
          dsimp only
          omega
      · by_cases c : e < p0 + n.h
        · obtain ⟨f, hf, z⟩ := g.co ps e s h c
          exact ⟨f, List.mem_append.mpr (.inl hf), z⟩
        · obtain ⟨e1, e2⟩ := cm ps e s h he c
          exact ⟨_, List.mem_append.mpr (.inr (List.mem_singleton.mpr rfl)), by dsimp only; omega, e2⟩
    · rename_i hb
      refine ⟨fun f hf => ⟨(g.al f hf).1, by have := (g.al f hf).2; omega⟩, g.so, fun ps e s h he => ?_⟩
      by_cases c : e < p0 + n.h
      · exact g.co ps e s h c
      · obtain ⟨e1, e2⟩ := cm ps e s h he c
        unfold better at hb
        cases hl : F.getLast? with
        | none => rw [hl] at hb; exact absurd rfl hb
        | some f =>
          rw [hl] at hb
          have hb' : ¬ more a n p0 < f.s := by simpa using hb
          obtain ⟨fm, _⟩ := last_le g.so hl
          have := (g.al f fm).2
          exact ⟨f, fm, by omega, by omega⟩
theorem foundW_good {ns : List Nt} {ws : List Way} {n : Nt} (G : Good ns ws) : ∀ i : Nat, i ≤ (n.hi - n.h + 2 - n.lo).toNat → GoodF ns n (n.lo + i) (foundW ws n i) := by
  intro i
  induction i with
  | zero =>
    intro _
    refine ⟨(fun f hf => nomatch hf), List.Pairwise.nil, fun ps e s h he => ?_⟩
    obtain ⟨ps', e', s', p, b, rfl, b1, b2, b3, rfl, rfl⟩ := h.inv
    simp at he
    omega
  | succ i ih =>
    intro l
    have := stepW_good G (ih (by omega)) (by omega) (by omega)
    have e : n.lo + (i : Int) + 1 = n.lo + ((i + 1 : Nat) : Int) := by omega
    rw [e] at this
    exact this
theorem waysW_good {ns : List Nt} {ws : List Way} {n : Nt} (G : Good ns ws) : Good (ns ++ [n]) (waysW ws n) := by
  have g := foundW_good (n := n) G (n.hi - n.h + 2 - n.lo).toNat (Nat.le_refl _)
  refine ⟨fun w hw => (g.al w hw).1, g.so, fun ps e s h => g.co ps e s h ?_⟩
  obtain ⟨ps', e', s', p, b, rfl, b1, b2, b3, rfl, rfl⟩ := h.inv
  omega
def allW (ns : List Nt) : List Way := ns.foldl waysW [⟨-99, 0, []⟩]
theorem allW_good : ∀ (ns ms : List Nt) (ws : List Way), Good ms ws → Good (ms ++ ns) (ns.foldl waysW ws) := by
  intro ns
  induction ns with
  | nil => intro ms ws g; simpa using g
  | cons n r ih =>
    intro ms ws g
    have := ih (ms ++ [n]) (waysW ws n) (waysW_good g)
    simpa using this
def leastP (ns : List Nt) : List Int := match (allW ns).getLast? with | none => [] | some w => w.ps
theorem leastP_best {ns : List Nt} {ps0 : List Int} {e0 s0 : Int} (f : AL ns ps0 e0 s0) : ∃ w, (allW ns).getLast? = some w ∧ leastP ns = w.ps ∧ AL ns (leastP ns) w.e w.s ∧ ∀ ps e s, AL ns ps e s → w.s ≤ s := by
  have g : Good ns (allW ns) := by simpa [allW] using allW_good ns [] _ good0
  obtain ⟨w0, hw0, _⟩ := g.co _ _ _ f
  cases hl : (allW ns).getLast? with
  | none =>
    have : allW ns = [] := List.getLast?_eq_none_iff.mp hl
    rw [this] at hw0
    cases hw0
  | some w =>
    obtain ⟨wm, wl⟩ := last_le g.so hl
    have e : leastP ns = w.ps := by unfold leastP; rw [hl]
    refine ⟨w, rfl, e, by rw [e]; exact g.al w wm, fun ps e s h => ?_⟩
    obtain ⟨x, hx, _, h2⟩ := g.co _ _ _ h
    have := (wl x hx).1
    omega
theorem foundW_len (ws : List Way) (n : Nt) : ∀ i, (foundW ws n i).length ≤ i := by
  intro i
  induction i with
  | zero => exact Nat.le_refl _
  | succ i ih =>
    show (stepW ws n (foundW ws n i) (n.lo + i)).length ≤ i + 1
    unfold stepW
    split
    · omega
    · split
      · simp; omega
      · omega
def cs (f : Nat → Int) : Nat → Int
  | 0 => 0
  | j + 1 => cs f j + f j
structure Ok (N : Nat → Nt) (P : Nat → Int) (n : Nat) : Prop where
  lo : ∀ i, i < n → (N i).lo ≤ P i
  hi : ∀ i, i < n → P i + (N i).h - 1 ≤ (N i).hi
  st : ∀ i, i + 1 < n → P i + (N i).h ≤ P (i + 1)
def stray (N : Nat → Nt) (P : Nat → Int) (n : Nat) : Int := cs (fun i => ab (P i - (N i).ws)) n
def lr (n : Nt) (p : Int) : Option Int := if p + n.h - 1 = n.hi then none else some (if p < n.ws then 1 else -1)
def mr (n : Nt) (p : Int) : Option Int := if p = n.lo then none else some (if p > n.ws then -1 else 1)
def mx (a b : Int) : Int := if b > a then b else a
def fw (N : Nat → Nt) (P : Nat → Int) : Nat → Int
  | 0 => 0
  | i + 1 => match lr (N i) (P i) with | none => 0 | some r => mx 0 (fw N P i + r)
def bw (N : Nat → Nt) (P : Nat → Int) (n : Nat) : Nat → Int
  | 0 => fw N P n
  | k + 1 => match mr (N (n - (k + 1))) (P (n - (k + 1))) with | none => fw N P (n - (k + 1)) | some r => mx (fw N P (n - (k + 1))) (bw N P n k - r)
end Sprd
namespace Sprd
end Sprd
namespace Sprd
theorem AL.det {ns : List Nt} {ps : List Int} {e s : Int} (h : AL ns ps e s) : ∀ {e' s' : Int}, AL ns ps e' s' → e' = e ∧ s' = s := by
  induction h with
  | nil => intro e' s' g; exact g.inv0.2
  | snoc h h1 h2 h3 ih =>
    intro e' s' g
    obtain ⟨ps', e2, s2, p, g2, eq, _, _, _, rfl, rfl⟩ := g.inv
    obtain ⟨rfl, b⟩ := List.append_inj' eq rfl
    have b := (List.cons.inj b).1
    subst b
    obtain ⟨_, rfl⟩ := ih g2
    exact ⟨rfl, rfl⟩
theorem AL.take {ns : List Nt} {ps : List Int} {e s : Int} (h : AL ns ps e s) : ∀ k, k ≤ ns.length → ∃ e' s', AL (ns.take k) (ps.take k) e' s' := by
  induction h with
  | nil => intro k hk; exact ⟨_, _, by simpa using AL.nil⟩
  | @snoc ns ps e s n p h h1 h2 h3 ih =>
    intro k hk
    have hl := h.len
    rcases Nat.lt_or_ge ns.length k with lt | ge
    · have : k = ns.length + 1 := by simp at hk; omega
      subst this
      refine ⟨p + n.h, s + ab (p - n.ws), ?_⟩
      rw [List.take_of_length_le (by simp), List.take_of_length_le (by simp [hl])]
      exact .snoc h h1 h2 h3
    · obtain ⟨e', s', g⟩ := ih k ge
      refine ⟨e', s', ?_⟩
      rw [List.take_append_of_le_length ge, List.take_append_of_le_length (by omega)]
      exact g
theorem AL.step {ns : List Nt} {ps : List Int} {e s : Int} (h : AL ns ps e s) {k : Nat} {n : Nt} {p e' s' : Int} (hn : ns[k]? = some n) (hp : ps[k]? = some p) (g : AL (ns.take k) (ps.take k) e' s') :
    n.lo ≤ p ∧ p + n.h - 1 ≤ n.hi ∧ e' ≤ p ∧ AL (ns.take (k + 1)) (ps.take (k + 1)) (p + n.h) (s' + ab (p - n.ws)) := by
  have lt := (List.getElem?_eq_some_iff.mp hn).1
  obtain ⟨e2, s2, q⟩ := h.take (k + 1) lt
  have q0 := q
  rw [List.take_add_one, hn, List.take_add_one, hp] at q
  obtain ⟨ps', e3, s3, p3, q, eq, a, b, c, d, f⟩ := q.inv
  obtain ⟨rfl, y⟩ := List.append_inj' eq rfl
  have y := (List.cons.inj y).1
  subst y
  obtain ⟨rfl, rfl⟩ := g.det q
  subst d f
  exact ⟨a, b, c, q0⟩
def rowD (T : Nat → Int) (z w : Int) : Nat → Int
  | 0 => 1000000
  | r + 1 => if 1 ≤ ((r + 1 : Nat) : Int) - z then min (rowD T z w r) (T (((r + 1 : Nat) : Int) - z).toNat + ab (((r + 1 : Nat) : Int) - z - w)) else rowD T z w r
def tabD (ns : List Nt) : Nat → Int := ns.foldl (fun T n => rowD T n.h n.ws) (fun _ => 0)
structure DInv (H : Int) (ns : List Nt) (T : Nat → Int) : Prop where
  le : ∀ r : Nat, T r ≤ 1000000
  ex : ∀ r : Nat, (r : Int) ≤ H + 1 → T r = 1000000 ∨ ∃ ps e, AL ns ps e (T r) ∧ e ≤ r
  lo : ∀ (r : Nat) ps e s, (r : Int) ≤ H + 1 → AL ns ps e s → e ≤ r → T r ≤ s
theorem ab_nn (x : Int) : 0 ≤ ab x := by unfold ab; split <;> omega
theorem row_le (T : Nat → Int) (z w : Int) : ∀ r, rowD T z w r ≤ 1000000
  | 0 => Int.le_refl _
  | r + 1 => by
    have := row_le T z w r
    unfold rowD
    split <;> omega
theorem row_inv {H : Int} {ns : List Nt} {T : Nat → Int} {n : Nt} (I : DInv H ns T) (hl : n.lo = 1) (hh : n.hi = H) (h1 : 1 ≤ n.h) : DInv H (ns ++ [n]) (rowD T n.h n.ws) := by
  refine ⟨fun r => ?_, fun r hr => ?_, fun r => ?_⟩
  · exact row_le _ _ _ r
  · induction r with
    | zero => exact .inl rfl
    | succ r ih =>
      have ih := ih (by omega)
      have up : rowD T n.h n.ws r = 1000000 ∨ ∃ ps e, AL (ns ++ [n]) ps e (rowD T n.h n.ws r) ∧ e ≤ (r + 1 : Nat) := by
        rcases ih with a | ⟨ps, e, a, b⟩
        · exact .inl a
        · exact .inr ⟨ps, e, a, by omega⟩
      unfold rowD
      split
      · rename_i c
        generalize hp : ((r + 1 : Nat) : Int) - n.h = p at c ⊢
        have hc : ((p.toNat : Nat) : Int) = p := Int.toNat_of_nonneg (by omega)
        by_cases q : rowD T n.h n.ws r ≤ T p.toNat + ab (p - n.ws)
        · rw [Int.min_eq_left q]; exact up
        · rw [Int.min_eq_right (by omega)]
          have t1 := I.le p.toNat
          have t2 : rowD T n.h n.ws r ≤ 1000000 := row_le _ _ _ r
          have an := ab_nn (p - n.ws)
          rcases I.ex p.toNat (by omega) with a | ⟨ps, e, a, b⟩
          · omega
          · refine .inr ⟨_, p + n.h, .snoc a (by omega) (by omega) (by omega), by omega⟩
      · exact up
  · induction r with
    | zero =>
      intro ps e s _ a b
      obtain ⟨_, _, _, p, _, _, q1, _, _, rfl, _⟩ := a.inv
      omega
    | succ r ih =>
      intro ps e s hr a b
      have ih := fun z => ih ps e s (by omega) a z
      obtain ⟨ps', e', s', p, a', _, q1, q2, q3, rfl, rfl⟩ := a.inv
      unfold rowD
      by_cases c : p + n.h ≤ r
      · have := ih c
        split <;> omega
      · have hp : ((r + 1 : Nat) : Int) - n.h = p := by omega
        rw [hp, if_pos (by omega)]
        have hc : ((p.toNat : Nat) : Int) = p := Int.toNat_of_nonneg (by omega)
        have := I.lo p.toNat ps' e' s' (by omega) a' (by omega)
        omega
theorem tab_inv {H : Int} : ∀ (ns ms : List Nt) (T : Nat → Int), DInv H ms T → (∀ n ∈ ns, n.lo = 1 ∧ n.hi = H ∧ 1 ≤ n.h) → DInv H (ms ++ ns) (ns.foldl (fun T n => rowD T n.h n.ws) T) := by
  intro ns
  induction ns with
  | nil => intro ms T I _; rw [List.append_nil]; exact I
  | cons n ns ih =>
    intro ms T I h
    obtain ⟨a, b, c⟩ := h n List.mem_cons_self
    have := ih (ms ++ [n]) _ (row_inv I a b c) fun x hx => h x (List.mem_cons_of_mem _ hx)
    rw [List.append_assoc] at this
    exact this
theorem tab0 (H : Int) : DInv H [] (fun _ => 0) := ⟨fun _ => by omega, fun r _ => .inr ⟨[], -99, .nil, by omega⟩, fun r ps e s _ a _ => by obtain ⟨_, _, rfl⟩ := a.inv0; exact Int.le_refl _⟩
theorem AL.small {H B : Int} {ns : List Nt} {ps : List Int} {e s : Int} (h : AL ns ps e s) (hB : 0 ≤ B) : (∀ n ∈ ns, n.lo = 1 ∧ n.hi = H ∧ 1 ≤ n.h ∧ 1 ≤ n.ws ∧ n.ws ≤ H) → H ≤ B → e ≤ H + 1 ∨ e = -99 := by
  cases h with
  | nil => intro _ _; exact .inr rfl
  | @snoc ns ps e s n p h h1 h2 h3 =>
    intro z _
    obtain ⟨_, b, _⟩ := z n (by simp)
    exact .inl (by omega)
theorem AL.stray_le {H : Int} {ns : List Nt} {ps : List Int} {e s : Int} (h : AL ns ps e s) : (∀ n ∈ ns, n.lo = 1 ∧ n.hi = H ∧ 1 ≤ n.h ∧ 1 ≤ n.ws ∧ n.ws ≤ H) → s ≤ ns.length * H := by
  induction h with
  | nil => intro _; simp
  | @snoc ns ps e s n p h h1 h2 h3 ih =>
    intro z
    have := ih fun x hx => z x (List.mem_append_left _ hx)
    obtain ⟨a, b, c, d, f⟩ := z n (by simp)
    have q : ab (p - n.ws) ≤ H := by unfold ab; split <;> omega
    have e1 : (((ns ++ [n]).length : Nat) : Int) * H = (ns.length : Int) * H + H := by
      rw [List.length_append]
      show ((ns.length + 1 : Nat) : Int) * H = _
      rw [Int.natCast_add, Int.add_mul]
      simp
    omega
theorem tab_least {H : Int} {ns : List Nt} {ps : List Int} {e s : Int} (hH : 0 ≤ H) (hs : (ns.length : Int) * H < 1000000) (z : ∀ n ∈ ns, n.lo = 1 ∧ n.hi = H ∧ 1 ≤ n.h ∧ 1 ≤ n.ws ∧ n.ws ≤ H) (a : AL ns ps e s) (best : ∀ ps e s', AL ns ps e s' → s ≤ s') : tabD ns (H + 1).toNat = s := by
  have I : DInv H ns (tabD ns) := tab_inv ns [] _ (tab0 H) fun n hn => ⟨(z n hn).1, (z n hn).2.1, (z n hn).2.2.1⟩
  have hc : (((H + 1).toNat : Nat) : Int) = H + 1 := Int.toNat_of_nonneg (by omega)
  have e1 := a.small hH z (Int.le_refl _)
  have l1 := I.lo (H + 1).toNat ps e s (by omega) a (by omega)
  have l2 := a.stray_le z
  rcases I.ex (H + 1).toNat (by omega) with q | ⟨ps', e', q, _⟩
  · omega
  · have := best _ _ _ q
    omega
theorem room_al {H : Int} : ∀ (ns ms : List Nt), (∀ n ∈ ns, n.lo = 1 ∧ n.hi = H ∧ 1 ≤ n.h) → (∃ ps e s, AL ms ps e s ∧ e ≤ 1 + (ms.map Nt.h).sum) → 0 ≤ (ms.map Nt.h).sum → (ms.map Nt.h).sum + (ns.map Nt.h).sum ≤ H → ∃ ps e s, AL (ms ++ ns) ps e s := by
  intro ns
  induction ns with
  | nil => rintro ms _ ⟨ps, e, s, a, _⟩ _ _; rw [List.append_nil]; exact ⟨_, _, _, a⟩
  | cons n ns ih =>
    rintro ms z ⟨ps, e, s, a, le⟩ nn hs
    obtain ⟨a1, a2, a3⟩ := z n List.mem_cons_self
    have e1 : ((ms ++ [n]).map Nt.h).sum = (ms.map Nt.h).sum + n.h := by simp
    have e2 : ((n :: ns).map Nt.h).sum = n.h + (ns.map Nt.h).sum := by simp
    have e3 : 0 ≤ (ns.map Nt.h).sum := by
      have : ∀ (l : List Nt), (∀ n ∈ l, 1 ≤ n.h) → 0 ≤ (l.map Nt.h).sum := by
        intro l
        induction l with
        | nil => intro _; simp
        | cons x l ih => intro h; have := ih fun y hy => h y (List.mem_cons_of_mem _ hy); have := h x List.mem_cons_self; simp; omega
      exact this ns fun x hx => (z x (List.mem_cons_of_mem _ hx)).2.2
    have := ih (ms ++ [n]) (fun x hx => z x (List.mem_cons_of_mem _ hx)) ⟨_, _, _, .snoc (p := 1 + (ms.map Nt.h).sum) a (by omega) (by omega) (by omega), by omega⟩ (by omega) (by omega)
    rw [List.append_assoc] at this
    exact this
end Sprd
set_option maxRecDepth 100000
set_option maxHeartbeats 4000000
namespace S66
open PySem L2 XL
def top (i : Nat) : Stmt := PySem.Challenge.pw_rimnotes_k66_columns.main.body.getD i (.Pass ⟨0, 0, 0, 0⟩)
abbrev s_TooTall_init : Stmt := inClass (top 15) 0
abbrev s_is_whole : Stmt := top 17
abbrev s_is_name : Stmt := top 18
abbrev s_least_places : Stmt := top 21
abbrev s_ways_with : Stmt := top 22
abbrev s_column_places : Stmt := top 24
abbrev s_rim_firsts : Stmt := top 25
abbrev s_Side_init : Stmt := inClass (top 27) 0
abbrev s_side_of : Stmt := top 30
abbrev s_Picture_init : Stmt := inClass (top 36) 0
abbrev s_Picture_put : Stmt := inClass (top 36) 1
abbrev s_Picture_open_seat : Stmt := inClass (top 36) 4
abbrev s_Picture_points : Stmt := inClass (top 36) 6
abbrev s_Picture_check_cell : Stmt := inClass (top 36) 16
abbrev s_Picture_check_lines : Stmt := inClass (top 36) 17
abbrev s_Picture_check_seat : Stmt := inClass (top 36) 18
abbrev s_law_cell : Stmt := top 38
abbrev s_law_mix : Stmt := top 39
abbrev s_law_digits : Stmt := top 40
abbrev s_law_whole : Stmt := top 41
abbrev s_law_unlike : Stmt := top 42
abbrev s_law_pairs : Stmt := top 43
abbrev s_law_made : Stmt := top 44
abbrev s_law_heights : Stmt := top 45
abbrev s_law_least : Stmt := top 46
abbrev s_law_rim_good : Stmt := top 47
abbrev s_law_asked : Stmt := top 48
abbrev s_law_rows : Stmt := top 49
abbrev s_law : Stmt := top 50
set_option genInjectivity false in
set_option genSizeOf false in
set_option genInjectivity false in
set_option genSizeOf false in
structure Adr where
  f_TooTall_init : Addr
  d_TooTall_init : FuncData
  f_is_whole : Addr
  d_is_whole : FuncData
  f_is_name : Addr
  d_is_name : FuncData
  f_least_places : Addr
  d_least_places : FuncData
  f_ways_with : Addr
  d_ways_with : FuncData
  f_column_places : Addr
  d_column_places : FuncData
  f_rim_firsts : Addr
  d_rim_firsts : FuncData
  f_Side_init : Addr
  d_Side_init : FuncData
  f_side_of : Addr
  d_side_of : FuncData
  f_Picture_init : Addr
  d_Picture_init : FuncData
  f_Picture_put : Addr
  d_Picture_put : FuncData
  T_Picture_put : Addr
  f_Picture_open_seat : Addr
  d_Picture_open_seat : FuncData
  f_Picture_points : Addr
  d_Picture_points : FuncData
  f_Picture_check_cell : Addr
  d_Picture_check_cell : FuncData
  f_Picture_check_lines : Addr
  d_Picture_check_lines : FuncData
  f_Picture_check_seat : Addr
  d_Picture_check_seat : FuncData
  f_law_cell : Addr
  d_law_cell : FuncData
  f_law_mix : Addr
  d_law_mix : FuncData
  f_law_digits : Addr
  d_law_digits : FuncData
  f_law_whole : Addr
  d_law_whole : FuncData
  f_law_unlike : Addr
  d_law_unlike : FuncData
  f_law_pairs : Addr
  d_law_pairs : FuncData
  f_law_made : Addr
  d_law_made : FuncData
  f_law_heights : Addr
  d_law_heights : FuncData
  f_law_least : Addr
  d_law_least : FuncData
  f_law_rim_good : Addr
  d_law_rim_good : FuncData
  f_law_asked : Addr
  d_law_asked : FuncData
  f_law_rows : Addr
  d_law_rows : FuncData
  f_law : Addr
  d_law : FuncData
  C_RimError : Addr
  C_TooTall : Addr
  C_Side : Addr
  C_LeftSide : Addr
  C_RightSide : Addr
  C_Picture : Addr
  D_MIRRORED_SIDES : Addr
structure Txt (w : World) (K : PySem.W.Frag) (mg : Str → Option Value) (t : Adr) : Prop where
  g_RimError : mg "RimError" = some (.ref t.C_RimError)
  g_TooTall : mg "TooTall" = some (.ref t.C_TooTall)
  g_Side : mg "Side" = some (.ref t.C_Side)
  g_LeftSide : mg "LeftSide" = some (.ref t.C_LeftSide)
  g_RightSide : mg "RightSide" = some (.ref t.C_RightSide)
  g_Picture : mg "Picture" = some (.ref t.C_Picture)
  F_TooTall_init : Fun K "__init__" "TooTall.__init__" s_TooTall_init t.f_TooTall_init t.d_TooTall_init
  b_TooTall_init : Binds K t.d_TooTall_init ["self", "side"] []
  g_is_whole : mg "is_whole" = some (.ref t.f_is_whole)
  F_is_whole : Fun K "is_whole" "is_whole" s_is_whole t.f_is_whole t.d_is_whole
  b_is_whole : Binds K t.d_is_whole ["thing", "low", "high"] []
  g_is_name : mg "is_name" = some (.ref t.f_is_name)
  F_is_name : Fun K "is_name" "is_name" s_is_name t.f_is_name t.d_is_name
  b_is_name : Binds K t.d_is_name ["thing"] []
  g_least_places : mg "least_places" = some (.ref t.f_least_places)
  F_least_places : Fun K "least_places" "least_places" s_least_places t.f_least_places t.d_least_places
  b_least_places : Binds K t.d_least_places ["notes"] []
  g_ways_with : mg "ways_with" = some (.ref t.f_ways_with)
  F_ways_with : Fun K "ways_with" "ways_with" s_ways_with t.f_ways_with t.d_ways_with
  b_ways_with : Binds K t.d_ways_with ["ways", "note"] []
  g_column_places : mg "column_places" = some (.ref t.f_column_places)
  F_column_places : Fun K "column_places" "column_places" s_column_places t.f_column_places t.d_column_places
  b_column_places : Binds K t.d_column_places ["picture", "pairs", "heights"] []
  g_rim_firsts : mg "rim_firsts" = some (.ref t.f_rim_firsts)
  F_rim_firsts : Fun K "rim_firsts" "rim_firsts" s_rim_firsts t.f_rim_firsts t.d_rim_firsts
  b_rim_firsts : Binds K t.d_rim_firsts ["picture", "pairs", "heights", "rim"] []
  F_Side_init : Fun K "__init__" "Side.__init__" s_Side_init t.f_Side_init t.d_Side_init
  b_Side_init : Binds K t.d_Side_init ["self", "width"] []
  g_side_of : mg "side_of" = some (.ref t.f_side_of)
  F_side_of : Fun K "side_of" "side_of" s_side_of t.f_side_of t.d_side_of
  b_side_of : Binds K t.d_side_of ["word", "width"] []
  F_Picture_init : Fun K "__init__" "Picture.__init__" s_Picture_init t.f_Picture_init t.d_Picture_init
  b_Picture_init : Binds K t.d_Picture_init ["self", "width", "height"] []
  F_Picture_put : FunD K "put" "Picture.put" s_Picture_put t.T_Picture_put t.f_Picture_put t.d_Picture_put
  b_Picture_put_4 : ∃ ds, Vals [.str "both", .int 1, .non] ds ∧ Binds K t.d_Picture_put ["self", "name", "x", "y", "sides", "low", "high"] ds
  b_Picture_put : Binds K t.d_Picture_put ["self", "name", "x", "y", "sides", "low", "high"] []
  F_Picture_open_seat : Fun K "open_seat" "Picture.open_seat" s_Picture_open_seat t.f_Picture_open_seat t.d_Picture_open_seat
  b_Picture_open_seat : Binds K t.d_Picture_open_seat ["self", "side", "row"] []
  F_Picture_points : Fun K "points" "Picture.points" s_Picture_points t.f_Picture_points t.d_Picture_points
  b_Picture_points : Binds K t.d_Picture_points ["self"] []
  F_Picture_check_cell : Fun K "check_cell" "Picture.check_cell" s_Picture_check_cell t.f_Picture_check_cell t.d_Picture_check_cell
  b_Picture_check_cell : Binds K t.d_Picture_check_cell ["self", "x", "y"] []
  F_Picture_check_lines : Fun K "check_lines" "Picture.check_lines" s_Picture_check_lines t.f_Picture_check_lines t.d_Picture_check_lines
  b_Picture_check_lines : Binds K t.d_Picture_check_lines ["self", "name", "x", "y"] []
  F_Picture_check_seat : Fun K "check_seat" "Picture.check_seat" s_Picture_check_seat t.f_Picture_check_seat t.d_Picture_check_seat
  b_Picture_check_seat : Binds K t.d_Picture_check_seat ["self", "side", "row"] []
  g_law_cell : mg "_law_cell" = some (.ref t.f_law_cell)
  F_law_cell : Fun K "_law_cell" "_law_cell" s_law_cell t.f_law_cell t.d_law_cell
  b_law_cell : Binds K t.d_law_cell ["_law_script", "_law_k"] []
  g_law_mix : mg "_law_mix" = some (.ref t.f_law_mix)
  F_law_mix : Fun K "_law_mix" "_law_mix" s_law_mix t.f_law_mix t.d_law_mix
  b_law_mix : Binds K t.d_law_mix ["_law_cell_here", "_law_k"] []
  g_law_digits : mg "_law_digits" = some (.ref t.f_law_digits)
  F_law_digits : Fun K "_law_digits" "_law_digits" s_law_digits t.f_law_digits t.d_law_digits
  b_law_digits : Binds K t.d_law_digits ["_law_cell_here", "_law_k"] []
  g_law_whole : mg "_law_whole" = some (.ref t.f_law_whole)
  F_law_whole : Fun K "_law_whole" "_law_whole" s_law_whole t.f_law_whole t.d_law_whole
  b_law_whole : Binds K t.d_law_whole ["_law_found"] []
  g_law_unlike : mg "_law_unlike" = some (.ref t.f_law_unlike)
  F_law_unlike : Fun K "_law_unlike" "_law_unlike" s_law_unlike t.f_law_unlike t.d_law_unlike
  b_law_unlike : Binds K t.d_law_unlike ["_law_cell_here", "_law_many", "_law_some"] []
  g_law_pairs : mg "_law_pairs" = some (.ref t.f_law_pairs)
  F_law_pairs : Fun K "_law_pairs" "_law_pairs" s_law_pairs t.f_law_pairs t.d_law_pairs
  b_law_pairs : Binds K t.d_law_pairs ["_law_script", "_law_width", "_law_height"] []
  g_law_made : mg "_law_made" = some (.ref t.f_law_made)
  F_law_made : Fun K "_law_made" "_law_made" s_law_made t.f_law_made t.d_law_made
  b_law_made : Binds K t.d_law_made ["_law_script", "_law_width", "_law_height", "_law_pairs_here"] []
  g_law_heights : mg "_law_heights" = some (.ref t.f_law_heights)
  F_law_heights : Fun K "_law_heights" "_law_heights" s_law_heights t.f_law_heights t.d_law_heights
  b_law_heights : Binds K t.d_law_heights ["_law_script", "_law_pairs_here"] []
  g_law_least : mg "_law_least" = some (.ref t.f_law_least)
  F_law_least : Fun K "_law_least" "_law_least" s_law_least t.f_law_least t.d_law_least
  b_law_least : Binds K t.d_law_least ["_law_notes", "_law_height"] []
  g_law_rim_good : mg "_law_rim_good" = some (.ref t.f_law_rim_good)
  F_law_rim_good : Fun K "_law_rim_good" "_law_rim_good" s_law_rim_good t.f_law_rim_good t.d_law_rim_good
  b_law_rim_good : Binds K t.d_law_rim_good ["_law_found", "_law_pairs_here", "_law_side", "_law_height"] []
  g_law_asked : mg "_law_asked" = some (.ref t.f_law_asked)
  F_law_asked : Fun K "_law_asked" "_law_asked" s_law_asked t.f_law_asked t.d_law_asked
  b_law_asked : Binds K t.d_law_asked ["_law_picture", "_law_pairs_here", "_law_heights_here"] []
  g_law_rows : mg "_law_rows" = some (.ref t.f_law_rows)
  F_law_rows : Fun K "_law_rows" "_law_rows" s_law_rows t.f_law_rows t.d_law_rows
  b_law_rows : Binds K t.d_law_rows ["_law_found", "_law_pairs_here", "_law_heights_here"] []
  g_law : mg "law" = some (.ref t.f_law)
  F_law : Fun K "law" "law" s_law t.f_law t.d_law
  b_law : Binds K t.d_law ["_law_script"] []
  x_RimError : XC K t.C_RimError
  mk_RimError : xmkIn K t.C_RimError = true
  x_TooTall : XC K t.C_TooTall
  mk_TooTall : xmkIn K t.C_TooTall = true
  k_TooTall : XMk K t.C_TooTall t.f_TooTall_init
  c_Side : Cls K t.C_Side
  ca_Side : PySem.W.findIn K (.ref t.C_Side) "__class__" = some (some (.builtin "object.__class__"))
  mo_Side : PySem.W.mroIn K t.C_Side (.type "object") = some true
  k_Side : Mk K t.C_Side t.f_Side_init
  c_LeftSide : Cls K t.C_LeftSide
  ca_LeftSide : PySem.W.findIn K (.ref t.C_LeftSide) "__class__" = some (some (.builtin "object.__class__"))
  mo_LeftSide : PySem.W.mroIn K t.C_LeftSide (.type "object") = some true
  k_LeftSide : Mk K t.C_LeftSide t.f_Side_init
  c_RightSide : Cls K t.C_RightSide
  ca_RightSide : PySem.W.findIn K (.ref t.C_RightSide) "__class__" = some (some (.builtin "object.__class__"))
  mo_RightSide : PySem.W.mroIn K t.C_RightSide (.type "object") = some true
  k_RightSide : Mk K t.C_RightSide t.f_Side_init
  c_Picture : Cls K t.C_Picture
  ca_Picture : PySem.W.findIn K (.ref t.C_Picture) "__class__" = some (some (.builtin "object.__class__"))
  mo_Picture : PySem.W.mroIn K t.C_Picture (.type "object") = some true
  k_Picture : Mk K t.C_Picture t.f_Picture_init
  m_Picture_put : Meth K t.C_Picture "put" t.f_Picture_put
  m_Picture_open_seat : Meth K t.C_Picture "open_seat" t.f_Picture_open_seat
  m_Picture_points : Meth K t.C_Picture "points" t.f_Picture_points
  m_Picture_check_cell : Meth K t.C_Picture "check_cell" t.f_Picture_check_cell
  m_Picture_check_lines : Meth K t.C_Picture "check_lines" t.f_Picture_check_lines
  m_Picture_check_seat : Meth K t.C_Picture "check_seat" t.f_Picture_check_seat
  cg : PySem.W.specialIn K (.builtin "object.__class__") "__get__" = some (some (.builtin "getset_descriptor.__get__"))
  ct : PySem.W.takesIn K (.builtin "object.__class__") = some true
  n_Picture_height : PySem.W.findIn K (.ref t.C_Picture) "height" = some none
  n_Picture_width : PySem.W.findIn K (.ref t.C_Picture) "width" = some none
  n_Picture_placed : PySem.W.findIn K (.ref t.C_Picture) "placed" = some none
  n_Picture_opened : PySem.W.findIn K (.ref t.C_Picture) "opened" = some none
  n_TooTall_side : PySem.W.findIn K (.ref t.C_TooTall) "side" = some none
  n_Side_width : PySem.W.findIn K (.ref t.C_Side) "width" = some none
  n_LeftSide_width : PySem.W.findIn K (.ref t.C_LeftSide) "width" = some none
  n_RightSide_width : PySem.W.findIn K (.ref t.C_RightSide) "width" = some none
  n_abs : mg "abs" = none
  n_bool : mg "bool" = none
  n_dict : mg "dict" = none
  n_int : mg "int" = none
  n_isinstance : mg "isinstance" = none
  n_len : mg "len" = none
  n_list : mg "list" = none
  n_min : mg "min" = none
  n_range : mg "range" = none
  n_sorted : mg "sorted" = none
  n_str : mg "str" = none
  n_sum : mg "sum" = none
  n_tuple : mg "tuple" = none
  n_zip : mg "zip" = none
  mro_TooTall : PySem.W.mroIn K t.C_TooTall (.ref t.C_TooTall) = some true
  v_MOST_ROWS : ∃ tk, mg "MOST_ROWS" = some (.int 16 tk)
  v_MOST_COLUMNS : ∃ tk, mg "MOST_COLUMNS" = some (.int 30 tk)
  v_MOST_POINTS : ∃ tk, mg "MOST_POINTS" = some (.int 12 tk)
  g_MIRRORED_SIDES : mg "MIRRORED_SIDES" = some (.ref t.D_MIRRORED_SIDES)
  D_MIRRORED_SIDES : GDict w K t.D_MIRRORED_SIDES [(.inr "left", .str "right"), (.inr "right", .str "left"), (.inr "both", .str "both")]
  v_FARTHEST : ∃ tk, mg "FARTHEST" = some (.int 99 tk)
@[elab_as_elim] theorem len_1 {α : Type} {P : List α → Prop} : (us : List α) → us.length = 1 → (∀ a0, P [a0]) → P us
  | [a0], _, h => h a0
@[elab_as_elim] theorem len_2 {α : Type} {P : List α → Prop} : (us : List α) → us.length = 2 → (∀ a0 a1, P [a0, a1]) → P us
  | [a0, a1], _, h => h a0 a1
@[elab_as_elim] theorem len_3 {α : Type} {P : List α → Prop} : (us : List α) → us.length = 3 → (∀ a0 a1 a2, P [a0, a1, a2]) → P us
  | [a0, a1, a2], _, h => h a0 a1 a2
@[elab_as_elim] theorem len_4 {α : Type} {P : List α → Prop} : (us : List α) → us.length = 4 → (∀ a0 a1 a2 a3, P [a0, a1, a2, a3]) → P us
  | [a0, a1, a2, a3], _, h => h a0 a1 a2 a3
@[elab_as_elim] theorem len_7 {α : Type} {P : List α → Prop} : (us : List α) → us.length = 7 → (∀ a0 a1 a2 a3 a4 a5 a6, P [a0, a1, a2, a3, a4, a5, a6]) → P us
  | [a0, a1, a2, a3, a4, a5, a6], _, h => h a0 a1 a2 a3 a4 a5 a6
theorem txt_mk {w : World} {K : PySem.W.Frag} {h : Heap} {mg : Str → Option Value} (X : K.In h) (G : h.Ns mainGlobals mg) {C_RimError C_TooTall C_Side C_LeftSide C_RightSide C_Picture f_TooTall_init f_is_whole f_is_name f_least_places f_ways_with f_column_places f_rim_firsts f_Side_init f_side_of f_Picture_init f_Picture_put T_Picture_put f_Picture_open_seat f_Picture_points f_Picture_check_cell f_Picture_check_lines f_Picture_check_seat f_law_cell f_law_mix f_law_digits f_law_whole f_law_unlike f_law_pairs f_law_made f_law_heights f_law_least f_law_rim_good f_law_asked f_law_rows f_law : Addr} {oc_TooTall_init kv_TooTall_init dc_TooTall_init pm_TooTall_init cd_TooTall_init ct_TooTall_init : Value} {od_TooTall_init an_TooTall_init : Option Addr} {sl_TooTall_init : Array (Option Value)} {oc_is_whole kv_is_whole dc_is_whole pm_is_whole cd_is_whole ct_is_whole : Value} {od_is_whole an_is_whole : Option Addr} {sl_is_whole : Array (Option Value)} {oc_is_name kv_is_name dc_is_name pm_is_name cd_is_name ct_is_name : Value} {od_is_name an_is_name : Option Addr} {sl_is_name : Array (Option Value)} {oc_least_places kv_least_places dc_least_places pm_least_places cd_least_places ct_least_places : Value} {od_least_places an_least_places : Option Addr} {sl_least_places : Array (Option Value)} {oc_ways_with kv_ways_with dc_ways_with pm_ways_with cd_ways_with ct_ways_with : Value} {od_ways_with an_ways_with : Option Addr} {sl_ways_with : Array (Option Value)} {oc_column_places kv_column_places dc_column_places pm_column_places cd_column_places ct_column_places : Value} {od_column_places an_column_places : Option Addr} {sl_column_places : Array (Option Value)} {oc_rim_firsts kv_rim_firsts dc_rim_firsts pm_rim_firsts cd_rim_firsts ct_rim_firsts : Value} {od_rim_firsts an_rim_firsts : Option Addr} {sl_rim_firsts : Array (Option Value)} {oc_Side_init kv_Side_init dc_Side_init pm_Side_init cd_Side_init ct_Side_init : Value} {od_Side_init an_Side_init : Option Addr} {sl_Side_init : Array (Option Value)} {oc_side_of kv_side_of dc_side_of pm_side_of cd_side_of ct_side_of : Value} {od_side_of an_side_of : Option Addr} {sl_side_of : Array (Option Value)} {oc_Picture_init kv_Picture_init dc_Picture_init pm_Picture_init cd_Picture_init ct_Picture_init : Value} {od_Picture_init an_Picture_init : Option Addr} {sl_Picture_init : Array (Option Value)} {oc_Picture_put kv_Picture_put dc_Picture_put pm_Picture_put cd_Picture_put ct_Picture_put : Value} {od_Picture_put an_Picture_put : Option Addr} {sl_Picture_put : Array (Option Value)} {oc_Picture_open_seat kv_Picture_open_seat dc_Picture_open_seat pm_Picture_open_seat cd_Picture_open_seat ct_Picture_open_seat : Value} {od_Picture_open_seat an_Picture_open_seat : Option Addr} {sl_Picture_open_seat : Array (Option Value)} {oc_Picture_points kv_Picture_points dc_Picture_points pm_Picture_points cd_Picture_points ct_Picture_points : Value} {od_Picture_points an_Picture_points : Option Addr} {sl_Picture_points : Array (Option Value)} {oc_Picture_check_cell kv_Picture_check_cell dc_Picture_check_cell pm_Picture_check_cell cd_Picture_check_cell ct_Picture_check_cell : Value} {od_Picture_check_cell an_Picture_check_cell : Option Addr} {sl_Picture_check_cell : Array (Option Value)} {oc_Picture_check_lines kv_Picture_check_lines dc_Picture_check_lines pm_Picture_check_lines cd_Picture_check_lines ct_Picture_check_lines : Value} {od_Picture_check_lines an_Picture_check_lines : Option Addr} {sl_Picture_check_lines : Array (Option Value)} {oc_Picture_check_seat kv_Picture_check_seat dc_Picture_check_seat pm_Picture_check_seat cd_Picture_check_seat ct_Picture_check_seat : Value} {od_Picture_check_seat an_Picture_check_seat : Option Addr} {sl_Picture_check_seat : Array (Option Value)} {oc_law_cell kv_law_cell dc_law_cell pm_law_cell cd_law_cell ct_law_cell : Value} {od_law_cell an_law_cell : Option Addr} {sl_law_cell : Array (Option Value)} {oc_law_mix kv_law_mix dc_law_mix pm_law_mix cd_law_mix ct_law_mix : Value} {od_law_mix an_law_mix : Option Addr} {sl_law_mix : Array (Option Value)} {oc_law_digits kv_law_digits dc_law_digits pm_law_digits cd_law_digits ct_law_digits : Value} {od_law_digits an_law_digits : Option Addr} {sl_law_digits : Array (Option Value)} {oc_law_whole kv_law_whole dc_law_whole pm_law_whole cd_law_whole ct_law_whole : Value} {od_law_whole an_law_whole : Option Addr} {sl_law_whole : Array (Option Value)} {oc_law_unlike kv_law_unlike dc_law_unlike pm_law_unlike cd_law_unlike ct_law_unlike : Value} {od_law_unlike an_law_unlike : Option Addr} {sl_law_unlike : Array (Option Value)} {oc_law_pairs kv_law_pairs dc_law_pairs pm_law_pairs cd_law_pairs ct_law_pairs : Value} {od_law_pairs an_law_pairs : Option Addr} {sl_law_pairs : Array (Option Value)} {oc_law_made kv_law_made dc_law_made pm_law_made cd_law_made ct_law_made : Value} {od_law_made an_law_made : Option Addr} {sl_law_made : Array (Option Value)} {oc_law_heights kv_law_heights dc_law_heights pm_law_heights cd_law_heights ct_law_heights : Value} {od_law_heights an_law_heights : Option Addr} {sl_law_heights : Array (Option Value)} {oc_law_least kv_law_least dc_law_least pm_law_least cd_law_least ct_law_least : Value} {od_law_least an_law_least : Option Addr} {sl_law_least : Array (Option Value)} {oc_law_rim_good kv_law_rim_good dc_law_rim_good pm_law_rim_good cd_law_rim_good ct_law_rim_good : Value} {od_law_rim_good an_law_rim_good : Option Addr} {sl_law_rim_good : Array (Option Value)} {oc_law_asked kv_law_asked dc_law_asked pm_law_asked cd_law_asked ct_law_asked : Value} {od_law_asked an_law_asked : Option Addr} {sl_law_asked : Array (Option Value)} {oc_law_rows kv_law_rows dc_law_rows pm_law_rows cd_law_rows ct_law_rows : Value} {od_law_rows an_law_rows : Option Addr} {sl_law_rows : Array (Option Value)} {oc_law kv_law dc_law pm_law cd_law ct_law : Value} {od_law an_law : Option Addr} {sl_law : Array (Option Value)} {tk0_Picture_put : Tok} {tk1_Picture_put : Tok} {toc_Picture_put : Value} {tod_Picture_put : Option Addr} {tn_Picture_put : Nat} {tsl_Picture_put : Array (Option Value)} {tkc_MOST_ROWS : Tok} {tkc_MOST_COLUMNS : Tok} {tkc_MOST_POINTS : Tok} {D_MIRRORED_SIDES : Addr} {ta0_MIRRORED_SIDES tb0_MIRRORED_SIDES : Tok} {ta1_MIRRORED_SIDES tb1_MIRRORED_SIDES : Tok} {ta2_MIRRORED_SIDES tb2_MIRRORED_SIDES : Tok} {ep_MIRRORED_SIDES : Nat} {tkc_FARTHEST : Tok}
    (g_RimError : PySem.W.nsIn K mainGlobals "RimError" = some (some (.ref C_RimError)))
    (g_TooTall : PySem.W.nsIn K mainGlobals "TooTall" = some (some (.ref C_TooTall)))
    (g_Side : PySem.W.nsIn K mainGlobals "Side" = some (some (.ref C_Side)))
    (g_LeftSide : PySem.W.nsIn K mainGlobals "LeftSide" = some (some (.ref C_LeftSide)))
    (g_RightSide : PySem.W.nsIn K mainGlobals "RightSide" = some (some (.ref C_RightSide)))
    (g_Picture : PySem.W.nsIn K mainGlobals "Picture" = some (some (.ref C_Picture)))
    (a_TooTall_init : PySem.W.findIn K (.ref C_TooTall) "__init__" = some (some (.ref f_TooTall_init)))
    (l_TooTall_init : K.lookup f_TooTall_init = some ⟨oc_TooTall_init, od_TooTall_init, .func (PySem.W.fnOf "__init__" "TooTall.__init__" (defArgs s_TooTall_init) (defBody s_TooTall_init) (defScope s_TooTall_init) .none kv_TooTall_init dc_TooTall_init pm_TooTall_init an_TooTall_init cd_TooTall_init ct_TooTall_init), sl_TooTall_init⟩)
    (c_TooTall_init : PySem.W.codeIn K cd_TooTall_init "TooTall.__init__" = true)
    (k_TooTall_init : PySem.W.keepIn K (.ref f_TooTall_init) = true)
    (i_TooTall_init : PySem.W.isFn K (.ref f_TooTall_init) = true)
    (a_is_whole : PySem.W.nsIn K mainGlobals "is_whole" = some (some (.ref f_is_whole)))
    (l_is_whole : K.lookup f_is_whole = some ⟨oc_is_whole, od_is_whole, .func (PySem.W.fnOf "is_whole" "is_whole" (defArgs s_is_whole) (defBody s_is_whole) (defScope s_is_whole) .none kv_is_whole dc_is_whole pm_is_whole an_is_whole cd_is_whole ct_is_whole), sl_is_whole⟩)
    (c_is_whole : PySem.W.codeIn K cd_is_whole "is_whole" = true)
    (k_is_whole : PySem.W.keepIn K (.ref f_is_whole) = true)
    (i_is_whole : PySem.W.isFn K (.ref f_is_whole) = true)
    (a_is_name : PySem.W.nsIn K mainGlobals "is_name" = some (some (.ref f_is_name)))
    (l_is_name : K.lookup f_is_name = some ⟨oc_is_name, od_is_name, .func (PySem.W.fnOf "is_name" "is_name" (defArgs s_is_name) (defBody s_is_name) (defScope s_is_name) .none kv_is_name dc_is_name pm_is_name an_is_name cd_is_name ct_is_name), sl_is_name⟩)
    (c_is_name : PySem.W.codeIn K cd_is_name "is_name" = true)
    (k_is_name : PySem.W.keepIn K (.ref f_is_name) = true)
    (i_is_name : PySem.W.isFn K (.ref f_is_name) = true)
    (a_least_places : PySem.W.nsIn K mainGlobals "least_places" = some (some (.ref f_least_places)))
    (l_least_places : K.lookup f_least_places = some ⟨oc_least_places, od_least_places, .func (PySem.W.fnOf "least_places" "least_places" (defArgs s_least_places) (defBody s_least_places) (defScope s_least_places) .none kv_least_places dc_least_places pm_least_places an_least_places cd_least_places ct_least_places), sl_least_places⟩)
    (c_least_places : PySem.W.codeIn K cd_least_places "least_places" = true)
    (k_least_places : PySem.W.keepIn K (.ref f_least_places) = true)
    (i_least_places : PySem.W.isFn K (.ref f_least_places) = true)
    (a_ways_with : PySem.W.nsIn K mainGlobals "ways_with" = some (some (.ref f_ways_with)))
    (l_ways_with : K.lookup f_ways_with = some ⟨oc_ways_with, od_ways_with, .func (PySem.W.fnOf "ways_with" "ways_with" (defArgs s_ways_with) (defBody s_ways_with) (defScope s_ways_with) .none kv_ways_with dc_ways_with pm_ways_with an_ways_with cd_ways_with ct_ways_with), sl_ways_with⟩)
    (c_ways_with : PySem.W.codeIn K cd_ways_with "ways_with" = true)
    (k_ways_with : PySem.W.keepIn K (.ref f_ways_with) = true)
    (i_ways_with : PySem.W.isFn K (.ref f_ways_with) = true)
    (a_column_places : PySem.W.nsIn K mainGlobals "column_places" = some (some (.ref f_column_places)))
    (l_column_places : K.lookup f_column_places = some ⟨oc_column_places, od_column_places, .func (PySem.W.fnOf "column_places" "column_places" (defArgs s_column_places) (defBody s_column_places) (defScope s_column_places) .none kv_column_places dc_column_places pm_column_places an_column_places cd_column_places ct_column_places), sl_column_places⟩)
    (c_column_places : PySem.W.codeIn K cd_column_places "column_places" = true)
    (k_column_places : PySem.W.keepIn K (.ref f_column_places) = true)
    (i_column_places : PySem.W.isFn K (.ref f_column_places) = true)
    (a_rim_firsts : PySem.W.nsIn K mainGlobals "rim_firsts" = some (some (.ref f_rim_firsts)))
    (l_rim_firsts : K.lookup f_rim_firsts = some ⟨oc_rim_firsts, od_rim_firsts, .func (PySem.W.fnOf "rim_firsts" "rim_firsts" (defArgs s_rim_firsts) (defBody s_rim_firsts) (defScope s_rim_firsts) .none kv_rim_firsts dc_rim_firsts pm_rim_firsts an_rim_firsts cd_rim_firsts ct_rim_firsts), sl_rim_firsts⟩)
    (c_rim_firsts : PySem.W.codeIn K cd_rim_firsts "rim_firsts" = true)
    (k_rim_firsts : PySem.W.keepIn K (.ref f_rim_firsts) = true)
    (i_rim_firsts : PySem.W.isFn K (.ref f_rim_firsts) = true)
    (a_Side_init : PySem.W.findIn K (.ref C_Side) "__init__" = some (some (.ref f_Side_init)))
    (l_Side_init : K.lookup f_Side_init = some ⟨oc_Side_init, od_Side_init, .func (PySem.W.fnOf "__init__" "Side.__init__" (defArgs s_Side_init) (defBody s_Side_init) (defScope s_Side_init) .none kv_Side_init dc_Side_init pm_Side_init an_Side_init cd_Side_init ct_Side_init), sl_Side_init⟩)
    (c_Side_init : PySem.W.codeIn K cd_Side_init "Side.__init__" = true)
    (k_Side_init : PySem.W.keepIn K (.ref f_Side_init) = true)
    (i_Side_init : PySem.W.isFn K (.ref f_Side_init) = true)
    (a_side_of : PySem.W.nsIn K mainGlobals "side_of" = some (some (.ref f_side_of)))
    (l_side_of : K.lookup f_side_of = some ⟨oc_side_of, od_side_of, .func (PySem.W.fnOf "side_of" "side_of" (defArgs s_side_of) (defBody s_side_of) (defScope s_side_of) .none kv_side_of dc_side_of pm_side_of an_side_of cd_side_of ct_side_of), sl_side_of⟩)
    (c_side_of : PySem.W.codeIn K cd_side_of "side_of" = true)
    (k_side_of : PySem.W.keepIn K (.ref f_side_of) = true)
    (i_side_of : PySem.W.isFn K (.ref f_side_of) = true)
    (a_Picture_init : PySem.W.findIn K (.ref C_Picture) "__init__" = some (some (.ref f_Picture_init)))
    (l_Picture_init : K.lookup f_Picture_init = some ⟨oc_Picture_init, od_Picture_init, .func (PySem.W.fnOf "__init__" "Picture.__init__" (defArgs s_Picture_init) (defBody s_Picture_init) (defScope s_Picture_init) .none kv_Picture_init dc_Picture_init pm_Picture_init an_Picture_init cd_Picture_init ct_Picture_init), sl_Picture_init⟩)
    (c_Picture_init : PySem.W.codeIn K cd_Picture_init "Picture.__init__" = true)
    (k_Picture_init : PySem.W.keepIn K (.ref f_Picture_init) = true)
    (i_Picture_init : PySem.W.isFn K (.ref f_Picture_init) = true)
    (a_Picture_put : PySem.W.findIn K (.ref C_Picture) "put" = some (some (.ref f_Picture_put)))
    (l_Picture_put : K.lookup f_Picture_put = some ⟨oc_Picture_put, od_Picture_put, .func (PySem.W.fnOf "put" "Picture.put" (defArgs s_Picture_put) (defBody s_Picture_put) (defScope s_Picture_put) (.ref T_Picture_put) kv_Picture_put dc_Picture_put pm_Picture_put an_Picture_put cd_Picture_put ct_Picture_put), sl_Picture_put⟩)
    (c_Picture_put : PySem.W.codeIn K cd_Picture_put "Picture.put" = true)
    (k_Picture_put : PySem.W.keepIn K (.ref f_Picture_put) = true)
    (i_Picture_put : PySem.W.isFn K (.ref f_Picture_put) = true)
    (t_Picture_put : K.lookup T_Picture_put = some ⟨toc_Picture_put, tod_Picture_put, .seq #[.str "both" tk0_Picture_put, .int 1 tk1_Picture_put, .none] tn_Picture_put, tsl_Picture_put⟩)
    (a_Picture_open_seat : PySem.W.findIn K (.ref C_Picture) "open_seat" = some (some (.ref f_Picture_open_seat)))
    (l_Picture_open_seat : K.lookup f_Picture_open_seat = some ⟨oc_Picture_open_seat, od_Picture_open_seat, .func (PySem.W.fnOf "open_seat" "Picture.open_seat" (defArgs s_Picture_open_seat) (defBody s_Picture_open_seat) (defScope s_Picture_open_seat) .none kv_Picture_open_seat dc_Picture_open_seat pm_Picture_open_seat an_Picture_open_seat cd_Picture_open_seat ct_Picture_open_seat), sl_Picture_open_seat⟩)
    (c_Picture_open_seat : PySem.W.codeIn K cd_Picture_open_seat "Picture.open_seat" = true)
    (k_Picture_open_seat : PySem.W.keepIn K (.ref f_Picture_open_seat) = true)
    (i_Picture_open_seat : PySem.W.isFn K (.ref f_Picture_open_seat) = true)
    (a_Picture_points : PySem.W.findIn K (.ref C_Picture) "points" = some (some (.ref f_Picture_points)))
    (l_Picture_points : K.lookup f_Picture_points = some ⟨oc_Picture_points, od_Picture_points, .func (PySem.W.fnOf "points" "Picture.points" (defArgs s_Picture_points) (defBody s_Picture_points) (defScope s_Picture_points) .none kv_Picture_points dc_Picture_points pm_Picture_points an_Picture_points cd_Picture_points ct_Picture_points), sl_Picture_points⟩)
    (c_Picture_points : PySem.W.codeIn K cd_Picture_points "Picture.points" = true)
    (k_Picture_points : PySem.W.keepIn K (.ref f_Picture_points) = true)
    (i_Picture_points : PySem.W.isFn K (.ref f_Picture_points) = true)
    (a_Picture_check_cell : PySem.W.findIn K (.ref C_Picture) "check_cell" = some (some (.ref f_Picture_check_cell)))
    (l_Picture_check_cell : K.lookup f_Picture_check_cell = some ⟨oc_Picture_check_cell, od_Picture_check_cell, .func (PySem.W.fnOf "check_cell" "Picture.check_cell" (defArgs s_Picture_check_cell) (defBody s_Picture_check_cell) (defScope s_Picture_check_cell) .none kv_Picture_check_cell dc_Picture_check_cell pm_Picture_check_cell an_Picture_check_cell cd_Picture_check_cell ct_Picture_check_cell), sl_Picture_check_cell⟩)
    (c_Picture_check_cell : PySem.W.codeIn K cd_Picture_check_cell "Picture.check_cell" = true)
    (k_Picture_check_cell : PySem.W.keepIn K (.ref f_Picture_check_cell) = true)
    (i_Picture_check_cell : PySem.W.isFn K (.ref f_Picture_check_cell) = true)
    (a_Picture_check_lines : PySem.W.findIn K (.ref C_Picture) "check_lines" = some (some (.ref f_Picture_check_lines)))
    (l_Picture_check_lines : K.lookup f_Picture_check_lines = some ⟨oc_Picture_check_lines, od_Picture_check_lines, .func (PySem.W.fnOf "check_lines" "Picture.check_lines" (defArgs s_Picture_check_lines) (defBody s_Picture_check_lines) (defScope s_Picture_check_lines) .none kv_Picture_check_lines dc_Picture_check_lines pm_Picture_check_lines an_Picture_check_lines cd_Picture_check_lines ct_Picture_check_lines), sl_Picture_check_lines⟩)
    (c_Picture_check_lines : PySem.W.codeIn K cd_Picture_check_lines "Picture.check_lines" = true)
    (k_Picture_check_lines : PySem.W.keepIn K (.ref f_Picture_check_lines) = true)
    (i_Picture_check_lines : PySem.W.isFn K (.ref f_Picture_check_lines) = true)
    (a_Picture_check_seat : PySem.W.findIn K (.ref C_Picture) "check_seat" = some (some (.ref f_Picture_check_seat)))
    (l_Picture_check_seat : K.lookup f_Picture_check_seat = some ⟨oc_Picture_check_seat, od_Picture_check_seat, .func (PySem.W.fnOf "check_seat" "Picture.check_seat" (defArgs s_Picture_check_seat) (defBody s_Picture_check_seat) (defScope s_Picture_check_seat) .none kv_Picture_check_seat dc_Picture_check_seat pm_Picture_check_seat an_Picture_check_seat cd_Picture_check_seat ct_Picture_check_seat), sl_Picture_check_seat⟩)
    (c_Picture_check_seat : PySem.W.codeIn K cd_Picture_check_seat "Picture.check_seat" = true)
    (k_Picture_check_seat : PySem.W.keepIn K (.ref f_Picture_check_seat) = true)
    (i_Picture_check_seat : PySem.W.isFn K (.ref f_Picture_check_seat) = true)
    (a_law_cell : PySem.W.nsIn K mainGlobals "_law_cell" = some (some (.ref f_law_cell)))
    (l_law_cell : K.lookup f_law_cell = some ⟨oc_law_cell, od_law_cell, .func (PySem.W.fnOf "_law_cell" "_law_cell" (defArgs s_law_cell) (defBody s_law_cell) (defScope s_law_cell) .none kv_law_cell dc_law_cell pm_law_cell an_law_cell cd_law_cell ct_law_cell), sl_law_cell⟩)
    (c_law_cell : PySem.W.codeIn K cd_law_cell "_law_cell" = true)
    (k_law_cell : PySem.W.keepIn K (.ref f_law_cell) = true)
    (i_law_cell : PySem.W.isFn K (.ref f_law_cell) = true)
    (a_law_mix : PySem.W.nsIn K mainGlobals "_law_mix" = some (some (.ref f_law_mix)))
    (l_law_mix : K.lookup f_law_mix = some ⟨oc_law_mix, od_law_mix, .func (PySem.W.fnOf "_law_mix" "_law_mix" (defArgs s_law_mix) (defBody s_law_mix) (defScope s_law_mix) .none kv_law_mix dc_law_mix pm_law_mix an_law_mix cd_law_mix ct_law_mix), sl_law_mix⟩)
    (c_law_mix : PySem.W.codeIn K cd_law_mix "_law_mix" = true)
    (k_law_mix : PySem.W.keepIn K (.ref f_law_mix) = true)
    (i_law_mix : PySem.W.isFn K (.ref f_law_mix) = true)
    (a_law_digits : PySem.W.nsIn K mainGlobals "_law_digits" = some (some (.ref f_law_digits)))
    (l_law_digits : K.lookup f_law_digits = some ⟨oc_law_digits, od_law_digits, .func (PySem.W.fnOf "_law_digits" "_law_digits" (defArgs s_law_digits) (defBody s_law_digits) (defScope s_law_digits) .none kv_law_digits dc_law_digits pm_law_digits an_law_digits cd_law_digits ct_law_digits), sl_law_digits⟩)
    (c_law_digits : PySem.W.codeIn K cd_law_digits "_law_digits" = true)
    (k_law_digits : PySem.W.keepIn K (.ref f_law_digits) = true)
    (i_law_digits : PySem.W.isFn K (.ref f_law_digits) = true)
    (a_law_whole : PySem.W.nsIn K mainGlobals "_law_whole" = some (some (.ref f_law_whole)))
    (l_law_whole : K.lookup f_law_whole = some ⟨oc_law_whole, od_law_whole, .func (PySem.W.fnOf "_law_whole" "_law_whole" (defArgs s_law_whole) (defBody s_law_whole) (defScope s_law_whole) .none kv_law_whole dc_law_whole pm_law_whole an_law_whole cd_law_whole ct_law_whole), sl_law_whole⟩)
    (c_law_whole : PySem.W.codeIn K cd_law_whole "_law_whole" = true)
    (k_law_whole : PySem.W.keepIn K (.ref f_law_whole) = true)
    (i_law_whole : PySem.W.isFn K (.ref f_law_whole) = true)
    (a_law_unlike : PySem.W.nsIn K mainGlobals "_law_unlike" = some (some (.ref f_law_unlike)))
    (l_law_unlike : K.lookup f_law_unlike = some ⟨oc_law_unlike, od_law_unlike, .func (PySem.W.fnOf "_law_unlike" "_law_unlike" (defArgs s_law_unlike) (defBody s_law_unlike) (defScope s_law_unlike) .none kv_law_unlike dc_law_unlike pm_law_unlike an_law_unlike cd_law_unlike ct_law_unlike), sl_law_unlike⟩)
    (c_law_unlike : PySem.W.codeIn K cd_law_unlike "_law_unlike" = true)
    (k_law_unlike : PySem.W.keepIn K (.ref f_law_unlike) = true)
    (i_law_unlike : PySem.W.isFn K (.ref f_law_unlike) = true)
    (a_law_pairs : PySem.W.nsIn K mainGlobals "_law_pairs" = some (some (.ref f_law_pairs)))
    (l_law_pairs : K.lookup f_law_pairs = some ⟨oc_law_pairs, od_law_pairs, .func (PySem.W.fnOf "_law_pairs" "_law_pairs" (defArgs s_law_pairs) (defBody s_law_pairs) (defScope s_law_pairs) .none kv_law_pairs dc_law_pairs pm_law_pairs an_law_pairs cd_law_pairs ct_law_pairs), sl_law_pairs⟩)
    (c_law_pairs : PySem.W.codeIn K cd_law_pairs "_law_pairs" = true)
    (k_law_pairs : PySem.W.keepIn K (.ref f_law_pairs) = true)
    (i_law_pairs : PySem.W.isFn K (.ref f_law_pairs) = true)
    (a_law_made : PySem.W.nsIn K mainGlobals "_law_made" = some (some (.ref f_law_made)))
    (l_law_made : K.lookup f_law_made = some ⟨oc_law_made, od_law_made, .func (PySem.W.fnOf "_law_made" "_law_made" (defArgs s_law_made) (defBody s_law_made) (defScope s_law_made) .none kv_law_made dc_law_made pm_law_made an_law_made cd_law_made ct_law_made), sl_law_made⟩)
    (c_law_made : PySem.W.codeIn K cd_law_made "_law_made" = true)
    (k_law_made : PySem.W.keepIn K (.ref f_law_made) = true)
    (i_law_made : PySem.W.isFn K (.ref f_law_made) = true)
    (a_law_heights : PySem.W.nsIn K mainGlobals "_law_heights" = some (some (.ref f_law_heights)))
    (l_law_heights : K.lookup f_law_heights = some ⟨oc_law_heights, od_law_heights, .func (PySem.W.fnOf "_law_heights" "_law_heights" (defArgs s_law_heights) (defBody s_law_heights) (defScope s_law_heights) .none kv_law_heights dc_law_heights pm_law_heights an_law_heights cd_law_heights ct_law_heights), sl_law_heights⟩)
    (c_law_heights : PySem.W.codeIn K cd_law_heights "_law_heights" = true)
    (k_law_heights : PySem.W.keepIn K (.ref f_law_heights) = true)
    (i_law_heights : PySem.W.isFn K (.ref f_law_heights) = true)
    (a_law_least : PySem.W.nsIn K mainGlobals "_law_least" = some (some (.ref f_law_least)))
    (l_law_least : K.lookup f_law_least = some ⟨oc_law_least, od_law_least, .func (PySem.W.fnOf "_law_least" "_law_least" (defArgs s_law_least) (defBody s_law_least) (defScope s_law_least) .none kv_law_least dc_law_least pm_law_least an_law_least cd_law_least ct_law_least), sl_law_least⟩)
    (c_law_least : PySem.W.codeIn K cd_law_least "_law_least" = true)
    (k_law_least : PySem.W.keepIn K (.ref f_law_least) = true)
    (i_law_least : PySem.W.isFn K (.ref f_law_least) = true)
    (a_law_rim_good : PySem.W.nsIn K mainGlobals "_law_rim_good" = some (some (.ref f_law_rim_good)))
    (l_law_rim_good : K.lookup f_law_rim_good = some ⟨oc_law_rim_good, od_law_rim_good, .func (PySem.W.fnOf "_law_rim_good" "_law_rim_good" (defArgs s_law_rim_good) (defBody s_law_rim_good) (defScope s_law_rim_good) .none kv_law_rim_good dc_law_rim_good pm_law_rim_good an_law_rim_good cd_law_rim_good ct_law_rim_good), sl_law_rim_good⟩)
    (c_law_rim_good : PySem.W.codeIn K cd_law_rim_good "_law_rim_good" = true)
    (k_law_rim_good : PySem.W.keepIn K (.ref f_law_rim_good) = true)
    (i_law_rim_good : PySem.W.isFn K (.ref f_law_rim_good) = true)
    (a_law_asked : PySem.W.nsIn K mainGlobals "_law_asked" = some (some (.ref f_law_asked)))
    (l_law_asked : K.lookup f_law_asked = some ⟨oc_law_asked, od_law_asked, .func (PySem.W.fnOf "_law_asked" "_law_asked" (defArgs s_law_asked) (defBody s_law_asked) (defScope s_law_asked) .none kv_law_asked dc_law_asked pm_law_asked an_law_asked cd_law_asked ct_law_asked), sl_law_asked⟩)
    (c_law_asked : PySem.W.codeIn K cd_law_asked "_law_asked" = true)
    (k_law_asked : PySem.W.keepIn K (.ref f_law_asked) = true)
    (i_law_asked : PySem.W.isFn K (.ref f_law_asked) = true)
    (a_law_rows : PySem.W.nsIn K mainGlobals "_law_rows" = some (some (.ref f_law_rows)))
    (l_law_rows : K.lookup f_law_rows = some ⟨oc_law_rows, od_law_rows, .func (PySem.W.fnOf "_law_rows" "_law_rows" (defArgs s_law_rows) (defBody s_law_rows) (defScope s_law_rows) .none kv_law_rows dc_law_rows pm_law_rows an_law_rows cd_law_rows ct_law_rows), sl_law_rows⟩)
    (c_law_rows : PySem.W.codeIn K cd_law_rows "_law_rows" = true)
    (k_law_rows : PySem.W.keepIn K (.ref f_law_rows) = true)
    (i_law_rows : PySem.W.isFn K (.ref f_law_rows) = true)
    (a_law : PySem.W.nsIn K mainGlobals "law" = some (some (.ref f_law)))
    (l_law : K.lookup f_law = some ⟨oc_law, od_law, .func (PySem.W.fnOf "law" "law" (defArgs s_law) (defBody s_law) (defScope s_law) .none kv_law dc_law pm_law an_law cd_law ct_law), sl_law⟩)
    (c_law : PySem.W.codeIn K cd_law "law" = true)
    (k_law : PySem.W.keepIn K (.ref f_law) = true)
    (i_law : PySem.W.isFn K (.ref f_law) = true)
    (kc_RimError : PySem.W.keepIn K (.ref C_RimError) = true)
    (ov_RimError : excOver K C_RimError = true)
    (hd_RimError : PySem.W.hasDictIn K C_RimError = true)
    (sa_RimError : PySem.W.findIn K (.ref C_RimError) "__setattr__" = some (some (.builtin "object.__setattr__")))
    (ga_RimError : PySem.W.findIn K (.ref C_RimError) "__getattribute__" = some (some (.builtin "BaseException.__getattribute__")))
    (gh_RimError : PySem.W.findIn K (.ref C_RimError) "__getattr__" = some none)
    (ca_RimError : PySem.W.findIn K (.ref C_RimError) "__class__" = some (some (.builtin "object.__class__")))
    (mk_RimError : xmkIn K C_RimError = true)
    (kc_TooTall : PySem.W.keepIn K (.ref C_TooTall) = true)
    (ov_TooTall : excOver K C_TooTall = true)
    (hd_TooTall : PySem.W.hasDictIn K C_TooTall = true)
    (sa_TooTall : PySem.W.findIn K (.ref C_TooTall) "__setattr__" = some (some (.builtin "object.__setattr__")))
    (ga_TooTall : PySem.W.findIn K (.ref C_TooTall) "__getattribute__" = some (some (.builtin "BaseException.__getattribute__")))
    (gh_TooTall : PySem.W.findIn K (.ref C_TooTall) "__getattr__" = some none)
    (ca_TooTall : PySem.W.findIn K (.ref C_TooTall) "__class__" = some (some (.builtin "object.__class__")))
    (mk_TooTall : xmkIn K C_TooTall = true)
    (kc_Side : PySem.W.keepIn K (.ref C_Side) = true)
    (pg_Side : PySem.W.plainGet K C_Side Str.empty = true)
    (hd_Side : PySem.W.hasDictIn K C_Side = true)
    (po_Side : PySem.W.plainOver K C_Side = true)
    (sa_Side : PySem.W.findIn K (.ref C_Side) "__setattr__" = some (some (.builtin "object.__setattr__")))
    (mk_Side : PySem.W.makesIn K C_Side = true)
    (ca_Side : PySem.W.findIn K (.ref C_Side) "__class__" = some (some (.builtin "object.__class__")))
    (mo_Side : PySem.W.mroIn K C_Side (.type "object") = some true)
    (kc_LeftSide : PySem.W.keepIn K (.ref C_LeftSide) = true)
    (pg_LeftSide : PySem.W.plainGet K C_LeftSide Str.empty = true)
    (hd_LeftSide : PySem.W.hasDictIn K C_LeftSide = true)
    (po_LeftSide : PySem.W.plainOver K C_LeftSide = true)
    (sa_LeftSide : PySem.W.findIn K (.ref C_LeftSide) "__setattr__" = some (some (.builtin "object.__setattr__")))
    (mk_LeftSide : PySem.W.makesIn K C_LeftSide = true)
    (ca_LeftSide : PySem.W.findIn K (.ref C_LeftSide) "__class__" = some (some (.builtin "object.__class__")))
    (mo_LeftSide : PySem.W.mroIn K C_LeftSide (.type "object") = some true)
    (a_LeftSide_init : PySem.W.findIn K (.ref C_LeftSide) "__init__" = some (some (.ref f_Side_init)))
    (kc_RightSide : PySem.W.keepIn K (.ref C_RightSide) = true)
    (pg_RightSide : PySem.W.plainGet K C_RightSide Str.empty = true)
    (hd_RightSide : PySem.W.hasDictIn K C_RightSide = true)
    (po_RightSide : PySem.W.plainOver K C_RightSide = true)
    (sa_RightSide : PySem.W.findIn K (.ref C_RightSide) "__setattr__" = some (some (.builtin "object.__setattr__")))
    (mk_RightSide : PySem.W.makesIn K C_RightSide = true)
    (ca_RightSide : PySem.W.findIn K (.ref C_RightSide) "__class__" = some (some (.builtin "object.__class__")))
    (mo_RightSide : PySem.W.mroIn K C_RightSide (.type "object") = some true)
    (a_RightSide_init : PySem.W.findIn K (.ref C_RightSide) "__init__" = some (some (.ref f_Side_init)))
    (kc_Picture : PySem.W.keepIn K (.ref C_Picture) = true)
    (pg_Picture : PySem.W.plainGet K C_Picture Str.empty = true)
    (hd_Picture : PySem.W.hasDictIn K C_Picture = true)
    (po_Picture : PySem.W.plainOver K C_Picture = true)
    (sa_Picture : PySem.W.findIn K (.ref C_Picture) "__setattr__" = some (some (.builtin "object.__setattr__")))
    (mk_Picture : PySem.W.makesIn K C_Picture = true)
    (ca_Picture : PySem.W.findIn K (.ref C_Picture) "__class__" = some (some (.builtin "object.__class__")))
    (mo_Picture : PySem.W.mroIn K C_Picture (.type "object") = some true)
    (cg : PySem.W.specialIn K (.builtin "object.__class__") "__get__" = some (some (.builtin "getset_descriptor.__get__")))
    (ct : PySem.W.takesIn K (.builtin "object.__class__") = some true)
    (n_Picture_height : PySem.W.findIn K (.ref C_Picture) "height" = some none)
    (n_Picture_width : PySem.W.findIn K (.ref C_Picture) "width" = some none)
    (n_Picture_placed : PySem.W.findIn K (.ref C_Picture) "placed" = some none)
    (n_Picture_opened : PySem.W.findIn K (.ref C_Picture) "opened" = some none)
    (n_TooTall_side : PySem.W.findIn K (.ref C_TooTall) "side" = some none)
    (n_Side_width : PySem.W.findIn K (.ref C_Side) "width" = some none)
    (n_LeftSide_width : PySem.W.findIn K (.ref C_LeftSide) "width" = some none)
    (n_RightSide_width : PySem.W.findIn K (.ref C_RightSide) "width" = some none)
    (n_abs : PySem.W.nsIn K mainGlobals "abs" = some none)
    (n_bool : PySem.W.nsIn K mainGlobals "bool" = some none)
    (n_dict : PySem.W.nsIn K mainGlobals "dict" = some none)
    (n_int : PySem.W.nsIn K mainGlobals "int" = some none)
    (n_isinstance : PySem.W.nsIn K mainGlobals "isinstance" = some none)
    (n_len : PySem.W.nsIn K mainGlobals "len" = some none)
    (n_list : PySem.W.nsIn K mainGlobals "list" = some none)
    (n_min : PySem.W.nsIn K mainGlobals "min" = some none)
    (n_range : PySem.W.nsIn K mainGlobals "range" = some none)
    (n_sorted : PySem.W.nsIn K mainGlobals "sorted" = some none)
    (n_str : PySem.W.nsIn K mainGlobals "str" = some none)
    (n_sum : PySem.W.nsIn K mainGlobals "sum" = some none)
    (n_tuple : PySem.W.nsIn K mainGlobals "tuple" = some none)
    (n_zip : PySem.W.nsIn K mainGlobals "zip" = some none)
    (mro_TooTall : PySem.W.mroIn K C_TooTall (.ref C_TooTall) = some true)
    (v_MOST_ROWS : PySem.W.nsIn K mainGlobals "MOST_ROWS" = some (some (.int 16 tkc_MOST_ROWS)))
    (v_MOST_COLUMNS : PySem.W.nsIn K mainGlobals "MOST_COLUMNS" = some (some (.int 30 tkc_MOST_COLUMNS)))
    (v_MOST_POINTS : PySem.W.nsIn K mainGlobals "MOST_POINTS" = some (some (.int 12 tkc_MOST_POINTS)))
    (g_MIRRORED_SIDES : PySem.W.nsIn K mainGlobals "MIRRORED_SIDES" = some (some (.ref D_MIRRORED_SIDES)))
    (l_MIRRORED_SIDES : K.lookup D_MIRRORED_SIDES = some ⟨.type "dict", none, .dict #[⟨hashStr w "left", .str "left" ta0_MIRRORED_SIDES, .str "right" tb0_MIRRORED_SIDES⟩, ⟨hashStr w "right", .str "right" ta1_MIRRORED_SIDES, .str "left" tb1_MIRRORED_SIDES⟩, ⟨hashStr w "both", .str "both" ta2_MIRRORED_SIDES, .str "both" tb2_MIRRORED_SIDES⟩] ep_MIRRORED_SIDES, #[]⟩)
    (ns_MIRRORED_SIDES : (D_MIRRORED_SIDES == sysModules) = false)
    (v_FARTHEST : PySem.W.nsIn K mainGlobals "FARTHEST" = some (some (.int 99 tkc_FARTHEST)))
    : ∃ t, Txt w K mg t :=
  ⟨⟨f_TooTall_init, _, f_is_whole, _, f_is_name, _, f_least_places, _, f_ways_with, _, f_column_places, _, f_rim_firsts, _, f_Side_init, _, f_side_of, _, f_Picture_init, _, f_Picture_put, _, T_Picture_put, f_Picture_open_seat, _, f_Picture_points, _, f_Picture_check_cell, _, f_Picture_check_lines, _, f_Picture_check_seat, _, f_law_cell, _, f_law_mix, _, f_law_digits, _, f_law_whole, _, f_law_unlike, _, f_law_pairs, _, f_law_made, _, f_law_heights, _, f_law_least, _, f_law_rim_good, _, f_law_asked, _, f_law_rows, _, f_law, _, C_RimError, C_TooTall, C_Side, C_LeftSide, C_RightSide, C_Picture, D_MIRRORED_SIDES⟩, {
    g_RimError := PySem.W.mg_of X G g_RimError
    g_TooTall := PySem.W.mg_of X G g_TooTall
    g_Side := PySem.W.mg_of X G g_Side
    g_LeftSide := PySem.W.mg_of X G g_LeftSide
    g_RightSide := PySem.W.mg_of X G g_RightSide
    g_Picture := PySem.W.mg_of X G g_Picture
    F_TooTall_init := fun_mk (st := s_TooTall_init) l_TooTall_init c_TooTall_init k_TooTall_init
    b_TooTall_init := (fun_mk (st := s_TooTall_init) l_TooTall_init c_TooTall_init k_TooTall_init).binds (ps := ["self", "side"]) fun _ _ _ _ _ _ us hl => len_2 us hl fun _ _ => rfl
    g_is_whole := PySem.W.mg_of X G a_is_whole
    F_is_whole := fun_mk (st := s_is_whole) l_is_whole c_is_whole k_is_whole
    b_is_whole := (fun_mk (st := s_is_whole) l_is_whole c_is_whole k_is_whole).binds (ps := ["thing", "low", "high"]) fun _ _ _ _ _ _ us hl => len_3 us hl fun _ _ _ => rfl
    g_is_name := PySem.W.mg_of X G a_is_name
    F_is_name := fun_mk (st := s_is_name) l_is_name c_is_name k_is_name
    b_is_name := (fun_mk (st := s_is_name) l_is_name c_is_name k_is_name).binds (ps := ["thing"]) fun _ _ _ _ _ _ us hl => len_1 us hl fun _ => rfl
    g_least_places := PySem.W.mg_of X G a_least_places
    F_least_places := fun_mk (st := s_least_places) l_least_places c_least_places k_least_places
    b_least_places := (fun_mk (st := s_least_places) l_least_places c_least_places k_least_places).binds (ps := ["notes"]) fun _ _ _ _ _ _ us hl => len_1 us hl fun _ => rfl
    g_ways_with := PySem.W.mg_of X G a_ways_with
    F_ways_with := fun_mk (st := s_ways_with) l_ways_with c_ways_with k_ways_with
    b_ways_with := (fun_mk (st := s_ways_with) l_ways_with c_ways_with k_ways_with).binds (ps := ["ways", "note"]) fun _ _ _ _ _ _ us hl => len_2 us hl fun _ _ => rfl
    g_column_places := PySem.W.mg_of X G a_column_places
    F_column_places := fun_mk (st := s_column_places) l_column_places c_column_places k_column_places
    b_column_places := (fun_mk (st := s_column_places) l_column_places c_column_places k_column_places).binds (ps := ["picture", "pairs", "heights"]) fun _ _ _ _ _ _ us hl => len_3 us hl fun _ _ _ => rfl
    g_rim_firsts := PySem.W.mg_of X G a_rim_firsts
    F_rim_firsts := fun_mk (st := s_rim_firsts) l_rim_firsts c_rim_firsts k_rim_firsts
    b_rim_firsts := (fun_mk (st := s_rim_firsts) l_rim_firsts c_rim_firsts k_rim_firsts).binds (ps := ["picture", "pairs", "heights", "rim"]) fun _ _ _ _ _ _ us hl => len_4 us hl fun _ _ _ _ => rfl
    F_Side_init := fun_mk (st := s_Side_init) l_Side_init c_Side_init k_Side_init
    b_Side_init := (fun_mk (st := s_Side_init) l_Side_init c_Side_init k_Side_init).binds (ps := ["self", "width"]) fun _ _ _ _ _ _ us hl => len_2 us hl fun _ _ => rfl
    g_side_of := PySem.W.mg_of X G a_side_of
    F_side_of := fun_mk (st := s_side_of) l_side_of c_side_of k_side_of
    b_side_of := (fun_mk (st := s_side_of) l_side_of c_side_of k_side_of).binds (ps := ["word", "width"]) fun _ _ _ _ _ _ us hl => len_2 us hl fun _ _ => rfl
    F_Picture_init := fun_mk (st := s_Picture_init) l_Picture_init c_Picture_init k_Picture_init
    b_Picture_init := (fun_mk (st := s_Picture_init) l_Picture_init c_Picture_init k_Picture_init).binds (ps := ["self", "width", "height"]) fun _ _ _ _ _ _ us hl => len_3 us hl fun _ _ _ => rfl
    F_Picture_put := (fund_mk (st := s_Picture_put) l_Picture_put c_Picture_put k_Picture_put)
    b_Picture_put_4 := ⟨_, .cons (⟨_, rfl⟩) (.cons (⟨_, rfl⟩) (.cons (rfl) (.nil))), (fund_mk (st := s_Picture_put) l_Picture_put c_Picture_put k_Picture_put).binds t_Picture_put rfl 4 rfl fun _ _ _ _ _ _ us hl => len_4 us hl fun _ _ _ _ => ⟨_, rfl, rfl⟩⟩
    b_Picture_put := (fund_mk (st := s_Picture_put) l_Picture_put c_Picture_put k_Picture_put).binds t_Picture_put rfl 7 rfl fun _ _ _ _ _ _ us hl => len_7 us hl fun _ _ _ _ _ _ _ => ⟨_, rfl, rfl⟩
    F_Picture_open_seat := fun_mk (st := s_Picture_open_seat) l_Picture_open_seat c_Picture_open_seat k_Picture_open_seat
    b_Picture_open_seat := (fun_mk (st := s_Picture_open_seat) l_Picture_open_seat c_Picture_open_seat k_Picture_open_seat).binds (ps := ["self", "side", "row"]) fun _ _ _ _ _ _ us hl => len_3 us hl fun _ _ _ => rfl
    F_Picture_points := fun_mk (st := s_Picture_points) l_Picture_points c_Picture_points k_Picture_points
    b_Picture_points := (fun_mk (st := s_Picture_points) l_Picture_points c_Picture_points k_Picture_points).binds (ps := ["self"]) fun _ _ _ _ _ _ us hl => len_1 us hl fun _ => rfl
    F_Picture_check_cell := fun_mk (st := s_Picture_check_cell) l_Picture_check_cell c_Picture_check_cell k_Picture_check_cell
    b_Picture_check_cell := (fun_mk (st := s_Picture_check_cell) l_Picture_check_cell c_Picture_check_cell k_Picture_check_cell).binds (ps := ["self", "x", "y"]) fun _ _ _ _ _ _ us hl => len_3 us hl fun _ _ _ => rfl
    F_Picture_check_lines := fun_mk (st := s_Picture_check_lines) l_Picture_check_lines c_Picture_check_lines k_Picture_check_lines
    b_Picture_check_lines := (fun_mk (st := s_Picture_check_lines) l_Picture_check_lines c_Picture_check_lines k_Picture_check_lines).binds (ps := ["self", "name", "x", "y"]) fun _ _ _ _ _ _ us hl => len_4 us hl fun _ _ _ _ => rfl
    F_Picture_check_seat := fun_mk (st := s_Picture_check_seat) l_Picture_check_seat c_Picture_check_seat k_Picture_check_seat
    b_Picture_check_seat := (fun_mk (st := s_Picture_check_seat) l_Picture_check_seat c_Picture_check_seat k_Picture_check_seat).binds (ps := ["self", "side", "row"]) fun _ _ _ _ _ _ us hl => len_3 us hl fun _ _ _ => rfl
    g_law_cell := PySem.W.mg_of X G a_law_cell
    F_law_cell := fun_mk (st := s_law_cell) l_law_cell c_law_cell k_law_cell
    b_law_cell := (fun_mk (st := s_law_cell) l_law_cell c_law_cell k_law_cell).binds (ps := ["_law_script", "_law_k"]) fun _ _ _ _ _ _ us hl => len_2 us hl fun _ _ => rfl
    g_law_mix := PySem.W.mg_of X G a_law_mix
    F_law_mix := fun_mk (st := s_law_mix) l_law_mix c_law_mix k_law_mix
    b_law_mix := (fun_mk (st := s_law_mix) l_law_mix c_law_mix k_law_mix).binds (ps := ["_law_cell_here", "_law_k"]) fun _ _ _ _ _ _ us hl => len_2 us hl fun _ _ => rfl
    g_law_digits := PySem.W.mg_of X G a_law_digits
    F_law_digits := fun_mk (st := s_law_digits) l_law_digits c_law_digits k_law_digits
    b_law_digits := (fun_mk (st := s_law_digits) l_law_digits c_law_digits k_law_digits).binds (ps := ["_law_cell_here", "_law_k"]) fun _ _ _ _ _ _ us hl => len_2 us hl fun _ _ => rfl
    g_law_whole := PySem.W.mg_of X G a_law_whole
    F_law_whole := fun_mk (st := s_law_whole) l_law_whole c_law_whole k_law_whole
    b_law_whole := (fun_mk (st := s_law_whole) l_law_whole c_law_whole k_law_whole).binds (ps := ["_law_found"]) fun _ _ _ _ _ _ us hl => len_1 us hl fun _ => rfl
    g_law_unlike := PySem.W.mg_of X G a_law_unlike
    F_law_unlike := fun_mk (st := s_law_unlike) l_law_unlike c_law_unlike k_law_unlike
    b_law_unlike := (fun_mk (st := s_law_unlike) l_law_unlike c_law_unlike k_law_unlike).binds (ps := ["_law_cell_here", "_law_many", "_law_some"]) fun _ _ _ _ _ _ us hl => len_3 us hl fun _ _ _ => rfl
    g_law_pairs := PySem.W.mg_of X G a_law_pairs
    F_law_pairs := fun_mk (st := s_law_pairs) l_law_pairs c_law_pairs k_law_pairs
    b_law_pairs := (fun_mk (st := s_law_pairs) l_law_pairs c_law_pairs k_law_pairs).binds (ps := ["_law_script", "_law_width", "_law_height"]) fun _ _ _ _ _ _ us hl => len_3 us hl fun _ _ _ => rfl
    g_law_made := PySem.W.mg_of X G a_law_made
    F_law_made := fun_mk (st := s_law_made) l_law_made c_law_made k_law_made
    b_law_made := (fun_mk (st := s_law_made) l_law_made c_law_made k_law_made).binds (ps := ["_law_script", "_law_width", "_law_height", "_law_pairs_here"]) fun _ _ _ _ _ _ us hl => len_4 us hl fun _ _ _ _ => rfl
    g_law_heights := PySem.W.mg_of X G a_law_heights
    F_law_heights := fun_mk (st := s_law_heights) l_law_heights c_law_heights k_law_heights
    b_law_heights := (fun_mk (st := s_law_heights) l_law_heights c_law_heights k_law_heights).binds (ps := ["_law_script", "_law_pairs_here"]) fun _ _ _ _ _ _ us hl => len_2 us hl fun _ _ => rfl
    g_law_least := PySem.W.mg_of X G a_law_least
    F_law_least := fun_mk (st := s_law_least) l_law_least c_law_least k_law_least
    b_law_least := (fun_mk (st := s_law_least) l_law_least c_law_least k_law_least).binds (ps := ["_law_notes", "_law_height"]) fun _ _ _ _ _ _ us hl => len_2 us hl fun _ _ => rfl
    g_law_rim_good := PySem.W.mg_of X G a_law_rim_good
    F_law_rim_good := fun_mk (st := s_law_rim_good) l_law_rim_good c_law_rim_good k_law_rim_good
    b_law_rim_good := (fun_mk (st := s_law_rim_good) l_law_rim_good c_law_rim_good k_law_rim_good).binds (ps := ["_law_found", "_law_pairs_here", "_law_side", "_law_height"]) fun _ _ _ _ _ _ us hl => len_4 us hl fun _ _ _ _ => rfl
    g_law_asked := PySem.W.mg_of X G a_law_asked
    F_law_asked := fun_mk (st := s_law_asked) l_law_asked c_law_asked k_law_asked
    b_law_asked := (fun_mk (st := s_law_asked) l_law_asked c_law_asked k_law_asked).binds (ps := ["_law_picture", "_law_pairs_here", "_law_heights_here"]) fun _ _ _ _ _ _ us hl => len_3 us hl fun _ _ _ => rfl
    g_law_rows := PySem.W.mg_of X G a_law_rows
    F_law_rows := fun_mk (st := s_law_rows) l_law_rows c_law_rows k_law_rows
    b_law_rows := (fun_mk (st := s_law_rows) l_law_rows c_law_rows k_law_rows).binds (ps := ["_law_found", "_law_pairs_here", "_law_heights_here"]) fun _ _ _ _ _ _ us hl => len_3 us hl fun _ _ _ => rfl
    g_law := PySem.W.mg_of X G a_law
    F_law := fun_mk (st := s_law) l_law c_law k_law
    b_law := (fun_mk (st := s_law) l_law c_law k_law).binds (ps := ["_law_script"]) fun _ _ _ _ _ _ us hl => len_1 us hl fun _ => rfl
    x_RimError := ⟨ov_RimError, hd_RimError, sa_RimError, ga_RimError, gh_RimError, ca_RimError, cg, ct⟩
    mk_RimError := mk_RimError
    x_TooTall := ⟨ov_TooTall, hd_TooTall, sa_TooTall, ga_TooTall, gh_TooTall, ca_TooTall, cg, ct⟩
    mk_TooTall := mk_TooTall
    k_TooTall := ⟨mk_TooTall, a_TooTall_init, i_TooTall_init, kc_TooTall⟩
    c_Side := ⟨pg_Side, hd_Side, po_Side, sa_Side⟩
    ca_Side := ca_Side
    mo_Side := mo_Side
    k_Side := ⟨mk_Side, a_Side_init, i_Side_init, kc_Side⟩
    c_LeftSide := ⟨pg_LeftSide, hd_LeftSide, po_LeftSide, sa_LeftSide⟩
    ca_LeftSide := ca_LeftSide
    mo_LeftSide := mo_LeftSide
    k_LeftSide := ⟨mk_LeftSide, a_LeftSide_init, i_Side_init, kc_LeftSide⟩
    c_RightSide := ⟨pg_RightSide, hd_RightSide, po_RightSide, sa_RightSide⟩
    ca_RightSide := ca_RightSide
    mo_RightSide := mo_RightSide
    k_RightSide := ⟨mk_RightSide, a_RightSide_init, i_Side_init, kc_RightSide⟩
    c_Picture := ⟨pg_Picture, hd_Picture, po_Picture, sa_Picture⟩
    ca_Picture := ca_Picture
    mo_Picture := mo_Picture
    k_Picture := ⟨mk_Picture, a_Picture_init, i_Picture_init, kc_Picture⟩
    m_Picture_put := ⟨a_Picture_put, i_Picture_put, k_Picture_put⟩
    m_Picture_open_seat := ⟨a_Picture_open_seat, i_Picture_open_seat, k_Picture_open_seat⟩
    m_Picture_points := ⟨a_Picture_points, i_Picture_points, k_Picture_points⟩
    m_Picture_check_cell := ⟨a_Picture_check_cell, i_Picture_check_cell, k_Picture_check_cell⟩
    m_Picture_check_lines := ⟨a_Picture_check_lines, i_Picture_check_lines, k_Picture_check_lines⟩
    m_Picture_check_seat := ⟨a_Picture_check_seat, i_Picture_check_seat, k_Picture_check_seat⟩
    cg := cg
    ct := ct
    n_Picture_height := n_Picture_height
    n_Picture_width := n_Picture_width
    n_Picture_placed := n_Picture_placed
    n_Picture_opened := n_Picture_opened
    n_TooTall_side := n_TooTall_side
    n_Side_width := n_Side_width
    n_LeftSide_width := n_LeftSide_width
    n_RightSide_width := n_RightSide_width
    n_abs := PySem.W.mg_none_of X G n_abs
    n_bool := PySem.W.mg_none_of X G n_bool
    n_dict := PySem.W.mg_none_of X G n_dict
    n_int := PySem.W.mg_none_of X G n_int
    n_isinstance := PySem.W.mg_none_of X G n_isinstance
    n_len := PySem.W.mg_none_of X G n_len
    n_list := PySem.W.mg_none_of X G n_list
    n_min := PySem.W.mg_none_of X G n_min
    n_range := PySem.W.mg_none_of X G n_range
    n_sorted := PySem.W.mg_none_of X G n_sorted
    n_str := PySem.W.mg_none_of X G n_str
    n_sum := PySem.W.mg_none_of X G n_sum
    n_tuple := PySem.W.mg_none_of X G n_tuple
    n_zip := PySem.W.mg_none_of X G n_zip
    mro_TooTall := mro_TooTall
    v_MOST_ROWS := ⟨_, PySem.W.mg_of X G v_MOST_ROWS⟩
    v_MOST_COLUMNS := ⟨_, PySem.W.mg_of X G v_MOST_COLUMNS⟩
    v_MOST_POINTS := ⟨_, PySem.W.mg_of X G v_MOST_POINTS⟩
    g_MIRRORED_SIDES := PySem.W.mg_of X G g_MIRRORED_SIDES
    D_MIRRORED_SIDES := ⟨ns_MIRRORED_SIDES, _, _, l_MIRRORED_SIDES, .cons rfl ⟨_, rfl⟩ ⟨_, rfl⟩ (.cons rfl ⟨_, rfl⟩ ⟨_, rfl⟩ (.cons rfl ⟨_, rfl⟩ ⟨_, rfl⟩ (.nil))), by decide⟩
    v_FARTHEST := ⟨_, PySem.W.mg_of X G v_FARTHEST⟩ }⟩
theorem sc_TooTall_init : FnScope ["self", "side"] ["self", "side"] (defScope s_TooTall_init) := ⟨rfl, rfl, rfl, by decide +kernel, rfl, by decide +kernel, by decide +kernel⟩
theorem sc_is_whole : FnScope ["thing", "low", "high"] ["thing", "low", "high"] (defScope s_is_whole) := ⟨rfl, rfl, rfl, by decide +kernel, rfl, by decide +kernel, by decide +kernel⟩
theorem sc_is_name : FnScope ["thing"] ["thing"] (defScope s_is_name) := ⟨rfl, rfl, rfl, by decide +kernel, rfl, by decide +kernel, by decide +kernel⟩
theorem sc_least_places : FnScope ["notes", "ways", "note"] ["notes"] (defScope s_least_places) := ⟨rfl, rfl, rfl, by decide +kernel, rfl, by decide +kernel, by decide +kernel⟩
theorem sc_ways_with : FnScope ["ways", "note", "height", "low", "high", "wish", "found", "place", "ahead", "end", "stray", "places", "more"] ["ways", "note"] (defScope s_ways_with) := ⟨rfl, rfl, rfl, by decide +kernel, rfl, by decide +kernel, by decide +kernel⟩
theorem sc_column_places : FnScope ["picture", "pairs", "heights", "firsts"] ["picture", "pairs", "heights"] (defScope s_column_places) := ⟨rfl, rfl, rfl, by decide +kernel, rfl, by decide +kernel, by decide +kernel⟩
theorem sc_rim_firsts : FnScope ["picture", "pairs", "heights", "rim", "column", "notes"] ["picture", "pairs", "heights", "rim"] (defScope s_rim_firsts) := ⟨rfl, rfl, rfl, by decide +kernel, rfl, by decide +kernel, by decide +kernel⟩
theorem sc_Side_init : FnScope ["self", "width"] ["self", "width"] (defScope s_Side_init) := ⟨rfl, rfl, rfl, by decide +kernel, rfl, by decide +kernel, by decide +kernel⟩
theorem sc_side_of : FnScope ["word", "width"] ["word", "width"] (defScope s_side_of) := ⟨rfl, rfl, rfl, by decide +kernel, rfl, by decide +kernel, by decide +kernel⟩
theorem sc_Picture_init : FnScope ["self", "width", "height"] ["self", "width", "height"] (defScope s_Picture_init) := ⟨rfl, rfl, rfl, by decide +kernel, rfl, by decide +kernel, by decide +kernel⟩
theorem sc_Picture_put : FnScope ["self", "name", "x", "y", "sides", "low", "high", "highest"] ["self", "name", "x", "y", "sides", "low", "high"] (defScope s_Picture_put) := ⟨rfl, rfl, rfl, by decide +kernel, rfl, by decide +kernel, by decide +kernel⟩
theorem sc_Picture_open_seat : FnScope ["self", "side", "row"] ["self", "side", "row"] (defScope s_Picture_open_seat) := ⟨rfl, rfl, rfl, by decide +kernel, rfl, by decide +kernel, by decide +kernel⟩
theorem sc_Picture_points : FnScope ["self"] ["self"] (defScope s_Picture_points) := ⟨rfl, rfl, rfl, by decide +kernel, rfl, by decide +kernel, by decide +kernel⟩
theorem sc_Picture_check_cell : FnScope ["self", "x", "y"] ["self", "x", "y"] (defScope s_Picture_check_cell) := ⟨rfl, rfl, rfl, by decide +kernel, rfl, by decide +kernel, by decide +kernel⟩
theorem sc_Picture_check_lines : FnScope ["self", "name", "x", "y", "others", "other"] ["self", "name", "x", "y"] (defScope s_Picture_check_lines) := ⟨rfl, rfl, rfl, by decide +kernel, rfl, by decide +kernel, by decide +kernel⟩
theorem sc_Picture_check_seat : FnScope ["self", "side", "row"] ["self", "side", "row"] (defScope s_Picture_check_seat) := ⟨rfl, rfl, rfl, by decide +kernel, rfl, by decide +kernel, by decide +kernel⟩
theorem sc_law_cell : FnScope ["_law_script", "_law_k"] ["_law_script", "_law_k"] (defScope s_law_cell) := ⟨rfl, rfl, rfl, by decide +kernel, rfl, by decide +kernel, by decide +kernel⟩
theorem sc_law_mix : FnScope ["_law_cell_here", "_law_k", "_law_number"] ["_law_cell_here", "_law_k"] (defScope s_law_mix) := ⟨rfl, rfl, rfl, by decide +kernel, rfl, by decide +kernel, by decide +kernel⟩
theorem sc_law_digits : FnScope ["_law_cell_here", "_law_k"] ["_law_cell_here", "_law_k"] (defScope s_law_digits) := ⟨rfl, rfl, rfl, by decide +kernel, rfl, by decide +kernel, by decide +kernel⟩
theorem sc_law_whole : FnScope ["_law_found"] ["_law_found"] (defScope s_law_whole) := ⟨rfl, rfl, rfl, by decide +kernel, rfl, by decide +kernel, by decide +kernel⟩
theorem sc_law_unlike : FnScope ["_law_cell_here", "_law_many", "_law_some", "_law_left", "_law_found", "_law_k"] ["_law_cell_here", "_law_many", "_law_some"] (defScope s_law_unlike) := ⟨rfl, rfl, rfl, by decide +kernel, rfl, by decide +kernel, by decide +kernel⟩
theorem sc_law_pairs : FnScope ["_law_script", "_law_width", "_law_height", "_law_many", "_law_names", "_law_rims", "_law_seats"] ["_law_script", "_law_width", "_law_height"] (defScope s_law_pairs) := ⟨rfl, rfl, rfl, by decide +kernel, rfl, by decide +kernel, by decide +kernel⟩
theorem sc_law_made : FnScope ["_law_script", "_law_width", "_law_height", "_law_pairs_here", "_law_picture", "_law_columns", "_law_rows_here", "_law_some", "_law_k"] ["_law_script", "_law_width", "_law_height", "_law_pairs_here"] (defScope s_law_made) := ⟨rfl, rfl, rfl, by decide +kernel, rfl, by decide +kernel, by decide +kernel⟩
theorem sc_law_heights : FnScope ["_law_script", "_law_pairs_here", "_law_heights_here", "_law_k", "_law_cell_here"] ["_law_script", "_law_pairs_here"] (defScope s_law_heights) := ⟨rfl, rfl, rfl, by decide +kernel, rfl, by decide +kernel, by decide +kernel⟩
theorem sc_law_least : FnScope ["_law_notes", "_law_height", "_law_table", "_law_size", "_law_wish", "_law_other", "_law_row", "_law_here"] ["_law_notes", "_law_height"] (defScope s_law_least) := ⟨rfl, rfl, rfl, by decide +kernel, rfl, by decide +kernel, by decide +kernel⟩
theorem sc_law_rim_good : FnScope ["_law_found", "_law_pairs_here", "_law_side", "_law_height", "_law_notes", "_law_free", "_law_stray", "_law_seat", "_law_row", "_law_size"] ["_law_found", "_law_pairs_here", "_law_side", "_law_height"] (defScope s_law_rim_good) := ⟨rfl, rfl, rfl, by decide +kernel, rfl, by decide +kernel, by decide +kernel⟩
theorem sc_law_asked : FnScope ["_law_picture", "_law_pairs_here", "_law_heights_here", "_law_found", "_law_side", "e"] ["_law_picture", "_law_pairs_here", "_law_heights_here"] (defScope s_law_asked) := ⟨rfl, rfl, rfl, by decide +kernel, rfl, by decide +kernel, by decide +kernel⟩
theorem sc_law_rows : FnScope ["_law_found", "_law_pairs_here", "_law_heights_here", "_law_row", "_law_pair"] ["_law_found", "_law_pairs_here", "_law_heights_here"] (defScope s_law_rows) := ⟨rfl, rfl, rfl, by decide +kernel, rfl, by decide +kernel, by decide +kernel⟩
theorem sc_law : FnScope ["_law_script", "_law_width", "_law_height", "_law_pairs_here", "_law_picture", "_law_heights_here", "_law_points", "_law_handed", "_law_found", "_law_told", "_law_side"] ["_law_script"] (defScope s_law) := ⟨rfl, rfl, rfl, by decide +kernel, rfl, by decide +kernel, by decide +kernel⟩
end S66
set_option maxRecDepth 100000
set_option maxHeartbeats 4000000
namespace S66
open PySem L2 XL PyProof.Rows
theorem kit_same {K : PySem.W.Frag} {v : Value} : PySem.W.kitOne K v v = some true := if_pos (by simp)
theorem same_upd {H H' : Hp} {p : Addr} {o : HO} (s : Same H H') (hp : H' p = none) : Same H (L2.upd H' p o) := fun b u z => by
  have z' := s b u z
  rw [upd_ne (ne_of_none z' hp)]
  exact z'
theorem same2 {H : Hp} {x dx : Addr} {a b c : HO} (hx : H x = none) (hd : H dx = none) : Same H (upd (upd (upd H dx a) x b) x c) := fun y o e => by
  rw [upd_ne (ne_of_none e hx), upd_ne (ne_of_none e hx), upd_ne (ne_of_none e hd)]
  exact e
def sideW (b : Bool) : Str := if b then "left" else "right"
def SideAt (t : Adr) (H : Hp) (p : Addr) (b : Bool) (w : Int) : Prop := ∃ dx, H p = some (.ins (if b then t.C_LeftSide else t.C_RightSide) dx [("width", .int w)])
def spInit (K : PySem.W.Frag) : Sp := fun vs H Q _ => ∃ (p C dx : Addr) (n : Int), vs = [.ref p, .int n] ∧ H p = some (.ins C dx []) ∧ Cls K C ∧ NoAttr K C "width" ∧ Q .non (upd H p (.ins C dx [("width", .int n)]))
def spSideOf (t : Adr) : Sp := fun vs H Q _ => ∃ (b : Bool) (n : Int), vs = [.str (sideW b), .int n] ∧ ∀ p H', H p = none → SideAt t H' p b n → Same H H' → Q (.ref p) H'
section
variable {P : Program} {w : World} {K : PySem.W.Frag} {mg : Str → Option Value} {base : Heap} {t : Adr}
theorem ok_Side_init (T : Txt w K mg t) : FnOk true P w K mg base (CXo P w) 1 t.f_Side_init t.d_Side_init ["self", "width"] (spInit K) := by
  refine T.F_Side_init.okn (k := 0) sc_Side_init (fun vs H Q E h => ?_) (fun cdv A outer s H vs Q E hr h => ?_)
  · obtain ⟨p, C, dx, n, rfl, _⟩ := h
    rfl
  · obtain ⟨p, C, dx, n, rfl, h⟩ := h
    refine ⟨_, pss_one (ps_fld (pv 0) (pv 1) rfl), ?_⟩
    obtain ⟨hp, c, na, q⟩ := h
    exact ⟨_, rfl, _, rfl, p, C, dx, [], rfl, hp, c, na, (by show 0 < 1000; decide), q⟩
theorem ok_side_of (T : Txt w K mg t) : FnOk true P w K mg base (CXo P w) 3 t.f_side_of t.d_side_of ["word", "width"] (spSideOf t) := by
  refine T.F_side_of.okn (k := 2) sc_side_of (fun vs H Q E h => ?_) (fun cdv A outer s H vs Q E hr h => ?_)
  · obtain ⟨b, n, rfl, _⟩ := h
    rfl
  · obtain ⟨b, n, rfl, h⟩ := h
    refine ⟨_, pss_cons (ps_if (pt_val (pe_callB call_isin rfl T.n_isinstance boot_isinstance (pa_cons (pv 0) (pa_cons (pe_bltn (v := .ty "str") rfl T.n_str boot_str rfl) (pa_nil))))) (pss_cons (ps_if (pt_cmpR op_eq (pv 0) (pe_str) (nomark _)) (pss_one (ps_ret (pe_make T.k_LeftSide (ok_Side_init T) (hr.mono (by decide)) rfl T.g_LeftSide T.b_Side_init .nil pass_none (pa_cons (pv 1) (pa_nil))))) (pss_nil))
      (pss_one (ps_if (pt_cmpR op_eq (pv 0) (pe_str) (nomark _)) (pss_one (ps_ret (pe_make T.k_RightSide (ok_Side_init T) (hr.mono (by decide)) rfl T.g_RightSide T.b_Side_init .nil pass_none (pa_cons (pv 1) (pa_nil))))) (pss_nil)))) (pss_nil))
      (pss_one (ps_never)), ?_⟩
    cases b with
    | true =>
      refine ⟨_, rfl, _, _, rfl, .inl ⟨_, _, true, .str _, rfl, kit_same, true, rfl, iteT ?_⟩⟩
      refine ⟨_, rfl, rfl, _, rfl, ?_⟩
      refine ifP (by decide +kernel) ?_
      exact ⟨_, rfl, fun x dx hx hdx ne => ⟨x, t.C_LeftSide, dx, n, rfl, upd_same, T.c_LeftSide, T.n_LeftSide_width, rfl, h x _ hx ⟨dx, upd_same⟩ (same2 hx hdx)⟩⟩
    | false =>
      refine ⟨_, rfl, _, _, rfl, .inl ⟨_, _, true, .str _, rfl, kit_same, true, rfl, iteT ?_⟩⟩
      refine ⟨_, rfl, rfl, _, rfl, ?_⟩
      refine ifN (by decide +kernel) ?_
      refine ⟨_, rfl, rfl, _, rfl, ?_⟩
      refine ifP (by decide +kernel) ?_
      exact ⟨_, rfl, fun x dx hx hdx ne => ⟨x, t.C_RightSide, dx, n, rfl, upd_same, T.c_RightSide, T.n_RightSide_width, rfl, h x _ hx ⟨dx, upd_same⟩ (same2 hx hdx)⟩⟩
end
def isNm (x : Str) : Bool := decide (x.length = 1) && (!decide (x.cps.toList < [97]) && !decide ([122] < x.cps.toList))
def spIsW : Sp := fun vs H Q _ => ∃ (i lo hi : Int), vs = [.int i, .int lo, .int hi] ∧ lo ≤ i ∧ i ≤ hi ∧ Q (.bl true) H
def spIsN : Sp := fun vs H Q _ => ∃ (x : Str), vs = [.str x] ∧ isNm x = true ∧ Q (.bl true) H
theorem a_cps : ("a" : Str).cps.toList = [97] := by decide +kernel
theorem z_cps : ("z" : Str).cps.toList = [122] := by decide +kernel
section
variable {P : Program} {w : World} {K : PySem.W.Frag} {mg : Str → Option Value} {base : Heap} {t : Adr}
theorem ok_is_whole (T : Txt w K mg t) : FnOk true P w K mg base (CXo P w) 1 t.f_is_whole t.d_is_whole ["thing", "low", "high"] (spIsW) := by
  refine T.F_is_whole.okn (k := 0) sc_is_whole (fun vs H Q E h => ?_) (fun cdv A outer s H vs Q E hr h => ?_)
  · obtain ⟨i, lo, hi, rfl, _⟩ := h
    rfl
  · obtain ⟨i, lo, hi, rfl, h⟩ := h
    refine ⟨_, pss_one (ps_ret (pe_and (pe_callB call_isin rfl T.n_isinstance boot_isinstance (pa_cons (pv 0) (pa_cons (pe_bltn (v := .ty "int") rfl T.n_int boot_int rfl) (pa_nil)))) (pe_and (pe_not (pe_callB call_isin rfl T.n_isinstance boot_isinstance (pa_cons (pv 0) (pa_cons (pe_bltn (v := .ty "bool") rfl T.n_bool boot_bool rfl) (pa_nil))))) (pe_one (pe_chain op_le op_le (pv 1) (pv 0) (pv 2)))))), ?_⟩
    obtain ⟨c1, c2, q⟩ := h
    refine ⟨_, rfl, _, _, rfl, .inl ⟨_, _, true, .int i, rfl, kit_same, true, rfl, iteT ?_⟩⟩
    refine ⟨_, rfl, _, _, rfl, .inl ⟨_, _, false, .int i, rfl, (by rfl), false, rfl, true, rfl, iteT ?_⟩⟩
    refine ⟨_, rfl, _, rfl, _, _, rfl, rfl, _, rfl, ite2 (fun c => ?_) (fun c => ?_)⟩
    · refine ⟨_, rfl, _, _, rfl, rfl, ?_⟩
      show Q (.bl (decide (i ≤ hi))) H
      rw [decide_eq_true c2]
      exact q
    · exact absurd (decide_eq_true c1) c
theorem ok_is_name (T : Txt w K mg t) : FnOk true P w K mg base (CXo P w) 1 t.f_is_name t.d_is_name ["thing"] (spIsN) := by
  refine T.F_is_name.okn (k := 0) sc_is_name (fun vs H Q E h => ?_) (fun cdv A outer s H vs Q E hr h => ?_)
  · obtain ⟨x, rfl, _⟩ := h
    rfl
  · obtain ⟨x, rfl, h⟩ := h
    refine ⟨_, pss_one (ps_ret (pe_and (pe_callB call_isin rfl T.n_isinstance boot_isinstance (pa_cons (pv 0) (pa_cons (pe_bltn (v := .ty "str") rfl T.n_str boot_str rfl) (pa_nil)))) (pe_and (pe_cmpR op_eq (pe_callB call_len_str rfl T.n_len boot_len (pa_cons (pv 0) (pa_nil))) (pe_int) (nomark _)) (pe_one (pe_chain op_le_str op_le_str (pe_str) (pv 0) (pe_str)))))), ?_⟩
    obtain ⟨hn, q⟩ := h
    unfold isNm at hn
    simp only [Bool.and_eq_true, decide_eq_true_eq, Bool.not_eq_true', decide_eq_false_iff_not] at hn
    obtain ⟨l1, n1, n2⟩ := hn
    refine ⟨_, rfl, _, _, rfl, .inl ⟨_, _, true, .str x, rfl, kit_same, true, rfl, iteT ?_⟩⟩
    refine ⟨_, rfl, _, rfl, (by rw [l1]; decide), rfl, _, rfl, ite2 (fun c => ?_) (fun c => ?_)⟩
    · refine ⟨_, rfl, _, _, rfl, rfl, _, rfl, ite2 (fun d => ?_) (fun d => ?_)⟩
      · refine ⟨_, _, rfl, rfl, ?_⟩
        rw [z_cps, decide_eq_false n2]
        exact q
      · rw [a_cps, decide_eq_false n1] at d
        exact absurd rfl d
    · exact absurd (decide_eq_true (by rw [l1]; rfl)) c
end
section
end
end S66
set_option maxRecDepth 100000
set_option maxHeartbeats 4000000
namespace S66
open PySem L2 XL PyProof.Rows
structure Pt where
  nm : Str
  x : Int
  y : Int
  sd : Str
  lo : Int
  hi : Int
def ptV (p : Pt) : List V := [.int p.x, .int p.y, .str p.sd, .int p.lo, .int p.hi]
inductive Pl (H : Hp) : List Pt → List (Key × V) → Prop
  | nil : Pl H [] []
  | cons {p : Pt} {q : Addr} {ps : List Pt} {kvs : List (Key × V)} (h : H q = some (.tup (ptV p))) (r : Pl H ps kvs) : Pl H (p :: ps) ((.inr p.nm, .ref q) :: kvs)
inductive PtsL (H : Hp) : List Pt → List Addr → Prop
  | nil : PtsL H [] []
  | cons {p : Pt} {q : Addr} {ps : List Pt} {qs : List Addr} (h : H q = some (.tup (.str p.nm :: ptV p))) (r : PtsL H ps qs) : PtsL H (p :: ps) (q :: qs)
theorem tT_if {σ : L2.St} {H : Hp} {A B : Hp → Prop} (h : A H) : tTrue σ H (fun b H4 => if b = true then A H4 else B H4) := by
  show if true = true then A H else B H
  rw [if_pos rfl]
  exact h
def Tups (H H' : Hp) : Prop := ∀ b xs, H b = some (.tup xs) → H' b = some (.tup xs)
theorem Pl.keep {H H' : Hp} (s : Tups H H') {ps : List Pt} {kvs : List (Key × V)} (h : Pl H ps kvs) : Pl H' ps kvs := by
  induction h with
  | nil => exact .nil
  | cons h _ ih => exact .cons (s _ _ h) ih
theorem PtsL.keep {H H' : Hp} (s : Tups H H') {ps : List Pt} {qs : List Addr} (h : PtsL H ps qs) : PtsL H' ps qs := by
  induction h with
  | nil => exact .nil
  | cons h _ ih => exact .cons (s _ _ h) ih
theorem Pl.len {H : Hp} {ps : List Pt} {kvs : List (Key × V)} (h : Pl H ps kvs) : kvs.length = ps.length := by
  induction h with
  | nil => rfl
  | cons _ _ ih => simp [ih]
theorem PtsL.len {H : Hp} {ps : List Pt} {qs : List Addr} (h : PtsL H ps qs) : qs.length = ps.length := by
  induction h with
  | nil => rfl
  | cons _ _ ih => simp [ih]
theorem Pl.no {H : Hp} {ps : List Pt} {kvs : List (Key × V)} (h : Pl H ps kvs) {nm : Str} (e : ∀ p ∈ ps, p.nm ≠ nm) : valV kvs (.inr nm) = none := by
  induction h with
  | nil => rfl
  | @cons p q ps kvs h _ ih =>
    rw [valV_neg (fun z => e p List.mem_cons_self (Sum.inr.inj z))]
    exact ih fun p' hp => e p' (List.mem_cons_of_mem _ hp)
theorem Pl.get {H : Hp} {ps : List Pt} {kvs : List (Key × V)} (h : Pl H ps kvs) {i : Nat} {k : Key} {x : V} (e : kvs[i]? = some (k, x)) : ∃ p q, ps[i]? = some p ∧ k = .inr p.nm ∧ x = .ref q ∧ H q = some (.tup (ptV p)) := by
  induction h generalizing i with
  | nil => simp at e
  | @cons p q ps kvs h _ ih =>
    cases i with
    | zero =>
      simp at e
      exact ⟨p, q, rfl, e.1.symm, e.2.symm, h⟩
    | succ j => exact ih (by simpa using e)
theorem PtsL.get {H : Hp} {ps : List Pt} {qs : List Addr} (h : PtsL H ps qs) {i : Nat} {q : Addr} (e : qs[i]? = some q) : ∃ p, ps[i]? = some p ∧ H q = some (.tup (.str p.nm :: ptV p)) := by
  induction h generalizing i with
  | nil => simp at e
  | @cons p q' ps qs h _ ih =>
    cases i with
    | zero =>
      simp at e
      subst e
      exact ⟨p, rfl, h⟩
    | succ j => exact ih (by simpa using e)
theorem Pl.snoc {H : Hp} {ps : List Pt} {kvs : List (Key × V)} (h : Pl H ps kvs) {p : Pt} {q : Addr} (e : H q = some (.tup (ptV p))) : Pl H (ps ++ [p]) (kvs ++ [(.inr p.nm, .ref q)]) := by
  induction h with
  | nil => exact .cons e .nil
  | cons h _ ih => exact .cons h ih
theorem PtsL.snoc {H : Hp} {ps : List Pt} {qs : List Addr} (h : PtsL H ps qs) {p : Pt} {q : Addr} (e : H q = some (.tup (.str p.nm :: ptV p))) : PtsL H (ps ++ [p]) (qs ++ [q]) := by
  induction h with
  | nil => exact .cons e .nil
  | cons h _ ih => exact .cons h ih
abbrev picF (w h : Int) (dp do_ : Addr) : List (Str × V) := [("width", .int w), ("height", .int h), ("placed", .ref dp), ("opened", .ref do_)]
structure Pic (t : Adr) (H : Hp) (a dp do_ : Addr) (w h : Int) (ps : List Pt) : Prop where
  ins : ∃ dx, H a = some (.ins t.C_Picture dx (picF w h dp do_))
  pl : ∃ kvs, H dp = some (.dK kvs) ∧ Pl H ps kvs
  w1 : 1 ≤ w
  w2 : w ≤ 30
  h1 : 1 ≤ h
  h2 : h ≤ 16
  len : ps.length ≤ 12
theorem Same.tups {H H' : Hp} (s : Same H H') : Tups H H' := fun b xs e => s b _ e
theorem Pic.same {t : Adr} {H H' : Hp} {a dp do_ : Addr} {w h : Int} {ps : List Pt} (s : Same H H') (p : Pic t H a dp do_ w h ps) : Pic t H' a dp do_ w h ps :=
  ⟨let ⟨dx, e⟩ := p.ins; ⟨dx, s _ _ e⟩, let ⟨kvs, e, q⟩ := p.pl; ⟨kvs, s _ _ e, q.keep (Same.tups s)⟩, p.w1, p.w2, p.h1, p.h2, p.len⟩
theorem lk_no {w h : Int} {dp do_ : Addr} {m : Str} (e : ((["width", "height", "placed", "opened"] : List Str).all fun k => !(m == k)) = true) : (picF w h dp do_).lookup m = none := by
  simp only [List.all_cons, List.all_nil, Bool.and_eq_true, Bool.not_eq_true'] at e
  obtain ⟨e1, e2, e3, e4, _⟩ := e
  unfold picF
  rw [List.lookup_cons, e1]
  show List.lookup m [("height", V.int h), ("placed", V.ref dp), ("opened", V.ref do_)] = none
  rw [List.lookup_cons, e2]
  show List.lookup m [("placed", V.ref dp), ("opened", V.ref do_)] = none
  rw [List.lookup_cons, e3]
  show List.lookup m [("opened", V.ref do_)] = none
  rw [List.lookup_cons, e4]
  rfl
theorem lkW {w h : Int} {dp do_ : Addr} : (picF w h dp do_).lookup ("width" : Str) = some (.int w) := by
  unfold picF
  rw [List.lookup_cons, show (("width" : Str) == "width") = true from by decide +kernel]
theorem lkH {w h : Int} {dp do_ : Addr} : (picF w h dp do_).lookup ("height" : Str) = some (.int h) := by
  unfold picF
  rw [List.lookup_cons, show (("height" : Str) == "width") = false from by decide +kernel]
  show List.lookup ("height" : Str) [("height", V.int h), ("placed", V.ref dp), ("opened", V.ref do_)] = _
  rw [List.lookup_cons, show (("height" : Str) == "height") = true from by decide +kernel]
theorem lkP {w h : Int} {dp do_ : Addr} : (picF w h dp do_).lookup ("placed" : Str) = some (.ref dp) := by
  unfold picF
  rw [List.lookup_cons, show (("placed" : Str) == "width") = false from by decide +kernel]
  show List.lookup ("placed" : Str) [("height", V.int h), ("placed", V.ref dp), ("opened", V.ref do_)] = _
  rw [List.lookup_cons, show (("placed" : Str) == "height") = false from by decide +kernel]
  show List.lookup ("placed" : Str) [("placed", V.ref dp), ("opened", V.ref do_)] = _
  rw [List.lookup_cons, show (("placed" : Str) == "placed") = true from by decide +kernel]
def spPInit (t : Adr) : Sp := fun vs H Q _ => ∃ (p dx : Addr) (w h : Int), vs = [.ref p, .int w, .int h] ∧ H p = some (.ins t.C_Picture dx []) ∧ 1 ≤ w ∧ w ≤ 30 ∧ 1 ≤ h ∧ h ≤ 16 ∧
  ∀ H' dp do_, H dp = none → H do_ = none → (∀ b u, b ≠ p → H b = some u → H' b = some u) → Pic t H' p dp do_ w h [] → H' do_ = some (.dT []) → Q .non H'
def spCC (t : Adr) : Sp := fun vs H Q _ => ∃ (a dp do_ : Addr) (pw ph : Int) (ps : List Pt) (x y : Int), vs = [.ref a, .int x, .int y] ∧ Pic t H a dp do_ pw ph ps ∧ 1 ≤ x ∧ x ≤ pw ∧ 1 ≤ y ∧ y ≤ ph ∧ Q .non H
def spPts (t : Adr) : Sp := fun vs H Q _ => ∃ (a dp do_ : Addr) (pw ph : Int) (ps : List Pt), vs = [.ref a] ∧ Pic t H a dp do_ pw ph ps ∧ ∀ H' l qs, Same H H' → H' l = some (.lst (qs.map V.ref)) → PtsL H' ps qs → Q (.ref l) H'
def spCL (t : Adr) : Sp := fun vs H Q _ => ∃ (a dp do_ : Addr) (pw ph : Int) (ps : List Pt) (nm : Str) (x y : Int), vs = [.ref a, .str nm, .int x, .int y] ∧ Pic t H a dp do_ pw ph ps ∧ (∀ p ∈ ps, p.nm ≠ nm → p.x ≠ x ∧ p.y ≠ y) ∧ ∀ H', Same H H' → Q .non H'
def spCS (t : Adr) : Sp := fun vs H Q _ => ∃ (a dp do_ : Addr) (pw ph : Int) (ps : List Pt) (b : Bool) (r : Int), vs = [.ref a, .str (sideW b), .int r] ∧ Pic t H a dp do_ pw ph ps ∧ 1 ≤ r ∧ r ≤ ph ∧ ∀ H', Same H H' → Q .non H'
def spPut (t : Adr) : Sp := fun vs H Q _ => ∃ (a dp do_ : Addr) (pw ph : Int) (ps : List Pt) (nm : Str) (x y : Int) (sd : Str) (lo hi : Int) (hv : V), vs = [.ref a, .str nm, .int x, .int y, .str sd, .int lo, hv] ∧ Pic t H a dp do_ pw ph ps ∧
  ((hv = .non ∧ hi = ph) ∨ hv = .int hi) ∧ isNm nm = true ∧ 1 ≤ x ∧ x ≤ pw ∧ 1 ≤ y ∧ y ≤ ph ∧ (sd = "left" ∨ sd = "right" ∨ sd = "both") ∧ 1 ≤ lo ∧ lo ≤ hi ∧ hi ≤ ph ∧ (∀ p ∈ ps, p.nm ≠ nm ∧ p.x ≠ x ∧ p.y ≠ y) ∧ ps.length < 12 ∧
  ∀ H', (∀ b u, b ≠ dp → H b = some u → H' b = some u) → Pic t H' a dp do_ pw ph (ps ++ [⟨nm, x, y, sd, lo, hi⟩]) → Q .non H'
section
variable {P : Program} {w : World} {K : PySem.W.Frag} {mg : Str → Option Value} {base : Heap} {t : Adr}
theorem ok_Picture_init (T : Txt w K mg t) : FnOk true P w K mg base (CXo P w) 2 t.f_Picture_init t.d_Picture_init ["self", "width", "height"] (spPInit t) := by
  refine T.F_Picture_init.okn (k := 1) sc_Picture_init (fun vs H Q E h => ?_) (fun cdv A outer s H vs Q E hr h => ?_)
  · obtain ⟨p, dx, pw, ph, rfl, _⟩ := h
    rfl
  · obtain ⟨p, dx, pw, ph, rfl, h⟩ := h
    refine ⟨_, pss_cons (ps_if (PW.pt (pw_or (pt_not (pt_val (pe_call (ok_is_whole T) (hr.mono (by decide)) rfl T.g_is_whole T.F_is_whole.kp T.b_is_whole .nil pass_none (pa_cons (pv 1) (pa_cons (pe_int) (pa_cons (pe_glob (v := .int 30) rfl T.v_MOST_COLUMNS.choose_spec ⟨_, rfl⟩) (pa_nil))))))) (pw_or1 (pt_not (pt_val (pe_call (ok_is_whole T) (hr.mono (by decide)) rfl T.g_is_whole T.F_is_whole.kp T.b_is_whole .nil pass_none (pa_cons (pv 2) (pa_cons (pe_int) (pa_cons (pe_glob (v := .int 16) rfl T.v_MOST_ROWS.choose_spec ⟨_, rfl⟩) (pa_nil)))))))))) (pss_one (ps_never)) (pss_nil))
      (pss_cons (ps_fld (pv 0) (pv 1) rfl)
      (pss_cons (ps_fld (pv 0) (pv 2) rfl)
      (pss_cons (ps_fld (pv 0) (pe_dnewK) rfl)
      (pss_one (ps_fld (pv 0) (pe_dnewT) rfl))))), ?_⟩
    obtain ⟨hp, w1, w2, h1, h2, q⟩ := h
    refine ⟨_, rfl, pw, 1, 30, rfl, w1, w2, true, rfl, iteF ⟨_, rfl, ph, 1, 16, rfl, h1, h2, true, rfl, iteF ?_⟩⟩
    refine ⟨_, rfl, _, rfl, p, _, dx, _, rfl, hp, T.c_Picture, T.n_Picture_width, (by show 0 < 1000; decide), ?_⟩
    refine ⟨_, rfl, _, rfl, p, _, dx, _, rfl, upd_same, T.c_Picture, T.n_Picture_height, (by show 1 < 1000; decide), ?_⟩
    rw [upd_upd]
    refine fun dp hdp => ?_
    have n1 : p ≠ dp := ne_of_none upd_same hdp
    refine ⟨_, rfl, p, _, dx, _, rfl, (by rw [upd_ne n1]; exact upd_same), T.c_Picture, T.n_Picture_placed, (by show 2 < 1000; decide), fun do_ hdo => ?_⟩
    have n2 : p ≠ do_ := ne_of_none upd_same hdo
    have n3 : dp ≠ do_ := ne_of_none (by rw [upd_ne (Ne.symm n1)]; exact upd_same) hdo
    refine ⟨_, rfl, p, _, dx, _, rfl, (by rw [upd_ne n2]; exact upd_same), T.c_Picture, T.n_Picture_opened, (by show 3 < 1000; decide), ?_⟩
    rw [upd_ne (Ne.symm n1)] at hdp
    have hdo' : H do_ = none := by
      have z := hdo
      rw [upd_ne (Ne.symm n2), upd_ne (Ne.symm n3), upd_ne (Ne.symm n2)] at z
      exact z
    refine q _ dp do_ hdp hdo' (fun b u nb e => ?_) ⟨⟨dx, upd_same⟩, ⟨[], ?_, .nil⟩, w1, w2, h1, h2, Nat.zero_le _⟩ ?_
    · have c1 : b ≠ dp := ne_of_none e hdp
      have c2 : b ≠ do_ := fun z => by
        subst z
        rw [upd_ne nb, upd_ne c1, upd_ne nb] at hdo
        rw [e] at hdo
        cases hdo
      rw [upd_ne nb, upd_ne c2, upd_ne nb, upd_ne c1, upd_ne nb]
      exact e
    · rw [upd_ne (Ne.symm n1), upd_ne n3, upd_ne (Ne.symm n1)]
      exact upd_same
    · rw [upd_ne (Ne.symm n2)]
      exact upd_same
theorem ok_Picture_check_cell (T : Txt w K mg t) : FnOk true P w K mg base (CXo P w) 2 t.f_Picture_check_cell t.d_Picture_check_cell ["self", "x", "y"] (spCC t) := by
  refine T.F_Picture_check_cell.okn (k := 1) sc_Picture_check_cell (fun vs H Q E h => ?_) (fun cdv A outer s H vs Q E hr h => ?_)
  · obtain ⟨a, dp, do_, pw, ph, ps, x, y, rfl, _⟩ := h
    rfl
  · obtain ⟨a, dp, do_, pw, ph, ps, x, y, rfl, h⟩ := h
    refine ⟨_, pss_one (ps_if (PW.pt (pw_or (pt_not (pt_val (pe_call (ok_is_whole T) (hr.mono (by decide)) rfl T.g_is_whole T.F_is_whole.kp T.b_is_whole .nil pass_none (pa_cons (pv 1) (pa_cons (pe_int) (pa_cons (pe_fld (pv 0) rfl) (pa_nil))))))) (pw_or1 (pt_not (pt_val (pe_call (ok_is_whole T) (hr.mono (by decide)) rfl T.g_is_whole T.F_is_whole.kp T.b_is_whole .nil pass_none (pa_cons (pv 2) (pa_cons (pe_int) (pa_cons (pe_fld (pv 0) rfl) (pa_nil)))))))))) (pss_one (ps_never)) (pss_nil)), ?_⟩
    obtain ⟨pic, x1, x2, y1, y2, q⟩ := h
    obtain ⟨⟨dx, hp⟩, _, _⟩ := id pic
    exact ⟨_, rfl, _, rfl, a, _, dx, _, _, rfl, hp, T.c_Picture, T.n_Picture_width, lkW, x, 1, pw, rfl, x1, x2, true, rfl, iteF ⟨_, rfl, _, rfl, a, _, dx, _, _, rfl, hp, T.c_Picture, T.n_Picture_height, lkH, y, 1, ph, rfl, y1, y2, true, rfl, iteF q⟩⟩
theorem ok_Picture_points (T : Txt w K mg t) : FnOk true P w K mg base (CXo P w) 1 t.f_Picture_points t.d_Picture_points ["self"] (spPts t) := by
  refine T.F_Picture_points.okn (k := 0) sc_Picture_points (fun vs H Q E h => ?_) (fun cdv A outer s H vs Q E hr h => ?_)
  · obtain ⟨a, dp, do_, pw, ph, ps, rfl, _⟩ := h
    rfl
  · obtain ⟨a, dp, do_, pw, ph, ps, rfl, h⟩ := h
    refine ⟨_, pss_one (ps_ret (pe_thaw (pe_compG rfl (blkG_of (zs := ["name", "rest"]) (ys := []) (fr := []) (N0 := ["self"]) (sc0 := defScope s_Picture_points) (by decide +kernel) rfl rfl rfl) (pi_items (pe_fld (pv 0) rfl)) (fun _ _ _ _ _ ow nd => (pg_tup rfl (pgs_cons (pg_name (i := 0) nd rfl (Or.inl (ow _ (by simp))) (Or.inr (ow _ (by simp)))) (pgs_cons (pg_name (i := 1) nd rfl (Or.inl (ow _ (by simp))) (Or.inr (ow _ (by simp)))) (pgs_nil))) : PG _ _ (gTup K 2 _))) (gok_tup (goks_cons (by decide) (goks_cons (by decide) (goks_nil)))) (fun _ _ _ _ _ => pif_nil) (fun _ _ _ _ _ => pe_op (r := rCatT K) op_catT (pe_tup (pa_cons (pv 0) (pa_nil))) (pv 1))))), ?_⟩
    obtain ⟨pic, q⟩ := h
    obtain ⟨⟨dx, hp⟩, ⟨kvs, hk, pl⟩, _⟩ := id pic
    refine ⟨_, rfl, a, _, dx, _, _, rfl, hp, T.c_Picture, T.n_Picture_placed, lkP, dp, kvs, rfl, hk, fun ob nf l hl => ?_⟩
    have nl : l ≠ dp := fun z => by
      rw [z, upd_same] at hl
      cases hl
    have hl0 : H l = none := by rwa [upd_ne nl] at hl
    refine compG_by kvs.length (fun i xs H2 => ∃ qs : List Addr, xs = qs.map V.ref ∧ qs.length ≤ i ∧ H2 dp = some (.frz ob (.dK kvs)) ∧ (∀ b u, b ≠ dp → H b = some u → H2 b = some u) ∧ H2 l = some (.lst xs) ∧ PtsL H2 (ps.take i) qs) ?_ ?_ ?_ ?_
    · refine ⟨[], rfl, Nat.le_refl _, ?_, fun b u nb e => ?_, upd_same, by simpa using PtsL.nil⟩
      · rw [upd_ne (Ne.symm nl)]
        exact upd_same
      · rw [upd_ne (ne_of_none e hl0), upd_ne nb]
        exact e
    · rintro i xs H2 lt ⟨qs, _, _, hd, _⟩
      exact ⟨hd, lt⟩
    · rintro i xs H2 v H3 lt ⟨qs, rfl, ql, hd, sm, hl2, pts⟩ ⟨p, k, x, hx, rfl, hpn, rfl⟩ N hN
      obtain ⟨pt, q0, hpt, rfl, rfl, hq0⟩ := pl.get hx
      have e0 : H2 q0 = some (.tup (ptV pt)) := sm _ _ (ne_of hq0 hk (fun z => nomatch z)) hq0
      refine ⟨p, _, rfl, SqT.of upd_same, rfl, _, _, rfl, _, _, rfl, rfl, ?_⟩
      refine tT_if ?_
      have n0 : q0 ≠ p := ne_of_none e0 hpn
      refine ⟨_, rfl, (by show 1 ≤ sizeLine; decide), fun p1 h1 => ⟨_, rfl, p1, q0, _, ptV pt, rfl, rfl, SqT.of upd_same, SqT.of ?_, (by simp), (by show 1 + 5 ≤ sizeLine; decide), (fun z => nomatch z), fun _ p2 h2 => ?_⟩⟩
      · rw [upd_ne (ne_of_none (by rw [upd_ne n0]; exact e0) h1), upd_ne n0]
        exact e0
      have up : ∀ b u, H2 b = some u → (upd (upd (upd H2 p (.tup [.str pt.nm, .ref q0])) p1 (.tup [.str pt.nm])) p2 (.tup ([.str pt.nm] ++ ptV pt))) b = some u := fun b u e => by
        have c1 : b ≠ p := ne_of_none e hpn
        have e1 : upd H2 p (.tup [.str pt.nm, .ref q0]) b = some u := by rw [upd_ne c1]; exact e
        have c2 : b ≠ p1 := ne_of_none e1 h1
        have e2 : upd (upd H2 p (.tup [.str pt.nm, .ref q0])) p1 (.tup [.str pt.nm]) b = some u := by rw [upd_ne c2]; exact e1
        rw [upd_ne (ne_of_none e2 h2)]
        exact e2
      have c3 : l ≠ p2 := ne_of_none (show upd (upd H2 p (.tup [.str pt.nm, .ref q0])) p1 (.tup [.str pt.nm]) l = some (.lst (qs.map V.ref)) from by
        have c1 : l ≠ p := ne_of_none hl2 hpn
        have e1 : upd H2 p (.tup [.str pt.nm, .ref q0]) l = some (.lst (qs.map V.ref)) := by rw [upd_ne c1]; exact hl2
        rw [upd_ne (ne_of_none e1 h1)]
        exact e1) h2
      have tk : ps.take (i + 1) = ps.take i ++ [pt] := by
        rw [List.take_add_one, hpt]
        rfl
      have ll : qs.length < sizeLine := Nat.lt_trans (by have := pl.len; have := pic.len; omega : qs.length < 13) (by decide)
      refine ⟨up _ _ hl2, by rw [List.length_map]; exact ll, hN _ _ ⟨qs ++ [p2], by simp, by simp; omega, ?_, fun b u nb e => ?_, upd_same, ?_⟩⟩
      · rw [upd_ne (Ne.symm nl)]
        exact up _ _ hd
      · have e2 := up _ _ (sm b u nb e)
        rw [upd_ne (ne_of_none e hl0)]
        exact e2
      · rw [tk]
        refine PtsL.snoc (PtsL.keep (fun b xs e => ?_) pts) ?_
        · have e2 := up _ _ e
          rw [upd_ne (ne_of e2 (up _ _ hl2) (fun z => nomatch z))]
          exact e2
        · rw [upd_ne (Ne.symm c3)]
          exact upd_same
    · rintro xs H2 ⟨qs, rfl, _, hd, sm, hl2, pts⟩
      refine ⟨⟨hd, Nat.le_refl _⟩, dp, ob, _, hd, nf, q _ l qs (fun b u e => ?_) ?_ (PtsL.keep (fun b xs e => ?_) (by rw [pl.len, List.take_length] at pts; exact pts))⟩
      · by_cases c : b = dp
        · subst c
          rw [hk] at e
          cases e
          exact upd_same
        · rw [upd_ne c]
          exact sm b u c e
      · rw [upd_ne nl]
        exact hl2
      · rw [upd_ne (ne_of e hd (fun z => nomatch z))]
        exact e
theorem ok_Picture_check_lines (T : Txt w K mg t) : FnOk true P w K mg base (CXo P w) 2 t.f_Picture_check_lines t.d_Picture_check_lines ["self", "name", "x", "y"] (spCL t) := by
  refine T.F_Picture_check_lines.okn (k := 1) sc_Picture_check_lines (fun vs H Q E h => ?_) (fun cdv A outer s H vs Q E hr h => ?_)
  · obtain ⟨a, dp, do_, pw, ph, ps, nm, x, y, rfl, _⟩ := h
    rfl
  · obtain ⟨a, dp, do_, pw, ph, ps, nm, x, y, rfl, h⟩ := h
    refine ⟨_, pss_cons (ps_setcG rfl (blkG_of (zs := ["other"]) (ys := ["name"]) (fr := [1]) (N0 := ["self", "name", "x", "y", "others", "other"]) (sc0 := defScope s_Picture_check_lines) (by decide +kernel) rfl rfl rfl) (pi_list (pe_meth0 (pv 0) T.c_Picture T.m_Picture_points (ok_Picture_points T) (hr.mono (by decide)) T.b_Picture_points .nil pass_none)) (fun _ _ _ _ _ ow nd => pg_name (i := 0) nd rfl (Or.inl (ow _ (by simp))) (Or.inr (ow _ (by simp)))) (gok_name (by decide)) (fun _ _ _ _ _ => pif_one (pt_cmpR op_ne (pe_ix (r := rIxT K) ix_tup (pv 0) (pe_int) (fun _ _ => rfl)) (pv 1) (nomark _))) (fun _ _ _ _ _ => pv 0) (j := 4) rfl (Or.inl rfl))
      (pss_cons (ps_for PassesOwn.never rfl (pi_list (pv 4)) (pg_name (i := 5) sc_Picture_check_lines.nd rfl (Or.inl rfl)) (pss_one (ps_if (pt_cmpR op_eq (pe_ix ix_tup (pv 5) (pe_int) (fun _ _ => rfl)) (pv 2) (nomark _)) (pss_one (ps_never)) (pss_nil))))
      (pss_one (ps_for PassesOwn.never rfl (pi_list (pv 4)) (pg_name (i := 5) sc_Picture_check_lines.nd rfl (Or.inl rfl)) (pss_one (ps_if (pt_cmpR op_eq (pe_ix ix_tup (pv 5) (pe_int) (fun _ _ => rfl)) (pv 3) (nomark _)) (pss_one (ps_never)) (pss_nil)))))), ?_⟩
    obtain ⟨pic, no, q⟩ := h
    obtain ⟨⟨dx, hp⟩, ⟨kvs, hk, pl⟩, _⟩ := id pic
    refine ⟨_, rfl, a, dx, _, rfl, hp, lk_no (by decide +kernel), a, dp, do_, pw, ph, ps, rfl, pic, fun H1 l1 qs s1 hl1 pt1 => ⟨l1, rfl, ⟨_, SqL.of hl1⟩, fun l hl => ?_⟩⟩
    refine compG_by qs.length (fun i xs H2 => ∃ os : List Addr, xs = os.map V.ref ∧ os.length ≤ i ∧ Same H1 H2 ∧ H2 l = some (.lst xs) ∧ ∀ o ∈ os, ∃ p ∈ ps, p.nm ≠ nm ∧ H1 o = some (.tup (.str p.nm :: ptV p))) ?_ ?_ ?_ ?_
    · exact ⟨[], rfl, Nat.le_refl _, same_upd (Same.refl _) hl, upd_same, fun o z => nomatch z⟩
    · rintro i xs H2 lt ⟨os, _, _, s2, _⟩
      exact ⟨_, .ref qs[i], SqL.of (s2 _ _ hl1), by simp [lt]⟩
    · rintro i xs H2 v H3 lt ⟨os, rfl, ol, s2, hl2, hos⟩ ⟨rfl, hv⟩ N hN
      have hv' := hv _ (SqL.of (s2 _ _ hl1))
      rw [List.getElem?_map] at hv'
      obtain ⟨o, ho, rfl⟩ := Option.map_eq_some_iff.mp hv'
      obtain ⟨p, hpp, ep⟩ := pt1.get ho
      refine ⟨_, rfl, o, _, 0, _, rfl, rfl, SqT.of (s2 _ _ ep), rfl, _, rfl, rfl, _, rfl, ite2 (fun c => ?_) (fun c => ?_)⟩
      · have cn : p.nm ≠ nm := fun z => by
          rw [z] at c
          simp at c
        refine ⟨_, rfl, hl2, (by rw [List.length_map]; exact Nat.lt_trans (by have := pt1.len; have := pic.len; omega : os.length < 13) (by decide)), hN _ _ ⟨os ++ [o], by simp, by simp; omega, ?_, upd_same, ?_⟩⟩
        · intro b u e
          by_cases cb : b = l
          · subst cb
            rw [e] at hl
            cases hl
          · rw [upd_ne cb]
            exact s2 b u e
        · intro o' ho'
          rcases List.mem_append.mp ho' with z | z
          · exact hos o' z
          · have := List.mem_singleton.mp z
            subst this
            exact ⟨p, List.mem_of_getElem? hpp, cn, ep⟩
      · exact hN _ _ ⟨os, rfl, by omega, s2, hl2, hos⟩
    · rintro xs H2 ⟨os, rfl, ol, s2, hl2, hos⟩
      refine ⟨⟨_, SqL.of (s2 _ _ hl1), by simp⟩, ?_⟩
      have loop : ∀ (o : Addr), o ∈ os → ∃ p ∈ ps, p.nm ≠ nm ∧ H2 o = some (.tup (.str p.nm :: ptV p)) := fun o ho => by
        obtain ⟨p, h1, h2, h3⟩ := hos o ho
        exact ⟨p, h1, h2, s2 _ _ h3⟩
      refine ⟨_, rfl, l, rfl, ⟨_, SqL.of hl2⟩, for_list (xs := os.map V.ref) (Pv := fun i σ H3 => ∃ v5 : Option V, σ = [some (.ref a), some (.str nm), some (.int x), some (.int y), some (.ref l), v5] ∧ H2 = H3) ⟨_, rfl, rfl⟩ (fun _ _ _ _ ⟨_, _, z⟩ => by rw [← z]; exact SqL.of hl2) ?_ ?_⟩
      · rintro i v σ _ hv ⟨v5, rfl, rfl⟩
        rw [List.getElem?_map] at hv
        obtain ⟨o, ho, rfl⟩ := Option.map_eq_some_iff.mp hv
        obtain ⟨p, m1, m2, m3⟩ := loop o (List.mem_of_getElem? ho)
        refine ⟨_, rfl, o, _, 1, _, rfl, rfl, SqT.of m3, rfl, _, rfl, rfl, _, rfl, ifN (decide_eq_false fun z => (no p m1 m2).1 (V.int.inj z)) ⟨_, rfl, rfl⟩⟩
      · rintro σ _ ⟨v5, rfl, rfl⟩
        refine ⟨_, rfl, l, rfl, ⟨_, SqL.of hl2⟩, for_list (xs := os.map V.ref) (Pv := fun i σ H3 => ∃ v5 : Option V, σ = [some (.ref a), some (.str nm), some (.int x), some (.int y), some (.ref l), v5] ∧ H2 = H3) ⟨_, rfl, rfl⟩ (fun _ _ _ _ ⟨_, _, z⟩ => by rw [← z]; exact SqL.of hl2) ?_ ?_⟩
        · rintro i v σ _ hv ⟨v5, rfl, rfl⟩
          rw [List.getElem?_map] at hv
          obtain ⟨o, ho, rfl⟩ := Option.map_eq_some_iff.mp hv
          obtain ⟨p, m1, m2, m3⟩ := loop o (List.mem_of_getElem? ho)
          refine ⟨_, rfl, o, _, 2, _, rfl, rfl, SqT.of m3, rfl, _, rfl, rfl, _, rfl, ifN (decide_eq_false fun z => (no p m1 m2).2 (V.int.inj z)) ⟨_, rfl, rfl⟩⟩
        · rintro σ _ ⟨v5, rfl, rfl⟩
          exact q _ (s1.trans s2)
theorem ok_Picture_check_seat (T : Txt w K mg t) : FnOk true P w K mg base (CXo P w) 4 t.f_Picture_check_seat t.d_Picture_check_seat ["self", "side", "row"] (spCS t) := by
  refine T.F_Picture_check_seat.okn (k := 3) sc_Picture_check_seat (fun vs H Q E h => ?_) (fun cdv A outer s H vs Q E hr h => ?_)
  · obtain ⟨a, dp, do_, pw, ph, ps, b, r, rfl, _⟩ := h
    rfl
  · obtain ⟨a, dp, do_, pw, ph, ps, b, r, rfl, h⟩ := h
    refine ⟨_, pss_cons (ps_expr (pe_call (ok_side_of T) (hr.mono (by decide)) rfl T.g_side_of T.F_side_of.kp T.b_side_of .nil pass_none (pa_cons (pv 1) (pa_cons (pe_fld (pv 0) rfl) (pa_nil)))))
      (pss_one (ps_if (pt_not (pt_val (pe_call (ok_is_whole T) (hr.mono (by decide)) rfl T.g_is_whole T.F_is_whole.kp T.b_is_whole .nil pass_none (pa_cons (pv 2) (pa_cons (pe_int) (pa_cons (pe_fld (pv 0) rfl) (pa_nil))))))) (pss_one (ps_never)) (pss_nil))), ?_⟩
    obtain ⟨pic, r1, r2, q⟩ := h
    obtain ⟨⟨dx, hp⟩, _, _⟩ := id pic
    refine ⟨_, rfl, _, rfl, a, _, dx, _, _, rfl, hp, T.c_Picture, T.n_Picture_width, lkW, b, pw, rfl, fun p H1 hp1 sd1 s1 => ?_⟩
    exact ⟨_, rfl, _, rfl, a, _, dx, _, _, rfl, (s1 _ _ hp), T.c_Picture, T.n_Picture_height, lkH, r, 1, ph, rfl, r1, r2, true, rfl, iteF (q H1 s1)⟩
theorem ok_Picture_put (T : Txt w K mg t) : FnOk true P w K mg base (CXo P w) 3 t.f_Picture_put t.d_Picture_put ["self", "name", "x", "y", "sides", "low", "high"] (spPut t) := by
  refine T.F_Picture_put.okn (k := 2) sc_Picture_put (fun vs H Q E h => ?_) (fun cdv A outer s H vs Q E hr h => ?_)
  · obtain ⟨a, dp, do_, pw, ph, ps, nm, x, y, sd, lo, hi, hv, rfl, _⟩ := h
    rfl
  · obtain ⟨a, dp, do_, pw, ph, ps, nm, x, y, sd, lo, hi, hv, rfl, h⟩ := h
    refine ⟨_, pss_cons (ps_set (i := 7) sc_Picture_put.nd rfl (Or.inl rfl) (pe_ifExp (pt_cmpR op_isN (pv 6) (pe_non) (nomark _)) (pe_fld (pv 0) rfl) (pv 6)))
      (pss_cons (ps_if (pt_not (pt_val (pe_call (ok_is_name T) (hr.mono (by decide)) rfl T.g_is_name T.F_is_name.kp T.b_is_name .nil pass_none (pa_cons (pv 1) (pa_nil))))) (pss_one (ps_never)) (pss_nil))
      (pss_cons (ps_expr (pe_meth (pv 0) T.c_Picture T.m_Picture_check_cell (ok_Picture_check_cell T) (hr.mono (by decide)) T.b_Picture_check_cell .nil pass_none (pa_cons (pv 2) (pa_cons (pv 3) (pa_nil)))))
      (pss_cons (ps_if (PW.pt (pw_or (pt_not (pt_val (pe_callB call_isin rfl T.n_isinstance boot_isinstance (pa_cons (pv 4) (pa_cons (pe_bltn (v := .ty "str") rfl T.n_str boot_str rfl) (pa_nil)))))) (pw_or1 (pt_cmp (pc_gnotin (pv 4) rfl T.g_MIRRORED_SIDES T.D_MIRRORED_SIDES))))) (pss_one (ps_never)) (pss_nil))
      (pss_cons (ps_if (PW.pt (pw_or (pt_not (pt_val (pe_call (ok_is_whole T) (hr.mono (by decide)) rfl T.g_is_whole T.F_is_whole.kp T.b_is_whole .nil pass_none (pa_cons (pv 5) (pa_cons (pe_int) (pa_cons (pe_fld (pv 0) rfl) (pa_nil))))))) (pw_or1 (pt_not (pt_val (pe_call (ok_is_whole T) (hr.mono (by decide)) rfl T.g_is_whole T.F_is_whole.kp T.b_is_whole .nil pass_none (pa_cons (pv 7) (pa_cons (pv 5) (pa_cons (pe_fld (pv 0) rfl) (pa_nil)))))))))) (pss_one (ps_never)) (pss_nil))
      (pss_cons (ps_if (pt_cmp (pc_din (hu_of hr) (pv 1) (pe_fld (pv 0) rfl))) (pss_one (ps_never)) (pss_nil))
      (pss_cons (ps_if (pt_cmpR op_ge (pe_callB call_lenD rfl T.n_len boot_len (pa_cons (pe_fld (pv 0) rfl) (pa_nil))) (pe_glob (v := .int 12) rfl T.v_MOST_POINTS.choose_spec ⟨_, rfl⟩) (nomark _)) (pss_one (ps_never)) (pss_nil))
      (pss_cons (ps_expr (pe_meth (pv 0) T.c_Picture T.m_Picture_check_lines (ok_Picture_check_lines T) (hr.mono (by decide)) T.b_Picture_check_lines .nil pass_none (pa_cons (pv 1) (pa_cons (pv 2) (pa_cons (pv 3) (pa_nil))))))
      (pss_one (ps_dput (hu_of hr) (pe_fld (pv 0) rfl) (pv 1) (pe_tup (pa_cons (pv 2) (pa_cons (pv 3) (pa_cons (pv 4) (pa_cons (pv 5) (pa_cons (pv 7) (pa_nil))))))) rfl))))))))), ?_⟩
    obtain ⟨pic, hhv, hn, x1, x2, y1, y2, hsd, l1, l2, l3, no, len, q⟩ := h
    obtain ⟨⟨dx, hp⟩, ⟨kvs, hk, pl⟩, _⟩ := id pic
    have hsd' : (valV ([(Sum.inr "left", V.str "right"), (Sum.inr "right", V.str "left"), (Sum.inr "both", V.str "both")] : List (Key × V)) (Sum.inr sd)).isSome = true := by
      rcases hsd with rfl | rfl | rfl <;> decide +kernel
    rcases hhv with ⟨rfl, e⟩ | rfl
    · obtain rfl := e.symm
      refine ⟨_, rfl, rfl, _, rfl, ifP (by rfl) ⟨_, rfl, a, _, dx, _, _, rfl, hp, T.c_Picture, T.n_Picture_height, lkH, ?_⟩⟩
      refine ⟨_, rfl, nm, rfl, hn, true, rfl, iteF ?_⟩
      refine ⟨_, rfl, a, dx, _, rfl, hp, lk_no (by decide +kernel), _, rfl, _, rfl, a, dp, do_, pw, ph, ps, x, y, rfl, pic, x1, x2, y1, y2, ?_⟩
      refine ⟨_, rfl, _, _, rfl, .inl ⟨_, _, true, .str _, rfl, kit_same, true, rfl, iteF ⟨_, rfl, .inr sd, rfl, false, (by rw [hsd']; rfl), iteF ?_⟩⟩⟩
      refine ⟨_, rfl, _, rfl, a, _, dx, _, _, rfl, hp, T.c_Picture, T.n_Picture_height, lkH, lo, 1, ph, rfl, l1, (by omega), true, rfl, iteF ⟨_, rfl, _, rfl, _, rfl, a, _, dx, _, _, rfl, hp, T.c_Picture, T.n_Picture_height, lkH, ph, lo, ph, rfl, (by omega), (by omega), true, rfl, iteF ?_⟩⟩
      refine ⟨_, rfl, _, rfl, a, _, dx, _, _, rfl, hp, T.c_Picture, T.n_Picture_placed, lkP, dp, none, rfl, (by rw [← pl.no (nm := nm) (fun p hp => (no p hp).1)]; exact DGet.k (k := .inr nm) hk), false, rfl, iteF ?_⟩
      refine ⟨_, rfl, a, _, dx, _, _, rfl, hp, T.c_Picture, T.n_Picture_placed, lkP, dp, kvs, rfl, hk, _, _, rfl, rfl, _, rfl, ifN (decide_eq_false (by have := pl.len; omega)) ?_⟩
      refine ⟨_, rfl, a, dx, _, rfl, hp, lk_no (by decide +kernel), _, rfl, _, rfl, _, rfl, a, dp, do_, pw, ph, ps, nm, x, y, rfl, pic, fun p hp _ => (no p hp).2, fun H1 s1 => ?_⟩
      refine ⟨_, rfl, _, rfl, _, rfl, _, rfl, _, rfl, (by show 5 ≤ sizeLine; decide), fun q1 hq1 => ?_⟩
      have hp1 : upd H1 q1 (.tup [.int x, .int y, .str sd, .int lo, .int ph]) a = some (.ins t.C_Picture dx (picF pw ph dp do_)) := by rw [upd_ne (ne_of_none (s1 _ _ hp) hq1)]; exact s1 _ _ hp
      have hk1 : upd H1 q1 (.tup [.int x, .int y, .str sd, .int lo, .int ph]) dp = some (.dK kvs) := by rw [upd_ne (ne_of_none (s1 _ _ hk) hq1)]; exact s1 _ _ hk
      refine ⟨_, rfl, a, _, dx, _, _, rfl, hp1, T.c_Picture, T.n_Picture_placed, lkP, _, rfl, dp, _, rfl, DPut.k (k := .inr nm) hk1 (Nat.lt_trans (by have := pl.len; omega : kvs.length < 12) (by decide)), ?_⟩
      rw [putK_new (.ref q1) (pl.no (nm := nm) (fun p hp => (no p hp).1))]
      have nq : q1 ≠ dp := fun z => by
        subst z
        rw [s1 _ _ hk] at hq1
        cases hq1
      refine q _ (fun b u nb e => ?_) ⟨⟨dx, ?_⟩, ⟨_, upd_same, Pl.snoc (p := ⟨nm, x, y, sd, lo, ph⟩) (pl.keep (fun b xs e => ?_)) ?_⟩, pic.w1, pic.w2, pic.h1, pic.h2, (by rw [List.length_append]; exact len)⟩
      · rw [upd_ne nb, upd_ne (ne_of_none (s1 _ _ e) hq1)]
        exact s1 _ _ e
      · rw [upd_ne (ne_of hp1 hk1 (fun z => nomatch z))]
        exact hp1
      · have e' := s1 _ _ e
        rw [upd_ne (ne_of e' (s1 _ _ hk) (fun z => nomatch z)), upd_ne (ne_of_none e' hq1)]
        exact e'
      · rw [upd_ne nq]
        exact upd_same
    · refine ⟨_, rfl, rfl, _, rfl, ifN (by rfl) ⟨_, rfl, ?_⟩⟩
      refine ⟨_, rfl, nm, rfl, hn, true, rfl, iteF ?_⟩
      refine ⟨_, rfl, a, dx, _, rfl, hp, lk_no (by decide +kernel), _, rfl, _, rfl, a, dp, do_, pw, ph, ps, x, y, rfl, pic, x1, x2, y1, y2, ?_⟩
      refine ⟨_, rfl, _, _, rfl, .inl ⟨_, _, true, .str _, rfl, kit_same, true, rfl, iteF ⟨_, rfl, .inr sd, rfl, false, (by rw [hsd']; rfl), iteF ?_⟩⟩⟩
      refine ⟨_, rfl, _, rfl, a, _, dx, _, _, rfl, hp, T.c_Picture, T.n_Picture_height, lkH, lo, 1, ph, rfl, l1, (by omega), true, rfl, iteF ⟨_, rfl, _, rfl, _, rfl, a, _, dx, _, _, rfl, hp, T.c_Picture, T.n_Picture_height, lkH, hi, lo, ph, rfl, (by omega), (by omega), true, rfl, iteF ?_⟩⟩
      refine ⟨_, rfl, _, rfl, a, _, dx, _, _, rfl, hp, T.c_Picture, T.n_Picture_placed, lkP, dp, none, rfl, (by rw [← pl.no (nm := nm) (fun p hp => (no p hp).1)]; exact DGet.k (k := .inr nm) hk), false, rfl, iteF ?_⟩
      refine ⟨_, rfl, a, _, dx, _, _, rfl, hp, T.c_Picture, T.n_Picture_placed, lkP, dp, kvs, rfl, hk, _, _, rfl, rfl, _, rfl, ifN (decide_eq_false (by have := pl.len; omega)) ?_⟩
      refine ⟨_, rfl, a, dx, _, rfl, hp, lk_no (by decide +kernel), _, rfl, _, rfl, _, rfl, a, dp, do_, pw, ph, ps, nm, x, y, rfl, pic, fun p hp _ => (no p hp).2, fun H1 s1 => ?_⟩
      refine ⟨_, rfl, _, rfl, _, rfl, _, rfl, _, rfl, (by show 5 ≤ sizeLine; decide), fun q1 hq1 => ?_⟩
      have hp1 : upd H1 q1 (.tup [.int x, .int y, .str sd, .int lo, .int hi]) a = some (.ins t.C_Picture dx (picF pw ph dp do_)) := by rw [upd_ne (ne_of_none (s1 _ _ hp) hq1)]; exact s1 _ _ hp
      have hk1 : upd H1 q1 (.tup [.int x, .int y, .str sd, .int lo, .int hi]) dp = some (.dK kvs) := by rw [upd_ne (ne_of_none (s1 _ _ hk) hq1)]; exact s1 _ _ hk
      refine ⟨_, rfl, a, _, dx, _, _, rfl, hp1, T.c_Picture, T.n_Picture_placed, lkP, _, rfl, dp, _, rfl, DPut.k (k := .inr nm) hk1 (Nat.lt_trans (by have := pl.len; omega : kvs.length < 12) (by decide)), ?_⟩
      rw [putK_new (.ref q1) (pl.no (nm := nm) (fun p hp => (no p hp).1))]
      have nq : q1 ≠ dp := fun z => by
        subst z
        rw [s1 _ _ hk] at hq1
        cases hq1
      refine q _ (fun b u nb e => ?_) ⟨⟨dx, ?_⟩, ⟨_, upd_same, Pl.snoc (p := ⟨nm, x, y, sd, lo, hi⟩) (pl.keep (fun b xs e => ?_)) ?_⟩, pic.w1, pic.w2, pic.h1, pic.h2, (by rw [List.length_append]; exact len)⟩
      · rw [upd_ne nb, upd_ne (ne_of_none (s1 _ _ e) hq1)]
        exact s1 _ _ e
      · rw [upd_ne (ne_of hp1 hk1 (fun z => nomatch z))]
        exact hp1
      · have e' := s1 _ _ e
        rw [upd_ne (ne_of e' (s1 _ _ hk) (fun z => nomatch z)), upd_ne (ne_of_none e' hq1)]
        exact e'
      · rw [upd_ne nq]
        exact upd_same
end
end S66
set_option maxRecDepth 100000
set_option maxHeartbeats 4000000
namespace S66
open PySem L2 XL PyProof.Rows
theorem lkO {w h : Int} {dp do_ : Addr} : (picF w h dp do_).lookup ("opened" : Str) = some (.ref do_) := by
  unfold picF
  rw [List.lookup_cons, show (("opened" : Str) == "width") = false from by decide +kernel]
  show List.lookup ("opened" : Str) [("height", V.int h), ("placed", V.ref dp), ("opened", V.ref do_)] = _
  rw [List.lookup_cons, show (("opened" : Str) == "height") = false from by decide +kernel]
  show List.lookup ("opened" : Str) [("placed", V.ref dp), ("opened", V.ref do_)] = _
  rw [List.lookup_cons, show (("opened" : Str) == "placed") = false from by decide +kernel]
  show List.lookup ("opened" : Str) [("opened", V.ref do_)] = _
  rw [List.lookup_cons, show (("opened" : Str) == "opened") = true from by decide +kernel]
abbrev Seat := Bool × Int
def seatK (s : Seat) : List Key := [.inr (sideW s.1), .inl s.2]
def seatV (s : Seat) : List V := [.str (sideW s.1), .int s.2]
theorem sideW_inj {a b : Bool} (h : sideW a = sideW b) : a = b := by
  cases a <;> cases b <;> first | rfl | exact absurd h (by decide +kernel)
theorem seatK_inj {s t : Seat} (h : seatK s = seatK t) : s = t := by
  simp only [seatK, List.cons.injEq, Sum.inr.injEq, Sum.inl.injEq] at h
  exact Prod.ext (sideW_inj h.1) h.2.1
def Sts (H : Hp) (do_ : Addr) (ss : List Seat) : Prop := ∃ kvs : List (List Key × V), H do_ = some (.dT kvs) ∧ kvs.map (·.1) = ss.map seatK ∧ ss.Nodup ∧ ss.length ≤ 32
theorem val_no {kvs : List (List Key × V)} {ss : List Seat} (e : kvs.map (·.1) = ss.map seatK) {s : Seat} (h : s ∉ ss) : valV kvs (seatK s) = none := by
  cases z : valV kvs (seatK s) with
  | none => rfl
  | some v =>
    obtain ⟨i, hi⟩ := valV_ix z
    have m : seatK s ∈ kvs.map (·.1) := List.mem_map.mpr ⟨_, List.mem_of_getElem? hi, rfl⟩
    rw [e] at m
    obtain ⟨t, ht, et⟩ := List.mem_map.mp m
    exact absurd ht (by rw [seatK_inj et]; exact h)
def spOpen (t : Adr) : Sp := fun vs H Q _ => ∃ (a dp do_ : Addr) (pw ph : Int) (ps : List Pt) (ss : List Seat) (b : Bool) (r : Int), vs = [.ref a, .str (sideW b), .int r] ∧ Pic t H a dp do_ pw ph ps ∧ Sts H do_ ss ∧ 1 ≤ r ∧ r ≤ ph ∧ (b, r) ∉ ss ∧ ss.length < 32 ∧
  ∀ H', (∀ c u, c ≠ do_ → H c = some u → H' c = some u) → Pic t H' a dp do_ pw ph ps → Sts H' do_ (ss ++ [(b, r)]) → Q .non H'
theorem Pic.but {t : Adr} {H H' : Hp} {a dp do_ : Addr} {w h : Int} {ps : List Pt} {kvs : List (List Key × V)} (e : H do_ = some (.dT kvs)) (s : ∀ c u, c ≠ do_ → H c = some u → H' c = some u) (p : Pic t H a dp do_ w h ps) : Pic t H' a dp do_ w h ps :=
  ⟨let ⟨dx, x⟩ := p.ins; ⟨dx, s _ _ (ne_of x e (fun z => nomatch z)) x⟩, let ⟨k, x, q⟩ := p.pl; ⟨k, s _ _ (ne_of x e (fun z => nomatch z)) x, q.keep fun b xs x => s _ _ (ne_of x e (fun z => nomatch z)) x⟩, p.w1, p.w2, p.h1, p.h2, p.len⟩
section
variable {P : Program} {w : World} {K : PySem.W.Frag} {mg : Str → Option Value} {base : Heap} {t : Adr}
theorem ok_Picture_open_seat (T : Txt w K mg t) : FnOk true P w K mg base (CXo P w) 5 t.f_Picture_open_seat t.d_Picture_open_seat ["self", "side", "row"] (spOpen t) := by
  refine T.F_Picture_open_seat.okn (k := 4) sc_Picture_open_seat (fun vs H Q E h => ?_) (fun cdv A outer s H vs Q E hr h => ?_)
  · obtain ⟨a, dp, do_, pw, ph, ps, ss, b, r, rfl, _⟩ := h
    rfl
  · obtain ⟨a, dp, do_, pw, ph, ps, ss, b, r, rfl, h⟩ := h
    refine ⟨_, pss_cons (ps_expr (pe_meth (pv 0) T.c_Picture T.m_Picture_check_seat (ok_Picture_check_seat T) (hr.mono (by decide)) T.b_Picture_check_seat .nil pass_none (pa_cons (pv 1) (pa_cons (pv 2) (pa_nil)))))
      (pss_cons (ps_if (pt_cmp (pc_din (hu_of hr) (pe_tup (pa_cons (pv 1) (pa_cons (pv 2) (pa_nil)))) (pe_fld (pv 0) rfl))) (pss_one (ps_never)) (pss_nil))
      (pss_one (ps_dput (hu_of hr) (pe_fld (pv 0) rfl) (pe_tup (pa_cons (pv 1) (pa_cons (pv 2) (pa_nil)))) (pe_bl) rfl))), ?_⟩
    obtain ⟨pic, st, r1, r2, no, len, q⟩ := h
    obtain ⟨⟨dx, hp⟩, _, _⟩ := id pic
    obtain ⟨kvs, hk, ek, nd, l32⟩ := id st
    refine ⟨_, rfl, a, dx, _, rfl, hp, lk_no (by decide +kernel), _, rfl, _, rfl, a, dp, do_, pw, ph, ps, b, r, rfl, pic, r1, r2, fun H1 s1 => ?_⟩
    refine ⟨_, rfl, _, rfl, (by show 2 ≤ sizeLine; decide), fun q1 hq1 => ?_⟩
    have s2 : Same H1 (upd H1 q1 (.tup [.str (sideW b), .int r])) := same_upd (Same.refl _) hq1
    have g2 : upd H1 q1 (.tup [.str (sideW b), .int r]) q1 = some (.tup [.str (sideW b), .int r]) := upd_same
    revert s2 g2
    generalize upd H1 q1 (.tup [.str (sideW b), .int r]) = H2
    intro s2 g2
    have hk2 := s2 _ _ (s1 _ _ hk)
    have hp2 := s2 _ _ (s1 _ _ hp)
    have n0 : valV kvs (seatK (b, r)) = none := val_no ek no
    refine ⟨_, rfl, a, _, dx, _, _, rfl, hp2, T.c_Picture, T.n_Picture_opened, lkO, do_, none, rfl, (by rw [← n0]; exact DGet.t (k := seatK (b, r)) hk2 g2), false, rfl, iteF ?_⟩
    refine ⟨_, rfl, a, _, dx, _, _, rfl, hp2, T.c_Picture, T.n_Picture_opened, lkO, _, rfl, _, rfl, (by show 2 ≤ sizeLine; decide), fun q3 hq3 => ?_⟩
    have s3 : Same H2 (upd H2 q3 (.tup [.str (sideW b), .int r])) := same_upd (Same.refl _) hq3
    have g3 : upd H2 q3 (.tup [.str (sideW b), .int r]) q3 = some (.tup [.str (sideW b), .int r]) := upd_same
    revert s3 g3
    generalize upd H2 q3 (.tup [.str (sideW b), .int r]) = H3
    intro s3 g3
    have kl : kvs.length = ss.length := by
      have := congrArg List.length ek
      simpa using this
    refine ⟨do_, _, rfl, DPut.t (k := seatK (b, r)) (s3 _ _ hk2) g3 (Nat.lt_trans (by omega : kvs.length < 33) (by decide)), ?_⟩
    have bt : ∀ c u, c ≠ do_ → H c = some u → upd H3 do_ (.dT (putK kvs (seatK (b, r)) (.bl true))) c = some u := fun c u nc e => by
      rw [upd_ne nc]
      exact s3 _ _ (s2 _ _ (s1 _ _ e))
    refine q _ bt (Pic.but hk bt pic) ⟨_, upd_same, ?_, ?_, ?_⟩
    · rw [putK_new _ n0, List.map_append, List.map_append, ek]
      rfl
    · rw [List.nodup_append]
      exact ⟨nd, by simp, fun x hx y hy => by rw [List.mem_singleton.mp hy]; exact fun e => no (e ▸ hx)⟩
    · rw [List.length_append]
      show ss.length + 1 ≤ 32
      omega
end
end S66
set_option maxRecDepth 100000
set_option maxHeartbeats 4000000
namespace S66
open PySem L2 XL PyProof.Rows
theorem nd_map {α β : Type} {f : α → β} (inj : ∀ a b, f a = f b → a = b) {l : List α} (h : l.Nodup) : (l.map f).Nodup := by
  rw [List.nodup_iff_pairwise_ne, List.pairwise_map]
  exact h.imp fun hne e => hne (inj _ _ e)
def ptD (p : Pt) : DV := .tup [.str p.nm, .int p.x, .int p.y, .str p.sd, .int p.lo, .int p.hi]
theorem dv_pt {K : PySem.W.Frag} {H : Hp} {q : Addr} {p : Pt} (h : H q = some (.tup (.str p.nm :: ptV p))) : Dv K H 1 (.ref q) (ptD p) := by
  refine .tup (SqT.of h) rfl fun j x d h1 h2 => ?_
  match j, h1, h2 with
  | 0, h1, h2 => cases h1; cases h2; exact .str
  | 1, h1, h2 => cases h1; cases h2; exact .int
  | 2, h1, h2 => cases h1; cases h2; exact .int
  | 3, h1, h2 => cases h1; cases h2; exact .str
  | 4, h1, h2 => cases h1; cases h2; exact .int
  | 5, h1, h2 => cases h1; cases h2; exact .int
  | j + 6, h1, h2 => simp [ptV] at h1
theorem PtsL.dv {K : PySem.W.Frag} {H : Hp} {ps : List Pt} {qs : List Addr} (h : PtsL H ps qs) {l : Addr} (e : H l = some (.lst (qs.map V.ref))) : Dv K H 2 (.ref l) (.lst (ps.map ptD)) := by
  refine .lst (SqL.of e) (by rw [List.length_map, List.length_map, h.len]) fun j x d h1 h2 => ?_
  rw [List.getElem?_map] at h1 h2
  obtain ⟨q, hq, rfl⟩ := Option.map_eq_some_iff.mp h1
  obtain ⟨p, hp, rfl⟩ := Option.map_eq_some_iff.mp h2
  obtain ⟨p', hp', e'⟩ := h.get hq
  rw [hp] at hp'
  cases hp'
  exact dv_pt e'
section
variable {P : Program} {w : World} {K : PySem.W.Frag} {mg : Str → Option Value} {base : Heap} {t : Adr}
end
end S66
set_option maxRecDepth 100000
set_option maxHeartbeats 4000000
namespace S66
open PySem L2 XL PyProof.Rows
inductive Er where
  | tooTall (v0 : V)
def Er.cls (t : Adr) : Er → Addr
  | .tooTall _ => t.C_TooTall
def Er.fs : Er → List (Str × V)
  | .tooTall v0 => [("side", v0)]
def ErAt (t : Adr) (H : Hp) (e : Addr) (er : Er) : Prop := (er.fs = [] ∧ H e = some (XO e (er.cls t) none)) ∨ (er.fs ≠ [] ∧ ∃ dx, H e = some (XO e (er.cls t) (some dx)) ∧ H dx = some (XD dx er.fs))
def RaisedE (t : Adr) (H H' : Hp) (e : Addr) (er : Er) : Prop := Same H H' ∧ ErAt t H' e er
theorem RaisedE.pre {t : Adr} {H H1 H' : Hp} {e : Addr} {er : Er} (s : Same H H1) (h : RaisedE t H1 H' e er) : RaisedE t H H' e er := ⟨s.trans h.1, h.2⟩
def spX1 (C : Addr) (f : Str) : Sp := fun vs H Q _ => ∃ (e : Addr) (v : V), vs = [.ref e, v] ∧ H e = some (XN e C none) ∧ ∀ dx, H dx = none → Q .non (upd (upd H dx (XD dx [(f, v)])) e (XN e C (some dx)))
theorem lk_1 {f : Str} {v : V} {r : List (Str × V)} : ((f, v) :: r).lookup f = some v := by simp
theorem raised1 {t : Adr} {H : Hp} {e dx C : Addr} {er : Er} {fs : List (Str × V)} (hc : er.cls t = C) (hf : er.fs = fs) (he : H e = none) (hdx : upd H e (XN e C none) dx = none) (hn : fs ≠ [] := by (intro z; cases z)) : RaisedE t H (upd (upd (upd (upd H e (XN e C none)) dx (XD dx fs)) e (XN e C (some dx))) e (XO e C (some dx))) e er := by
  have ne : dx ≠ e := fun z => by rw [z, upd_same] at hdx; cases hdx
  rw [upd_ne ne] at hdx
  subst hc hf
  refine ⟨fun y o q => ?_, .inr ⟨hn, dx, upd_same, ?_⟩⟩
  · rw [upd_ne (ne_of_none q he), upd_ne (ne_of_none q he), upd_ne (ne_of_none q hdx), upd_ne (ne_of_none q he)]
    exact q
  · rw [upd_ne ne, upd_ne ne, upd_same]
section
variable {P : Program} {w : World} {K : PySem.W.Frag} {mg : Str → Option Value} {base : Heap} {t : Adr}
theorem ok_TooTall_init (T : Txt w K mg t) : FnOk true P w K mg base (CXo P w) 1 t.f_TooTall_init t.d_TooTall_init ["self", "side"] (spX1 t.C_TooTall "side") := by
  refine T.F_TooTall_init.okn (k := 0) sc_TooTall_init (fun vs H Q E h => ?_) (fun cdv A outer s H vs Q E hr h => ?_)
  · obtain ⟨e, v, rfl, _⟩ := h
    rfl
  · obtain ⟨e, v, rfl, h⟩ := h
    refine ⟨_, pss_one (ps_xfld (pv 0) (pv 1) rfl), ?_⟩
    obtain ⟨he, q⟩ := h
    exact ⟨_, rfl, _, rfl, e, t.C_TooTall, rfl, T.x_TooTall, T.n_TooTall_side, .inl ⟨he, q⟩⟩
end
end S66
set_option maxRecDepth 100000
set_option maxHeartbeats 4000000
namespace S66
open PySem L2 XL PyProof.Rows
open Sprd
inductive F2 {α : Type} (R : α → Addr → Prop) : List α → List Addr → Prop
  | nil : F2 R [] []
  | cons {x : α} {q : Addr} {xs : List α} {qs : List Addr} (h : R x q) (r : F2 R xs qs) : F2 R (x :: xs) (q :: qs)
theorem F2.mono {α : Type} {R S : α → Addr → Prop} (f : ∀ x q, R x q → S x q) {xs : List α} {qs : List Addr} (h : F2 R xs qs) : F2 S xs qs := by
  induction h with
  | nil => exact .nil
  | cons h _ ih => exact .cons (f _ _ h) ih
theorem F2.len {α : Type} {R : α → Addr → Prop} {xs : List α} {qs : List Addr} (h : F2 R xs qs) : qs.length = xs.length := by
  induction h with
  | nil => rfl
  | cons _ _ ih => simp [ih]
theorem F2.snoc {α : Type} {R : α → Addr → Prop} {xs : List α} {qs : List Addr} (h : F2 R xs qs) {x : α} {q : Addr} (e : R x q) : F2 R (xs ++ [x]) (qs ++ [q]) := by
  induction h with
  | nil => exact .cons e .nil
  | cons h _ ih => exact .cons h ih
theorem F2.get {α : Type} {R : α → Addr → Prop} {xs : List α} {qs : List Addr} (h : F2 R xs qs) {i : Nat} {x : α} (e : xs[i]? = some x) : ∃ q, qs[i]? = some q ∧ R x q := by
  induction h generalizing i with
  | nil => simp at e
  | @cons y q ys qs h _ ih =>
    cases i with
    | zero =>
      simp at e
      subst e
      exact ⟨q, rfl, h⟩
    | succ j => exact ih (by simpa using e)
theorem F2.get' {α : Type} {R : α → Addr → Prop} {xs : List α} {qs : List Addr} (h : F2 R xs qs) {i : Nat} {q : Addr} (e : qs[i]? = some q) : ∃ x, xs[i]? = some x ∧ R x q := by
  induction h generalizing i with
  | nil => simp at e
  | @cons y q' ys qs h _ ih =>
    cases i with
    | zero =>
      simp at e
      subst e
      exact ⟨y, rfl, h⟩
    | succ j => exact ih (by simpa using e)
theorem F2.last {α : Type} {R : α → Addr → Prop} {xs : List α} {qs : List Addr} (h : F2 R xs qs) {x : α} (e : xs.getLast? = some x) : ∃ rs q, qs = rs ++ [q] ∧ R x q := by
  rw [List.getLast?_eq_getElem?] at e
  obtain ⟨q, hq, r⟩ := h.get e
  have hl := h.len
  have : qs.getLast? = some q := by rw [List.getLast?_eq_getElem?, hl]; exact hq
  obtain ⟨rs, e⟩ := List.getLast?_eq_some_iff.mp this
  exact ⟨rs, q, e, r⟩
def isNt (H : Hp) (n : Nt) (q : Addr) : Prop := H q = some (.tup [.int n.h, .int n.lo, .int n.hi, .int n.ws])
abbrev Any : Addr → Prop := fun _ => True
def isWy (S : Addr → Prop) (H : Hp) (w : Way) (q : Addr) : Prop := ∃ l, S l ∧ H q = some (.tup [.int w.e, .int w.s, .ref l]) ∧ H l = some (.lst (w.ps.map V.int))
structure okN (n : Nt) : Prop where
  h1 : 1 ≤ n.h
  h2 : n.h ≤ 9
  l1 : -99 ≤ n.lo
  l2 : n.lo ≤ 99
  u1 : -99 ≤ n.hi
  u2 : n.hi ≤ 99
  w1 : -99 ≤ n.ws
  w2 : n.ws ≤ 99
structure Nts (H : Hp) (l : Addr) (qs : List Addr) (ns : List Nt) : Prop where
  at_ : H l = some (.lst (qs.map V.ref))
  f2 : F2 (isNt H) ns qs
  ok : ∀ n ∈ ns, okN n
  len : ns.length ≤ 12
theorem isNt.same {H H' : Hp} (s : Same H H') (n : Nt) (q : Addr) (h : isNt H n q) : isNt H' n q := s _ _ h
theorem isWy.same {H H' : Hp} {S : Addr → Prop} (s : Same H H') (w : Way) (q : Addr) (h : isWy S H w q) : isWy S H' w q := let ⟨l, a, b, c⟩ := h; ⟨l, a, s _ _ b, s _ _ c⟩
def nt0 : Nt := ⟨1, 0, 0, 0⟩
def NN (ns : List Nt) (i : Nat) : Nt := ns.getD i nt0
theorem atI_1 {α : Type} {a b : α} {r : List α} : atI (a :: b :: r) 1 = some b := atI_nat (j := 1) rfl
theorem atI_2 {α : Type} {a b c : α} {r : List α} : atI (a :: b :: c :: r) 2 = some c := atI_nat (j := 2) rfl
theorem atI_0 {α : Type} {a : α} {r : List α} : atI (a :: r) 0 = some a := atI_nat (j := 0) rfl
def hh (ns : List Nt) (i : Nat) : Int := (NN ns i).h
section
variable {P : Program} {w : World} {K : PySem.W.Frag} {mg : Str → Option Value} {base : Heap} {t : Adr}
end
end S66
set_option maxRecDepth 100000
set_option maxHeartbeats 4000000
namespace S66
open PySem L2 XL PyProof.Rows
open Sprd
def spWays : Sp := fun vs H Q _ => ∃ (l q : Addr) (qs : List Addr) (ws : List Way) (n : Nt), vs = [.ref l, .ref q] ∧ H l = some (.lst (qs.map V.ref)) ∧ F2 (isWy Any H) ws qs ∧ isNt H n q ∧ okN n ∧ ws.length ≤ 300 ∧ (∀ w ∈ ws, w.ps.length ≤ 100) ∧
  ∀ H' l' qs', Same H H' → H' l' = some (.lst (qs'.map V.ref)) → F2 (isWy (fun l => H l = none) H') (waysW ws n) qs' → Q (.ref l') H'
def spLeast : Sp := fun vs H Q _ => ∃ (l : Addr) (qs : List Addr) (ns : List Nt), vs = [.ref l] ∧ Nts H l qs ns ∧ (∃ ps e s, AL ns ps e s) ∧ ∀ H' p, Same H H' → H p = none → H' p = some (.lst ((leastP ns).map V.int)) → Q (.ref p) H'
theorem comp_ahead {K : PySem.W.Frag} {σ : L2.St} {fr : List Nat} {tc : TT} {te : TE} {l l1 : Addr} {H1 : Hp} {Q : VK} {ws : List Way} {qs : List Addr} (f : Way → Bool) (hl1 : H1 l1 = some (.lst (qs.map V.ref))) (hw : F2 (isWy Any H1) ws qs) (hl : H1 l = none) (hn : ws.length < 1000)
    (htc : ∀ (q : Addr) (w : Way) (H2 : Hp) (R : Bool → Hp → Prop), isWy Any H2 w q → R (f w) H2 → tc ((blk0 σ fr 1).set 0 (some (.ref q))) H2 R)
    (hte : ∀ (q : Addr) (H2 : Hp) (R : VK), R (.ref q) H2 → te ((blk0 σ fr 1).set 0 (some (.ref q))) H2 R)
    (fin : ∀ (rs : List Addr) H2, Same H1 H2 → H2 l = some (.lst (rs.map V.ref)) → F2 (isWy Any H2) (ws.filter f) rs → Q (.ref l) H2) :
    CompG (Itl K l1) 1 (gName 0) σ fr tc te l H1 Q := by
  have hle := hw.len
  refine compG_by qs.length (fun i xs H2 => ∃ rs : List Addr, xs = rs.map V.ref ∧ rs.length ≤ i ∧ Same H1 H2 ∧ H2 l = some (.lst xs) ∧ F2 (isWy Any H1) ((ws.take i).filter f) rs) ?_ ?_ ?_ ?_
  · exact ⟨[], rfl, Nat.le_refl _, same_upd (Same.refl _) hl, upd_same, .nil⟩
  · rintro i xs H2 lt ⟨rs, _, _, s2, _⟩
    exact ⟨_, .ref qs[i], SqL.of (s2 _ _ hl1), by simp [lt]⟩
  · rintro i xs H2 v H3 lt ⟨rs, rfl, rl, s2, hl2, hf⟩ ⟨rfl, hv⟩ N hN
    have hv' := hv _ (SqL.of (s2 _ _ hl1))
    rw [List.getElem?_map] at hv'
    obtain ⟨q, hq, rfl⟩ := Option.map_eq_some_iff.mp hv'
    obtain ⟨w, ew, hwq⟩ := hw.get' hq
    have et : (ws.take (i + 1)).filter f = (ws.take i).filter f ++ (if f w = true then [w] else []) := by
      rw [List.take_add_one, ew, List.filter_append]
      show _ ++ List.filter f [w] = _
      rw [List.filter_cons, List.filter_nil]
    refine htc q w _ _ (isWy.same s2 _ _ hwq) ?_
    cases c : f w with
    | true =>
      refine iteT (hte q _ _ ⟨hl2, ?_, hN _ _ ⟨rs ++ [q], by simp, by simp; omega, fun b u z => ?_, upd_same, ?_⟩⟩)
      · rw [List.length_map]
        exact Nat.lt_trans (by omega : rs.length < 1000) (by decide)
      · rw [upd_ne (ne_of_none z hl)]
        exact s2 _ _ z
      · rw [et, c, if_pos rfl]
        exact hf.snoc hwq
    | false =>
      refine iteF (hN _ _ ⟨rs, rfl, by omega, s2, hl2, ?_⟩)
      rw [et, c, if_neg (by decide), List.append_nil]
      exact hf
  · rintro xs H2 ⟨rs, rfl, _, s2, hl2, hf⟩
    rw [hle, List.take_length] at hf
    exact ⟨⟨_, SqL.of (s2 _ _ hl1), by simp⟩, fin rs H2 s2 hl2 (hf.mono (isWy.same s2))⟩
section
variable {P : Program} {w : World} {K : PySem.W.Frag} {mg : Str → Option Value} {base : Heap} {t : Adr}
theorem ok_ways_with (T : Txt w K mg t) : FnOk true P w K mg base (CXo P w) 1 t.f_ways_with t.d_ways_with ["ways", "note"] (spWays) := by
  refine T.F_ways_with.okn (k := 0) sc_ways_with (fun vs H Q E h => ?_) (fun cdv A outer s H vs Q E hr h => ?_)
  · obtain ⟨l, q, qs, ws, n, rfl, _⟩ := h
    rfl
  · obtain ⟨l, q, qs, ws, n, rfl, h⟩ := h
    refine ⟨_, pss_cons (ps_asg (pv 1) (pg_tup rfl (pgs_cons (pg_name (i := 2) sc_ways_with.nd rfl (Or.inl rfl)) (pgs_cons (pg_name (i := 3) sc_ways_with.nd rfl (Or.inl rfl)) (pgs_cons (pg_name (i := 4) sc_ways_with.nd rfl (Or.inl rfl)) (pgs_cons (pg_name (i := 5) sc_ways_with.nd rfl (Or.inl rfl)) (pgs_nil)))))))
      (pss_cons (ps_set (i := 6) sc_ways_with.nd rfl (Or.inl rfl) (pe_lst (pa_nil)))
      (pss_cons (ps_for PassesOwn.never rfl (pi_range2 rfl T.n_range (pa_cons (pv 3) (pa_cons (pe_op op_add (pe_op op_sub (pv 4) (pv 2)) (pe_int)) (pa_nil)))) (pg_name (i := 7) sc_ways_with.nd rfl (Or.inr rfl)) (pss_cons (ps_setcG rfl (blkG_of (zs := ["way"]) (ys := ["place"]) (fr := [7]) (N0 := ["ways", "note", "height", "low", "high", "wish", "found", "place", "ahead", "end", "stray", "places", "more"]) (sc0 := defScope s_ways_with) (by decide +kernel) rfl rfl rfl) (pi_list (pv 0)) (fun _ _ _ _ _ ow nd => pg_name (i := 0) nd rfl (Or.inl (ow _ (by simp))) (Or.inr (ow _ (by simp)))) (gok_name (by decide)) (fun _ _ _ _ _ => pif_one (pt_cmpR op_le (pe_ix (r := rIxT K) ix_tup (pv 0) (pe_int) (fun _ _ => rfl)) (pv 1) (nomark _))) (fun _ _ _ _ _ => pv 0) (j := 8) rfl (Or.inl rfl))
      (pss_one (ps_if (pt_truth (pv 8) (fun _ => rfl)) (pss_cons (ps_asg (pe_ix ix_list (pv 8) (pe_un un_neg (pe_int)) (fun _ _ => rfl)) (pg_tup rfl (pgs_cons (pg_name (i := 9) sc_ways_with.nd rfl (Or.inl rfl)) (pgs_cons (pg_name (i := 10) sc_ways_with.nd rfl (Or.inl rfl)) (pgs_cons (pg_name (i := 11) sc_ways_with.nd rfl (Or.inl rfl)) (pgs_nil))))))
      (pss_cons (ps_set (i := 12) sc_ways_with.nd rfl (Or.inl rfl) (pe_op op_add (pv 10) (pe_callB call_abs rfl T.n_abs boot_abs (pa_cons (pe_op op_sub (pv 7) (pv 5)) (pa_nil)))))
      (pss_one (ps_if (PW.pt (pw_or (pt_not (pt_truth (pv 6) (fun _ => rfl))) (pw_or1 (pt_cmpR op_lt (pv 12) (pe_ix ix_tup (pe_ix ix_list (pv 6) (pe_un un_neg (pe_int)) (fun _ _ => rfl)) (pe_int) (fun _ _ => rfl)) (nomark _))))) (pss_one (ps_expr (pe_bm PySem.F.plainAttrs_list PySem.F.slot_list_append PySem.F.type_list_append mt_append (pv 6) (pa_cons (pe_tup (pa_cons (pe_op op_add (pv 7) (pv 2)) (pa_cons (pv 12) (pa_cons (pe_op op_cat (pv 11) (pe_lst (pa_cons (pv 7) (pa_nil)))) (pa_nil))))) (pa_nil))))) (pss_nil))))) (pss_nil)))))
      (pss_one (ps_ret (pv 6))))), ?_⟩
    obtain ⟨hl, hw, hq, ok, wl, wp, k⟩ := h
    obtain ⟨o1, o2, o3, o4, o5, o6, o7, o8⟩ := ok
    have hle := hw.len
    refine ⟨_, rfl, q, _, rfl, SqT.of hq, rfl, _, _, rfl, _, _, rfl, _, _, rfl, _, _, rfl, rfl, ?_⟩
    refine ⟨(by show 0 ≤ sizeLine; exact Nat.zero_le _), fun fd hfd => ?_⟩
    refine ⟨_, rfl, _, rfl, _, rfl, _, _, rfl, rfl, _, _, rfl, rfl, n.lo, n.hi - n.h + 2, rfl, ⟨by omega, by omega, by omega, by omega⟩, ?_⟩
    refine for_range (Pv := fun i σ H2 => ∃ (v7 v8 v9 v10 v11 v12 : Option V) (rs : List Addr), σ = [some (.ref l), some (.ref q), some (.int n.h), some (.int n.lo), some (.int n.hi), some (.int n.ws), some (.ref fd), v7, v8, v9, v10, v11, v12] ∧
      Same H H2 ∧ H2 fd = some (.lst (rs.map V.ref)) ∧ F2 (isWy (fun l => l ≠ fd ∧ H l = none) H2) (foundW ws n i) rs) ⟨_, _, _, _, _, _, [], rfl, same_upd (Same.refl _) hfd, upd_same, .nil⟩ ?_ ?_
    · rintro i σ H2 hi ⟨v7, v8, v9, v10, v11, v12, rs, rfl, s2, hf2, fw2⟩
      have fl := foundW_len ws n i
      have rl := fw2.len
      refine ⟨_, rfl, l, rfl, ⟨_, SqL.of (s2 _ _ hl)⟩, fun a ha => ?_⟩
      refine comp_ahead (fun w => decide (w.e ≤ n.lo + i)) (s2 _ _ hl) (hw.mono (isWy.same s2)) ha (by omega) ?_ (fun q H2 R r => ⟨_, rfl, r⟩) fun as H3 s3 ha3 hf3 => ?_
      · rintro q w H2 R ⟨l2, _, e1, e2⟩ r
        exact ⟨_, rfl, q, _, 0, _, rfl, rfl, SqT.of e1, atI_0, _, rfl, _, _, rfl, rfl, _, rfl, r⟩
      have hs : stepW ws n (foundW ws n i) (n.lo + i) = foundW ws n (i + 1) := rfl
      have hf : H3 fd = some (.lst (rs.map V.ref)) := s3 _ _ hf2
      have fw3 := fw2.mono (isWy.same s3)
      unfold stepW at hs
      change F2 (isWy Any H3) (aheadW ws (n.lo + i)) as at hf3
      cases hA : (aheadW ws (n.lo + i)).getLast? with
      | none =>
        have e0 : aheadW ws (n.lo + i) = [] := List.getLast?_eq_none_iff.mp hA
        rw [e0] at hf3
        cases hf3
        rw [hA] at hs
        dsimp only at hs
        refine ⟨_, rfl, _, .inl ⟨_, SqL.of ha3, rfl⟩, ifN rfl ⟨_, _, _, _, _, _, rs, rfl, s2.trans s3, hf, ?_⟩⟩
        rw [← hs]
        exact fw3
      | some w =>
        rw [hA] at hs
        dsimp only at hs
        obtain ⟨as', qa, rfl, l2, _, ea, el2⟩ := hf3.last hA
        have wm : w ∈ ws := (List.mem_filter.mp (List.mem_of_getLast? hA)).1
        refine ⟨_, rfl, _, .inl ⟨_, SqL.of ha3, rfl⟩, ifP (by simp) ⟨_, rfl, 1, rfl, a, _, -1, _, rfl, rfl, SqL.of ha3, (by rw [List.map_append]; exact atI_last _ _), qa, _, rfl, SqT.of ea, rfl, _, _, rfl, _, _, rfl, _, _, rfl, rfl, ?_⟩⟩
        refine ⟨_, rfl, _, rfl, _, rfl, _, _, rfl, rfl, _, rfl, _, _, rfl, rfl, ?_⟩
        have wpl := wp w wm
        cases hF : (foundW ws n i).getLast? with
        | none =>
          have e0 : foundW ws n i = [] := List.getLast?_eq_none_iff.mp hF
          have er : rs = [] := List.eq_nil_of_length_eq_zero (by rw [rl, e0]; rfl)
          have hb : better (foundW ws n i) (more w n (n.lo + i)) = true := by unfold better; rw [hF]
          rw [hb, if_pos rfl] at hs
          refine ⟨_, rfl, _, .inl ⟨_, SqL.of hf, rfl⟩, ifP (by rw [er]; rfl) (ifP rfl ?_)⟩
          refine ⟨_, rfl, .inl ⟨rfl, _, SqL.of hf⟩, _, rfl, _, rfl, _, _, rfl, rfl, _, rfl, _, rfl, _, rfl, (by show 1 ≤ sizeLine; decide), fun p1 hp1 => ⟨l2, p1, _, _, rfl, rfl, same_upd (Same.refl _) hp1 _ _ el2, upd_same, ?_, fun p2 hp2 => ⟨(by show 3 ≤ sizeLine; decide), fun p3 hp3 => ?_⟩⟩⟩
          · rw [List.length_map]
            exact Nat.le_trans (by show w.ps.length + 1 ≤ 1000; omega) (by decide)
          generalize hHb : upd (upd H3 p1 _) p2 _ = Hb at hp3 ⊢
          have sb : Same H3 Hb := by rw [← hHb]; exact same_upd (same_upd (Same.refl _) hp1) hp2
          have kb : Hb p2 = some (.lst ((w.ps ++ [n.lo + (i : Int)]).map V.int)) := by rw [← hHb, List.map_append]; exact upd_same
          generalize hHc : upd Hb p3 _ = Hc
          have sc : Same Hb Hc := by rw [← hHc]; exact same_upd (Same.refl _) hp3
          have kc : Hc p3 = some (.tup [.int (n.lo + i + n.h), .int (more w n (n.lo + i)), .ref p2]) := by rw [← hHc]; exact upd_same
          have n2 : p2 ≠ fd := fun z => by
            rw [z] at hp2
            have := same_upd (Same.refl _) hp1 (o := .lst [V.int (n.lo + (i : Int))]) _ _ hf
            rw [hp2] at this
            cases this
          have hfc : Hc fd = some (.lst (rs.map V.ref)) := sc _ _ (sb _ _ hf)
          refine ⟨fd, _, _, rfl, rfl, hfc, ?_, ?_⟩
          · rw [List.length_map]
            exact Nat.lt_trans (by omega : rs.length < 1000) (by decide)
          refine ⟨_, _, _, _, _, _, rs ++ [p3], rfl, fun b u z => ?_, ?_, ?_⟩
          · rw [upd_ne (ne_of_none z hfd)]
            exact sc _ _ (sb _ _ (s3 _ _ (s2 _ _ z)))
          · rw [List.map_append]
            exact upd_same
          · rw [← hs]
            have m1 : ∀ w' q', isWy (fun l => l ≠ fd ∧ H l = none) H3 w' q' → isWy (fun l => l ≠ fd ∧ H l = none) (upd Hc fd (.lst (rs.map V.ref ++ [.ref p3]))) w' q' := by
              rintro w' q' ⟨l', a', b', c'⟩
              refine ⟨l', a', ?_, ?_⟩
              · rw [upd_ne (ne_of b' hf (fun z => nomatch z))]
                exact sc _ _ (sb _ _ b')
              · rw [upd_ne a'.1]
                exact sc _ _ (sb _ _ c')
            refine F2.snoc (fw3.mono m1) ⟨p2, ⟨n2, ((s2.trans s3).trans (same_upd (Same.refl _) hp1)).free hp2⟩, ?_, ?_⟩
            · rw [upd_ne (ne_of kc hfc (fun z => nomatch z))]
              exact kc
            · rw [upd_ne n2]
              exact sc _ _ kb
        | some f =>
          obtain ⟨rs', qf, er, lf, _, ef, elf⟩ := fw3.last hF
          refine ⟨_, rfl, _, .inl ⟨_, SqL.of hf, rfl⟩, ifN (by rw [er]; simp) ⟨_, rfl, _, rfl, 1, rfl, fd, _, -1, _, rfl, rfl, SqL.of hf, (by rw [er, List.map_append]; exact atI_last _ _), qf, _, 1, _, rfl, rfl, SqT.of ef, atI_1, _, _, rfl, rfl, _, rfl, ?_⟩⟩
          by_cases c : more w n (n.lo + i) < f.s
          · have hb : better (foundW ws n i) (more w n (n.lo + i)) = true := by unfold better; rw [hF]; exact decide_eq_true c
            rw [hb, if_pos rfl] at hs
            refine ifP (decide_eq_true c) ?_
            refine ⟨_, rfl, .inl ⟨rfl, _, SqL.of hf⟩, _, rfl, _, rfl, _, _, rfl, rfl, _, rfl, _, rfl, _, rfl, (by show 1 ≤ sizeLine; decide), fun p1 hp1 => ⟨l2, p1, _, _, rfl, rfl, same_upd (Same.refl _) hp1 _ _ el2, upd_same, ?_, fun p2 hp2 => ⟨(by show 3 ≤ sizeLine; decide), fun p3 hp3 => ?_⟩⟩⟩
            · rw [List.length_map]
              exact Nat.le_trans (by show w.ps.length + 1 ≤ 1000; omega) (by decide)
            generalize hHb : upd (upd H3 p1 _) p2 _ = Hb at hp3 ⊢
            have sb : Same H3 Hb := by rw [← hHb]; exact same_upd (same_upd (Same.refl _) hp1) hp2
            have kb : Hb p2 = some (.lst ((w.ps ++ [n.lo + (i : Int)]).map V.int)) := by rw [← hHb, List.map_append]; exact upd_same
            generalize hHc : upd Hb p3 _ = Hc
            have sc : Same Hb Hc := by rw [← hHc]; exact same_upd (Same.refl _) hp3
            have kc : Hc p3 = some (.tup [.int (n.lo + i + n.h), .int (more w n (n.lo + i)), .ref p2]) := by rw [← hHc]; exact upd_same
            have n2 : p2 ≠ fd := fun z => by
              rw [z] at hp2
              have := same_upd (Same.refl _) hp1 (o := .lst [V.int (n.lo + (i : Int))]) _ _ hf
              rw [hp2] at this
              cases this
            have hfc : Hc fd = some (.lst (rs.map V.ref)) := sc _ _ (sb _ _ hf)
            refine ⟨fd, _, _, rfl, rfl, hfc, ?_, ?_⟩
            · rw [List.length_map]
              exact Nat.lt_trans (by omega : rs.length < 1000) (by decide)
            refine ⟨_, _, _, _, _, _, rs ++ [p3], rfl, fun b u z => ?_, ?_, ?_⟩
            · rw [upd_ne (ne_of_none z hfd)]
              exact sc _ _ (sb _ _ (s3 _ _ (s2 _ _ z)))
            · rw [List.map_append]
              exact upd_same
            · rw [← hs]
              have m1 : ∀ w' q', isWy (fun l => l ≠ fd ∧ H l = none) H3 w' q' → isWy (fun l => l ≠ fd ∧ H l = none) (upd Hc fd (.lst (rs.map V.ref ++ [.ref p3]))) w' q' := by
                rintro w' q' ⟨l', a', b', c'⟩
                refine ⟨l', a', ?_, ?_⟩
                · rw [upd_ne (ne_of b' hf (fun z => nomatch z))]
                  exact sc _ _ (sb _ _ b')
                · rw [upd_ne a'.1]
                  exact sc _ _ (sb _ _ c')
              refine F2.snoc (fw3.mono m1) ⟨p2, ⟨n2, ((s2.trans s3).trans (same_upd (Same.refl _) hp1)).free hp2⟩, ?_, ?_⟩
              · rw [upd_ne (ne_of kc hfc (fun z => nomatch z))]
                exact kc
              · rw [upd_ne n2]
                exact sc _ _ kb
          · have hb : better (foundW ws n i) (more w n (n.lo + i)) = false := by unfold better; rw [hF]; exact decide_eq_false c
            rw [hb, if_neg (by decide)] at hs
            refine ifN (decide_eq_false c) ⟨_, _, _, _, _, _, rs, rfl, s2.trans s3, hf, ?_⟩
            rw [← hs]
            exact fw3
    · rintro σ H2 ⟨v7, v8, v9, v10, v11, v12, rs, rfl, s2, hf2, fw2⟩
      exact ⟨_, rfl, k H2 fd rs s2 hf2 (fw2.mono fun w q ⟨l, a, b, c⟩ => ⟨l, a.2, b, c⟩)⟩
end
end S66
set_option maxRecDepth 100000
set_option maxHeartbeats 4000000
namespace S66
open PySem L2 XL PyProof.Rows
open Sprd
section
variable {P : Program} {w : World} {K : PySem.W.Frag} {mg : Str → Option Value} {base : Heap} {t : Adr}
theorem ok_least_places (T : Txt w K mg t) : FnOk true P w K mg base (CXo P w) 2 t.f_least_places t.d_least_places ["notes"] (spLeast) := by
  refine T.F_least_places.okn (k := 1) sc_least_places (fun vs H Q E h => ?_) (fun cdv A outer s H vs Q E hr h => ?_)
  · obtain ⟨l, qs, ns, rfl, _⟩ := h
    rfl
  · obtain ⟨l, qs, ns, rfl, h⟩ := h
    refine ⟨_, pss_cons (ps_set (i := 1) sc_least_places.nd rfl (Or.inl rfl) (pe_lst (pa_cons (pe_tup (pa_cons (pe_un un_neg (pe_glob (v := .int 99) rfl T.v_FARTHEST.choose_spec ⟨_, rfl⟩)) (pa_cons (pe_int) (pa_cons (pe_lst (pa_nil)) (pa_nil))))) (pa_nil))))
      (pss_cons (ps_for PassesOwn.never rfl (pi_list (pv 0)) (pg_name (i := 2) sc_least_places.nd rfl (Or.inl rfl)) (pss_one (ps_set (i := 1) sc_least_places.nd rfl (Or.inl rfl) (pe_call (ok_ways_with T) (hr.mono (by decide)) rfl T.g_ways_with T.F_ways_with.kp T.b_ways_with .nil pass_none (pa_cons (pv 1) (pa_cons (pv 2) (pa_nil)))))))
      (pss_one (ps_ret (pe_ix ix_tup (pe_ix ix_list (pv 1) (pe_un un_neg (pe_int)) (fun _ _ => rfl)) (pe_int) (fun _ _ => rfl))))), ?_⟩
    obtain ⟨hn, ⟨ps0, e0, s0, al0⟩, k⟩ := h
    have hl12 := hn.len
    have hle := hn.f2.len
    refine ⟨99, rfl, (by show 0 ≤ sizeLine; exact Nat.zero_le _), fun p1 hp1 => ⟨(by show 3 ≤ sizeLine; decide), fun p2 hp2 => ⟨(by show 1 ≤ sizeLine; decide), fun p3 hp3 => ?_⟩⟩⟩
    generalize hH1 : upd (upd (upd H p1 _) p2 _) p3 _ = H1
    have s1 : Same H H1 := by rw [← hH1]; exact same_upd (same_upd (same_upd (Same.refl _) hp1) hp2) hp3
    have k3 : H1 p3 = some (.lst ([p2].map V.ref)) := by rw [← hH1]; exact upd_same
    have k2 : H1 p2 = some (.tup [.int (-99), .int 0, .ref p1]) := by rw [← hH1, upd_ne (ne_of_none upd_same hp3)]; exact upd_same
    have k1 : H1 p1 = some (.lst (([] : List Int).map V.int)) := by
      rw [← hH1, upd_ne (ne_of_none (same_upd (Same.refl _) hp2 _ _ upd_same) hp3), upd_ne (ne_of_none upd_same hp2)]
      exact upd_same
    refine ⟨_, rfl, l, rfl, ⟨_, SqL.of (s1 _ _ hn.at_)⟩, ?_⟩
    refine for_list (xs := qs.map V.ref) (Pv := fun i σ H2 => ∃ (lw : Addr) (v2 : Option V) (rs : List Addr), σ = [some (.ref l), some (.ref lw), v2] ∧ Same H H2 ∧ H2 lw = some (.lst (rs.map V.ref)) ∧ F2 (isWy (fun l => H l = none) H2) ((ns.take i).foldl waysW [⟨-99, 0, []⟩]) rs ∧
      ((ns.take i).foldl waysW [⟨-99, 0, []⟩]).length ≤ 300) ⟨p3, _, [p2], rfl, s1, k3, .cons ⟨p1, hp1, k2, k1⟩ .nil, by simp⟩ (fun _ _ _ _ ⟨_, _, _, _, z, _⟩ => SqL.of (z _ _ hn.at_)) ?_ ?_
    · rintro i v σ H2 hv ⟨lw, v2, rs, rfl, s2, hlw, hf, hl3⟩
      rw [List.getElem?_map] at hv
      obtain ⟨q, hq, rfl⟩ := Option.map_eq_some_iff.mp hv
      obtain ⟨n, en, hnq⟩ := hn.f2.get' hq
      have ok := hn.ok n (List.mem_of_getElem? en)
      have g : Good (ns.take i) ((ns.take i).foldl waysW [⟨-99, 0, []⟩]) := by simpa using allW_good (ns.take i) [] _ good0
      have et : (ns.take (i + 1)).foldl waysW [⟨-99, 0, []⟩] = waysW ((ns.take i).foldl waysW [⟨-99, 0, []⟩]) n := by rw [List.take_add_one, en, List.foldl_append]; rfl
      refine ⟨_, rfl, _, rfl, lw, q, rs, _, n, rfl, hlw, hf.mono (fun w q ⟨l, _, b, c⟩ => ⟨l, trivial, b, c⟩), isNt.same s2 _ _ hnq, ok, hl3, fun w hw => ?_, fun H3 l' qs' s3 hl' hf' => ?_⟩
      · have := (g.al w hw).len
        rw [List.length_take] at this
        omega
      · refine ⟨l', _, qs', rfl, s2.trans s3, hl', ?_, ?_⟩
        · rw [et]
          exact hf'.mono fun w q ⟨l, a, b, c⟩ => ⟨l, s2.free a, b, c⟩
        · rw [et]
          refine Nat.le_trans (foundW_len _ _ _) ?_
          have := ok.h1
          have := ok.l1
          have := ok.u2
          omega
    · rintro σ H2 ⟨lw, v2, rs, rfl, s2, hlw, hf, hl3⟩
      rw [List.length_map, hle, List.take_length] at hf
      obtain ⟨w, ew, el, _, _⟩ := leastP_best al0
      obtain ⟨rs', q, rfl, l2, fr, e1, e2⟩ := hf.last ew
      refine ⟨_, rfl, 1, rfl, lw, _, -1, _, rfl, rfl, SqL.of hlw, (by rw [List.map_append]; exact atI_last _ _), q, _, 2, _, rfl, rfl, SqT.of e1, atI_2, k H2 l2 s2 fr ?_⟩
      rw [el]
      exact e2
end
end S66
set_option maxRecDepth 100000
set_option maxHeartbeats 4000000
namespace S66
open PySem L2 XL PyProof.Rows
theorem cm_mod {x d : Int} (h : 0 < d) (h2 : d ≤ 4294967296) : -(2 ^ 64) < x % d ∧ x % d < 2 ^ 64 := by
  have a := Int.emod_nonneg x (show d ≠ 0 by omega)
  have b := Int.emod_lt_of_pos x h
  exact ⟨by omega, by omega⟩
theorem mod_in (x : Int) {d : Int} (h : 0 < d) : 0 ≤ x % d ∧ x % d < d := ⟨Int.emod_nonneg _ (by omega), Int.emod_lt_of_pos _ h⟩
def spCell (K : PySem.W.Frag) : Sp := fun vs H Q _ => ∃ (a : Addr) (ns : List Int) (k : Int), vs = [.ref a, .int k] ∧ SqL K H a (ns.map V.int) ∧ 0 ≤ k ∧ k < 2 ^ 62 ∧ ∀ c : Int, Q (.int c) H
def spMixA : Sp := fun vs H Q _ => ∃ c k : Int, vs = [.int c, .int k] ∧ 0 ≤ k ∧ ∀ m : Int, Q (.int m) H
def spWhole : Sp := fun vs H Q _ => ∃ i : Int, vs = [.int i] ∧ Q (.bl true) H
section
variable {P : Program} {w : World} {K : PySem.W.Frag} {mg : Str → Option Value} {base : Heap} {t : Adr}
theorem ok_law_cell (T : Txt w K mg t) : FnOk true P w K mg base (CXo P w) 1 t.f_law_cell t.d_law_cell ["_law_script", "_law_k"] (spCell K) := by
  refine T.F_law_cell.okn (k := 0) sc_law_cell (fun vs H Q E h => ?_) (fun cdv A outer s H vs Q E hr h => ?_)
  · obtain ⟨a, ns, k, rfl, _⟩ := h
    rfl
  · obtain ⟨a, ns, k, rfl, h⟩ := h
    refine ⟨_, pss_cons (ps_if (pt_cmpR op_lt (pv 1) (pe_callB call_len_seq rfl T.n_len boot_len (pa_cons (pv 0) (pa_nil))) (nomark _)) (pss_one (ps_ret (pe_ix ix_list (pv 0) (pv 1) (fun _ _ => rfl)))) (pss_nil))
      (pss_one (ps_ret (pe_op op_add (pe_op op_mul (pe_int) (pv 1)) (pe_int)))), ?_⟩
    obtain ⟨hs, k0, k1, q⟩ := h
    refine ⟨_, rfl, _, rfl, a, _, rfl, .inl hs, _, _, rfl, rfl, _, rfl, ?_⟩
    refine ite2 (fun c => ?_) (fun c => ?_)
    · have c' : k < (ns.length : Int) := by simpa using c
      obtain ⟨j, rfl⟩ := Int.eq_ofNat_of_zero_le k0
      have lt : j < ns.length := by omega
      exact ⟨_, rfl, _, rfl, a, _, _, _, rfl, rfl, hs, atI_nat (by rw [List.getElem?_map, List.getElem?_eq_getElem lt]; rfl), q _⟩
    · exact ⟨_, rfl, _, _, rfl, rfl, .inl ⟨by decide, by decide⟩, _, _, rfl, rfl, q _⟩
theorem ok_law_mix (T : Txt w K mg t) : FnOk true P w K mg base (CXo P w) 1 t.f_law_mix t.d_law_mix ["_law_cell_here", "_law_k"] (spMixA) := by
  refine T.F_law_mix.okn (k := 0) sc_law_mix (fun vs H Q E h => ?_) (fun cdv A outer s H vs Q E hr h => ?_)
  · obtain ⟨c, k, rfl, _⟩ := h
    rfl
  · obtain ⟨c, k, rfl, h⟩ := h
    refine ⟨_, pss_cons (ps_if (pt_cmpR op_eq (pe_op op_mod (pv 0) (pe_int)) (pe_int) (nomark _)) (pss_one (ps_ret (pe_op op_mod (pe_op op_shr (pv 0) (pe_op op_add (pe_int) (pe_op op_mul (pe_int) (pv 1)))) (pe_op op_pow (pe_int) (pe_int))))) (pss_nil))
      (pss_cons (ps_set (i := 2) sc_law_mix.nd rfl (Or.inl rfl) (pe_op op_mod (pe_op op_mul (pe_op op_add (pe_op op_add (pe_op op_mod (pv 0) (pe_int)) (pe_op op_mul (pe_int) (pv 1))) (pe_int)) (pe_int)) (pe_int)))
      (pss_cons (ps_set (i := 2) sc_law_mix.nd rfl (Or.inl rfl) (pe_op op_mod (pe_op op_add (pe_op op_mul (pv 2) (pv 2)) (pe_op op_mul (pe_int) (pv 1))) (pe_int)))
      (pss_one (ps_ret (pe_op op_fdiv (pe_op op_mod (pe_op op_mul (pv 2) (pe_op op_add (pv 2) (pe_int))) (pe_int)) (pe_int)))))), ?_⟩
    obtain ⟨k0, q⟩ := h
    refine ⟨_, rfl, _, _, rfl, rfl, (by show (0 : Int) < 4; decide), rfl, _, rfl, ite2 (fun z => ?_) (fun z => ?_)⟩
    · exact ⟨_, rfl, _, rfl, _, _, rfl, rfl, .inl ⟨by decide, by decide⟩, _, _, rfl, rfl, _, _, rfl, rfl, (by omega), _, _, rfl, rfl, ⟨by decide, by decide, by decide⟩, _, _, rfl, rfl, (by show (0 : Int) < 2 ^ (40 : Int).toNat; decide), q _⟩
    refine ⟨_, rfl, _, _, rfl, rfl, (by show (0 : Int) < 2147483629; decide), _, rfl, _, _, rfl, rfl, .inl ⟨by decide, by decide⟩, _, _, rfl, rfl, _, _, rfl, rfl, _, _, rfl, rfl, .inr ⟨by decide, by decide⟩, _, _, rfl, rfl, (by show (0 : Int) < 2147483647; decide), ?_⟩
    refine ⟨_, rfl, _, rfl, _, _, rfl, rfl, .inl (cm_mod (by decide) (by decide)), _, rfl, _, _, rfl, rfl, .inl ⟨by decide, by decide⟩, _, _, rfl, rfl, _, _, rfl, rfl, (by show (0 : Int) < 2147483629; decide), ?_⟩
    exact ⟨_, rfl, _, rfl, _, _, rfl, rfl, _, _, rfl, rfl, .inl (cm_mod (by decide) (by decide)), _, _, rfl, rfl, (by show (0 : Int) < 2147483587; decide), _, _, rfl, rfl, ⟨by decide, by decide⟩, q _⟩
theorem ok_law_digits (T : Txt w K mg t) : FnOk true P w K mg base (CXo P w) 2 t.f_law_digits t.d_law_digits ["_law_cell_here", "_law_k"] (spMixA) := by
  refine T.F_law_digits.okn (k := 1) sc_law_digits (fun vs H Q E h => ?_) (fun cdv A outer s H vs Q E hr h => ?_)
  · obtain ⟨c, k, rfl, _⟩ := h
    rfl
  · obtain ⟨c, k, rfl, h⟩ := h
    refine ⟨_, pss_cons (ps_if (pt_cmpR op_eq (pe_op op_mod (pv 0) (pe_int)) (pe_int) (nomark _)) (pss_one (ps_ret (pe_op op_fdiv (pv 0) (pe_int)))) (pss_nil))
      (pss_one (ps_ret (pe_call (ok_law_mix T) (hr.mono (by decide)) rfl T.g_law_mix T.F_law_mix.kp T.b_law_mix .nil pass_none (pa_cons (pv 0) (pa_cons (pv 1) (pa_nil)))))), ?_⟩
    obtain ⟨k0, q⟩ := h
    exact ⟨_, rfl, _, _, rfl, rfl, (by show (0 : Int) < 2; decide), rfl, _, rfl, ite2 (fun z => ⟨_, rfl, _, _, rfl, rfl, ⟨by decide, by decide⟩, q _⟩) (fun z => ⟨_, rfl, _, rfl, _, _, rfl, k0, q⟩)⟩
theorem ok_law_whole (T : Txt w K mg t) : FnOk true P w K mg base (CXo P w) 1 t.f_law_whole t.d_law_whole ["_law_found"] (spWhole) := by
  refine T.F_law_whole.okn (k := 0) sc_law_whole (fun vs H Q E h => ?_) (fun cdv A outer s H vs Q E hr h => ?_)
  · obtain ⟨i, rfl, _⟩ := h
    rfl
  · obtain ⟨i, rfl, h⟩ := h
    refine ⟨_, pss_one (ps_ret (pe_and (pe_callB call_isin rfl T.n_isinstance boot_isinstance (pa_cons (pv 0) (pa_cons (pe_bltn (v := .ty "int") rfl T.n_int boot_int rfl) (pa_nil)))) (pe_one (pe_not (pe_callB call_isin rfl T.n_isinstance boot_isinstance (pa_cons (pv 0) (pa_cons (pe_bltn (v := .ty "bool") rfl T.n_bool boot_bool rfl) (pa_nil)))))))), ?_⟩
    refine ⟨_, rfl, _, _, rfl, .inl ⟨_, _, true, .int i, rfl, kit_same, true, rfl, iteT ?_⟩⟩
    exact ⟨_, rfl, _, _, rfl, .inl ⟨_, _, false, .int i, rfl, (by rfl), false, rfl, h⟩⟩
end
end S66
set_option maxRecDepth 100000
set_option maxHeartbeats 4000000
namespace S66
open PySem L2 XL PyProof.Rows
theorem erase_okG {α : Type} : ∀ {l : List α} {j : Nat} {x : α}, l.Nodup → l[j]? = some x → (l.eraseIdx j).Nodup ∧ x ∉ l.eraseIdx j ∧ (∀ z ∈ l.eraseIdx j, z ∈ l) ∧ x ∈ l
  | [], j, x, _, h => by simp at h
  | a :: l, 0, x, nd, h => by
    cases h
    obtain ⟨h1, h2⟩ := List.nodup_cons.mp nd
    exact ⟨h2, h1, fun z hz => List.mem_cons_of_mem _ hz, List.mem_cons_self⟩
  | a :: l, j + 1, x, nd, h => by
    obtain ⟨h1, h2⟩ := List.nodup_cons.mp nd
    obtain ⟨a1, a2, a3, a4⟩ := erase_okG h2 (show l[j]? = some x by simpa using h)
    refine ⟨?_, ?_, ?_, List.mem_cons_of_mem _ a4⟩
    · rw [List.eraseIdx_cons_succ, List.nodup_cons]
      exact ⟨fun z => h1 (a3 _ z), a1⟩
    · rw [List.eraseIdx_cons_succ, List.mem_cons]
      rintro (z | z)
      · exact h1 (z ▸ a4)
      · exact a2 z
    · intro z hz
      rw [List.eraseIdx_cons_succ, List.mem_cons] at hz
      rcases hz with rfl | hz
      · exact List.mem_cons_self
      · exact List.mem_cons_of_mem _ (a3 z hz)
def spUnlike : Sp := fun vs H Q _ => ∃ (c : Int) (n : Nat) (l : Addr) (xs : List V), vs = [.int c, .int (n : Int), .ref l] ∧ H l = some (.lst xs) ∧ n ≤ xs.length ∧ xs.length ≤ 100 ∧ xs.Nodup ∧ ∀ (ys : List V) H' l', ys.length = n → ys.Nodup → (∀ y ∈ ys, y ∈ xs) → Same H H' → H' l' = some (.lst ys) → Q (.ref l') H'
section
variable {P : Program} {w : World} {K : PySem.W.Frag} {mg : Str → Option Value} {base : Heap} {t : Adr}
theorem ok_law_unlike (T : Txt w K mg t) : FnOk true P w K mg base (CXo P w) 2 t.f_law_unlike t.d_law_unlike ["_law_cell_here", "_law_many", "_law_some"] (spUnlike) := by
  refine T.F_law_unlike.okn (k := 1) sc_law_unlike (fun vs H Q E h => ?_) (fun cdv A outer s H vs Q E hr h => ?_)
  · obtain ⟨c, n, l, xs, rfl, _⟩ := h
    rfl
  · obtain ⟨c, n, l, xs, rfl, h⟩ := h
    refine ⟨_, pss_cons (ps_set (i := 3) sc_law_unlike.nd rfl (Or.inl rfl) (pe_callTy call_list_of rfl T.n_list boot_list (pa_cons (pv 2) (pa_nil))))
      (pss_cons (ps_set (i := 4) sc_law_unlike.nd rfl (Or.inl rfl) (pe_lst (pa_nil)))
      (pss_cons (ps_for PassesOwn.never rfl (pi_range1 rfl T.n_range (pa_cons (pv 1) (pa_nil))) (pg_name (i := 5) sc_law_unlike.nd rfl (Or.inl rfl)) (pss_one (ps_expr (pe_bm PySem.F.plainAttrs_list PySem.F.slot_list_append PySem.F.type_list_append mt_append (pv 4) (pa_cons (pe_bm PySem.F.plainAttrs_list PySem.F.slot_list_pop PySem.F.type_list_pop mt_popAt (pv 3) (pa_cons (pe_op op_mod (pe_call (ok_law_mix T) (hr.mono (by decide)) rfl T.g_law_mix T.F_law_mix.kp T.b_law_mix .nil pass_none (pa_cons (pv 0) (pa_cons (pv 5) (pa_nil)))) (pe_callB call_len_seq rfl T.n_len boot_len (pa_cons (pv 3) (pa_nil)))) (pa_nil))) (pa_nil))))))
      (pss_one (ps_ret (pv 4))))), ?_⟩
    obtain ⟨hl, nl, x100, nd, q⟩ := h
    refine ⟨_, rfl, l, _, rfl, .inl (SqL.of hl), fun lf hlf => ?_⟩
    have s1 : Same H (upd H lf (.lst xs)) := same_upd (Same.refl _) hlf
    have g1 : upd H lf (.lst xs) lf = some (.lst xs) := upd_same
    revert s1 g1
    generalize upd H lf (.lst xs) = H1
    intro s1 g1
    refine ⟨(by show 0 ≤ sizeLine; exact Nat.zero_le _), fun fd hfd => ?_⟩
    have s2 : Same H1 (upd H1 fd (.lst [])) := same_upd (Same.refl _) hfd
    have g2 : upd H1 fd (.lst []) fd = some (.lst []) := upd_same
    revert s2 g2
    generalize upd H1 fd (.lst []) = H2
    intro s2 g2
    have nfd : fd ≠ lf := Ne.symm (ne_of_none g1 hfd)
    have f1 := hlf
    have f2 := s1.free hfd
    refine ⟨_, rfl, (n : Int), rfl, by omega, by omega, ?_⟩
    refine for_range (Pv := fun i σ H2 => ∃ (zs ls : List V) (v5 : Option V), σ = [some (.int c), some (.int n), some (.ref l), some (.ref lf), some (.ref fd), v5] ∧ H2 lf = some (.lst ls) ∧ H2 fd = some (.lst zs) ∧
      zs.length = i ∧ ls.length + i = xs.length ∧ zs.Nodup ∧ ls.Nodup ∧ (∀ z ∈ zs, z ∉ ls) ∧ (∀ z ∈ zs, z ∈ xs) ∧ (∀ z ∈ ls, z ∈ xs) ∧ Same H H2) ?_ ?_ ?_
    · exact ⟨[], xs, _, rfl, s2 _ _ g1, g2, rfl, by simp, List.nodup_nil, nd, (fun z h => nomatch h), (fun z h => nomatch h), fun z hz => hz, s1.trans s2⟩
    · rintro i σ H2 hi ⟨zs, ls, v5, rfl, h1, h2, e1, e2, d1, d2, d3, b1, b2, s2⟩
      have hi' : i < n := by simpa using hi
      have lp : 0 < ls.length := by omega
      refine ⟨_, rfl, .inl ⟨rfl, _, SqL.of h2⟩, _, rfl, .inl ⟨rfl, _, SqL.of h1⟩, _, rfl, _, rfl, c, _, rfl, by omega, fun m => ?_⟩
      have lp' : (0 : Int) < (ls.length : Int) := by omega
      obtain ⟨k0, k1⟩ := mod_in m lp'
      obtain ⟨j, hj⟩ := Int.eq_ofNat_of_zero_le k0
      have jl : j < ls.length := by
        have z := k1
        rw [hj] at z
        omega
      have gy : ls[j]? = some ls[j] := List.getElem?_eq_getElem jl
      refine ⟨_, rfl, lf, _, rfl, .inl (SqL.of h1), _, _, rfl, rfl, lp', lf, _, _, j, _, rfl, rfl, h1, by omega, ?_, ?_, gy, fd, zs, _, rfl, rfl, ?_, ?_, ?_⟩
      · have : (ls.length : Int) < 2 ^ 63 := by omega
        omega
      · rw [seqIndex_of k0 k1, hj]
        rfl
      · rw [upd_ne nfd]
        exact h2
      · exact Nat.lt_trans (by omega : zs.length < 101) (by decide)
      · obtain ⟨a1, a2, a3, a4⟩ := erase_okG d2 gy
        have el := List.length_eraseIdx_of_lt jl
        refine ⟨zs ++ [ls[j]], ls.eraseIdx j, _, rfl, ?_, ?_, ?_, ?_, ?_, a1, ?_, ?_, fun z hz => b2 z (a3 z hz), ?_⟩
        · rw [upd_ne (Ne.symm nfd), upd_same]
        · rw [upd_same]
        · rw [List.length_append, e1]
          rfl
        · omega
        · rw [List.nodup_append]
          exact ⟨d1, by simp, fun a ha b hb => by
            have := List.mem_singleton.mp hb
            subst this
            intro z
            exact d3 a ha (z ▸ a4)⟩
        · intro z hz
          rcases List.mem_append.mp hz with y | y
          · exact fun k => d3 z y (a3 z k)
          · have := List.mem_singleton.mp y
            subst this
            exact a2
        · intro z hz
          rcases List.mem_append.mp hz with y | y
          · exact b1 z y
          · have := List.mem_singleton.mp y
            subst this
            exact b2 _ a4
        · intro b u e
          rw [upd_ne (ne_of_none e f2), upd_ne (ne_of_none e f1)]
          exact s2 b u e
    · rintro σ H2 ⟨zs, ls, v5, rfl, h1, h2, e1, e2, d1, d2, d3, b1, b2, s2⟩
      exact ⟨_, rfl, q zs H2 fd (by simpa using e1) d1 b1 s2 h2⟩
end
end S66
set_option maxRecDepth 100000
set_option maxHeartbeats 4000000
namespace S66
open PySem L2 XL PyProof.Rows
open Sprd
def Szs (H : Hp) (l : Addr) (qs : List Addr) (ns : List Nt) : Prop := H l = some (.lst (qs.map V.ref)) ∧ F2 (fun (n : Nt) q => H q = some (.tup [.int n.h, .int n.ws])) ns qs
def spTab : Sp := fun vs H Q _ => ∃ (l : Addr) (h : Nat) (qs : List Addr) (ns : List Nt), vs = [.ref l, .int (h : Int)] ∧ Szs H l qs ns ∧ h ≤ 16 ∧ ns.length ≤ 100 ∧ (∀ n ∈ ns, 1 ≤ n.h ∧ n.h ≤ 1000) ∧ ∀ H', Same H H' → Q (.int (tabD ns (h + 1))) H'
def tabV (T : Nat → Int) (m : Nat) : List V := (List.range m).map fun i => .int (T i)
theorem tabV_len (T : Nat → Int) (m : Nat) : (tabV T m).length = m := by rw [tabV, List.length_map, List.length_range]
theorem tabV_at {T : Nat → Int} {m i : Nat} (h : i < m) : (tabV T m)[i]? = some (.int (T i)) := by
  unfold tabV
  rw [List.getElem?_map, List.getElem?_range h]
  rfl
theorem tabV_succ (T : Nat → Int) (m : Nat) : tabV T (m + 1) = tabV T m ++ [.int (T m)] := by
  unfold tabV
  rw [List.range_succ, List.map_append]
  rfl
theorem comp_rgV {lo : Int} {m n : Nat} {g : TG} {σ : L2.St} {fr : List Nat} {te : TE} {l : Addr} {H1 : Hp} {Q : VK} (hlen : m < sizeLine) (hl : H1 l = none) (f : Nat → V)
    (step : ∀ (i : Nat) H2, i < m → Same H1 H2 → ∀ (N : V → Hp → Prop), (∀ H', Same H2 H' → N (f i) H') → g (.int (lo + i)) (blk0 σ fr n) H2 fun σ' H3 => te σ' H3 N)
    (fin : ∀ H2, Same H1 H2 → H2 l = some (.lst ((List.range m).map f)) → Q (.ref l) H2) : CompG (Itr lo m) n g σ fr tTrue te l H1 Q := by
  refine comp_range hlen hl (fun i y _ => y = f i) (fun _ _ _ _ _ z => z) (fun i H2 hi s N h => step i H2 hi s N fun H' s' => h _ H' s' rfl) (fun ys H2 s e ly fy => fin H2 s ?_)
  rw [e]
  congr 2
  refine List.ext_getElem (by rw [ly, List.length_map, List.length_range]) fun i h1 h2 => ?_
  rw [List.getElem_map, List.getElem_range]
  exact fy i _ (List.getElem?_eq_getElem h1)
theorem tabD_snoc {ns : List Nt} {i : Nat} {n : Nt} (h : ns[i]? = some n) : tabD (ns.take (i + 1)) = rowD (tabD (ns.take i)) n.h n.ws := by
  unfold tabD
  rw [List.take_add_one, h, List.foldl_append]
  rfl
section
variable {P : Program} {w : World} {K : PySem.W.Frag} {mg : Str → Option Value} {base : Heap} {t : Adr}
theorem ok_law_least (T : Txt w K mg t) : FnOk true P w K mg base (CXo P w) 1 t.f_law_least t.d_law_least ["_law_notes", "_law_height"] (spTab) := by
  refine T.F_law_least.okn (k := 0) sc_law_least (fun vs H Q E h => ?_) (fun cdv A outer s H vs Q E hr h => ?_)
  · obtain ⟨l, h', qs, ns, rfl, _⟩ := h
    rfl
  · obtain ⟨l, h', qs, ns, rfl, h⟩ := h
    refine ⟨_, pss_cons (ps_setcG rfl (blkG_of (zs := ["_law_row"]) (ys := []) (fr := []) (N0 := ["_law_notes", "_law_height", "_law_table", "_law_size", "_law_wish", "_law_other", "_law_row", "_law_here"]) (sc0 := defScope s_law_least) (by decide +kernel) rfl rfl rfl) (pi_range1 rfl T.n_range (pa_cons (pe_op op_add (pv 1) (pe_int)) (pa_nil))) (fun _ _ _ _ _ ow nd => pg_name (i := 0) nd rfl (Or.inl (ow _ (by simp))) (Or.inr (ow _ (by simp)))) (gok_name (by decide)) (fun _ _ _ _ _ => pif_nil) (fun _ _ _ _ _ => pe_int) (j := 2) rfl (Or.inl rfl))
      (pss_cons (ps_for PassesOwn.never rfl (pi_list (pv 0)) (pg_tup rfl (pgs_cons (pg_name (i := 3) sc_law_least.nd rfl (Or.inl rfl)) (pgs_cons (pg_name (i := 4) sc_law_least.nd rfl (Or.inl rfl)) (pgs_nil)))) (pss_cons (ps_set (i := 5) sc_law_least.nd rfl (Or.inl rfl) (pe_lst (pa_cons (pe_op op_pow (pe_int) (pe_int)) (pa_nil))))
      (pss_cons (ps_for PassesOwn.never rfl (pi_range2 rfl T.n_range (pa_cons (pe_int) (pa_cons (pe_op op_add (pv 1) (pe_int)) (pa_nil)))) (pg_name (i := 6) sc_law_least.nd rfl (Or.inl rfl)) (pss_cons (ps_set (i := 7) sc_law_least.nd rfl (Or.inl rfl) (pe_ix ix_list (pv 5) (pe_un un_neg (pe_int)) (fun _ _ => rfl)))
      (pss_cons (ps_if (pt_cmpR op_ge (pe_op op_sub (pv 6) (pv 3)) (pe_int) (nomark _)) (pss_one (ps_set (i := 7) sc_law_least.nd rfl (Or.inl rfl) (pe_callB (call_min2 rfl) rfl T.n_min boot_min (pa_cons (pv 7) (pa_cons (pe_op op_add (pe_ix ix_list (pv 2) (pe_op op_sub (pv 6) (pv 3)) (fun _ _ => rfl)) (pe_callB call_abs rfl T.n_abs boot_abs (pa_cons (pe_op op_sub (pe_op op_sub (pv 6) (pv 3)) (pv 4)) (pa_nil)))) (pa_nil)))))) (pss_nil))
      (pss_one (ps_expr (pe_bm PySem.F.plainAttrs_list PySem.F.slot_list_append PySem.F.type_list_append mt_append (pv 5) (pa_cons (pv 7) (pa_nil))))))))
      (pss_one (ps_set (i := 2) sc_law_least.nd rfl (Or.inl rfl) (pv 5))))))
      (pss_one (ps_ret (pe_ix ix_list (pv 2) (pe_op op_add (pv 1) (pe_int)) (fun _ _ => rfl))))), ?_⟩
    obtain ⟨⟨hl, hq⟩, h16, nl, z, q⟩ := h
    have ql := hq.len
    refine ⟨_, rfl, _, _, rfl, rfl, ((h' + 2 : Nat) : Int), by rw [Int.natCast_add]; rfl, by omega, by omega, fun l1 hl1 => ?_⟩
    refine comp_rgV (Nat.lt_of_le_of_lt (by omega : _ ≤ 1000) (by decide)) hl1 (fun _ => V.int 0) (fun i H2 hi s2 N hN => hN _ (Same.refl _)) fun H2 s2 e2 => ?_
    rw [Int.toNat_natCast] at e2
    have e2 : H2 l1 = some (.lst (tabV (tabD (ns.take 0)) (h' + 2))) := e2
    refine ⟨_, rfl, l, rfl, ⟨_, SqL.of (s2 _ _ hl)⟩, ?_⟩
    refine for_list (xs := qs.map V.ref) (Pv := fun i σ H3 => ∃ (lt : Addr) (v3 v4 v5 v6 v7 : Option V), σ = [some (.ref l), some (.int (h' : Int)), some (.ref lt), v3, v4, v5, v6, v7] ∧ Same H H3 ∧ H3 lt = some (.lst (tabV (tabD (ns.take i)) (h' + 2)))) ⟨_, _, _, _, _, _, rfl, s2, e2⟩ ?_ ?_ ?_
    · rintro i σ H3 _ ⟨_, _, _, _, _, _, rfl, s3, _⟩
      exact SqL.of (s3 _ _ hl)
    · rintro i x σ H3 hx ⟨lt, v3, v4, v5, v6, v7, rfl, s3, e3⟩
      rw [List.getElem?_map] at hx
      obtain ⟨q0, hq0, rfl⟩ := Option.map_eq_some_iff.mp hx
      obtain ⟨n, hn, eq0⟩ := hq.get' hq0
      obtain ⟨n1, n2⟩ := z n (List.mem_of_getElem? hn)
      refine ⟨q0, _, rfl, SqT.of (s3 _ _ eq0), rfl, _, _, rfl, _, _, rfl, rfl, ?_⟩
      refine ⟨_, _, rfl, rfl, ⟨by decide, by decide, by decide⟩, (by show 1 ≤ sizeLine; decide), fun lo hlo => ?_⟩
      have hT := tabD_snoc hn
      generalize tabD (ns.take i) = T0 at e3 hT
      generalize hH4 : upd H3 lo _ = H4
      have s4 : Same H3 H4 := by rw [← hH4]; exact same_upd (Same.refl _) hlo
      have g4 : H4 lo = some (.lst (tabV (rowD T0 n.h n.ws) (0 + 1))) := by rw [← hH4]; exact upd_same
      have ne : lt ≠ lo := ne_of_none e3 hlo
      refine ⟨_, rfl, _, _, rfl, rfl, 1, ((h' + 2 : Nat) : Int), by rw [Int.natCast_add]; rfl, ⟨by omega, by omega, by omega, by omega⟩, ?_⟩
      have hm : (((h' + 2 : Nat) : Int) - 1).toNat = h' + 1 := by omega
      rw [hm]
      refine for_range (Pv := fun j σ H5 => ∃ (v6 v7 : Option V), σ = [some (.ref l), some (.int (h' : Int)), some (.ref lt), some (.int n.h), some (.int n.ws), some (.ref lo), v6, v7] ∧ Same H H5 ∧ H5 lt = some (.lst (tabV T0 (h' + 2))) ∧ H5 lo = some (.lst (tabV (rowD T0 n.h n.ws) (j + 1)))) ⟨_, _, rfl, s3.trans s4, s4 _ _ e3, g4⟩ ?_ ?_
      · rintro j σ H5 hj ⟨v6, v7, rfl, s5, e5, g5⟩
        have gl : atI (tabV (rowD T0 n.h n.ws) (j + 1)) (-1) = some (.int (rowD T0 n.h n.ws j)) := by rw [tabV_succ]; exact atI_last _ _
        have fin : ∀ (v : Int), v = rowD T0 n.h n.ws (j + 1) → ∃ v6 v7, [some (V.ref l), some (.int (h' : Int)), some (.ref lt), some (.int n.h), some (.int n.ws), some (.ref lo), some (.int (1 + (j : Int))), some (.int v)] = [some (V.ref l), some (.int (h' : Int)), some (.ref lt), some (.int n.h), some (.int n.ws), some (.ref lo), v6, v7] ∧ Same H (upd H5 lo (.lst (tabV (rowD T0 n.h n.ws) (j + 1) ++ [.int v]))) ∧ upd H5 lo (.lst (tabV (rowD T0 n.h n.ws) (j + 1) ++ [.int v])) lt = some (.lst (tabV T0 (h' + 2))) ∧ upd H5 lo (.lst (tabV (rowD T0 n.h n.ws) (j + 1) ++ [.int v])) lo = some (.lst (tabV (rowD T0 n.h n.ws) (j + 1 + 1))) := by
          rintro v rfl
          refine ⟨_, _, rfl, fun b u e => ?_, ?_, ?_⟩
          · rw [upd_ne (ne_of_none (s3 _ _ e) hlo)]
            exact s5 _ _ e
          · rw [upd_ne ne]
            exact e5
          · rw [tabV_succ _ (j + 1)]
            exact upd_same
        have app : (tabV (rowD T0 n.h n.ws) (j + 1)).length < sizeLine := by rw [tabV_len]; exact Nat.lt_of_le_of_lt (by omega : _ ≤ 1000) (by decide)
        refine ⟨_, rfl, 1, rfl, lo, _, -1, _, rfl, rfl, SqL.of g5, gl, ?_⟩
        refine ⟨_, rfl, _, rfl, _, _, rfl, rfl, _, _, rfl, rfl, _, rfl, ?_⟩
        by_cases c : 1 ≤ (1 + (j : Int)) - n.h
        · refine ifP (decide_eq_true c) ?_
          have hp : ((((1 + (j : Int)) - n.h).toNat : Nat) : Int) = (1 + (j : Int)) - n.h := Int.toNat_of_nonneg (by omega)
          refine ⟨_, rfl, _, rfl, _, rfl, _, rfl, _, _, rfl, rfl, lt, _, (1 + (j : Int)) - n.h, _, rfl, rfl, SqL.of e5, (by rw [← hp]; exact atI_nat (tabV_at (by omega))), _, rfl, _, rfl, _, _, rfl, rfl, _, rfl, _, _, rfl, rfl, _, rfl, _, _, rfl, rfl, _, _, rfl, ?_⟩
          refine ⟨_, rfl, .inl ⟨rfl, _, SqL.of g5⟩, _, rfl, lo, _, _, rfl, rfl, g5, app, fin _ ?_⟩
          have ej : ((j + 1 : Nat) : Int) = 1 + (j : Int) := by omega
          conv => rhs; unfold rowD
          rw [ej, if_pos c]
          show (if T0 ((1 + (j : Int)) - n.h).toNat + ab ((1 + (j : Int)) - n.h - n.ws) < rowD T0 n.h n.ws j then T0 ((1 + (j : Int)) - n.h).toNat + ab ((1 + (j : Int)) - n.h - n.ws) else rowD T0 n.h n.ws j) = _
          generalize T0 ((1 + (j : Int)) - n.h).toNat + ab ((1 + (j : Int)) - n.h - n.ws) = y
          split <;> omega
        · refine ifN (decide_eq_false c) ?_
          refine ⟨_, rfl, .inl ⟨rfl, _, SqL.of g5⟩, _, rfl, lo, _, _, rfl, rfl, g5, app, fin _ ?_⟩
          conv => rhs; unfold rowD
          rw [if_neg (by omega)]
      · rintro σ H5 ⟨v6, v7, rfl, s5, e5, g5⟩
        exact ⟨_, rfl, lo, _, _, _, _, _, rfl, s5, by rw [hT]; exact g5⟩
    · rintro σ H3 ⟨lt, v3, v4, v5, v6, v7, rfl, s3, e3⟩
      rw [List.length_map, ql, List.take_length] at e3
      refine ⟨_, rfl, _, rfl, _, _, rfl, rfl, lt, _, ((h' + 1 : Nat) : Int), _, rfl, by rw [Int.natCast_add]; rfl, SqL.of e3, atI_nat (tabV_at (by omega)), q H3 s3⟩
end
end S66
set_option maxRecDepth 100000
set_option maxHeartbeats 4000000
namespace S66
open PySem L2 XL PyProof.Rows
open Sprd
def abcS : Str := "abcdefghijklmnopqrstuvwxyz"
theorem abc_nm : ∀ c ∈ abcS.cps.toList, isNm ⟨#[c]⟩ = true := by decide +kernel
theorem abc_nd : abcS.cps.toList.Nodup := by decide +kernel
theorem sgn_nd : (sgnL abcS).Nodup := by
  unfold sgnL
  exact nd_map (fun a b e => by
    have := congrArg (fun s : Str => s.cps.toList) (V.str.inj e)
    exact List.head_eq_of_cons_eq this) abc_nd
theorem as_strs : ∀ {ys : List V}, (∀ y ∈ ys, y ∈ sgnL abcS) → ∃ ss : List Str, ys = ss.map V.str ∧ ∀ s ∈ ss, isNm s = true
  | [], _ => ⟨[], rfl, fun s hs => (nomatch hs)⟩
  | y :: ys, h => by
    obtain ⟨ss, e, hh⟩ := as_strs (ys := ys) fun z hz => h z (List.mem_cons_of_mem _ hz)
    obtain ⟨c, hc, rfl⟩ := List.mem_map.mp (h y List.mem_cons_self)
    refine ⟨⟨#[c]⟩ :: ss, by rw [e]; rfl, fun s hs => ?_⟩
    rcases List.mem_cons.mp hs with rfl | hs
    · exact abc_nm c hc
    · exact hh s hs
theorem pickF {α : Type} {R : α → Addr → Prop} : ∀ {xs : List α} {ys : List V}, ys.length = xs.length → (∀ (j : Nat) y x, ys[j]? = some y → xs[j]? = some x → ∃ q, y = .ref q ∧ R x q) → ∃ qs : List Addr, ys = qs.map V.ref ∧ F2 R xs qs
  | [], [], _, _ => ⟨[], rfl, .nil⟩
  | [], _ :: _, h, _ => nomatch h
  | _ :: _, [], h, _ => nomatch h
  | x :: xs, y :: ys, h, g => by
    obtain ⟨q, rfl, r⟩ := g 0 y x rfl rfl
    obtain ⟨qs, rfl, f⟩ := pickF (R := R) (xs := xs) (ys := ys) (Nat.succ.inj h) fun j y x a b => g (j + 1) y x (by simpa using a) (by simpa using b)
    exact ⟨q :: qs, rfl, .cons r f⟩
theorem F2.app {α : Type} {R : α → Addr → Prop} {xs ys : List α} {qs rs : List Addr} (h : F2 R xs qs) (g : F2 R ys rs) : F2 R (xs ++ ys) (qs ++ rs) := by
  induction h with
  | nil => exact g
  | cons h _ ih => exact .cons h ih
theorem F2.nd {α : Type} {H : Hp} {f : α → List V} (inj : ∀ a b, f a = f b → a = b) {xs : List α} {qs : List Addr} (h : F2 (fun x q => H q = some (.tup (f x))) xs qs) (nd : xs.Nodup) : qs.Nodup := by
  induction h with
  | nil => exact .nil
  | @cons x q xs qs h r ih =>
    obtain ⟨n1, n2⟩ := List.nodup_cons.mp nd
    refine List.nodup_cons.mpr ⟨fun z => ?_, ih n2⟩
    obtain ⟨j, hj⟩ := List.getElem?_of_mem z
    obtain ⟨x', hx', e⟩ := r.get' hj
    have : some (HO.tup (f x)) = some (HO.tup (f x')) := h.symm.trans e
    have := inj _ _ (HO.tup.inj (Option.some.inj this))
    subst this
    exact n1 (List.mem_of_getElem? hx')
theorem F2.sub {α : Type} {R : α → Addr → Prop} {xs : List α} {qs : List Addr} (h : F2 R xs qs) : ∀ (rs : List Addr), (∀ r ∈ rs, r ∈ qs) → ∃ zs : List α, F2 R zs rs ∧ ∀ z ∈ zs, z ∈ xs
  | [], _ => ⟨[], .nil, fun _ z => nomatch z⟩
  | r :: rs, g => by
    obtain ⟨j, hj⟩ := List.getElem?_of_mem (g r List.mem_cons_self)
    obtain ⟨x, hx, e⟩ := h.get' hj
    obtain ⟨zs, f, i⟩ := F2.sub h rs fun q hq => g q (List.mem_cons_of_mem _ hq)
    exact ⟨x :: zs, .cons e f, fun z hz => (List.mem_cons.mp hz).elim (fun e => e ▸ List.mem_of_getElem? hx) (i z)⟩
theorem F2.dn {α : Type} {H : Hp} {f : α → List V} {xs : List α} {qs : List Addr} (h : F2 (fun x q => H q = some (.tup (f x))) xs qs) {l : List Addr} (nd : qs.Nodup) (key : ∀ a b, a ∈ qs → b ∈ qs → H a = H b → a = b) : xs.Nodup := by
  induction h with
  | nil => exact .nil
  | @cons x q xs qs h r ih =>
    obtain ⟨n1, n2⟩ := List.nodup_cons.mp nd
    refine List.nodup_cons.mpr ⟨fun z => ?_, ih n2 fun a b ha hb => key a b (List.mem_cons_of_mem _ ha) (List.mem_cons_of_mem _ hb)⟩
    obtain ⟨j, hj⟩ := List.getElem?_of_mem z
    obtain ⟨q', hq', e⟩ := r.get hj
    have := key q q' List.mem_cons_self (List.mem_cons_of_mem _ (List.mem_of_getElem? hq')) (h.trans e.symm)
    subst this
    exact n1 (List.mem_of_getElem? hq')
theorem F2.key {α : Type} {H : Hp} {f : α → List V} (inj : ∀ a b, f a = f b → a = b) {xs : List α} {qs : List Addr} (h : F2 (fun x q => H q = some (.tup (f x))) xs qs) (nd : xs.Nodup) {a b : Addr} (ha : a ∈ qs) (hb : b ∈ qs) (e : H a = H b) : a = b := by
  obtain ⟨i, hi⟩ := List.getElem?_of_mem ha
  obtain ⟨j, hj⟩ := List.getElem?_of_mem hb
  obtain ⟨x, hx, ex⟩ := h.get' hi
  obtain ⟨y, hy, ey⟩ := h.get' hj
  rw [ex, ey] at e
  have := inj _ _ (HO.tup.inj (Option.some.inj e))
  subst this
  have l1 := (List.getElem?_eq_some_iff.mp hx).1
  have ij := (List.getElem?_inj l1 nd).mp (hx.trans hy.symm)
  subst ij
  exact Option.some.inj (hi.symm.trans hj)
theorem as_refs {qs : List Addr} : ∀ {ys : List V}, (∀ y ∈ ys, y ∈ qs.map V.ref) → ∃ rs : List Addr, ys = rs.map V.ref ∧ ∀ r ∈ rs, r ∈ qs
  | [], _ => ⟨[], rfl, fun _ z => nomatch z⟩
  | y :: ys, h => by
    obtain ⟨rs, rfl, g⟩ := as_refs (ys := ys) fun z hz => h z (List.mem_cons_of_mem _ hz)
    obtain ⟨r, hr, rfl⟩ := List.mem_map.mp (h y List.mem_cons_self)
    exact ⟨r :: rs, rfl, fun s hs => (List.mem_cons.mp hs).elim (fun e => e ▸ hr) (g s)⟩
theorem nd_unmap {α β : Type} {f : α → β} : ∀ {l : List α}, (l.map f).Nodup → l.Nodup
  | [], _ => List.nodup_nil
  | a :: l, h => by
    rw [List.map_cons, List.nodup_cons] at h
    exact List.nodup_cons.mpr ⟨fun z => h.1 (List.mem_map.mpr ⟨a, z, rfl⟩), nd_unmap h.2⟩
abbrev P3 := Str × Seat
def p3V (p : P3) : List V := [.str p.1, .str (sideW p.2.1), .int p.2.2]
def P3L (H : Hp) (l : Addr) (qs : List Addr) (ps : List P3) : Prop := H l = some (.lst (qs.map V.ref)) ∧ F2 (fun (p : P3) q => H q = some (.tup (p3V p))) ps qs
structure GoodP (w h : Nat) (ps : List P3) : Prop where
  l12 : ps.length ≤ 12
  lw : ps.length ≤ w
  lh : ps.length ≤ h
  nm : ∀ p ∈ ps, isNm p.1 = true
  row : ∀ p ∈ ps, 1 ≤ p.2.2 ∧ p.2.2 ≤ (h : Int)
  n1 : (ps.map (·.1)).Nodup
  n2 : (ps.map (·.2)).Nodup
def spPrs (K : PySem.W.Frag) : Sp := fun vs H Q _ => ∃ (sc : Addr) (ns : List Int) (w h : Nat), vs = [.ref sc, .int (w : Int), .int (h : Int)] ∧ SqL K H sc (ns.map V.int) ∧ (1 ≤ w ∧ w ≤ 30) ∧ (1 ≤ h ∧ h ≤ 16) ∧ ∀ H' l qs ps, Same H H' → P3L H' l qs ps → GoodP w h ps → Q (.ref l) H'
def sideRows (b : Bool) (h : Nat) : List Seat := (List.range h).map fun (i : Nat) => (b, 1 + (i : Int))
theorem sideRows_nd (b : Bool) (h : Nat) : (sideRows b h).Nodup := nd_map (fun a c e => by
  have := (Prod.mk.inj e).2
  omega) List.nodup_range
theorem rims_nd (h : Nat) : (sideRows true h ++ sideRows false h).Nodup := by
  refine List.nodup_append.mpr ⟨sideRows_nd _ _, sideRows_nd _ _, fun a ha b hb e => ?_⟩
  obtain ⟨_, _, rfl⟩ := List.mem_map.mp ha
  obtain ⟨_, _, rfl⟩ := List.mem_map.mp hb
  exact absurd (Prod.mk.inj e).1 (by decide)
theorem rims_ok {h : Nat} {s : Seat} (m : s ∈ sideRows true h ++ sideRows false h) : 1 ≤ s.2 ∧ s.2 ≤ (h : Int) := by
  rcases List.mem_append.mp m with m | m <;> (obtain ⟨i, hi, rfl⟩ := List.mem_map.mp m; have := List.mem_range.mp hi; exact ⟨by show 1 ≤ 1 + (i : Int); omega, by show 1 + (i : Int) ≤ h; omega⟩)
theorem seatV_inj (a b : Seat) (h : seatV a = seatV b) : a = b := by
  obtain ⟨a1, a2⟩ := a
  obtain ⟨b1, b2⟩ := b
  have h1 := (List.cons.inj h).1
  have h2 := (List.cons.inj (List.cons.inj h).2).1
  have e1 := sideW_inj (V.str.inj h1)
  have e2 := V.int.inj h2
  dsimp only at e1 e2
  subst e1 e2
  rfl
section
variable {P : Program} {w : World} {K : PySem.W.Frag} {mg : Str → Option Value} {base : Heap} {t : Adr}
theorem ok_law_pairs (T : Txt w K mg t) : FnOk true P w K mg base (CXo P w) 3 t.f_law_pairs t.d_law_pairs ["_law_script", "_law_width", "_law_height"] (spPrs K) := by
  refine T.F_law_pairs.okn (k := 2) sc_law_pairs (fun vs H Q E h => ?_) (fun cdv A outer s H vs Q E hr h => ?_)
  · obtain ⟨sc, ns, w', h', rfl, _⟩ := h
    rfl
  · obtain ⟨sc, ns, w', h', rfl, h⟩ := h
    refine ⟨_, pss_cons (ps_set (i := 3) sc_law_pairs.nd rfl (Or.inl rfl) (pe_op op_mod (pe_call (ok_law_cell T) (hr.mono (by decide)) rfl T.g_law_cell T.F_law_cell.kp T.b_law_cell .nil pass_none (pa_cons (pv 0) (pa_cons (pe_int) (pa_nil)))) (pe_op op_add (pe_callB (call_min3 rfl) rfl T.n_min boot_min (pa_cons (pe_int) (pa_cons (pv 1) (pa_cons (pv 2) (pa_nil))))) (pe_int))))
      (pss_cons (ps_set (i := 4) sc_law_pairs.nd rfl (Or.inr rfl) (pe_call (ok_law_unlike T) (hr.mono (by decide)) rfl T.g_law_unlike T.F_law_unlike.kp T.b_law_unlike .nil pass_none (pa_cons (pe_call (ok_law_cell T) (hr.mono (by decide)) rfl T.g_law_cell T.F_law_cell.kp T.b_law_cell .nil pass_none (pa_cons (pv 0) (pa_cons (pe_int) (pa_nil)))) (pa_cons (pv 3) (pa_cons (pe_callTy (call_list_txt rfl) rfl T.n_list boot_list (pa_cons (pe_str) (pa_nil))) (pa_nil))))))
      (pss_cons (ps_set (i := 5) sc_law_pairs.nd rfl (Or.inl rfl) (pe_op op_cat (pe_compG rfl (blkG_of (zs := ["_law_row"]) (ys := []) (fr := []) (N0 := ["_law_script", "_law_width", "_law_height", "_law_many", "_law_names", "_law_rims", "_law_seats"]) (sc0 := defScope s_law_pairs) (by decide +kernel) rfl rfl rfl) (pi_range2 rfl T.n_range (pa_cons (pe_int) (pa_cons (pe_op op_add (pv 2) (pe_int)) (pa_nil)))) (fun _ _ _ _ _ ow nd => pg_name (i := 0) nd rfl (Or.inl (ow _ (by simp))) (Or.inr (ow _ (by simp)))) (gok_name (by decide)) (fun _ _ _ _ _ => pif_nil) (fun _ _ _ _ _ => pe_tup (pa_cons (pe_str) (pa_cons (pv 0) (pa_nil))))) (pe_compG rfl (blkG_of (zs := ["_law_row"]) (ys := []) (fr := []) (N0 := ["_law_script", "_law_width", "_law_height", "_law_many", "_law_names", "_law_rims", "_law_seats"]) (sc0 := defScope s_law_pairs) (by decide +kernel) rfl rfl rfl) (pi_range2 rfl T.n_range (pa_cons (pe_int) (pa_cons (pe_op op_add (pv 2) (pe_int)) (pa_nil)))) (fun _ _ _ _ _ ow nd => pg_name (i := 0) nd rfl (Or.inl (ow _ (by simp))) (Or.inr (ow _ (by simp)))) (gok_name (by decide)) (fun _ _ _ _ _ => pif_nil) (fun _ _ _ _ _ => pe_tup (pa_cons (pe_str) (pa_cons (pv 0) (pa_nil)))))))
      (pss_cons (ps_set (i := 6) sc_law_pairs.nd rfl (Or.inr rfl) (pe_call (ok_law_unlike T) (hr.mono (by decide)) rfl T.g_law_unlike T.F_law_unlike.kp T.b_law_unlike .nil pass_none (pa_cons (pe_call (ok_law_cell T) (hr.mono (by decide)) rfl T.g_law_cell T.F_law_cell.kp T.b_law_cell .nil pass_none (pa_cons (pv 0) (pa_cons (pe_int) (pa_nil)))) (pa_cons (pv 3) (pa_cons (pv 5) (pa_nil))))))
      (pss_one (ps_ret (pe_compG rfl (blkG_of (zs := ["_law_k"]) (ys := ["_law_names", "_law_seats"]) (fr := [4, 6]) (N0 := ["_law_script", "_law_width", "_law_height", "_law_many", "_law_names", "_law_rims", "_law_seats"]) (sc0 := defScope s_law_pairs) (by decide +kernel) rfl rfl rfl) (pi_range1 rfl T.n_range (pa_cons (pv 3) (pa_nil))) (fun _ _ _ _ _ ow nd => pg_name (i := 0) nd rfl (Or.inl (ow _ (by simp))) (Or.inr (ow _ (by simp)))) (gok_name (by decide)) (fun _ _ _ _ _ => pif_nil) (fun _ _ _ _ _ => pe_tup (pa_cons (pe_ix (r := rIxL K) ix_list (pv 1) (pv 0) (fun _ _ => rfl)) (pa_cons (pe_ix (r := rIxT K) ix_tup (pe_ix (r := rIxL K) ix_list (pv 2) (pv 0) (fun _ _ => rfl)) (pe_int) (fun _ _ => rfl)) (pa_cons (pe_ix (r := rIxT K) ix_tup (pe_ix (r := rIxL K) ix_list (pv 2) (pv 0) (fun _ _ => rfl)) (pe_int) (fun _ _ => rfl)) (pa_nil))))))))))), ?_⟩
    obtain ⟨hs, ⟨w1, w2⟩, ⟨h1, h2⟩, q⟩ := h
    refine ⟨_, rfl, sc, ns, _, rfl, hs, by omega, by omega, fun c0 => ⟨_, rfl, _, rfl, 12, _, _, rfl, fun m m1 m2 m3 m4 => ⟨_, _, rfl, rfl, _, _, rfl, rfl, (by omega), ?_⟩⟩⟩
    have bm := mod_in c0 (show (0 : Int) < m + 1 by omega)
    obtain ⟨n, en⟩ := Int.eq_ofNat_of_zero_le bm.1
    have n12 : n ≤ 12 ∧ n ≤ w' ∧ n ≤ h' := by omega
    simp only [en]
    refine ⟨_, rfl, sc, ns, _, rfl, hs, by omega, by omega, fun c1 => ⟨_, rfl, abcS, rfl, by decide +kernel, fun l1 hl1 => ?_⟩⟩
    have s1 : Same H (upd H l1 (.lst (sgnL abcS))) := same_upd (Same.refl _) hl1
    have g1 : upd H l1 (.lst (sgnL abcS)) l1 = some (.lst (sgnL abcS)) := upd_same
    revert s1 g1
    generalize upd H l1 (.lst (sgnL abcS)) = H1
    intro s1 g1
    refine ⟨c1, n, l1, _, rfl, g1, by rw [show (sgnL abcS).length = 26 by decide +kernel]; omega, by decide +kernel, sgn_nd, fun ys1 H2 l2 ly1 nd1 in1 s2 hl2 => ?_⟩
    obtain ⟨nms, rfl, nmok⟩ := as_strs in1
    have hh : ((h' : Int) + 1 - 1).toNat = h' := by omega
    refine ⟨_, rfl, _, _, rfl, rfl, 1, (h' : Int) + 1, rfl, ⟨by decide, by decide, by omega, by omega⟩, fun r1 hr1 => ?_⟩
    refine comp_range (Nat.lt_of_le_of_lt (by omega : _ ≤ 1000) (by decide)) hr1 (fun i y H5 => ∃ q, y = .ref q ∧ H5 q = some (.tup (seatV (true, 1 + (i : Int))))) (fun i y H5 H6 tp z => let ⟨q, e, f⟩ := z; ⟨q, e, tp _ _ f⟩) (fun i H5 hi s5 N hN => ?_) (fun ya H5 s5 e5 lya fya => ?_)
    · exact ⟨_, rfl, (by show 2 ≤ sizeLine; decide), fun p hp => hN _ _ (same_upd (Same.refl _) hp) ⟨p, rfl, upd_same⟩⟩
    rw [hh] at lya
    refine ⟨_, rfl, _, _, rfl, rfl, 1, (h' : Int) + 1, rfl, ⟨by decide, by decide, by omega, by omega⟩, fun r2 hr2 => ?_⟩
    refine comp_range (Nat.lt_of_le_of_lt (by omega : _ ≤ 1000) (by decide)) hr2 (fun i y H6 => ∃ q, y = .ref q ∧ H6 q = some (.tup (seatV (false, 1 + (i : Int))))) (fun i y H5 H6 tp z => let ⟨q, e, f⟩ := z; ⟨q, e, tp _ _ f⟩) (fun i H6 hi s6 N hN => ?_) (fun yb H6 s6 e6 lyb fyb => ?_)
    · exact ⟨_, rfl, (by show 2 ≤ sizeLine; decide), fun p hp => hN _ _ (same_upd (Same.refl _) hp) ⟨p, rfl, upd_same⟩⟩
    rw [hh] at lyb
    have rl : ∀ b, (sideRows b h').length = h' := fun b => by unfold sideRows; rw [List.length_map, List.length_range]
    have ra : ∀ (b : Bool) (j : Nat) (x : Seat), (sideRows b h')[j]? = some x → x = (b, 1 + (j : Int)) := fun b j x hx => by
      unfold sideRows at hx
      rw [List.getElem?_map] at hx
      obtain ⟨i, hi, rfl⟩ := Option.map_eq_some_iff.mp hx
      have z := (List.getElem?_eq_some_iff.mp hi).2
      rw [List.getElem_range] at z
      rw [z]
    obtain ⟨qa, rfl, fa⟩ := pickF (R := fun x q => H6 q = some (.tup (seatV x))) (xs := sideRows true h') (by rw [lya, rl]) fun j y x hy hx => by
      obtain ⟨q, e, f⟩ := fya j y hy
      rw [ra _ _ _ hx]
      exact ⟨q, e, s6 _ _ f⟩
    obtain ⟨qb, rfl, fb⟩ := pickF (R := fun x q => H6 q = some (.tup (seatV x))) (xs := sideRows false h') (by rw [lyb, rl]) fun j y x hy hx => by
      obtain ⟨q, e, f⟩ := fyb j y hy
      rw [ra _ _ _ hx]
      exact ⟨q, e, f⟩
    have fab := fa.app fb
    rw [List.length_map] at lya lyb
    refine ⟨r1, r2, _, _, rfl, rfl, s6 _ _ e5, e6, by rw [List.length_map, List.length_map]; exact Nat.le_trans (by omega : _ ≤ 1000) (by decide), fun lr hlr => ?_⟩
    rw [← List.map_append]
    have s7 : Same H6 (upd H6 lr (.lst ((qa ++ qb).map V.ref))) := same_upd (Same.refl _) hlr
    have g7 : upd H6 lr (.lst ((qa ++ qb).map V.ref)) lr = some (.lst ((qa ++ qb).map V.ref)) := upd_same
    revert s7 g7
    generalize upd H6 lr (.lst ((qa ++ qb).map V.ref)) = H7
    intro s7 g7
    have s26 := s5.trans s6
    have s07 := ((s1.trans s2).trans s26).trans s7
    have fab7 : F2 (fun (x : Seat) q => H7 q = some (.tup (seatV x))) (sideRows true h' ++ sideRows false h') (qa ++ qb) := fab.mono fun x q e => s7 _ _ e
    have qnd := fab7.nd seatV_inj (rims_nd h')
    refine ⟨_, rfl, sc, ns, _, rfl, Same.seqL s07 hs, by omega, by omega, fun c2 => ⟨_, rfl, _, rfl, c2, n, lr, _, rfl, g7, ?_, ?_, nd_map (fun a b e => V.ref.inj e) qnd, fun ys2 H8 l8 ly2 nd2 in2 s8 hl8 => ?_⟩⟩
    · rw [List.length_map, List.length_append]; omega
    · rw [List.length_map, List.length_append]; omega
    obtain ⟨rs, rfl, rin⟩ := as_refs in2
    have rnd := nd_unmap nd2
    rw [List.length_map] at ly1 ly2
    obtain ⟨ss, fs7, sin⟩ := fab7.sub rs rin
    have fs8 : F2 (fun (x : Seat) q => H8 q = some (.tup (seatV x))) ss rs := fs7.mono fun x q e => s8 _ _ e
    have snd := fs7.dn (l := rs) rnd fun a b ha hb e => fab7.key seatV_inj (rims_nd h') (rin a ha) (rin b hb) e
    have ssl := fs8.len
    have e28 : H8 l2 = some (.lst (nms.map V.str)) := ((s26.trans s7).trans s8) _ _ hl2
    refine ⟨_, rfl, (n : Int), rfl, by omega, by omega, fun lp hlp => ?_⟩
    rw [Int.toNat_natCast]
    refine comp_range (Nat.lt_of_le_of_lt (by omega : _ ≤ 1000) (by decide)) hlp (fun i y H9 => ∃ q p, y = .ref q ∧ (nms.zip ss)[i]? = some p ∧ H9 q = some (.tup (p3V p))) (fun i y H5 H6 tp z => let ⟨q, p, e, e', f⟩ := z; ⟨q, p, e, e', tp _ _ f⟩) (fun i H9 hi s9 N hN => ?_) (fun yc H9 s9 e9 lyc fyc => ?_)
    · obtain ⟨nm, hnm⟩ : ∃ nm, nms[i]? = some nm := ⟨_, List.getElem?_eq_getElem (by omega)⟩
      obtain ⟨x, hx⟩ : ∃ x, ss[i]? = some x := ⟨_, List.getElem?_eq_getElem (by omega)⟩
      obtain ⟨qx, hqx, ex⟩ := fs8.get hx
      have a1 : atI (nms.map V.str) (0 + (i : Int)) = some (.str nm) := by rw [Int.zero_add]; exact atI_nat (by rw [List.getElem?_map, hnm]; rfl)
      have a2 : atI (rs.map V.ref) (0 + (i : Int)) = some (.ref qx) := by rw [Int.zero_add]; exact atI_nat (by rw [List.getElem?_map, hqx]; rfl)
      refine ⟨_, rfl, _, rfl, l2, _, _, _, rfl, rfl, SqL.of (s9 _ _ e28), a1, _, rfl, _, rfl, l8, _, _, _, rfl, rfl, SqL.of (s9 _ _ hl8), a2, qx, _, 0, _, rfl, rfl, SqT.of (s9 _ _ ex), atI_0, _, rfl, _, rfl, l8, _, _, _, rfl, rfl, SqL.of (s9 _ _ hl8), a2, qx, _, 1, _, rfl, rfl, SqT.of (s9 _ _ ex), atI_1, (by show 3 ≤ sizeLine; decide), fun p hp => ?_⟩
      exact hN _ _ (same_upd (Same.refl _) hp) ⟨p, (nm, x), rfl, by rw [List.getElem?_zip_eq_some]; exact ⟨hnm, hx⟩, upd_same⟩
    obtain ⟨qs, rfl, fq⟩ := pickF (R := fun (p : P3) q => H9 q = some (.tup (p3V p))) (xs := nms.zip ss) (by rw [lyc, List.length_zip]; omega) fun j y x hy hx => by
      obtain ⟨q, p, e, e', f⟩ := fyc j y hy
      rw [hx] at e'
      cases e'
      exact ⟨q, e, f⟩
    have z1 : (nms.zip ss).map (·.1) = nms := List.map_fst_zip (by omega)
    have z2 : (nms.zip ss).map (·.2) = ss := List.map_snd_zip (by omega)
    have zl : (nms.zip ss).length = n := by rw [List.length_zip]; omega
    refine q H9 lp qs (nms.zip ss) ((s07.trans s8).trans s9) ⟨e9, fq⟩ ⟨by omega, by omega, by omega, fun p hp => ?_, fun p hp => ?_, ?_, ?_⟩
    · exact nmok _ (z1 ▸ List.mem_map.mpr ⟨p, hp, rfl⟩)
    · exact rims_ok (sin _ (z2 ▸ List.mem_map.mpr ⟨p, hp, rfl⟩))
    · rw [z1]; exact nd_unmap nd1
    · rw [z2]; exact snd
end
end S66
set_option maxRecDepth 100000
set_option maxHeartbeats 4000000
namespace S66
open PySem L2 XL PyProof.Rows
open Sprd
theorem as_intsG {lo hi : Int} : ∀ {ys : List V}, (∀ y ∈ ys, y ∈ rngL lo hi) → ∃ ss : List Int, ys = ss.map V.int ∧ ∀ s ∈ ss, lo ≤ s ∧ s < hi
  | [], _ => ⟨[], rfl, fun s hs => (nomatch hs)⟩
  | y :: ys, h => by
    obtain ⟨ss, e, hh⟩ := as_intsG (ys := ys) fun z hz => h z (List.mem_cons_of_mem _ hz)
    obtain ⟨c, hc, rfl⟩ := List.mem_map.mp (h y List.mem_cons_self)
    rw [List.mem_range] at hc
    refine ⟨(lo + (c : Int)) :: ss, by rw [e]; rfl, fun s hs => ?_⟩
    rcases List.mem_cons.mp hs with rfl | hs
    · omega
    · exact hh s hs
theorem rng_len (lo hi : Int) : (rngL lo hi).length = (hi - lo).toNat := by unfold rngL; rw [List.length_map, List.length_range]
theorem rng_ndG (lo hi : Int) : (rngL lo hi).Nodup := by
  unfold rngL
  exact nd_map (fun a b e => by
    have := V.int.inj e
    omega) List.nodup_range
def spMade66 (t : Adr) (K : PySem.W.Frag) : Sp := fun vs H Q _ => ∃ (sc l : Addr) (ns : List Int) (w h : Nat) (qs : List Addr) (ps : List P3), vs = [.ref sc, .int (w : Int), .int (h : Int), .ref l] ∧ SqL K H sc (ns.map V.int) ∧ (1 ≤ w ∧ w ≤ 30) ∧ (1 ≤ h ∧ h ≤ 16) ∧ P3L H l qs ps ∧ GoodP w h ps ∧ ∀ H' a dp do_ pts, Same H H' → Pic t H' a dp do_ (w : Int) (h : Int) pts → (∀ p ∈ pts, isNm p.nm = true) → Q (.ref a) H'
section
variable {P : Program} {w : World} {K : PySem.W.Frag} {mg : Str → Option Value} {base : Heap} {t : Adr}
theorem ok_law_made (T : Txt w K mg t) : FnOk true P w K mg base (CXo P w) 6 t.f_law_made t.d_law_made ["_law_script", "_law_width", "_law_height", "_law_pairs_here"] (spMade66 t K) := by
  refine T.F_law_made.okn (k := 5) sc_law_made (fun vs H Q E h => ?_) (fun cdv A outer s H vs Q E hr h => ?_)
  · obtain ⟨sc, l, ns, w', h', qs, ps, rfl, _⟩ := h
    rfl
  · obtain ⟨sc, l, ns, w', h', qs, ps, rfl, h⟩ := h
    refine ⟨_, pss_cons (ps_set (i := 4) sc_law_made.nd rfl (Or.inl rfl) (pe_make T.k_Picture (ok_Picture_init T) (hr.mono (by decide)) rfl T.g_Picture T.b_Picture_init .nil pass_none (pa_cons (pv 1) (pa_cons (pv 2) (pa_nil)))))
      (pss_cons (ps_set (i := 5) sc_law_made.nd rfl (Or.inl rfl) (pe_call (ok_law_unlike T) (hr.mono (by decide)) rfl T.g_law_unlike T.F_law_unlike.kp T.b_law_unlike .nil pass_none (pa_cons (pe_call (ok_law_cell T) (hr.mono (by decide)) rfl T.g_law_cell T.F_law_cell.kp T.b_law_cell .nil pass_none (pa_cons (pv 0) (pa_cons (pe_int) (pa_nil)))) (pa_cons (pe_callB call_len_seq rfl T.n_len boot_len (pa_cons (pv 3) (pa_nil))) (pa_cons (pe_callTy (call_list_rng rfl) rfl T.n_list boot_list (pa_cons (pe_callTy call_range2 rfl T.n_range boot_range (pa_cons (pe_int) (pa_cons (pe_op op_add (pv 1) (pe_int)) (pa_nil)))) (pa_nil))) (pa_nil))))))
      (pss_cons (ps_set (i := 6) sc_law_made.nd rfl (Or.inl rfl) (pe_call (ok_law_unlike T) (hr.mono (by decide)) rfl T.g_law_unlike T.F_law_unlike.kp T.b_law_unlike .nil pass_none (pa_cons (pe_call (ok_law_cell T) (hr.mono (by decide)) rfl T.g_law_cell T.F_law_cell.kp T.b_law_cell .nil pass_none (pa_cons (pv 0) (pa_cons (pe_int) (pa_nil)))) (pa_cons (pe_callB call_len_seq rfl T.n_len boot_len (pa_cons (pv 3) (pa_nil))) (pa_cons (pe_callTy (call_list_rng rfl) rfl T.n_list boot_list (pa_cons (pe_callTy call_range2 rfl T.n_range boot_range (pa_cons (pe_int) (pa_cons (pe_op op_add (pv 2) (pe_int)) (pa_nil)))) (pa_nil))) (pa_nil))))))
      (pss_cons (ps_set (i := 7) sc_law_made.nd rfl (Or.inl rfl) (pe_call (ok_law_unlike T) (hr.mono (by decide)) rfl T.g_law_unlike T.F_law_unlike.kp T.b_law_unlike .nil pass_none (pa_cons (pe_call (ok_law_cell T) (hr.mono (by decide)) rfl T.g_law_cell T.F_law_cell.kp T.b_law_cell .nil pass_none (pa_cons (pv 0) (pa_cons (pe_int) (pa_nil)))) (pa_cons (pe_callB call_len_seq rfl T.n_len boot_len (pa_cons (pv 3) (pa_nil))) (pa_cons (pe_callTy (call_list_rng rfl) rfl T.n_list boot_list (pa_cons (pe_callTy call_range1 rfl T.n_range boot_range (pa_cons (pe_callB call_len_seq rfl T.n_len boot_len (pa_cons (pv 3) (pa_nil))) (pa_nil))) (pa_nil))) (pa_nil))))))
      (pss_cons (ps_for PassesOwn.never rfl (pi_range1 rfl T.n_range (pa_cons (pe_callB call_len_seq rfl T.n_len boot_len (pa_cons (pv 3) (pa_nil))) (pa_nil))) (pg_name (i := 8) sc_law_made.nd rfl (Or.inl rfl)) (pss_cons (ps_expr (pe_meth (pv 4) T.c_Picture T.m_Picture_put (ok_Picture_put T) (hr.mono (by decide)) T.b_Picture_put_4.choose_spec.2 T.b_Picture_put_4.choose_spec.1 pass_none (pa_cons (pe_ix ix_tup (pe_ix ix_list (pv 3) (pe_ix ix_list (pv 7) (pv 8) (fun _ _ => rfl)) (fun _ _ => rfl)) (pe_int) (fun _ _ => rfl)) (pa_cons (pe_ix ix_list (pv 5) (pv 8) (fun _ _ => rfl)) (pa_cons (pe_ix ix_list (pv 6) (pv 8) (fun _ _ => rfl)) (pa_nil))))))
      (pss_one (ps_expr (pe_meth (pv 4) T.c_Picture T.m_Picture_open_seat (ok_Picture_open_seat T) (hr.mono (by decide)) T.b_Picture_open_seat .nil pass_none (pa_cons (pe_ix ix_tup (pe_ix ix_list (pv 3) (pv 8) (fun _ _ => rfl)) (pe_int) (fun _ _ => rfl)) (pa_cons (pe_ix ix_tup (pe_ix ix_list (pv 3) (pv 8) (fun _ _ => rfl)) (pe_int) (fun _ _ => rfl)) (pa_nil))))))))
      (pss_one (ps_ret (pv 4))))))), ?_⟩
    obtain ⟨hs, ⟨w1, w2⟩, ⟨h1, h2⟩, ⟨hl, fq⟩, gp, q⟩ := h
    have pl := fq.len
    have l12 := gp.l12
    have lw := gp.lw
    have lh := gp.lh
    generalize hn : ps.length = n at pl l12 lw lh
    refine ⟨_, rfl, _, rfl, fun a dx ha hdx ne => ?_⟩
    refine ⟨a, dx, w', h', rfl, upd_same, by omega, by omega, by omega, by omega, fun H1 dp do_ hdp hdo k1 pic1 hdt => ⟨rfl, ?_⟩⟩
    have up : ∀ b, upd (upd H dx (.own a)) a (.ins t.C_Picture dx []) b = none → H b = none := fun b z => by
      cases e : H b with
      | none => rfl
      | some u => rw [upd_ne (ne_of_none e ha), upd_ne (ne_of_none e hdx), e] at z; cases z
    have s1 : Same H H1 := fun b u e => k1 b u (ne_of_none e ha) (by rw [upd_ne (ne_of_none e ha), upd_ne (ne_of_none e hdx)]; exact e)
    have fdp := up _ hdp
    have fdo := up _ hdo
    refine ⟨_, rfl, sc, ns, _, rfl, Same.seqL s1 hs, by omega, by omega, fun c1 => ⟨_, rfl, l, _, rfl, .inl (SqL.of (s1 _ _ hl)), _, rfl, _, _, rfl, rfl, 1, (w' : Int) + 1, rfl, fun p2 hp2 => ?_⟩⟩
    rw [List.length_map, pl]
    have s2 : Same H1 (upd H1 p2 (.rng 1 ((w' : Int) + 1))) := same_upd (Same.refl _) hp2
    have g2 : upd H1 p2 (.rng 1 ((w' : Int) + 1)) p2 = some (.rng 1 ((w' : Int) + 1)) := upd_same
    revert s2 g2
    generalize upd H1 p2 (.rng 1 ((w' : Int) + 1)) = H2
    intro s2 g2
    refine ⟨p2, _, _, rfl, g2, ⟨by decide, by decide, by omega, by omega⟩, by omega, fun l3 hl3 => ?_⟩
    have s3 : Same H2 (upd H2 l3 (.lst (rngL 1 ((w' : Int) + 1)))) := same_upd (Same.refl _) hl3
    have g3 : upd H2 l3 (.lst (rngL 1 ((w' : Int) + 1))) l3 = some (.lst (rngL 1 ((w' : Int) + 1))) := upd_same
    revert s3 g3
    generalize upd H2 l3 (.lst (rngL 1 ((w' : Int) + 1))) = H3
    intro s3 g3
    refine ⟨c1, n, l3, _, rfl, g3, by rw [rng_len]; omega, by rw [rng_len]; omega, rng_ndG _ _, fun ya H4 l4 lya nda ina s4 hl4 => ?_⟩
    obtain ⟨xs, rfl, xok⟩ := as_intsG ina
    have s14 := (s2.trans s3).trans s4
    refine ⟨_, rfl, sc, ns, _, rfl, Same.seqL (s1.trans s14) hs, by omega, by omega, fun c2 => ⟨_, rfl, l, _, rfl, .inl (SqL.of (s14 _ _ (s1 _ _ hl))), _, rfl, _, _, rfl, rfl, 1, (h' : Int) + 1, rfl, fun p5 hp5 => ?_⟩⟩
    rw [List.length_map, pl]
    have s5 : Same H4 (upd H4 p5 (.rng 1 ((h' : Int) + 1))) := same_upd (Same.refl _) hp5
    have g5 : upd H4 p5 (.rng 1 ((h' : Int) + 1)) p5 = some (.rng 1 ((h' : Int) + 1)) := upd_same
    revert s5 g5
    generalize upd H4 p5 (.rng 1 ((h' : Int) + 1)) = H5
    intro s5 g5
    refine ⟨p5, _, _, rfl, g5, ⟨by decide, by decide, by omega, by omega⟩, by omega, fun l6 hl6 => ?_⟩
    have s6 : Same H5 (upd H5 l6 (.lst (rngL 1 ((h' : Int) + 1)))) := same_upd (Same.refl _) hl6
    have g6 : upd H5 l6 (.lst (rngL 1 ((h' : Int) + 1))) l6 = some (.lst (rngL 1 ((h' : Int) + 1))) := upd_same
    revert s6 g6
    generalize upd H5 l6 (.lst (rngL 1 ((h' : Int) + 1))) = H6
    intro s6 g6
    refine ⟨c2, n, l6, _, rfl, g6, by rw [rng_len]; omega, by rw [rng_len]; omega, rng_ndG _ _, fun yb H7 l7 lyb ndb inb s7 hl7 => ?_⟩
    obtain ⟨ys, rfl, yok⟩ := as_intsG inb
    have s47 := (s5.trans s6).trans s7
    have s17 := s14.trans s47
    refine ⟨_, rfl, sc, ns, _, rfl, Same.seqL (s1.trans s17) hs, by omega, by omega, fun c3 => ⟨_, rfl, l, _, rfl, .inl (SqL.of (s17 _ _ (s1 _ _ hl))), _, rfl, l, _, rfl, .inl (SqL.of (s17 _ _ (s1 _ _ hl))), ?_⟩⟩
    refine ⟨(n : Int), by rw [List.length_map, pl], fun p8 hp8 => ?_⟩
    have s8 : Same H7 (upd H7 p8 (.rng 0 (n : Int))) := same_upd (Same.refl _) hp8
    have g8 : upd H7 p8 (.rng 0 (n : Int)) p8 = some (.rng 0 (n : Int)) := upd_same
    revert s8 g8
    generalize upd H7 p8 (.rng 0 (n : Int)) = H8
    intro s8 g8
    refine ⟨p8, _, _, rfl, g8, ⟨by decide, by decide, by omega, by omega⟩, by omega, fun l9 hl9 => ?_⟩
    have s9 : Same H8 (upd H8 l9 (.lst (rngL 0 (n : Int)))) := same_upd (Same.refl _) hl9
    have g9 : upd H8 l9 (.lst (rngL 0 (n : Int))) l9 = some (.lst (rngL 0 (n : Int))) := upd_same
    revert s9 g9
    generalize upd H8 l9 (.lst (rngL 0 (n : Int))) = H9
    intro s9 g9
    rw [List.length_map, pl]
    refine ⟨c3, n, l9, _, rfl, g9, by rw [rng_len]; omega, by rw [rng_len]; omega, rng_ndG _ _, fun yc H10 l10 lyc ndc inc s10 hl10 => ?_⟩
    obtain ⟨js, rfl, jok⟩ := as_intsG inc
    rw [List.length_map] at lya lyb lyc
    have s710 := (s8.trans s9).trans s10
    have s110 := s17.trans s710
    have e4 : H10 l4 = some (.lst (xs.map V.int)) := s710 _ _ (s47 _ _ hl4)
    have e7 : H10 l7 = some (.lst (ys.map V.int)) := s710 _ _ hl7
    have el : H10 l = some (.lst (qs.map V.ref)) := s110 _ _ (s1 _ _ hl)
    have fq10 : F2 (fun (p : P3) q => H10 q = some (.tup (p3V p))) ps qs := fq.mono fun p q e => s110 _ _ (s1 _ _ e)
    have pic10 := Pic.same s110 pic1
    have st10 : Sts H10 do_ [] := ⟨[], s110 _ _ hdt, rfl, List.nodup_nil, by decide⟩
    have xnd := nd_unmap nda
    have ynd := nd_unmap ndb
    have jnd := nd_unmap ndc
    refine ⟨_, rfl, l, _, rfl, .inl (SqL.of el), (n : Int), by rw [List.length_map, pl], by omega, by omega, ?_⟩
    rw [Int.toNat_natCast]
    have nodp : ∀ {c : Addr} {xs : List V}, (H10 c = some (.lst xs) ∨ H10 c = some (.tup xs)) → c ≠ dp ∧ c ≠ do_ := fun {c xs} z => by
      obtain ⟨kv, e, _⟩ := pic10.pl
      obtain ⟨ko, e', _⟩ := id st10
      rcases z with z | z <;> exact ⟨ne_of z e (fun z => nomatch z), ne_of z e' (fun z => nomatch z)⟩
    refine for_range (Pv := fun k σ HA => ∃ (v8 : Option V) (pts : List Pt), σ = [some (.ref sc), some (.int w'), some (.int h'), some (.ref l), some (.ref a), some (.ref l4), some (.ref l7), some (.ref l10), v8] ∧ (∀ c u, c ≠ dp → c ≠ do_ → H10 c = some u → HA c = some u) ∧ Pic t HA a dp do_ w' h' pts ∧ Sts HA do_ ((ps.map (·.2)).take k) ∧ pts.length = k ∧ (∀ (j : Nat) p, pts[j]? = some p → xs[j]? = some p.x ∧ ys[j]? = some p.y ∧ ∃ (i : Nat) (pr : P3), js[j]? = some (i : Int) ∧ ps[i]? = some pr ∧ p.nm = pr.1) ∧ ∀ p ∈ pts, isNm p.nm = true) ⟨_, [], rfl, fun c u _ _ e => e, pic10, st10, rfl, fun j p z => (by simp at z), fun p z => nomatch z⟩ ?_ ?_
    · rintro k σ HA hk ⟨v8, pts, rfl, kp, picA, stA, pk, pp, pnm⟩
      have i0 : (0 : Int) + (k : Int) = ((k : Nat) : Int) := by omega
      obtain ⟨x, hx⟩ : ∃ x, xs[k]? = some x := ⟨_, List.getElem?_eq_getElem (by omega)⟩
      obtain ⟨y, hy⟩ : ∃ y, ys[k]? = some y := ⟨_, List.getElem?_eq_getElem (by omega)⟩
      obtain ⟨j, hj⟩ : ∃ j, js[k]? = some j := ⟨_, List.getElem?_eq_getElem (by omega)⟩
      obtain ⟨j1, j2⟩ := jok j (List.mem_of_getElem? hj)
      obtain ⟨i, rfl⟩ := Int.eq_ofNat_of_zero_le j1
      obtain ⟨pr, hpr⟩ : ∃ pr, ps[i]? = some pr := ⟨_, List.getElem?_eq_getElem (by omega)⟩
      obtain ⟨pk', hpk⟩ : ∃ pr, ps[k]? = some pr := ⟨_, List.getElem?_eq_getElem (by omega)⟩
      obtain ⟨qi, hqi, eqi⟩ := fq10.get hpr
      obtain ⟨qk, hqk, eqk⟩ := fq10.get hpk
      have up1 : ∀ {c : Addr} {xs : List V}, (H10 c = some (.lst xs) ∨ H10 c = some (.tup xs)) → HA c = H10 c := fun {c xs} z => by
        obtain ⟨n1, n2⟩ := nodp z
        rcases z with z | z <;> (rw [z]; exact kp _ _ n1 n2 z)
      have A4 := (up1 (.inl e4)).trans e4
      have A7 := (up1 (.inl e7)).trans e7
      have A10 := (up1 (.inl hl10)).trans hl10
      have Al := (up1 (.inl el)).trans el
      have Ai := (up1 (.inr eqi)).trans eqi
      have a4 : atI (xs.map V.int) (0 + (k : Int)) = some (.int x) := by rw [i0]; exact atI_nat (by rw [List.getElem?_map, hx]; rfl)
      have a7 : atI (ys.map V.int) (0 + (k : Int)) = some (.int y) := by rw [i0]; exact atI_nat (by rw [List.getElem?_map, hy]; rfl)
      have a10 : atI (js.map V.int) (0 + (k : Int)) = some (.int (i : Int)) := by rw [i0]; exact atI_nat (by rw [List.getElem?_map, hj]; rfl)
      have ali : atI (qs.map V.ref) (i : Int) = some (.ref qi) := atI_nat (by rw [List.getElem?_map, hqi]; rfl)
      have alk : atI (qs.map V.ref) (0 + (k : Int)) = some (.ref qk) := by rw [i0]; exact atI_nat (by rw [List.getElem?_map, hqk]; rfl)
      obtain ⟨⟨dxA, hpA⟩, ⟨kvA, hkA, _⟩, _⟩ := id picA
      obtain ⟨koA, hoA, krA⟩ := id stA
      obtain ⟨x1, x2⟩ := xok x (List.mem_of_getElem? hx)
      obtain ⟨y1, y2⟩ := yok y (List.mem_of_getElem? hy)
      have nmok := gp.nm _ (List.mem_of_getElem? hpr)
      have un : ∀ p ∈ pts, p.nm ≠ pr.1 ∧ p.x ≠ x ∧ p.y ≠ y := fun p hp => by
        obtain ⟨j', hj'⟩ := List.getElem?_of_mem hp
        obtain ⟨z1, z2, i', pr', z3, z4, z5⟩ := pp j' p hj'
        have jl := (List.getElem?_eq_some_iff.mp hj').1
        refine ⟨fun e => ?_, fun e => ?_, fun e => ?_⟩
        · have l1 : i' < (ps.map (·.1)).length := by rw [List.length_map]; exact (List.getElem?_eq_some_iff.mp z4).1
          have := (List.getElem?_inj l1 gp.n1 (j := i)).mp (by rw [List.getElem?_map, List.getElem?_map, z4, hpr]; show some pr'.1 = some pr.1; rw [← z5, e])
          subst this
          have := (List.getElem?_inj (List.getElem?_eq_some_iff.mp z3).1 jnd).mp (z3.trans hj.symm)
          omega
        · have := (List.getElem?_inj (List.getElem?_eq_some_iff.mp z1).1 xnd).mp (z1.trans (by rw [hx, e]))
          omega
        · have := (List.getElem?_inj (List.getElem?_eq_some_iff.mp z2).1 ynd).mp (z2.trans (by rw [hy, e]))
          omega
      refine ⟨_, rfl, a, dxA, _, rfl, hpA, lk_no (by decide +kernel), _, rfl, _, rfl, _, rfl, l10, _, _, _, rfl, rfl, SqL.of A10, a10, l, _, _, _, rfl, rfl, SqL.of Al, ali, qi, _, 0, _, rfl, rfl, SqT.of Ai, atI_0, _, rfl, _, rfl, l4, _, _, _, rfl, rfl, SqL.of A4, a4, _, rfl, _, rfl, l7, _, _, _, rfl, rfl, SqL.of A7, a7, ?_⟩
      refine ⟨a, dp, do_, w', h', pts, pr.1, x, y, "both", 1, h', .non, rfl, picA, .inl ⟨rfl, rfl⟩, nmok, by omega, by omega, by omega, by omega, .inr (.inr rfl), by decide, by omega, by omega, un, by omega, fun HB kB picB => ?_⟩
      have hBA : ∀ c u, c ≠ dp → HA c = some u → HB c = some u := fun c u z e => kB c u z e
      have Bl := hBA _ _ (nodp (.inl el)).1 Al
      have Ak := (up1 (.inr eqk)).trans eqk
      have Bk := hBA _ _ (nodp (.inr eqk)).1 Ak
      have stB : Sts HB do_ ((ps.map (·.2)).take k) := ⟨koA, hBA _ _ (ne_of hoA hkA (fun z => nomatch z)) hoA, krA⟩
      obtain ⟨⟨dxB, hpB⟩, ⟨kvB, hkB, _⟩, _⟩ := id picB
      obtain ⟨koB, hoB, _⟩ := id stB
      obtain ⟨r1, r2⟩ := gp.row _ (List.mem_of_getElem? hpk)
      have nin : pk'.2 ∉ (ps.map (·.2)).take k := fun z => by
        obtain ⟨j', hj'⟩ := List.getElem?_of_mem z
        have jl := (List.getElem?_eq_some_iff.mp hj').1
        rw [List.length_take] at jl
        rw [List.getElem?_take_of_lt (by omega)] at hj'
        have := (List.getElem?_inj (List.getElem?_eq_some_iff.mp hj').1 gp.n2 (j := k)).mp (by rw [hj', List.getElem?_map, hpk]; rfl)
        omega
      refine ⟨_, rfl, a, dxB, _, rfl, hpB, lk_no (by decide +kernel), _, rfl, _, rfl, l, _, _, _, rfl, rfl, SqL.of Bl, alk, qk, _, 1, _, rfl, rfl, SqT.of Bk, atI_1, _, rfl, _, rfl, l, _, _, _, rfl, rfl, SqL.of Bl, alk, qk, _, 2, _, rfl, rfl, SqT.of Bk, atI_2, ?_⟩
      refine ⟨a, dp, do_, w', h', _, (ps.map (·.2)).take k, pk'.2.1, pk'.2.2, rfl, picB, stB, r1, r2, nin, by rw [List.length_take]; omega, fun HC kC picC stC => ?_⟩
      refine ⟨_, pts ++ [⟨pr.1, x, y, "both", 1, h'⟩], rfl, fun c u z1 z2 e => kC _ _ z2 (kB _ _ z1 (kp _ _ z1 z2 e)), picC, ?_, by rw [List.length_append]; show pts.length + 1 = k + 1; omega, fun j' p z => ?_, fun p hp => ?_⟩
      · rw [List.take_add_one, List.getElem?_map, hpk]
        exact stC
      · rcases Nat.lt_or_ge j' k with lt | ge
        · rw [List.getElem?_append_left (by omega)] at z
          exact pp j' p z
        · have lz := (List.getElem?_eq_some_iff.mp z).1
          rw [List.length_append] at lz
          have : j' = k := by have : ([⟨pr.1, x, y, "both", 1, h'⟩] : List Pt).length = 1 := rfl; omega
          subst this
          rw [List.getElem?_append_right (by omega), pk, Nat.sub_self] at z
          cases z
          exact ⟨hx, hy, i, pr, hj, hpr, rfl⟩
      · rcases List.mem_append.mp hp with hp | hp
        · exact pnm p hp
        · rw [List.mem_singleton.mp hp]
          exact nmok
    · rintro σ HA ⟨v8, pts, rfl, kp, picA, stA, pk, pp, pnm⟩
      exact ⟨_, rfl, q HA a dp do_ pts (fun c u e => kp c u (ne_of_none e fdp) (ne_of_none e fdo) (s110 _ _ (s1 _ _ e))) picA pnm⟩
end
end S66
set_option maxRecDepth 100000
set_option maxHeartbeats 4000000
namespace S66
open PySem L2 XL PyProof.Rows
open Sprd
def HtK (kvs : List (Key × V)) : Prop := ∀ kv ∈ kvs, ∃ n : Int, kv.2 = .int n ∧ 1 ≤ n ∧ n ≤ 9
def hgt (kvs : List (Key × V)) (nm : Str) : Int := match valV kvs (.inr nm) with | some (.int n) => n | _ => 1
theorem hgt_get {kvs : List (Key × V)} (h : HtK kvs) (nm : Str) : (valV kvs (.inr nm)).getD (.int 1) = .int (hgt kvs nm) ∧ 1 ≤ hgt kvs nm ∧ hgt kvs nm ≤ 9 := by
  unfold hgt
  cases e : valV kvs (.inr nm) with
  | none => exact ⟨rfl, by decide, by decide⟩
  | some v =>
    obtain ⟨i, hi⟩ := valV_ix e
    obtain ⟨n, hn, n1, n2⟩ := h _ (List.mem_of_getElem? hi)
    dsimp only at hn
    subst hn
    exact ⟨rfl, n1, n2⟩
theorem HtK.put {kvs : List (Key × V)} (h : HtK kvs) {k : Key} {n : Int} (n1 : 1 ≤ n) (n2 : n ≤ 9) : HtK (putK kvs k (.int n)) ∧ (putK kvs k (.int n)).length ≤ kvs.length + 1 := by
  unfold putK
  split
  · refine ⟨fun kv hkv => ?_, by rw [List.length_map]; omega⟩
    obtain ⟨x, hx, rfl⟩ := List.mem_map.mp hkv
    split
    · exact ⟨n, rfl, n1, n2⟩
    · exact h x hx
  · refine ⟨fun kv hkv => ?_, by rw [List.length_append]; exact Nat.le_refl _⟩
    rcases List.mem_append.mp hkv with z | z
    · exact h kv z
    · rw [List.mem_singleton.mp z]
      exact ⟨n, rfl, n1, n2⟩
theorem nine_at (n : Int) : ∃ s : Int, atI [V.int 9, .int 3, .int 2, .int 1, .int 2] (n % 5) = some (.int s) ∧ 1 ≤ s ∧ s ≤ 9 := by
  have z := mod_in n (show (0 : Int) < 5 by decide)
  have : n % 5 = 0 ∨ n % 5 = 1 ∨ n % 5 = 2 ∨ n % 5 = 3 ∨ n % 5 = 4 := by omega
  rcases this with e | e | e | e | e <;> rw [e] <;> exact ⟨_, rfl, by decide, by decide⟩
def spHts (K : PySem.W.Frag) : Sp := fun vs H Q _ => ∃ (sc l : Addr) (ns : List Int) (w h : Nat) (qs : List Addr) (ps : List P3), vs = [.ref sc, .ref l] ∧ SqL K H sc (ns.map V.int) ∧ P3L H l qs ps ∧ GoodP w h ps ∧ ∀ H' d kvs, Same H H' → H' d = some (.dK kvs) → HtK kvs → kvs.length ≤ 12 → Q (.ref d) H'
section
variable {P : Program} {w : World} {K : PySem.W.Frag} {mg : Str → Option Value} {base : Heap} {t : Adr}
theorem ok_law_heights (T : Txt w K mg t) : FnOk true P w K mg base (CXo P w) 4 t.f_law_heights t.d_law_heights ["_law_script", "_law_pairs_here"] (spHts K) := by
  refine T.F_law_heights.okn (k := 3) sc_law_heights (fun vs H Q E h => ?_) (fun cdv A outer s H vs Q E hr h => ?_)
  · obtain ⟨sc, l, ns, w', h', qs, ps, rfl, _⟩ := h
    rfl
  · obtain ⟨sc, l, ns, w', h', qs, ps, rfl, h⟩ := h
    refine ⟨_, pss_cons (ps_set (i := 2) sc_law_heights.nd rfl (Or.inl rfl) (pe_dnewK))
      (pss_cons (ps_for PassesOwn.never rfl (pi_range1 rfl T.n_range (pa_cons (pe_callB call_len_seq rfl T.n_len boot_len (pa_cons (pv 1) (pa_nil))) (pa_nil))) (pg_name (i := 3) sc_law_heights.nd rfl (Or.inl rfl)) (pss_cons (ps_set (i := 4) sc_law_heights.nd rfl (Or.inl rfl) (pe_call (ok_law_digits T) (hr.mono (by decide)) rfl T.g_law_digits T.F_law_digits.kp T.b_law_digits .nil pass_none (pa_cons (pe_call (ok_law_cell T) (hr.mono (by decide)) rfl T.g_law_cell T.F_law_cell.kp T.b_law_cell .nil pass_none (pa_cons (pv 0) (pa_cons (pe_op op_add (pe_int) (pv 3)) (pa_nil)))) (pa_cons (pv 3) (pa_nil)))))
      (pss_one (ps_mid (ps_if (pt_cmpR op_gt (pe_op op_mod (pv 4) (pe_int)) (pe_int) (nomark _)) (pss_one (ps_dput (hu_of hr) (pv 2) (pe_ix ix_tup (pe_ix ix_list (pv 1) (pv 3) (fun _ _ => rfl)) (pe_int) (fun _ _ => rfl)) (pe_op op_add (pe_int) (pe_op op_mod (pe_op op_fdiv (pv 4) (pe_int)) (pe_ix ix_list (pe_lst (pa_cons (pe_int) (pa_cons (pe_int) (pa_cons (pe_int) (pa_cons (pe_int) (pa_cons (pe_int) (pa_nil))))))) (pe_op op_mod (pe_call (ok_law_cell T) (hr.mono (by decide)) rfl T.g_law_cell T.F_law_cell.kp T.b_law_cell .nil pass_none (pa_cons (pv 0) (pa_cons (pe_int) (pa_nil)))) (pe_int)) (fun _ _ => rfl)))) rfl)) (pss_nil))))))
      (pss_one (ps_ret (pv 2)))), ?_⟩
    obtain ⟨hs, ⟨hl, fq⟩, gp, q⟩ := h
    have pl := fq.len
    have l12 := gp.l12
    generalize hn : ps.length = n at pl l12
    refine fun d hd => ?_
    have s1 : Same H (upd H d (.dK [])) := same_upd (Same.refl _) hd
    have g1 : upd H d (.dK []) d = some (.dK []) := upd_same
    revert s1 g1
    generalize upd H d (.dK []) = H1
    intro s1 g1
    refine ⟨_, rfl, l, _, rfl, .inl (SqL.of (s1 _ _ hl)), (n : Int), by rw [List.length_map, pl], by omega, by omega, ?_⟩
    rw [Int.toNat_natCast]
    refine for_range (Pv := fun k σ HA => ∃ (v3 v4 : Option V) (kvs : List (Key × V)), σ = [some (.ref sc), some (.ref l), some (.ref d), v3, v4] ∧ Same H HA ∧ HA d = some (.dK kvs) ∧ HtK kvs ∧ kvs.length ≤ k) ⟨_, _, [], rfl, s1, g1, fun _ z => (nomatch z), Nat.le_refl _⟩ ?_ ?_
    · rintro k σ HA hk ⟨v3, v4, kvs, rfl, sA, gA, ht, kl⟩
      have i0 : (0 : Int) + (k : Int) = ((k : Nat) : Int) := by omega
      obtain ⟨pk', hpk⟩ : ∃ pr, ps[k]? = some pr := ⟨_, List.getElem?_eq_getElem (by omega)⟩
      obtain ⟨qk, hqk, eqk⟩ := fq.get hpk
      have alk : atI (qs.map V.ref) (0 + (k : Int)) = some (.ref qk) := by rw [i0]; exact atI_nat (by rw [List.getElem?_map, hqk]; rfl)
      refine ⟨_, rfl, _, rfl, _, _, rfl, rfl, sc, ns, _, rfl, Same.seqL sA hs, by omega, by omega, fun c1 => ⟨_, rfl, _, _, rfl, by omega, fun m => ?_⟩⟩
      refine ⟨fun σ HB => ∃ (kvs' : List (Key × V)), σ = [some (.ref sc), some (.ref l), some (.ref d), some (.int (0 + (k : Int))), some (.int m)] ∧ Same H HB ∧ HB d = some (.dK kvs') ∧ HtK kvs' ∧ kvs'.length ≤ k + 1, ?_, ?_⟩
      · refine ⟨_, rfl, _, _, rfl, rfl, (by show (0 : Int) < 5; decide), _, _, rfl, rfl, _, rfl, ite2 (fun z => ?_) (fun z => ⟨kvs, rfl, sA, gA, ht, by omega⟩)⟩
        refine ⟨_, rfl, _, _, rfl, rfl, ⟨by decide, by decide⟩, (by show 5 ≤ sizeLine; decide), fun lb hlb => ?_⟩
        have s2 : Same HA (upd HA lb (.lst [.int 9, .int 3, .int 2, .int 1, .int 2])) := same_upd (Same.refl _) hlb
        have g2 : upd HA lb (.lst [.int 9, .int 3, .int 2, .int 1, .int 2]) lb = some (.lst [.int 9, .int 3, .int 2, .int 1, .int 2]) := upd_same
        revert s2 g2
        generalize upd HA lb (.lst [.int 9, .int 3, .int 2, .int 1, .int 2]) = H2
        intro s2 g2
        refine ⟨_, rfl, sc, ns, _, rfl, Same.seqL (sA.trans s2) hs, by omega, by omega, fun c2 => ?_⟩
        obtain ⟨s9, a9, b1, b2⟩ := nine_at c2
        have bm := mod_in (m / 5) (show (0 : Int) < s9 by omega)
        refine ⟨_, _, rfl, rfl, (by show (0 : Int) < 5; decide), lb, _, _, _, rfl, rfl, SqL.of g2, a9, _, _, rfl, rfl, (by omega), _, _, rfl, rfl, _, rfl, _, rfl, _, rfl, l, _, _, _, rfl, rfl, SqL.of (s2 _ _ (sA _ _ hl)), alk, qk, _, 0, _, rfl, rfl, SqT.of (s2 _ _ (sA _ _ eqk)), atI_0, d, _, rfl, DPut.k (k := .inr pk'.1) (s2 _ _ gA) (Nat.lt_of_le_of_lt (by omega : _ ≤ 1000) (by decide)), ?_⟩
        obtain ⟨h1, h2⟩ := ht.put (k := .inr pk'.1) (n := 1 + m / 5 % s9) (by omega) (by omega)
        refine ⟨_, rfl, fun c u e => ?_, upd_same, h1, Nat.le_trans h2 (by omega)⟩
        rw [upd_ne (ne_of_none e hd)]
        exact s2 _ _ (sA _ _ e)
      · rintro σ HB ⟨kvs', rfl, sB, gB, hB, lB⟩
        exact ⟨_, _, kvs', rfl, sB, gB, hB, lB⟩
    · rintro σ HA ⟨v3, v4, kvs, rfl, sA, gA, ht, kl⟩
      exact ⟨_, rfl, q HA d kvs sA gA ht (by omega)⟩
end
end S66
set_option maxRecDepth 100000
set_option maxHeartbeats 4000000
namespace S66
open PySem L2 XL PyProof.Rows
open Sprd
section
variable {K : PySem.W.Frag} {α : Type} {l0 l : Addr} {H1 : Hp} {Q : VK} {as : List α} {qs : List Addr} {n : Nat} {g : TG} {σ : L2.St} {fr : List Nat} {tc : TT} {te : TE} {f : α → List V}
theorem compT (p : α → Bool) (gv : α → List V) (hs : H1 l0 = some (.lst (qs.map V.ref))) (fq : F2 (fun x q => H1 q = some (.tup (f x))) as qs) (hlen : as.length ≤ 100) (hl : H1 l = none)
    (step : ∀ x ∈ as, ∀ q H2, Same H1 H2 → H2 q = some (.tup (f x)) → ∀ (N : V → Hp → Prop) (M : Hp → Prop), (p x = true → ∀ r, H2 r = none → N (.ref r) (upd H2 r (.tup (gv x)))) → (p x = false → M H2) → g (.ref q) (blk0 σ fr n) H2 fun σ' H3 => tc σ' H3 fun b H4 => if b = true then te σ' H4 N else M H4)
    (fin : ∀ rs H2, Same H1 H2 → H2 l = some (.lst (rs.map V.ref)) → F2 (fun x q => H2 q = some (.tup (gv x))) (as.filter p) rs → Q (.ref l) H2) : CompG (Itl K l0) n g σ fr tc te l H1 Q := by
  have ql := fq.len
  let p' : Nat → Bool := fun i => match as[i]? with | some a => p a | none => false
  have hp : ∀ (i : Nat) (a : α), as[i]? = some a → p' i = p a := fun i a e => by show (match as[i]? with | some a => p a | none => false) = p a; rw [e]
  refine comp_listF (SqL.of hs) (by rw [List.length_map, ql]; exact Nat.lt_of_le_of_lt hlen (by decide)) hl p' (fun i y H => ∃ q x, y = .ref q ∧ as[i]? = some x ∧ H q = some (.tup (gv x))) (fun i y H H' tp z => let ⟨q, x, e, e', h⟩ := z; ⟨q, x, e, e', tp _ _ h⟩) (fun i v H2 hv s2 N M h1 h2 => ?_) (fun ys H2 s2 e2 ly fy => ?_)
  · rw [List.getElem?_map] at hv
    obtain ⟨q, hq, rfl⟩ := Option.map_eq_some_iff.mp hv
    obtain ⟨x, hx, e⟩ := fq.get' hq
    refine step x (List.mem_of_getElem? hx) q H2 s2 (s2 _ _ e) N M (fun px r hr => h1 _ _ (same_upd (Same.refl _) hr) ((hp i x hx).trans px) ⟨r, x, rfl, hx, upd_same⟩) (fun px => h2 _ (Same.refl _) ((hp i x hx).trans px))
  · rw [List.length_map, ql] at ly fy
    obtain ⟨ll, li⟩ := ix_filt p hp
    obtain ⟨rs, rfl, fr⟩ := pickF (R := fun x q => H2 q = some (.tup (gv x))) (xs := as.filter p) (ys := ys) (by rw [ly, ll]) fun j y x hy hx => by
      obtain ⟨i, hi⟩ : ∃ i, ((List.range as.length).filter p')[j]? = some i := ⟨_, List.getElem?_eq_getElem (by rw [← ly]; exact (List.getElem?_eq_some_iff.mp hy).1)⟩
      obtain ⟨q, x', e, e', h⟩ := fy j y i hy hi
      rw [li j i hi, hx] at e'
      cases e'
      exact ⟨q, e, h⟩
    exact fin rs H2 s2 e2 fr
theorem compT0 (gv : α → List V) (hs : H1 l0 = some (.lst (qs.map V.ref))) (fq : F2 (fun x q => H1 q = some (.tup (f x))) as qs) (hlen : as.length ≤ 100) (hl : H1 l = none)
    (step : ∀ x ∈ as, ∀ q H2, Same H1 H2 → H2 q = some (.tup (f x)) → ∀ (N : V → Hp → Prop), (∀ r, H2 r = none → N (.ref r) (upd H2 r (.tup (gv x)))) → g (.ref q) (blk0 σ fr n) H2 fun σ' H3 => te σ' H3 N)
    (fin : ∀ rs H2, Same H1 H2 → H2 l = some (.lst (rs.map V.ref)) → F2 (fun x q => H2 q = some (.tup (gv x))) as rs → Q (.ref l) H2) : CompG (Itl K l0) n g σ fr tTrue te l H1 Q := by
  have ql := fq.len
  refine comp_list (SqL.of hs) (by rw [List.length_map, ql]; exact Nat.lt_of_le_of_lt hlen (by decide)) hl (fun i y H => ∃ q x, y = .ref q ∧ as[i]? = some x ∧ H q = some (.tup (gv x))) (fun i y H H' tp z => let ⟨q, x, e, e', h⟩ := z; ⟨q, x, e, e', tp _ _ h⟩) (fun i v H2 hv s2 N h1 => ?_) (fun ys H2 s2 e2 ly fy => ?_)
  · rw [List.getElem?_map] at hv
    obtain ⟨q, hq, rfl⟩ := Option.map_eq_some_iff.mp hv
    obtain ⟨x, hx, e⟩ := fq.get' hq
    exact step x (List.mem_of_getElem? hx) q H2 s2 (s2 _ _ e) N fun r hr => h1 _ _ (same_upd (Same.refl _) hr) ⟨r, x, rfl, hx, upd_same⟩
  · rw [List.length_map, ql] at ly
    obtain ⟨rs, rfl, fr⟩ := pickF (R := fun x q => H2 q = some (.tup (gv x))) (xs := as) (ys := ys) ly fun j y x hy hx => by
      obtain ⟨q, x', e, e', h⟩ := fy j y hy
      rw [hx] at e'
      cases e'
      exact ⟨q, e, h⟩
    exact fin rs H2 s2 e2 fr
theorem compI (p : α → Bool) (gv : α → V) (hs : H1 l0 = some (.lst (qs.map V.ref))) (fq : F2 (fun x q => H1 q = some (.tup (f x))) as qs) (hlen : as.length ≤ 100) (hl : H1 l = none)
    (step : ∀ x ∈ as, ∀ q H2, Same H1 H2 → H2 q = some (.tup (f x)) → ∀ (N : V → Hp → Prop) (M : Hp → Prop), (p x = true → N (gv x) H2) → (p x = false → M H2) → g (.ref q) (blk0 σ fr n) H2 fun σ' H3 => tc σ' H3 fun b H4 => if b = true then te σ' H4 N else M H4)
    (fin : ∀ H2, Same H1 H2 → H2 l = some (.lst ((as.filter p).map gv)) → Q (.ref l) H2) : CompG (Itl K l0) n g σ fr tc te l H1 Q := by
  have ql := fq.len
  let p' : Nat → Bool := fun i => match as[i]? with | some a => p a | none => false
  have hp : ∀ (i : Nat) (a : α), as[i]? = some a → p' i = p a := fun i a e => by show (match as[i]? with | some a => p a | none => false) = p a; rw [e]
  refine comp_listF (SqL.of hs) (by rw [List.length_map, ql]; exact Nat.lt_of_le_of_lt hlen (by decide)) hl p' (fun i y H => ∃ x, as[i]? = some x ∧ y = gv x) (fun i y H H' tp z => z) (fun i v H2 hv s2 N M h1 h2 => ?_) (fun ys H2 s2 e2 ly fy => ?_)
  · rw [List.getElem?_map] at hv
    obtain ⟨q, hq, rfl⟩ := Option.map_eq_some_iff.mp hv
    obtain ⟨x, hx, e⟩ := fq.get' hq
    exact step x (List.mem_of_getElem? hx) q H2 s2 (s2 _ _ e) N M (fun px => h1 _ _ (Same.refl _) ((hp i x hx).trans px) ⟨x, hx, rfl⟩) (fun px => h2 _ (Same.refl _) ((hp i x hx).trans px))
  · rw [List.length_map, ql] at ly fy
    obtain ⟨ll, li⟩ := ix_filt p hp
    have : ys = (as.filter p).map gv := ys_eq (by rw [ly, ll]) fun j y x hy hx => by
      obtain ⟨i, hi⟩ : ∃ i, ((List.range as.length).filter p')[j]? = some i := ⟨_, List.getElem?_eq_getElem (by rw [← ly]; exact (List.getElem?_eq_some_iff.mp hy).1)⟩
      obtain ⟨x', e', h⟩ := fy j y i hy hi
      rw [li j i hi, hx] at e'
      cases e'
      exact h
    exact fin H2 s2 (this ▸ e2)
theorem compI0 (gv : α → V) (hs : H1 l0 = some (.lst (qs.map V.ref))) (fq : F2 (fun x q => H1 q = some (.tup (f x))) as qs) (hlen : as.length ≤ 100) (hl : H1 l = none)
    (step : ∀ x ∈ as, ∀ q H2, Same H1 H2 → H2 q = some (.tup (f x)) → ∀ (N : V → Hp → Prop), N (gv x) H2 → g (.ref q) (blk0 σ fr n) H2 fun σ' H3 => te σ' H3 N)
    (fin : ∀ H2, Same H1 H2 → H2 l = some (.lst (as.map gv)) → Q (.ref l) H2) : CompG (Itl K l0) n g σ fr tTrue te l H1 Q := by
  have ql := fq.len
  refine comp_list (SqL.of hs) (by rw [List.length_map, ql]; exact Nat.lt_of_le_of_lt hlen (by decide)) hl (fun i y H => ∃ x, as[i]? = some x ∧ y = gv x) (fun i y H H' tp z => z) (fun i v H2 hv s2 N h1 => ?_) (fun ys H2 s2 e2 ly fy => ?_)
  · rw [List.getElem?_map] at hv
    obtain ⟨q, hq, rfl⟩ := Option.map_eq_some_iff.mp hv
    obtain ⟨x, hx, e⟩ := fq.get' hq
    exact step x (List.mem_of_getElem? hx) q H2 s2 (s2 _ _ e) N (h1 _ _ (Same.refl _) ⟨x, hx, rfl⟩)
  · rw [List.length_map, ql] at ly
    have : ys = as.map gv := ys_eq ly fun j y x hy hx => by
      obtain ⟨x', e', h⟩ := fy j y hy
      rw [hx] at e'
      cases e'
      exact h
    exact fin H2 s2 (this ▸ e2)
end
theorem perm_lift {α β : Type} {f : α → β} {l' m : List β} (p : l'.Perm m) : ∀ {l : List α}, m = l.map f → ∃ l2 : List α, l2.Perm l ∧ l' = l2.map f := by
  induction p with
  | nil =>
    intro l e
    have : l = [] := List.map_eq_nil_iff.mp e.symm
    subst this
    exact ⟨[], .refl _, rfl⟩
  | cons x _ ih =>
    intro l e
    cases l with
    | nil => cases e
    | cons a l =>
      rw [List.map_cons] at e
      obtain ⟨rfl, e2⟩ := List.cons.inj e
      obtain ⟨l2, p2, rfl⟩ := ih e2
      exact ⟨a :: l2, p2.cons a, rfl⟩
  | swap x y r =>
    intro l e
    cases l with
    | nil => cases e
    | cons a l =>
      cases l with
      | nil => cases e
      | cons b l =>
        rw [List.map_cons, List.map_cons] at e
        obtain ⟨rfl, e2⟩ := List.cons.inj e
        obtain ⟨rfl, rfl⟩ := List.cons.inj e2
        exact ⟨b :: a :: l, .swap a b l, rfl⟩
  | trans _ _ ih1 ih2 =>
    intro l e
    obtain ⟨k2, p2, rfl⟩ := ih2 e
    obtain ⟨k1, p1, rfl⟩ := ih1 rfl
    exact ⟨k1, p1.trans p2, rfl⟩
theorem F2.memR {α : Type} {R : α → Addr → Prop} {xs : List α} {qs : List Addr} (h : F2 R xs qs) : ∀ z ∈ xs.zip qs, z.1 ∈ xs ∧ R z.1 z.2 := by
  induction h with
  | nil => intro z hz; exact nomatch hz
  | cons h _ ih =>
    intro z hz
    rcases List.mem_cons.mp hz with rfl | hz
    · exact ⟨List.mem_cons_self, h⟩
    · exact ⟨List.mem_cons_of_mem _ (ih z hz).1, (ih z hz).2⟩
theorem F2.of_all {α : Type} {R : α → Addr → Prop} : ∀ (zs : List (α × Addr)), (∀ z ∈ zs, R z.1 z.2) → F2 R (zs.map (·.1)) (zs.map (·.2))
  | [], _ => .nil
  | z :: zs, h => .cons (h z List.mem_cons_self) (F2.of_all zs fun y hy => h y (List.mem_cons_of_mem _ hy))
theorem sort_ints {α : Type} {H : Hp} {d : Addr} {as : List α} {qs : List Addr} {f : α → List V} {kf : α → List Key} {ix : α → Int} {sh : List Bool} (l64 : as.length < 64) (hd : H d = some (.lst (qs.map V.ref))) (fq : F2 (fun x q => H q = some (.tup (f x))) as qs)
    (hf : ∀ a, f a = (kf a).map kV) (hn : ∀ a, ∃ r, kf a = .inl (ix a) :: r) (hs : ∀ a ∈ as, shp (kf a) = sh) (h0 : 0 < sh.length) (nd : (as.map ix).Nodup) {Q : VK}
    (fin : ∀ (l : Addr) (bs : List α) (us : List Addr), H l = none → bs.Perm as → F2 (fun x q => H q = some (.tup (f x))) bs us → bs.Pairwise (fun a b => ix a < ix b) → Q (.ref l) (upd H l (.lst (us.map V.ref)))) : rSortedL [.ref d] H Q := by
  have ln := fq.len
  have inj : (as.map kf).Nodup := by
    rw [List.Nodup, List.pairwise_map] at nd ⊢
    refine nd.imp fun {a b} ne e => ne ?_
    obtain ⟨r, er⟩ := hn a
    obtain ⟨r', er'⟩ := hn b
    rw [er, er'] at e
    exact Sum.inl.inj (List.cons.inj e).1
  have mem := fq.memR
  have z1 : (as.zip qs).map (·.1) = as := List.map_fst_zip (by omega)
  have z2 : (as.zip qs).map (·.2) = qs := List.map_snd_zip (by omega)
  refine ⟨d, (as.zip qs).map fun x => (kf x.1, x.2), sh, rfl, ?_, by rw [List.length_map, List.length_zip]; omega, fun z hz => ?_, fun z hz => ?_, h0, ?_, fun l ts hl pm lx => ?_⟩
  · rw [hd, List.map_map]
    congr 2
    conv => lhs; rw [← z2]
    rw [List.map_map]
    rfl
  · obtain ⟨x, hx, rfl⟩ := List.mem_map.mp hz
    rw [(mem x hx).2, hf]
  · obtain ⟨x, hx, rfl⟩ := List.mem_map.mp hz
    exact hs _ (mem x hx).1
  · rw [List.map_map]
    have e := congrArg (List.map kf) z1
    rw [List.map_map] at e
    show ((as.zip qs).map (kf ∘ fun x => x.1)).Nodup
    rw [e]
    exact inj
  · obtain ⟨zs, pz, rfl⟩ := perm_lift pm rfl
    have pb := pz.map (·.1)
    rw [z1] at pb
    have z := fin l (zs.map (·.1)) (zs.map (·.2)) hl pb (F2.of_all zs fun x hx => (mem x (pz.mem_iff.mp hx)).2) (by
      have nb : ((zs.map (·.1)).map ix).Nodup := (pb.map ix).nodup_iff.mpr nd
      rw [List.map_map] at lx
      rw [List.pairwise_map] at lx
      rw [List.Nodup, List.pairwise_map, List.pairwise_map] at nb
      rw [List.pairwise_map]
      refine (lx.and nb).imp fun {a b} y => ?_
      obtain ⟨y1, y2⟩ := y
      obtain ⟨r, er⟩ := hn a.1
      obtain ⟨r', er'⟩ := hn b.1
      have y1 : lexK (kf a.1) (kf b.1) = true := y1
      rw [er, er'] at y1
      unfold lexK at y1
      rw [if_neg (fun e => y2 (Sum.inl.inj e))] at y1
      exact of_decide_eq_true y1)
    rw [List.map_map] at z ⊢
    exact z
theorem nil_in {σ : L2.St} {H : Hp} {R : List V → Hp → Prop} (h : R [] H) : tNil σ H R := h
theorem perm_lt {α : Type} {ix : α → Int} : ∀ {l m : List α}, l.Perm m → l.Pairwise (fun a b => ix a < ix b) → m.Pairwise (fun a b => ix a < ix b) → l = m
  | [], m, p, _, _ => (List.nil_perm.mp p).symm
  | a :: l, [], p, _, _ => (nomatch List.perm_nil.mp p)
  | a :: l, b :: m, p, h1, h2 => by
    obtain ⟨a1, a2⟩ := List.pairwise_cons.mp h1
    obtain ⟨b1, b2⟩ := List.pairwise_cons.mp h2
    have e : a = b := by
      rcases List.mem_cons.mp (p.mem_iff.mp List.mem_cons_self) with e | e
      · exact e
      · rcases List.mem_cons.mp (p.mem_iff.mpr List.mem_cons_self) with e' | e'
        · exact e'.symm
        · have := a1 _ e'
          have := b1 _ e
          omega
    subst e
    rw [perm_lt p.cons_inv a2 b2]
theorem perm_sum {α : Type} {f : α → Int} {l m : List α} (p : l.Perm m) : (l.map f).sum = (m.map f).sum := by
  induction p with
  | nil => rfl
  | cons x _ ih => rw [List.map_cons, List.map_cons, List.sum_cons, List.sum_cons, ih]
  | swap x y l => simp only [List.map_cons, List.sum_cons]; omega
  | trans _ _ a b => exact a.trans b
def onB (b : Bool) (ps : List P3) : List P3 := ps.filter fun p => decide (p.2.1 = b)
def ntOf (kvs : List (Key × V)) (h : Nat) (p : P3) : Nt := ⟨hgt kvs p.1, 1, (h : Int), p.2.2⟩
def sumH (kvs : List (Key × V)) (b : Bool) (ps : List P3) : Int := ((onB b ps).map fun p => hgt kvs p.1).sum
structure Rim (b : Bool) (ps bs : List P3) : Prop where
  pm : bs.Perm (onB b ps)
  lt : bs.Pairwise fun x y => x.2.2 < y.2.2
theorem Rim.uniq {b : Bool} {ps bs cs : List P3} (h : Rim b ps bs) (g : Rim b ps cs) : bs = cs := perm_lt (h.pm.trans g.pm.symm) h.lt g.lt
def zipD (kvs : List (Key × V)) (h : Nat) (bs : List P3) : List (Key × V) := (bs.map fun p => (Sum.inr p.1 : Key)).zip ((leastP (bs.map (ntOf kvs h))).map V.int)
theorem onB_len (b : Bool) (ps : List P3) : (onB b ps).length ≤ ps.length := List.length_filter_le _ _
theorem F2.mapL {α β : Type} {g : α → β} {R : β → Addr → Prop} {xs : List α} {qs : List Addr} (h : F2 (fun x q => R (g x) q) xs qs) : F2 R (xs.map g) qs := by
  induction h with
  | nil => exact .nil
  | cons h _ ih => exact .cons h ih
theorem putsK_nd : ∀ (zs acc : List (Key × V)), (∀ z ∈ zs, valV acc z.1 = none) → (zs.map (·.1)).Nodup → putsK acc zs = acc ++ zs
  | [], acc, _, _ => (List.append_nil _).symm
  | z :: zs, acc, h, nd => by
    rw [List.map_cons, List.nodup_cons] at nd
    show putsK (putK acc z.1 z.2) zs = _
    rw [putK_new _ (h z List.mem_cons_self), putsK_nd zs _ (fun y hy => ?_) nd.2, List.append_assoc]
    · rfl
    · have a := h y (List.mem_cons_of_mem _ hy)
      have b : z.1 ≠ y.1 := fun e => nd.1 (e ▸ List.mem_map.mpr ⟨y, hy, rfl⟩)
      unfold valV at a ⊢
      rw [Option.map_eq_none_iff] at a ⊢
      rw [List.find?_append, a]
      simp [b]
theorem rim_nts {kvs : List (Key × V)} (ht : HtK kvs) {w h : Nat} {ps bs : List P3} {b : Bool} (gp : GoodP w h ps) (rim : Rim b ps bs) : ∀ n ∈ bs.map (ntOf kvs h), n.lo = 1 ∧ n.hi = (h : Int) ∧ 1 ≤ n.h ∧ 1 ≤ n.ws ∧ n.ws ≤ (h : Int) := fun n hn => by
  obtain ⟨p, hp, rfl⟩ := List.mem_map.mp hn
  obtain ⟨r1, r2⟩ := gp.row p (List.mem_filter.mp (rim.pm.mem_iff.mp hp)).1
  exact ⟨rfl, rfl, (hgt_get ht p.1).2.1, r1, r2⟩
theorem rim_room {kvs : List (Key × V)} (ht : HtK kvs) {h : Nat} {ps bs : List P3} {b : Bool} (rim : Rim b ps bs) (c : sumH kvs b ps ≤ (h : Int)) : ∃ ps e s, AL (bs.map (ntOf kvs h)) ps e s := by
  have e : ((bs.map (ntOf kvs h)).map Nt.h).sum = sumH kvs b ps := by
    rw [List.map_map]
    exact perm_sum (f := fun p : P3 => hgt kvs p.1) rim.pm
  have := room_al (H := (h : Int)) (bs.map (ntOf kvs h)) [] (fun n hn => by
    obtain ⟨p, _, rfl⟩ := List.mem_map.mp hn
    exact ⟨rfl, rfl, (hgt_get ht p.1).2.1⟩) ⟨[], -99, 0, .nil, by simp⟩ (by simp) (by rw [e]; simpa using c)
  exact this
def spRF (t : Adr) : Sp := fun vs H Q E => ∃ (a l d dp do_ : Addr) (w h : Nat) (b : Bool) (pts : List Pt) (qs : List Addr) (ps : List P3) (kvs : List (Key × V)), vs = [.ref a, .ref l, .ref d, .str (sideW b)] ∧ Pic t H a dp do_ (w : Int) (h : Int) pts ∧ P3L H l qs ps ∧ GoodP w h ps ∧ H d = some (.dK kvs) ∧ HtK kvs ∧ kvs.length ≤ 12 ∧
  ((h : Int) < sumH kvs b ps → ∀ er : Er, er = .tooTall (.str (sideW b)) → ∀ e H', RaisedE t H H' e er → E e (er.cls t) H') ∧
  (sumH kvs b ps ≤ (h : Int) → ∀ H' d1 bs, Same H H' → H d1 = none → Rim b ps bs → H' d1 = some (.dK (zipD kvs h bs)) → Q (.ref d1) H')
section
variable {P : Program} {w : World} {K : PySem.W.Frag} {mg : Str → Option Value} {base : Heap} {t : Adr}
theorem okT_rim_firsts (T : Txt w K mg t) : FnOk true P w K mg base (CXo P w) 4 t.f_rim_firsts t.d_rim_firsts ["picture", "pairs", "heights", "rim"] (spRF t) := by
  refine T.F_rim_firsts.okx (k := 3) sc_rim_firsts (fun vs H Q E h => ?_) (fun cdv A outer s H vs Q E hr h => ?_)
  · obtain ⟨a, l, d, dp, do_, w', h', b, pts, qs, ps, kvs, rfl, _⟩ := h
    rfl
  · obtain ⟨a, l, d, dp, do_, w', h', b, pts, qs, ps, kvs, rfl, h⟩ := h
    refine ⟨_, pss_cons (ps_set (i := 4) sc_rim_firsts.nd rfl (Or.inl rfl) (pe_callB (call_sortedL rfl) rfl T.n_sorted PyProof.Rows.Boot.«sorted» (pa_cons (pe_compG rfl (blkG_of (zs := ["name", "side", "row"]) (ys := ["rim"]) (fr := [3]) (N0 := ["picture", "pairs", "heights", "rim", "column", "notes"]) (sc0 := defScope s_rim_firsts) (by decide +kernel) rfl rfl rfl) (pi_list (pv 1)) (fun _ _ _ _ _ ow nd => (pg_tup rfl (pgs_cons (pg_name (i := 0) nd rfl (Or.inl (ow _ (by simp))) (Or.inr (ow _ (by simp)))) (pgs_cons (pg_name (i := 1) nd rfl (Or.inl (ow _ (by simp))) (Or.inr (ow _ (by simp)))) (pgs_cons (pg_name (i := 2) nd rfl (Or.inl (ow _ (by simp))) (Or.inr (ow _ (by simp)))) (pgs_nil)))) : PG _ _ (gTup K 3 _))) (gok_tup (goks_cons (by decide) (goks_cons (by decide) (goks_cons (by decide) (goks_nil))))) (fun _ _ _ _ _ => pif_one (pt_cmpR op_eq (pv 1) (pv 3) (nomark _))) (fun _ _ _ _ _ => pe_tup (pa_cons (pv 2) (pa_cons (pv 0) (pa_nil))))) (pa_nil))))
      (pss_cons (ps_setcG rfl (blkG_of (zs := ["row", "name"]) (ys := ["picture", "heights"]) (fr := [0, 2]) (N0 := ["picture", "pairs", "heights", "rim", "column", "notes"]) (sc0 := defScope s_rim_firsts) (by decide +kernel) rfl rfl rfl) (pi_list (pv 4)) (fun _ _ _ _ _ ow nd => (pg_tup rfl (pgs_cons (pg_name (i := 0) nd rfl (Or.inl (ow _ (by simp))) (Or.inr (ow _ (by simp)))) (pgs_cons (pg_name (i := 1) nd rfl (Or.inl (ow _ (by simp))) (Or.inr (ow _ (by simp)))) (pgs_nil))) : PG _ _ (gTup K 2 _))) (gok_tup (goks_cons (by decide) (goks_cons (by decide) (goks_nil)))) (fun _ _ _ _ _ => pif_nil) (fun _ _ _ _ _ => pe_tup (pa_cons (pe_dget2 (hu_of hr) (pv 3) (pv 1) (pe_int) ⟨rfl, rfl, rfl, rfl⟩) (pa_cons (pe_int) (pa_cons ((pe_fld (pv 2) rfl : PE _ _ (tFld K _ _))) (pa_cons (pv 0) (pa_nil)))))) (j := 5) rfl (Or.inl rfl))
      (pss_cons (ps_if (pt_cmpR op_gt (pe_callB (call_sumL rfl) rfl T.n_sum PyProof.Rows.Boot.«sum» (pa_cons (pe_compG rfl (blkG_of (zs := ["note"]) (ys := []) (fr := []) (N0 := ["picture", "pairs", "heights", "rim", "column", "notes"]) (sc0 := defScope s_rim_firsts) (by decide +kernel) rfl rfl rfl) (pi_list (pv 5)) (fun _ _ _ _ _ ow nd => pg_name (i := 0) nd rfl (Or.inl (ow _ (by simp))) (Or.inr (ow _ (by simp)))) (gok_name (by decide)) (fun _ _ _ _ _ => pif_nil) (fun _ _ _ _ _ => pe_ix (r := rIxT K) ix_tup (pv 0) (pe_int) (fun _ _ => rfl))) (pa_nil))) (pe_fld (pv 0) rfl) (nomark _)) (pss_one (ps_raise (hr.hd rfl) takes_def (pe_xmake T.k_TooTall (ok_TooTall_init T) (hr.mono (by decide)) rfl T.g_TooTall T.b_TooTall_init .nil (pa_cons (pv 3) (pa_nil))))) (pss_nil))
      (pss_one (ps_ret (pe_dictZip rfl (hu3_of hr) rfl T.n_dict boot_dict rfl T.n_zip (pa_cons (pe_compG rfl (blkG_of (zs := ["row", "name"]) (ys := []) (fr := []) (N0 := ["picture", "pairs", "heights", "rim", "column", "notes"]) (sc0 := defScope s_rim_firsts) (by decide +kernel) rfl rfl rfl) (pi_list (pv 4)) (fun _ _ _ _ _ ow nd => (pg_tup rfl (pgs_cons (pg_name (i := 0) nd rfl (Or.inl (ow _ (by simp))) (Or.inr (ow _ (by simp)))) (pgs_cons (pg_name (i := 1) nd rfl (Or.inl (ow _ (by simp))) (Or.inr (ow _ (by simp)))) (pgs_nil))) : PG _ _ (gTup K 2 _))) (gok_tup (goks_cons (by decide) (goks_cons (by decide) (goks_nil)))) (fun _ _ _ _ _ => pif_nil) (fun _ _ _ _ _ => pv 1)) (pa_cons (pe_call (ok_least_places T) (hr.mono (by decide)) rfl T.g_least_places T.F_least_places.kp T.b_least_places .nil takes_def.pass (pa_cons (pv 5) (pa_nil))) (pa_nil)))))))), ?_⟩
    obtain ⟨pic, ⟨hl, fq⟩, gp, hd, ht, k12, hE, q⟩ := h
    have l12 := gp.l12
    obtain ⟨⟨dx, hpi⟩, _⟩ := id pic
    refine ⟨_, rfl, l, rfl, ⟨_, SqL.of hl⟩, fun l1 hl1 => ?_⟩
    refine compT (fun p : P3 => decide (p.2.1 = b)) (fun p => [.int p.2.2, .str p.1]) hl fq (by omega) hl1 (fun x hx qx H2 s2 ex N M hN hM => ?_) (fun rs H2 s2 e2 f2 => ?_)
    · refine ⟨qx, _, rfl, SqT.of ex, rfl, _, _, rfl, _, _, rfl, _, _, rfl, rfl, ?_⟩
      refine ⟨_, rfl, _, rfl, rfl, _, rfl, ?_⟩
      have ed : decide (V.str (sideW x.2.1) = V.str (sideW b)) = decide (x.2.1 = b) := by
        by_cases c : x.2.1 = b
        · rw [c]; simp
        · rw [decide_eq_false c, decide_eq_false fun z => c (sideW_inj (V.str.inj z))]
      rw [ed]
      refine ite2 (fun c => ⟨_, rfl, _, rfl, (by show 2 ≤ sizeLine; decide), fun r hr => hN c r hr⟩) (fun c => hM (Bool.eq_false_iff.mpr c))
    have nd0 : ((onB b ps).map fun p => p.2.2).Nodup := by
      have z : ((onB b ps).map (·.2)).Nodup := List.Nodup.sublist ((List.filter_sublist).map _) gp.n2
      rw [List.Nodup, List.pairwise_map] at z ⊢
      refine List.Pairwise.imp_of_mem (fun {x y} hx hy ne e => ne ?_) z
      have h1 := of_decide_eq_true (List.mem_filter.mp hx).2
      have h2 := of_decide_eq_true (List.mem_filter.mp hy).2
      exact Prod.ext (h1.trans h2.symm) e
    have ol := onB_len b ps
    refine nil_in ?_
    refine sort_ints (as := onB b ps) (ix := fun p => p.2.2) (kf := fun p => [.inl p.2.2, .inr p.1]) (sh := [true, false]) (by omega) e2 f2 (fun _ => rfl) (fun _ => ⟨_, rfl⟩) (fun _ _ => rfl) (by decide) nd0 fun l3 bs us hl3 pm f3 lt3 => ?_
    have rim : Rim b ps bs := ⟨pm, lt3⟩
    have bl := pm.length_eq
    have s3 : Same H2 (upd H2 l3 (.lst (us.map V.ref))) := same_upd (Same.refl _) hl3
    have g3 : upd H2 l3 (.lst (us.map V.ref)) l3 = some (.lst (us.map V.ref)) := upd_same
    revert s3 g3
    generalize upd H2 l3 (.lst (us.map V.ref)) = H3
    intro s3 g3
    have s03 := s2.trans s3
    have f3' : F2 (fun (x : P3) q => H3 q = some (.tup [.int x.2.2, .str x.1])) bs us := f3.mono fun x q e => s3 _ _ e
    refine ⟨_, rfl, l3, rfl, ⟨_, SqL.of g3⟩, fun l4 hl4 => ?_⟩
    refine compT0 (fun p : P3 => [.int (ntOf kvs h' p).h, .int (ntOf kvs h' p).lo, .int (ntOf kvs h' p).hi, .int (ntOf kvs h' p).ws]) g3 f3' (by omega) hl4 (fun x hx qx H4 s4 ex N hN => ?_) (fun rs4 H4 s4 e4 f4 => ?_)
    · obtain ⟨v1, _⟩ := hgt_get ht x.1
      refine ⟨qx, _, rfl, SqT.of ex, rfl, _, _, rfl, _, _, rfl, rfl, ?_⟩
      refine ⟨_, rfl, d, rfl, .inl ⟨kvs, .inl (s4 _ _ (s03 _ _ hd))⟩, _, rfl, _, .inl ⟨kvs, .inr x.1, .inl (s4 _ _ (s03 _ _ hd)), rfl, rfl⟩, ?_⟩
      rw [v1]
      refine ⟨_, rfl, a, _, _, _, _, rfl, (s4 _ _ (s03 _ _ hpi)), T.c_Picture, T.n_Picture_height, lkH, _, rfl, (by show 4 ≤ sizeLine; decide), fun r hr => hN r hr⟩
    have b9 : ∀ p ∈ bs, 1 ≤ hgt kvs p.1 ∧ hgt kvs p.1 ≤ 9 := fun p _ => (hgt_get ht p.1).2
    have s04 := s03.trans s4
    refine ⟨_, rfl, l4, rfl, ⟨_, SqL.of e4⟩, fun l5 hl5 => ?_⟩
    refine compI0 (fun p : P3 => .int (hgt kvs p.1)) e4 f4 (by omega) hl5 (fun x hx qx H5 s5 ex N hN => ⟨_, rfl, qx, _, 0, _, rfl, rfl, SqT.of ex, atI_0, hN⟩) (fun H5 s5 e5 => ?_)
    have s05 := s04.trans s5
    have se : (bs.map fun p => hgt kvs p.1).sum = sumH kvs b ps := perm_sum pm
    refine nil_in ⟨l5, bs.map (fun p => hgt kvs p.1), rfl, SqL.of (by rw [e5, List.map_map]; rfl), ⟨by rw [List.length_map]; omega, fun n hn => ?_⟩, ?_⟩
    · obtain ⟨p, hp, rfl⟩ := List.mem_map.mp hn
      have := b9 p hp
      omega
    rw [se]
    refine ⟨_, rfl, a, _, _, _, _, rfl, (s05 _ _ hpi), T.c_Picture, T.n_Picture_height, lkH, _, _, rfl, rfl, _, rfl, ?_⟩
    by_cases c : (h' : Int) < sumH kvs b ps
    · refine ifP (decide_eq_true c) ?_
      exact ⟨_, rfl, (by show 1 ≤ 1000; decide), fun e he => ⟨e, _, rfl, upd_same, fun dx hdx => ⟨rfl, e, t.C_TooTall, some dx, rfl, upd_same, T.mk_TooTall, hE c (.tooTall _) rfl e _ (RaisedE.pre s05 (raised1 rfl rfl he hdx))⟩⟩⟩
    · refine ifN (decide_eq_false c) ?_
      have c' : sumH kvs b ps ≤ (h' : Int) := by omega
      have f5 : F2 (fun (x : P3) q => H5 q = some (.tup [.int x.2.2, .str x.1])) bs us := f3'.mono fun x q e => s5 _ _ (s4 _ _ e)
      refine ⟨_, rfl, l3, rfl, ⟨_, SqL.of (s5 _ _ (s4 _ _ g3))⟩, fun l6 hl6 => ?_⟩
      refine compI0 (fun p : P3 => .str p.1) (s5 _ _ (s4 _ _ g3)) f5 (by omega) hl6 (fun x hx qx H6 s6 ex N hN => ⟨qx, _, rfl, SqT.of ex, rfl, _, _, rfl, _, _, rfl, rfl, _, rfl, hN⟩) (fun H6 s6 e6 => ?_)
      have hle : bs.length ≤ 100 := by omega
      refine ⟨_, rfl, l4, rs4, bs.map (ntOf kvs h'), rfl, ?_, ?_, fun H7 p7 s7 fp7 e7 => ?_⟩
      · refine ⟨s6 _ _ (s5 _ _ e4), F2.mapL (f4.mono fun x q e => s6 _ _ (s5 _ _ e)), fun n hn => ?_, by rw [List.length_map]; omega⟩
        obtain ⟨p, hp, rfl⟩ := List.mem_map.mp hn
        obtain ⟨z1, z2⟩ := b9 p hp
        obtain ⟨r1, r2⟩ := gp.row p (List.mem_filter.mp (pm.mem_iff.mp hp)).1
        have h16 := pic.h2
        exact ⟨z1, z2, by show -99 ≤ (1 : Int); decide, by show (1 : Int) ≤ 99; decide, by show -99 ≤ (h' : Int); omega, by show (h' : Int) ≤ 99; omega, by show -99 ≤ p.2.2; omega, by show p.2.2 ≤ 99; omega⟩
      · exact rim_room ht rim c'
      · obtain ⟨ps0, e0, s0, al⟩ := rim_room ht rim c'
        obtain ⟨wy, _, _, alw, _⟩ := leastP_best al
        have ll := alw.len
        rw [List.length_map] at ll
        refine nil_in ⟨l6, p7, bs.map fun p => Sum.inr p.1, _, rfl, by rw [s7 _ _ e6, List.map_map]; rfl, e7, by rw [List.length_map, List.length_map, ll], by rw [List.length_map]; omega, fun H8 d8 s8 f8 e8 => ?_⟩
        have s08 := ((s05.trans s6).trans s7).trans s8
        refine q c' H8 d8 bs s08 (((s05.trans s6).trans s7).free f8) rim ?_
        rw [e8, putsK_nd]
        · rfl
        · intro z _; rfl
        · rw [List.map_fst_zip (by rw [List.length_map, List.length_map, ll]; exact Nat.le_refl _)]
          have nb : (bs.map (·.1)).Nodup := (pm.map _).nodup_iff.mpr (List.Nodup.sublist ((List.filter_sublist).map _) gp.n1)
          have := nd_map (f := fun s : Str => (Sum.inr s : Key)) (fun a b e => Sum.inr.inj e) nb
          rw [List.map_map] at this
          exact this
end
end S66
set_option maxRecDepth 100000
set_option maxHeartbeats 4000000
namespace S66
open PySem L2 XL PyProof.Rows
open Sprd
theorem valV_app (a b : List (Key × V)) (k : Key) : valV (a ++ b) k = (valV a k).or (valV b k) := by
  unfold valV
  rw [List.find?_append]
  cases a.find? (fun kv => decide (kv.1 = k)) <;> rfl
theorem zip_val : ∀ {bs : List P3} {ls : List Int} {i : Nat} {p : P3} {f : Int}, (bs.map (·.1)).Nodup → bs[i]? = some p → ls[i]? = some f → valV ((bs.map fun p => (Sum.inr p.1 : Key)).zip (ls.map V.int)) (.inr p.1) = some (.int f)
  | [], _, _, _, _, _, h, _ => by simp at h
  | _ :: _, [], _, _, _, _, _, h => by simp at h
  | b :: bs, l :: ls, 0, p, f, _, h1, h2 => by
    simp at h1 h2
    subst h1 h2
    exact valV_pos rfl
  | b :: bs, l :: ls, i + 1, p, f, nd, h1, h2 => by
    rw [List.map_cons, List.nodup_cons] at nd
    have h1' : bs[i]? = some p := by simpa using h1
    show valV ((Sum.inr b.1, V.int l) :: _) _ = _
    rw [valV_neg (fun e => nd.1 (by have := Sum.inr.inj e; rw [this]; exact List.mem_map.mpr ⟨p, List.mem_of_getElem? h1', rfl⟩))]
    exact zip_val nd.2 h1' (by simpa using h2)
theorem zip_noval : ∀ {bs : List P3} {ls : List Int} {nm : Str}, (∀ p ∈ bs, p.1 ≠ nm) → valV ((bs.map fun p => (Sum.inr p.1 : Key)).zip (ls.map V.int)) (.inr nm) = none
  | [], _, _, _ => rfl
  | _ :: _, [], _, _ => rfl
  | b :: bs, l :: ls, nm, h => by
    show valV ((Sum.inr b.1, V.int l) :: _) _ = _
    rw [valV_neg (fun e => h b List.mem_cons_self (Sum.inr.inj e))]
    exact zip_noval fun p hp => h p (List.mem_cons_of_mem _ hp)
def fstOf (kvs : List (Key × V)) (h : Nat) (bs : List P3) (p : P3) : Int := match valV (zipD kvs h bs) (.inr p.1) with | some (.int n) => n | _ => 0
theorem Rim.nd {b : Bool} {w h : Nat} {ps bs : List P3} (r : Rim b ps bs) (gp : GoodP w h ps) : (bs.map (·.1)).Nodup := (r.pm.map _).nodup_iff.mpr (List.Nodup.sublist ((List.filter_sublist).map _) gp.n1)
theorem Rim.mem {b : Bool} {ps bs : List P3} (r : Rim b ps bs) {p : P3} : p ∈ bs ↔ p ∈ ps ∧ p.2.1 = b := by
  rw [r.pm.mem_iff]
  unfold onB
  rw [List.mem_filter, decide_eq_true_eq]
theorem least_len {kvs : List (Key × V)} (ht : HtK kvs) {h : Nat} {ps bs : List P3} {b : Bool} (rim : Rim b ps bs) (c : sumH kvs b ps ≤ (h : Int)) : (leastP (bs.map (ntOf kvs h))).length = bs.length := by
  obtain ⟨ps0, e0, s0, al⟩ := rim_room ht rim c
  obtain ⟨wy, _, _, alw, _⟩ := leastP_best al
  have := alw.len
  rw [List.length_map] at this
  exact this
theorem fst_is {kvs : List (Key × V)} {w h : Nat} {ps bs : List P3} {b : Bool} (gp : GoodP w h ps) (rim : Rim b ps bs) {i : Nat} {p : P3} {f : Int} (hi : bs[i]? = some p) (hf : (leastP (bs.map (ntOf kvs h)))[i]? = some f) : valV (zipD kvs h bs) (.inr p.1) = some (.int f) ∧ fstOf kvs h bs p = f := by
  have e : valV (zipD kvs h bs) (.inr p.1) = some (.int f) := zip_val (rim.nd gp) hi hf
  exact ⟨e, by unfold fstOf; rw [e]⟩
theorem fst_val {kvs : List (Key × V)} (ht : HtK kvs) {w h : Nat} {ps bs : List P3} {b : Bool} (gp : GoodP w h ps) (rim : Rim b ps bs) (c : sumH kvs b ps ≤ (h : Int)) {p : P3} (hp : p ∈ bs) : valV (zipD kvs h bs) (.inr p.1) = some (.int (fstOf kvs h bs p)) := by
  obtain ⟨i, hi⟩ := List.getElem?_of_mem hp
  have := least_len ht rim c
  have lt := (List.getElem?_eq_some_iff.mp hi).1
  obtain ⟨e1, e2⟩ := fst_is gp rim hi (List.getElem?_eq_getElem (show i < (leastP (bs.map (ntOf kvs h))).length by omega))
  rw [e2]
  exact e1
def plcV (kvs : List (Key × V)) (h : Nat) (bL bR : List P3) (p : P3) : List V := [.str p.1, .str (sideW p.2.1), .int (fstOf kvs h (if p.2.1 then bL else bR) p), .int (hgt kvs p.1)]
def Tall (kvs : List (Key × V)) (h : Nat) (ps : List P3) (b : Bool) : Prop := (h : Int) < sumH kvs b ps ∧ (b = false → sumH kvs true ps ≤ (h : Int))
def spCP (t : Adr) : Sp := fun vs H Q E => ∃ (a l d dp do_ : Addr) (w h : Nat) (pts : List Pt) (qs : List Addr) (ps : List P3) (kvs : List (Key × V)), vs = [.ref a, .ref l, .ref d] ∧ Pic t H a dp do_ (w : Int) (h : Int) pts ∧ P3L H l qs ps ∧ GoodP w h ps ∧ H d = some (.dK kvs) ∧ HtK kvs ∧ kvs.length ≤ 12 ∧
  (∀ b, Tall kvs h ps b → ∀ er : Er, er = .tooTall (.str (sideW b)) → ∀ e H', RaisedE t H H' e er → E e (er.cls t) H') ∧
  (sumH kvs true ps ≤ (h : Int) → sumH kvs false ps ≤ (h : Int) → ∀ H' l' rs bL bR, Same H H' → Rim true ps bL → Rim false ps bR → H' l' = some (.lst (rs.map V.ref)) → F2 (fun p q => H' q = some (.tup (plcV kvs h bL bR p))) ps rs → Q (.ref l') H')
section
variable {P : Program} {w : World} {K : PySem.W.Frag} {mg : Str → Option Value} {base : Heap} {t : Adr}
theorem okT_column_places (T : Txt w K mg t) : FnOk true P w K mg base (CXo P w) 5 t.f_column_places t.d_column_places ["picture", "pairs", "heights"] (spCP t) := by
  refine T.F_column_places.okx (k := 4) sc_column_places (fun vs H Q E h => ?_) (fun cdv A outer s H vs Q E hr h => ?_)
  · obtain ⟨a, l, d, dp, do_, w', h', pts, qs, ps, kvs, rfl, _⟩ := h
    rfl
  · obtain ⟨a, l, d, dp, do_, w', h', pts, qs, ps, kvs, rfl, h⟩ := h
    refine ⟨_, pss_cons (ps_set (i := 3) sc_column_places.nd rfl (Or.inr rfl) (pe_call (okT_rim_firsts T) (hr.mono (by decide)) rfl T.g_rim_firsts T.F_rim_firsts.kp T.b_rim_firsts .nil takes_def.pass (pa_cons (pv 0) (pa_cons (pv 1) (pa_cons (pv 2) (pa_cons (pe_str) (pa_nil)))))))
      (pss_cons (ps_expr (pe_bm PySem.F.plainAttrs_dict PySem.F.slot_dict_update PySem.F.type_dict_update mt_updateK (pv 3) (pa_cons (pe_call (okT_rim_firsts T) (hr.mono (by decide)) rfl T.g_rim_firsts T.F_rim_firsts.kp T.b_rim_firsts .nil takes_def.pass (pa_cons (pv 0) (pa_cons (pv 1) (pa_cons (pv 2) (pa_cons (pe_str) (pa_nil)))))) (pa_nil))))
      (pss_one (ps_ret (pe_compG rfl (blkG_of (zs := ["name", "side", "row"]) (ys := ["firsts", "heights"]) (fr := [3, 2]) (N0 := ["picture", "pairs", "heights", "firsts"]) (sc0 := defScope s_column_places) (by decide +kernel) rfl rfl rfl) (pi_list (pv 1)) (fun _ _ _ _ _ ow nd => (pg_tup rfl (pgs_cons (pg_name (i := 0) nd rfl (Or.inl (ow _ (by simp))) (Or.inr (ow _ (by simp)))) (pgs_cons (pg_name (i := 1) nd rfl (Or.inl (ow _ (by simp))) (Or.inr (ow _ (by simp)))) (pgs_cons (pg_name (i := 2) nd rfl (Or.inl (ow _ (by simp))) (Or.inr (ow _ (by simp)))) (pgs_nil)))) : PG _ _ (gTup K 3 _))) (gok_tup (goks_cons (by decide) (goks_cons (by decide) (goks_cons (by decide) (goks_nil))))) (fun _ _ _ _ _ => pif_nil) (fun _ _ _ _ _ => pe_tup (pa_cons (pv 0) (pa_cons (pv 1) (pa_cons (pe_dget (hu_of hr) (pv 3) (pv 0) (fun _ _ => rfl)) (pa_cons (pe_dget2 (hu_of hr) (pv 4) (pv 0) (pe_int) ⟨rfl, rfl, rfl, rfl⟩) (pa_nil)))))))))), ?_⟩
    obtain ⟨pic, ⟨hl, fq⟩, gp, hd, ht, k12, hE, q⟩ := h
    have l12 := gp.l12
    have Ls : V.str "left" = V.str (sideW true) := rfl
    have Rs : V.str "right" = V.str (sideW false) := rfl
    refine ⟨_, rfl, _, rfl, _, rfl, a, l, d, dp, do_, w', h', true, pts, qs, ps, kvs, rfl, pic, ⟨hl, fq⟩, gp, hd, ht, k12, fun tl er her e H' ra => hE true ⟨tl, fun z => nomatch z⟩ er her e H' ra, fun cL H1 d1 bL s1 f1 rL e1 => ?_⟩
    have pic1 := Pic.same s1 pic
    have fq1 : F2 (fun (p : P3) q => H1 q = some (.tup (p3V p))) ps qs := fq.mono fun p q e => s1 _ _ e
    refine ⟨_, rfl, .inr (.inr (.inl ⟨rfl, .inl ⟨_, e1⟩⟩)), _, rfl, _, rfl, _, rfl, a, l, d, dp, do_, w', h', false, pts, qs, ps, kvs, rfl, pic1, ⟨s1 _ _ hl, fq1⟩, gp, s1 _ _ hd, ht, k12, fun tl er her e H' ra => hE false ⟨tl, fun _ => cL⟩ er her e H' (RaisedE.pre s1 ra), fun cR H2 d2 bR s2 f2 rR e2 => ?_⟩
    have nLR : ∀ x ∈ bL, ∀ y ∈ bR, x.1 ≠ y.1 := fun x hx y hy e => by
      obtain ⟨x1, x2⟩ := rL.mem.mp hx
      obtain ⟨y1, y2⟩ := rR.mem.mp hy
      obtain ⟨i, hi⟩ := List.getElem?_of_mem x1
      obtain ⟨j, hj⟩ := List.getElem?_of_mem y1
      have := (List.getElem?_inj (i := i) (j := j) (by rw [List.length_map]; exact (List.getElem?_eq_some_iff.mp hi).1) gp.n1).mp (by rw [List.getElem?_map, List.getElem?_map, hi, hj]; show some x.1 = some y.1; rw [e])
      subst this
      rw [hi] at hj
      cases hj
      rw [x2] at y2
      cases y2
    have llR := least_len ht rR cR
    have llL := least_len ht rL cL
    have lL := rL.pm.length_eq
    have lR := rR.pm.length_eq
    have oL := onB_len true ps
    have oR := onB_len false ps
    have ndR : ((zipD kvs h' bR).map (·.1)).Nodup := by
      unfold zipD
      rw [List.map_fst_zip (by rw [List.length_map, List.length_map, llR]; exact Nat.le_refl _)]
      have := nd_map (f := fun s : Str => (Sum.inr s : Key)) (fun a b e => Sum.inr.inj e) (rR.nd gp)
      rw [List.map_map] at this
      exact this
    have mrg : mergeK (zipD kvs h' bL) (zipD kvs h' bR) = zipD kvs h' bL ++ zipD kvs h' bR := putsK_nd _ _ (fun z hz => by
      have z1 : z.1 ∈ (zipD kvs h' bR).map (·.1) := List.mem_map.mpr ⟨z, hz, rfl⟩
      unfold zipD at z1
      rw [List.map_fst_zip (by rw [List.length_map, List.length_map, llR]; exact Nat.le_refl _)] at z1
      obtain ⟨y, hy, ey⟩ := List.mem_map.mp z1
      rw [← ey]
      exact zip_noval fun x hx => nLR x hx y hy) ndR
    have zl : ∀ bs : List P3, (zipD kvs h' bs).length ≤ bs.length := fun bs => by unfold zipD; rw [List.length_zip, List.length_map]; exact Nat.min_le_left _ _
    have zL := zl bL
    have zR := zl bR
    refine ⟨d1, d2, _, _, rfl, rfl, ne_of_none e1 f2, s2 _ _ e1, e2, by omega, ?_⟩
    rw [mrg]
    have s02 := s1.trans s2
    have k3 : ∀ c u, c ≠ d1 → H2 c = some u → upd H2 d1 (.dK (zipD kvs h' bL ++ zipD kvs h' bR)) c = some u := fun c u z e => by rw [upd_ne z]; exact e
    have g3 : upd H2 d1 (.dK (zipD kvs h' bL ++ zipD kvs h' bR)) d1 = some (.dK (zipD kvs h' bL ++ zipD kvs h' bR)) := upd_same
    have s3 : Same H (upd H2 d1 (.dK (zipD kvs h' bL ++ zipD kvs h' bR))) := fun c u e => k3 _ _ (ne_of_none e f1) (s02 _ _ e)
    revert g3 s3
    generalize upd H2 d1 (.dK (zipD kvs h' bL ++ zipD kvs h' bR)) = H3
    intro g3 s3
    have fq3 : F2 (fun (p : P3) q => H3 q = some (.tup (p3V p))) ps qs := fq.mono fun p q e => s3 _ _ e
    refine ⟨_, rfl, l, rfl, ⟨_, SqL.of (s3 _ _ hl)⟩, fun l4 hl4 => ?_⟩
    refine compT0 (plcV kvs h' bL bR) (s3 _ _ hl) fq3 (by omega) hl4 (fun x hx qx H4 s4 ex N hN => ?_) (fun rs H4 s4 e4 f4 => q cL cR H4 l4 rs bL bR (s3.trans s4) rL rR e4 f4)
    obtain ⟨v1, _⟩ := hgt_get ht x.1
    have v2 : valV (zipD kvs h' bL ++ zipD kvs h' bR) (.inr x.1) = some (.int (fstOf kvs h' (if x.2.1 then bL else bR) x)) := by
      rw [valV_app]
      cases eb : x.2.1 with
      | true =>
        rw [fst_val ht gp rL cL (rL.mem.mpr ⟨hx, eb⟩)]
        rfl
      | false =>
        have xm := rR.mem.mpr ⟨hx, eb⟩
        rw [show valV (zipD kvs h' bL) (.inr x.1) = none from zip_noval fun y hy => nLR y hy x xm, fst_val ht gp rR cR xm]
        rfl
    refine ⟨qx, _, rfl, SqT.of ex, rfl, _, _, rfl, _, _, rfl, _, _, rfl, rfl, ?_⟩
    refine ⟨_, rfl, _, rfl, _, rfl, _, rfl, d1, _, rfl, .inl ⟨_, .inr x.1, .inl (s4 _ _ g3), rfl, v2.symm⟩, _, rfl, d, rfl, .inl ⟨kvs, .inl (s4 _ _ (s3 _ _ hd))⟩, _, rfl, _, .inl ⟨kvs, .inr x.1, .inl (s4 _ _ (s3 _ _ hd)), rfl, rfl⟩, ?_⟩
    rw [v1]
    exact ⟨(by show 4 ≤ sizeLine; decide), fun r hr => hN r hr⟩
end
end S66
set_option maxRecDepth 100000
set_option maxHeartbeats 4000000
namespace S66
open PySem L2 XL PyProof.Rows
open Sprd
def AskR (kvs : List (Key × V)) (h : Nat) (ps : List P3) (H : Hp) (fv tv : V) : Prop := (∃ b, Tall kvs h ps b ∧ fv = .non ∧ tv = .str (sideW b)) ∨ (tv = .non ∧ (∀ b, sumH kvs b ps ≤ (h : Int)) ∧ ∃ l' rs bL bR, fv = .ref l' ∧ Rim true ps bL ∧ Rim false ps bR ∧ H l' = some (.lst (rs.map V.ref)) ∧ F2 (fun p q => H q = some (.tup (plcV kvs h bL bR p))) ps rs)
def spAsk66 (t : Adr) : Sp := fun vs H Q _ => ∃ (a l d dp do_ : Addr) (w h : Nat) (pts : List Pt) (qs : List Addr) (ps : List P3) (kvs : List (Key × V)), vs = [.ref a, .ref l, .ref d] ∧ Pic t H a dp do_ (w : Int) (h : Int) pts ∧ P3L H l qs ps ∧ GoodP w h ps ∧ H d = some (.dK kvs) ∧ HtK kvs ∧ kvs.length ≤ 12 ∧
  ∀ H' p fv tv, Same H H' → H' p = some (.tup [fv, tv]) → AskR kvs h ps H' fv tv → Q (.ref p) H'
def spRows66 (K : PySem.W.Frag) : Sp := fun vs H Q _ => ∃ (l' l d : Addr) (w h : Nat) (qs rs : List Addr) (ps bL bR : List P3) (kvs : List (Key × V)), vs = [.ref l', .ref l, .ref d] ∧ H l' = some (.lst (rs.map V.ref)) ∧ F2 (fun p q => H q = some (.tup (plcV kvs h bL bR p))) ps rs ∧ P3L H l qs ps ∧ GoodP w h ps ∧ H d = some (.dK kvs) ∧ HtK kvs ∧ ∀ H', Same H H' → Q (.bl true) H'
theorem three_dv {K : PySem.W.Frag} {H : Hp} {a : Addr} {x y : Str} {n : Int} (e : H a = some (.tup [.str x, .str y, .int n])) : Dv K H 1 (.ref a) (.tup [.str x, .str y, .int n]) := by
  refine .tup (SqT.of e) rfl fun j u v h1 h2 => ?_
  match j, h1, h2 with
  | 0, h1, h2 => cases h1; cases h2; exact .str
  | 1, h1, h2 => cases h1; cases h2; exact .str
  | 2, h1, h2 => cases h1; cases h2; exact .int
  | j + 3, h1, h2 => simp at h1
section
variable {P : Program} {w : World} {K : PySem.W.Frag} {mg : Str → Option Value} {base : Heap} {t : Adr}
theorem ok_law_asked (T : Txt w K mg t) : FnOk true P w K mg base (CXo P w) 6 t.f_law_asked t.d_law_asked ["_law_picture", "_law_pairs_here", "_law_heights_here"] (spAsk66 t) := by
  refine T.F_law_asked.okn (k := 5) sc_law_asked (fun vs H Q E h => ?_) (fun cdv A outer s H vs Q E hr h => ?_)
  · obtain ⟨a, l, d, dp, do_, w', h', pts, qs, ps, kvs, rfl, _⟩ := h
    rfl
  · obtain ⟨a, l, d, dp, do_, w', h', pts, qs, ps, kvs, rfl, h⟩ := h
    refine ⟨_, pss_cons (ps_set (i := 3) sc_law_asked.nd rfl (Or.inl rfl) (pe_non))
      (pss_cons (ps_set (i := 4) sc_law_asked.nd rfl (Or.inl rfl) (pe_non))
      (pss_cons (ps_try (E := (fun σ' e C' H' => ∃ b : Bool, σ' = [some (.ref a), some (.ref l), some (.ref d), some .non, some .non, none] ∧ C' = t.C_TooTall ∧ Tall kvs h' ps b ∧ RaisedE t H H' e (.tooTall (.str (sideW b))))) rfl T.g_TooTall T.mk_TooTall sc_law_asked.nd (j := 5) rfl rfl rfl rfl (fun _ _ tk => pss_one (ps_set (i := 3) sc_law_asked.nd rfl (Or.inl rfl) (pe_call (okT_column_places T) (hr.mono (by decide)) rfl T.g_column_places T.F_column_places.kp T.b_column_places .nil tk.pass (pa_cons (pv 0) (pa_cons (pv 1) (pa_cons (pv 2) (pa_nil))))))) (fun _ => pss_one (ps_set (i := 4) sc_law_asked.nd rfl (Or.inl rfl) ((pe_xfld (pv 5) rfl : PE _ _ (tXF K _ _))))))
      (pss_one (ps_ret (pe_tup (pa_cons (pv 3) (pa_cons (pv 4) (pa_nil)))))))), ?_⟩
    obtain ⟨pic, pl, gp, hd, ht, k12, q⟩ := h
    refine ⟨?_, ?_⟩
    · refine ⟨_, rfl, _, rfl, _, rfl, a, l, d, dp, do_, w', h', pts, qs, ps, kvs, rfl, pic, pl, gp, hd, ht, k12, fun b tl er her e H' ra => ⟨b, rfl, by rw [her]; rfl, tl, by rw [her] at ra; exact ra⟩, fun cL cR H1 l' rs bL bR s1 rL rR e1 f1 => ?_⟩
      refine ⟨_, rfl, _, rfl, (by show 2 ≤ sizeLine; decide), fun p hp => ?_⟩
      have s2 : Same H1 (upd H1 p (.tup [.ref l', .non])) := same_upd (Same.refl _) hp
      have g2 : upd H1 p (.tup [.ref l', .non]) p = some (.tup [.ref l', .non]) := upd_same
      revert s2 g2
      generalize upd H1 p (.tup [.ref l', .non]) = H2
      intro s2 g2
      exact q H2 p _ _ (s1.trans s2) g2 (.inr ⟨rfl, fun b => (by cases b; exact cR; exact cL), l', rs, bL, bR, rfl, rL, rR, s2 _ _ e1, f1.mono fun x q e => s2 _ _ e⟩)
    · rintro σ' e C' H' ⟨b, rfl, rfl, tl, s', ea⟩
      rcases ea with ⟨z, _⟩ | ⟨_, dx, he, hdx⟩
      · cases z
      refine ⟨T.mk_TooTall, T.mro_TooTall, ?_⟩
      refine ⟨_, rfl, e, _, dx, _, .str (sideW b), rfl, he, hdx, T.x_TooTall, T.n_TooTall_side, lk_1, ?_⟩
      refine ⟨_, rfl, _, rfl, (by show 2 ≤ sizeLine; decide), fun p hp => ?_⟩
      have s2 : Same H' (upd H' p (.tup [.non, .str (sideW b)])) := same_upd (Same.refl _) hp
      have g2 : upd H' p (.tup [.non, .str (sideW b)]) p = some (.tup [.non, .str (sideW b)]) := upd_same
      revert s2 g2
      generalize upd H' p (.tup [.non, .str (sideW b)]) = H2
      intro s2 g2
      exact q H2 p _ _ (s'.trans s2) g2 (.inl ⟨b, tl, rfl, rfl⟩)
theorem ok_law_rows (T : Txt w K mg t) : FnOk true P w K mg base (CXo P w) 3 t.f_law_rows t.d_law_rows ["_law_found", "_law_pairs_here", "_law_heights_here"] (spRows66 K) := by
  refine T.F_law_rows.okn (k := 2) sc_law_rows (fun vs H Q E h => ?_) (fun cdv A outer s H vs Q E hr h => ?_)
  · obtain ⟨l', l, d, w', h', qs, rs, ps, bL, bR, kvs, rfl, _⟩ := h
    rfl
  · obtain ⟨l', l, d, w', h', qs, rs, ps, bL, bR, kvs, rfl, h⟩ := h
    refine ⟨_, pss_cons (ps_mid (ps_if (PW.pt (pw_or (pt_not (pt_val (pe_callB call_isin rfl T.n_isinstance boot_isinstance (pa_cons (pv 0) (pa_cons (pe_bltn (v := .ty "list") rfl T.n_list boot_list rfl) (pa_nil)))))) (pw_or1 (pt_cmpR op_ne (pe_callB call_len_seq rfl T.n_len boot_len (pa_cons (pv 0) (pa_nil))) (pe_callB call_len_seq rfl T.n_len boot_len (pa_cons (pv 1) (pa_nil))) (nomark _))))) (pss_one (ps_ret (pe_bl))) (pss_nil)))
      (pss_cons (ps_for PassesOwn.never rfl (pi_zip rfl T.n_zip (pa_cons (pv 0) (pa_cons (pv 1) (pa_nil)))) (pg_tup rfl (pgs_cons (pg_name (i := 3) sc_law_rows.nd rfl (Or.inl rfl)) (pgs_cons (pg_name (i := 4) sc_law_rows.nd rfl (Or.inl rfl)) (pgs_nil)))) (pss_cons (ps_mid (ps_if (PW.pt (pw_or (pt_not (pt_val (pe_callB call_isin rfl T.n_isinstance boot_isinstance (pa_cons (pv 3) (pa_cons (pe_bltn (v := .ty "tuple") rfl T.n_tuple boot_tuple rfl) (pa_nil)))))) (pw_or (pt_cmpR op_ne (pe_callB call_len_seq rfl T.n_len boot_len (pa_cons (pv 3) (pa_nil))) (pe_int) (nomark _)) (pw_or (pt_not (pt_val (pe_call (ok_law_whole T) (hr.mono (by decide)) rfl T.g_law_whole T.F_law_whole.kp T.b_law_whole .nil pass_none (pa_cons (pe_ix ix_tup (pv 3) (pe_int) (fun _ _ => rfl)) (pa_nil))))) (pw_or1 (pt_not (pt_val (pe_call (ok_law_whole T) (hr.mono (by decide)) rfl T.g_law_whole T.F_law_whole.kp T.b_law_whole .nil pass_none (pa_cons (pe_ix ix_tup (pv 3) (pe_int) (fun _ _ => rfl)) (pa_nil)))))))))) (pss_one (ps_ret (pe_bl))) (pss_nil)))
      (pss_one (ps_mid (ps_if (pt_cmpR (op_neV (hu20_of hr)) (pe_tup (pa_cons (pe_ix ix_tup (pv 3) (pe_int) (fun _ _ => rfl)) (pa_cons (pe_ix ix_tup (pv 3) (pe_int) (fun _ _ => rfl)) (pa_cons (pe_ix ix_tup (pv 3) (pe_int) (fun _ _ => rfl)) (pa_nil))))) (pe_tup (pa_cons (pe_ix ix_tup (pv 4) (pe_int) (fun _ _ => rfl)) (pa_cons (pe_ix ix_tup (pv 4) (pe_int) (fun _ _ => rfl)) (pa_cons (pe_dget2 (hu_of hr) (pv 2) (pe_ix ix_tup (pv 4) (pe_int) (fun _ _ => rfl)) (pe_int) ⟨rfl, rfl, rfl, rfl⟩) (pa_nil))))) (nomark _)) (pss_one (ps_ret (pe_bl))) (pss_nil))))))
      (pss_one (ps_ret (pe_bl)))), ?_⟩
    obtain ⟨hl', fr, ⟨hl, fq⟩, gp, hd, ht, q⟩ := h
    have rl := fr.len
    have ql := fq.len
    have l12 := gp.l12
    refine ⟨fun σ HB => H = HB ∧ σ = [some (.ref l'), some (.ref l), some (.ref d), none, none], ?_, ?_⟩
    · refine ⟨_, rfl, _, _, rfl, .inl ⟨_, _, true, .lst hl', rfl, kit_same, true, rfl, iteF ?_⟩⟩
      refine ⟨_, rfl, l', _, rfl, .inl (SqL.of hl'), _, rfl, l, _, rfl, .inl (SqL.of hl), rfl, _, rfl, ifN ?_ ⟨rfl, rfl⟩⟩
      rw [List.length_map, List.length_map, rl, ql]
      simp
    rintro σ HB ⟨rfl, rfl⟩
    refine ⟨_, rfl, _, rfl, l', l, _, _, rfl, SqL.of hl', SqL.of hl, ?_⟩
    refine for_zip (xs := rs.map V.ref) (ys := qs.map V.ref) ps.length (by simp; omega) (by simp; omega) (.inl (by simp; omega)) (Pv := fun i σ H5 => ∃ (v3 v4 : Option V), σ = [some (.ref l'), some (.ref l), some (.ref d), v3, v4] ∧ Same H H5) ⟨_, _, rfl, Same.refl _⟩ ?_ ?_ ?_
    · rintro i σ H5 _ ⟨_, _, rfl, s5⟩
      exact ⟨SqL.of (s5 _ _ hl'), SqL.of (s5 _ _ hl)⟩
    · rintro i x y p σ H5 hx hy hp ⟨v3, v4, rfl, s5⟩
      rw [List.getElem?_map] at hx hy
      obtain ⟨qx, hqx, rfl⟩ := Option.map_eq_some_iff.mp hx
      obtain ⟨qy, hqy, rfl⟩ := Option.map_eq_some_iff.mp hy
      obtain ⟨pr, hpr, ex⟩ := fr.get' hqx
      obtain ⟨pr', hpr', ey⟩ := fq.get' hqy
      rw [hpr] at hpr'
      cases hpr'
      have s6 : Same H5 (upd H5 p (.tup [.ref qx, .ref qy])) := same_upd (Same.refl _) hp
      have g6 : upd H5 p (.tup [.ref qx, .ref qy]) p = some (.tup [.ref qx, .ref qy]) := upd_same
      revert s6 g6
      generalize upd H5 p (.tup [.ref qx, .ref qy]) = H6
      intro s6 g6
      have s06 := s5.trans s6
      have ex6 := s06 _ _ ex
      have ey6 := s06 _ _ ey
      have hd6 := s06 _ _ hd
      obtain ⟨v1, _⟩ := hgt_get ht pr.1
      refine ⟨p, _, rfl, SqT.of g6, rfl, _, _, rfl, _, _, rfl, rfl, ?_⟩
      refine ⟨fun σ HB => H6 = HB ∧ σ = [some (.ref l'), some (.ref l), some (.ref d), some (.ref qx), some (.ref qy)], ?_, ?_⟩
      · refine ⟨_, rfl, _, _, rfl, .inl ⟨_, _, true, .tup ex6, rfl, kit_same, true, rfl, iteF ?_⟩⟩
        refine ⟨_, rfl, qx, _, rfl, .inr (SqT.of ex6), rfl, _, rfl, iteF ?_⟩
        refine ⟨_, rfl, qx, _, 2, _, rfl, rfl, SqT.of ex6, atI_2, _, rfl, true, rfl, iteF ?_⟩
        exact ⟨_, rfl, qx, _, 3, _, rfl, rfl, SqT.of ex6, rfl, _, rfl, true, rfl, iteF ⟨rfl, rfl⟩⟩
      rintro σ HB ⟨rfl, rfl⟩
      refine ⟨fun σ HB => Same H HB ∧ σ = [some (.ref l'), some (.ref l), some (.ref d), some (.ref qx), some (.ref qy)], ?_, ?_⟩
      · refine ⟨_, rfl, qx, _, 0, _, rfl, rfl, SqT.of ex6, atI_0, _, rfl, qx, _, 1, _, rfl, rfl, SqT.of ex6, atI_1, _, rfl, qx, _, 3, .int (hgt kvs pr.1), rfl, rfl, SqT.of ex6, rfl, (by show 3 ≤ sizeLine; decide), fun p7 hp7 => ?_⟩
        have s7 : Same H6 (upd H6 p7 (.tup [.str pr.1, .str (sideW pr.2.1), .int (hgt kvs pr.1)])) := same_upd (Same.refl _) hp7
        have g7 : upd H6 p7 (.tup [.str pr.1, .str (sideW pr.2.1), .int (hgt kvs pr.1)]) p7 = some (.tup [.str pr.1, .str (sideW pr.2.1), .int (hgt kvs pr.1)]) := upd_same
        revert s7 g7
        generalize upd H6 p7 (.tup [.str pr.1, .str (sideW pr.2.1), .int (hgt kvs pr.1)]) = H7
        intro s7 g7
        refine ⟨_, rfl, qy, _, 0, _, rfl, rfl, SqT.of (s7 _ _ ey6), atI_0, _, rfl, qy, _, 1, _, rfl, rfl, SqT.of (s7 _ _ ey6), atI_1, _, rfl, d, rfl, .inl ⟨kvs, .inl (s7 _ _ hd6)⟩, _, rfl, qy, _, 0, _, rfl, rfl, SqT.of (s7 _ _ ey6), atI_0, _, .inl ⟨kvs, .inr pr.1, .inl (s7 _ _ hd6), rfl, rfl⟩, ?_⟩
        rw [v1]
        refine ⟨(by show 3 ≤ sizeLine; decide), fun p8 hp8 => ?_⟩
        have s8 : Same H7 (upd H7 p8 (.tup [.str pr.1, .str (sideW pr.2.1), .int (hgt kvs pr.1)])) := same_upd (Same.refl _) hp8
        have g8 : upd H7 p8 (.tup [.str pr.1, .str (sideW pr.2.1), .int (hgt kvs pr.1)]) p8 = some (.tup [.str pr.1, .str (sideW pr.2.1), .int (hgt kvs pr.1)]) := upd_same
        revert s8 g8
        generalize upd H7 p8 (.tup [.str pr.1, .str (sideW pr.2.1), .int (hgt kvs pr.1)]) = H8
        intro s8 g8
        refine ⟨1, 1, _, _, three_dv (s8 _ _ g7), three_dv g8, by decide, by decide, _, rfl, ifN (by rw [dEq_refl]; rfl) ⟨(s06.trans s7).trans s8, rfl⟩⟩
      rintro σ HB ⟨sB, rfl⟩
      exact ⟨_, _, rfl, sB⟩
    · rintro σ H5 ⟨_, _, rfl, s5⟩
      exact q H5 s5
end
end S66
set_option maxRecDepth 100000
set_option maxHeartbeats 4000000
namespace S66
open PySem L2 XL PyProof.Rows
open Sprd
theorem compR {α : Type} {l : Addr} {H1 : Hp} {Q : VK} {as : List α} {n : Nat} {g : TG} {σ : L2.St} {fr : List Nat} {tc : TT} {te : TE} (p : α → Bool) (gv : α → List V) (hlen : as.length ≤ 100) (hl : H1 l = none)
    (step : ∀ (i : Nat) x, as[i]? = some x → ∀ H2, Same H1 H2 → ∀ (N : V → Hp → Prop) (M : Hp → Prop), (p x = true → ∀ r, H2 r = none → N (.ref r) (upd H2 r (.tup (gv x)))) → (p x = false → M H2) → g (.int (0 + (i : Int))) (blk0 σ fr n) H2 fun σ' H3 => tc σ' H3 fun b H4 => if b = true then te σ' H4 N else M H4)
    (fin : ∀ rs H2, Same H1 H2 → H2 l = some (.lst (rs.map V.ref)) → F2 (fun x q => H2 q = some (.tup (gv x))) (as.filter p) rs → Q (.ref l) H2) : CompG (Itr 0 as.length) n g σ fr tc te l H1 Q := by
  let p' : Nat → Bool := fun i => match as[i]? with | some a => p a | none => false
  have hp : ∀ (i : Nat) (a : α), as[i]? = some a → p' i = p a := fun i a e => by show (match as[i]? with | some a => p a | none => false) = p a; rw [e]
  refine comp_rangeF (Nat.lt_of_le_of_lt hlen (by decide)) hl p' (fun i y H => ∃ q x, y = .ref q ∧ as[i]? = some x ∧ H q = some (.tup (gv x))) (fun i y H H' tp z => let ⟨q, x, e, e', h⟩ := z; ⟨q, x, e, e', tp _ _ h⟩) (fun i H2 hi s2 N M h1 h2 => ?_) (fun ys H2 s2 e2 ly fy => ?_)
  · have hx : as[i]? = some as[i] := List.getElem?_eq_getElem hi
    exact step i _ hx H2 s2 N M (fun px r hr => h1 _ _ (same_upd (Same.refl _) hr) ((hp i _ hx).trans px) ⟨r, _, rfl, hx, upd_same⟩) (fun px => h2 _ (Same.refl _) ((hp i _ hx).trans px))
  · obtain ⟨ll, li⟩ := ix_filt p hp
    obtain ⟨rs, rfl, fr⟩ := pickF (R := fun x q => H2 q = some (.tup (gv x))) (xs := as.filter p) (ys := ys) (by rw [ly, ll]) fun j y x hy hx => by
      obtain ⟨i, hi⟩ : ∃ i, ((List.range as.length).filter p')[j]? = some i := ⟨_, List.getElem?_eq_getElem (by rw [← ly]; exact (List.getElem?_eq_some_iff.mp hy).1)⟩
      obtain ⟨q, x', e, e', h⟩ := fy j y i hy hi
      rw [li j i hi, hx] at e'
      cases e'
      exact ⟨q, e, h⟩
    exact fin rs H2 s2 e2 fr
def spRG : Sp := fun vs H Q _ => ∃ (l' l : Addr) (w h : Nat) (b : Bool) (qs rs : List Addr) (ps bL bR : List P3) (kvs : List (Key × V)), vs = [.ref l', .ref l, .str (sideW b), .int (h : Int)] ∧ H l' = some (.lst (rs.map V.ref)) ∧ F2 (fun p q => H q = some (.tup (plcV kvs h bL bR p))) ps rs ∧ P3L H l qs ps ∧ GoodP w h ps ∧ HtK kvs ∧ Rim true ps bL ∧ Rim false ps bR ∧ (∀ b, sumH kvs b ps ≤ (h : Int)) ∧ h ≤ 16 ∧ ∀ H', Same H H' → Q (.bl true) H'
section
variable {P : Program} {w : World} {K : PySem.W.Frag} {mg : Str → Option Value} {base : Heap} {t : Adr}
theorem ok_law_rim_good (T : Txt w K mg t) : FnOk true P w K mg base (CXo P w) 3 t.f_law_rim_good t.d_law_rim_good ["_law_found", "_law_pairs_here", "_law_side", "_law_height"] (spRG) := by
  refine T.F_law_rim_good.okn (k := 2) sc_law_rim_good (fun vs H Q E h => ?_) (fun cdv A outer s H vs Q E hr h => ?_)
  · obtain ⟨l', l, w', h', b, qs, rs, ps, bL, bR, kvs, rfl, _⟩ := h
    rfl
  · obtain ⟨l', l, w', h', b, qs, rs, ps, bL, bR, kvs, rfl, h⟩ := h
    refine ⟨_, pss_cons (ps_set (i := 4) sc_law_rim_good.nd rfl (Or.inl rfl) (pe_callB (call_sortedL rfl) rfl T.n_sorted PyProof.Rows.Boot.«sorted» (pa_cons (pe_compG rfl (blkG_of (zs := ["_law_k"]) (ys := ["_law_pairs_here", "_law_found", "_law_side"]) (fr := [1, 0, 2]) (N0 := ["_law_found", "_law_pairs_here", "_law_side", "_law_height", "_law_notes", "_law_free", "_law_stray", "_law_seat", "_law_row", "_law_size"]) (sc0 := defScope s_law_rim_good) (by decide +kernel) rfl rfl rfl) (pi_range1 rfl T.n_range (pa_cons (pe_callB call_len_seq rfl T.n_len boot_len (pa_cons (pv 1) (pa_nil))) (pa_nil))) (fun _ _ _ _ _ ow nd => pg_name (i := 0) nd rfl (Or.inl (ow _ (by simp))) (Or.inr (ow _ (by simp)))) (gok_name (by decide)) (fun _ _ _ _ _ => pif_one (pt_cmpR op_eq (pe_ix (r := rIxT K) ix_tup (pe_ix (r := rIxL K) ix_list (pv 1) (pv 0) (fun _ _ => rfl)) (pe_int) (fun _ _ => rfl)) (pv 3) (nomark _))) (fun _ _ _ _ _ => pe_tup (pa_cons (pe_ix (r := rIxT K) ix_tup (pe_ix (r := rIxL K) ix_list (pv 1) (pv 0) (fun _ _ => rfl)) (pe_int) (fun _ _ => rfl)) (pa_cons (pe_ix (r := rIxT K) ix_tup (pe_ix (r := rIxL K) ix_list (pv 2) (pv 0) (fun _ _ => rfl)) (pe_int) (fun _ _ => rfl)) (pa_cons (pe_ix (r := rIxT K) ix_tup (pe_ix (r := rIxL K) ix_list (pv 2) (pv 0) (fun _ _ => rfl)) (pe_int) (fun _ _ => rfl)) (pa_nil)))))) (pa_nil))))
      (pss_cons (ps_set (i := 5) sc_law_rim_good.nd rfl (Or.inl rfl) (pe_int))
      (pss_cons (ps_set (i := 6) sc_law_rim_good.nd rfl (Or.inl rfl) (pe_int))
      (pss_cons (ps_for PassesOwn.never rfl (pi_list (pv 4)) (pg_tup rfl (pgs_cons (pg_name (i := 7) sc_law_rim_good.nd rfl (Or.inl rfl)) (pgs_cons (pg_name (i := 8) sc_law_rim_good.nd rfl (Or.inl rfl)) (pgs_cons (pg_name (i := 9) sc_law_rim_good.nd rfl (Or.inl rfl)) (pgs_nil))))) (pss_cons (ps_if (PW.pt (pw_or (pt_cmpR op_lt (pv 8) (pv 5) (nomark _)) (pw_or1 (pt_cmpR op_gt (pe_op op_sub (pe_op op_add (pv 8) (pv 9)) (pe_int)) (pv 3) (nomark _))))) (pss_one (ps_ret (pe_bl))) (pss_nil))
      (pss_cons (ps_set (i := 5) sc_law_rim_good.nd rfl (Or.inl rfl) (pe_op op_add (pv 8) (pv 9)))
      (pss_one (ps_set (i := 6) sc_law_rim_good.nd rfl (Or.inl rfl) (pe_op op_add (pv 6) (pe_callB call_abs rfl T.n_abs boot_abs (pa_cons (pe_op op_sub (pv 8) (pv 7)) (pa_nil)))))))))
      (pss_one (ps_ret (pe_cmpR op_eq (pv 6) (pe_call (ok_law_least T) (hr.mono (by decide)) rfl T.g_law_least T.F_law_least.kp T.b_law_least .nil pass_none (pa_cons (pe_compG rfl (blkG_of (zs := ["_law_seat", "_law_row", "_law_size"]) (ys := []) (fr := []) (N0 := ["_law_found", "_law_pairs_here", "_law_side", "_law_height", "_law_notes", "_law_free", "_law_stray", "_law_seat", "_law_row", "_law_size"]) (sc0 := defScope s_law_rim_good) (by decide +kernel) rfl rfl rfl) (pi_list (pv 4)) (fun _ _ _ _ _ ow nd => (pg_tup rfl (pgs_cons (pg_name (i := 0) nd rfl (Or.inl (ow _ (by simp))) (Or.inr (ow _ (by simp)))) (pgs_cons (pg_name (i := 1) nd rfl (Or.inl (ow _ (by simp))) (Or.inr (ow _ (by simp)))) (pgs_cons (pg_name (i := 2) nd rfl (Or.inl (ow _ (by simp))) (Or.inr (ow _ (by simp)))) (pgs_nil)))) : PG _ _ (gTup K 3 _))) (gok_tup (goks_cons (by decide) (goks_cons (by decide) (goks_cons (by decide) (goks_nil))))) (fun _ _ _ _ _ => pif_nil) (fun _ _ _ _ _ => pe_tup (pa_cons (pv 2) (pa_cons (pv 0) (pa_nil))))) (pa_cons (pv 3) (pa_nil)))) (nomark _))))))), ?_⟩
    obtain ⟨hl', fr, ⟨hl, fq⟩, gp, ht, rL, rR, cs, h16, q⟩ := h
    have rl := fr.len
    have ql := fq.len
    have l12 := gp.l12
    obtain ⟨bs, hbs⟩ : ∃ bs, bs = (if b then bL else bR) := ⟨_, rfl⟩
    have rim : Rim b ps bs := by rw [hbs]; cases b; exact rR; exact rL
    have cb := cs b
    have ol := onB_len b ps
    have bl := rim.pm.length_eq
    have nd0 : ((onB b ps).map fun p => p.2.2).Nodup := by
      have z : ((onB b ps).map (·.2)).Nodup := List.Nodup.sublist ((List.filter_sublist).map _) gp.n2
      rw [List.Nodup, List.pairwise_map] at z ⊢
      refine List.Pairwise.imp_of_mem (fun {x y} hx hy ne e => ne ?_) z
      have h1 := of_decide_eq_true (List.mem_filter.mp hx).2
      have h2 := of_decide_eq_true (List.mem_filter.mp hy).2
      exact Prod.ext (h1.trans h2.symm) e
    refine ⟨_, rfl, l, _, rfl, .inl (SqL.of hl), (ps.length : Int), by rw [List.length_map, ql], by omega, by omega, fun l1 hl1 => ?_⟩
    rw [Int.toNat_natCast]
    refine compR (fun p : P3 => decide (p.2.1 = b)) (fun p => [.int p.2.2, .int (fstOf kvs h' bs p), .int (hgt kvs p.1)]) (by omega) hl1 (fun i x hx H2 s2 N M hN hM => ?_) (fun rs2 H2 s2 e2 f2 => ?_)
    · obtain ⟨qx, hqx, ex⟩ := fq.get hx
      obtain ⟨rx, hrx, er⟩ := fr.get hx
      have alk : atI (qs.map V.ref) (0 + (i : Int)) = some (.ref qx) := by rw [Int.zero_add]; exact atI_nat (by rw [List.getElem?_map, hqx]; rfl)
      have arl : atI (rs.map V.ref) (0 + (i : Int)) = some (.ref rx) := by rw [Int.zero_add]; exact atI_nat (by rw [List.getElem?_map, hrx]; rfl)
      refine ⟨_, rfl, _, rfl, l, _, _, _, rfl, rfl, SqL.of (s2 _ _ hl), alk, qx, _, 1, _, rfl, rfl, SqT.of (s2 _ _ ex), atI_1, _, rfl, rfl, _, rfl, ?_⟩
      have ed : decide (V.str (sideW x.2.1) = V.str (sideW b)) = decide (x.2.1 = b) := by
        by_cases c : x.2.1 = b
        · rw [c]; simp
        · rw [decide_eq_false c, decide_eq_false fun z => c (sideW_inj (V.str.inj z))]
      rw [ed]
      refine ite2 (fun c => ?_) (fun c => hM (Bool.eq_false_iff.mpr c))
      have cx : x.2.1 = b := of_decide_eq_true c
      have eb : (if x.2.1 then bL else bR) = bs := by rw [cx, hbs]
      refine ⟨_, rfl, _, rfl, l, _, _, _, rfl, rfl, SqL.of (s2 _ _ hl), alk, qx, _, 2, _, rfl, rfl, SqT.of (s2 _ _ ex), atI_2, _, rfl, _, rfl, l', _, _, _, rfl, rfl, SqL.of (s2 _ _ hl'), arl, rx, _, 2, .int (fstOf kvs h' bs x), rfl, rfl, SqT.of (s2 _ _ er), (by rw [← eb]; rfl), _, rfl, _, rfl, l', _, _, _, rfl, rfl, SqL.of (s2 _ _ hl'), arl, rx, _, 3, .int (hgt kvs x.1), rfl, rfl, SqT.of (s2 _ _ er), rfl, (by show 3 ≤ sizeLine; decide), fun r hr => hN c r hr⟩
    refine nil_in ?_
    refine sort_ints (as := onB b ps) (ix := fun p => p.2.2) (kf := fun p => [.inl p.2.2, .inl (fstOf kvs h' bs p), .inl (hgt kvs p.1)]) (sh := [true, true, true]) (by omega) e2 f2 (fun _ => rfl) (fun _ => ⟨_, rfl⟩) (fun _ _ => rfl) (by decide) nd0 fun l3 bs' us hl3 pm f3 lt3 => ?_
    have ebs : bs = bs' := (Rim.uniq ⟨pm, lt3⟩ rim).symm
    subst ebs
    have s3 : Same H2 (upd H2 l3 (.lst (us.map V.ref))) := same_upd (Same.refl _) hl3
    have g3 : upd H2 l3 (.lst (us.map V.ref)) l3 = some (.lst (us.map V.ref)) := upd_same
    revert s3 g3
    generalize upd H2 l3 (.lst (us.map V.ref)) = H3
    intro s3 g3
    have s03 := s2.trans s3
    have f3' : F2 (fun (x : P3) q => H3 q = some (.tup [.int x.2.2, .int (fstOf kvs h' bs x), .int (hgt kvs x.1)])) bs us := f3.mono fun x q e => s3 _ _ e
    obtain ⟨ps0, e0, s0, al0⟩ := rim_room ht rim cb
    obtain ⟨wy, _, _, al, best⟩ := leastP_best al0
    have ll := least_len ht rim cb
    have ul := f3'.len
    generalize hns : bs.map (ntOf kvs h') = ns at al best ll al0
    have nl : ns.length = bs.length := by rw [← hns, List.length_map]
    have nz : ∀ n ∈ ns, n.lo = 1 ∧ n.hi = (h' : Int) ∧ 1 ≤ n.h ∧ 1 ≤ n.ws ∧ n.ws ≤ (h' : Int) := by rw [← hns]; exact rim_nts ht gp rim
    refine ⟨_, rfl, l3, rfl, ⟨_, SqL.of g3⟩, ?_⟩
    refine for_list (xs := us.map V.ref) (Pv := fun k σ HA => ∃ (v7 v8 v9 : Option V) (free e sy : Int), σ = [some (.ref l'), some (.ref l), some (.str (sideW b)), some (.int (h' : Int)), some (.ref l3), some (.int free), some (.int sy), v7, v8, v9] ∧ H3 = HA ∧ AL (ns.take k) ((leastP ns).take k) e sy ∧ (k = 0 ∧ free = 1 ∨ 0 < k ∧ free = e)) ⟨_, _, _, 1, -99, 0, rfl, rfl, by simpa using AL.nil, .inl ⟨rfl, rfl⟩⟩ ?_ ?_ ?_
    · rintro i σ HA _ ⟨_, _, _, _, _, _, rfl, rfl, _⟩
      exact SqL.of g3
    · rintro k x σ HA hx ⟨v7, v8, v9, free, e, sy, rfl, rfl, alk, fk⟩
      rw [List.getElem?_map] at hx
      obtain ⟨qx, hqx, rfl⟩ := Option.map_eq_some_iff.mp hx
      obtain ⟨pr, hpr, ex⟩ := f3'.get' hqx
      have kl := (List.getElem?_eq_some_iff.mp hpr).1
      have hn : ns[k]? = some (ntOf kvs h' pr) := by rw [← hns, List.getElem?_map, hpr]; rfl
      obtain ⟨f, hf⟩ : ∃ f, (leastP ns)[k]? = some f := ⟨_, List.getElem?_eq_getElem (by omega)⟩
      have ef : fstOf kvs h' bs pr = f := (fst_is gp rim hpr (by rw [hns]; exact hf)).2
      obtain ⟨a1, a2, a3, a4⟩ := al.step hn hf alk
      have a1 : 1 ≤ f := a1
      have a2 : f + hgt kvs pr.1 - 1 ≤ (h' : Int) := a2
      rw [ef] at ex
      have ff : ¬ f < free := by omega
      refine ⟨qx, _, rfl, SqT.of ex, rfl, _, _, rfl, _, _, rfl, _, _, rfl, rfl, ?_⟩
      refine ⟨_, rfl, _, rfl, _, _, rfl, rfl, _, rfl, ifN (decide_eq_false ff) ?_⟩
      refine ⟨_, rfl, _, rfl, _, _, rfl, rfl, _, _, rfl, rfl, _, rfl, _, _, rfl, rfl, _, rfl, ifN (decide_eq_false (by omega)) ?_⟩
      refine ⟨_, rfl, _, rfl, _, _, rfl, rfl, ?_⟩
      refine ⟨_, rfl, _, rfl, _, rfl, _, _, rfl, rfl, _, rfl, _, _, rfl, rfl, ?_⟩
      exact ⟨_, _, _, _, _, _, rfl, rfl, a4, .inr ⟨by omega, rfl⟩⟩
    · rintro σ HA ⟨v7, v8, v9, free, e, sy, rfl, rfl, alk, fk⟩
      rw [List.length_map, ul] at alk
      rw [List.take_of_length_le (by omega), List.take_of_length_le (by omega)] at alk
      obtain ⟨_, esy⟩ := al.det alk
      refine ⟨_, rfl, _, rfl, l3, rfl, ⟨_, SqL.of g3⟩, fun l4 hl4 => ?_⟩
      refine compT0 (fun p : P3 => [.int (ntOf kvs h' p).h, .int (ntOf kvs h' p).ws]) g3 f3' (by omega) hl4 (fun x hx qx H4 s4 ex N hN => ⟨qx, _, rfl, SqT.of ex, rfl, _, _, rfl, _, _, rfl, _, _, rfl, rfl, _, rfl, _, rfl, (by show 2 ≤ sizeLine; decide), fun r hr => hN r hr⟩) (fun rs4 H4 s4 e4 f4 => ?_)
      refine ⟨_, rfl, l4, h', rs4, ns, rfl, ⟨e4, by rw [← hns]; exact F2.mapL f4⟩, h16, by omega, fun n hn => ?_, fun H5 s5 => ?_⟩
      · rw [← hns] at hn
        obtain ⟨p, hp, rfl⟩ := List.mem_map.mp hn
        obtain ⟨_, z1, z2⟩ := hgt_get ht p.1
        exact ⟨z1, by show hgt kvs p.1 ≤ 1000; omega⟩
      · have tb := tab_least (H := (h' : Int)) (by omega) (by
          have : (ns.length : Int) * (h' : Int) ≤ 12 * 16 := by
            have : ns.length * h' ≤ 12 * 16 := Nat.mul_le_mul (by omega) h16
            exact_mod_cast this
          omega) nz al best
        rw [show ((h' : Int) + 1).toNat = h' + 1 by omega] at tb
        rw [tb]
        refine ⟨rfl, ?_⟩
        rw [decide_eq_true (by rw [esy])]
        exact q H5 ((s03.trans s4).trans s5)
end
end S66
set_option maxRecDepth 100000
set_option maxHeartbeats 4000000
namespace S66
open PySem L2 XL PyProof.Rows
open Sprd
def spLaw (K : PySem.W.Frag) : Sp := fun vs H Q _ => ∃ (a : Addr) (ns : List Int), vs = [.ref a] ∧ SqL K H a (ns.map V.int) ∧ ns.length ≤ 63 ∧ ∀ H', Q (.bl true) H'
theorem AskR.same {kvs : List (Key × V)} {h : Nat} {ps : List P3} {H H' : Hp} {fv tv : V} (s : Same H H') (r : AskR kvs h ps H fv tv) : AskR kvs h ps H' fv tv := by
  rcases r with r | ⟨r1, r2, l', rs, bL, bR, r3, r4, r5, r6, r7⟩
  · exact .inl r
  · exact .inr ⟨r1, r2, l', rs, bL, bR, r3, r4, r5, s _ _ r6, r7.mono fun x q e => s _ _ e⟩
theorem P3L.dv {K : PySem.W.Frag} {H : Hp} {ps : List P3} {qs : List Addr} (f : F2 (fun (p : P3) q => H q = some (.tup (p3V p))) ps qs) {l : Addr} (e : H l = some (.lst (qs.map V.ref))) : Dv K H 2 (.ref l) (.lst (ps.map fun p => DV.tup [.str p.1, .str (sideW p.2.1), .int p.2.2])) := by
  refine .lst (SqL.of e) (by rw [List.length_map, List.length_map, f.len]) fun j x d h1 h2 => ?_
  rw [List.getElem?_map] at h1 h2
  obtain ⟨q, hq, rfl⟩ := Option.map_eq_some_iff.mp h1
  obtain ⟨p, hp, rfl⟩ := Option.map_eq_some_iff.mp h2
  obtain ⟨p', hp', e'⟩ := f.get' hq
  rw [hp] at hp'
  cases hp'
  exact three_dv e'
section
variable {P : Program} {w : World} {K : PySem.W.Frag} {mg : Str → Option Value} {base : Heap} {t : Adr}
theorem ok_law (T : Txt w K mg t) : FnOk true P w K mg base (CXo P w) 7 t.f_law t.d_law ["_law_script"] (spLaw K) := by
  refine T.F_law.okn (k := 6) sc_law (fun vs H Q E h => ?_) (fun cdv A outer s H vs Q E hr h => ?_)
  · obtain ⟨sc, ns, rfl, _⟩ := h
    rfl
  · obtain ⟨sc, ns, rfl, h⟩ := h
    refine ⟨_, pss_cons (ps_set (i := 1) sc_law.nd rfl (Or.inl rfl) (pe_op op_add (pe_int) (pe_op op_mod (pe_call (ok_law_cell T) (hr.mono (by decide)) rfl T.g_law_cell T.F_law_cell.kp T.b_law_cell .nil pass_none (pa_cons (pv 0) (pa_cons (pe_int) (pa_nil)))) (pe_int))))
      (pss_cons (ps_set (i := 2) sc_law.nd rfl (Or.inl rfl) (pe_op op_add (pe_int) (pe_op op_mod (pe_call (ok_law_cell T) (hr.mono (by decide)) rfl T.g_law_cell T.F_law_cell.kp T.b_law_cell .nil pass_none (pa_cons (pv 0) (pa_cons (pe_int) (pa_nil)))) (pe_int))))
      (pss_cons (ps_set (i := 3) sc_law.nd rfl (Or.inl rfl) (pe_call (ok_law_pairs T) (hr.mono (by decide)) rfl T.g_law_pairs T.F_law_pairs.kp T.b_law_pairs .nil pass_none (pa_cons (pv 0) (pa_cons (pv 1) (pa_cons (pv 2) (pa_nil))))))
      (pss_cons (ps_set (i := 4) sc_law.nd rfl (Or.inl rfl) (pe_call (ok_law_made T) (hr.mono (by decide)) rfl T.g_law_made T.F_law_made.kp T.b_law_made .nil pass_none (pa_cons (pv 0) (pa_cons (pv 1) (pa_cons (pv 2) (pa_cons (pv 3) (pa_nil)))))))
      (pss_cons (ps_set (i := 5) sc_law.nd rfl (Or.inr rfl) (pe_call (ok_law_heights T) (hr.mono (by decide)) rfl T.g_law_heights T.F_law_heights.kp T.b_law_heights .nil pass_none (pa_cons (pv 0) (pa_cons (pv 3) (pa_nil)))))
      (pss_cons (ps_set (i := 6) sc_law.nd rfl (Or.inl rfl) (pe_meth0 (pv 4) T.c_Picture T.m_Picture_points (ok_Picture_points T) (hr.mono (by decide)) T.b_Picture_points .nil pass_none))
      (pss_cons (ps_set (i := 7) sc_law.nd rfl (Or.inl rfl) (pe_lst (pa_cons (pe_callTy call_list_of rfl T.n_list boot_list (pa_cons (pv 3) (pa_nil))) (pa_cons (pe_callTy call_dictCp rfl T.n_dict boot_dict (pa_cons (pv 5) (pa_nil))) (pa_nil)))))
      (pss_cons (ps_asg (pe_call (ok_law_asked T) (hr.mono (by decide)) rfl T.g_law_asked T.F_law_asked.kp T.b_law_asked .nil pass_none (pa_cons (pv 4) (pa_cons (pe_ix ix_list (pv 7) (pe_int) (fun _ _ => rfl)) (pa_cons (pe_ix ix_list (pv 7) (pe_int) (fun _ _ => rfl)) (pa_nil))))) (pg_tup rfl (pgs_cons (pg_name (i := 8) sc_law.nd rfl (Or.inl rfl)) (pgs_cons (pg_name (i := 9) sc_law.nd rfl (Or.inl rfl)) (pgs_nil)))))
      (pss_cons (ps_mid (ps_if (PW.pt (pw_or (pt_cmpR (op_neYL (hu20_of hr)) (pv 7) (pe_lst (pa_cons (pv 3) (pa_cons (pv 5) (pa_nil)))) (nomark _)) (pw_or1 (pt_cmpR (op_neV (hu20_of hr)) (pe_meth0 (pv 4) T.c_Picture T.m_Picture_points (ok_Picture_points T) (hr.mono (by decide)) T.b_Picture_points .nil pass_none) (pv 6) (nomark _))))) (pss_one (ps_ret (pe_bl))) (pss_nil)))
      (pss_cons (ps_for PassesOwn.never rfl (pi_list (pe_lst (pa_cons (pe_str) (pa_cons (pe_str) (pa_nil))))) (pg_name (i := 10) sc_law.nd rfl (Or.inr rfl)) (pss_one (ps_mid (ps_if (pt_cmpR op_gt (pe_callB (call_sumL rfl) rfl T.n_sum PyProof.Rows.Boot.«sum» (pa_cons (pe_compG rfl (blkG_of (zs := ["_law_name", "_law_word", "_law_row"]) (ys := ["_law_heights_here", "_law_side"]) (fr := [5, 10]) (N0 := ["_law_script", "_law_width", "_law_height", "_law_pairs_here", "_law_picture", "_law_heights_here", "_law_points", "_law_handed", "_law_found", "_law_told", "_law_side"]) (sc0 := defScope s_law) (by decide +kernel) rfl rfl rfl) (pi_list (pv 3)) (fun _ _ _ _ _ ow nd => (pg_tup rfl (pgs_cons (pg_name (i := 0) nd rfl (Or.inl (ow _ (by simp))) (Or.inr (ow _ (by simp)))) (pgs_cons (pg_name (i := 1) nd rfl (Or.inl (ow _ (by simp))) (Or.inr (ow _ (by simp)))) (pgs_cons (pg_name (i := 2) nd rfl (Or.inl (ow _ (by simp))) (Or.inr (ow _ (by simp)))) (pgs_nil)))) : PG _ _ (gTup K 3 _))) (gok_tup (goks_cons (by decide) (goks_cons (by decide) (goks_cons (by decide) (goks_nil))))) (fun _ _ _ _ _ => pif_one (pt_cmpR op_eq (pv 1) (pv 4) (nomark _))) (fun _ _ _ _ _ => pe_dget2 (hu_of hr) (pv 3) (pv 0) (pe_int) ⟨rfl, rfl, rfl, rfl⟩)) (pa_nil))) (pv 2) (nomark _)) (pss_one (ps_ret (pe_and (pe_cmpR op_isN (pv 8) (pe_non) (nomark _)) (pe_one (pe_cmpR op_eq (pv 9) (pv 10) (nomark _)))))) (pss_nil)))))
      (pss_cons (ps_mid (ps_if (PW.pt (pw_or (pt_cmpR op_notN (pv 9) (pe_non) (nomark _)) (pw_or1 (pt_not (pt_val (pe_call (ok_law_rows T) (hr.mono (by decide)) rfl T.g_law_rows T.F_law_rows.kp T.b_law_rows .nil pass_none (pa_cons (pv 8) (pa_cons (pv 3) (pa_cons (pv 5) (pa_nil)))))))))) (pss_one (ps_ret (pe_bl))) (pss_nil)))
      (pss_one (ps_ret (pe_and (pe_call (ok_law_rim_good T) (hr.mono (by decide)) rfl T.g_law_rim_good T.F_law_rim_good.kp T.b_law_rim_good .nil pass_none (pa_cons (pv 8) (pa_cons (pv 3) (pa_cons (pe_str) (pa_cons (pv 2) (pa_nil)))))) (pe_one (pe_call (ok_law_rim_good T) (hr.mono (by decide)) rfl T.g_law_rim_good T.F_law_rim_good.kp T.b_law_rim_good .nil pass_none (pa_cons (pv 8) (pa_cons (pv 3) (pa_cons (pe_str) (pa_cons (pv 2) (pa_nil)))))))))))))))))))), ?_⟩
    obtain ⟨hs, _, q⟩ := h
    refine ⟨_, rfl, sc, ns, _, rfl, hs, by omega, by omega, fun c0 => ?_⟩
    refine ⟨_, _, rfl, rfl, (by show (0 : Int) < 30; decide), _, _, rfl, rfl, ?_⟩
    have bw := mod_in c0 (show (0 : Int) < 30 by decide)
    refine ⟨_, rfl, sc, ns, _, rfl, hs, by omega, by omega, fun c1 => ?_⟩
    refine ⟨_, _, rfl, rfl, (by show (0 : Int) < 16; decide), _, _, rfl, rfl, ?_⟩
    have bh := mod_in c1 (show (0 : Int) < 16 by decide)
    obtain ⟨w', ew⟩ := Int.eq_ofNat_of_zero_le (show 0 ≤ 1 + c0 % 30 by omega)
    obtain ⟨h', eh⟩ := Int.eq_ofNat_of_zero_le (show 0 ≤ 1 + c1 % 16 by omega)
    simp only [ew, eh]
    have hw : 1 ≤ w' ∧ w' ≤ 30 := by omega
    have hh : 1 ≤ h' ∧ h' ≤ 16 := by omega
    refine ⟨_, rfl, _, rfl, _, rfl, sc, ns, w', h', rfl, hs, hw, hh, fun H1 l qs ps s1 pl gp => ?_⟩
    obtain ⟨hl, fq⟩ := pl
    refine ⟨_, rfl, _, rfl, _, rfl, _, rfl, sc, l, ns, w', h', qs, ps, rfl, Same.seqL s1 hs, hw, hh, ⟨hl, fq⟩, gp, fun H2 a dp do_ pts s2 pic2 pnm => ?_⟩
    have fq2 : F2 (fun (p : P3) q => H2 q = some (.tup (p3V p))) ps qs := fq.mono fun p q e => s2 _ _ e
    refine ⟨_, rfl, _, rfl, sc, l, ns, w', h', qs, ps, rfl, Same.seqL (s1.trans s2) hs, ⟨s2 _ _ hl, fq2⟩, gp, fun H3 d kvs s3 hd ht k12 => ?_⟩
    have pic3 := Pic.same s3 pic2
    obtain ⟨⟨dx, hpi⟩, _⟩ := id pic3
    have hl3 := s3 _ _ (s2 _ _ hl)
    refine ⟨_, rfl, a, dx, _, rfl, hpi, lk_no (by decide +kernel), a, dp, do_, w', h', pts, rfl, pic3, fun H4 l4 q4 s4 e4 pl4 => ?_⟩
    refine ⟨_, rfl, l, _, rfl, .inl (SqL.of (s4 _ _ hl3)), fun l5 hl5 => ?_⟩
    have s5 : Same H4 (upd H4 l5 (.lst (qs.map V.ref))) := same_upd (Same.refl _) hl5
    have g5 : upd H4 l5 (.lst (qs.map V.ref)) l5 = some (.lst (qs.map V.ref)) := upd_same
    revert s5 g5
    generalize upd H4 l5 (.lst (qs.map V.ref)) = H5
    intro s5 g5
    refine ⟨_, rfl, d, kvs, rfl, s5 _ _ (s4 _ _ hd), fun d6 hd6 => ?_⟩
    have s6 : Same H5 (upd H5 d6 (.dK kvs)) := same_upd (Same.refl _) hd6
    have g6 : upd H5 d6 (.dK kvs) d6 = some (.dK kvs) := upd_same
    revert s6 g6
    generalize upd H5 d6 (.dK kvs) = H6
    intro s6 g6
    refine ⟨(by show 2 ≤ sizeLine; decide), fun l7 hl7 => ?_⟩
    have s7 : Same H6 (upd H6 l7 (.lst [.ref l5, .ref d6])) := same_upd (Same.refl _) hl7
    have g7 : upd H6 l7 (.lst [.ref l5, .ref d6]) l7 = some (.lst [.ref l5, .ref d6]) := upd_same
    revert s7 g7
    generalize upd H6 l7 (.lst [.ref l5, .ref d6]) = H7
    intro s7 g7
    have s37 := ((s4.trans s5).trans s6).trans s7
    have pic7 := Pic.same s37 pic3
    have fq7 : F2 (fun (p : P3) q => H7 q = some (.tup (p3V p))) ps qs := fq2.mono fun p q e => s37 _ _ (s3 _ _ e)
    have e5 := s7 _ _ (s6 _ _ g5)
    have e6 := s7 _ _ g6
    refine ⟨_, rfl, _, rfl, l7, _, 0, _, rfl, rfl, SqL.of g7, atI_0, _, rfl, l7, _, 1, _, rfl, rfl, SqL.of g7, atI_1, a, l5, d6, dp, do_, w', h', pts, qs, ps, kvs, rfl, pic7, ⟨e5, fq7⟩, gp, e6, ht, k12, fun H8 p8 fv tv s8 e8 ar => ?_⟩
    refine ⟨p8, _, rfl, SqT.of e8, rfl, _, _, rfl, _, _, rfl, rfl, ?_⟩
    have s38 := s37.trans s8
    have pic8 := Pic.same s38 pic3
    have fq8 : F2 (fun (p : P3) q => H8 q = some (.tup (p3V p))) ps qs := fq7.mono fun p q e => s8 _ _ e
    have hd8 := s38 _ _ hd
    have hl8 := s38 _ _ hl3
    refine ⟨fun σ HB => Same H8 HB ∧ σ = [some (.ref sc), some (.int (w' : Int)), some (.int (h' : Int)), some (.ref l), some (.ref a), some (.ref d), some (.ref l4), some (.ref l7), some fv, some tv, none], ?_, ?_⟩
    · refine ⟨_, rfl, _, rfl, _, rfl, (by show 2 ≤ sizeLine; decide), fun l9 hl9 => ?_⟩
      have s9 : Same H8 (upd H8 l9 (.lst [.ref l, .ref d])) := same_upd (Same.refl _) hl9
      have g9 : upd H8 l9 (.lst [.ref l, .ref d]) l9 = some (.lst [.ref l, .ref d]) := upd_same
      revert s9 g9
      generalize upd H8 l9 (.lst [.ref l, .ref d]) = H9
      intro s9 g9
      have s79 := s8.trans s9
      have fq9 : F2 (fun (p : P3) q => H9 q = some (.tup (p3V p))) ps qs := fq8.mono fun p q e => s9 _ _ e
      refine ⟨⟨l7, l9, _, _, rfl, rfl, SqL.of (s79 _ _ g7), SqL.of g9, rfl, fun j u v h1 h2 => ?_⟩, _, rfl, iteF ?_⟩
      · match j, h1, h2 with
        | 0, h1, h2 =>
          cases h1; cases h2
          exact .inl ⟨2, 2, _, P3L.dv fq9 (s79 _ _ e5), P3L.dv fq9 (s9 _ _ hl8), by decide, by decide⟩
        | 1, h1, h2 =>
          cases h1; cases h2
          exact .inr (.inl ⟨d6, d, kvs, rfl, rfl, s79 _ _ e6, s9 _ _ hd8, fun kv hkv => let ⟨n, e, _⟩ := ht kv hkv; ⟨n, e⟩⟩)
        | j + 2, h1, h2 => simp at h1
      have pic9 := Pic.same s9 pic8
      obtain ⟨⟨dx9, hpi9⟩, _⟩ := id pic9
      refine ⟨_, rfl, a, dx9, _, rfl, hpi9, lk_no (by decide +kernel), a, dp, do_, w', h', pts, rfl, pic9, fun H10 l10 q10 s10 e10 pl10 => ?_⟩
      have s410 := ((((s5.trans s6).trans s7).trans s8).trans s9).trans s10
      refine ⟨_, rfl, 2, 2, _, _, pl10.dv e10, (pl4.keep (Same.tups s410)).dv (s410 _ _ e4), by decide, by decide, _, rfl, ifN (by rw [dEq_refl]; rfl) ⟨s9.trans s10, rfl⟩⟩
    rintro σ HB ⟨sB, rfl⟩
    have arB := ar.same sB
    have fqB : F2 (fun (p : P3) q => HB q = some (.tup (p3V p))) ps qs := fq8.mono fun p q e => sB _ _ e
    have hdB := sB _ _ hd8
    have hlB := sB _ _ hl8
    have picB := Pic.same sB pic8
    have l12 := gp.l12
    clear ar fq8 hd8 hl8 pic8 e8 sB
    refine ⟨(by show 2 ≤ sizeLine; decide), fun lb hlb => ?_⟩
    have s11 : Same HB (upd HB lb (.lst [.str "left", .str "right"])) := same_upd (Same.refl _) hlb
    have g11 : upd HB lb (.lst [.str "left", .str "right"]) lb = some (.lst [.str "left", .str "right"]) := upd_same
    revert s11 g11
    generalize upd HB lb (.lst [.str "left", .str "right"]) = H11
    intro s11 g11
    refine ⟨lb, rfl, ⟨_, SqL.of g11⟩, ?_⟩
    refine for_list (xs := [.str (sideW true), .str (sideW false)]) (Pv := fun i σ HA => ∃ v10 : Option V, σ = [some (.ref sc), some (.int (w' : Int)), some (.int (h' : Int)), some (.ref l), some (.ref a), some (.ref d), some (.ref l4), some (.ref l7), some fv, some tv, v10] ∧ Same H11 HA ∧ (1 ≤ i → sumH kvs true ps ≤ (h' : Int)) ∧ (2 ≤ i → sumH kvs false ps ≤ (h' : Int))) ⟨_, rfl, Same.refl _, fun z => absurd z (by omega), fun z => absurd z (by omega)⟩ ?_ ?_ ?_
    · rintro i σ HA _ ⟨_, rfl, sA, _⟩
      exact SqL.of (sA _ _ g11)
    · rintro i x σ HA hx ⟨v10, rfl, sA, c1', c2'⟩
      obtain ⟨b, rfl, hb⟩ : ∃ b, x = .str (sideW b) ∧ (b = true ∧ i = 0 ∨ b = false ∧ i = 1) := by
        match i, hx with
        | 0, hx => cases hx; exact ⟨true, rfl, .inl ⟨rfl, rfl⟩⟩
        | 1, hx => cases hx; exact ⟨false, rfl, .inr ⟨rfl, rfl⟩⟩
        | i + 2, hx => simp at hx
      have sBA := s11.trans sA
      have hlA := sBA _ _ hlB
      have hdA := sBA _ _ hdB
      have fqA : F2 (fun (p : P3) q => HA q = some (.tup (p3V p))) ps qs := fqB.mono fun p q e => sBA _ _ e
      refine ⟨fun σ HC => Same H11 HC ∧ sumH kvs b ps ≤ (h' : Int) ∧ σ = [some (.ref sc), some (.int (w' : Int)), some (.int (h' : Int)), some (.ref l), some (.ref a), some (.ref d), some (.ref l4), some (.ref l7), some fv, some tv, some (.str (sideW b))], ?_, ?_⟩
      · refine ⟨_, rfl, l, rfl, ⟨_, SqL.of hlA⟩, fun l12 hl12 => ?_⟩
        refine compI (fun p : P3 => decide (p.2.1 = b)) (fun p => .int (hgt kvs p.1)) hlA fqA (by omega) hl12 (fun x hx qx H13 s13 ex N M hN hM => ?_) (fun H13 s13 e13 => ?_)
        · refine ⟨qx, _, rfl, SqT.of ex, rfl, _, _, rfl, _, _, rfl, _, _, rfl, rfl, ?_⟩
          refine ⟨_, rfl, _, rfl, rfl, _, rfl, ?_⟩
          have ed : decide (V.str (sideW x.2.1) = V.str (sideW b)) = decide (x.2.1 = b) := by
            by_cases c : x.2.1 = b
            · rw [c]; simp
            · rw [decide_eq_false c, decide_eq_false fun z => c (sideW_inj (V.str.inj z))]
          rw [ed]
          refine ite2 (fun c => ?_) (fun c => hM (Bool.eq_false_iff.mpr c))
          obtain ⟨v1, _⟩ := hgt_get ht x.1
          refine ⟨_, rfl, d, rfl, .inl ⟨kvs, .inl (s13 _ _ hdA)⟩, _, rfl, _, .inl ⟨kvs, .inr x.1, .inl (s13 _ _ hdA), rfl, rfl⟩, ?_⟩
          rw [v1]
          exact hN c
        have ol := onB_len b ps
        refine nil_in ⟨l12, (onB b ps).map (fun p => hgt kvs p.1), rfl, SqL.of (by rw [e13, List.map_map]; rfl), ⟨by rw [List.length_map]; omega, fun n hn => ?_⟩, ?_⟩
        · obtain ⟨p, _, rfl⟩ := List.mem_map.mp hn
          have := (hgt_get ht p.1).2
          omega
        have se : ((onB b ps).map (fun p => hgt kvs p.1)).sum = sumH kvs b ps := rfl
        rw [se]
        refine ⟨_, rfl, _, _, rfl, rfl, _, rfl, ?_⟩
        by_cases c : (h' : Int) < sumH kvs b ps
        · refine ifP (decide_eq_true c) ?_
          rcases arB with ⟨b', tl, rfl, rfl⟩ | ⟨_, cs, _⟩
          · have eb : b' = b := by
              rcases hb with ⟨rfl, rfl⟩ | ⟨rfl, rfl⟩
              · cases b' with
                | true => rfl
                | false => have := tl.2 rfl; omega
              · cases b' with
                | false => rfl
                | true => have := c1' (Nat.le_refl _); have := tl.1; omega
            subst eb
            refine ⟨_, rfl, rfl, _, rfl, ifP (by simp) ⟨_, rfl, _, rfl, rfl, ?_⟩⟩
            rw [decide_eq_true rfl]
            exact q _
          · have := cs b
            omega
        · exact ifN (decide_eq_false c) ⟨sA.trans s13, by omega, rfl⟩
      rintro σ HC ⟨sC, cb, rfl⟩
      refine ⟨_, rfl, sC, fun _ => ?_, fun _ => ?_⟩
      · rcases hb with ⟨rfl, rfl⟩ | ⟨rfl, rfl⟩
        · exact cb
        · exact c1' (Nat.le_refl _)
      · rcases hb with ⟨rfl, rfl⟩ | ⟨rfl, rfl⟩
        · omega
        · exact cb
    · rintro σ HA ⟨v10, rfl, sA, c1', c2'⟩
      have cT := c1' (by decide)
      have cF := c2' (by decide)
      have sBA := s11.trans sA
      have hlA := sBA _ _ hlB
      have hdA := sBA _ _ hdB
      have fqA : F2 (fun (p : P3) q => HA q = some (.tup (p3V p))) ps qs := fqB.mono fun p q e => sBA _ _ e
      rcases arB.same sBA with ⟨b, tl, _⟩ | ⟨rfl, cs, l', rs, bL, bR, rfl, rL, rR, hl', fr⟩
      · have := tl.1
        cases b <;> omega
      refine ⟨fun σ HC => Same HA HC ∧ σ = [some (.ref sc), some (.int (w' : Int)), some (.int (h' : Int)), some (.ref l), some (.ref a), some (.ref d), some (.ref l4), some (.ref l7), some (.ref l'), some .non, v10], ?_, ?_⟩
      · refine ⟨_, rfl, rfl, _, rfl, ifN (by simp) ⟨_, rfl, _, rfl, _, rfl, l', l, d, w', h', qs, rs, ps, bL, bR, kvs, rfl, hl', fr, ⟨hlA, fqA⟩, gp, hdA, ht, fun HD sD => ⟨true, rfl, iteF ⟨sD, rfl⟩⟩⟩⟩
      rintro σ HC ⟨sC, rfl⟩
      refine ⟨_, rfl, _, rfl, _, rfl, l', l, w', h', true, qs, rs, ps, bL, bR, kvs, rfl, sC _ _ hl', fr.mono (fun x q e => sC _ _ e), ⟨sC _ _ hlA, fqA.mono fun x q e => sC _ _ e⟩, gp, ht, rL, rR, cs, hh.2, fun HE sE => ⟨true, rfl, iteT ?_⟩⟩
      have sCE := sC.trans sE
      exact ⟨_, rfl, _, rfl, _, rfl, l', l, w', h', false, qs, rs, ps, bL, bR, kvs, rfl, sCE _ _ hl', fr.mono (fun x q e => sCE _ _ e), ⟨sCE _ _ hlA, fqA.mono fun x q e => sCE _ _ e⟩, gp, ht, rL, rR, cs, hh.2, fun HF sF => q HF⟩
end
end S66
-- the names of the twins of whole trees and heaps are taken here, so that the head makes no such twins (they are what makes its compiled file large); see NOTE.md
namespace PySem.W.Fast
def tw9745124446868109362:=0
def tw17165549054427995330:=0
def tw16487595346135949593:=0
def tw2305559257598904476:=0
def tw3456805162660157732:=0
def tw4660157716626252877:=0
def tw15936326844668317149:=0
def tw16696761976738563452:=0
def tw736465270155837430:=0
def tw17632379988144722360:=0
def tw14310630932840216763:=0
def tw5529048806232361285:=0
def tw5177000892670789315:=0
def tw10562397053808545099:=0
def tw17918799354887123508:=0
def tw14145691010287491386:=0
def tw8474179784612990290:=0
def tw14699126590833058056:=0
def tw10418986317376039403:=0
def tw6382718422110375289:=0
def tw11291884915313692152:=0
def tw12517215749207010896:=0
def tw1082139222856080152:=0
def tw3614177500782253063:=0
def tw3851646275970802568:=0
def tw2122834848778767173:=0
def tw9659162181027434511:=0
def tw10900659243689743879:=0
def tw3224079123200986928:=0
def tw7946067800489476198:=0
def tw9121073626187012620:=0
def tw16311689724859295004:=0
def tw14325284776507749328:=0
def tw11421624971735811080:=0
def tw13643377935306906129:=0
def tw11295694867501650942:=0
def tw17271565181941469803:=0
def tw7388563473178451048:=0
def tw14148980065188667884:=0
def tw12080335611159745063:=0
def tw5040496432333479416:=0
def tw7614891447327572236:=0
def tw10624464112445438836:=0
def tw10230282658907735341:=0
def tw16993036955790764454:=0
def tw8582922855780339416:=0
def tw6379119021199238873:=0
def tw2895667309954549499:=0
def tw7830247293932488816:=0
def tw8388082232959446926:=0
def tw4446834346179636494:=0
def tw8129172814711188472:=0
def tw17458408136959075598:=0
def tw8520704472338215509:=0
def tw13857690676839084343:=0
def tw13230670407459299893:=0
def tw3590413418959060273:=0
def tw9976052130861450312:=0
def tw6108189236384187122:=0
def tw4415470016188511616:=0
def tw10266958818939715856:=0
def tw11304103744730603333:=0
def tw6962483065966220575:=0
def tw882341230728030199:=0
def tw17146372094986786485:=0
def tw14072176151911981544:=0
def tw16209305042175582573:=0
def tw3576464925396555889:=0
def tw1778617275626762346:=0
def tw37144553099131663:=0
def tw4371669277458890085:=0
def tw17995367030785213850:=0
def tw4474444899173651858:=0
def tw1297563964361021484:=0
def tw2367685010911750023:=0
def tw11346605436958946563:=0
def tw2472948308588798630:=0
def tw3236941162108508374:=0
def tw5824655686844673705:=0
def tw17360456194333940837:=0
def tw11214347196265989467:=0
def tw5399635310585989145:=0
def tw12304360342339431353:=0
def tw8850903258037011815:=0
def tw9660714316508402253:=0
def tw3203794871199077064:=0
def tw10026835246799580907:=0
def tw13313481802380982107:=0
def tw8884083415136430738:=0
def tw9378762906817512039:=0
def tw369664890681829362:=0
def tw1667372292558038433:=0
def tw9719753550229810403:=0
def tw16401648393491632355:=0
def tw9019194472897010679:=0
def tw13288202457195223534:=0
def tw8212736170408883809:=0
def tw8602236769962364400:=0
def tw12050312997771574756:=0
def tw2983599539469247174:=0
def tw625071145553003467:=0
def tw14419797445611387403:=0
def tw1464517800638479460:=0
def tw2249835083911902448:=0
def tw2537152163775480338:=0
def tw7541823545085934676:=0
def tw16179416964129756551:=0
def tw335555797737440844:=0
def tw10259454546733117212:=0
def tw8748903225601556439:=0
def tw3850598304096469191:=0
def tw11755604251642889506:=0
def tw10484875040410437926:=0
def tw15034999201825189375:=0
def tw1418624822037739347:=0
def tw985937712930412220:=0
def tw13097763730835421052:=0
def tw3915592743343777461:=0
def tw18223489139859692939:=0
def tw2044713496220278232:=0
def tw614601064902990625:=0
def tw14616143678885414404:=0
def tw12356419848919596764:=0
def tw7129672047642309645:=0
def tw1702783723567284266:=0
def tw17497975014555076150:=0
def tw6970129696629168719:=0
def tw5575843696698902797:=0
def tw15717753585552824788:=0
def tw10123207823944926282:=0
def tw17126576385010113590:=0
def tw10506517893680315265:=0
def tw12430123032100332622:=0
def tw8969387573458030243:=0
def tw6795915924857770964:=0
def tw1171662243663860035:=0
def tw2395201808470339789:=0
def tw6568644383332731387:=0
def tw10909079799334170899:=0
def tw8916293604465946291:=0
def tw14598400982522731306:=0
def tw18268927422751246138:=0
def tw4782955227849116778:=0
def tw14329567941915103589:=0
def tw4815654434231771591:=0
def tw4666964603002373195:=0
def tw9858805005630556776:=0
def tw11920577698001691712:=0
def tw11039215441750915728:=0
def tw3584375418452117625:=0
def tw10965781848096255535:=0
def tw9216403809280003239:=0
def tw13956911120561613995:=0
def tw14386699126115642220:=0
def tw7784655259536089285:=0
def tw3165124653509557301:=0
def tw17674773645077134841:=0
def tw14634767414995597990:=0
def tw17097300345123679127:=0
def tw2684000238223641957:=0
def tw892432512353662801:=0
def tw12816431493255409000:=0
def tw2185300054196701389:=0
def tw16872017262615947791:=0
def tw12287291649766356348:=0
def tw6070685178423343383:=0
def tw10283908417981205463:=0
def tw338351054982396543:=0
def tw15714371153998420640:=0
def tw13490407876750603010:=0
def tw12565460575544336405:=0
def tw1878330329423485586:=0
def tw14366901575568457812:=0
def tw2041781647763727420:=0
def tw3321303501923342646:=0
def tw4238491870916071448:=0
def tw5107086388539531489:=0
def tw9641842604543667028:=0
def tw1955422744648317072:=0
def tw367349891991157163:=0
def tw3534941008784971162:=0
def tw303914802517614725:=0
def tw460476099469994175:=0
def tw16620476196354719444:=0
def tw3432330705412518538:=0
def tw11260952111697158555:=0
def tw6984215206966440519:=0
def tw13815432551451085648:=0
def tw2661379757375476044:=0
def tw10679007702148639396:=0
def tw18073439514857066770:=0
def tw3498562891129204592:=0
def tw12146709308026463548:=0
def tw17772355882899398152:=0
def tw5002262669003927993:=0
def tw2078384441514988530:=0
def tw12990552922541887341:=0
def tw18417521248759207878:=0
def tw16825227090890796697:=0
def tw1502997553351651909:=0
def tw8561632302725698761:=0
def tw7737478014767147529:=0
def tw3128140506626520095:=0
def tw1413674189551275317:=0
def tw5530303760308782349:=0
def tw17700849576005877618:=0
def tw6011649503411935181:=0
def tw11943432070953465643:=0
def tw1389818921231089005:=0
def tw13217659679415109184:=0
def tw4527707478297147511:=0
def tw10349520789429412555:=0
def tw13393131571747844378:=0
def tw9381996309982254403:=0
def tw4665809919761959385:=0
def tw13448623423212211879:=0
def tw16112677633804581965:=0
def tw18071601654433067927:=0
def tw8838276271710534923:=0
def tw2629155689365093754:=0
def tw9385980144179627446:=0
def tw617902958908499370:=0
def tw4450161211339569330:=0
def tw2427927788873222197:=0
def tw3158101844790765494:=0
def tw10478727130033490787:=0
def tw13955310800379336288:=0
def tw8521428702809003163:=0
def tw421219420288107911:=0
def tw14047764822054672866:=0
def tw7641150568834034218:=0
def tw10581463047493377265:=0
def tw3074244375786745553:=0
def tw6955380991175674980:=0
def tw12507123892401579327:=0
def tw17651269734780908048:=0
def tw16033809796926595510:=0
def tw12173576825721023832:=0
def tw15693696053384212043:=0
def tw15802312081736904751:=0
def tw10696657428974996611:=0
def tw4718906292670310364:=0
def tw4824452952536015469:=0
def tw11147960699917814769:=0
def tw12844508457961967742:=0
def tw1073855569031101106:=0
def tw17022718461735570930:=0
def tw4346242391998287497:=0
def tw14271388093349583950:=0
def tw16987379477667757733:=0
def tw8413152252741396070:=0
def tw5359953118817123315:=0
def tw10983347041802524585:=0
def tw4651638356556335278:=0
def tw12625553375876307803:=0
def tw16928671069549909086:=0
def tw13216231393588196093:=0
def tw6138231226059313009:=0
def tw8091820379165527328:=0
def tw3640082014117097283:=0
def tw8688019921932551771:=0
def tw4813634315194116178:=0
def tw458745381425739673:=0
def tw7654322082964921085:=0
def tw2028680720519936991:=0
def tw4871050268389014367:=0
def tw278572938319407412:=0
def tw16478825713458837440:=0
def tw10212121327558440892:=0
def tw11660982097632278500:=0
def tw842454747659522416:=0
def tw10143854642814174474:=0
def tw13259773091068803645:=0
def tw11937393630276271153:=0
def tw8735244308281136426:=0
def tw14014330466027444194:=0
def tw9692821769981231243:=0
def tw16279405196520337303:=0
def tw11727799365530948127:=0
def tw11108602387945434812:=0
def tw13451568622893627449:=0
def tw14652871996438933310:=0
def tw10596978083748786719:=0
def tw15094242774074464883:=0
def tw7917219659196721441:=0
def tw16335988479162360998:=0
def tw16256596512133333015:=0
def tw4826902348249018502:=0
def tw16842409603803682643:=0
def tw16315463413864521845:=0
def tw9216653595565060485:=0
def tw13996434217369986381:=0
def tw8570103162715111700:=0
def tw11782975269678744528:=0
def tw15099332275307004516:=0
def tw6695815740831696524:=0
def tw14150567710994895782:=0
def tw12895072775357068691:=0
def tw7357271684255615027:=0
def tw12971918012860422022:=0
def tw15735883143591040343:=0
def tw15916198744065126122:=0
def tw15140868096797009214:=0
def tw10271365617628040206:=0
def tw12089784001593195283:=0
def tw15014757348243056678:=0
def tw18059343583406971740:=0
def tw3792128541894333094:=0
def tw14231806444590889544:=0
def tw8915918976674346786:=0
def tw3107808809516452823:=0
def tw17665131786463481079:=0
def tw5468354791516515733:=0
def tw15315187786675477178:=0
def tw2659199321818018212:=0
def tw9047255247046431756:=0
def tw11828588044126920629:=0
def tw17340636943741279109:=0
def tw15449112758739460335:=0
def tw17670768637212429542:=0
def tw17538482170178403888:=0
def tw4073257127742473105:=0
def tw12710573187224500241:=0
def tw274082093445154475:=0
def tw7067011214537594868:=0
def tw3530287754434348992:=0
def tw4191706392530169009:=0
def tw3179235423014353542:=0
def tw3037995164060120449:=0
def tw12033855876231734971:=0
def tw11969143508376427396:=0
def tw850602003117626590:=0
def tw16967805073265127675:=0
def tw8804367277425736909:=0
def tw14408388396304511529:=0
def tw11296200000217813487:=0
def tw16559418873215042076:=0
def tw17419161810267523431:=0
def tw3834585010800330469:=0
def tw13097894815200636435:=0
def tw4271453450892608386:=0
def tw8336058638934403241:=0
def tw10251807599473663084:=0
def tw6487188996579589443:=0
def tw6269825875114008210:=0
def tw16490010819999607273:=0
def tw2149425998305892213:=0
def tw5856364895451727494:=0
def tw9522419419343889348:=0
def tw10036157601530886652:=0
def tw4243699485993799072:=0
def tw14675869614226427912:=0
def tw9385181919832971450:=0
def tw4988807194247758455:=0
def tw4988164774035513234:=0
def tw2042242036474730991:=0
def tw4605926174529409762:=0
def tw7222952609285695830:=0
def tw13567586118919122111:=0
def tw18003961921383569816:=0
def tw17705690080268282323:=0
def tw12025075947488259473:=0
def tw15764020699548374448:=0
def tw5243757359585534576:=0
def tw2836020850612965577:=0
def tw14754999622646009198:=0
def tw1459751181909531740:=0
def tw11911362527036773979:=0
def tw1332961180684243871:=0
def tw777319184768255142:=0
def tw12212771398344521184:=0
def tw3735253383967650570:=0
def tw14860585847165459645:=0
def tw3617437502845277312:=0
def tw15191502763054317779:=0
def tw3549650003945205220:=0
def tw2018161590672019152:=0
def tw18376966349279306666:=0
def tw1225519454754954292:=0
def tw2383250275542596594:=0
def tw4567797973977801287:=0
def tw4623866692829040590:=0
def tw16502777770615546637:=0
def tw4234737186537360385:=0
def tw14910749510980071203:=0
def tw17658871519761705623:=0
def tw7770499484422027013:=0
def tw10723900527877870704:=0
def tw14817968248156620082:=0
def tw1893539719824319527:=0
def tw9138221592315611210:=0
def tw370011388006916693:=0
def tw5927070503140376687:=0
def tw9159752018577182466:=0
def tw13836406374015722236:=0
def tw17421584464969721252:=0
def tw8659889318501685443:=0
def tw14382358001758216894:=0
def tw11228573546152813868:=0
def tw1304792252083528972:=0
def tw5588436204742010363:=0
def tw9482582471857362232:=0
def tw7144950829136628455:=0
def tw5462629732909133904:=0
def tw2722950726712393639:=0
def tw15215119437408467857:=0
def tw3402293369994747072:=0
def tw5908157335175551879:=0
def tw13293982252945009486:=0
def tw15614293627173503457:=0
def tw8920778468887959439:=0
def tw4701009364914181318:=0
def tw11827292502615645299:=0
def tw10440526349291800718:=0
def tw17435290839253258177:=0
def tw16665057989350985192:=0
def tw14026365404837764443:=0
def tw9712730328056940194:=0
def tw11227884037948438364:=0
def tw7468763460592118320:=0
def tw5840142876731437421:=0
def tw12716580380539523034:=0
def tw7044679469401047158:=0
def tw8743247531595840947:=0
def tw16305751248523626069:=0
def tw15337667447919703570:=0
def tw5203139774330561177:=0
def tw4838187166519130375:=0
def tw8897429130061637722:=0
def tw8488382090553575051:=0
def tw8669915474590045175:=0
def tw6175870782015106448:=0
def tw3180028600548565151:=0
def tw8930947928765322956:=0
def tw14646150165865361693:=0
def tw8766754438745989315:=0
def tw7848383039871387935:=0
def tw18224275540677475397:=0
def tw12548117857376646570:=0
def tw13519297621174225298:=0
def tw14986136223972194173:=0
def tw9263735489388525806:=0
def tw1501132206340720942:=0
def tw8746821005463175640:=0
def tw17215352549533566489:=0
def tw4312364018032431529:=0
def tw5563986916729808628:=0
def tw17065179440788256618:=0
def tw9218864548291633682:=0
def tw14901048453911801636:=0
def tw7092863336551947149:=0
def tw1921757100927697054:=0
def tw15655525472671517798:=0
def tw539868642497243676:=0
def tw779464016680063178:=0
def tw13144411626767896037:=0
def tw16881869203610187578:=0
def tw12735435505551978659:=0
def tw8370175800155186105:=0
def tw7754330676628070233:=0
def tw4799422215728766244:=0
def tw4643079655106976437:=0
def tw8787992092888082071:=0
def tw9518725613435561569:=0
def tw18139550171193517472:=0
def tw14211823170914590642:=0
def tw4931873159187642754:=0
def tw561729467317300013:=0
def tw117059537438123907:=0
def tw777556588921525883:=0
def tw18369396425452406636:=0
def tw2427161697099599501:=0
def tw3586065774863761178:=0
def tw7248006924692725716:=0
def tw1291834876344772652:=0
def tw11521807482409346883:=0
def tw8803140494186098964:=0
def tw7574039849894958721:=0
def tw12677419790899195049:=0
def tw12207842819785777014:=0
def tw644542740684739495:=0
def tw6446724075157679553:=0
def tw15099284582157604993:=0
def tw6186416805190653213:=0
def tw1814183585113364717:=0
def tw2038611568576518941:=0
def tw629210207690068613:=0
def tw782538009697889011:=0
def tw9976468772144802389:=0
def tw11164698329150181710:=0
def tw2446707014526522309:=0
def tw13290237645738553681:=0
def tw9471586942316242710:=0
def tw15483100226679141019:=0
def tw14500904744231546933:=0
def tw7592315417358120355:=0
def tw2489341182916044424:=0
def tw17639177805728760223:=0
def tw9454772712403645536:=0
def tw14174886405043082032:=0
def tw4122260469418696229:=0
def tw18125635517419162172:=0
def tw12877550156050749084:=0
def tw3085537427570021414:=0
def tw5799204048240012858:=0
def tw5804083072632989646:=0
def tw9008621910904794900:=0
def tw7504531122706936819:=0
def tw18055063940066414254:=0
def tw15630487758109702750:=0
def tw4239070263820386346:=0
def tw16339380207462418933:=0
def tw9277122590605288373:=0
def tw10781162998503706663:=0
def tw16857252928546551741:=0
def tw17182990974289683288:=0
def tw8751372934459513470:=0
def tw4732858398524525599:=0
def tw6512346695478048698:=0
def tw9128925942061831899:=0
def tw16792290157663703522:=0
def tw12255613743300031384:=0
def tw561888698130355871:=0
def tw17923490407389835198:=0
def tw14453304284520796869:=0
def tw11401037461467186821:=0
def tw12779067961285161940:=0
def tw4073889113312693345:=0
def tw12672893557108876604:=0
def tw14131712630579488787:=0
def tw10714602945663471588:=0
def tw17078816117114218861:=0
def tw11402755744634159815:=0
def tw3964590449764957881:=0
def tw7270374140570888247:=0
def tw6029986995666519113:=0
def tw8946364161511646778:=0
def tw4169026271307691156:=0
def tw12965563476245173196:=0
def tw4935748743341039666:=0
def tw18396722700337533741:=0
def tw16445870282999900748:=0
def tw12293139958833459135:=0
def tw13741649956509191534:=0
def tw2986044812525111801:=0
def tw22279029797228282:=0
def tw10921488425344657127:=0
def tw5571564124840688181:=0
def tw15691060589942188352:=0
def tw17074117025695779221:=0
def tw16138875744259296976:=0
def tw7365831316142093416:=0
def tw10300302101523244338:=0
def tw17800246619252101057:=0
def tw3083939877925713911:=0
def tw7790081268650576458:=0
def tw3512137455536538679:=0
def tw7201363042711343614:=0
def tw5951399640783044939:=0
def tw7235354418619789073:=0
def tw10605075763170270299:=0
def tw17780446876720206777:=0
def tw9810658303461728539:=0
def tw8215619689880624816:=0
def tw11414814219750463531:=0
def tw16518279708845828008:=0
def tw48459802440387612:=0
def tw12217050749259762622:=0
def tw7905599449357041173:=0
def tw11704837775846327974:=0
def tw16230590499975586856:=0
def tw15570577555226792131:=0
def tw7276604474662969615:=0
def tw16502868700428201572:=0
def tw18333445408549446577:=0
def tw14752965985497979421:=0
def tw9212633415774053884:=0
def tw2112334631535120842:=0
def tw18257884343667980218:=0
def tw16433397725909576953:=0
def tw12904938049193894411:=0
def tw9206834468953157868:=0
def tw17087725915084497958:=0
def tw16154447616823556166:=0
def tw16760639211425417149:=0
def tw11640597759983380250:=0
def tw12108886587673057978:=0
def tw8052506793506891171:=0
def tw11667019029436091717:=0
def tw1137217083652883027:=0
def tw18228390014413261300:=0
def tw3150422731186959314:=0
def tw14796353964861496903:=0
def tw13011542329263429512:=0
def tw12099154973378207630:=0
def tw16517351983714292354:=0
def tw9938010565241430369:=0
def tw12579054017492675591:=0
def tw12884325443979871116:=0
def tw17236011250151931922:=0
def tw12893772451018424380:=0
def tw4864574156308429339:=0
def tw4885099748269728747:=0
def tw8991336828728776891:=0
def tw9124339449774981678:=0
def tw14553365379348835521:=0
def tw13409354499350667291:=0
def tw10965790297841774140:=0
def tw10675207524075329032:=0
def tw3463443126464989899:=0
def tw14908329438391990326:=0
def tw5800936671006585663:=0
def tw18203686724118306269:=0
def tw7407170258989806613:=0
def tw5024308417107367826:=0
def tw17254162579352564785:=0
def tw18326869740638665337:=0
def tw17409897248420370967:=0
def tw9156099770182209274:=0
def tw16879972233439665617:=0
def tw7683527535540787895:=0
def tw11267785328987340707:=0
def tw7453642605511779978:=0
def tw11166434762693681251:=0
def tw4542622586469687756:=0
def tw16062120991824835111:=0
def tw8463938502208662845:=0
def tw3642289061067356977:=0
def tw10023174354091342834:=0
def tw5434745977939281303:=0
def tw17446379880728668001:=0
def tw12916672243495487347:=0
def tw15198651746377411945:=0
def tw3847194680543721601:=0
def tw17012401662974937164:=0
def tw1199875989742892172:=0
def tw18232086035077761511:=0
def tw17038882980150905803:=0
def tw12664240665070636967:=0
def tw13641513414283030050:=0
def tw4659683765029940520:=0
def tw18443626362821688430:=0
def tw4603054671305530501:=0
def tw9616307114247753043:=0
def tw6954405740264988348:=0
def tw16250631750620054136:=0
def tw5009076329770444573:=0
def tw1360241720499139245:=0
def tw7072776133755195862:=0
def tw806646989801945892:=0
def tw11957555956589954750:=0
def tw6942607800079812625:=0
def tw9949415646921230512:=0
def tw2249920798806581790:=0
def tw11959711680261389246:=0
def tw14328717179693221528:=0
def tw11332966452216854034:=0
def tw11115131178644185280:=0
def tw16176332725969086558:=0
def tw16867940403955465845:=0
def tw2698224854231473136:=0
def tw7110899143037232930:=0
def tw10285584355486408269:=0
def tw5194665543747976252:=0
def tw1714869357948313621:=0
def tw5532172815028371160:=0
def tw1412635473208471172:=0
def tw9820138572986818803:=0
def tw7898138701729618735:=0
def tw2942380425624865826:=0
def tw4754650520215561702:=0
def tw6997485486091331201:=0
def tw10875578713520965547:=0
def tw16869624182391971249:=0
def tw10247430108846313978:=0
def tw9096212986195958619:=0
def tw16229633083070967350:=0
def tw11983267057910168432:=0
def tw14762530293719119183:=0
def tw7021834015546191201:=0
def tw10425647940077305162:=0
def tw12782424793885807506:=0
def tw9883440730423477894:=0
def tw14395511798669682276:=0
def tw594525189114892793:=0
def tw9191956705905336533:=0
def tw14720743850329017689:=0
def tw12333552545551756526:=0
def tw3081787054218975719:=0
def tw15529755393629345833:=0
def tw18070006536497397108:=0
def tw13382199643651813738:=0
def tw13472630179978782747:=0
def tw7771317646177101739:=0
def tw12388580624900592026:=0
def tw13969534449543895321:=0
def tw16851997378193001139:=0
def tw14278266386480246246:=0
def tw2614058064142169751:=0
def tw11584158126870672770:=0
def tw14574973026044891201:=0
def tw17915484861254596383:=0
def tw5342907630367050543:=0
end PySem.W.Fast
namespace S66
open PySem L2 XL
theorem walk {l : PySem.W.OpenLaw} {q : Program} {loose : List Str} {XP : (Str → Option Value) → Heap → Prop} {YP : World → Heap → Prop} {d : DefRec} {K : Params → PySem.W.Frag} (hn : l.most = some 63) (hdf : d.params.defaults = [])
    (hY : ∀ (w : World) (h : Heap), YP w h → (K w.params).In h)
    (F : ∀ (w : World) (mg : Str → Option Value) (fa : Addr) (h : Heap), (K w.params).In h → h.Ns mainGlobals mg → mg d.name = some (.ref fa) →
      ∃ fd : FuncData, (∀ (s : Shared) (u : Value), BindsTo s fd ⟨[u], []⟩ [("_law_script", u)]) ∧ ∀ base : Heap, (K w.params).In base → base.Ns mainGlobals mg → FnOk true l.prog w (K w.params) mg base (CXo l.prog w) 7 fa fd ["_law_script"] (spLaw (K w.params))) :
    PySem.W.WalkO q loose XP YP l.row.toRowW d [] (fun f vs => PySem.call f vs) :=
  L2.walk_of (q0 := true) (n := 63) (k := 7) (x := "_law_script") (CX := fun w => CXo l.prog w) (sp := fun w => spLaw (K w.params)) hn (by decide) hdf ⟨fun _ => rfl, by decide, by decide⟩ hY F (fun _ _ a ns hl _ hS => ⟨a, ns, rfl, hS, hl, fun _ => rfl⟩)
    fun w H s e s' z => by obtain ⟨_, _, _, _, _, _, _, _, _, _, _, _, _, _, q⟩ := z; exact q
theorem all_mk {l : PySem.W.OpenLaw} {w : World} {K : PySem.W.Frag} {h : Heap} {mg : Str → Option Value} {fa : Addr} (hfa : mg "law" = some (.ref fa)) (TT : ∃ t, Txt w K mg t) :
    ∃ fd : FuncData, (∀ (s : Shared) (v : Value), BindsTo s fd ⟨[v], []⟩ [("_law_script", v)]) ∧ ∀ base : Heap, K.In base → base.Ns mainGlobals mg → FnOk true l.prog w K mg base (CXo l.prog w) 7 fa fd ["_law_script"] (spLaw K) := by
  obtain ⟨t, T⟩ := TT
  have e := hfa.symm.trans T.g_law
  cases e
  refine ⟨t.d_law, fun s v => ?_, fun base _ _ => ok_law T⟩
  obtain ⟨oc, od, kV, doc, pm, an, cdv, ct, osl, e, lk, hcd⟩ := T.F_law.ex
  rw [e]
  exact .of_eq rfl
end S66
open PySem PySem.W PyProof.Rows
set_option maxRecDepth 100000 in
set_option maxHeartbeats 0 in
theorem PySem.Challenge.cw_rimnotes_k66_columns_holds : PySem.Challenge.rw_rimnotes_k66_columns.Holds := by
  w_on; o_law; k_head; (case hw => w_witness2)
  k_fill
  refine S66.walk (l := PySem.Challenge.rw_rimnotes_k66_columns) rfl rfl (fun w h Y => PySem.W.kIn_of Y) ?F
  case F =>
    intro w mg fa h KX G hmg
    refine S66.all_mk (h := h) hmg ?TT
    refine' S66.txt_mk (w := w) KX G ?g_RimError ?g_TooTall ?g_Side ?g_LeftSide ?g_RightSide ?g_Picture ?a_TooTall_init ?l_TooTall_init ?c_TooTall_init ?k_TooTall_init ?i_TooTall_init ?a_is_whole ?l_is_whole ?c_is_whole ?k_is_whole ?i_is_whole ?a_is_name ?l_is_name ?c_is_name ?k_is_name ?i_is_name ?a_least_places ?l_least_places ?c_least_places ?k_least_places ?i_least_places ?a_ways_with ?l_ways_with ?c_ways_with ?k_ways_with ?i_ways_with ?a_column_places ?l_column_places ?c_column_places ?k_column_places ?i_column_places ?a_rim_firsts ?l_rim_firsts ?c_rim_firsts ?k_rim_firsts ?i_rim_firsts ?a_Side_init ?l_Side_init ?c_Side_init ?k_Side_init ?i_Side_init ?a_side_of ?l_side_of ?c_side_of ?k_side_of ?i_side_of ?a_Picture_init ?l_Picture_init ?c_Picture_init ?k_Picture_init ?i_Picture_init ?a_Picture_put ?l_Picture_put ?c_Picture_put ?k_Picture_put ?i_Picture_put ?t_Picture_put ?a_Picture_open_seat ?l_Picture_open_seat ?c_Picture_open_seat ?k_Picture_open_seat ?i_Picture_open_seat ?a_Picture_points ?l_Picture_points ?c_Picture_points ?k_Picture_points ?i_Picture_points ?a_Picture_check_cell ?l_Picture_check_cell ?c_Picture_check_cell ?k_Picture_check_cell ?i_Picture_check_cell ?a_Picture_check_lines ?l_Picture_check_lines ?c_Picture_check_lines ?k_Picture_check_lines ?i_Picture_check_lines ?a_Picture_check_seat ?l_Picture_check_seat ?c_Picture_check_seat ?k_Picture_check_seat ?i_Picture_check_seat ?a_law_cell ?l_law_cell ?c_law_cell ?k_law_cell ?i_law_cell ?a_law_mix ?l_law_mix ?c_law_mix ?k_law_mix ?i_law_mix ?a_law_digits ?l_law_digits ?c_law_digits ?k_law_digits ?i_law_digits ?a_law_whole ?l_law_whole ?c_law_whole ?k_law_whole ?i_law_whole ?a_law_unlike ?l_law_unlike ?c_law_unlike ?k_law_unlike ?i_law_unlike ?a_law_pairs ?l_law_pairs ?c_law_pairs ?k_law_pairs ?i_law_pairs ?a_law_made ?l_law_made ?c_law_made ?k_law_made ?i_law_made ?a_law_heights ?l_law_heights ?c_law_heights ?k_law_heights ?i_law_heights ?a_law_least ?l_law_least ?c_law_least ?k_law_least ?i_law_least ?a_law_rim_good ?l_law_rim_good ?c_law_rim_good ?k_law_rim_good ?i_law_rim_good ?a_law_asked ?l_law_asked ?c_law_asked ?k_law_asked ?i_law_asked ?a_law_rows ?l_law_rows ?c_law_rows ?k_law_rows ?i_law_rows ?a_law ?l_law ?c_law ?k_law ?i_law ?kc_RimError ?ov_RimError ?hd_RimError ?sa_RimError ?ga_RimError ?gh_RimError ?ca_RimError ?mk_RimError ?kc_TooTall ?ov_TooTall ?hd_TooTall ?sa_TooTall ?ga_TooTall ?gh_TooTall ?ca_TooTall ?mk_TooTall ?kc_Side ?pg_Side ?hd_Side ?po_Side ?sa_Side ?mk_Side ?ca_Side ?mo_Side ?kc_LeftSide ?pg_LeftSide ?hd_LeftSide ?po_LeftSide ?sa_LeftSide ?mk_LeftSide ?ca_LeftSide ?mo_LeftSide ?a_LeftSide_init ?kc_RightSide ?pg_RightSide ?hd_RightSide ?po_RightSide ?sa_RightSide ?mk_RightSide ?ca_RightSide ?mo_RightSide ?a_RightSide_init ?kc_Picture ?pg_Picture ?hd_Picture ?po_Picture ?sa_Picture ?mk_Picture ?ca_Picture ?mo_Picture ?cg ?ct ?n_Picture_height ?n_Picture_width ?n_Picture_placed ?n_Picture_opened ?n_TooTall_side ?n_Side_width ?n_LeftSide_width ?n_RightSide_width ?n_abs ?n_bool ?n_dict ?n_int ?n_isinstance ?n_len ?n_list ?n_min ?n_range ?n_sorted ?n_str ?n_sum ?n_tuple ?n_zip ?mro_TooTall ?v_MOST_ROWS ?v_MOST_COLUMNS ?v_MOST_POINTS ?g_MIRRORED_SIDES ?l_MIRRORED_SIDES ?ns_MIRRORED_SIDES ?v_FARTHEST
    (case g_RimError => k_is)
    (case g_TooTall => k_is)
    (case g_Side => k_is)
    (case g_LeftSide => k_is)
    (case g_RightSide => k_is)
    (case g_Picture => k_is)
    (case a_TooTall_init => k_is)
    (case l_TooTall_init => k_is)
    (case c_TooTall_init => k_is)
    (case k_TooTall_init => k_is)
    (case i_TooTall_init => k_is)
    (case a_is_whole => k_is)
    (case l_is_whole => k_is)
    (case c_is_whole => k_is)
    (case k_is_whole => k_is)
    (case i_is_whole => k_is)
    (case a_is_name => k_is)
    (case l_is_name => k_is)
    (case c_is_name => k_is)
    (case k_is_name => k_is)
    (case i_is_name => k_is)
    (case a_least_places => k_is)
    (case l_least_places => k_is)
    (case c_least_places => k_is)
    (case k_least_places => k_is)
    (case i_least_places => k_is)
    (case a_ways_with => k_is)
    (case l_ways_with => k_is)
    (case c_ways_with => k_is)
    (case k_ways_with => k_is)
    (case i_ways_with => k_is)
    (case a_column_places => k_is)
    (case l_column_places => k_is)
    (case c_column_places => k_is)
    (case k_column_places => k_is)
    (case i_column_places => k_is)
    (case a_rim_firsts => k_is)
    (case l_rim_firsts => k_is)
    (case c_rim_firsts => k_is)
    (case k_rim_firsts => k_is)
    (case i_rim_firsts => k_is)
    (case a_Side_init => k_is)
    (case l_Side_init => k_is)
    (case c_Side_init => k_is)
    (case k_Side_init => k_is)
    (case i_Side_init => k_is)
    (case a_side_of => k_is)
    (case l_side_of => k_is)
    (case c_side_of => k_is)
    (case k_side_of => k_is)
    (case i_side_of => k_is)
    (case a_Picture_init => k_is)
    (case l_Picture_init => k_is)
    (case c_Picture_init => k_is)
    (case k_Picture_init => k_is)
    (case i_Picture_init => k_is)
    (case a_Picture_put => k_is)
    (case l_Picture_put => k_is)
    (case c_Picture_put => k_is)
    (case k_Picture_put => k_is)
    (case i_Picture_put => k_is)
    (case t_Picture_put => k_is)
    (case a_Picture_open_seat => k_is)
    (case l_Picture_open_seat => k_is)
    (case c_Picture_open_seat => k_is)
    (case k_Picture_open_seat => k_is)
    (case i_Picture_open_seat => k_is)
    (case a_Picture_points => k_is)
    (case l_Picture_points => k_is)
    (case c_Picture_points => k_is)
    (case k_Picture_points => k_is)
    (case i_Picture_points => k_is)
    (case a_Picture_check_cell => k_is)
    (case l_Picture_check_cell => k_is)
    (case c_Picture_check_cell => k_is)
    (case k_Picture_check_cell => k_is)
    (case i_Picture_check_cell => k_is)
    (case a_Picture_check_lines => k_is)
    (case l_Picture_check_lines => k_is)
    (case c_Picture_check_lines => k_is)
    (case k_Picture_check_lines => k_is)
    (case i_Picture_check_lines => k_is)
    (case a_Picture_check_seat => k_is)
    (case l_Picture_check_seat => k_is)
    (case c_Picture_check_seat => k_is)
    (case k_Picture_check_seat => k_is)
    (case i_Picture_check_seat => k_is)
    (case a_law_cell => k_is)
    (case l_law_cell => k_is)
    (case c_law_cell => k_is)
    (case k_law_cell => k_is)
    (case i_law_cell => k_is)
    (case a_law_mix => k_is)
    (case l_law_mix => k_is)
    (case c_law_mix => k_is)
    (case k_law_mix => k_is)
    (case i_law_mix => k_is)
    (case a_law_digits => k_is)
    (case l_law_digits => k_is)
    (case c_law_digits => k_is)
    (case k_law_digits => k_is)
    (case i_law_digits => k_is)
    (case a_law_whole => k_is)
    (case l_law_whole => k_is)
    (case c_law_whole => k_is)
    (case k_law_whole => k_is)
    (case i_law_whole => k_is)
    (case a_law_unlike => k_is)
    (case l_law_unlike => k_is)
    (case c_law_unlike => k_is)
    (case k_law_unlike => k_is)
    (case i_law_unlike => k_is)
    (case a_law_pairs => k_is)
    (case l_law_pairs => k_is)
    (case c_law_pairs => k_is)
    (case k_law_pairs => k_is)
    (case i_law_pairs => k_is)
    (case a_law_made => k_is)
    (case l_law_made => k_is)
    (case c_law_made => k_is)
    (case k_law_made => k_is)
    (case i_law_made => k_is)
    (case a_law_heights => k_is)
    (case l_law_heights => k_is)
    (case c_law_heights => k_is)
    (case k_law_heights => k_is)
    (case i_law_heights => k_is)
    (case a_law_least => k_is)
    (case l_law_least => k_is)
    (case c_law_least => k_is)
    (case k_law_least => k_is)
    (case i_law_least => k_is)
    (case a_law_rim_good => k_is)
    (case l_law_rim_good => k_is)
    (case c_law_rim_good => k_is)
    (case k_law_rim_good => k_is)
    (case i_law_rim_good => k_is)
    (case a_law_asked => k_is)
    (case l_law_asked => k_is)
    (case c_law_asked => k_is)
    (case k_law_asked => k_is)
    (case i_law_asked => k_is)
    (case a_law_rows => k_is)
    (case l_law_rows => k_is)
    (case c_law_rows => k_is)
    (case k_law_rows => k_is)
    (case i_law_rows => k_is)
    (case a_law => k_is)
    (case l_law => k_is)
    (case c_law => k_is)
    (case k_law => k_is)
    (case i_law => k_is)
    (case kc_RimError => k_is)
    (case ov_RimError => kernel_rfl)
    (case hd_RimError => k_is)
    (case sa_RimError => k_is)
    (case ga_RimError => k_is)
    (case gh_RimError => k_is)
    (case ca_RimError => k_is)
    (case mk_RimError => first | k_is | kernel_rfl)
    (case kc_TooTall => k_is)
    (case ov_TooTall => kernel_rfl)
    (case hd_TooTall => k_is)
    (case sa_TooTall => k_is)
    (case ga_TooTall => k_is)
    (case gh_TooTall => k_is)
    (case ca_TooTall => k_is)
    (case mk_TooTall => first | k_is | kernel_rfl)
    (case kc_Side => k_is)
    (case pg_Side => k_is)
    (case hd_Side => k_is)
    (case po_Side => k_is)
    (case sa_Side => k_is)
    (case mk_Side => first | k_is | kernel_rfl)
    (case ca_Side => k_is)
    (case mo_Side => k_is)
    (case kc_LeftSide => k_is)
    (case pg_LeftSide => k_is)
    (case hd_LeftSide => k_is)
    (case po_LeftSide => k_is)
    (case sa_LeftSide => k_is)
    (case mk_LeftSide => first | k_is | kernel_rfl)
    (case ca_LeftSide => k_is)
    (case mo_LeftSide => k_is)
    (case a_LeftSide_init => k_is)
    (case kc_RightSide => k_is)
    (case pg_RightSide => k_is)
    (case hd_RightSide => k_is)
    (case po_RightSide => k_is)
    (case sa_RightSide => k_is)
    (case mk_RightSide => first | k_is | kernel_rfl)
    (case ca_RightSide => k_is)
    (case mo_RightSide => k_is)
    (case a_RightSide_init => k_is)
    (case kc_Picture => k_is)
    (case pg_Picture => k_is)
    (case hd_Picture => k_is)
    (case po_Picture => k_is)
    (case sa_Picture => k_is)
    (case mk_Picture => first | k_is | kernel_rfl)
    (case ca_Picture => k_is)
    (case mo_Picture => k_is)
    (case cg => k_is)
    (case ct => k_is)
    (case n_Picture_height => k_is)
    (case n_Picture_width => k_is)
    (case n_Picture_placed => k_is)
    (case n_Picture_opened => k_is)
    (case n_TooTall_side => k_is)
    (case n_Side_width => k_is)
    (case n_LeftSide_width => k_is)
    (case n_RightSide_width => k_is)
    (case n_abs => k_is)
    (case n_bool => k_is)
    (case n_dict => k_is)
    (case n_int => k_is)
    (case n_isinstance => k_is)
    (case n_len => k_is)
    (case n_list => k_is)
    (case n_min => k_is)
    (case n_range => k_is)
    (case n_sorted => k_is)
    (case n_str => k_is)
    (case n_sum => k_is)
    (case n_tuple => k_is)
    (case n_zip => k_is)
    (case mro_TooTall => k_is)
    (case v_MOST_ROWS => k_is)
    (case v_MOST_COLUMNS => k_is)
    (case v_MOST_POINTS => k_is)
    (case g_MIRRORED_SIDES => k_is)
    (case l_MIRRORED_SIDES => first | k_is | kernel_rfl)
    (case ns_MIRRORED_SIDES => kernel_rfl)
    (case v_FARTHEST => k_is)
