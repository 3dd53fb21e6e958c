import PyProof.Rows.All
import Wide.All
import OpenK.AllK
import Wide.FinOn
import Lean
import PyProof.EqAt
import PyProof.EqKinds
import PyProof.TupleCall
import PyProof.StationsW
import PyProof.ExcClass2
import PyProof.RulesAs
import PyProof.ExcBaseAll.ValueError
import OpenK.KDescr
import OpenK.KWalk
import PyProof.ExcAttrAll.ValueError
import PyProof.Comp
import PyProof.ListRange
import PyProof.DictItems
import KE.KPairComp
import KE.KDictOf
import PyProof.AttrMissHeap
import PyProof.Rows.Range3
import KE.KRevIter
import PyProof.ZipIter
import OpenK.KEqL
import PyProof.AutoListH
import PyProof.EnumMake
import PyProof.WalksEnum
import PyProof.NeKinds
import PyProof.MaxThree
import KE.KSortTup
import PyProof.StrLawsIn
import PySem.Challenge.RW_rimnotes_k06_what_a_point_may_have
set_option Elab.async false
set_option linter.all false
set_option maxRecDepth 100000
set_option maxHeartbeats 4000000
set_option maxRecDepth 100000
namespace L2
open PySem PySem.Spec PyProof.Rows
variable {q0:Bool}
abbrev Key:=Sum Int Str
def xec:Key→Value→Bool
  | .inl k,v=>Value.isInt k v
  | .inr x,v=>Value.isStrOf x v
def keyH (w:World):Key→Int
  | .inl k=>hashInt k
  | .inr x=>hashStr w x
theorem xbc:∀ {k:Key} {v:Value},xec k v = true→(∃ i t,k = Sum.inl i∧v = Value.int i t)∨(∃ x t,k = Sum.inr x∧v = Value.str x t)
  | .inl i,v,h=>by
    obtain ⟨t,e⟩:=Value.isInt_shape (k:=i) (v:=v) h
    exact .inl ⟨i,t,rfl,e⟩
  | .inr x,v,h=>by
    obtain ⟨t,e⟩:=Value.isStrOf_shape (x:=x) (v:=v) h
    exact .inr ⟨x,t,rfl,e⟩
theorem xj9 (i:Int) (t:Tok):xec (.inl i) (.int i t) = true:=by simp [xec,Value.isInt]
theorem xkl (x:Str) (t:Tok):xec (.inr x) (.str x t) = true:=by simp [xec,Value.isStrOf]
theorem xoo (a b:Int):decide ((Sum.inl a:Key) = Sum.inl b) = (a == b):=by
  by_cases e:a = b
  · subst e; simp
  · have h:¬ (Sum.inl a:Key) = Sum.inl b:=fun q=>e (Sum.inl.inj q)
    rw [decide_eq_false h]
    exact (beq_eq_false_iff_ne.mpr e).symm
theorem xov (a b:Str):decide ((Sum.inr a:Key) = Sum.inr b) = decide (a = b):=by
  by_cases e:a = b
  · subst e; simp
  · have h:¬ (Sum.inr a:Key) = Sum.inr b:=fun q=>e (Sum.inr.inj q)
    rw [decide_eq_false h,decide_eq_false e]
theorem xon (a:Int) (b:Str):decide ((Sum.inl a:Key) = Sum.inr b) = false:=decide_eq_false (fun q=>nomatch q)
theorem xos (a:Str) (b:Int):decide ((Sum.inr a:Key) = Sum.inl b) = false:=decide_eq_false (fun q=>nomatch q)
def xa5 (prog:Program) (w:World):PySem.KeyKind prog w Key where
  is:=xec
  hash:=keyH w
  inj:=fun v a b ha hb=>by
    rcases xbc ha with ⟨i,t,rfl,rfl⟩ | ⟨x,t,rfl,rfl⟩
    · rcases xbc hb with ⟨j,u,rfl,e⟩ | ⟨y,u,rfl,e⟩
      · injection e with e1 _; rw [e1]
      · exact nomatch e
    · rcases xbc hb with ⟨j,u,rfl,e⟩ | ⟨y,u,rfl,e⟩
      · exact nomatch e
      · injection e with e1 _; rw [e1]
  byValue:=fun k v h=>by
    rcases xbc h with ⟨i,t,rfl,rfl⟩ | ⟨x,t,rfl,rfl⟩ <;> rfl
  pyHash:=fun hv h=>by
    rcases xbc hv with ⟨i,t,rfl,rfl⟩ | ⟨x,t,rfl,rfl⟩
    · exact wpAny_pyHash_int h
    · exact wpAny_pyHash_str h
  eqBool:=fun hu hv h=>by
    rcases xbc hu with ⟨i,t,rfl,rfl⟩ | ⟨x,t,rfl,rfl⟩
    · rcases xbc hv with ⟨j,u,rfl,rfl⟩ | ⟨y,u,rfl,rfl⟩
      · rw [xoo] at h; exact wpAny_eqBool_int h
      · rw [xon] at h; exact SeqAt.EqAt.int_str i t y u _ _ _ _ h
    · rcases xbc hv with ⟨j,u,rfl,rfl⟩ | ⟨y,u,rfl,rfl⟩
      · rw [xos] at h; exact SeqAt.EqAt.str_int x t j u _ _ _ _ h
      · rw [xov] at h; exact wpAny_eqBool_str h
  «strs»:=fun k x t v h=>by
    rcases xbc h with ⟨i,u,rfl,e⟩ | ⟨y,u,rfl,e⟩
    · exact nomatch e
    · injection e with e1 _
      subst e1
      cases v <;> rfl
theorem xh7 (prog:Program) (w:World) (i:Int) (t:Tok):(xa5 prog w).is (.inl i) (.int i t) = true:=xj9 i t
theorem xh6 (prog:Program) (w:World) (x:Str) (t:Tok):(xa5 prog w).is (.inr x) (.str x t) = true:=xkl x t
end L2
namespace L2
open PySem PySem.Spec PyProof.Rows
variable {q0:Bool}
inductive V where
  | non | bl (b:Bool) | int (i:Int) | str (x:Str) | byt (b:Array UInt8) | flt (b:UInt64) | ref (a:Addr) | ty (n:String)
  deriving DecidableEq
def RelV:V→Value→Prop
  | .non,u=>u = Value.none
  | .bl b,u=>u = Value.bool b
  | .int i,u=>∃ t,u = Value.int i t
  | .str x,u=>∃ t,u = Value.str x t
  | .byt b,u=>∃ t,u = Value.bytes b t
  | .flt b,u=>∃ t,u = Value.float b t
  | .ref a,u=>u = Value.ref a
  | .ty n,u=>u = Value.type n
abbrev Vals:List V→List Value→Prop:=Paired RelV
theorem Vals.length {xs:List V} {us:List Value} (r:Vals xs us):xs.length = us.length:=Paired.length r
theorem Vals.get:∀ {xs:List V} {us:List Value} {i:Nat} {x:V},Vals xs us→xs[i]? = some x→∃ u,us[i]? = some u∧RelV x u
  | _,_,_,_,.nil,e=>by simp at e
  | _,_,0,_,.cons r _,e=>by simp at e; subst e; exact ⟨_,rfl,r⟩
  | _,_,i + 1,x,.cons _ t,e=>by
    obtain ⟨u,h1,h2⟩:=Vals.get (i:=i) (x:=x) t (by simpa using e)
    exact ⟨u,by simpa using h1,h2⟩
theorem Vals.set {x:V} {u:Value} (r:RelV x u):∀ {xs:List V} {us:List Value} (i:Nat),Vals xs us→Vals (xs.set i x) (us.set i u)
  | _,_,_,.nil=>.nil
  | _,_,0,.cons _ t=>.cons r t
  | _,_,i + 1,.cons q t=>.cons q (Vals.set r i t)
theorem Vals.append:∀ {xs ys:List V} {us ws:List Value},Vals xs us→Vals ys ws→Vals (xs ++ ys) (us ++ ws)
  | _,_,_,_,.nil,s=>s
  | _,_,_,_,.cons r t,s=>.cons r (Vals.append t s)
theorem Vals.take:∀ {xs:List V} {us:List Value} (n:Nat),Vals xs us→Vals (xs.take n) (us.take n)
  | _,_,0,_=>.nil
  | _,_,_ + 1,.nil=>.nil
  | _,_,n + 1,.cons r t=>.cons r (Vals.take n t)
theorem Vals.drop:∀ {xs:List V} {us:List Value} (n:Nat),Vals xs us→Vals (xs.drop n) (us.drop n)
  | _,_,0,r=>r
  | _,_,_ + 1,.nil=>.nil
  | _,_,n + 1,.cons _ t=>Vals.drop n t
def RelO:Option V→Option Value→Prop
  | some v,some u=>RelV v u
  | none,none=>True
  | _,_=>False
def KV {κ:Type}:List (κ × V)→List (κ × Value)→Prop:=Paired fun (p:κ × V) (q:κ × Value)=>p.1 = q.1∧RelV p.2 q.2
def kV:Key→V
  | .inl i=>.int i
  | .inr x=>.str x
inductive HO where
  /-- a list -/
  | lst (xs:List V)
  /-- a tuple (never changes) -/
  | tup (xs:List V)
  /-- a dict whose keys are ints and texts; one whose keys are tuples of ints and texts (the empty one is both) -/
  | dK (kvs:List (Key × V)) | dT (kvs:List (List Key × V))
  /-- a set of ints: its members,its size -/
  | set (S:Int→Bool) (n:Nat)
  /-- an instance of the class at C,its dict at dx,its attributes -/
  | ins (C dx:Addr) (fs:List (Str × V))
  /-- the dict of the instance at x -/
  | own (x:Addr)
  /-- the dict of an exception -/
  | xd (fs:List (Str × V))
  /-- a bound method,f of x -/
  | met (f x:Addr)
  /-- a range object lo,lo + 1,.. below hi -/
  | rng (lo hi:Int)
  /-- a thing that is known to the object (the script; a dict while a loop walks it): read,never written while it is so -/
  | frz (o:Obj) (u:HO)
  /-- a code object's table -/
  | tbl (ps:Array Value)
  /-- any other thing,by what is true of its one object (a def of one's own: SetO a S n:=HO.ext fun h=>..) -/
  | ext (φ:Heap→Prop)
abbrev Hp:=Addr→Option HO
def upd (H:Hp) (a:Addr) (o:HO):Hp:=fun b=>if b = a then some o else H b
theorem xg {H:Hp} {a:Addr} {o:HO}:upd H a o a = some o:=by unfold upd; rw [if_pos rfl]
theorem xm {H:Hp} {a b:Addr} {o:HO} (h:b≠a):upd H a o b = H b:=by unfold upd; rw [if_neg h]
theorem xf1 {H:Hp} {a:Addr} {o u:HO}:upd (upd H a o) a u = upd H a u:=by
  funext b; unfold upd; split <;> rfl
theorem xab {H:Hp} {a b:Addr} {o u:HO} (h:H a = some o) (h':H b = some u) (d:o≠u):a≠b:=by
  intro e; subst e; rw [h] at h'; exact d (Option.some.inj h')
theorem xp {H:Hp} {a b:Addr} {o:HO} (h:H a = some o) (h':H b = none):a≠b:=by
  intro e; subst e; rw [h] at h'; cases h'
section
variable (P:Program) (w:World)
def xa3 (H:Hp) (h:Heap) (a:Addr):HO→Prop
  | .lst xs=>xs.length≤sizeLine∧∃ (its:List Value) (n:Nat),Vals xs its∧h.get? a = some { cls:=.type "list",data:=.seq its.toArray n }
  | .tup xs=>xs.length≤sizeLine∧∃ its:List Value,Vals xs its∧IsTup h a its.toArray
  | .dK kvs=>kvs.length≤sizeLine∧(a == sysModules) = false∧∃ vs,KV kvs vs∧h.DictOf (xa5 P w) a vs
  | .dT kvs=>kvs.length≤sizeLine∧(a == sysModules) = false∧∃ xs:List (List Key × Addr × Value),
      Paired (fun (p:List Key × V) (q:List Key × Addr × Value)=>p.1 = q.1∧H q.2.1 = some (.tup (p.1.map kV))∧RelV p.2 q.2.2) kvs xs ∧
      ∃ o es ep,h.get? a = some o∧o.ExactDict∧o.data = .dict es ep∧es.toList = xs.map (entryOfKey (tupleKind (xa5 P w)))∧(xs.map (·.1)).Nodup
  | .set S n=>h.SetOf (intKind P w) a S n
  | .ins C dx fs=>H dx = some (.own a)∧fs.length≤1000∧dx≠a∧h.get? a = some (PySem.W.instObj C dx) ∧
      ∃ mA,h.Ns1 dx mA∧(∀ f,RelO (fs.lookup f) (mA f))∧PySem.Within mA (fs.map (·.1))
  | .own _=>∃ o,h.get? a = some o
  | .xd fs=>∃ mA,h.Ns1 a mA∧∀ f,RelO (fs.lookup f) (mA f)
  | .rng lo hi=>∃ t u v,h.get? a = some { cls:=.type "range",data:=.fields #[.int lo t,.int hi u,.int 1 v] }
  | .frz o u=>h.get? a = some o∧xa3 H h a u
  | .tbl ps=>h.get? a = some { cls:=.none,data:=.fields ps }
  | .met f x=>h.get? a = some (PySem.W.methodObj (.ref f) (.ref x))
  | .ext φ=>φ h∧(∃ o,h.get? a = some o)∧∀ h1 h2:Heap,φ h1→(∀ o,h1.get? a = some o→h2.get? a = some o)→φ h2
def HOk (H:Hp) (h:Heap):Prop:=∀ a o,H a = some o→xa3 P w H h a o
end
section
variable {P:Program} {w:World} {H H':Hp} {h h':Heap} {a:Addr} {o:HO}
theorem xa3.lt (x:xa3 P w H h a o):a < h.objs.size:=by
  cases o with
  | lst xs=>obtain ⟨_,_,_,_,e⟩:=x; exact Heap.lt_size e
  | tup xs=>obtain ⟨_,_,_,p⟩:=x; exact p.lt
  | dK kvs=>obtain ⟨_,_,_,_,o,_,_,e,_⟩:=x; exact Heap.lt_size e
  | dT kvs=>obtain ⟨_,_,_,_,o,_,_,e,_⟩:=x; exact Heap.lt_size e
  | set S n=>obtain ⟨o,_,_,_,e,_⟩:=x; exact Heap.lt_size e
  | ins C dx fs=>obtain ⟨_,_,_,e,_⟩:=x; exact Heap.lt_size e
  | own y=>obtain ⟨_,e⟩:=x; exact Heap.lt_size e
  | xd fs=>obtain ⟨_,⟨_,_,_,e,_⟩,_⟩:=x; exact Heap.lt_size e
  | rng lo hi=>obtain ⟨_,_,_,e⟩:=x; exact Heap.lt_size e
  | frz ob u=>obtain ⟨e,_⟩:=x; exact Heap.lt_size e
  | tbl ps=>exact Heap.lt_size (show h.get? a = some _ from x)
  | met f y=>exact Heap.lt_size (show h.get? a = some _ from x)
  | ext φ=>obtain ⟨_,⟨_,e⟩,_⟩:=x; exact Heap.lt_size e
theorem Paired.mapP {α β:Type} {F G:α→β→Prop}:∀ {l₁:List α} {l₂:List β},Paired F l₁ l₂→(∀ a b,F a b→G a b)→Paired G l₁ l₂
  | _,_,.nil,_=>.nil
  | _,_,.cons r t,f=>.cons (f _ _ r) (Paired.mapP t f)
theorem xa3.stay (x:xa3 P w H h a o) (k:∀ b u,(b = a∨H b = some (.own a))→h.get? b = some u→h'.get? b = some u)
    (ho:∀ b,H b = some (.own a)→H' b = some (.own a)) (ht:∀ b xs,H b = some (.tup xs)→H' b = some (.tup xs)):xa3 P w H' h' a o:=by
  induction o with
  | lst xs=>obtain ⟨z,its,n,r,e⟩:=x; exact ⟨z,its,n,r,k _ _ (.inl rfl) e⟩
  | tup xs=>obtain ⟨z,its,r,ob,e,c⟩:=x; exact ⟨z,its,r,ob,k _ _ (.inl rfl) e,c⟩
  | dK kvs=>obtain ⟨z,y,vs,r,ob,es,ep,e,c⟩:=x; exact ⟨z,y,vs,r,ob,es,ep,k _ _ (.inl rfl) e,c⟩
  | dT kvs =>
    obtain ⟨z,y,xs,r,ob,es,ep,e,c⟩:=x
    exact ⟨z,y,xs,Paired.mapP r fun p q z=>⟨z.1,ht _ _ z.2.1,z.2.2⟩,ob,es,ep,k _ _ (.inl rfl) e,c⟩
  | set S n=>obtain ⟨ob,es,ep,t,e,c⟩:=x; exact ⟨ob,es,ep,t,k _ _ (.inl rfl) e,c⟩
  | ins C dx fs =>
    obtain ⟨d,z,ne,e,mA,⟨od,es,ep,e2,c⟩,r⟩:=x
    exact ⟨ho _ d,z,ne,k _ _ (.inl rfl) e,mA,⟨od,es,ep,k _ _ (.inr d) e2,c⟩,r⟩
  | own y=>obtain ⟨ob,e⟩:=x; exact ⟨ob,k _ _ (.inl rfl) e⟩
  | xd fs=>obtain ⟨mA,⟨od,es,ep,e,c⟩,r⟩:=x; exact ⟨mA,⟨od,es,ep,k _ _ (.inl rfl) e,c⟩,r⟩
  | rng lo hi=>obtain ⟨t,u,v,e⟩:=x; exact ⟨t,u,v,k _ _ (.inl rfl) e⟩
  | frz ob u ih=>obtain ⟨e,q⟩:=x; exact ⟨k _ _ (.inl rfl) e,ih q⟩
  | tbl ps =>
    have e:h.get? a = some { cls:=.none,data:=.fields ps }:=x
    show h'.get? a = some { cls:=.none,data:=.fields ps }
    exact k a _ (.inl rfl) e
  | met f y =>
    have e:h.get? a = some (PySem.W.methodObj (.ref f) (.ref y)):=x
    show h'.get? a = some (PySem.W.methodObj (.ref f) (.ref y))
    exact k a _ (.inl rfl) e
  | ext φ=>obtain ⟨p,⟨o,e⟩,st⟩:=x; exact ⟨st _ _ p fun o q=>k _ _ (.inl rfl) q,⟨o,k _ _ (.inl rfl) e⟩,st⟩
theorem HOk.lt (x:HOk P w H h) (e:H a = some o):a < h.objs.size:=(x a o e).lt
theorem HOk.fresh (x:HOk P w H h) (e:h.objs.size≤a):H a = none:=by
  cases q:H a with
  | none=>rfl
  | some u=>exact absurd (Nat.lt_of_lt_of_le (x.lt q) e) (Nat.lt_irrefl _)
theorem HOk.kept (x:HOk P w H h) (k:∀ b u,h.get? b = some u→h'.get? b = some u):HOk P w H h':=fun a o e =>
  (x a o e).stay (fun b u _ q=>k b u q) (fun _ q=>q) fun _ _ q=>q
theorem HOk.laid (x:HOk P w H h) (k:∀ b u,h.get? b = some u→h'.get? b = some u) (hp:h.objs.size≤a) (new:xa3 P w (upd H a o) h' a o):HOk P w (upd H a o) h':=fun b u e=>by
  have hn:=x.fresh hp
  by_cases hb:b = a
  · subst hb; rw [xg] at e; cases e; exact new
  · rw [xm hb] at e
    exact (x b u e).stay (fun c v _ q=>k c v q) (fun c q=>by rw [xm (xp q hn)]; exact q) fun c xs q=>by rw [xm (xp q hn)]; exact q
end
def Rd (H:Hp) (a:Addr) (u:HO):Prop:=H a = some u∨∃ o,H a = some (.frz o u)
theorem Rd.ok {P:Program} {w:World} {H:Hp} {h:Heap} {a:Addr} {u:HO} (r:Rd H a u) (x:HOk P w H h):xa3 P w H h a u:=by
  rcases r with r | ⟨o,r⟩
  · exact x a u r
  · obtain ⟨_,q⟩:=x a _ r
    exact q
def Mut:Option HO→Prop
  | some (.lst _)=>True
  | some (.dK _)=>True
  | some (.dT _)=>True
  | some (.set _ _)=>True
  | some (.ins _ _ _)=>True
  | some (.ext _)=>True
  | _=>False
section
variable {P:Program} {w:World} {H:Hp} {h h':Heap} {x e:Addr} {o':HO}
theorem HOk.write (ok:HOk P w H h) (mu:Mut (H x)) (he:e = x∨H e = some (.own x)) (k:∀ b u,b≠e→h.get? b = some u→h'.get? b = some u) (heo:∃ u,h'.get? e = some u)
    (new:xa3 P w (upd H x o') h' x o'):HOk P w (upd H x o') h':=fun b u q=>by
  have nown:∀ c y,H c = some (.own y)→c≠x:=fun c y r z=>by subst z; rw [r] at mu; exact mu
  have ntup:∀ c xs,H c = some (.tup xs)→c≠x:=fun c xs r z=>by subst z; rw [r] at mu; exact mu
  by_cases hb:b = x
  · subst hb; rw [xg] at q; cases q; exact new
  · rw [xm hb] at q
    by_cases hbe:b = e
    · have q':H b = some (.own x):=by
        rcases he with z | z
        · exact absurd (hbe.trans z) hb
        · rw [hbe]; exact z
      rw [q] at q'; cases q'
      obtain ⟨v,hv⟩:=heo
      exact ⟨v,by rw [hbe]; exact hv⟩
    · refine (ok b u q).stay (fun c v hc r=>k c v ?_ r) (fun c r=>by rw [xm (nown c b r)]; exact r) fun c xs r=>by rw [xm (ntup c xs r)]; exact r
      rcases hc with rfl | hc
      · exact hbe
      · rintro rfl
        rcases he with z | z
        · exact nown c b hc z
        · rw [hc] at z; cases z; exact hb rfl
end
structure Un (fs ex:List Addr) (H H':Hp) (h h':Heap):Prop where
  keep:∀ b o,h.get? b = some o→H b = none→b ∉ fs→b ∉ ex→h'.get? b = some o
  slot:∀ b o,h.get? b = some o→H b = none→b ∈ fs→b ∉ ex→∃ sl,h'.get? b = some { o with slots:=sl }
  free:∀ b o,h.get? b = some o→H b = none→b ∉ ex→H' b = none
  there:∀ b o,h.get? b = some o→b ∉ ex→∃ o',h'.get? b = some o'
  tups:∀ b xs,H b = some (.tup xs)→H' b = some (.tup xs)
  frzs:∀ b o u,H b = some (.frz o u)→H' b = some (.frz o u)
  tbls:∀ b ps,H b = some (.tbl ps)→∃ more,H' b = some (.tbl (ps ++ more))
section
variable {fs fs' ex ex':List Addr} {H H1 H2:Hp} {h h1 h2 h':Heap} {a x e:Addr} {o:HO}
theorem Un.any (u:Un fs ex H H1 h h1) {b:Addr} {ob:Obj} (q:h.get? b = some ob) (n:H b = none) (hx:b ∉ ex):∃ sl,h1.get? b = some { ob with slots:=sl }:=by
  by_cases hb:b ∈ fs
  · exact u.slot b ob q n hb hx
  · exact ⟨ob.slots,u.keep b ob q n hb hx⟩
theorem Un.kept (k:∀ b u,h.get? b = some u→h'.get? b = some u):Un fs ex H H h h' :=
  ⟨fun b ob q _ _ _=>k b ob q,fun b ob q _ _ _=>⟨ob.slots,k b ob q⟩,fun _ _ _ n _=>n,fun b ob q _=>⟨ob,k b ob q⟩,fun _ _ q=>q,fun _ _ _ q=>q,fun _ ps q=>⟨#[],by rw [q]; simp⟩⟩
theorem Un.refl:Un fs ex H H h h:=Un.kept fun _ _ q=>q
theorem Un.laid (k:∀ b u,h.get? b = some u→h'.get? b = some u) (hp:h.objs.size≤a) (hn:H a = none):Un fs ex H (upd H a o) h h' where
  keep:=fun b u q _ _ _=>k b u q
  slot:=fun b u q _ _ _=>⟨u.slots,k b u q⟩
  free:=fun b u q n _=>by rw [xm (Nat.ne_of_lt (Nat.lt_of_lt_of_le (Heap.lt_size q) hp))]; exact n
  there:=fun b u q _=>⟨u,k b u q⟩
  tups:=fun b xs q=>by rw [xm (xp q hn)]; exact q
  frzs:=fun b u xs q=>by rw [xm (xp q hn)]; exact q
  tbls:=fun b ps q=>⟨#[],by rw [xm (xp q hn),q]; simp⟩
theorem Un.write (mu:Mut (H x)) (he:e = x∨H e = some (.own x)) (k:∀ b u,b≠e→h.get? b = some u→h'.get? b = some u) (heo:∃ u,h'.get? e = some u):Un fs ex H (upd H x o) h h':=by
  have hx:∀ b,H b = none→b≠x:=fun b n z=>by subst z; rw [n] at mu; exact mu
  have hb:∀ b,H b = none→b≠e:=fun b n z=>by
    subst z
    rcases he with r | r
    · exact hx b n r
    · rw [n] at r; cases r
  have hm:∀ b u,H b = some u→¬ Mut (some u)→b≠x:=fun b u q nm z=>by subst z; rw [q] at mu; exact nm mu
  refine ⟨fun b u q n _ _=>k b u (hb b n) q,fun b u q n _ _=>⟨u.slots,k b u (hb b n) q⟩,fun b u q n _=>by rw [xm (hx b n)]; exact n,fun b u q _=>?_,
    fun b xs q=>by rw [xm (hm b _ q fun z=>z)]; exact q,fun b u xs q=>by rw [xm (hm b _ q fun z=>z)]; exact q,fun b ps q=>⟨#[],by rw [xm (hm b _ q fun z=>z),q]; simp⟩⟩
  by_cases hbe:b = e
  · subst hbe; exact heo
  · exact ⟨u,k b u hbe q⟩
end
def trk (h:Heap) (H:Hp):List Addr:=(List.range h.objs.size).filter fun a=>(H a).isSome
def hidT (h:Heap) (H:Hp):Heap:=PySem.W.hideAll h (trk h H)
theorem xk3 (h:Heap) (H:Hp):(hidT h H).objs.size = h.objs.size:=PySem.W.hideAll_size _ _
theorem xlg {h:Heap} {H:Hp} {b:Addr} {o:Obj} (e:h.get? b = some o) (n:H b = none):(hidT h H).get? b = some o :=
  PySem.W.hideAll_get _ e fun hm=>by
    have q:(H b).isSome = true:=(List.mem_filter.mp hm).2
    rw [n] at q; simp at q
theorem xnc {h:Heap} {H:Hp} {b:Addr} {o:Obj} (e:(hidT h H).get? b = some o):h.get? b = some o∧H b = none:=by
  have e':h.get? b = some o:=PySem.W.of_hideAll (trk h H) e
  refine ⟨e',?_⟩
  cases q:H b with
  | none=>rfl
  | some x =>
    have hm:b ∈ trk h H:=List.mem_filter.mpr ⟨List.mem_range.mpr (Heap.lt_size e'),by simp [q]⟩
    have z:(hidT h H).get? b = none:=PySem.W.hideAll_none (trk h H) hm
    rw [z] at e; cases e
def xni (g h:Heap) (L:Addr):List (Addr × Obj):=(List.range h.objs.size).filterMap fun a=>if a = L∨(g.get? a).isSome = true then none else (h.get? a).map fun o=>(a,o)
def rest (g h:Heap) (L d:Addr):List (Addr × Obj):=(xni g h L).filter fun p=>decide (p.1≠d)
end L2
namespace L2
open PySem PySem.Spec PyProof.Rows
variable {q0:Bool}
structure Mod (K:PySem.W.Frag) (mg:Str→Option Value) (base:Heap):Prop where
  kin:K.In base
  glob:base.Ns mainGlobals mg
  blt:∃ mb,base.Ns builtinsNs mb∧∀ x:Str,x≠"__name__"→mb x = bootBuiltins x
  nolimit:base.NoLimit
structure Cx where
  prog:Program
  w:World
  K:PySem.W.Frag
  mg:Str→Option Value
  base:Heap
  A:Around
  N:List Str
  s₀:Shared
  H₀:Hp
  env:Env
  outer:List Env
  stack:List Env
  ex:List Addr
  fn:Str→Bool
  calm:Bool
  pn:List (Addr × Obj)
  xe:Value→Shared→Prop
def frs (l:List Env):List Addr:=l.filterMap (·.frame)
abbrev Cx.fs (X:Cx):List Addr:=frs X.outer
def Vis (sc:Scope) (x:Str):Prop:=sc.names.lookup x = some .local∨sc.names.lookup x = some .cell∨sc.names.lookup x = some .free
def Loc (sc:Scope) (x:Str):Prop:=sc.names.lookup x = some .local∨sc.names.lookup x = some .cell
def Look (env:Env) (h:Heap) (m:Str→Option Value) (x:Str) (u:Value):Prop :=
  (env.kindOf x = some .local∧m x = some u)∨((env.kindOf x = some .cell∨env.kindOf x = some .free)∧∃ c,env.cells.lookup x = some c∧h.IsCell c (some u))
structure Cx.Ok (X:Cx):Prop where
  mod:Mod X.K X.mg X.base
  kind:X.env.scope.kind = .function
  glob:X.env.globals = mainGlobals
  blt:X.env.builtins = builtinsNs
  above:X.s₀.heap.objs.size≤X.env.locals
  inj:∀ x y c,X.env.cells.lookup x = some c→X.env.cells.lookup y = some c→x = y
  has:∀ x,(X.env.kindOf x = some .cell∨X.env.kindOf x = some .free)→∃ c,X.env.cells.lookup x = some c
  cab:∀ x c,X.fn x = true→X.env.cells.lookup x = some c→X.s₀.heap.objs.size≤c
  hd:X.calm = true→X.A.handled = none
  frames:X.A.frames = some X.stack
  stk:X.stack = X.outer∨(X.stack = X.env :: X.outer∧X.env.frame = some X.env.locals)
  exf:∀ b ∈ X.ex,b≠X.env.locals∧∀ x c,X.env.cells.lookup x = some c→c≠b
  bs:∀ b o,X.base.get? b = some o→X.s₀.heap.get? b = some o∧X.H₀ b = none
  bsz:X.base.objs.size≤X.s₀.heap.objs.size
  noex:∀ b o,X.base.get? b = some o→b ∉ X.ex
  exfs:∀ b ∈ X.ex,b ∉ X.fs
  funs:X.s₀.heap.FunFrames X.base X.outer
  frf:∀ b ∈ X.fs,X.H₀ b = none
structure Inv (X:Cx) (pins:List (Addr × Obj)) (σ:List (Option V)) (H:Hp) (s:Shared):Prop where
  ok:X.Ok
  os:s.os = X.s₀.os
  bare:AllBare s.gens
  base:Un X.fs X.ex X.H₀ H X.s₀.heap s.heap
  loc:∃ m,s.heap.Ns X.env.locals m∧∀ (i:Nat) (x:Str) (v:V),X.N[i]? = some x→σ[i]? = some (some v)→Vis X.env.scope x→∃ u,RelV v u∧Look X.env s.heap m x u
  cell:∀ x c,X.env.cells.lookup x = some c→∃ v,s.heap.IsCell c v
  free:H X.env.locals = none
  freeC:∀ x c,X.env.cells.lookup x = some c→H c = none
  pin:∀ p ∈ X.pn ++ pins,s.heap.get? p.1 = some p.2∧H p.1 = none∧p.1≠X.env.locals∧p.1 ∉ X.fs∧∀ v,p.2.data≠.cell v
  hok:HOk X.prog X.w H s.heap
  len:σ.length = X.N.length
section
variable {X:Cx} {pins:List (Addr × Obj)} {σ:List (Option V)} {H H':Hp} {s:Shared} {h':Heap}
theorem Cx.Ok.nofr (ok:X.Ok) {b:Addr} {o:Obj} (e:X.base.get? b = some o):b ∉ X.fs:=fun hb=>by
  have:=(ok.funs.mem hb).1
  rw [e] at this; cases this
theorem Inv.bs (I:Inv X pins σ H s):∀ b o,X.base.get? b = some o→s.heap.get? b = some o∧H b = none:=fun b o e =>
  ⟨I.base.keep b o (I.ok.bs b o e).1 (I.ok.bs b o e).2 (I.ok.nofr e) (I.ok.noex b o e),I.base.free b o (I.ok.bs b o e).1 (I.ok.bs b o e).2 (I.ok.noex b o e)⟩
theorem Inv.bk (I:Inv X pins σ H s):∀ b o,X.base.get? b = some o→s.heap.get? b = some o:=fun b o e=>(I.bs b o e).1
theorem Inv.mod (I:Inv X pins σ H s):Mod X.K X.mg X.base:=I.ok.mod
theorem Inv.kIn (I:Inv X pins σ H s):X.K.In s.heap:=I.ok.mod.kin.keeps I.bk
theorem Inv.fr (I:Inv X pins σ H s):∃ m,Fr X.base X.env.locals s.heap m :=
  let ⟨m,hn,_⟩:=I.loc
  ⟨m,hn,I.bk,Nat.le_trans I.ok.bsz I.ok.above⟩
theorem Inv.lt (I:Inv X pins σ H s):X.env.locals < s.heap.objs.size:=let ⟨_,hn,_⟩:=I.loc; hn.lt
theorem Inv.sz (I:Inv X pins σ H s):X.s₀.heap.objs.size≤s.heap.objs.size:=Nat.le_trans I.ok.above (Nat.le_of_lt I.lt)
theorem Inv.nofs (I:Inv X pins σ H s) {a:Addr} (h:s.heap.objs.size≤a):a ∉ X.fs:=fun hb=>by
  obtain ⟨_,o,ho,_⟩:=I.ok.funs.mem hb
  exact absurd (Nat.lt_of_lt_of_le (Heap.lt_size ho) (Nat.le_trans I.sz h)) (Nat.lt_irrefl _)
theorem Inv.cne (I:Inv X pins σ H s):∀ x c,X.env.cells.lookup x = some c→c≠X.env.locals:=fun x c e z=>by
  obtain ⟨v,o,ho,hd⟩:=I.cell x c e
  obtain ⟨m,⟨o',es,ep,ho',hd',_⟩,_⟩:=I.loc
  rw [z,ho'] at ho; cases ho; rw [hd'] at hd; cases hd
theorem Inv.funs (I:Inv X pins σ H s):s.heap.FunFrames X.base X.outer:=by
  have all:∀ (l:List Env),(∀ b ∈ frs l,b ∈ X.fs)→X.s₀.heap.FunFrames X.base l→s.heap.FunFrames X.base l:=by
    intro l
    induction l with
    | nil=>intro _ _; trivial
    | cons env r ih =>
      intro hs hl
      obtain ⟨hk,⟨L,o,hf,hn,ho,hd⟩,hr⟩:=hl
      have hL:L ∈ X.fs:=hs L (by unfold frs; rw [List.filterMap_cons,hf]; exact List.mem_cons_self)
      obtain ⟨sl,e⟩:=I.base.slot L o ho (I.ok.frf L hL) hL fun z=>I.ok.exfs L z hL
      exact ⟨hk,⟨L,_,hf,hn,e,hd⟩,ih (fun b hb=>hs b (by unfold frs; rw [List.filterMap_cons,hf]; exact List.mem_cons_of_mem _ hb)) hr⟩
  exact all X.outer (fun _ hb=>hb) I.ok.funs
theorem Inv.stack (I:Inv X pins σ H s):s.heap.FunFrames X.base X.stack:=by
  rcases I.ok.stk with e | ⟨e,hf⟩
  · rw [e]; exact I.funs
  · rw [e]
    obtain ⟨m,hn,_⟩:=I.loc
    refine .cons (by rw [I.ok.kind]; decide) hf hn ?_ I.funs
    exact Heap.get?_none_of_le (Nat.le_trans I.ok.bsz I.ok.above)
theorem Inv.stkSub (I:Inv X pins σ H s):∀ b ∈ frs X.stack,b ∈ X.env.locals :: X.fs:=fun b hb=>by
  rcases I.ok.stk with e | ⟨e,hf⟩
  · rw [e] at hb; exact List.mem_cons_of_mem _ hb
  · rw [e] at hb
    unfold frs at hb
    rw [List.filterMap_cons,hf] at hb
    exact hb
theorem Inv.stkFree (I:Inv X pins σ H s):∀ b ∈ frs X.stack,H b = none:=fun b hb=>by
  rcases List.mem_cons.mp (I.stkSub b hb) with e | hb
  · rw [e]; exact I.free
  · obtain ⟨_,o,ho,_⟩:=I.ok.funs.mem hb
    exact I.base.free b o ho (I.ok.frf b hb) fun z=>I.ok.exfs b z hb
theorem Inv.step {g':Array GenState} {t':Nat} {d':Drawn} {ch:List Addr} (I:Inv X pins σ H s)
    (hch:∀ b ∈ ch,(b ∈ X.ex∨X.s₀.heap.objs.size≤b)∧b≠X.env.locals∧(∀ x c,X.env.cells.lookup x = some c→c≠b)∧∀ p ∈ X.pn ++ pins,p.1≠b)
    (keep:∀ b o,b≠X.env.locals→b ∉ X.fs→b ∉ ch→s.heap.get? b = some o→H b = none→h'.get? b = some o)
    (slot:∀ b o,b≠X.env.locals→b ∈ X.fs→b ∉ ch→s.heap.get? b = some o→H b = none→∃ sl,h'.get? b = some { o with slots:=sl }) (free:∀ b o,b ∉ ch→s.heap.get? b = some o→H b = none→H' b = none)
    (there:∀ b o,b ∉ ch→s.heap.get? b = some o→∃ o',h'.get? b = some o')
    (tups:∀ b xs,H b = some (.tup xs)→H' b = some (.tup xs)) (frzs:∀ b o u,H b = some (.frz o u)→H' b = some (.frz o u)) (tbls:∀ b ps,H b = some (.tbl ps)→∃ more,H' b = some (.tbl (ps ++ more)))
    (ns:∀ m,s.heap.Ns X.env.locals m→h'.Ns X.env.locals m) (hok:HOk X.prog X.w H' h') (hg:AllBare g') :
    Inv X pins σ H' { s with heap:=h',gens:=g',drawn:=d',toks:=t' }:=by
  have neL:∀ b o,X.s₀.heap.get? b = some o→b≠X.env.locals:=fun b o e=>Nat.ne_of_lt (Nat.lt_of_lt_of_le (Heap.lt_size e) I.ok.above)
  have neC:∀ b o,X.s₀.heap.get? b = some o→b ∉ X.ex→b ∉ ch:=fun b o e hx hb=>by
    rcases (hch b hb).1 with z | z
    · exact hx z
    · exact absurd (Nat.lt_of_lt_of_le (Heap.lt_size e) z) (Nat.lt_irrefl _)
  have cellK:∀ x c,X.env.cells.lookup x = some c→∀ v,s.heap.IsCell c v→h'.IsCell c v:=fun x c e v ⟨o,ho,hd⟩=>by
    have nch:c ∉ ch:=fun z=>(hch c z).2.2.1 x c e rfl
    by_cases hc:c ∈ X.fs
    · obtain ⟨sl,q⟩:=slot c o (I.cne x c e) hc nch ho (I.freeC x c e)
      exact ⟨_,q,hd⟩
    · exact ⟨o,keep c o (I.cne x c e) hc nch ho (I.freeC x c e),hd⟩
  refine ⟨I.ok,I.os,hg,⟨fun b o e n hb hx=>?_,fun b o e n hb hx=>?_,fun b o e n hx=>?_,fun b o e hx=>?_,fun b xs e=>tups b xs (I.base.tups b xs e),fun b o xs e=>frzs b o xs (I.base.frzs b o xs e),fun b ps e=>?_⟩,?_,fun x c e=>?_,?_,fun x c e=>?_,fun p hp=>?_,hok,I.len⟩
  · exact keep b o (neL b o e) hb (neC b o e hx) (I.base.keep b o e n hb hx) (I.base.free b o e n hx)
  · obtain ⟨sl,e1⟩:=I.base.slot b o e n hb hx
    obtain ⟨sl',e2⟩:=slot b _ (neL b o e) hb (neC b o e hx) e1 (I.base.free b o e n hx)
    exact ⟨sl',e2⟩
  · obtain ⟨o',e1⟩:=I.base.there b o e hx
    exact free b o' (neC b o e hx) e1 (I.base.free b o e n hx)
  · obtain ⟨o',e1⟩:=I.base.there b o e hx
    exact there b o' (neC b o e hx) e1
  · obtain ⟨m1,e1⟩:=I.base.tbls b ps e
    obtain ⟨m2,e2⟩:=tbls b _ e1
    exact ⟨m1 ++ m2,by rw [e2,Array.append_assoc]⟩
  · obtain ⟨m,hn,hl⟩:=I.loc
    refine ⟨m,ns m hn,fun i x v e1 e2 e3=>?_⟩
    obtain ⟨u,r,l⟩:=hl i x v e1 e2 e3
    refine ⟨u,r,?_⟩
    rcases l with l | ⟨k,c,e,z⟩
    · exact .inl l
    · exact .inr ⟨k,c,e,cellK x c e _ z⟩
  · obtain ⟨v,z⟩:=I.cell x c e
    exact ⟨v,cellK x c e v z⟩
  · obtain ⟨m,⟨o,_,_,ho,_⟩,_⟩:=I.loc
    exact free _ o (fun z=>(hch _ z).2.1 rfl) ho I.free
  · obtain ⟨v,o,ho,hd⟩:=I.cell x c e
    exact free c o (fun z=>(hch c z).2.2.1 x c e rfl) ho (I.freeC x c e)
  · obtain ⟨e,n,ne,nf,d⟩:=I.pin p hp
    have nch:p.1 ∉ ch:=fun z=>(hch p.1 z).2.2.2 p hp rfl
    exact ⟨keep p.1 p.2 ne nf nch e n,free p.1 p.2 nch e n,ne,nf,d⟩
theorem Inv.un {t':Nat} (I:Inv X pins σ H s) (u:Un X.fs [] H H' s.heap h') (hok:HOk X.prog X.w H' h'):Inv X pins σ H' { s with heap:=h',toks:=t' }:=by
  obtain ⟨m,⟨o,es,ep,ho,r⟩,_⟩:=id I.loc
  obtain ⟨sl,hL⟩:=u.any ho I.free (by simp)
  exact I.step (g':=s.gens) (d':=s.drawn) (ch:=[]) (fun _ z=>nomatch z) (fun b o _ hb _ e n=>u.keep b o e n hb (by simp)) (fun b o _ hb _ e n=>u.slot b o e n hb (by simp)) (fun b o _ e n=>u.free b o e n (by simp)) (fun b o _ e=>u.there b o e (by simp)) u.tups u.frzs u.tbls (fun m' hm=>by
    obtain ⟨o',es',ep',ho',r'⟩:=hm
    rw [ho] at ho'; cases ho'
    exact ⟨_,es',ep',hL,r'⟩) hok I.bare
theorem Inv.call {g':Array GenState} {t':Nat} {d':Drawn} {ch:List Addr} (I:Inv X pins σ H s) (u:Un (frs X.stack) ch H H' s.heap h') (hok:HOk X.prog X.w H' h') (hg:AllBare g')
    (hch:∀ b ∈ ch,(b ∈ X.ex∨X.s₀.heap.objs.size≤b)∧b≠X.env.locals∧(∀ x c,X.env.cells.lookup x = some c→c≠b)∧∀ p ∈ X.pn ++ pins,p.1≠b) :
    Inv X pins σ H' { s with heap:=h',gens:=g',drawn:=d',toks:=t' }:=by
  obtain ⟨m,⟨o,es,ep,ho,r⟩,_⟩:=id I.loc
  obtain ⟨sl,hL⟩:=u.any ho I.free fun z=>(hch _ z).2.1 rfl
  exact I.step (ch:=ch) hch (fun b o hL hb hc e n=>u.keep b o e n (fun z=>(List.mem_cons.mp (I.stkSub b z)).elim hL hb) hc) (fun b o _ _ hc e n=>u.any e n hc) (fun b o hc e n=>u.free b o e n hc) (fun b o hc e=>u.there b o e hc) u.tups u.frzs u.tbls (fun m' hm=>by
    obtain ⟨o',es',ep',ho',r'⟩:=hm
    rw [ho] at ho'; cases ho'
    exact ⟨_,es',ep',hL,r'⟩) hok hg
theorem Inv.turned {t':Nat} {it:Addr} (I:Inv X pins σ H s) (k:∀ b o,b≠it→s.heap.get? b = some o→h'.get? b = some o) (hn:H it = none) (hL:it≠X.env.locals)
    (h1:it ∈ X.ex∨X.s₀.heap.objs.size≤it) (h2:∀ x c,X.env.cells.lookup x = some c→c≠it) (h3:∀ p ∈ X.pn ++ pins,p.1≠it):Inv X pins σ H { s with heap:=h',toks:=t' }:=by
  have nit:∀ b u,H b = some u→b≠it:=fun b u e z=>by rw [z,hn] at e; cases e
  refine I.step (g':=s.gens) (d':=s.drawn) (ch:=[it]) (fun b hb=>?_) (fun b o _ _ hc e _=>k b o (fun z=>hc (by simp [z])) e) (fun b o _ _ hc e _=>⟨o.slots,k b o (fun z=>hc (by simp [z])) e⟩) (fun _ _ _ _ n=>n)
    (fun b o hc e=>⟨o,k b o (fun z=>hc (by simp [z])) e⟩) (fun _ _ e=>e) (fun _ _ _ e=>e) (fun b ps e=>⟨#[],by rw [e]; simp⟩) (fun m hm=>?_) (fun b u e=>?_) I.bare
  · have e:b = it:=by simpa using hb
    subst e
    exact ⟨h1,hL,h2,h3⟩
  · obtain ⟨o,es,ep,ho,r⟩:=hm
    exact ⟨o,es,ep,k _ o (Ne.symm hL) ho,r⟩
  · refine (I.hok b u e).stay (fun c v hc q=>k c v ?_ q) (fun _ q=>q) fun _ _ q=>q
    rcases hc with z | z
    · rw [z]; exact nit b u e
    · exact nit c _ z
theorem Inv.tok (I:Inv X pins σ H s) (t:Nat):Inv X pins σ H { s with toks:=t }:=I.un (h':=s.heap) (t':=t) Un.refl I.hok
theorem Inv.kept {t':Nat} (I:Inv X pins σ H s) (k:∀ b u,s.heap.get? b = some u→h'.get? b = some u):Inv X pins σ H { s with heap:=h',toks:=t' }:=I.un (Un.kept k) (I.hok.kept k)
theorem Inv.laid {a:Addr} {o:HO} {t':Nat} (I:Inv X pins σ H s) (k:∀ b u,s.heap.get? b = some u→h'.get? b = some u) (hp:s.heap.objs.size≤a) (new:xa3 X.prog X.w (upd H a o) h' a o) :
    Inv X pins σ (upd H a o) { s with heap:=h',toks:=t' }:=I.un (Un.laid k hp (I.hok.fresh hp)) (I.hok.laid k hp new)
theorem Inv.write {x e:Addr} {o:HO} {t':Nat} (I:Inv X pins σ H s) (mu:Mut (H x)) (he:e = x∨H e = some (.own x)) (k:∀ b u,b≠e→s.heap.get? b = some u→h'.get? b = some u) (heo:∃ u,h'.get? e = some u)
    (new:xa3 X.prog X.w (upd H x o) h' x o):Inv X pins σ (upd H x o) { s with heap:=h',toks:=t' }:=I.un (Un.write mu he k heo) (I.hok.write mu he k heo new)
theorem Inv.weak {σ':List (Option V)} (I:Inv X pins σ H s) (hl:σ'.length = σ.length) (w:∀ (i:Nat) v,σ'[i]? = some (some v)→σ[i]? = some (some v)):Inv X pins σ' H s :=
  ⟨I.ok,I.os,I.bare,I.base,let ⟨m,hn,hl'⟩:=I.loc; ⟨m,hn,fun i x v e1 e2 e3=>hl' i x v e1 (w i v e2) e3⟩,I.cell,I.free,I.freeC,I.pin,I.hok,hl.trans I.len⟩
theorem Inv.pins_of {pins':List (Addr × Obj)} (I:Inv X pins σ H s) (h:∀ p ∈ pins',s.heap.get? p.1 = some p.2∧H p.1 = none∧p.1≠X.env.locals∧p.1 ∉ X.fs∧∀ v,p.2.data≠.cell v):Inv X pins' σ H s :=
  ⟨I.ok,I.os,I.bare,I.base,I.loc,I.cell,I.free,I.freeC,fun p hp=>(List.mem_append.mp hp).elim (fun z=>I.pin p (List.mem_append_left _ z)) (h p),I.hok,I.len⟩
theorem xfi {N:List Str} (hN:N.Nodup) {i j:Nat} {x:Str} (a:N[i]? = some x) (b:N[j]? = some x):i = j:=by
  obtain ⟨h1,e1⟩:=List.getElem?_eq_some_iff.mp a
  obtain ⟨h2,e2⟩:=List.getElem?_eq_some_iff.mp b
  exact (List.getElem_inj hN).mp (e1.trans e2.symm)
theorem xgo {M:Model} {A:Around} {E:Value→Shared→Prop} {i:Nat} {x:Str} {v:V} {u:Value} {Q:Unit→Shared→Prop} (I:Inv X pins σ H s) (hN:X.N.Nodup) (hi:X.N[i]? = some x) (hx:Loc X.env.scope x) (r:RelV v u)
    (h:∀ s',Inv X pins (σ.set i (some v)) H s'→(∃ a,Heap.SameBut a s.heap s'.heap∧(a = X.env.locals∨X.env.cells.lookup x = some a))→Q () s') (hf:X.fn x = true∨X.env.scope.names.lookup x = some .local:=by first | exact .inl rfl | exact .inr rfl | assumption):wpAny M A (storeName X.env x u) Q E s:=by
  obtain ⟨m,hn,hl⟩:=id I.loc
  have hcls:(X.env.scope.kind == .class || (X.env.scope.kind == .module && X.env.locals != X.env.globals)) = false:=by rw [I.ok.kind]; rfl
  have hiσ:i < σ.length:=by rw [I.len]; exact (List.getElem?_eq_some_iff.mp hi).1
  have cne:=I.cne
  have tracked:∀ {a:Addr} {h':Heap},(∃ o,s.heap.get? a = some o∧H a = none)→Heap.SameBut a s.heap h'→HOk X.prog X.w H h':=fun {a h'} ha hs b ob e=>by
    obtain ⟨_,_,hfree⟩:=ha
    refine (I.hok b ob e).stay (fun c w' hc q=>(hs.2 c ?_).trans q) (fun _ q=>q) fun _ _ q=>q
    rintro rfl
    rcases hc with rfl | hc
    · rw [hfree] at e; cases e
    · rw [hfree] at hc; cases hc
  rcases hx with hk | hk
  · refine wpAny_storeName_local hk hn (fun h' hn' hs=>?_) hcls
    obtain ⟨oL,_,_,hoL,_⟩:=id hn
    refine h _ ⟨I.ok,I.os,I.bare,⟨fun b o e n hb hx=>?_,fun b o e n hb hx=>?_,I.base.free,fun b o e hx=>?_,I.base.tups,I.base.frzs,I.base.tbls⟩,⟨_,hn',fun j y v' e1 e2 e3=>?_⟩,fun y c e=>?_,I.free,I.freeC,fun p hp=>?_,tracked ⟨oL,hoL,I.free⟩ hs,by simpa using I.len⟩ ⟨_,hs,.inl rfl⟩
    · exact (hs.2 b (Nat.ne_of_lt (Nat.lt_of_lt_of_le (Heap.lt_size e) I.ok.above))).trans (I.base.keep b o e n hb hx)
    · obtain ⟨sl,e1⟩:=I.base.slot b o e n hb hx
      exact ⟨sl,(hs.2 b (Nat.ne_of_lt (Nat.lt_of_lt_of_le (Heap.lt_size e) I.ok.above))).trans e1⟩
    · obtain ⟨o',e1⟩:=I.base.there b o e hx
      exact ⟨o',(hs.2 b (Nat.ne_of_lt (Nat.lt_of_lt_of_le (Heap.lt_size e) I.ok.above))).trans e1⟩
    · by_cases hj:j = i
      · subst hj
        rw [hi] at e1; cases e1
        rw [List.getElem?_set_self hiσ] at e2
        cases e2
        exact ⟨u,r,.inl ⟨hk,by simp⟩⟩
      · rw [List.getElem?_set_ne (Ne.symm hj)] at e2
        obtain ⟨u',r',q⟩:=hl j y v' e1 e2 e3
        refine ⟨u',r',?_⟩
        rcases q with ⟨k,e⟩ | ⟨k,c,e,z⟩
        · refine .inl ⟨k,?_⟩
          have:y≠x:=fun e=>hj (xfi hN e1 (e ▸ hi))
          simp [this,e]
        · exact .inr ⟨k,c,e,z.sameBut hs (cne y c e)⟩
    · obtain ⟨w',z⟩:=I.cell y c e
      exact ⟨w',z.sameBut hs (cne y c e)⟩
    · obtain ⟨e,n,ne,nf,d⟩:=I.pin p hp
      exact ⟨(hs.2 p.1 ne).trans e,n,ne,nf,d⟩
  · have hfn:X.fn x = true:=by
      rcases hf with z | z
      · exact z
      · rw [z] at hk; cases hk
    obtain ⟨c,hc⟩:=I.ok.has x (.inl hk)
    obtain ⟨w',z⟩:=I.cell x c hc
    refine wpAny_storeName_cell I.ok.kind hk hc z (fun h' hc' hs=>?_)
    obtain ⟨oc,hoc,hocd⟩:=id z
    refine h { s with heap:=h' } ⟨I.ok,I.os,I.bare,⟨fun b o e n hb hx=>?_,fun b o e n hb hx=>?_,I.base.free,fun b o e hx=>?_,I.base.tups,I.base.frzs,I.base.tbls⟩,⟨m,hn.sameBut hs (Ne.symm (cne x c hc)),fun j y v' e1 e2 e3=>?_⟩,fun y c' e=>?_,I.free,I.freeC,fun p hp=>?_,tracked ⟨oc,hoc,I.freeC x c hc⟩ hs,by simpa using I.len⟩ ⟨c,hs,.inr hc⟩
    · exact (hs.2 b (Nat.ne_of_lt (Nat.lt_of_lt_of_le (Heap.lt_size e) (I.ok.cab x c hfn hc)))).trans (I.base.keep b o e n hb hx)
    · obtain ⟨sl,e1⟩:=I.base.slot b o e n hb hx
      exact ⟨sl,(hs.2 b (Nat.ne_of_lt (Nat.lt_of_lt_of_le (Heap.lt_size e) (I.ok.cab x c hfn hc)))).trans e1⟩
    · obtain ⟨o',e1⟩:=I.base.there b o e hx
      exact ⟨o',(hs.2 b (Nat.ne_of_lt (Nat.lt_of_lt_of_le (Heap.lt_size e) (I.ok.cab x c hfn hc)))).trans e1⟩
    · by_cases hj:j = i
      · subst hj
        rw [hi] at e1; cases e1
        rw [List.getElem?_set_self hiσ] at e2
        cases e2
        exact ⟨u,r,.inr ⟨.inl hk,c,hc,hc'⟩⟩
      · rw [List.getElem?_set_ne (Ne.symm hj)] at e2
        obtain ⟨u',r',q⟩:=hl j y v' e1 e2 e3
        refine ⟨u',r',?_⟩
        rcases q with q | ⟨k,c',e,z'⟩
        · exact .inl q
        · refine .inr ⟨k,c',e,z'.sameBut hs ?_⟩
          rintro rfl
          exact hj (xfi hN e1 (I.ok.inj _ _ _ e hc ▸ hi))
    · by_cases hcc:c' = c
      · subst hcc; exact ⟨_,hc'⟩
      · obtain ⟨w2,z2⟩:=I.cell y c' e
        exact ⟨w2,z2.sameBut hs hcc⟩
    · obtain ⟨e,n,ne,nf,d⟩:=I.pin p hp
      refine ⟨(hs.2 p.1 ?_).trans e,n,ne,nf,d⟩
      intro q
      rw [q,hoc] at e
      have q':oc = p.2:=Option.some.inj e
      exact d w' (by rw [← q']; exact hocd)
theorem xe6 {M:Model} {A:Around} {E:Value→Shared→Prop} {i:Nat} {x:Str} {v:V} {u:Value} {Q:Unit→Shared→Prop} (I:Inv X pins σ H s) (hN:X.N.Nodup) (hi:X.N[i]? = some x) (hx:Loc X.env.scope x) (r:RelV v u)
    (h:∀ s',Inv X pins (σ.set i (some v)) H s'→Q () s') (hf:X.fn x = true∨X.env.scope.names.lookup x = some .local:=by first | exact .inl rfl | exact .inr rfl | assumption):wpAny M A (storeName X.env x u) Q E s :=
  xgo I hN hi hx r (fun s' I' _=>h s' I') hf
theorem Inv.call' {s':Shared} {ch:List Addr} (I:Inv X pins σ H s) (ho:s'.os = s.os) (u:Un (frs X.stack) ch H H' s.heap s'.heap) (hok:HOk X.prog X.w H' s'.heap) (hg:AllBare s'.gens)
    (hch:∀ b ∈ ch,(b ∈ X.ex∨X.s₀.heap.objs.size≤b)∧b≠X.env.locals∧(∀ x c,X.env.cells.lookup x = some c→c≠b)∧∀ p ∈ X.pn ++ pins,p.1≠b):Inv X pins σ H' s':=by
  obtain ⟨h',g',d',t',o'⟩:=s'
  have e:o' = s.os:=ho
  subst e
  exact I.call (g':=g') (t':=t') (d':=d') u hok hg hch
end
abbrev XK:=Addr→Addr→Hp→Prop
abbrev St:=List (Option V)
abbrev VK:=V→Hp→Prop
abbrev TE:=St→Hp→VK→Prop
abbrev TT:=St→Hp→(Bool→Hp→Prop)→Prop
abbrev TA:=St→Hp→(List V→Hp→Prop)→Prop
structure Ends where
  nx:St→Hp→Prop
  rt:VK
  bk:St→Hp→Prop:=fun _ _=>False
  ct:St→Hp→Prop:=fun _ _=>False
abbrev TS:=Ends→St→Hp→Prop
def EP (X:Cx) (pins:List (Addr × Obj)) (σ:St) (Q:VK) (u:Value) (s':Shared):Prop:=∃ v H',Inv X pins σ H' s'∧RelV v u∧Q v H'
def TP (X:Cx) (pins:List (Addr × Obj)) (σ:St) (Q:Bool→Hp→Prop) (b:Bool) (s':Shared):Prop:=∃ H',Inv X pins σ H' s'∧Q b H'
def AP (X:Cx) (pins:List (Addr × Obj)) (σ:St) (Q:List V→Hp→Prop) (us:List Value) (s':Shared):Prop:=∃ vs H',Inv X pins σ H' s'∧Vals vs us∧Q vs H'
def SP (X:Cx) (pins:List (Addr × Obj)) (D:Ends) (f:Flow) (s':Shared):Prop :=
  match f with
  | .next=>∃ σ' H',Inv X pins σ' H' s'∧D.nx σ' H'
  | .brk=>∃ σ' H',Inv X pins σ' H' s'∧D.bk σ' H'
  | .cont=>∃ σ' H',Inv X pins σ' H' s'∧D.ct σ' H'
  | .ret u=>∃ v σ' H',Inv X pins σ' H' s'∧RelV v u∧D.rt v H'
def PE (X:Cx) (e:Expr) (t:TE):Prop :=
  ∀ (pins:List (Addr × Obj)) (s:Shared) (σ:St) (H:Hp) (Q:VK),Inv X pins σ H s→t σ H Q→wpAny (model X.prog X.w) X.A (eval e X.env) (EP X pins σ Q) X.xe s
def PT (X:Cx) (e:Expr) (t:TT):Prop :=
  ∀ (pins:List (Addr × Obj)) (s:Shared) (σ:St) (H:Hp) (Q:Bool→Hp→Prop),Inv X pins σ H s→t σ H Q→wpAny (model X.prog X.w) X.A (isTrue e X.env (eval e X.env)) (TP X pins σ Q) X.xe s
def PW (X:Cx) (e:Expr) (t:TT):Prop :=
  ∀ (whole:Sem Value) (pins:List (Addr × Obj)) (s:Shared) (σ:St) (H:Hp) (Q:Bool→Hp→Prop),Inv X pins σ H s→t σ H Q→wpAny (model X.prog X.w) X.A (isTrue e X.env whole) (TP X pins σ Q) X.xe s
theorem PW.pt {X:Cx} {e:Expr} {t:TT} (h:PW X e t):PT X e t:=h _
def PA (X:Cx) (es:List Expr) (t:TA):Prop :=
  ∀ (pos:Pos) (pins:List (Addr × Obj)) (s:Shared) (σ:St) (H:Hp) (Q:List V→Hp→Prop),Inv X pins σ H s→t σ H Q→wpAny (model X.prog X.w) X.A (spliced (backTo pos (starEach es X.env))) (AP X pins σ Q) X.xe s
def PS (X:Cx) (st:Stmt) (t:TS):Prop :=
  ∀ (pins:List (Addr × Obj)) (s:Shared) (σ:St) (H:Hp) (D:Ends),Inv X pins σ H s→t D σ H→wpAny (model X.prog X.w) X.A (exec st X.env) (SP X pins D) X.xe s
def PSs (X:Cx) (st:List Stmt) (t:TS):Prop :=
  ∀ (pins:List (Addr × Obj)) (s:Shared) (σ:St) (H:Hp) (D:Ends),Inv X pins σ H s→t D σ H→wpAny (model X.prog X.w) X.A (execs st X.env) (SP X pins D) X.xe s
theorem thn {α:Type} {t:Sem α} {Q Q':α→Shared→Prop} {M:Model} {A:Around} {E:Value→Shared→Prop} {s:Shared} (h:wpAny M A t Q E s) (hQ:∀ a s,Q a s→Q' a s):wpAny M A t Q' E s:=wpAny_mono h hQ fun _ _ x=>x
end L2
namespace L2
open PySem PySem.Spec PyProof.Rows
variable {q0:Bool}
section
variable {X:Cx}
def tVar (i:Nat):TE:=fun σ H Q=>∃ v,σ[i]? = some (some v)∧Q v H
def tC (v:V):TE:=fun _ H Q=>Q v H
theorem xog {i:Nat} {x:Str} {pos:Pos} (hN:X.N[i]? = some x) (hv:Vis X.env.scope x) (hd:(x == ("__debug__":Str)) = false:=by decide) (hcd:(x == ("__classdict__":Str)) = false:=by decide):PE X (.Name x pos) (tVar i):=by
  intro pins s σ H Q I h
  obtain ⟨v,e,h⟩:=h
  obtain ⟨m,hn,hl⟩:=I.loc
  obtain ⟨u,r,l⟩:=hl i x v hN e hv
  have fin:EP X pins σ Q u s:=⟨v,H,I,r,h⟩
  rcases l with ⟨hk,hm⟩ | ⟨hk,c,hc,hcell⟩
  · exact wpAny_Name (wpAny_loadName_local I.ok.kind hk hn hm fin) hd
  · rcases hk with hk | hk
    · exact wpAny_Name (wpAny_loadName_cell I.ok.kind hk hc hcell fin) hd
    · exact wpAny_Name (wpAny_loadName_free I.ok.kind hk hc hcell fin hcd) hd
theorem xi {i j pos}:PE X (.Constant (.int i) j pos) (tC (.int i)):=fun _ _ _ H _ I h=>wpAny_Constant_int ⟨.int i,H,I.tok _,⟨_,rfl⟩,h⟩
theorem xeg {b j pos}:PE X (.Constant (.bool b) j pos) (tC (.bl b)):=fun _ _ _ H _ I h=>Constant_bool ⟨.bl b,H,I,rfl,h⟩
theorem xck {j pos}:PE X (.Constant .none j pos) (tC .non):=fun _ _ _ H _ I h=>Constant_none ⟨.non,H,I,rfl,h⟩
theorem x9 {x j pos}:PE X (.Constant (.str x) j pos) (tC (.str x)):=fun _ _ _ H _ I h=>Calls.Constant_str ⟨.str x,H,I.tok _,⟨_,rfl⟩,h⟩
def Gl (X:Cx) (x:Str):Prop:=X.env.kindOf x = some .globalImplicit
theorem xdz {E:Value→Shared→Prop} {pins:List (Addr × Obj)} {s:Shared} {σ:St} {H:Hp} {x:Str} {u:Value} {pos:Pos} {Q:Value→Shared→Prop} (I:Inv X pins σ H s) (hg:Gl X x) (hm:X.mg x = some u) (h:Q u s)
    (hd:(x == ("__debug__":Str)) = false:=by decide):wpAny (model X.prog X.w) X.A (eval (.Name x pos) X.env) Q E s :=
  Calls.Name_function_global I.ok.kind hg (Calls.loadGlobal_global (by rw [I.ok.glob]; exact I.mod.glob.keeps I.bk) hm h) hd
theorem xd2 {E:Value→Shared→Prop} {pins:List (Addr × Obj)} {s:Shared} {σ:St} {H:Hp} {x:Str} {u:Value} {pos:Pos} {Q:Value→Shared→Prop} (I:Inv X pins σ H s) (hg:Gl X x) (hm:X.mg x = none) (hv:bootBuiltins x = some u) (h:Q u s)
    (hn:x≠"__name__":=by decide) (hd:(x == ("__debug__":Str)) = false:=by decide):wpAny (model X.prog X.w) X.A (eval (.Name x pos) X.env) Q E s:=by
  obtain ⟨mb,h1,h2⟩:=I.mod.blt
  exact Calls.Name_function_global I.ok.kind hg (Calls.loadGlobal_builtin (by rw [I.ok.glob]; exact I.mod.glob.keeps I.bk) hm (by rw [I.ok.blt]; exact h1.keeps I.bk) ((h2 x hn).trans hv) h) hd
theorem xaz {x:Str} {v:V} {u:Value} {pos:Pos} (hg:Gl X x) (hm:X.mg x = some u) (r:RelV v u) (hd:(x == ("__debug__":Str)) = false:=by decide):PE X (.Name x pos) (tC v) :=
  fun _ _ _ H _ I h=>xdz I hg hm ⟨v,H,I,r,h⟩ hd
theorem xbj {x:Str} {v:V} {u:Value} {pos:Pos} (hg:Gl X x) (hm:X.mg x = none) (hv:bootBuiltins x = some u) (r:RelV v u) (hn:x≠"__name__":=by decide) (hd:(x == ("__debug__":Str)) = false:=by decide):PE X (.Name x pos) (tC v) :=
  fun _ _ _ H _ I h=>xd2 I hg hm hv ⟨v,H,I,r,h⟩ hn hd
variable {a b:Expr} {ta tb:TE} {pos:Pos}
def PC (X:Cx) (op:CmpOp) (a b:Expr) (t:TE):Prop :=
  ∀ (pins:List (Addr × Obj)) (s:Shared) (σ:St) (H:Hp) (Q:VK),Inv X pins σ H s→t σ H Q →
    wpAny (model X.prog X.w) X.A (eval a X.env) (fun v s₁=>wpAny (model X.prog X.w) X.A (eval b X.env) (fun u s₂=>wpAny (model X.prog X.w) X.A (compareOp op v u) (EP X pins σ Q) X.xe s₂) X.xe s₁) X.xe s
theorem xhe (b:Expr) {op:CmpOp} (h:op≠.In) (h2:op≠.NotIn):behindInMarks op b = false:=by
  have e1:(op == CmpOp.In) = false:=by cases op <;> first | rfl | exact absurd rfl h
  have e2:(op == CmpOp.NotIn) = false:=by cases op <;> first | rfl | exact absurd rfl h2
  cases b <;> simp [behindInMarks,e1,e2]
def tB (t:TE):TT:=fun σ H Q=>t σ H fun x H1=>∃ c,x = .bl c∧Q c H1
theorem xnz {op:CmpOp} {t:TE} (h:PC X op a b t) (h1:behindInMarks op b = false:=by first | exact xhe _ (by decide) (by decide) | rfl):PE X (.Compare a [op] [b] pos) t:=fun pins s σ H Q I hw=>wpAny_Compare1 (h pins s σ H Q I hw) h1
theorem xei {op:CmpOp} {t:TE} (h:PC X op a b t) (h1:behindInMarks op b = false:=by first | exact xhe _ (by decide) (by decide) | rfl):PT X (.Compare a [op] [b] pos) (tB t):=by
  intro pins s σ H Q I hw
  refine wpAny_isTrue_Compare1 (thn (h pins s σ H _ I hw) fun v s1 h1=>thn h1 fun u s2 h2=>thn h2 fun c s3 ⟨x,H1,I1,r1,q1⟩=>?_) h1
  obtain ⟨d,rfl,q⟩:=q1
  cases r1
  exact wpAny_truthy_bool ⟨H1,I1,q⟩
theorem xan {e:Expr} {t:TE} (h:PE X e t) (he:∀ whole,isTrue e X.env whole = (do let v ← whole; standAt e.pos; holding [v] (truthy v)):=by intro _; rfl):PT X e (tB t):=by
  intro pins s σ H Q I hw
  refine isTrue_plain (thn (h pins s σ H _ I hw) fun v s1 ⟨x,H1,I1,r1,q1⟩=>?_) (he _)
  obtain ⟨d,rfl,q⟩:=q1
  cases r1
  exact wpAny_truthy_bool ⟨H1,I1,q⟩
variable {tA tB':TT} {rest:List Expr}
def tAnd (t u:TT):TT:=fun σ H Q=>t σ H fun c H1=>if c = true then u σ H1 Q else Q false H1
def tOr (t u:TT):TT:=fun σ H Q=>t σ H fun c H1=>if c = true then Q true H1 else u σ H1 Q
def tNot (t:TT):TT:=fun σ H Q=>t σ H fun c H1=>Q (!c) H1
theorem xir (ha:PT X a tA):PW X (.BoolOp .And [a] pos) tA:=by
  intro wh pins s σ H Q I h
  refine isTrue_and (thn (ha pins s σ H Q I h) fun c s1 e=>?_)
  cases c with
  | true=>exact isTrue_and_nil e
  | false=>exact e
theorem xb5 (ha:PT X a tA):PW X (.BoolOp .Or [a] pos) tA:=by
  intro wh pins s σ H Q I h
  refine isTrue_or (thn (ha pins s σ H Q I h) fun c s1 e=>?_)
  cases c with
  | false=>exact isTrue_or_nil e
  | true=>exact e
theorem xku (ha:PT X a tA) (hb:PW X (.BoolOp .And (b :: rest) pos) tB'):PW X (.BoolOp .And (a :: b :: rest) pos) (tAnd tA tB'):=by
  intro wh pins s σ H Q I h
  refine isTrue_and (thn (ha pins s σ H _ I h) fun c s1 ⟨H1,I1,q1⟩=>?_)
  cases c with
  | true=>exact hb wh pins s1 σ H1 Q I1 q1
  | false=>exact ⟨H1,I1,q1⟩
theorem xcp (ha:PT X a tA) (hb:PW X (.BoolOp .Or (b :: rest) pos) tB'):PW X (.BoolOp .Or (a :: b :: rest) pos) (tOr tA tB'):=by
  intro wh pins s σ H Q I h
  refine isTrue_or (thn (ha pins s σ H _ I h) fun c s1 ⟨H1,I1,q1⟩=>?_)
  cases c with
  | true=>exact ⟨H1,I1,q1⟩
  | false=>exact hb wh pins s1 σ H1 Q I1 q1
theorem xbd (ha:PT X a tA):PT X (.UnaryOp .Not a pos) (tNot tA):=by
  intro pins s σ H Q I h
  exact isTrue_not (ha pins s σ H (fun c H1=>Q (!c) H1) I h)
def xqb (ta tb:TE):TE:=fun σ H Q=>ta σ H fun x H1=>∃ c,x = .bl c∧if c = true then tb σ H1 Q else Q (.bl false) H1
def xpi (ta:TE):TE:=fun σ H Q=>ta σ H fun x H1=>∃ c,x = .bl c∧Q (.bl (!c)) H1
theorem xb0 {op} {t:TE} (h:PE X a t):PE X (.BoolOp op [a] pos) t:=fun pins s σ H Q I hw=>BoolOp_one (h pins s σ H Q I hw)
theorem xbl (ha:PE X a ta) (hb:PE X (.BoolOp .And (b :: rest) pos) tb):PE X (.BoolOp .And (a :: b :: rest) pos) (xqb ta tb):=by
  intro pins s σ H Q I h
  refine BoolOp_and (thn (ha pins s σ H _ I h) fun v s1 ⟨x,H1,I1,r1,q1⟩=>?_)
  obtain ⟨c,rfl,q1⟩:=q1
  cases r1
  refine wpAny_truthy_bool ?_
  cases c with
  | true=>exact hb pins s1 σ H1 Q I1 q1
  | false=>exact ⟨.bl false,H1,I1,rfl,q1⟩
theorem xhy (ha:PE X a ta):PE X (.UnaryOp .Not a pos) (xpi ta):=by
  intro pins s σ H Q I h
  refine UnaryOp_ (thn (ha pins s σ H _ I h) fun v s1 ⟨x,H1,I1,r1,q1⟩=>?_)
  obtain ⟨c,rfl,q1⟩:=q1
  cases r1
  exact not_of (wpAny_truthy_bool ⟨.bl (!c),H1,I1,rfl,q1⟩)
def tIf (t:TT) (ta tb:TE):TE:=fun σ H Q=>t σ H fun c H1=>if c = true then ta σ H1 Q else tb σ H1 Q
theorem xld {c:Expr} (hc:PT X c tA) (ha:PE X a ta) (hb:PE X b tb):PE X (.IfExp c a b pos) (tIf tA ta tb):=by
  intro pins s σ H Q I h
  refine wpAny_IfExp (thn (hc pins s σ H _ I h) fun d s1 ⟨H1,I1,q1⟩=>?_)
  cases d with
  | true=>exact ha pins s1 σ H1 Q I1 q1
  | false=>exact hb pins s1 σ H1 Q I1 q1
end
end L2
namespace L2
open PySem PySem.Spec PyProof.Rows
variable {q0:Bool}
def SqL (K:PySem.W.Frag) (H:Hp) (a:Addr) (xs:List V):Prop :=
  Rd H a (.lst xs) ∨
    ∃ (o:Obj) (its:Array Value) (n:Nat),K.lookup a = some o∧o.cls = .type "list"∧o.dict = none∧o.data = .seq its n∧its.size≤sizeLine∧Vals xs its.toList
def SqT (K:PySem.W.Frag) (H:Hp) (a:Addr) (xs:List V):Prop :=
  Rd H a (.tup xs) ∨
    ∃ (o:Obj) (its:Array Value) (n:Nat),K.lookup a = some o∧o.cls = .type "tuple"∧o.data = .seq its n∧its.size≤sizeLine∧Vals xs its.toList
def absV:Value→Option V
  | .none=>some .non
  | .bool b=>some (.bl b)
  | .int i _=>some (.int i)
  | .str x _=>some (.str x)
  | .bytes b _=>some (.byt b)
  | .float b _=>some (.flt b)
  | .ref a=>some (.ref a)
  | .type n=>some (.ty n)
  | _=>none
theorem RelV.abs {x:V} {u:Value} (r:RelV x u):absV u = some x:=by
  cases x with
  | non=>cases r; rfl
  | bl _=>cases r; rfl
  | int _=>obtain ⟨t,rfl⟩:=r; rfl
  | str _=>obtain ⟨t,rfl⟩:=r; rfl
  | byt _=>obtain ⟨t,rfl⟩:=r; rfl
  | flt _=>obtain ⟨t,rfl⟩:=r; rfl
  | ref _=>cases r; rfl
  | ty _=>cases r; rfl
theorem RelV.inj {x y:V} {u:Value} (r:RelV x u) (q:RelV y u):x = y:=Option.some.inj (r.abs.symm.trans q.abs)
theorem Vals.inj:∀ {xs ys:List V} {us:List Value},Vals xs us→Vals ys us→xs = ys
  | _,_,_,.nil,.nil=>rfl
  | _,_,_,.cons r t,.cons r' t'=>by rw [r.inj r',Vals.inj t t']
section
variable {X:Cx} {pins:List (Addr × Obj)} {σ:St} {H:Hp} {s:Shared} {a:Addr} {xs ys:List V}
theorem SqL.of {K:PySem.W.Frag} (h:H a = some (.lst xs)):SqL K H a xs:=.inl (.inl h)
theorem SqT.of {K:PySem.W.Frag} (h:H a = some (.tup xs)):SqT K H a xs:=.inl (.inl h)
theorem Inv.list (I:Inv X pins σ H s) (h:SqL X.K H a xs):∃ its:List Value,Vals xs its∧PlainL s.heap a its.toArray∧xs.length≤sizeLine:=by
  rcases h with h | ⟨o,its,n,hk,hc,hd,hs,hz,r⟩
  · obtain ⟨z,its,n,r,e⟩:=h.ok I.hok
    exact ⟨its,r,⟨_,n,e,rfl,rfl,rfl⟩,z⟩
  · refine ⟨its.toList,r,⟨o,n,I.kIn a o hk,hc,hd,by simpa using hs⟩,?_⟩
    have e:=r.length
    simp only [Array.length_toList] at e
    omega
theorem Inv.tuple (I:Inv X pins σ H s) (h:SqT X.K H a xs):∃ its:List Value,Vals xs its∧IsTup s.heap a its.toArray∧xs.length≤sizeLine:=by
  rcases h with h | ⟨o,its,n,hk,hc,hs,hz,r⟩
  · obtain ⟨z,its,r,p⟩:=h.ok I.hok
    exact ⟨its,r,p,z⟩
  · refine ⟨its.toList,r,⟨o,I.kIn a o hk,hc,n,by simpa using hs⟩,?_⟩
    have e:=r.length
    simp only [Array.length_toList] at e
    omega
theorem Inv.list_inj (I:Inv X pins σ H s) (h:SqL X.K H a xs) (h':SqL X.K H a ys):xs = ys:=by
  obtain ⟨its,r,⟨o,n,e,_,_,d⟩,_⟩:=I.list h
  obtain ⟨its',r',⟨o',n',e',_,_,d'⟩,_⟩:=I.list h'
  rw [e] at e'; cases e'
  rw [d] at d'
  injection d' with d1 _
  have:its = its':=by simpa using congrArg Array.toList d1
  subst this
  exact r.inj r'
theorem Inv.tuple_inj (I:Inv X pins σ H s) (h:SqT X.K H a xs) (h':SqT X.K H a ys):xs = ys:=by
  obtain ⟨its,r,⟨o,e,_,n,d⟩,_⟩:=I.tuple h
  obtain ⟨its',r',⟨o',e',_,n',d'⟩,_⟩:=I.tuple h'
  rw [e] at e'; cases e'
  rw [d] at d'
  injection d' with d1 _
  have:its = its':=by simpa using congrArg Array.toList d1
  subst this
  exact r.inj r'
end
abbrev Cx.wish (X:Cx) (E:Value→Shared→Prop):Cx:={ X with xe:=E }
abbrev Cx.nox (X:Cx):Cx:=X.wish fun _ _=>False
theorem Cx.Ok.wish {X:Cx} (ok:X.Ok) (E:Value→Shared→Prop):(X.wish E).Ok :=
  ⟨ok.mod,ok.kind,ok.glob,ok.blt,ok.above,ok.inj,ok.has,ok.cab,ok.hd,ok.frames,ok.stk,ok.exf,ok.bs,ok.bsz,ok.noex,ok.exfs,ok.funs,ok.frf⟩
theorem Cx.Ok.unwish {X:Cx} {E:Value→Shared→Prop} (ok:(X.wish E).Ok):X.Ok :=
  ⟨ok.mod,ok.kind,ok.glob,ok.blt,ok.above,ok.inj,ok.has,ok.cab,ok.hd,ok.frames,ok.stk,ok.exf,ok.bs,ok.bsz,ok.noex,ok.exfs,ok.funs,ok.frf⟩
section
variable {X:Cx} {pins:List (Addr × Obj)} {σ:St} {H:Hp} {s:Shared} {E:Value→Shared→Prop}
theorem Inv.wish (I:Inv X pins σ H s) (E:Value→Shared→Prop):Inv (X.wish E) pins σ H s:=⟨I.ok.wish E,I.os,I.bare,I.base,I.loc,I.cell,I.free,I.freeC,I.pin,I.hok,I.len⟩
theorem Inv.unwish (I:Inv (X.wish E) pins σ H s):Inv X pins σ H s:=⟨I.ok.unwish,I.os,I.bare,I.base,I.loc,I.cell,I.free,I.freeC,I.pin,I.hok,I.len⟩
theorem SP.unwish {D:Ends} {f:Flow} {s':Shared} (h:SP (X.wish E) pins D f s'):SP X pins D f s':=by
  cases f with
  | next=>obtain ⟨σ',H',I,q⟩:=h; exact ⟨σ',H',I.unwish,q⟩
  | brk=>obtain ⟨σ',H',I,q⟩:=h; exact ⟨σ',H',I.unwish,q⟩
  | cont=>obtain ⟨σ',H',I,q⟩:=h; exact ⟨σ',H',I.unwish,q⟩
  | ret u=>obtain ⟨v,σ',H',I,r,q⟩:=h; exact ⟨v,σ',H',I.unwish,r,q⟩
theorem PSs.nox {st:List Stmt} {t:TS} (h:PSs X.nox st t):PSs X st t:=fun pins s σ H D I hw =>
  wpAny_mono (h pins s σ H D (I.wish _) hw) (fun _ _ q=>q.unwish) fun _ _ z=>False.elim z
end
section
variable {X:Cx} {st:Stmt} {rest:List Stmt} {t u:TS} {e:Expr} {te:TE} {pos:Pos}
def xpv:TS:=fun D σ H=>D.nx σ H
def tSeq (t u:TS):TS:=fun D σ H=>t { D with nx:=u D } σ H
theorem xw:PSs X [] xpv:=fun _ _ σ H _ I h=>wpAny_execs_nil ⟨σ,H,I,h⟩
theorem xj (h1:PS X st t) (h2:PSs X rest u):PSs X (st :: rest) (tSeq t u):=by
  intro pins s σ H D I h
  refine wpAny_execs_cons (thn (h1 pins s σ H { D with nx:=u D } I h) fun f s1 q=>?_)
  cases f with
  | next =>
    obtain ⟨σ',H',I',q⟩:=q
    exact h2 pins s1 σ' H' D I' q
  | ret v=>exact q
  | brk=>exact q
  | cont=>exact q
theorem xn (h1:PS X st t):PSs X [st] t:=by
  intro pins s σ H D I h
  refine wpAny_execs_cons (thn (h1 pins s σ H D I h) fun f s1 q=>?_)
  cases f with
  | next=>exact wpAny_execs_nil q
  | ret v=>exact q
  | brk=>exact q
  | cont=>exact q
theorem Inv.quiet {pins:List (Addr × Obj)} {σ:St} {H:Hp} {s:Shared} (I:Inv X pins σ H s):interactive X.env = false:=by simp [interactive,I.ok.kind]
def xp1 (te:TE):TS:=fun D σ H=>te σ H fun _ H1=>D.nx σ H1
theorem xav (he:PE X e te) (hs:swapsWith e none pos.line X.env = pure false:=by rfl):PS X (.Expr e pos) (xp1 te):=by
  intro pins s σ H D I h
  exact wpAny_Expr_any (thn (he pins s σ H _ I h) fun v s1 ⟨x,H1,I1,r1,q1⟩=>⟨σ,H1,I1,q1⟩) I.quiet hs
def tRet (te:TE):TS:=fun D σ H=>te σ H D.rt
theorem xar (he:PE X e te):PS X (.Return (some e) pos) (tRet te):=by
  intro pins s σ H D I h
  exact wpAny_Return_some (thn (he pins s σ H _ I h) fun v s1 ⟨x,H1,I1,r1,q1⟩=>⟨x,σ,H1,I1,r1,q1⟩)
def tIfS (c:TT) (t u:TS):TS:=fun D σ H=>c σ H fun b H1=>if b = true then t D σ H1 else u D σ H1
theorem xaa {c:Expr} {a b:List Stmt} {tc:TT} (hc:PT X c tc) (ha:PSs X a t) (hb:PSs X b u):PS X (.If c a b pos) (tIfS tc t u):=by
  intro pins s σ H D I h
  refine wpAny_If (thn (hc pins s σ H _ I h) fun d s1 ⟨H1,I1,q1⟩=>?_)
  cases d with
  | true=>exact ha pins s1 σ H1 D I1 q1
  | false=>exact hb pins s1 σ H1 D I1 q1
def xnv:TS:=fun _ _ _=>False
theorem xbk:PS X st xnv:=fun _ _ _ _ _ _ h=>h.elim
end
abbrev TG:=V→St→Hp→(St→Hp→Prop)→Prop
abbrev TGs:=List V→St→Hp→(St→Hp→Prop)→Prop
def PG (X:Cx) (target:Expr) (t:TG):Prop :=
  ∀ (pins:List (Addr × Obj)) (s:Shared) (σ:St) (H:Hp) (v:V) (u:Value) (Q:St→Hp→Prop),Inv X pins σ H s→RelV v u→t v σ H Q →
    wpAny (model X.prog X.w) X.A (assign target X.env u) (fun _ s'=>∃ σ' H',Inv X pins σ' H' s'∧Q σ' H') X.xe s
def PGs (X:Cx) (ts:List Expr) (t:TGs):Prop :=
  ∀ (pins:List (Addr × Obj)) (s:Shared) (σ:St) (H:Hp) (vs:List V) (us:List Value) (Q:St→Hp→Prop),Inv X pins σ H s→Vals vs us→t vs σ H Q →
    wpAny (model X.prog X.w) X.A (assignInOrder ((assignEach ts X.env).map (·.2)) us) (fun _ s'=>∃ σ' H',Inv X pins σ' H' s'∧Q σ' H') X.xe s
abbrev TSet:=V→V→V→Hp→(Hp→Prop)→Prop
def PSet (X:Cx) (t:TSet):Prop :=
  ∀ (pins:List (Addr × Obj)) (s:Shared) (σ:St) (H:Hp) (o i v:V) (ov iv u:Value) (Q:Hp→Prop),Inv X pins σ H s→RelV o ov→RelV i iv→RelV v u→t o i v H Q →
    wpAny (model X.prog X.w) X.A (setItem ov iv u) (fun _ s'=>∃ H',Inv X pins σ H' s'∧Q H') X.xe s
section
variable {X:Cx} {pos:Pos}
def xev (i:Nat):TG:=fun v σ H Q=>Q (σ.set i (some v)) H
theorem xap {i:Nat} {x:Str} (hN:X.N.Nodup) (hi:X.N[i]? = some x) (hx:Loc X.env.scope x) (hf:X.fn x = true∨X.env.scope.names.lookup x = some .local:=by first | exact .inl rfl | exact .inr rfl | assumption):PG X (.Name x pos) (xev i):=by
  intro pins s σ H v u Q I r h
  exact wpAny_assign_Name (xe6 I hN hi hx r (fun s' I'=>⟨_,H,I',h⟩) hf)
def gNil:TGs:=fun vs σ H Q=>vs = []∧Q σ H
def xjb (t:TG) (u:TGs):TGs:=fun vs σ H Q=>∃ v r,vs = v :: r∧t v σ H fun σ' H'=>u r σ' H' Q
theorem xdc:PGs X [] gNil:=by
  intro pins s σ H vs us Q I r h
  obtain ⟨e,h⟩:=h
  subst e
  cases r
  exact assignInOrder_nil ⟨σ,H,I,h⟩
theorem xa9 {e:Expr} {es:List Expr} {t:TG} {u:TGs} (h1:PG X e t) (h2:PGs X es u)
    (hs:(assignEach (e :: es) X.env).map (·.2) = assign e X.env :: (assignEach es X.env).map (·.2):=by rfl):PGs X (e :: es) (xjb t u):=by
  intro pins s σ H vs us Q I r h
  obtain ⟨v,vr,e1,h⟩:=h
  subst e1
  cases r with
  | cons r rr =>
    rw [hs]
    refine assignInOrder_cons (thn (h1 pins s σ H _ _ _ I r h) fun _ s1 ⟨σ1,H1,I1,q1⟩=>?_)
    exact h2 pins s1 σ1 H1 _ _ Q I1 rr q1
def gTup (K:PySem.W.Frag) (n:Nat) (t:TGs):TG:=fun v σ H Q=>∃ a xs,v = .ref a∧SqT K H a xs∧xs.length = n∧t xs σ H Q
theorem xd1 {es:List Expr} {k:Nat} {t:TGs} {n:Nat} (hc:X.calm = true) (h:PGs X es t)
    (hn:(assignEach es X.env).length = n:=by rfl) (hst:(assignEach es X.env).findIdx? (·.1) = none:=by rfl):PG X (.Tuple es k pos) (gTup X.K n t):=by
  intro pins s σ H v u Q I r hw
  obtain ⟨a,xs,e1,hq,hl,hw⟩:=hw
  subst e1
  cases r
  obtain ⟨its,rv,ht,hz⟩:=I.tuple hq
  refine assign_Tuple_tuple (I.ok.hd hc) ht (by simp [hn,← hl,rv.length]) hst fun h' hx=>?_
  have I1:Inv X pins σ H { s with heap:=h' }:=I.kept (t':=s.toks) fun b o e=>hx b o (Nat.ne_of_lt (Heap.lt_size e)) e
  exact h pins _ σ H xs _ Q I1 (by simpa using rv) hw
def gSub (to ti:TE) (t:TSet):TG:=fun v σ H Q=>to σ H fun o H1=>ti σ H1 fun i H2=>t o i v H2 fun H3=>Q σ H3
theorem xoq {o i:Expr} {to ti:TE} {t:TSet} (ho:PE X o to) (hi:PE X i ti) (hs:PSet X t)
    (ha:∀ v,assign (.Subscript o i pos) X.env v = (do
      let ov ← holding [v] (eval o X.env)
      let iv ← holding [v,ov] (eval i X.env)
      standAt pos
      holding [v,ov,iv] (setItem ov iv v)
      release [v,ov,iv] []):=by intro _; rfl):PG X (.Subscript o i pos) (gSub to ti t):=by
  intro pins s σ H v u Q I r h
  rw [ha]
  refine wpAny_bind (wpAny_holding (thn (ho pins s σ H _ I h) fun ov s1 ⟨x,H1,I1,r1,q1⟩=>?_))
  refine wpAny_bind (wpAny_holding (thn (hi pins s1 σ H1 _ I1 q1) fun iv s2 ⟨y,H2,I2,r2,q2⟩=>?_))
  refine wpAny_bind (wpAny_standAt (wpAny_bind (wpAny_holding (thn (hs pins s2 σ H2 x y v ov iv u _ I2 r1 r2 r q2) fun _ s3 ⟨H3,I3,q3⟩=>?_))))
  exact wpAny_release ⟨σ,H3,I3,q3⟩
def tAsg (te:TE) (g:TG):TS:=fun D σ H=>te σ H fun x H1=>g x σ H1 D.nx
theorem xfl {tg e:Expr} {te:TE} {g:TG} (he:PE X e te) (hg:PG X tg g) (hs:swapsWithSole [tg] e pos.line X.env = pure false:=by rfl) (hw:swappedStores [tg] e X.env = pure none:=by rfl)
    (h1:(assignEach [tg] X.env).map (·.2) = [assign tg X.env]:=by rfl):PS X (.Assign [tg] e pos) (tAsg te g):=by
  intro pins s σ H D I h
  refine wpAny_Assign_stores (thn (he pins s σ H _ I h) fun v s1 ⟨x,H1,I1,r1,q1⟩=>?_) hs hw
  rw [h1]
  exact thn (hg pins s1 σ H1 x v _ I1 r1 q1) fun _ s2 q=>q
theorem xx {i:Nat} {x:Str} {e:Expr} {te:TE} {pos':Pos} (hN:X.N.Nodup) (hi:X.N[i]? = some x) (hx:Loc X.env.scope x) (he:PE X e te) (hs:swapsWith e (some (.Name x pos')) pos.line X.env = pure false:=by rfl) (hf:X.fn x = true∨X.env.scope.names.lookup x = some .local:=by first | exact .inl rfl | exact .inr rfl | assumption) :
    PS X (.Assign [.Name x pos'] e pos) (tAsg te (xev i)):=by
  intro pins s σ H D I h
  refine wpAny_Assign_Name (thn (he pins s σ H _ I h) fun v s1 ⟨y,H1,I1,r1,q1⟩=>?_) hs
  exact xe6 I1 hN hi hx r1 (fun s2 I2=>⟨_,H1,I2,q1⟩) hf
end
section
variable {X:Cx} {pos:Pos}
end
structure It where
  go:Nat→Hp→Prop
  yld:Nat→Hp→V→Hp→Prop
  stop:Nat→Hp→Prop
def FpOk (X:Cx) (pins:List (Addr × Obj)) (H:Hp) (b:Addr):Prop :=
  H b = none∧b≠X.env.locals∧b ∉ X.fs∧(b ∈ X.ex∨X.s₀.heap.objs.size≤b)∧(∀ x c,X.env.cells.lookup x = some c→c≠b)∧∀ p ∈ X.pn ++ pins,p.1≠b
theorem Inv.fpOk {X:Cx} {pins:List (Addr × Obj)} {σ:St} {H H':Hp} {s:Shared} {b:Addr} (I:Inv X pins σ H s) (hb:s.heap.objs.size≤b) (hn:H' b = none):FpOk X pins H' b:=by
  refine ⟨hn,Nat.ne_of_gt (Nat.lt_of_lt_of_le I.lt hb),I.nofs hb,.inr (Nat.le_trans I.sz hb),fun x c e z=>?_,fun p hp z=>?_⟩
  · obtain ⟨v,q⟩:=I.cell x c e
    exact absurd (Nat.lt_of_lt_of_le q.lt (by rw [z]; exact hb)) (Nat.lt_irrefl _)
  · exact absurd (Nat.lt_of_lt_of_le (Heap.lt_size (I.pin p hp).1) (by rw [z]; exact hb)) (Nat.lt_irrefl _)
structure Turn (P:Program) (w:World) (K:PySem.W.Frag) (tg:Expr) (J:It) (fp:List Addr) (it:Addr) (tn:Nat→Heap→Prop):Prop where
  mem:it ∈ fp
  obj:∀ i h,tn i h→∀ b ∈ fp,∃ o,h.get? b = some o∧∀ v,o.data≠.cell v
  keep:∀ i h h',tn i h→(∀ b ∈ fp,∀ o,h.get? b = some o→h'.get? b = some o)→tn i h'
  item:∀ (X:Cx),X.prog = P→X.w = w→X.K = K→X.calm = true→∀ (i:Nat) (pins:List (Addr × Obj)) (s:Shared) (σ:St) (H:Hp) (E:Value→Shared→Prop),Inv X pins σ H s→(∀ b ∈ fp,FpOk X pins H b)→tn i s.heap→J.go i H →
    wpAny (model P w) X.A (pyNext (.ref it)) (fun r s1=>∃ u,r = some u ∧
      wpAny (model P w) X.A (letOwnedTupleGo tg (.ref it) u) (fun _ s2=>∃ x H',Inv X pins σ H' s2∧RelV x u∧J.yld i H x H'∧tn (i + 1) s2.heap∧∀ b ∈ fp,H' b = none) E s1) E s
  done:∀ (X:Cx),X.prog = P→X.w = w→X.K = K→X.calm = true→∀ (i:Nat) (pins:List (Addr × Obj)) (s:Shared) (σ:St) (H:Hp) (E:Value→Shared→Prop),Inv X pins σ H s→(∀ b ∈ fp,FpOk X pins H b)→tn i s.heap→J.stop i H →
    wpAny (model P w) X.A (pyNext (.ref it)) (fun r s1=>r = none∧Inv X pins σ H s1) E s
  self:∀ (A:Around) (i:Nat) (s:Shared) (Q:Value→Shared→Prop) (E:Value→Shared→Prop),tn i s.heap→Q (.ref it) s→wpAny (model P w) A (pyIter (.ref it)) Q E s
abbrev TI:=St→Hp→(It→Hp→Prop)→Prop
def PIE (X:Cx) (pins:List (Addr × Obj)) (σ:St) (tg:Expr) (R:It→Hp→Prop) (itv:Value) (s2:Shared):Prop :=
  ∃ (it:Addr) (fp:List Addr) (tn:Nat→Heap→Prop) (J:It) (H':Hp),itv = .ref it∧Inv X pins σ H' s2∧Turn X.prog X.w X.K tg J fp it tn∧tn 0 s2.heap∧(∀ b ∈ fp,FpOk X pins H' b)∧R J H'
def PI (X:Cx) (tg iter:Expr) (wi:TI):Prop :=
  ∀ (pins:List (Addr × Obj)) (s:Shared) (σ:St) (H:Hp) (R:It→Hp→Prop),Inv X pins σ H s→wi σ H R →
    wpAny (model X.prog X.w) X.A (eval iter X.env) (fun v s1=>wpAny (model X.prog X.w) X.A (pyIter v) (PIE X pins σ tg R) X.xe s1) X.xe s
theorem xml {M:Model} {A:Around} {E:Value→Shared→Prop} {s:Shared} {tg:Expr} {it:Addr} {u:Value} {o:Obj} {n:String} {vs:Array Value} {Q:Unit→Shared→Prop} (ho:s.heap.get? it = some o) (hc:o.cls = .type n) (hd:o.data = .fields vs)
    (hn:["enumerate", "zip", "dict_itemiterator", "dict_reverseitemiterator", "odict_iterator", "itertools.zip_longest", "itertools.pairwise"].contains n = false) (hQ:Q () s):wpAny M A (letOwnedTupleGo tg (.ref it) u) Q E s:=by
  unfold letOwnedTupleGo
  cases tg <;> first
    | exact wpAny_pure hQ
    | (cases u <;> first
        | exact wpAny_pure hQ
        | (refine wpAny_bind (wpAny_load ho ?_)
           rw [hc,hd]
           show wpAny M A (if (["enumerate", "zip", "dict_itemiterator", "dict_reverseitemiterator", "odict_iterator", "itertools.zip_longest", "itertools.pairwise"].contains n && vs[0]? == some (rawInt _)) = true then _ else _) Q E s
           rw [if_neg (by intro h; rw [hn,Bool.false_and] at h; cases h)]
           exact wpAny_pure hQ))
def Itl (K:PySem.W.Frag) (a:Addr):It :=
  ⟨fun i H=>∃ xs x,SqL K H a xs∧xs[i]? = some x,fun i H x H'=>H' = H∧∀ xs,SqL K H a xs→xs[i]? = some x,fun i H=>∃ xs,SqL K H a xs∧xs.length≤i⟩
def Itr (lo:Int) (n:Nat):It:=⟨fun i _=>i < n,fun i H x H'=>H' = H∧x = .int (lo + i),fun i _=>n≤i⟩
theorem xkh {P:Program} {w:World} {K:PySem.W.Frag} {tg:Expr} (a it:Addr):Turn P w K tg (Itl K a) [it] it (fun i h=>h.IsListIter it a i) where
  mem:=by simp
  obj:=fun i h st b hb=>by
    have e:b = it:=by simpa using hb
    subst e
    obtain ⟨o,e,c,d⟩:=st
    exact ⟨o,e,fun v z=>by rw [d] at z; cases z⟩
  keep:=fun i h h' st k=>st.at fun o e=>k it (by simp) o e
  item:=by
    intro X hP hw hK hc i pins s σ H E I hf st hg
    subst hP hw hK
    obtain ⟨xs,x,hq,hx⟩:=hg
    obtain ⟨its,rv,p,hz⟩:=I.list hq
    obtain ⟨u,hu,ru⟩:=rv.get hx
    obtain ⟨f0,f1,f2,f3,f4,f5⟩:=hf it (by simp)
    refine wpAny_pyNext_list_item st p.isList (x:=u) (by simpa using hu) fun h' st' sb=>?_
    have I1:Inv X pins σ H { s with heap:=h' }:=I.turned (t':=s.toks) (fun b o hb e=>(sb.2 b hb).trans e) f0 f1 f3 f4 f5
    obtain ⟨o,e,c,d⟩:=id st'
    exact ⟨u,rfl,xml (s:={ s with heap:=h' }) e c d (by decide) ⟨x,H,I1,ru,⟨rfl,fun ys hy=>by rw [I.list_inj hy hq]; exact hx⟩,st',fun b hb=>(hf b hb).1⟩⟩
  done:=by
    intro X hP hw hK hc i pins s σ H E I hf st hg
    subst hP hw hK
    obtain ⟨xs,hq,hx⟩:=hg
    obtain ⟨its,rv,p,hz⟩:=I.list hq
    obtain ⟨f0,f1,f2,f3,f4,f5⟩:=hf it (by simp)
    have hl:=rv.length
    exact wpAny_pyNext_list_end (I.ok.hd hc) st p.isList (by simp; omega) fun h' eb=>⟨rfl,I.turned (t':=s.toks) (fun b o hb e=>eb b o hb e) f0 f1 f3 f4 f5⟩
  self:=fun _ _ _ _ _ st h=>wpAny_pyIter_listiter st h
theorem xjh {P:Program} {w:World} {K:PySem.W.Frag} {tg:Expr} (it:Addr) (lo:Int) (n:Nat):Turn P w K tg (Itr lo n) [it] it (fun i h=>IsRangeIter h it (lo + (i:Nat) * 1) ((n:Int) - (i:Nat)) 1) where
  mem:=by simp
  obj:=fun i h st b hb=>by
    have e:b = it:=by simpa using hb
    subst e
    exact ⟨_,st,fun v z=>by
      have z':Data.fields _ = Data.cell v:=z
      cases z'⟩
  keep:=fun i h h' st k=>k it (by simp) _ st
  item:=by
    intro X hP hw hK hc i pins s σ H E I hf st hg
    subst hP hw hK
    obtain ⟨f0,f1,f2,f3,f4,f5⟩:=hf it (by simp)
    have W:=Walks.range (prog:=X.prog) (w:=X.w) (I.ok.hd hc) it lo 1 n
    refine W.item i s _ _ hg st fun v h' tk hv st' kk=>?_
    obtain ⟨t,rfl⟩:=hv
    have I1:Inv X pins σ H { s with heap:=h',toks:=tk }:=I.turned (fun b o hb e=>kk b o (by simpa using hb) e) f0 f1 f3 f4 f5
    refine ⟨_,rfl,xml (s:={ s with heap:=h',toks:=tk }) (n:="range_iterator") st' rfl rfl (by decide) ⟨.int (lo + i),H,I1,⟨t,?_⟩,⟨rfl,rfl⟩,st',fun b hb=>(hf b hb).1⟩⟩
    rw [Int.mul_one]
  done:=by
    intro X hP hw hK hc i pins s σ H E I hf st hg
    subst hP hw hK
    obtain ⟨f0,f1,f2,f3,f4,f5⟩:=hf it (by simp)
    exact wpAny_pyNext_range_end (I.ok.hd hc) st (by have:n≤i:=hg; omega) fun h' eb=>⟨rfl,I.turned (t':=s.toks) (fun b o hb e=>eb b o hb e) f0 f1 f3 f4 f5⟩
  self:=fun _ _ _ _ _ st h=>wpAny_pyIter_rangeiter st h
end L2
namespace L2
open PySem PySem.Spec PyProof.Rows
variable {q0:Bool}
section
variable {X:Cx} {tg:Expr}
def xpg (K:PySem.W.Frag) (tl:TE):TI:=fun σ H R=>tl σ H fun x H1=>∃ a,x = .ref a∧(∃ xs,SqL K H1 a xs)∧R (Itl K a) H1
theorem xbp {l:Expr} {tl:TE} (hl:PE X l tl):PI X tg l (xpg X.K tl):=by
  intro pins s σ H R I h
  refine thn (hl pins s σ H _ I h) fun v s1 ⟨x,H1,I1,r1,q1⟩=>?_
  obtain ⟨a,e,⟨xs,hq⟩,q⟩:=q1
  subst e
  cases r1
  obtain ⟨its,rv,p,hz⟩:=I1.list hq
  refine wpAny_pyIter_list p.isList ?_
  refine ⟨s1.heap.objs.size,[s1.heap.objs.size],_,_,H1,rfl,I1.kept (t':=s1.toks) fun b o e=>Heap.get?_push_of_some _ e,xkh a _,⟨_,Heap.get?_push_size _ rfl,rfl,rfl⟩,fun b hb=>?_,q⟩
  have e:b = s1.heap.objs.size:=by simpa using hb
  subst e
  exact I1.fpOk (Nat.le_refl _) (I1.hok.fresh (Nat.le_refl _))
theorem xhk {pins:List (Addr × Obj)} {σ:St} {H:Hp} {s:Shared} {R:It→Hp→Prop} {E:Value→Shared→Prop} {lo hi:Int} {t u v:Tok} {tk:Nat} (I:Inv X pins σ H s) (h1:-(2 ^ 62)≤lo) (h2:lo < 2 ^ 62) (h3:-(2 ^ 62)≤hi) (h4:hi < 2 ^ 62)
    (q:R (Itr lo (hi - lo).toNat) H):wpAny (model X.prog X.w) X.A (pyIter (.ref s.heap.objs.size)) (PIE X pins σ tg R) E { s with heap:=s.heap.push { cls:=.type "range",data:=.fields #[.int lo t,.int hi u,.int 1 v] },toks:=tk }:=by
  refine wpAny_pyIter_range (IsRange.new ..) (small_one h1 h2 h3 h4) ?_
  have I1:Inv X pins σ H { s with heap:=s.heap.push { cls:=.type "range",data:=.fields #[.int lo t,.int hi u,.int 1 v] },toks:=tk }:=I.kept fun b o e=>Heap.get?_push_of_some _ e
  refine ⟨(s.heap.push { cls:=.type "range",data:=.fields #[.int lo t,.int hi u,.int 1 v] }).objs.size,[(s.heap.push { cls:=.type "range",data:=.fields #[.int lo t,.int hi u,.int 1 v] }).objs.size],_,_,H,rfl,
    I1.kept (t':=tk) fun b o e=>Heap.get?_push_of_some _ e,xjh _ lo (hi - lo).toNat,?_,fun b hb=>?_,q⟩
  · have e1:lo + ((0:Nat):Int) * 1 = lo:=by simp
    have e2:(((hi - lo).toNat:Nat):Int) - ((0:Nat):Int) = Builtin.Range.rangeSize lo hi 1:=by rw [rangeSize_one]; split <;> omega
    show IsRangeIter _ _ (lo + ((0:Nat):Int) * 1) ((((hi - lo).toNat:Nat):Int) - ((0:Nat):Int)) 1
    rw [e1,e2]
    exact Heap.get?_push_size _ rfl
  · have e:b = (s.heap.push { cls:=.type "range",data:=.fields #[.int lo t,.int hi u,.int 1 v] }).objs.size:=by simpa using hb
    subst e
    exact I1.fpOk (Nat.le_refl _) (I1.hok.fresh (Nat.le_refl _))
def xpq (ta:TA):TI:=fun σ H R=>ta σ H fun vs H1=>∃ j:Int,vs = [.int j]∧-(2 ^ 62)≤j∧j < 2 ^ 62∧R (Itr 0 j.toNat) H1
def xp6 (ta:TA):TI:=fun σ H R=>ta σ H fun vs H1=>∃ i j:Int,vs = [.int i,.int j]∧(-(2 ^ 62)≤i∧i < 2 ^ 62∧-(2 ^ 62)≤j∧j < 2 ^ 62)∧R (Itr i (j - i).toNat) H1
theorem xgs {a:Expr} {ta:TA} {p pos:Pos} (hg:Gl X "range") (hm:X.mg "range" = none) (ha:PA X [a] ta) (hs:starEach [a] X.env = [(false,eval a X.env)]:=by rfl):PI X tg (.Call (.Name "range" p) [a] [] pos) (xpq ta):=by
  intro pins s σ H R I h
  refine Call_ (xd2 I hg hm boot_range (PyProof.Rows.callWith_type1 (thn (ha pos pins s σ H _ I h) fun us s1 ⟨vs,H1,I1,r1,q1⟩=>?_) hs rfl))
  obtain ⟨j,e,q1,q2,q⟩:=q1
  subst e
  cases r1 with
  | cons r rr =>
    cases rr
    obtain ⟨t,rfl⟩:=r
    exact call_range_1 (xhk I1 (by omega) (by omega) q1 q2 (by simpa using q))
theorem xgm {a b:Expr} {ta:TA} {p pos:Pos} (hg:Gl X "range") (hm:X.mg "range" = none) (ha:PA X [a,b] ta) (hs:starEach [a,b] X.env = [(false,eval a X.env),(false,eval b X.env)]:=by rfl) (hs2:starEach [b] X.env = [(false,eval b X.env)]:=by rfl) :
    PI X tg (.Call (.Name "range" p) [a,b] [] pos) (xp6 ta):=by
  intro pins s σ H R I h
  refine Call_ (xd2 I hg hm boot_range (PyProof.Rows.callWith_type1 (thn (ha pos pins s σ H _ I h) fun us s1 ⟨vs,H1,I1,r1,q1⟩=>?_) (by rw [hs,hs2]) (by rw [hs2]; rfl)))
  obtain ⟨i,j,e,⟨q1,q2,q3,q4⟩,q⟩:=q1
  subst e
  cases r1 with
  | cons r rr =>
    cases rr with
    | cons r' rr =>
      cases rr
      obtain ⟨t,rfl⟩:=r
      obtain ⟨t',rfl⟩:=r'
      exact call_range_2 (xhk I1 q1 q2 q3 q4 q)
def tFor (wi:TI) (g:TG) (tb:TS):TS:=fun D σ H=>wi σ H fun J H1=>∃ W:Nat→Nat→St→Hp→Prop,(∃ m,W 0 m σ H1)∧∀ i m σ H,W i m σ H →
  (J.stop i H∧D.nx σ H)∨(J.go i H∧∃ N:St→Hp→Prop,(∀ σ' H',N σ' H'→∃ m',m' < m∧W (i + 1) m' σ' H')∧∀ x H',J.yld i H x H'→g x σ H' fun σ2 H2=>tb { D with nx:=N,ct:=N,bk:=D.nx } σ2 H2)
def xeq (fp:List Addr) (h:Heap):List (Addr × Obj):=fp.filterMap fun b=>(h.get? b).map fun o=>(b,o)
theorem xc6 {fp:List Addr} {h:Heap} {b:Addr} {o:Obj} (hb:b ∈ fp) (e:h.get? b = some o):(b,o) ∈ xeq fp h:=List.mem_filterMap.mpr ⟨b,hb,by rw [e]; rfl⟩
theorem xjq {fp:List Addr} {h:Heap} {p:Addr × Obj} (hp:p ∈ xeq fp h):p.1 ∈ fp∧h.get? p.1 = some p.2:=by
  obtain ⟨b,hb,e⟩:=List.mem_filterMap.mp hp
  cases q:h.get? b with
  | none=>rw [q] at e; cases e
  | some o =>
    rw [q] at e
    have e':(b,o) = p:=Option.some.inj e
    subst e'
    exact ⟨hb,q⟩
theorem Inv.pinned {pins:List (Addr × Obj)} {σ:St} {H:Hp} {s:Shared} {fp:List Addr} (I:Inv X pins σ H s) (hf:∀ b ∈ fp,FpOk X pins H b) (ho:∀ b ∈ fp,∃ o,s.heap.get? b = some o∧∀ v,o.data≠.cell v):Inv X (pins ++ xeq fp s.heap) σ H s :=
  I.pins_of fun p hp=>(List.mem_append.mp hp).elim (fun z=>I.pin p (List.mem_append_right _ z)) fun z=>by
    obtain ⟨hb,e⟩:=xjq z
    obtain ⟨f0,f1,f2,_⟩:=hf p.1 hb
    obtain ⟨o,e',d⟩:=ho p.1 hb
    rw [e] at e'; cases e'
    exact ⟨e,f0,f1,f2,d⟩
theorem Inv.unpinned {pins pl:List (Addr × Obj)} {σ:St} {H:Hp} {s:Shared} (I:Inv X (pins ++ pl) σ H s):Inv X pins σ H s:=I.pins_of fun p hp=>I.pin p (List.mem_append_right _ (List.mem_append_left _ hp))
theorem xcz {iter:Expr} {body:List Stmt} {wi:TI} {g:TG} {tb:TS} {pos:Pos} (hp:PassesOwn (model X.prog X.w) X.A X.env X.xe) (hc:X.calm = true) (hi:PI X tg iter wi) (hg:PG X tg g) (hb:PSs X body tb)
    (hs:∀ x,foldedSetIterable iter X.env x = pure x:=by intro _; rfl):PS X (.For tg iter body [] pos) (tFor wi g tb):=by
  intro pins s σ H D I h
  refine wpAny_For (thn (hi pins s σ H _ I h) fun v s1 h1=>thn h1 fun itv s2 h2=>?_) hs
  obtain ⟨it,fp,tn,J,H2,e,I2,T,st2,f2,W,⟨m0,w0⟩,turn⟩:=h2
  subst e
  -- what stays true of the iterator's objects through the loop
  have stat:∀ {H':Hp},(∀ b ∈ fp,H' b = none)→∀ b ∈ fp,FpOk X pins H' b:=fun hn b hb=>⟨hn b hb,(f2 b hb).2⟩
  refine codeAny_forLoop_any (fun n s'=>∃ i σ' H',Inv X pins σ' H' s'∧tn i s'.heap∧(∀ b ∈ fp,H' b = none)∧W i n σ' H') ?_ m0 ⟨0,σ,H2,I2,st2,fun b hb=>(f2 b hb).1,w0⟩
  rintro n s3 ⟨i,σ3,H3,I3,st3,fr3,w3⟩
  rcases turn i n σ3 H3 w3 with ⟨stop,qn⟩ | ⟨go,N,hN,step⟩
  · refine wpAny_passesOwn hp (thn (T.done X rfl rfl rfl hc i pins s3 σ3 H3 X.xe I3 (stat fr3) st3 stop) fun r s4 ⟨hr,I4⟩=>?_)
    subst hr
    exact wpAny_execs_nil ⟨σ3,H3,I4,qn⟩
  · refine wpAny_passesOwn hp (thn (T.item X rfl rfl rfl hc i pins s3 σ3 H3 X.xe I3 (stat fr3) st3 go) fun r s4 ⟨u,hr,h4⟩=>?_)
    subst hr
    refine wpAny_passesOwn hp (thn h4 fun _ s5 ⟨x,H5,I5,r5,y5,st5,fr5⟩=>?_)
    have I5':=I5.pinned (stat fr5) (T.obj _ _ st5)
    refine wpAny_passesOwn hp (thn (hg _ s5 σ3 H5 x u _ I5' r5 (step x H5 y5)) fun _ s6 ⟨σ6,H6,I6,q6⟩=>?_)
    refine wpAny_passesOwn hp (thn (hb _ s6 σ6 H6 _ I6 q6) fun f s7 q7=>?_)
    have again:∀ {σ7:St} {H7:Hp},Inv X (pins ++ xeq fp s5.heap) σ7 H7 s7→N σ7 H7→∃ m,m < n∧∃ i σ' H',Inv X pins σ' H' s7∧tn i s7.heap∧(∀ b ∈ fp,H' b = none)∧W i m σ' H':=fun {σ7 H7} I7 n7=>by
      obtain ⟨m',hm,w7⟩:=hN σ7 H7 n7
      refine ⟨m',hm,i + 1,σ7,H7,I7.unpinned,T.keep _ _ _ st5 fun b hb o e=>(I7.pin (b,o) (List.mem_append_right _ (List.mem_append_right _ (xc6 hb e)))).1,fun b hb=>?_,w7⟩
      obtain ⟨o,e,d⟩:=T.obj _ _ st5 b hb
      exact (I7.pin (b,o) (List.mem_append_right _ (List.mem_append_right _ (xc6 hb e)))).2.1
    cases f with
    | next=>obtain ⟨σ7,H7,I7,n7⟩:=q7; exact again I7 n7
    | cont=>obtain ⟨σ7,H7,I7,n7⟩:=q7; exact again I7 n7
    | brk=>obtain ⟨σ7,H7,I7,q7⟩:=q7; exact ⟨σ7,H7,I7.unpinned,q7⟩
    | ret v=>obtain ⟨x7,σ7,H7,I7,r7,q7⟩:=q7; exact ⟨x7,σ7,H7,I7.unpinned,r7,q7⟩
end
theorem xd9 {K:PySem.W.Frag} {a:Addr} {xs:List V} {g:TG} {tb:TS} {D:Ends} {σ:St} {H:Hp} (Pv:Nat→St→Hp→Prop) (h0:Pv 0 σ H) (hl:∀ i σ H,i≤xs.length→Pv i σ H→SqL K H a xs)
    (hs:∀ i x σ H,xs[i]? = some x→Pv i σ H→g x σ H fun σ2 H2=>tb { D with nx:=Pv (i + 1),ct:=Pv (i + 1),bk:=D.nx } σ2 H2) (hd:∀ σ H,Pv xs.length σ H→D.nx σ H) :
    ∃ W:Nat→Nat→St→Hp→Prop,(∃ m,W 0 m σ H)∧∀ i m σ H,W i m σ H →
      ((Itl K a).stop i H∧D.nx σ H)∨((Itl K a).go i H∧∃ N:St→Hp→Prop,(∀ σ' H',N σ' H'→∃ m',m' < m∧W (i + 1) m' σ' H')∧∀ x H',(Itl K a).yld i H x H'→g x σ H' fun σ2 H2=>tb { D with nx:=N,ct:=N,bk:=D.nx } σ2 H2):=by
  refine ⟨fun i m σ H=>m = xs.length - i∧i≤xs.length∧Pv i σ H,⟨xs.length,by simp,Nat.zero_le _,h0⟩,?_⟩
  rintro i m σ H ⟨rfl,hi,p⟩
  have q:=hl i σ H hi p
  by_cases hlt:i < xs.length
  · refine .inr ⟨⟨xs,xs[i],q,by simp [hlt]⟩,Pv (i + 1),fun σ' H' p'=>⟨xs.length - (i + 1),by omega,rfl,hlt,p'⟩,fun x H' y=>?_⟩
    obtain ⟨e,y⟩:=y
    subst e
    exact hs i x σ _ (y xs q) p
  · have e:i = xs.length:=by omega
    subst e
    exact .inl ⟨⟨xs,q,Nat.le_refl _⟩,hd σ H p⟩
theorem xes {lo:Int} {n:Nat} {g:TG} {tb:TS} {D:Ends} {σ:St} {H:Hp} (Pv:Nat→St→Hp→Prop) (h0:Pv 0 σ H)
    (hs:∀ i σ H,i < n→Pv i σ H→g (.int (lo + i)) σ H fun σ2 H2=>tb { D with nx:=Pv (i + 1),ct:=Pv (i + 1),bk:=D.nx } σ2 H2) (hd:∀ σ H,Pv n σ H→D.nx σ H) :
    ∃ W:Nat→Nat→St→Hp→Prop,(∃ m,W 0 m σ H)∧∀ i m σ H,W i m σ H →
      ((Itr lo n).stop i H∧D.nx σ H)∨((Itr lo n).go i H∧∃ N:St→Hp→Prop,(∀ σ' H',N σ' H'→∃ m',m' < m∧W (i + 1) m' σ' H')∧∀ x H',(Itr lo n).yld i H x H'→g x σ H' fun σ2 H2=>tb { D with nx:=N,ct:=N,bk:=D.nx } σ2 H2):=by
  refine ⟨fun i m σ H=>m = n - i∧i≤n∧Pv i σ H,⟨n,by simp,Nat.zero_le _,h0⟩,?_⟩
  rintro i m σ H ⟨rfl,hi,p⟩
  by_cases hlt:i < n
  · refine .inr ⟨hlt,Pv (i + 1),fun σ' H' p'=>⟨n - (i + 1),by omega,rfl,hlt,p'⟩,fun x H' y=>?_⟩
    obtain ⟨e,y⟩:=y
    subst e y
    exact hs i σ _ hlt p
  · have e:i = n:=by omega
    subst e
    exact .inl ⟨Nat.le_refl _,hd σ H p⟩
end L2
namespace L2
open PySem PySem.Spec PyProof.Rows
variable {q0:Bool}
abbrev R2:=V→V→Hp→VK→Prop
def OpR (X:Cx) (f:Value→Value→Sem Value) (r:R2):Prop :=
  ∀ (pins:List (Addr × Obj)) (s:Shared) (σ:St) (H:Hp) (x y:V) (v u:Value) (Q:VK),Inv X pins σ H s→RelV x v→RelV y u→r x y H Q →
    wpAny (model X.prog X.w) X.A (f v u) (EP X pins σ Q) X.xe s
def xb6 (X:Cx) (f:Value) (r:List V→Hp→VK→Prop):Prop :=
  ∀ (pins:List (Addr × Obj)) (s:Shared) (σ:St) (H:Hp) (xs:List V) (us:List Value) (Q:VK),Inv X pins σ H s→Vals xs us→r xs H Q →
    wpAny (model X.prog X.w) X.A (call f us) (EP X pins σ Q) X.xe s
def tOp (r:R2) (ta tb:TE):TE:=fun σ H Q=>ta σ H fun x H1=>tb σ H1 fun y H2=>r x y H2 Q
def rI (C:Int→Int→Prop) (g:Int→Int→V):R2:=fun x y H Q=>∃ i j,x = .int i∧y = .int j∧C i j∧Q (g i j) H
def rI0 (g:Int→Int→V):R2:=fun x y H Q=>∃ i j,x = .int i∧y = .int j∧Q (g i j) H
section
variable {X:Cx} {a b c:Expr} {ta tb tc:TE} {pos:Pos}
theorem binT (ha:PE X a ta) (hb:PE X b tb) {pins:List (Addr × Obj)} {s:Shared} {σ:St} {H:Hp} {R:V→V→Hp→Prop} (I:Inv X pins σ H s)
    (h:ta σ H fun x H1=>tb σ H1 fun y H2=>R x y H2) {Q:Value→Shared→Prop} {f:Value→Value→Sem Value}
    (hf:∀ v u s2 x y H2,Inv X pins σ H2 s2→RelV x v→RelV y u→R x y H2→wpAny (model X.prog X.w) X.A (f v u) Q X.xe s2) :
    wpAny (model X.prog X.w) X.A (eval a X.env) (fun v s₁=>wpAny (model X.prog X.w) X.A (eval b X.env) (fun u s₂=>wpAny (model X.prog X.w) X.A (f v u) Q X.xe s₂) X.xe s₁) X.xe s:=by
  refine thn (ha pins s σ H _ I h) fun v s1 ⟨x,H1,I1,r1,q1⟩=>?_
  refine thn (hb pins s1 σ H1 _ I1 q1) fun u s2 ⟨y,H2,I2,r2,q2⟩=>?_
  exact hf v u s2 x y H2 I2 r1 r2 q2
theorem xq {op:Operator} {r:R2} (ho:OpR X (binaryOp op) r) (ha:PE X a ta) (hb:PE X b tb):PE X (.BinOp a op b pos) (tOp r ta tb):=by
  intro pins s σ H Q I h
  exact wpAny_BinOp (binT ha hb I h fun v u s2 x y H2 I2 rx ry q=>ho pins s2 σ H2 x y v u Q I2 rx ry q)
theorem opI {f:Value→Value→Sem Value} {C:Int→Int→Prop} {g:Int→Int→Int}
    (rule:∀ (i j:Int) (t u:Tok) (s:Shared) (Q:Value→Shared→Prop) (E:Value→Shared→Prop),C i j→Q (.int (g i j) s.toks) { s with toks:=s.toks + 1 }→wpAny (model X.prog X.w) X.A (f (.int i t) (.int j u)) Q E s) :
    OpR X f (rI C fun i j=>.int (g i j)):=by
  intro pins s σ H x y v u Q I rx ry h
  obtain ⟨i,j,rfl,rfl,hc,q⟩:=h
  obtain ⟨t,rfl⟩:=rx
  obtain ⟨t',rfl⟩:=ry
  exact rule i j t t' s _ _ hc ⟨.int (g i j),H,I.tok _,⟨_,rfl⟩,q⟩
theorem opI0 {f:Value→Value→Sem Value} {g:Int→Int→Int}
    (rule:∀ (i j:Int) (t u:Tok) (s:Shared) (Q:Value→Shared→Prop) (E:Value→Shared→Prop),Q (.int (g i j) s.toks) { s with toks:=s.toks + 1 }→wpAny (model X.prog X.w) X.A (f (.int i t) (.int j u)) Q E s) :
    OpR X f (rI0 fun i j=>.int (g i j)):=by
  intro pins s σ H x y v u Q I rx ry h
  obtain ⟨i,j,rfl,rfl,q⟩:=h
  obtain ⟨t,rfl⟩:=rx
  obtain ⟨t',rfl⟩:=ry
  exact rule i j t t' s _ _ ⟨.int (g i j),H,I.tok _,⟨_,rfl⟩,q⟩
theorem opB0 {f:Value→Value→Sem Value} {g:Int→Int→Bool}
    (rule:∀ (i j:Int) (t u:Tok) (s:Shared) (Q:Value→Shared→Prop) (E:Value→Shared→Prop),Q (.bool (g i j)) s→wpAny (model X.prog X.w) X.A (f (.int i t) (.int j u)) Q E s) :
    OpR X f (rI0 fun i j=>.bl (g i j)):=by
  intro pins s σ H x y v u Q I rx ry h
  obtain ⟨i,j,rfl,rfl,q⟩:=h
  obtain ⟨t,rfl⟩:=rx
  obtain ⟨t',rfl⟩:=ry
  exact rule i j t t' s _ _ ⟨.bl (g i j),H,I,rfl,q⟩
def CDiv (i j:Int):Prop:=0 < j∧j < 1073741824
def CPow (i j:Int):Prop:=0≤j∧j≤1000000∧i.natAbs < 2 ^ 64
def CMul (i j:Int):Prop:=(-(2 ^ 64) < i∧i < 2 ^ 64)∨(-(2 ^ 64) < j∧j < 2 ^ 64)
theorem CMul.ok {i j:Int} (h:CMul i j):IntMulOk i j:=by
  rcases h with ⟨h1,h2⟩ | ⟨h1,h2⟩
  · exact .of_left (intBits_le_64 h1 h2)
  · exact .of_right (intBits_le_64 h1 h2)
theorem xjk (k:Nat):(0:Int)≤2 ^ k:=by
  rw [two_pow_cast]
  exact Int.natCast_nonneg _
theorem xax:OpR X (binaryOp .Add) (rI0 fun i j=>.int (i + j)):=opI0 fun _ _ _ _ _ _ _ q=>add_int q
theorem xcv:OpR X (binaryOp .Sub) (rI0 fun i j=>.int (i - j)):=opI0 fun _ _ _ _ _ _ _ q=>sub_int q
theorem xcx:OpR X (binaryOp .Mult) (rI CMul fun i j=>.int (i * j)):=opI fun _ _ _ _ _ _ _ hc q=>mul_int q hc.ok
theorem xbi:OpR X (binaryOp .FloorDiv) (rI CDiv fun i j=>.int (i / j)):=opI fun i j _ _ _ _ _ hc q=>by
  have h1:(0:Int) < j:=hc.1
  have h2:j < 1073741824:=hc.2
  exact floordiv_int (by omega) (by rw [Int.fdiv_eq_ediv_of_nonneg i (by omega)]; exact q) (.inl (PyProof.noPylong_small (by omega)))
theorem xau:OpR X (binaryOp .Mod) (rI (fun _ j=>0 < j) fun i j=>.int (i % j)):=opI fun i j _ _ _ _ _ hc q=>by
  have h1:(0:Int) < j:=hc
  exact mod_int' (by omega) (by rw [Int.fmod_eq_emod_of_nonneg i (by omega)]; exact q)
theorem xoe:OpR X (binaryOp .Pow) (rI CPow fun i j=>.int (i ^ j.toNat)):=opI fun _ _ _ _ _ _ _ hc q=>pow_int_small hc.1 hc.2.1 hc.2.2 q
theorem xor:OpR X (binaryOp .LShift) (rI CPow fun i j=>.int (i * 2 ^ j.toNat)):=opI fun _ _ _ _ _ _ _ hc q=>lshift_int_small hc.1 hc.2.1 hc.2.2 q
theorem xow:OpR X (binaryOp .RShift) (rI (fun _ j=>0≤j) fun i j=>.int (i / 2 ^ j.toNat)):=opI fun i j _ _ _ _ _ hc q =>
  rshift_int hc (by rw [Int.fdiv_eq_ediv_of_nonneg i (xjk _)]; exact q)
theorem xoc:OpR X (binaryOp .BitAnd) (rI0 fun i j=>.int (Builtin.bitAnd i j)):=opI0 fun _ _ _ _ _ _ _ q=>and_int q
end
def scal:V→V→Bool
  | .non,.non=>true | .non,.int _=>true | .int _,.non=>true | .non,.bl _=>true | .bl _,.non=>true | .non,.str _=>true | .str _,.non=>true
  | .int _,.int _=>true | .bl _,.bl _=>true | .str _,.str _=>true | .byt _,.byt _=>true
  | .int _,.str _=>true | .str _,.int _=>true | .bl _,.str _=>true | .str _,.bl _=>true
  | _,_=>false
def rEq:R2:=fun x y H Q=>scal x y = true∧Q (.bl (decide (x = y))) H
def rNe:R2:=fun x y H Q=>scal x y = true∧Q (.bl (!decide (x = y))) H
theorem xil {i j:Int}:decide (V.int i = V.int j) = (i == j):=by
  rw [Bool.eq_iff_iff]
  simp
theorem xj6 {i j:Bool}:decide (V.bl i = V.bl j) = (i == j):=by
  rw [Bool.eq_iff_iff]
  simp
theorem xih {i j:Str}:decide (V.str i = V.str j) = (i == j):=by
  rw [Bool.eq_iff_iff]
  simp
theorem xim {i j:Array UInt8}:decide (V.byt i = V.byt j) = (i.toList == j.toList):=by
  rw [Bool.eq_iff_iff]
  cases i
  cases j
  simp
section
variable {X:Cx} {a b c:Expr} {ta tb tc:TE} {pos:Pos}
theorem xat {pins:List (Addr × Obj)} {σ:St} {H:Hp} {s:Shared} {Q:VK} {k k':Bool} (I:Inv X pins σ H s) (q:Q (.bl k) H) (e:k = k'):EP X pins σ Q (.bool k') s:=by
  subst e
  exact ⟨.bl k,H,I,rfl,q⟩
theorem xbt:OpR X (compareOp .Eq) rEq:=by
  intro pins s σ H x y v u Q I rx ry h
  obtain ⟨hs,q⟩:=h
  cases x with
  | non =>
    cases rx
    cases y with
    | non=>cases ry; exact PySem.EqNone.eq_none_none (xat I q (by simp))
    | bl j=>cases ry; exact PySem.EqNone.eq_none_bool (xat I q (by simp))
    | int j=>obtain ⟨t',rfl⟩:=ry; exact PySem.EqNone.eq_none_int (xat I q (by simp))
    | str j=>obtain ⟨t',rfl⟩:=ry; exact PySem.EqNone.eq_none_str (xat I q (by simp))
    | _=>exact absurd (show false = true from hs) Bool.false_ne_true
  | bl i =>
    cases rx
    cases y with
    | non=>cases ry; exact PySem.EqNone.eq_bool_none (xat I q (by simp))
    | bl j=>cases ry; exact eq_bool (xat I q xj6)
    | str j=>obtain ⟨t',rfl⟩:=ry; exact PySem.EqMixed.eq_bool_str (xat I q (by simp))
    | _=>exact absurd (show false = true from hs) Bool.false_ne_true
  | int i =>
    obtain ⟨t,rfl⟩:=rx
    cases y with
    | non=>cases ry; exact PySem.EqNone.eq_int_none (xat I q (by simp))
    | int j=>obtain ⟨t',rfl⟩:=ry; exact eq_int (xat I q xil)
    | str j=>obtain ⟨t',rfl⟩:=ry; exact PySem.EqMixed.eq_int_str (xat I q (by simp))
    | _=>exact absurd (show false = true from hs) Bool.false_ne_true
  | str i =>
    obtain ⟨t,rfl⟩:=rx
    cases y with
    | non=>cases ry; exact PySem.EqNone.eq_str_none (xat I q (by simp))
    | bl j=>cases ry; exact PySem.EqMixed.eq_str_bool (xat I q (by simp))
    | int j=>obtain ⟨t',rfl⟩:=ry; exact PySem.EqMixed.eq_str_int (xat I q (by simp))
    | str j=>obtain ⟨t',rfl⟩:=ry; exact eq_str (xat I q xih)
    | _=>exact absurd (show false = true from hs) Bool.false_ne_true
  | byt i =>
    obtain ⟨t,rfl⟩:=rx
    cases y with
    | byt j=>obtain ⟨t',rfl⟩:=ry; exact PySem.W.eq_bytes (xat I q xim)
    | _=>exact absurd (show false = true from hs) Bool.false_ne_true
  | _=>cases y <;> exact absurd (show false = true from hs) Bool.false_ne_true
theorem xmi:OpR X (compareOp .NotEq) rNe:=by
  intro pins s σ H x y v u Q I rx ry h
  obtain ⟨hs,q⟩:=h
  cases x with
  | non =>
    cases rx
    cases y with
    | non=>cases ry; exact PySem.EqNone.ne_none_none (xat I q (by simp))
    | bl j=>cases ry; exact PySem.EqNone.ne_none_bool (xat I q (by simp))
    | int j=>obtain ⟨t',rfl⟩:=ry; exact PySem.EqNone.ne_none_int (xat I q (by simp))
    | str j=>obtain ⟨t',rfl⟩:=ry; exact PySem.EqNone.ne_none_str (xat I q (by simp))
    | _=>exact absurd (show false = true from hs) Bool.false_ne_true
  | bl i =>
    cases rx
    cases y with
    | non=>cases ry; exact PySem.EqNone.ne_bool_none (xat I q (by simp))
    | bl j=>cases ry; exact ne_bool (xat I q (congrArg not xj6))
    | str j=>obtain ⟨t',rfl⟩:=ry; exact PySem.EqMixed.ne_bool_str (xat I q (by simp))
    | _=>exact absurd (show false = true from hs) Bool.false_ne_true
  | int i =>
    obtain ⟨t,rfl⟩:=rx
    cases y with
    | non=>cases ry; exact PySem.EqNone.ne_int_none (xat I q (by simp))
    | int j=>obtain ⟨t',rfl⟩:=ry; exact ne_int (xat I q (congrArg not xil))
    | str j=>obtain ⟨t',rfl⟩:=ry; exact PySem.EqMixed.ne_int_str (xat I q (by simp))
    | _=>exact absurd (show false = true from hs) Bool.false_ne_true
  | str i =>
    obtain ⟨t,rfl⟩:=rx
    cases y with
    | non=>cases ry; exact PySem.EqNone.ne_str_none (xat I q (by simp))
    | bl j=>cases ry; exact PySem.EqMixed.ne_str_bool (xat I q (by simp))
    | int j=>obtain ⟨t',rfl⟩:=ry; exact PySem.EqMixed.ne_str_int (xat I q (by simp))
    | str j=>obtain ⟨t',rfl⟩:=ry; exact ne_str (xat I q (congrArg not xih))
    | _=>exact absurd (show false = true from hs) Bool.false_ne_true
  | byt i =>
    obtain ⟨t,rfl⟩:=rx
    cases y with
    | byt j=>obtain ⟨t',rfl⟩:=ry; exact PySem.W.ne_bytes (xat I q (congrArg not xim))
    | _=>exact absurd (show false = true from hs) Bool.false_ne_true
  | _=>cases y <;> exact absurd (show false = true from hs) Bool.false_ne_true
theorem xmn:OpR X (compareOp .Lt) (rI0 fun i j=>.bl (decide (i < j))):=opB0 fun _ _ _ _ _ _ _ q=>lt_int q
theorem xct:OpR X (compareOp .LtE) (rI0 fun i j=>.bl (decide (i≤j))):=opB0 fun _ _ _ _ _ _ _ q=>le_int q
theorem xpa:OpR X (compareOp .Gt) (rI0 fun i j=>.bl (decide (j < i))):=opB0 fun _ _ _ _ _ _ _ q=>gt_int q
theorem xp8:OpR X (compareOp .GtE) (rI0 fun i j=>.bl (decide (j≤i))):=opB0 fun _ _ _ _ _ _ _ q=>ge_int q
theorem xo1:OpR X (compareOp .Is) (fun x y H Q=>y = .non∧Q (.bl (decide (x = .non))) H):=by
  intro pins s σ H x y v u Q I rx ry h
  obtain ⟨rfl,q⟩:=h
  cases ry
  refine is_none_gen (xat I q ?_)
  cases x <;> first
    | (cases rx; rfl)
    | (obtain ⟨t,rfl⟩:=rx; rfl)
def isObj:HO→Bool
  | .lst _=>true
  | .ins _ _ _=>true
  | _=>false
theorem xaj (b:Expr) {op:CmpOp} (h:op≠.In:=by decide) (h2:op≠.NotIn:=by decide):behindInMarks op b = false:=by
  have e1:(op == CmpOp.In) = false:=by cases op <;> first | rfl | exact absurd rfl h
  have e2:(op == CmpOp.NotIn) = false:=by cases op <;> first | rfl | exact absurd rfl h2
  cases b <;> simp [behindInMarks,e1,e2]
theorem xbv {op:CmpOp} {r:R2} (ho:OpR X (compareOp op) r) (ha:PE X a ta) (hb:PE X b tb) (hm:behindInMarks op b = false):PE X (.Compare a [op] [b] pos) (tOp r ta tb):=by
  intro pins s σ H Q I h
  exact wpAny_Compare1 (binT ha hb I h fun v u s2 x y H2 I2 rx ry q=>ho pins s2 σ H2 x y v u Q I2 rx ry q) hm
def xpy (t:TE):TT:=fun σ H Q=>t σ H fun x H'=>∃ k,x = .bl k∧Q k H'
theorem xad {op:CmpOp} {r:R2} (ho:OpR X (compareOp op) r) (ha:PE X a ta) (hb:PE X b tb) (hm:behindInMarks op b = false):PT X (.Compare a [op] [b] pos) (xpy (tOp r ta tb)):=by
  intro pins s σ H Q I h
  refine wpAny_isTrue_Compare1 (thn (ha pins s σ H _ I h) fun v s1 ⟨x,H1,I1,r1,q1⟩=>thn (hb pins s1 σ H1 _ I1 q1) fun u s2 ⟨y,H2,I2,r2,q2⟩ =>
    thn (ho pins s2 σ H2 x y v u _ I2 r1 r2 q2) fun c s3 ⟨z,H3,I3,r3,k,e,q3⟩=>?_) hm
  subst e
  cases r3
  exact wpAny_truthy_bool ⟨H3,I3,q3⟩
def xoi (r r':R2) (ta tb tc:TE):TE:=fun σ H Q=>ta σ H fun x H1=>tb σ H1 fun y H2=>r x y H2 fun z H3=>∃ k,z = .bl k ∧
  (if k = true then tc σ H3 fun w' H4=>r' y w' H4 Q else Q (.bl false) H3)
theorem xb9 {op op':CmpOp} {r r':R2} (ho:OpR X (compareOp op) r) (ho':OpR X (compareOp op') r') (ha:PE X a ta) (hb:PE X b tb) (hc:PE X c tc)
    (hm:lastMarks [op,op'] [b,c] = false:=by with_unfolding_all rfl):PE X (.Compare a [op,op'] [b,c] pos) (xoi r r' ta tb tc):=by
  intro pins s σ H Q I h
  refine Compare_chain (thn (ha pins s σ H _ I h) fun v s1 ⟨x,H1,I1,r1,q1⟩=>chain_link (thn (hb pins s1 σ H1 _ I1 q1) fun u s2 ⟨y,H2,I2,r2,q2⟩ =>
    thn (ho pins s2 σ H2 x y v u _ I2 r1 r2 q2) fun d s3 ⟨z,H3,I3,r3,k,e,q3⟩=>?_)) hm
  subst e
  cases r3
  refine wpAny_truthy_bool ?_
  cases k with
  | false=>exact ite_ff ⟨.bl false,H3,I3,rfl,q3⟩
  | true=>exact ite_tt (chain_last (thn (hc pins s3 σ H3 _ I3 q3) fun w' s4 ⟨z',H4,I4,r4,q4⟩=>ho' pins s4 σ H4 y z' u w' Q I4 r2 r4 q4))
theorem xdx:(sizeLine:Nat) < 2 ^ 63:=by rw [sizeLine_eq]; decide
theorem xc7 {x:V} {us:List Value} (r:Vals [x] us):∃ u,us = [u]∧RelV x u:=by
  cases r with
  | cons r1 r2=>cases r2; exact ⟨_,rfl,r1⟩
theorem xi9 {x y:V} {us:List Value} (r:Vals [x,y] us):∃ u w',us = [u,w']∧RelV x u∧RelV y w':=by
  cases r with
  | cons r1 r2 =>
    cases r2 with
    | cons r3 r4=>cases r4; exact ⟨_,_,rfl,r1,r3⟩
theorem xh2:xb6 X (.builtin "abs") (fun xs H Q=>∃ i,xs = [.int i]∧Q (.int (if i < 0 then -i else i)) H):=by
  intro pins s σ H xs us Q I r h
  obtain ⟨i,rfl,q⟩:=h
  obtain ⟨u,rfl,t,rfl⟩:=xc7 r
  exact call_abs_int fun u tk=>⟨.int (if i < 0 then -i else i),H,I.tok _,⟨_,rfl⟩,q⟩
theorem xep (hc:X.calm = true):xb6 X (.builtin "max") (fun xs H Q=>∃ i j,xs = [.int i,.int j]∧Q (.int (if j > i then j else i)) H):=by
  intro pins s σ H xs us Q I r h
  obtain ⟨i,j,rfl,q⟩:=h
  obtain ⟨u,w',rfl,⟨t,rfl⟩,⟨t',rfl⟩⟩:=xi9 r
  refine max_two_ints (I.ok.hd hc) fun h' tk k=>⟨_,H,I.kept k,?_,q⟩
  by_cases hj:j > i
  · rw [if_pos hj,if_pos hj]; exact ⟨_,rfl⟩
  · rw [if_neg hj,if_neg hj]; exact ⟨_,rfl⟩
theorem xkp (hc:X.calm = true):xb6 X (.builtin "min") (fun xs H Q=>∃ i j,xs = [.int i,.int j]∧Q (.int (if j < i then j else i)) H):=by
  intro pins s σ H xs us Q I r h
  obtain ⟨i,j,rfl,q⟩:=h
  obtain ⟨u,w',rfl,⟨t,rfl⟩,⟨t',rfl⟩⟩:=xi9 r
  refine min_two_ints (I.ok.hd hc) fun h' tk k=>⟨_,H,I.kept k,?_,q⟩
  by_cases hj:j < i
  · rw [if_pos hj,if_pos hj]; exact ⟨_,rfl⟩
  · rw [if_neg hj,if_neg hj]; exact ⟨_,rfl⟩
theorem xj5:xb6 X (.type "int") (fun xs H Q=>(∃ i,xs = [.int i]∧Q (.int i) H)∨∃ k,xs = [.bl k]∧Q (.int (if k then 1 else 0)) H):=by
  intro pins s σ H xs us Q I r h
  rcases h with ⟨i,rfl,q⟩ | ⟨k,rfl,q⟩
  · obtain ⟨u,rfl,t,rfl⟩:=xc7 r
    exact call_int_int ⟨.int i,H,I,⟨_,rfl⟩,q⟩
  · obtain ⟨u,rfl,r1⟩:=xc7 r
    cases r1
    exact call_int_bool ⟨.int (if k then 1 else 0),H,I.tok _,⟨_,rfl⟩,q⟩
end
end L2
namespace L2
open PySem PySem.Spec PyProof.Rows
variable {q0:Bool}
structure ObjM (h:Heap) (x dx C:Addr) (mA:Str→Option Value):Prop where
  obj:h.get? x = some (PySem.W.instObj C dx)
  ns:h.Ns1 dx mA
  ne:dx≠x
theorem xgu {h:Heap} {dx:Addr} {mA:Str→Option Value} (n:h.Ns1 dx mA):∃ od,h.get? dx = some od∧∀ name,PySem.W.lookIn name od = some (mA name):=by
  obtain ⟨o,es,ep,ho,hd,hk,_,hm⟩:=n
  refine ⟨o,ho,fun name=>?_⟩
  have e:=hm name
  unfold nsFind findBy at e
  rw [← Array.find?_toList] at e
  unfold PySem.W.lookIn
  rw [hd]
  dsimp only
  split
  · rename_i y q
    rw [q] at e
    exact congrArg some e
  · rename_i q
    rw [q] at e
    have a:es.toList.any (·.refKey) = false:=by
      rw [List.any_eq_false]
      intro y hy
      obtain ⟨z,t,hkey⟩:=hk y (Array.mem_toList_iff.mp hy)
      simp [DictEntry.refKey,hkey]
    have a':¬ es.toList.any (·.refKey) = true:=by rw [a]; exact Bool.false_ne_true
    rw [if_neg a']
    exact congrArg some e
theorem ObjM.look {h:Heap} {x dx C:Addr} {mA:Str→Option Value} (I:ObjM h x dx C mA):∃ od,PySem.W.InstAt h x (PySem.W.instObj C dx) C (some od)∧∀ name,PySem.W.lookIn name od = some (mA name) :=
  let ⟨od,ho,hl⟩:=xgu I.ns
  ⟨od,⟨I.obj,rfl,rfl,ho⟩,hl⟩
section
variable {prog:Program} {w:World} {A:Around} {E:Value→Shared→Prop} {s:Shared} {K:PySem.W.Frag} {x dx C f:Addr} {mA:Str→Option Value} {name:Str} {v:Value}
theorem xnn {expr:Bool} {Q:Value→Shared→Prop} (X:K.In s.heap) (I:ObjM s.heap x dx C mA) (hg:PySem.W.plainGet K C name = true) (hh:PySem.W.hasDictIn K C = true)
    (ha:PySem.W.findIn K (.ref C) name = some none) (hv:mA name = some v) (hv':PySem.W.handedIn v = true) (h:Q v { s with toks:=s.toks + 1 }) :
    wpAny (model prog w) A (getAttr (.ref x) name expr) Q E s:=by
  obtain ⟨od,J,hl⟩:=I.look
  exact PySem.W.get_value X J (PySem.W.plainGet_of hg).1 (PySem.W.findObj_own hh ha rfl (by rw [hl,hv])) hv' h
theorem xl2 {pl:Sem Bool} {Q:Value × List Value→Shared→Prop} (X:K.In s.heap) (I:ObjM s.heap x dx C mA) (hg:PySem.W.plainGet K C name = true)
    (hf:PySem.W.findIn K (.ref C) name = some (some (.ref f))) (ht:PySem.W.isFn K (.ref f) = true) (hv:mA name = none) (h:Q (.ref f,[.ref x]) s) :
    wpAny (model prog w) A (getMethod (.ref x) name pl) Q E s:=by
  obtain ⟨od,J,hl⟩:=I.look
  exact PySem.W.method_fn X J (PySem.W.plainGet_of hg).1 (PySem.W.plainGet_of hg).2 hf (beq_iff_eq.mp ht) (by show (PySem.W.lookIn name od).map (·.isSome) = some false; rw [hl,hv]; rfl) h
theorem xnd {ns:List Str} {Q:Unit→Shared→Prop} (X:K.In s.heap) (I:ObjM s.heap x dx C mA)
    (hs:PySem.W.findIn K (.ref C) "__setattr__" = some (some (.builtin "object.__setattr__"))) (hp:PySem.W.plainOver K C = true) (ht:PySem.W.takerIn K C name = some none) (hh:PySem.W.hasDictIn K C = true)
    (hw:PySem.Within mA ns) (hsz:ns.length≤sizeLine)
    (h:∀ h',ObjM h' x dx C (fun y=>if y = name then some v else mA y)→Heap.SameBut dx s.heap h'→Q () { s with heap:=h',toks:=s.toks + 2 }) :
    wpAny (model prog w) A (setAttr (.ref x) name v) Q E s:=by
  obtain ⟨od,J,hl⟩:=I.look
  refine PySem.W.set_plain X J hs (PySem.W.osa_open (s:={ s with toks:=s.toks + 1 }) (r:=none) X J hp ht fun b=>?_)
  obtain ⟨cd,hc,hd'⟩:=PySem.W.any_some hh
  have hx:s.heap.get? x = some ⟨.ref C,some dx,.plain,#[]⟩:=I.obj
  refine wpAny_bind (wpAny_pure (wpAny_bind (wpAny_bind (wpAny_loadPart hx (wpAny_bind (PySem.W.Looks.here (s:={ s with toks:=s.toks + 1 }) (PySem.W.looks_clsIn X hc) ?_))))))
  rw [hd']
  refine wpAny_pure (a:=some dx) (wpAny_bind (wpAny_pure (wpAny_bind ?_)))
  refine wpAny_nsSet1 (s:={ s with toks:=s.toks + 1 }) I.ns fun h' hn2 hs2=>?_
  obtain ⟨oD,esD,epD,hoD,hdD,hcD⟩:=hn2.count (PySem.Within.cons name v hw)
  refine wpAny_bind (wpAny_lookBehind hoD (by rw [hdD]; exact pastItsLine_dict (Nat.le_trans hcD (by rw [List.length_cons]; omega))) ?_)
  exact wpAny_pure (h _ ⟨(hs2.2 _ (Ne.symm I.ne)).trans I.obj,hn2,I.ne⟩ hs2)
theorem xlc {R:Result→Shared→Prop} {vs:List Value} {kw:List (Str × Value)} (X:K.In s.heap) (hm:PySem.W.makesIn K C = true)
    (hi:PySem.W.findIn K (.ref C) "__init__" = some (some (.ref f))) (hf:PySem.W.typeIn K (.ref f) = some (.type "function"))
    (h:codeAny (model prog w) (A.under (.builtin "type.__call__" ⟨.ref C :: vs,kw⟩)) (.call (.ref f) ⟨.ref (s.heap.objs.size + 1) :: vs,kw⟩) (PySem.W.InitBack (s.heap.objs.size + 1) R)
      { s with heap:=(s.heap.push PySem.W.emptyDict).push (PySem.W.instObj C s.heap.objs.size) }) :
    codeAny (model prog w) A (.call (.ref C) ⟨vs,kw⟩) R s:=by
  obtain ⟨hh,g,d,t,os⟩:=s
  exact PySem.W.make_core (PySem.W.makes_of X hm) (PySem.W.looks_findIn X hi) (fun self=>PySem.W.bind_fn X self hf) (.inl rfl) h
end
def putF (f:Str) (v:V):List (Str × V)→List (Str × V)
  | []=>[(f,v)]
  | (g,x) :: r=>if g = f then (g,v) :: r else (g,x) :: putF f v r
theorem xdu (f g:Str) (v:V):∀ fs:List (Str × V),(putF f v fs).lookup g = if g = f then some v else fs.lookup g
  | []=>by
    show List.lookup g [(f,v)] = _
    by_cases h:g = f
    · have hb:(g == f) = true:=beq_iff_eq.mpr h
      simp only [List.lookup,hb,if_pos h]
    · have hb:(g == f) = false:=beq_eq_false_iff_ne.mpr h
      simp only [List.lookup,hb,if_neg h]
  | (k,x) :: r=>by
    have ih:=xdu f g v r
    rw [show putF f v ((k,x) :: r) = (if k = f then (k,v) :: r else (k,x) :: putF f v r) from rfl]
    by_cases hk:k = f
    · rw [if_pos hk]
      by_cases h:g = k
      · have hb:(g == k) = true:=beq_iff_eq.mpr h
        simp only [List.lookup,hb,if_pos (h.trans hk)]
      · have hb:(g == k) = false:=beq_eq_false_iff_ne.mpr h
        simp only [List.lookup,hb,if_neg (fun e:g = f=>h (e.trans hk.symm))]
    · rw [if_neg hk]
      by_cases h:g = k
      · have hb:(g == k) = true:=beq_iff_eq.mpr h
        simp only [List.lookup,hb,if_neg (fun e:g = f=>hk (h.symm.trans e))]
      · have hb:(g == k) = false:=beq_eq_false_iff_ne.mpr h
        simp only [List.lookup,hb]
        exact ih
theorem xc3 (f:Str) (v:V):∀ fs:List (Str × V),f ∈ (putF f v fs).map (·.1)∧∀ g,g ∈ fs.map (·.1)→g ∈ (putF f v fs).map (·.1)
  | []=>⟨by simp [putF],fun g h=>by simp at h⟩
  | (k,x) :: r=>by
    obtain ⟨i1,i2⟩:=xc3 f v r
    rw [show putF f v ((k,x) :: r) = (if k = f then (k,v) :: r else (k,x) :: putF f v r) from rfl]
    by_cases hk:k = f
    · rw [if_pos hk]
      subst hk
      exact ⟨by simp,fun g h=>by simpa using h⟩
    · rw [if_neg hk]
      refine ⟨?_,fun g h=>?_⟩
      · rw [List.map_cons]
        exact List.mem_cons_of_mem _ i1
      · rw [List.map_cons] at h ⊢
        rcases List.mem_cons.mp h with e | e
        · exact List.mem_cons.mpr (.inl e)
        · exact List.mem_cons_of_mem _ (i2 g e)
theorem xdw (f:Str) (v:V):∀ fs:List (Str × V),(putF f v fs).length≤fs.length + 1
  | []=>by simp [putF]
  | (k,x) :: r=>by
    have ih:=xdw f v r
    rw [show putF f v ((k,x) :: r) = (if k = f then (k,v) :: r else (k,x) :: putF f v r) from rfl]
    by_cases hk:k = f
    · rw [if_pos hk,List.length_cons,List.length_cons]; omega
    · rw [if_neg hk,List.length_cons,List.length_cons]; omega
theorem RelO.some_of {v:V} {o:Option Value} (r:RelO (some v) o):∃ u,o = some u∧RelV v u:=by
  cases o with
  | none=>exact (show False from r).elim
  | some u=>exact ⟨u,rfl,r⟩
theorem RelO.none_of {o:Option Value} (r:RelO none o):o = none:=by
  cases o with
  | none=>rfl
  | some u=>exact (show False from r).elim
theorem xg1 {v:V} {u:Value} (r:RelV v u):PySem.W.handedIn u = true:=by
  cases v with
  | non=>cases (show u = Value.none from r); rfl
  | bl b=>cases (show u = Value.bool b from r); rfl
  | int i=>obtain ⟨t,e⟩:=(show ∃ t,u = Value.int i t from r); cases e; rfl
  | str x=>obtain ⟨t,e⟩:=(show ∃ t,u = Value.str x t from r); cases e; rfl
  | byt b=>obtain ⟨t,e⟩:=(show ∃ t,u = Value.bytes b t from r); cases e; rfl
  | flt b=>obtain ⟨t,e⟩:=(show ∃ t,u = Value.float b t from r); cases e; rfl
  | ref a=>cases (show u = Value.ref a from r); rfl
  | ty n=>cases (show u = Value.type n from r); rfl
section
variable {P:Program} {w:World} {H H':Hp} {h h':Heap} {a C dx:Addr} {fs fs':List (Str × V)}
theorem xe2 (hok:HOk P w H h) (e:H a = some (.ins C dx fs)):∃ mA,ObjM h a dx C mA∧(∀ f,RelO (fs.lookup f) (mA f))∧PySem.Within mA (fs.map (·.1))∧fs.length≤1000∧H dx = some (.own a):=by
  obtain ⟨d,z,ne,ob,mA,n,r,q⟩:=(show xa3 P w H h a (.ins C dx fs) from hok a _ e)
  exact ⟨mA,⟨ob,n,ne⟩,r,q,z,d⟩
end
structure Cls (K:PySem.W.Frag) (C:Addr):Prop where
  pg:PySem.W.plainGet K C Str.empty = true
  hd:PySem.W.hasDictIn K C = true
  po:PySem.W.plainOver K C = true
  sa:PySem.W.findIn K (.ref C) "__setattr__" = some (some (.builtin "object.__setattr__"))
theorem Cls.get {K:PySem.W.Frag} {C:Addr} (c:Cls K C) (f:Str):PySem.W.plainGet K C f = true:=c.pg
def xdd (K:PySem.W.Frag) (C:Addr) (f:Str):Prop:=PySem.W.findIn K (.ref C) f = some none
theorem xdd.taker {K:PySem.W.Frag} {C:Addr} {f:Str} (n:xdd K C f):PySem.W.takerIn K C f = some none:=by
  unfold PySem.W.takerIn
  rw [show PySem.W.findIn K (.ref C) f = some none from n]
  rfl
structure Meth (K:PySem.W.Frag) (C:Addr) (m:Str) (f:Addr):Prop where
  at_:PySem.W.findIn K (.ref C) m = some (some (.ref f))
  fn:PySem.W.isFn K (.ref f) = true
  kp:PySem.W.keepIn K (.ref f) = true
section
variable {X:Cx} {pins:List (Addr × Obj)} {σ:St} {H:Hp} {s:Shared} {a C dx:Addr} {fs:List (Str × V)} {f:Str} {v:V} {A:Around} {E:Value→Shared→Prop}
theorem xi4 {b:Bool} {Q:Value→Shared→Prop} (I:Inv X pins σ H s) (e:H a = some (.ins C dx fs)) (c:Cls X.K C) (n:xdd X.K C f) (l:fs.lookup f = some v)
    (h:∀ u s',Inv X pins σ H s'→RelV v u→Q u s'):wpAny (model X.prog X.w) A (getAttr (.ref a) f b) Q E s:=by
  obtain ⟨mA,O,r,_,_,_⟩:=xe2 I.hok e
  obtain ⟨u,hu,ru⟩:=RelO.some_of (v:=v) (o:=mA f) (by rw [← l]; exact r f)
  exact xnn I.kIn O (c.get f) c.hd n hu (xg1 ru) (h u _ (I.tok _) ru)
theorem xfk {m:Str} {g:Addr} {pl:Sem Bool} {Q:Value × List Value→Shared→Prop} (I:Inv X pins σ H s) (e:H a = some (.ins C dx fs)) (c:Cls X.K C) (k:Meth X.K C m g) (l:fs.lookup m = none)
    (h:Q (.ref g,[.ref a]) s):wpAny (model X.prog X.w) A (getMethod (.ref a) m pl) Q E s:=by
  obtain ⟨mA,O,r,_,_,_⟩:=xe2 I.hok e
  have hn:mA m = none:=RelO.none_of (by rw [← l]; exact r m)
  exact xl2 I.kIn O (c.get m) k.at_ k.fn hn h
theorem xjd {y:V} {u:Value} {Q:Unit→Shared→Prop} (I:Inv X pins σ H s) (e:H a = some (.ins C dx fs)) (c:Cls X.K C) (n:xdd X.K C f) (hl:fs.length < 1000) (ry:RelV y u)
    (h:∀ s',Inv X pins σ (upd H a (.ins C dx (putF f y fs))) s'→Q () s'):wpAny (model X.prog X.w) A (setAttr (.ref a) f u) Q E s:=by
  obtain ⟨mA,O,r,wi,_,ho⟩:=xe2 I.hok e
  have hz:(fs.map (·.1)).length≤sizeLine:=by rw [List.length_map,sizeLine_eq]; omega
  refine xnd I.kIn O c.sa c.po n.taker c.hd wi hz fun h' O' sb=>h _ ?_
  have hd:∃ o,h'.get? dx = some o:=let ⟨o,_,_,e',_⟩:=O'.ns; ⟨o,e'⟩
  refine I.write (x:=a) (e:=dx) (by rw [e]; exact True.intro) (.inr ho) (fun b q hb z=>(sb.2 b hb).trans z) hd ?_
  refine ⟨by rw [xm O.ne]; exact ho,?_,O.ne,O'.obj,_,O'.ns,fun g=>?_,fun g hg=>?_⟩
  · have:=xdw f y fs; omega
  · show RelO ((putF f y fs).lookup g) (if g = f then some u else mA g)
    rw [xdu]
    by_cases q:g = f
    · rw [if_pos q,if_pos q]; exact ry
    · rw [if_neg q,if_neg q]; exact r g
  · by_cases q:g = f
    · rw [q]; exact (xc3 f y fs).1
    · refine (xc3 f y fs).2 g (wi g fun z=>hg ?_)
      show (if g = f then some u else mA g) = none
      rw [if_neg q]; exact z
theorem Inv.made (I:Inv X pins σ H s):Inv X pins σ (upd (upd H s.heap.objs.size (.own (s.heap.objs.size + 1))) (s.heap.objs.size + 1) (.ins C s.heap.objs.size []))
    { s with heap:=(s.heap.push PySem.W.emptyDict).push (PySem.W.instObj C s.heap.objs.size) }:=by
  have e1:(s.heap.push PySem.W.emptyDict).get? s.heap.objs.size = some PySem.W.emptyDict:=Heap.get?_push_size s.heap rfl
  have e2:((s.heap.push PySem.W.emptyDict).push (PySem.W.instObj C s.heap.objs.size)).get? (s.heap.objs.size + 1) = some (PySem.W.instObj C s.heap.objs.size):=by
    have:=Heap.get?_push_size (s.heap.push PySem.W.emptyDict) (o:=PySem.W.instObj C s.heap.objs.size) rfl
    rwa [Heap.size_push] at this
  have e3:(s.heap.push PySem.W.emptyDict).Ns s.heap.objs.size (fun _=>none):=⟨PySem.W.emptyDict,#[],_,e1,rfl,(fun e he=>absurd he (by simp)),fun _=>rfl⟩
  have I1:=I.laid (a:=s.heap.objs.size) (o:=.own (s.heap.objs.size + 1)) (h':=s.heap.push PySem.W.emptyDict) (t':=s.toks) (fun b u q=>Heap.get?_push_of_some _ q) (Nat.le_refl _) ⟨_,e1⟩
  refine I1.laid (a:=s.heap.objs.size + 1) (o:=.ins C s.heap.objs.size []) (t':=s.toks) (fun b u q=>Heap.get?_push_of_some _ q) (Nat.le_of_eq (Heap.size_push _ _)) ?_
  have ne:s.heap.objs.size≠s.heap.objs.size + 1:=Nat.ne_of_lt (Nat.lt_succ_self _)
  refine ⟨by rw [xm ne,xg],Nat.zero_le _,ne,e2,fun _=>none,(Heap.Ns1.of_empty e3).at fun o q=>Heap.get?_push_of_some _ q,fun _=>True.intro,fun y hy=>absurd rfl hy⟩
theorem xik {prog:Program} {w:World} {env:Env} {e:Expr} {f:Str} {pos:Pos} {s:Shared} {Q:Value→Shared→Prop} (hb:attributeBase e f env (eval e env) = eval e env)
    (h:wpAny (model prog w) A (eval e env) (fun o s₁=>wpAny (model prog w) A (getAttr o f true) Q E s₁) E s):wpAny (model prog w) A (eval (.Attribute e f pos) env) Q E s :=
  Attribute_any_ h (by rw [arm_eval_Attribute,hb])
end
def tFld (K:PySem.W.Frag) (ta:TE) (f:Str):TE:=fun σ H Q=>ta σ H fun x H1=>∃ a C dx fs v,x = .ref a∧H1 a = some (.ins C dx fs)∧Cls K C∧xdd K C f∧fs.lookup f = some v∧Q v H1
def sFld (K:PySem.W.Frag) (ta tv:TE) (f:Str):TS:=fun D σ H=>tv σ H fun y H1=>ta σ H1 fun x H2=>∃ a C dx fs,x = .ref a∧H2 a = some (.ins C dx fs)∧Cls K C∧xdd K C f∧fs.length < 1000 ∧
  D.nx σ (upd H2 a (.ins C dx (putF f y fs)))
section
variable {X:Cx} {o e value:Expr} {f:Str} {pos pos' tpos:Pos} {ta tv:TE}
theorem xao (he:PE X e ta) (hb:attributeBase e f X.env (eval e X.env) = eval e X.env):PE X (.Attribute e f pos) (tFld X.K ta f):=by
  intro pins s σ H Q I h
  refine xik hb (thn (he pins s σ H _ I h) fun u s1 ⟨x,H1,I1,rx,a,C,dx,fs,v,ex,ea,c,n,l,q⟩=>?_)
  subst ex
  obtain rfl:u = Value.ref a:=rx
  exact xi4 I1 ea c n l fun u' s2 I2 ru=>⟨v,H1,I2,ru,q⟩
theorem xeo (ha:PE X o ta) (hv:PE X value tv) (hs:swapsWith value (some (.Attribute o f pos')) pos.line X.env = pure false):PS X (.Assign [.Attribute o f pos'] value pos) (sFld X.K ta tv f):=by
  intro pins s σ H D I h
  refine plainObj_wpAny_Assign_Attribute (thn (hv pins s σ H _ I h) fun u s1 ⟨y,H1,I1,ry,q⟩=>thn (ha pins s1 σ H1 _ I1 q) fun ov s2 ⟨x,H2,I2,rx,a,C,dx,fs,ex,ea,c,n,l,q2⟩=>?_) hs
  subst ex
  obtain rfl:ov = Value.ref a:=rx
  exact xjd I2 ea c n l ry fun s3 I3=>⟨σ,_,I3,q2⟩
end
section
variable {X:Cx} {pins:List (Addr × Obj)} {σ:St} {H:Hp} {s:Shared} {A:Around} {E:Value→Shared→Prop} {Q:Value→Shared→Prop} {c:Value} {b:Bool}
inductive TyOf (K:PySem.W.Frag) (H:Hp):V→Value→Prop where
  | non:TyOf K H .non (.type "NoneType")
  | bl (x:Bool):TyOf K H (.bl x) (.type "bool")
  | int (i:Int):TyOf K H (.int i) (.type "int")
  | str (x:Str):TyOf K H (.str x) (.type "str")
  | flt (x:UInt64):TyOf K H (.flt x) (.type "float")
  | lst {a:Addr} {xs:List V} (e:H a = some (.lst xs)):TyOf K H (.ref a) (.type "list")
  | frz {a:Addr} {o:Obj} {xs:List V} (e:H a = some (.frz o (.lst xs))):TyOf K H (.ref a) (.type "list")
  | tup {a:Addr} {xs:List V} (e:H a = some (.tup xs)):TyOf K H (.ref a) (.type "tuple")
  | dK {a:Addr} {kvs:List (Key × V)} (e:H a = some (.dK kvs)):TyOf K H (.ref a) (.type "dict")
  | dT {a:Addr} {kvs:List (List Key × V)} (e:H a = some (.dT kvs)):TyOf K H (.ref a) (.type "dict")
  | ins {a C dx:Addr} {fs:List (Str × V)} (e:H a = some (.ins C dx fs)) (cl:Cls K C) (ha:PySem.W.findIn K (.ref C) "__class__" = some (some (.builtin "object.__class__")))
      (hn:PySem.W.specialIn K (.builtin "object.__class__") "__get__" = some (some (.builtin "getset_descriptor.__get__"))) (htk:PySem.W.takesIn K (.builtin "object.__class__") = some true)
      (hm:PySem.W.mroIn K C (.type "object") = some true):TyOf K H (.ref a) (.ref C)
theorem xj4 {x:V} {u t:Value} (I:Inv X pins σ H s) (rx:RelV x u) (ty:TyOf X.K H x t) (e:PySem.W.kitOne X.K t c = some b) (h:∀ tk,Q (.bool b) { s with toks:=tk }) :
    wpAny (model X.prog X.w) A (call (.builtin "isinstance") [u,c]) Q E s:=by
  cases ty with
  | non=>cases (show u = Value.none from rx); exact PySem.W.kia_one PySem.W.kitx_none I.kIn True.intro e (fun z=>nomatch z) h
  | bl y=>cases (show u = Value.bool y from rx); exact PySem.W.kia_one PySem.W.kitx_bool I.kIn True.intro e (fun z=>nomatch z) h
  | int i=>obtain ⟨t,q⟩:=(show ∃ t,u = Value.int i t from rx); cases q; exact PySem.W.kia_one PySem.W.kitx_int I.kIn True.intro e (fun z=>nomatch z) h
  | str y=>obtain ⟨t,q⟩:=(show ∃ t,u = Value.str y t from rx); cases q; exact PySem.W.kia_one PySem.W.kitx_str I.kIn True.intro e (fun z=>nomatch z) h
  | flt y=>obtain ⟨t,q⟩:=(show ∃ t,u = Value.float y t from rx); cases q; exact PySem.W.kia_one PySem.W.kitx_float I.kIn True.intro e (fun z=>nomatch z) h
  | @lst a xs ea =>
    cases (show u = Value.ref a from rx)
    obtain ⟨_,_,n,_,h1⟩:=(show xa3 X.prog X.w H s.heap a (.lst xs) from I.hok a _ ea)
    exact PySem.W.kia_one PySem.W.kitx_list I.kIn ⟨_,h1,rfl⟩ e (fun z=>nomatch z) h
  | @frz a ob xs ea =>
    cases (show u = Value.ref a from rx)
    obtain ⟨_,_,_,n,_,h1⟩:=(show xa3 X.prog X.w H s.heap a (.frz ob (.lst xs)) from I.hok a _ ea)
    exact PySem.W.kia_one PySem.W.kitx_list I.kIn ⟨_,h1,rfl⟩ e (fun z=>nomatch z) h
  | @tup a xs ea =>
    cases (show u = Value.ref a from rx)
    obtain ⟨_,_,_,p⟩:=(show xa3 X.prog X.w H s.heap a (.tup xs) from I.hok a _ ea)
    obtain ⟨o,h1,h2,_⟩:=p
    exact PySem.W.kia_one PySem.W.kitx_tuple I.kIn ⟨o,h1,h2⟩ e (fun z=>nomatch z) h
  | @dK a kvs ea =>
    cases (show u = Value.ref a from rx)
    obtain ⟨_,_,vs,_,p⟩:=(show xa3 X.prog X.w H s.heap a (.dK kvs) from I.hok a _ ea)
    obtain ⟨o,es,ep,h1,h2,_⟩:=p
    exact PySem.W.kia_one PySem.W.kitx_dict I.kIn ⟨o,h1,h2.1⟩ e (fun z=>nomatch z) h
  | @dT a kvs ea =>
    cases (show u = Value.ref a from rx)
    obtain ⟨_,_,xs,_,o,es,ep,h1,h2,_⟩:=(show xa3 X.prog X.w H s.heap a (.dT kvs) from I.hok a _ ea)
    exact PySem.W.kia_one PySem.W.kitx_dict I.kIn ⟨o,h1,h2.1⟩ e (fun z=>nomatch z) h
  | @ins a C dx fs ea cl ha hn htk hm =>
    cases (show u = Value.ref a from rx)
    obtain ⟨mA,O,_⟩:=xe2 I.hok ea
    obtain ⟨od,J,_⟩:=O.look
    exact PySem.W.kia_one (PySem.W.kitx_own (cl.get _) cl.hd ha hn htk hm) I.kIn J e (fun z=>nomatch z) h
end
end L2
namespace L2
open PySem PySem.Spec PyProof.Rows
variable {q0:Bool}
structure Room (q0:Bool) (k:Nat) (A:Around):Prop where
  hd:q0 = true→A.handled = none
  dp:A.depth + 3 * k + 5 < recursionLimit
  un:A.units + 16 * k + 200 < cLine
theorem Room.mono {j k:Nat} {A:Around} (r:Room q0 k A) (h:j≤k):Room q0 j A:=⟨r.hd,by have:=r.dp; omega,by have:=r.un; omega⟩
theorem Room.deeper {k:Nat} {A:Around} (r:Room q0 (k + 1) A) (env:Env):Room q0 k (A.deeper env) :=
  ⟨r.hd,by have:=r.dp; show A.depth + 1 + 3 * k + 5 < _; omega,by have:=r.un; show A.units + 3 + 16 * k + 200 < _; omega⟩
theorem xi7 {A:Around} {C:Addr} {us:List Value} {kw:List (Str × Value)}:(A.under (.builtin "type.__call__" ⟨.ref C :: us,kw⟩)).depth = A.depth + 1:=by
  first | rfl | simp [Around.under,Code.weight,Code.isCreation,Code.isGuard,Code.isCaller,Code.frames,Code.isFrame,guardIds]
theorem xi1 {A:Around} {C:Addr} {us:List Value} {kw:List (Str × Value)}:(A.under (.builtin "type.__call__" ⟨.ref C :: us,kw⟩)).units = A.units + 1:=by
  first | rfl | simp [Around.under,Code.cUnits,Code.frames,Code.isFrame]
theorem Room.make {k:Nat} {A:Around} (r:Room q0 (k + 1) A) (C:Addr) (us:List Value) (kw:List (Str × Value)):Room q0 k (A.under (.builtin "type.__call__" ⟨.ref C :: us,kw⟩)) :=
  ⟨r.hd,by have:=r.dp; rw [xi7]; omega,by have:=r.un; rw [xi1]; omega⟩
theorem Room.depth {k:Nat} {A:Around} (r:Room q0 k A):A.depth < recursionLimit:=by have:=r.dp; omega
theorem Room.units {k:Nat} {A:Around} (r:Room q0 k A):A.units + 64 < cLine:=by have:=r.un; omega
def tNil:TA:=fun _ H Q=>Q [] H
def xmg (ta:TE) (tr:TA):TA:=fun σ H Q=>ta σ H fun x H1=>tr σ H1 fun xs H2=>Q (x :: xs) H2
section
variable {X:Cx} {e:Expr} {es:List Expr} {te:TE} {t:TA} {pos:Pos}
theorem xh:PA X [] tNil:=fun _ _ _ _ H Q I h=>Calls.spliced_nil ⟨[],H,I,.nil,h⟩
theorem xf (ha:PE X e te) (hr:PA X es t) (hs:starEach (e :: es) X.env = (false,eval e X.env) :: starEach es X.env:=by rfl):PA X (e :: es) (xmg te t):=by
  intro pos pins s σ H Q I h
  rw [hs]
  show wpAny _ _ (spliced ((false,eval e X.env) :: backTo pos (starEach es X.env))) _ _ s
  refine Calls.spliced_cons (thn (ha pins s σ H _ I h) fun u s1 ⟨x,H1,I1,r1,q1⟩=>?_)
  exact thn (hr pos pins s1 σ H1 _ I1 q1) fun us s2 ⟨xs,H2,I2,r2,q2⟩=>⟨x :: xs,H2,I2,.cons r1 r2,q2⟩
def tTup (t:TA):TE:=fun σ H Q=>t σ H fun xs H1=>xs.length≤sizeLine∧∀ p,H1 p = none→Q (.ref p) (upd H1 p (.tup xs))
def tLst (t:TA):TE:=fun σ H Q=>t σ H fun xs H1=>xs.length≤sizeLine∧∀ p,H1 p = none→Q (.ref p) (upd H1 p (.lst xs))
theorem xa1 {x1} (h:PA X es t):PE X (.Tuple es x1 pos) (tTup t):=by
  intro pins s σ H Q I hq
  refine wpAny_Tuple_spliced (thn (h pos pins s σ H _ I hq) fun us s1 ⟨xs,H1,I1,r,z,q⟩=>⟨by rw [← r.length]; exact z,?_⟩)
  have hf:H1 s1.heap.objs.size = none:=I1.hok.fresh (Nat.le_refl _)
  refine ⟨.ref s1.heap.objs.size,upd H1 s1.heap.objs.size (.tup xs),I1.laid (t':=s1.toks) (fun b u e=>Heap.get?_push_of_some _ e) (Nat.le_refl _) ?_,rfl,q _ hf⟩
  exact ⟨z,us,r,⟨_,Heap.get?_push_size _ rfl,rfl,_,rfl⟩⟩
theorem xac (h:PA X es t):PE X (.List es pos) (tLst t):=by
  intro pins s σ H Q I hq
  refine wpAny_List_spliced (thn (h pos pins s σ H _ I hq) fun us s1 ⟨xs,H1,I1,r,z,q⟩=>⟨by rw [← r.length]; exact z,?_⟩)
  have hf:H1 s1.heap.objs.size = none:=I1.hok.fresh (Nat.le_refl _)
  refine ⟨.ref s1.heap.objs.size,upd H1 s1.heap.objs.size (.lst xs),I1.laid (t':=s1.toks) (fun b u e=>Heap.get?_push_of_some _ e) (Nat.le_refl _) ?_,rfl,q _ hf⟩
  exact ⟨z,us,0,r,Heap.get?_push_size _ rfl⟩
end
abbrev Sp:=List V→Hp→VK→XK→Prop
abbrev CXT:=List Env→Hp→Shared→XK→Value→Shared→Prop
structure Env0 (P:Program) (w:World) (K:PySem.W.Frag) (mg:Str→Option Value) (base:Heap) (A:Around) (outer:List Env) (s:Shared) (H:Hp):Prop where
  frames:A.frames = some outer
  mod:Mod K mg base
  bs:∀ b o,base.get? b = some o→s.heap.get? b = some o∧H b = none
  bsz:base.objs.size≤s.heap.objs.size
  funs:s.heap.FunFrames base outer
  frf:∀ b ∈ frs outer,H b = none
  hok:HOk P w H s.heap
  bare:AllBare s.gens
def CE (outer:List Env) (P:Program) (w:World) (H:Hp) (s:Shared) (Q:VK) (u:Value) (s':Shared):Prop :=
  ∃ v H',s'.os = s.os∧AllBare s'.gens∧Un (frs outer) [] H H' s.heap s'.heap∧HOk P w H' s'.heap∧RelV v u∧Q v H'
def CR (CX:CXT) (outer:List Env) (P:Program) (w:World) (H:Hp) (s:Shared) (Q:VK) (E:XK) (r:Result) (s':Shared):Prop :=
  match r with
  | .ok (.ret u)=>CE outer P w H s Q u s'
  | .ok _=>False
  | .error e=>CX outer H s E e s'
structure FnOk (q0:Bool) (P:Program) (w:World) (K:PySem.W.Frag) (mg:Str→Option Value) (base:Heap) (CX:CXT) (k:Nat) (f:Addr) (fd:FuncData) (ps:List Str) (sp:Sp):Prop where
  len:∀ vs H Q E,sp vs H Q E→vs.length = ps.length
  run:∀ (A:Around) (outer:List Env) (s:Shared) (H:Hp) (args:Args) (us:List Value) (vs:List V) (Q:VK) (E:XK),Room q0 k A→Env0 P w K mg base A outer s H→BindsTo s fd args (ps.zip us)→Vals vs us→sp vs H Q E →
    codeAny (model P w) A (.call (.ref f) args) (CR CX outer P w H s Q E) s
theorem Env0.make {P:Program} {w:World} {K:PySem.W.Frag} {mg:Str→Option Value} {base:Heap} {A:Around} {outer:List Env} {s:Shared} {H:Hp} (e:Env0 P w K mg base A outer s H) (C:Addr) (us:List Value) (kw:List (Str × Value)) :
    Env0 P w K mg base (A.under (.builtin "type.__call__" ⟨.ref C :: us,kw⟩)) outer s H:=⟨by first | exact e.frames | (simpa [Around.under,Code.envs,Code.isFrame,pushEnvs] using e.frames),e.mod,e.bs,e.bsz,e.funs,e.frf,e.hok,e.bare⟩
section
variable {X:Cx} {pins:List (Addr × Obj)} {σ:St} {H:Hp} {s s':Shared}
theorem Inv.env0 (I:Inv X pins σ H s):Env0 X.prog X.w X.K X.mg X.base X.A X.stack s H :=
  ⟨I.ok.frames,I.ok.mod,I.bs,Nat.le_trans I.ok.bsz I.sz,I.stack,I.stkFree,I.hok,I.bare⟩
theorem Inv.after {Q:VK} {u:Value} (I:Inv X pins σ H s) (h:CE X.stack X.prog X.w H s Q u s'):EP X pins σ Q u s':=by
  obtain ⟨v,H',os,bare,un,hok,r,q⟩:=h
  obtain ⟨hh,g,d,t,os'⟩:=s'
  obtain rfl:os' = s.os:=os
  exact ⟨v,H',I.call (h':=hh) (g':=g) (d':=d) (t':=t) (ch:=[]) un hok bare (fun b z=>absurd z (by simp)),r,q⟩
end
def xpo (sp:Sp) (dvs:List V) (E:St→XK) (t:TA):TE:=fun σ H Q=>t σ H fun vs H1=>sp (vs ++ dvs) H1 Q (E σ)
def xma (C:Addr) (m:Str) (sp:Sp) (dvs:List V) (E:St→XK) (ta:TE) (t:TA):TE:=fun σ H Q=>ta σ H fun x H1=>∃ a dx fs,x = .ref a∧H1 a = some (.ins C dx fs)∧fs.lookup m = none ∧
  t σ H1 fun vs H2=>sp (x :: (vs ++ dvs)) H2 Q (E σ)
def xqa (C:Addr) (sp:Sp) (dvs:List V) (E:St→XK) (t:TA):TE:=fun σ H Q=>t σ H fun vs H1=>∀ x dx,H1 x = none→H1 dx = none→dx≠x →
  sp (.ref x :: (vs ++ dvs)) (upd (upd H1 dx (.own x)) x (.ins C dx [])) (fun v H2=>v = .non∧Q (.ref x) H2) (E σ)
def xag (K:PySem.W.Frag) (fd:FuncData) (ps:List Str) (ds:List Value):Prop :=
  ∀ (s:Shared) (us:List Value),K.In s.heap→(us ++ ds).length = ps.length→BindsTo s fd ⟨us,[]⟩ (ps.zip (us ++ ds))
theorem xag.all {K:PySem.W.Frag} {fd:FuncData} {ps:List Str} (h:∀ us:List Value,us.length = ps.length→bindArgs fd ⟨us,[]⟩ = pure (ps.zip us)):xag K fd ps []:=fun s us _ hl=>by
  rw [List.append_nil] at hl ⊢
  exact .of_eq (h us hl)
def xcy (CX:CXT) (X:Cx) (E:St→XK):Prop:=∀ (pins:List (Addr × Obj)) (σ:St) (H:Hp) (s:Shared) (e:Value) (s':Shared),Inv X pins σ H s→CX X.stack H s (E σ) e s'→X.xe e s'
section
variable {X:Cx} {CX:CXT} {k:Nat} {f C:Addr} {fd:FuncData} {ps:List Str} {sp:Sp} {dvs:List V} {ds:List Value} {E:St→XK} {x m:Str} {p pos apos:Pos} {e o:Expr} {es:List Expr} {ta:TE} {t:TA}
theorem xhg {pins:List (Addr × Obj)} {σ:St} {H:Hp} {s:Shared} {Q:VK} {us:List Value} {vs:List V} (F:FnOk q0 X.prog X.w X.K X.mg X.base CX k f fd ps sp) (hr:Room q0 k X.A) (hb:xag X.K fd ps ds) (hd:Vals dvs ds) (hx:xcy CX X E)
    (I:Inv X pins σ H s) (r:Vals vs us) (h:sp (vs ++ dvs) H Q (E σ)):wpAny (model X.prog X.w) X.A (call (.ref f) us) (EP X pins σ Q) X.xe s:=by
  have r2:Vals (vs ++ dvs) (us ++ ds):=r.append hd
  have hl:(us ++ ds).length = ps.length:=by rw [← r2.length]; exact F.len _ _ _ _ h
  refine wpAny_call (codeAny_mono (F.run X.A X.stack s H ⟨us,[]⟩ (us ++ ds) (vs ++ dvs) Q (E σ) hr I.env0 (hb s us I.kIn hl) r2 h) fun r s' hq=>?_)
  cases r with
  | error e=>exact hx pins σ H s e s' I hq
  | ok fl =>
    cases fl with
    | ret u=>exact I.after hq
    | next=>exact False.elim hq
    | brk=>exact False.elim hq
    | cont=>exact False.elim hq
theorem xae (F:FnOk q0 X.prog X.w X.K X.mg X.base CX k f fd ps sp) (hr:Room q0 k X.A) (hg:Gl X x) (hm:X.mg x = some (.ref f)) (hk:PySem.W.keepIn X.K (.ref f) = true) (hb:xag X.K fd ps ds) (hd:Vals dvs ds) (hx:xcy CX X E)
    (ha:PA X (e :: es) t) (hdb:(x == ("__debug__":Str)) = false:=by decide) (he:starEach (e :: es) X.env = (false,eval e X.env) :: starEach es X.env:=by rfl) (hpl:(backTo pos (starEach es X.env)).any (·.1) = false:=by rfl) :
    PE X (.Call (.Name x p) (e :: es) [] pos) (xpo sp dvs E t):=by
  intro pins s σ H Q I h
  refine wpAny_Call_Name_kw (xdz I hg hm ?_ hdb)
  refine PySem.W.callWith_K (h₀:=X.base) I.ok.mod.kin hk (thn (ha pos pins s σ H _ I h) fun us s1 ⟨vs,H1,I1,r,q⟩=>⟨I1.kIn,?_⟩) he hpl
  exact xhg F hr hb hd hx I1 r q
theorem xay {pl:Sem Bool} (he:PE X o ta) (c:Cls X.K C) (hm:Meth X.K C m f) (F:FnOk q0 X.prog X.w X.K X.mg X.base CX k f fd ps sp) (hr:Room q0 k X.A) (hb:xag X.K fd ps ds) (hd:Vals dvs ds) (hx:xcy CX X E) (ha:PA X (e :: es) t)
    (hst:starEach (e :: es) X.env = (false,eval e X.env) :: starEach es X.env:=by rfl) (hpl:(backTo pos (starEach es X.env)).any (·.1) = false:=by rfl)
    (ht:eval (.Call (.Attribute o m apos) (e :: es) [] pos) X.env = (do
      let ov ← eval o X.env
      standAt apos.atName
      let (f,first) ← holding [ov] (getMethod ov m pl)
      callWith pos f first (backTo pos (starEach (e :: es) X.env)) (backToKw pos (keywordEach [] X.env))):=by rfl) :
    PE X (.Call (.Attribute o m apos) (e :: es) [] pos) (xma C m sp dvs E ta t):=by
  intro pins s σ H Q I h
  refine PySem.W.methodCall_KW (pl:=pl) (thn (he pins s σ H _ I h) fun u s1 ⟨x,H1,I1,rx,a,dx,fs,ex,ea,l,q⟩=>?_) ht
  subst ex
  obtain rfl:u = Value.ref a:=rx
  refine xfk I1 ea c hm l ?_
  refine PySem.W.callWith_K (first:=[.ref a]) (h₀:=X.base) I.ok.mod.kin hm.kp (thn (ha pos pins s1 σ H1 _ I1 q) fun us s2 ⟨vs,H2,I2,r,q2⟩=>⟨I2.kIn,?_⟩) hst hpl
  exact xhg (us:=.ref a :: us) (vs:=.ref a :: vs) F hr hb hd hx I2 (.cons rfl r) q2
theorem xde {pl:Sem Bool} (he:PE X o ta) (c:Cls X.K C) (hm:Meth X.K C m f) (F:FnOk q0 X.prog X.w X.K X.mg X.base CX k f fd ps sp) (hr:Room q0 k X.A) (hb:xag X.K fd ps ds) (hd:Vals dvs ds) (hx:xcy CX X E)
    (ht:eval (.Call (.Attribute o m apos) [] [] pos) X.env = (do
      let ov ← eval o X.env
      standAt apos.atName
      let (f,first) ← holding [ov] (getMethod ov m pl)
      callWith pos f first (backTo pos (starEach [] X.env)) (backToKw pos (keywordEach [] X.env))):=by rfl) :
    PE X (.Call (.Attribute o m apos) [] [] pos) (xma C m sp dvs E ta tNil):=by
  intro pins s σ H Q I h
  refine PySem.W.methodCall_KW (pl:=pl) (thn (he pins s σ H _ I h) fun u s1 ⟨x,H1,I1,rx,a,dx,fs,ex,ea,l,q⟩=>?_) ht
  subst ex
  obtain rfl:u = Value.ref a:=rx
  refine xfk I1 ea c hm l ?_
  exact PySem.W.callWith_K0 (first:=[.ref a]) I1.kIn hm.kp (xhg (us:=[.ref a]) (vs:=[.ref a]) F hr hb hd hx I1 (.cons rfl .nil) q)
structure Mk (K:PySem.W.Frag) (C f:Addr):Prop where
  makes:PySem.W.makesIn K C = true
  init:PySem.W.findIn K (.ref C) "__init__" = some (some (.ref f))
  fn:PySem.W.isFn K (.ref f) = true
  kp:PySem.W.keepIn K (.ref C) = true
theorem xl1 {pins:List (Addr × Obj)} {σ:St} {H:Hp} {s:Shared} {Q:VK} {us:List Value} {vs:List V} (M:Mk X.K C f) (F:FnOk q0 X.prog X.w X.K X.mg X.base CX k f fd ps sp) (hr:Room q0 (k + 1) X.A) (hb:xag X.K fd ps ds) (hd:Vals dvs ds)
    (hx:xcy CX X E) (I:Inv X pins σ H s) (r:Vals vs us)
    (h:∀ x dx,H x = none→H dx = none→dx≠x→sp (.ref x :: (vs ++ dvs)) (upd (upd H dx (.own x)) x (.ins C dx [])) (fun v H2=>v = .non∧Q (.ref x) H2) (E σ)) :
    wpAny (model X.prog X.w) X.A (call (.ref C) us) (EP X pins σ Q) X.xe s:=by
  have hq:=h (s.heap.objs.size + 1) s.heap.objs.size (I.hok.fresh (Nat.le_succ _)) (I.hok.fresh (Nat.le_refl _)) (Nat.ne_of_lt (Nat.lt_succ_self _))
  have I2:=Inv.made (C:=C) I
  have r2:Vals (V.ref (s.heap.objs.size + 1) :: (vs ++ dvs)) (Value.ref (s.heap.objs.size + 1) :: (us ++ ds)):=.cons rfl (r.append hd)
  have hl:(Value.ref (s.heap.objs.size + 1) :: us ++ ds).length = ps.length:=by
    have e:=r2.length
    rw [F.len _ _ _ _ hq] at e
    exact e.symm
  refine wpAny_call (xlc (f:=f) I.kIn M.makes M.init (beq_iff_eq.mp M.fn) (codeAny_mono (F.run _ X.stack _ _ ⟨Value.ref (s.heap.objs.size + 1) :: us,[]⟩ (Value.ref (s.heap.objs.size + 1) :: (us ++ ds)) _ _ (E σ) (hr.make C us [])
    (I2.env0.make C us []) (hb _ (Value.ref (s.heap.objs.size + 1) :: us) I2.kIn hl) r2 hq) fun r s' hq'=>?_))
  cases r with
  | error e=>exact hx pins σ _ _ e s' I2 hq'
  | ok fl =>
    cases fl with
    | ret u =>
      obtain ⟨v,H',I3,rv,ev,q3⟩:=I2.after hq'
      subst ev
      exact ⟨rv,⟨V.ref (s.heap.objs.size + 1),H',I3,rfl,q3⟩⟩
    | next=>exact False.elim hq'
    | brk=>exact False.elim hq'
    | cont=>exact False.elim hq'
theorem xd5 (M:Mk X.K C f) (F:FnOk q0 X.prog X.w X.K X.mg X.base CX k f fd ps sp) (hr:Room q0 (k + 1) X.A) (hg:Gl X x) (hm:X.mg x = some (.ref C)) (hb:xag X.K fd ps ds) (hd:Vals dvs ds) (hx:xcy CX X E)
    (ha:PA X (e :: es) t) (hdb:(x == ("__debug__":Str)) = false:=by decide) (he:starEach (e :: es) X.env = (false,eval e X.env) :: starEach es X.env:=by rfl) (hpl:(backTo pos (starEach es X.env)).any (·.1) = false:=by rfl) :
    PE X (.Call (.Name x p) (e :: es) [] pos) (xqa C sp dvs E t):=by
  intro pins s σ H Q I h
  refine wpAny_Call_Name_kw (xdz I hg hm ?_ hdb)
  refine PySem.W.callWith_K (h₀:=X.base) I.ok.mod.kin M.kp (thn (ha pos pins s σ H _ I h) fun us s1 ⟨vs,H1,I1,r,q⟩=>⟨I1.kIn,?_⟩) he hpl
  exact xl1 M F hr hb hd hx I1 r q
end
section
variable {X:Cx} {CX:CXT} {k:Nat} {f C:Addr} {fd:FuncData} {ps ks:List Str} {sp:Sp} {E:St→XK} {x m:Str} {p pos apos kpos:Pos} {e o:Expr} {es:List Expr} {kws:List Keyword} {te ta:TE} {t tk:TA} {nm:Option Str}
variable {g:List Value→List Value→List Value} {gV:List V→List V→List V}
end
structure x8 (N P:List Str) (sc:Scope):Prop where
  kind:sc.kind = .function
  co:sc.isCoroutine = false
  gen:sc.isGenerator = false
  nd:N.Nodup
  pre:N.take P.length = P
  par:∀ x ∈ P,sc.names.lookup x = some .local∨sc.names.lookup x = some .cell
  nofree:∀ y ∈ sc.names,y.2≠.free
theorem xgl {kindOf:Str→Option NameKind} {x:Str}:∀ {binds:List (Str × Value)} {m:Str→Option Value},(∀ v,(x,v) ∉ binds)→bindL kindOf binds m x = m x
  | [],_,_=>rfl
  | (n,v) :: r,m,h=>by
    unfold bindL
    rw [xgl fun w hw=>h w (List.mem_cons_of_mem _ hw)]
    split
    · have:x≠n:=by rintro rfl; exact h v List.mem_cons_self
      simp [this]
    · rfl
theorem xg0 {kindOf:Str→Option NameKind} {x:Str}:∀ {binds:List (Str × Value)} {m:Str→Option Value},(∀ v,(x,v) ∉ binds)→bindC kindOf binds m x = m x
  | [],_,_=>rfl
  | (n,v) :: r,m,h=>by
    unfold bindC
    rw [xg0 fun w hw=>h w (List.mem_cons_of_mem _ hw)]
    split
    · rfl
    · have:x≠n:=by rintro rfl; exact h v List.mem_cons_self
      simp [this]
theorem xgy {kindOf:Str→Option NameKind} {x:Str} {v:Value}:∀ {P:List Str} {vs:List Value} {i:Nat} {m:Str→Option Value},P.Nodup→P[i]? = some x→vs[i]? = some v→kindOf x = some .local →
    bindL kindOf (P.zip vs) m x = some v
  | [],_,_,_,_,h,_,_=>by simp at h
  | _ :: _,[],_,_,_,_,h,_=>by simp at h
  | p :: P,w :: vs,0,m,nd,h1,h2,hk=>by
    simp at h1 h2; subst h1; subst h2
    show bindL kindOf ((p,w) :: P.zip vs) m p = _
    unfold bindL
    rw [xgl fun v hv=>(List.nodup_cons.mp nd).1 (List.of_mem_zip hv).1,if_pos hk]
    simp
  | p :: P,w :: vs,i + 1,m,nd,h1,h2,hk=>by
    show bindL kindOf ((p,w) :: P.zip vs) m x = _
    unfold bindL
    exact xgy (i:=i) (List.nodup_cons.mp nd).2 (by simpa using h1) (by simpa using h2) hk
theorem xgp {kindOf:Str→Option NameKind} {x:Str} {v:Value}:∀ {P:List Str} {vs:List Value} {i:Nat} {m:Str→Option Value},P.Nodup→P[i]? = some x→vs[i]? = some v→kindOf x≠some .local →
    bindC kindOf (P.zip vs) m x = some v
  | [],_,_,_,_,h,_,_=>by simp at h
  | _ :: _,[],_,_,_,_,h,_=>by simp at h
  | p :: P,w :: vs,0,m,nd,h1,h2,hk=>by
    simp at h1 h2; subst h1; subst h2
    show bindC kindOf ((p,w) :: P.zip vs) m p = _
    unfold bindC
    rw [xg0 fun v hv=>(List.nodup_cons.mp nd).1 (List.of_mem_zip hv).1,if_neg hk]
    simp
  | p :: P,w :: vs,i + 1,m,nd,h1,h2,hk=>by
    show bindC kindOf ((p,w) :: P.zip vs) m x = _
    unfold bindC
    exact xgp (i:=i) (List.nodup_cons.mp nd).2 (by simpa using h1) (by simpa using h2) hk
def xce (N:List Str) (vs:List V):St:=vs.map some ++ List.replicate (N.length - vs.length) none
def cxOf (q0:Bool) (CX:CXT) (P:Program) (w:World) (K:PySem.W.Frag) (mg:Str→Option Value) (base:Heap) (N:List Str) (qual:Str) (scope:Scope) (f:Addr) (cd:Value) (A:Around) (outer:List Env) (s:Shared) (H:Hp) (E:XK):Cx where
  prog:=P
  w:=w
  K:=K
  mg:=mg
  base:=base
  A:=A.deeper (envOfC qual scope s.heap.objs.size f cd)
  N:=N
  s₀:=s
  H₀:=H
  env:=envOfC qual scope s.heap.objs.size f cd
  outer:=outer
  stack:=envOfC qual scope s.heap.objs.size f cd :: outer
  ex:=[]
  calm:=q0
  fn:=fun _=>true
  pn:=[]
  xe:=fun e s'=>wpAny (model P w) (A.deeper (envOfC qual scope s.heap.objs.size f cd)) (leaving (envOfC qual scope s.heap.objs.size f cd) e) (fun _ s''=>CX outer H s E e s'') (fun e' s''=>CX outer H s E e' s'') s'
theorem xho {sc:Scope} {n:Nat} {x:Str} (h:sc.names.lookup x = some .cell):∃ c,(cellsFrom n sc.names []).lookup x = some c:=by
  have q:=PySem.W.cellsFrom_some sc.names n [] (.inl h)
  exact Option.isSome_iff_exists.mp q
theorem xj0 {CX:CXT} {P:Program} {w:World} {K:PySem.W.Frag} {mg:Str→Option Value} {base:Heap} {N ps:List Str} {qual:Str} {scope:Scope} {f:Addr} {cd:Value} {A:Around} {outer:List Env} {s s1:Shared} {H:Hp} {E:XK} {us:List Value} {vs:List V}
    (S:x8 N ps scope) (hd:q0 = true→A.handled = none) (e0:Env0 P w K mg base A outer s H) (hl:vs.length = ps.length) (r:Vals vs us)
    (x:InCallC s s.heap.objs.size (bindL (envOfC qual scope s.heap.objs.size f cd).kindOf (ps.zip us) fun _=>none) (cellsFrom (s.heap.objs.size + 1) scope.names []) (bindC (envOfC qual scope s.heap.objs.size f cd).kindOf (ps.zip us) fun _=>none) s1) :
    Inv (cxOf q0 CX P w K mg base N qual scope f cd A outer s H E) [] (xce N vs) H s1:=by
  have hpl:ps.length≤N.length:=by have:=congrArg List.length S.pre; rw [List.length_take] at this; omega
  obtain ⟨h1,tk,rfl,hk⟩:=x.done
  have noA:∀ b:Addr,b ∉ (cxOf q0 CX P w K mg base N qual scope f cd A outer s H E).ex:=fun b z=>absurd (show b ∈ ([]:List Addr) from z) (by simp)
  refine ⟨⟨e0.mod,S.kind,rfl,rfl,Nat.le_refl _,fun y z c h1 h2=>?_,fun y hy=>?_,fun y c _ h=>?_,hd,Around.frames_deeper e0.frames,.inr ⟨rfl,rfl⟩,fun b z=>absurd z (noA b),e0.bs,e0.bsz,fun b _ _=>noA b,fun b z=>absurd z (noA b),e0.funs,e0.frf⟩,
    rfl,e0.bare,Un.kept hk,⟨_,x.toInCall.ns,fun i y v h1 h2 h3=>?_⟩,fun y c h=>⟨_,x.cell y c h⟩,e0.hok.fresh (Nat.le_refl _),fun y c h=>?_,fun p hp=>absurd (show p ∈ ([]:List (Addr × Obj)) from hp) (by simp),e0.hok.kept hk,?_⟩
  · exact name_of_addr x.apart (PySem.mem_of_lookup h1) (PySem.mem_of_lookup h2)
  · have hy:scope.names.lookup y = some .cell∨scope.names.lookup y = some .free:=hy
    rcases hy with hy | hy
    · exact xho hy
    · exact absurd rfl (S.nofree _ (PySem.mem_of_lookup hy))
  · exact Nat.le_of_lt (x.above y c (PySem.mem_of_lookup h))
  · have hi:i < vs.length:=by
      unfold xce at h2
      by_cases hi:i < vs.length
      · exact hi
      · rw [List.getElem?_append_right (by simpa using hi)] at h2
        rw [List.getElem?_replicate] at h2
        split at h2 <;> cases h2
    have ha:vs[i]? = some v:=by
      unfold xce at h2
      rw [List.getElem?_append_left (by simpa using hi),List.getElem?_map] at h2
      cases e:vs[i]? with
      | none=>rw [e] at h2; cases h2
      | some a=>rw [e] at h2; cases h2; rfl
    obtain ⟨u,hu,rv⟩:=r.get ha
    have hp:ps[i]? = some y:=by
      rw [← S.pre,List.getElem?_take_of_lt (by omega)]; exact h1
    have ndP:ps.Nodup:=by rw [← S.pre]; exact S.nd.sublist (List.take_sublist _ _)
    refine ⟨u,rv,?_⟩
    rcases S.par y (List.mem_of_getElem? hp) with k | k
    · exact .inl ⟨k,xgy ndP hp hu k⟩
    · obtain ⟨c,e⟩:=xho (n:=s.heap.objs.size + 1) k
      refine .inr ⟨.inl k,c,e,?_⟩
      have q:=x.cell y c e
      rw [xgp ndP hp hu (by show scope.names.lookup y≠_; rw [k]; decide)] at q
      exact q
  · exact e0.hok.fresh (Nat.le_of_lt (x.above y c (PySem.mem_of_lookup h)))
  · unfold xce
    show _ = N.length
    rw [List.length_append,List.length_map,List.length_replicate]
    omega
theorem xg3 {CX:CXT} {P:Program} {w:World} {K:PySem.W.Frag} {mg:Str→Option Value} {base:Heap} {k:Nat} {f:Addr} {name qual:Str} {params:Arguments} {body:List Stmt} {scope:Scope} {dV kV doc pm cdv ct oc:Value} {an od:Option Addr}
    {osl:Array (Option Value)} {N ps:List Str} {sp:Sp} (lk:K.lookup f = some ⟨oc,od,.func (PySem.W.fnOf name qual params body scope dV kV doc pm an cdv ct),osl⟩) (hcd:PySem.W.codeIn K cdv qual = true) (S:x8 N ps scope)
    (len:∀ vs H Q E,sp vs H Q E→vs.length = ps.length)
    (hbody:∀ (A:Around) (outer:List Env) (s:Shared) (H:Hp) (vs:List V) (Q:VK) (E:XK),Room q0 k (A.deeper (envOfC qual scope s.heap.objs.size f cdv))→sp vs H Q E →
      ∃ t,PSs (cxOf q0 CX P w K mg base N qual scope f cdv A outer s H E) body t∧t { nx:=fun _ H'=>Q .non H',rt:=Q } (xce N vs) H) :
    FnOk q0 P w K mg base CX (k + 1) f (PySem.W.fnOf name qual params body scope dV kV doc pm an cdv ct) ps sp:=by
  refine ⟨len,fun A outer s H args us vs Q E hr e0 hb r hsp=>?_⟩
  have hl:=len _ _ _ _ hsp
  have KX:K.In s.heap:=e0.mod.kin.keeps fun b o e=>(e0.bs b o e).1
  have lim:s.heap.NoLimit:=e0.mod.nolimit.keeps fun b o e=>(e0.bs b o e).1
  have hkind:∀ y ∈ ps.zip us,scope.names.lookup y.1 = some .local∨(scope.names.lookup y.1 = some .cell∧((cellsFrom (s.heap.objs.size + 1) scope.names []).lookup y.1).isSome = true):=fun ⟨n,v⟩ hy=>by
    rcases S.par n (List.of_mem_zip hy).1 with q | q
    · exact .inl q
    · exact .inr ⟨q,PySem.W.cellsFrom_some _ _ _ (.inl q)⟩
  refine codeAny_call_function hr.depth (KX _ _ lk) rfl S.co S.gen rfl (PySem.W.codeRec_of KX hcd) (hb _ _ _ _ ?_)
  refine wpAny_newFunctionEnv_cells S.kind hkind fun env he s1 x=>?_
  subst he
  refine ⟨lim.keeps x.toInCall.keep,codeAny_func ?_⟩
  obtain ⟨t,ht,hq⟩:=hbody A outer s H vs Q E (hr.deeper _) hsp
  have I:Inv (cxOf q0 CX P w K mg base N qual scope f cdv A outer s H E) [] (xce N vs) H s1:=xj0 S hr.hd e0 hl r x
  refine wpAny_mono (ht [] s1 (xce N vs) H _ I hq) (fun fl s' hs=>?_) fun e s' hs=>hs
  have fin:∀ {σ':St} {H':Hp} {v:V} {u:Value},Inv (cxOf q0 CX P w K mg base N qual scope f cdv A outer s H E) [] σ' H' s'→RelV v u→Q v H'→CE outer P w H s Q u s' :=
    fun {σ' H' v u} J rv q=>⟨v,H',J.os,J.bare,J.base,J.hok,rv,q⟩
  cases fl with
  | ret u =>
    obtain ⟨v,σ',H',J,rv,q⟩:=hs
    exact fin J rv q
  | next =>
    obtain ⟨σ',H',J,q⟩:=hs
    exact fin (v:=V.non) (u:=Value.none) J rfl q
  | brk =>
    obtain ⟨_,_,_,q⟩:=hs
    exact False.elim q
  | cont =>
    obtain ⟨_,_,_,q⟩:=hs
    exact False.elim q
end L2
namespace L2
open PySem PySem.Spec PyProof.Rows
variable {q0:Bool}
section
variable {X:Cx} {x:Str} {p pos:Pos} {e:Expr} {es:List Expr} {t:TA} {id T:String} {r:List V→Hp→VK→Prop}
def tCB (r:List V→Hp→VK→Prop) (t:TA):TE:=fun σ H Q=>t σ H fun vs H1=>r vs H1 Q
theorem xz (hc:xb6 X (.builtin id) r) (hg:Gl X x) (hm:X.mg x = none) (hv:bootBuiltins x = some (.builtin id)) (ha:PA X (e :: es) t) (hn:x≠"__name__":=by decide) (hdb:(x == ("__debug__":Str)) = false:=by decide)
    (he:starEach (e :: es) X.env = (false,eval e X.env) :: starEach es X.env:=by rfl) (hpl:(backTo pos (starEach es X.env)).any (·.1) = false:=by rfl):PE X (.Call (.Name x p) (e :: es) [] pos) (tCB r t):=by
  intro pins s σ H Q I h
  refine wpAny_Call_Name_kw (xd2 I hg hm hv ?_ hn hdb)
  exact PyProof.Rows.callWith_builtin1 (thn (ha pos pins s σ H _ I h) fun us s1 ⟨vs,H1,I1,r1,q1⟩=>hc pins s1 σ H1 vs us Q I1 r1 q1) he hpl
theorem xks (hc:xb6 X (.type T) r) (hg:Gl X x) (hm:X.mg x = none) (hv:bootBuiltins x = some (.type T)) (ha:PA X (e :: es) t) (hn:x≠"__name__":=by decide) (hdb:(x == ("__debug__":Str)) = false:=by decide)
    (he:starEach (e :: es) X.env = (false,eval e X.env) :: starEach es X.env:=by rfl) (hpl:(backTo pos (starEach es X.env)).any (·.1) = false:=by rfl):PE X (.Call (.Name x p) (e :: es) [] pos) (tCB r t):=by
  intro pins s σ H Q I h
  refine wpAny_Call_Name_kw (xd2 I hg hm hv ?_ hn hdb)
  exact PyProof.Rows.callWith_type1 (thn (ha pos pins s σ H _ I h) fun us s1 ⟨vs,H1,I1,r1,q1⟩=>hc pins s1 σ H1 vs us Q I1 r1 q1) he hpl
end
end L2
namespace HT
open PySem PyProof.Rows
section
open PySem.SeqAt
open PySem.AutoSeq1 (wpAny_loadPart')
open PySem.MeetsSeq PySem.MeetsSeq2 PySem.MeetsSeq3
end
section
variable {prog:Program} {w:World} {A:Around} {E:Value→Shared→Prop} {s:Shared}
theorem cat_tup {t b:Addr} {vs ws:List Value} {Q:Value→Shared→Prop} (ht:IsTup s.heap t vs.toArray) (hb:IsTup s.heap b ws.toArray) (hv:vs≠[])
    (h1:ws = []→Q (.ref t) s) (h2:ws≠[]→Q (.ref s.heap.objs.size) { s with heap:=s.heap.push { cls:=.type "tuple",data:=.seq (vs ++ ws).toArray } })
    (hsz:vs.length + ws.length≤sizeLine):wpAny (model prog w) A (binaryOp .Add (.ref t) (.ref b)) Q E s:=by
  obtain ⟨⟨cls,dd,data,sl⟩,ho,hc,n,hd⟩:=id ht
  obtain ⟨⟨cls2,dd2,data2,sl2⟩,ho2,hc2,n2,hd2⟩:=id hb
  simp only at hc hd hc2 hd2
  subst hc hd hc2 hd2
  have e:vs.toArray ++ ws.toArray = (vs ++ ws).toArray:=by simp
  by_cases hw:ws = []
  · exact concat_meets ⟨_,ho,rfl⟩ ⟨_,ho2,rfl⟩ noFill_tuple_add seq_tuple_add PySem.F.slot_tuple_add PySem.F.entry_tuple_add (PySem.F.args_tuple_add_2 _ _)
      (tuple_addW1 t b vs.toArray ws.toArray n n2 dd dd2 sl sl2 (by simpa using hv) (by simp [hw])) ⟨ho,ho2,h1 hw⟩
  · refine concat_meets ⟨_,ho,rfl⟩ ⟨_,ho2,rfl⟩ noFill_tuple_add seq_tuple_add PySem.F.slot_tuple_add PySem.F.entry_tuple_add (PySem.F.args_tuple_add_2 _ _)
      (tuple_addW2 t b vs.toArray ws.toArray n n2 dd dd2 sl sl2 (by simpa using hv) (by simpa using hw) (by rw [List.size_toArray,List.size_toArray]; exact hsz)) ⟨ho,ho2,?_⟩
    rw [e]
    exact h2 hw
def sIx (n d:Nat):Option Int→Nat
  | none=>d
  | some v=>if v < 0 then (v + (n:Int)).toNat else min v.toNat n
theorem xn4 (n d:Nat) (hd:d≤n) (o:Option Int):sIx n d o≤n:=by
  cases o with
  | none=>exact hd
  | some v =>
    show (if v < 0 then (v + (n:Int)).toNat else min v.toNat n)≤n
    by_cases hv:v < 0
    · rw [if_pos hv]; omega
    · rw [if_neg hv]; exact Nat.min_le_right _ _
theorem xiy (v:Int) (n d:Nat):(if v < 0 then max (v + (n:Int)) 0 else min v (n:Int)) = ((sIx n d (some v):Nat):Int):=by
  show (if v < 0 then max (v + (n:Int)) 0 else min v (n:Int)) = (((if v < 0 then (v + (n:Int)).toNat else min v.toNat n):Nat):Int)
  by_cases hv:v < 0
  · simp only [if_pos hv]; omega
  · simp only [if_neg hv]; omega
theorem xji (lo hi:Option Int) (n:Nat):Builtin.Slice.sliceAdjust lo hi 1 (n:Int) = (((sIx n 0 lo:Nat):Int),((sIx n n hi:Nat):Int)):=by
  have h1:¬ ((1:Int) < 0):=by omega
  unfold Builtin.Slice.sliceAdjust
  simp only [h1,if_false]
  refine Prod.ext ?_ ?_
  · cases lo with
    | none=>rfl
    | some v=>exact xiy v n 0
  · cases hi with
    | none=>rfl
    | some v=>exact xiy v n n
theorem xi6 (i j:Nat):Builtin.Slice.slicePlaces (i:Int) (j:Int) 1 = j - i:=by
  unfold Builtin.Slice.slicePlaces
  have h1:(1:Int) > 0:=by omega
  simp only [h1,if_true,Int.ediv_one]
  split <;> omega
theorem xft {v:Value} {o:Option Int} {Q:Option Int→Shared→Prop} (p:IsPart v o) (h:Q o s):wpAny (model prog w) A (Builtin.Slice.slicePartIndex v) Q E s:=by
  cases p with
  | none=>exact slicePart_none h
  | int i t=>exact slicePart_int h
theorem xe9 {sl:Addr} {vl vu:Value} {lo hi:Option Int} {n:Nat} {Q:Int × Int × Nat→Shared→Prop} (hs:s.heap.IsSliceOf sl vl vu .none) (pl:IsPart vl lo) (pu:IsPart vu hi)
    (h:Q (((sIx n 0 lo:Nat):Int),1,sIx n n hi - sIx n 0 lo) s):wpAny (model prog w) A (Builtin.Slice.sliceApplied (.ref sl) (pure (n:Int))) Q E s:=by
  obtain ⟨os,hos,hcs,hds⟩:=id hs
  unfold Builtin.Slice.sliceApplied Builtin.Slice.sliceFields
  refine wpAny_bind (wpAny_bind (wpAny_field hos hds (x:=vl) rfl (wpAny_bind (wpAny_field hos hds (x:=vu) rfl (wpAny_bind (wpAny_field hos hds (x:=.none) rfl (wpAny_pure ?_)))))))
  refine wpAny_bind (slicePart_none ?_)
  show wpAny _ _ (if ((1:Int) == 0) = true then _ else _) _ _ s
  rw [if_neg (by decide)]
  refine wpAny_bind (xft pl (wpAny_bind (xft pu (wpAny_bind (wpAny_pure ?_)))))
  show wpAny _ _ (match Builtin.Slice.sliceAdjust lo hi 1 (n:Int) with | (lo,hi)=>pure (lo,(1:Int),Builtin.Slice.slicePlaces lo hi 1)) _ _ s
  rw [xji lo hi n]
  show wpAny _ _ (pure (((sIx n 0 lo:Nat):Int),(1:Int),Builtin.Slice.slicePlaces ((sIx n 0 lo:Nat):Int) ((sIx n n hi:Nat):Int) 1)) _ _ s
  rw [xi6]
  exact wpAny_pure h
theorem xl7 (xs:Array Value) (i k:Nat):((List.range k).filterMap fun (m:Nat)=>xs[((i:Int) + (m:Int) * 1).toNat]?).toArray = ((xs.toList.drop i).take k).toArray:=by
  have e:(fun (m:Nat)=>xs[((i:Int) + (m:Int) * 1).toNat]?) = fun m=>xs[i + m]?:=by
    funext m
    have:((i:Int) + (m:Int) * 1).toNat = i + m:=by omega
    rw [this]
  rw [e]
  have:=pick_run xs i k
  rw [List.filterMap_map] at this
  have e2:((fun x=>xs[x]?) ∘ fun x=>i + x) = fun m=>xs[i + m]?:=rfl
  rw [e2] at this
  rw [this]
theorem getItem_tuple_cut {t sl:Addr} {items:Array Value} {vl vu:Value} {lo hi:Option Int} {Q:Value→Shared→Prop} (ht:IsTup s.heap t items) (hs:s.heap.IsSliceOf sl vl vu .none) (pl:IsPart vl lo) (pu:IsPart vu hi)
    (hw:¬ (sIx items.size 0 lo = 0∧sIx items.size items.size hi = items.size))
    (h:Q (.ref s.heap.objs.size) { s with heap:=s.heap.push { cls:=.type "tuple",data:=.seq ((items.toList.drop (sIx items.size 0 lo)).take (sIx items.size items.size hi - sIx items.size 0 lo)).toArray } })
    (hsz:items.size≤sizeLine):wpAny (model prog w) A (getItem (.ref t) (.ref sl)) Q E s:=by
  have htake:sizeOk (.seq ((items.toList.drop (sIx items.size 0 lo)).take (sIx items.size items.size hi - sIx items.size 0 lo)).toArray):=by
    show ((items.toList.drop (sIx items.size 0 lo)).take (sIx items.size items.size hi - sIx items.size 0 lo)).toArray.size≤sizeLine
    rw [List.size_toArray,List.length_take,List.length_drop,Array.length_toList]
    omega
  have hj:sIx items.size items.size hi≤items.size:=xn4 _ _ (Nat.le_refl _) hi
  obtain ⟨os,hos,hcs,hds⟩:=id hs
  have hTs:s.TypeIs (.ref sl) "slice":=⟨os,hos,hcs⟩
  unfold getItem
  try with_reducible refine wpAny_holding ?_
  first | refine wpAny_bind (wpAny_pure ?_) | skip
  refine wpAny_bind (wpAny_sequenceKey ht.typeIs (by decide) ?_)
  refine wpAny_bind (wpAny_callSpecial?_slot (name:=Str.ofString "__getitem__") ht.typeIs PyProof.Rows.slot_tuple_getitem
    (wpAny_call_entry PyProof.Rows.slot_tuple_getitem ht.typeIs entry_tuple_getitem ?_ (args_tuple_getitem _ _)))
  show wpAny _ _ (Builtin.Tuple.tupleItemsOf (.ref t) >>= _) _ _ s
  refine wpAny_bind (tupleItemsOf_ ht ?_)
  refine wpAny_bind (wpAny_typeOf hTs ?_)
  rw [if_pos (by decide)]
  refine wpAny_bind (xe9 hs pl pu ?_)
  have hno:¬ ((((sIx items.size 0 lo:Nat):Int) == 0 && (1:Int) == 1 && (sIx items.size items.size hi - sIx items.size 0 lo) == items.size) = true):=by
    intro q
    rw [Bool.and_eq_true,Bool.and_eq_true] at q
    have q1:((sIx items.size 0 lo:Nat):Int) = 0:=eq_of_beq q.1.1
    have q2:sIx items.size items.size hi - sIx items.size 0 lo = items.size:=eq_of_beq q.2
    exact hw ⟨by omega,by omega⟩
  show wpAny _ _ (if (((sIx items.size 0 lo:Nat):Int) == 0 && (1:Int) == 1 && (sIx items.size items.size hi - sIx items.size 0 lo) == items.size) = true then _ else _) _ _ s
  rw [if_neg hno,xl7]
  first
    | exact wpAny_bind (m:=Builtin.Tuple.tupleExact _) (wpAny_newObj_type (wpAny_pure ⟨_,rfl,wpAny_pure h⟩) htake)
    | exact wpAny_bind (m:=Builtin.Tuple.tupleExact _) (wpAny_newObj_type (wpAny_bind (wpAny_pure (wpAny_pure ⟨_,rfl,wpAny_pure h⟩))) htake)
    | exact wpAny_bind (wpAny_bind (m:=Builtin.Tuple.tupleExact _) (wpAny_newObj_type (wpAny_pure (wpAny_pure ⟨_,rfl,wpAny_pure h⟩)) htake))
    | exact wpAny_bind (wpAny_bind (m:=Builtin.Tuple.tupleExact _) (wpAny_newObj_type (wpAny_pure ⟨_,rfl,wpAny_pure h⟩) htake))
end
end HT
namespace L2
open PySem PySem.Spec PyProof.Rows
variable {q0:Bool}
abbrev TO:=St→Hp→(Option Int→Hp→Prop)→Prop
def PO (X:Cx) (e:Option Expr) (t:TO):Prop :=
  ∀ (pins:List (Addr × Obj)) (s:Shared) (σ:St) (H:Hp) (Q:Option Int→Hp→Prop),Inv X pins σ H s→t σ H Q →
    wpAny (model X.prog X.w) X.A (evalPart e X.env) (fun u s'=>∃ o H',Inv X pins σ H' s'∧IsPart u o∧Q o H') X.xe s
def xm8:TO:=fun _ H Q=>Q none H
def xpz (t:TE):TO:=fun σ H Q=>t σ H fun x H1=>∃ i,x = .int i∧Q (some i) H1
section
variable {X:Cx} {e:Expr} {te:TE} {lo hi:Option Expr} {tl th:TO} {pos p2:Pos}
theorem xf6:PO X none xm8:=by
  intro pins s σ H Q I h
  rw [evalPart_none]
  exact wpAny_pure ⟨none,H,I,.none,h⟩
theorem xf2 (h:PE X e te):PO X (some e) (xpz te):=by
  intro pins s σ H Q I hw
  rw [evalPart_some]
  refine thn (h pins s σ H _ I hw) fun u s1 ⟨x,H1,I1,r1,q1⟩=>?_
  obtain ⟨i,rfl,q⟩:=q1
  obtain ⟨t,rfl⟩:=r1
  exact ⟨some i,H1,I1,.int i t,q⟩
def SlR (X:Cx) (r:V→Option Int→Option Int→Hp→VK→Prop):Prop :=
  ∀ (pins:List (Addr × Obj)) (s:Shared) (σ:St) (H:Hp) (x:V) (v vl vu:Value) (lo hi:Option Int) (sl:Addr) (Q:VK),Inv X pins σ H s→RelV x v→s.heap.IsSliceOf sl vl vu .none→IsPart vl lo→IsPart vu hi→r x lo hi H Q →
    ∃ T id,typeLookup (.type T) "__getitem__" = pure (some (.builtin id))∧s.TypeIs v T∧wpAny (model X.prog X.w) X.A (getItem v (.ref sl)) (EP X pins σ Q) X.xe s
def tSl (r:V→Option Int→Option Int→Hp→VK→Prop) (te:TE) (tl th:TO):TE:=fun σ H Q=>te σ H fun x H1=>tl σ H1 fun l H2=>th σ H2 fun u H3=>r x l u H3 Q
theorem xfb {r:V→Option Int→Option Int→Hp→VK→Prop} (hr:SlR X r) (he:PE X e te) (hl:PO X lo tl) (hu:PO X hi th):PE X (.Subscript e (.Slice lo hi none p2) pos) (tSl r te tl th):=by
  intro pins s σ H Q I h
  refine Subscript_ (thn (he pins s σ H _ I h) fun v s1 ⟨x,H1,I1,r1,q1⟩=>?_)
  refine wpAny_Slice (thn (hl pins s1 σ H1 _ I1 q1) fun vl s2 ⟨l,H2,I2,pl,q2⟩=>thn (hu pins s2 σ H2 _ I2 q2) fun vu s3 ⟨u,H3,I3,pu,q3⟩=>?_)
  rw [evalPart_none]
  refine wpAny_pure ?_
  have I4:Inv X pins σ H3 { s3 with heap:=s3.heap.push { cls:=.type "slice",data:=.fields #[vl,vu,.none] } }:=I3.kept (t':=s3.toks) fun b ob q=>Heap.get?_push_of_some _ q
  obtain ⟨T,id,hT,ht,hg⟩:=hr pins { s3 with heap:=s3.heap.push { cls:=.type "slice",data:=.fields #[vl,vu,.none] } } σ H3 x v vl vu l u s3.heap.objs.size Q I4 r1 (Heap.IsSliceOf.new ..) pl pu q3
  show wpAny (model X.prog X.w) X.A (subscriptTail e (.Slice lo hi none p2) v (.ref s3.heap.objs.size)) (EP X pins σ Q) X.xe { s3 with heap:=s3.heap.push { cls:=.type "slice",data:=.fields #[vl,vu,.none] } }
  exact tail_any (ops:=[.ref s3.heap.objs.size,v]) ht hT hg (by with_unfolding_all rfl)
def cutV (xs:List V) (lo hi:Option Int):List V:=(xs.drop (HT.sIx xs.length 0 lo)).take (HT.sIx xs.length xs.length hi - HT.sIx xs.length 0 lo)
theorem xic (xs:List V) (lo hi:Option Int):(cutV xs lo hi).length≤xs.length:=by
  unfold cutV
  rw [List.length_take,List.length_drop]
  omega
def rSlT (K:PySem.W.Frag):V→Option Int→Option Int→Hp→VK→Prop:=fun x lo hi H Q=>∃ a xs,x = .ref a∧SqT K H a xs ∧
  ¬ (HT.sIx xs.length 0 lo = 0∧HT.sIx xs.length xs.length hi = xs.length)∧∀ p,H p = none→Q (.ref p) (upd H p (.tup (cutV xs lo hi)))
theorem xhp:SlR X (rSlT X.K):=by
  intro pins s σ H x v vl vu lo hi sl Q I rx hs pl pu h
  obtain ⟨a,xs,rfl,hx,hw,q⟩:=h
  cases rx
  obtain ⟨its,r,ht,hz⟩:=I.tuple hx
  have hlen:its.toArray.size = xs.length:=by rw [List.size_toArray]; exact r.length.symm
  refine ⟨"tuple",_,PyProof.Rows.slot_tuple_getitem.lookup,ht.typeIs,?_⟩
  refine HT.getItem_tuple_cut ht hs pl pu (by rw [hlen]; exact hw) ?_ (by rw [hlen]; exact hz)
  rw [hlen]
  refine ⟨.ref s.heap.objs.size,_,I.laid (t':=s.toks) (o:=.tup (cutV xs lo hi)) (fun b ob q=>Heap.get?_push_of_some _ q) (Nat.le_refl _) ?_,rfl,q _ (I.hok.fresh (Nat.le_refl _))⟩
  exact ⟨Nat.le_trans (xic xs lo hi) hz,_,(r.drop (HT.sIx xs.length 0 lo)).take (HT.sIx xs.length xs.length hi - HT.sIx xs.length 0 lo),IsTup.new _ _⟩
def xmc (K:PySem.W.Frag):R2:=fun x y H Q=>∃ a b xs ys,x = .ref a∧y = .ref b∧SqT K H a xs∧SqT K H b ys∧xs≠[]∧xs.length + ys.length≤sizeLine ∧
  (ys = []→Q (.ref a) H)∧(ys≠[]→∀ p,H p = none→Q (.ref p) (upd H p (.tup (xs ++ ys))))
theorem Vals.nil_iff {xs:List V} {us:List Value} (r:Vals xs us):us = [] ↔ xs = []:=by
  cases r with
  | nil=>simp
  | cons _ _=>simp
theorem xf5:OpR X (binaryOp .Add) (xmc X.K):=by
  intro pins s σ H x y v u Q I rx ry h
  obtain ⟨a,b,xs,ys,rfl,rfl,ha,hb,hx,hz,q1,q2⟩:=h
  cases rx
  cases ry
  obtain ⟨its,r1,p1,_⟩:=I.tuple ha
  obtain ⟨its2,r2,p2,_⟩:=I.tuple hb
  refine HT.cat_tup p1 p2 (fun z=>hx (r1.nil_iff.mp z)) (fun z=>⟨.ref a,H,I,rfl,q1 (r2.nil_iff.mp z)⟩) (fun z=>?_) (by rw [← r1.length,← r2.length]; exact hz)
  refine ⟨.ref s.heap.objs.size,_,I.laid (t':=s.toks) (o:=.tup (xs ++ ys)) (fun b ob q=>Heap.get?_push_of_some _ q) (Nat.le_refl _) ?_,rfl,q2 (fun w=>z (r2.nil_iff.mpr w)) _ (I.hok.fresh (Nat.le_refl _))⟩
  exact ⟨by rw [List.length_append]; exact hz,_,r1.append r2,IsTup.new _ _⟩
end
end L2
namespace L2
open PySem PySem.Spec PyProof.Rows
variable {q0:Bool}
def ixN (n:Nat) (i:Int):Option Nat:=if 0≤i then (if i < n then some i.toNat else none) else if -(n:Int)≤i then some (i + n).toNat else none
def atI {α:Type} (xs:List α) (i:Int):Option α:=(ixN xs.length i).bind fun j=>xs[j]?
theorem xie {n:Nat} {i:Int} {j:Nat} (h:ixN n i = some j):seqIndex? i n = some j∧j < n∧-(n:Int)≤i∧i < n:=by
  unfold ixN at h
  by_cases h0:0≤i
  · rw [if_pos h0] at h
    by_cases h1:i < n
    · rw [if_pos h1] at h
      have e:i.toNat = j:=Option.some.inj h
      exact ⟨by rw [seqIndex_of h0 h1,e],by omega,by omega,h1⟩
    · rw [if_neg h1] at h; cases h
  · rw [if_neg h0] at h
    by_cases h1:-(n:Int)≤i
    · rw [if_pos h1] at h
      have e:(i + n).toNat = j:=Option.some.inj h
      exact ⟨by rw [seqIndex_neg (by omega) h1,e],by omega,h1,by omega⟩
    · rw [if_neg h1] at h; cases h
theorem xf0 {α:Type} {xs:List α} {i:Int} {v:α} (h:atI xs i = some v):∃ j,seqIndex? i xs.length = some j∧xs[j]? = some v∧j < xs.length∧-(xs.length:Int)≤i∧i < xs.length:=by
  unfold atI at h
  cases e:ixN xs.length i with
  | none=>rw [e] at h; cases h
  | some j =>
    rw [e] at h
    obtain ⟨h1,h2,h3,h4⟩:=xie e
    exact ⟨j,h1,h,h2,h3,h4⟩
theorem xda {α:Type} {xs:List α} {j:Nat} {v:α} (h:xs[j]? = some v):atI xs (j:Int) = some v:=by
  have hj:j < xs.length:=(List.getElem?_eq_some_iff.mp h).1
  have e:ixN xs.length (j:Int) = some j:=by
    unfold ixN
    rw [if_pos (by omega),if_pos (by omega)]; simp
  unfold atI; rw [e]; exact h
def xm6 (b:Expr):Prop:=∀ o i,subscripted b false o i = operate [o,i] (getItem o i)
def IxR (X:Cx) (r:R2):Prop :=
  ∀ (value slice:Expr) (pins:List (Addr × Obj)) (s:Shared) (σ:St) (H:Hp) (x y:V) (v u:Value) (Q:VK),Inv X pins σ H s→RelV x v→RelV y u→r x y H Q →
    subscripted slice false v u = operate [v,u] (getItem v u)→wpAny (model X.prog X.w) X.A (subscriptTail value slice v u) (EP X pins σ Q) X.xe s
def MtR (X:Cx) (id:String) (r:V→List V→Hp→VK→Prop):Prop :=
  ∀ (pins:List (Addr × Obj)) (s:Shared) (σ:St) (H:Hp) (x:V) (xs:List V) (v:Value) (us:List Value) (Q:VK),Inv X pins σ H s→RelV x v→Vals xs us→r x xs H Q →
    wpAny (model X.prog X.w) X.A (call (.builtin id) (v :: us)) (EP X pins σ Q) X.xe s
section
variable {X:Cx} {a b:Expr} {ta tb:TE} {pos:Pos}
theorem x5 {r:R2} (hr:IxR X r) (ha:PE X a ta) (hb:PE X b tb) (hs:xm6 b):PE X (.Subscript a b pos) (tOp r ta tb):=by
  intro pins s σ H Q I h
  exact Subscript_ (binT ha hb I h fun v u s2 x y H2 I2 rx ry q=>hr a b pins s2 σ H2 x y v u Q I2 rx ry q (hs _ _))
def rIxL (K:PySem.W.Frag):R2:=fun x y H Q=>∃ p xs i v,x = .ref p∧y = .int i∧SqL K H p xs∧atI xs i = some v∧Q v H
def rIxT (K:PySem.W.Frag):R2:=fun x y H Q=>∃ p xs i v,x = .ref p∧y = .int i∧SqT K H p xs∧atI xs i = some v∧Q v H
def rIxS:R2:=fun x y H Q=>∃ z i c,x = .str z∧y = .int i∧z.length≤sizeLine∧atI z.cps.toList i = some c∧Q (.str ⟨#[c]⟩) H
theorem xas:IxR X (rIxL X.K):=by
  intro value slice pins s σ H x y v u Q I rx ry h hs
  obtain ⟨p,xs,i,z,rfl,rfl,hq,he,q⟩:=h
  cases rx
  obtain ⟨t,rfl⟩:=ry
  obtain ⟨its,r,pl,hz⟩:=I.list hq
  obtain ⟨j,h1,h2,h3,h4,h5⟩:=xf0 he
  obtain ⟨w,ew,rw'⟩:=r.get h2
  have hl:=r.length
  have hn:=xdx
  have fin:EP X pins σ Q w s:=⟨z,H,I,rw',q⟩
  by_cases h0:0≤i
  · have hj:i.toNat = j:=by
      rw [seqIndex_of h0 h5] at h1
      exact Option.some.inj h1
    exact item_listR pl.isList h0 (by omega) (by rw [hj]; simpa using ew) fin hs
  · have hj:(i + (its.toArray.size:Int)).toNat = j:=by
      rw [seqIndex_neg (by omega) h4] at h1
      rw [List.size_toArray,← hl]
      exact Option.some.inj h1
    exact subscriptTail_builtinR (x:=w) pl.isList.typeIs slot_list_getitem.lookup
      (wpAny_getItem_list_neg (Q:=fun r s'=>r = w∧EP X pins σ Q r s') pl.isList (by omega) (by rw [List.size_toArray] <;> omega) (by omega) (by rw [hj]; simpa using ew) ⟨rfl,fin⟩) hs
theorem xak:IxR X (rIxT X.K):=by
  intro value slice pins s σ H x y v u Q I rx ry h hs
  obtain ⟨p,xs,i,z,rfl,rfl,hq,he,q⟩:=h
  cases rx
  obtain ⟨t,rfl⟩:=ry
  obtain ⟨its,r,pl,hz⟩:=I.tuple hq
  obtain ⟨j,h1,h2,h3,h4,h5⟩:=xf0 he
  obtain ⟨w,ew,rw'⟩:=r.get h2
  have hl:=r.length
  have hn:=xdx
  have fin:EP X pins σ Q w s:=⟨z,H,I,rw',q⟩
  exact subscriptTail_builtinR (x:=w) pl.typeIs slot_tuple_getitem.lookup
    (getItem_tuple (j:=j) (Q:=fun r s'=>r = w∧EP X pins σ Q r s') pl (by omega) (by omega) (by rw [List.size_toArray,← hl]; exact h1) (by simpa using ew) ⟨rfl,fin⟩) hs
theorem xnu:IxR X rIxS:=by
  intro value slice pins s σ H x y v u Q I rx ry h hs
  obtain ⟨z,i,c,rfl,rfl,hz,he,q⟩:=h
  obtain ⟨t,rfl⟩:=rx
  obtain ⟨t',rfl⟩:=ry
  obtain ⟨j,h1,h2,h3,h4,h5⟩:=xf0 he
  have hl:z.cps.toList.length = z.length:=by simp [Str.length]
  rw [hl] at h1 h4 h5
  have hn:=xdx
  exact tail_any (typeIs_str s z t) slot_str_getitem.lookup (getItem_str (c:=c) (by
    have e1:decide (i < -(2 ^ 63:Int)) = false:=decide_eq_false (by omega)
    have e2:decide (i ≥ 2 ^ 63) = false:=decide_eq_false (by omega)
    rw [e1,e2,Bool.or_false]) (by rw [h1]; simpa using h2) ⟨.str ⟨#[c]⟩,H,I.tok _,⟨_,rfl⟩,q⟩) hs
theorem xja (its:List Value) (n j:Nat) (u:Value):Obj.mapSeq (·.setIfInBounds j u) { cls:=.type "list",data:=.seq its.toArray n } = { cls:=.type "list",data:=.seq (its.set j u).toArray n }:=by
  simp [Obj.mapSeq]
theorem Inv.lst {pins:List (Addr × Obj)} {σ:St} {H:Hp} {s:Shared} {p:Addr} {xs:List V} (I:Inv X pins σ H s) (h:H p = some (.lst xs)) :
    ∃ (its:List Value) (n:Nat),Vals xs its∧s.heap.get? p = some { cls:=.type "list",data:=.seq its.toArray n }∧xs.length≤sizeLine:=by
  obtain ⟨z,its,n,r,e⟩:=I.hok p _ h
  exact ⟨its,n,r,e,z⟩
theorem Inv.lstUpd {pins:List (Addr × Obj)} {σ:St} {H:Hp} {s:Shared} {p:Addr} {xs ys:List V} {its its':List Value} {n n':Nat} {f:Obj→Obj} (I:Inv X pins σ H s) (h:H p = some (.lst xs))
    (ho:s.heap.get? p = some { cls:=.type "list",data:=.seq its.toArray n }) (hf:f { cls:=.type "list",data:=.seq its.toArray n } = { cls:=.type "list",data:=.seq its'.toArray n' }) (r:Vals ys its') (hz:ys.length≤sizeLine) (t:Nat) :
    Inv X pins σ (upd H p (.lst ys)) { s with heap:=s.heap.update p f,toks:=t }:=by
  have e:(s.heap.update p f).get? p = some { cls:=.type "list",data:=.seq its'.toArray n' }:=by
    rw [Heap.get?_update_self f ho (by rw [hf] <;> rfl),hf]
  refine I.write (x:=p) (e:=p) (by rw [h]; trivial) (.inl rfl) (fun b u hb q=>(Heap.get?_update_other _ _ (Ne.symm hb)).trans q) ⟨_,e⟩ ?_
  exact ⟨hz,its',n',r,e⟩
def xps:V→V→V→Hp→(Hp→Prop)→Prop:=fun o i v H Q=>∃ p xs k j,o = .ref p∧i = .int k∧H p = some (.lst xs)∧ixN xs.length k = some j∧Q (upd H p (.lst (xs.set j v)))
theorem xlv:PSet X xps:=by
  intro pins s σ H o i v ov iv u Q I ro ri rv h
  obtain ⟨p,xs,k,j,rfl,rfl,hp,hj,q⟩:=h
  cases ro
  obtain ⟨t,rfl⟩:=ri
  obtain ⟨its,n,r,ho,hz⟩:=I.lst hp
  obtain ⟨h1,h2,h3,h4⟩:=xie hj
  have hl:=r.length
  have hn:=xdx
  have I':Inv X pins σ (upd H p (.lst (xs.set j v))) { s with heap:=s.heap.update p (Obj.mapSeq (·.setIfInBounds j u)) } :=
    I.lstUpd hp ho (xja its n j u) (r.set rv j) (by rw [List.length_set]; exact hz) s.toks
  by_cases h0:0≤k
  · have hk:k.toNat = j:=by
      rw [seqIndex_of h0 h4] at h1
      exact Option.some.inj h1
    exact PySem.W.ki_setAt ho h0 (by omega) (by rw [List.size_toArray,← hl]; exact h4) (by rw [hk]; exact ⟨_,I',q⟩)
  · have hk:(k + (its.toArray.size:Int)).toNat = j:=by
      rw [seqIndex_neg (by omega) h3] at h1
      rw [List.size_toArray,← hl]
      exact Option.some.inj h1
    exact PySem.W.ki_setBack ho (by omega) (by rw [List.size_toArray,← hl]; exact h3) (by omega) (by rw [hk]; exact ⟨_,I',q⟩)
def xc4:V→Bool
  | .non=>true
  | .bl _=>true
  | .int _=>true
  | .str _=>true
  | _=>false
def eqV:V→V→Bool
  | .non,.non=>true
  | .bl a,.bl b=>a == b
  | .bl a,.int b=>(if a then 1 else 0) == b
  | .int a,.bl b=>a == (if b then 1 else 0)
  | .int a,.int b=>a == b
  | .str a,.str b=>a == b
  | _,_=>false
theorem xoj {A:Around} {s:Shared} {y x:V} {u v:Value} (ry:RelV y u) (rx:RelV x v) (fy:xc4 y = true) (fx:xc4 x = true):SeqAt.EqAt A s u v (eqV y x):=by
  cases y with
  | non =>
    cases ry
    cases x with
    | non=>cases rx; exact SeqAt.EqAt.same _
    | bl b=>cases rx; exact SeqAt.EqAt.none_bool b
    | int b=>obtain ⟨t,rfl⟩:=rx; exact SeqAt.EqAt.none_int b t
    | str b=>obtain ⟨t,rfl⟩:=rx; exact SeqAt.EqAt.none_str b t
    | _=>exact absurd (show false = true from fx) Bool.false_ne_true
  | bl a =>
    cases ry
    cases x with
    | non=>cases rx; exact SeqAt.EqAt.bool_none a
    | bl b=>cases rx; exact SeqAt.EqAt.bool_bool a b
    | int b=>obtain ⟨t,rfl⟩:=rx; exact SeqAt.EqAt.bool_int a b t
    | str b=>obtain ⟨t,rfl⟩:=rx; exact SeqAt.EqAt.bool_str a b t
    | _=>exact absurd (show false = true from fx) Bool.false_ne_true
  | int a =>
    obtain ⟨t',rfl⟩:=ry
    cases x with
    | non=>cases rx; exact SeqAt.EqAt.int_none a t'
    | bl b=>cases rx; exact SeqAt.EqAt.int_bool a t' b
    | int b=>obtain ⟨t,rfl⟩:=rx; exact SeqAt.EqAt.int_int a t' b t
    | str b=>obtain ⟨t,rfl⟩:=rx; exact SeqAt.EqAt.int_str a t' b t
    | _=>exact absurd (show false = true from fx) Bool.false_ne_true
  | str a =>
    obtain ⟨t',rfl⟩:=ry
    cases x with
    | non=>cases rx; exact SeqAt.EqAt.str_none a t'
    | bl b=>cases rx; exact SeqAt.EqAt.str_bool a t' b
    | int b=>obtain ⟨t,rfl⟩:=rx; exact SeqAt.EqAt.str_int a t' b t
    | str b=>obtain ⟨t,rfl⟩:=rx; exact SeqAt.EqAt.str_str a t' b t
    | _=>exact absurd (show false = true from fx) Bool.false_ne_true
  | _=>exact absurd (show false = true from fy) Bool.false_ne_true
def eqU (x:V) (u:Value):Bool:=match u with
  | .none=>eqV .non x
  | .bool b=>eqV (.bl b) x
  | .int i _=>eqV (.int i) x
  | .str z _=>eqV (.str z) x
  | _=>false
theorem xkt {x y:V} {u:Value} (r:RelV y u) (f:xc4 y = true):eqU x u = eqV y x:=by
  cases y with
  | non=>cases r; rfl
  | bl b=>cases r; rfl
  | int i=>obtain ⟨t,rfl⟩:=r; rfl
  | str z=>obtain ⟨t,rfl⟩:=r; rfl
  | _=>exact absurd (show false = true from f) Bool.false_ne_true
theorem xd4 {x:V}:∀ {xs:List V} {us:List Value},Vals xs us→xs.all xc4 = true→us.any (eqU x) = xs.any fun y=>eqV y x
  | _,_,.nil,_=>rfl
  | y :: xs,u :: us,.cons r t,f=>by
    rw [List.all_cons,Bool.and_eq_true] at f
    rw [List.any_cons,List.any_cons,xkt r f.1,xd4 t f.2]
theorem xdh {A:Around} {s:Shared} {x:V} {v:Value} (rx:RelV x v) (fx:xc4 x = true):∀ {xs:List V} {us:List Value},Vals xs us→xs.all xc4 = true→∀ u ∈ us,SeqAt.EqAt A s u v (eqU x u)
  | _,_,.nil,_=>fun u hu=>by cases hu
  | y :: xs,u :: us,.cons r t,f=>fun u' hu=>by
    rw [List.all_cons,Bool.and_eq_true] at f
    rcases List.mem_cons.mp hu with rfl | hu
    · rw [xkt r f.1]; exact xoj r rx f.1 fx
    · exact xdh rx fx t f.2 u' hu
def inV (x:V) (xs:List V):Bool:=xs.any fun y=>eqV y x
def rIn (K:PySem.W.Frag) (neg:Bool):R2:=fun x y H Q=>∃ p xs,y = .ref p∧(SqL K H p xs∨SqT K H p xs)∧xc4 x = true∧xs.all xc4 = true∧Q (.bl (if neg then !inV x xs else inV x xs)) H
theorem xgj:OpR X (compareOp .In) (rIn X.K false):=by
  intro pins s σ H x y v u Q I rx ry h
  obtain ⟨p,xs,rfl,hq,fx,fs,q⟩:=h
  cases ry
  rcases hq with hq | hq
  · obtain ⟨its,r,pl,hz⟩:=I.list hq
    refine SeqAt.in_listAt (eqU x) pl.isList (fun w hw=>xdh rx fx r fs w (by simpa using hw)) ⟨.bl _,H,I,rfl,?_⟩
    rw [show its.toArray.any (eqU x) = its.any (eqU x) by simp,xd4 r fs]
    exact q
  · obtain ⟨its,r,pl,hz⟩:=I.tuple hq
    refine SeqAt.in_tupleAt (eqU x) pl (fun w hw=>xdh rx fx r fs w (by simpa using hw)) ⟨.bl _,H,I,rfl,?_⟩
    rw [show its.toArray.any (eqU x) = its.any (eqU x) by simp,xd4 r fs]
    exact q
theorem xdg:OpR X (compareOp .NotIn) (rIn X.K true):=by
  intro pins s σ H x y v u Q I rx ry h
  obtain ⟨p,xs,rfl,hq,fx,fs,q⟩:=h
  cases ry
  rcases hq with hq | hq
  · obtain ⟨its,r,pl,hz⟩:=I.list hq
    refine SeqAt.notIn_listAt (eqU x) pl.isList (fun w hw=>xdh rx fx r fs w (by simpa using hw)) ⟨.bl _,H,I,rfl,?_⟩
    rw [show its.toArray.any (eqU x) = its.any (eqU x) by simp,xd4 r fs]
    exact q
  · obtain ⟨its,r,pl,hz⟩:=I.tuple hq
    refine SeqAt.notIn_tupleAt (eqU x) pl (fun w hw=>xdh rx fx r fs w (by simpa using hw)) ⟨.bl _,H,I,rfl,?_⟩
    rw [show its.toArray.any (eqU x) = its.any (eqU x) by simp,xd4 r fs]
    exact q
theorem xcj:xb6 X (.builtin "len") (fun xs H Q=>∃ p ys,xs = [.ref p]∧(SqL X.K H p ys∨SqT X.K H p ys)∧Q (.int ys.length) H):=by
  intro pins s σ H xs us Q I r h
  obtain ⟨p,ys,rfl,hq,q⟩:=h
  obtain ⟨u,rfl,rx⟩:=xc7 r
  cases rx
  have hn:=xdx
  rcases hq with hq | hq
  · obtain ⟨its,r',pl,hz⟩:=I.list hq
    have hlen:=r'.length
    exact Calls.call_len_list pl.isList (by simp only [List.size_toArray] <;> omega) ⟨.int ys.length,H,I.tok _,⟨s.toks + 1,by rw [List.size_toArray,hlen]⟩,q⟩
  · obtain ⟨its,r',pl,hz⟩:=I.tuple hq
    have hlen:=r'.length
    exact len_tuple pl (by simp only [List.size_toArray] <;> omega) ⟨.int ys.length,H,I.tok _,⟨s.toks + 1,by rw [List.size_toArray,hlen]⟩,q⟩
theorem xej:xb6 X (.builtin "len") (fun xs H Q=>∃ z,xs = [.str z]∧z.length≤sizeLine∧Q (.int z.length) H):=by
  intro pins s σ H xs us Q I r h
  obtain ⟨z,rfl,hz,q⟩:=h
  obtain ⟨u,rfl,t,rfl⟩:=xc7 r
  have hn:=xdx
  exact len_str (by omega) ⟨.int z.length,H,I.tok _,⟨_,rfl⟩,q⟩
def tyV (K:PySem.W.Frag) (T:String) (x:V) (H:Hp):Prop:=match x with
  | .str _=>T = "str"
  | .int _=>T = "int"
  | .ref p=>(T = "list"∧∃ xs,SqL K H p xs)∨(T = "tuple"∧∃ o,K.lookup p = some o∧o.cls = .type "tuple"∧o.dict = none) ∨
      (T = "dict"∧((∃ kvs,H p = some (.dK kvs))∨∃ kvs,H p = some (.dT kvs)))∨(T = "set"∧∃ S n,H p = some (.set S n))
  | _=>False
theorem xn1 {pins:List (Addr × Obj)} {σ:St} {H:Hp} {s:Shared} {T:String} {x:V} {v:Value} (I:Inv X pins σ H s) (r:RelV x v) (ty:tyV X.K T x H) :
    s.TypeIs v T∧∀ a,v = .ref a→∃ ob,s.heap.get? a = some ob∧ob.dict = none:=by
  cases x with
  | str z =>
    obtain ⟨t,rfl⟩:=r
    cases (show T = "str" from ty)
    exact ⟨typeIs_str s z t,fun _ e=>nomatch e⟩
  | int i =>
    obtain ⟨t,rfl⟩:=r
    cases (show T = "int" from ty)
    exact ⟨typeIs_int s i t,fun _ e=>nomatch e⟩
  | ref p =>
    cases r
    rcases ty with ⟨rfl,xs,hq⟩ | ⟨rfl,o,hk,hc,hd⟩ | ⟨rfl,hk⟩ | ⟨rfl,S,n,hk⟩
    · obtain ⟨its,_,pl,_⟩:=I.list hq
      refine ⟨pl.isList.typeIs,fun a e=>?_⟩
      cases e
      obtain ⟨o,n,e,c,hd,_⟩:=pl
      exact ⟨o,e,hd⟩
    · refine ⟨⟨o,I.kIn p o hk,hc⟩,fun a e=>?_⟩
      cases e
      exact ⟨o,I.kIn _ o hk,hd⟩
    · have z:∃ o,s.heap.get? p = some o∧o.ExactDict:=by
        rcases hk with ⟨kvs,hk⟩ | ⟨kvs,hk⟩
        · obtain ⟨_,_,_,_,o,_,_,e,ex,_⟩:=I.hok p _ hk
          exact ⟨o,e,ex⟩
        · obtain ⟨_,_,_,_,o,_,_,e,ex,_⟩:=I.hok p _ hk
          exact ⟨o,e,ex⟩
      obtain ⟨o,e,ex⟩:=z
      refine ⟨⟨o,e,ex.1⟩,fun a e2=>?_⟩
      cases e2
      exact ⟨o,e,ex.2.1⟩
    · obtain ⟨o,_,_,_,e,ex,_⟩:=I.hok p _ hk
      refine ⟨⟨o,e,ex.1⟩,fun a e2=>?_⟩
      cases e2
      exact ⟨o,e,ex.2.1⟩
  | _=>exact False.elim ty
def tBM (K:PySem.W.Frag) (T:String) (r:V→List V→Hp→VK→Prop) (to:TE) (t:TA):TE:=fun σ H Q=>to σ H fun x H1=>tyV K T x H1∧t σ H1 fun xs H2=>r x xs H2 Q
variable {o e:Expr} {es:List Expr} {to:TE} {t:TA} {name:Str} {apos cpos:Pos} {T id:String} {r:V→List V→Hp→VK→Prop}
theorem xfm (pa:PlainAttrs T) (slot:Slot T name id) (hty:typeOf (.builtin id) = pure (.type "method_descriptor")) (hm:MtR X id r) (ho:PE X o to) (ha:PA X (e :: es) t)
    (hbase:attributeBase o name X.env (eval o X.env) = eval o X.env:=by rfl)
    (hfew:((backTo cpos (starEach (e :: es) X.env)).all (fun x=>!x.1) && (backToKw cpos (keywordEach [] X.env)).all (fun x=>x.1.isSome)
      && decide ((e :: es).length + ([]:List Keyword).length + (if ([]:List Keyword).isEmpty then 0 else 1) < 30)) = true:=by rfl)
    (hline:(apos.endLine == cpos.line) = true:=by rfl) (hs:starEach (e :: es) X.env = (false,eval e X.env) :: starEach es X.env:=by rfl) (hplain:(backTo cpos (starEach es X.env)).any (·.1) = false:=by rfl) :
    PE X (.Call (.Attribute o name apos) (e :: es) [] cpos) (tBM X.K T r to t):=by
  intro pins s σ H Q I h
  refine wpAny_Call_method_late hbase hfew hline rfl (thn (ho pins s σ H _ I h) fun v s1 ⟨x,H1,I1,r1,ty,q1⟩=>?_)
  obtain ⟨h1,h2⟩:=xn1 I1 r1 ty
  refine ⟨T,id,pa,slot,hty,h1,h2,?_⟩
  have hA:=ha cpos pins s1 σ H1 _ I1 q1
  rw [hs] at hA ⊢
  refine Calls.callWith_builtin (by show (false || (backTo cpos (starEach es X.env)).any (·.1)) = false; rw [hplain] <;> rfl) (Calls.evalArgs_plain ?_)
  exact thn hA fun us s2 ⟨vs,H2,I2,r2,q2⟩=>hm pins s2 σ H2 x vs v us Q I2 r1 r2 q2
end
end L2
namespace L2
open PySem PySem.Spec PyProof.Rows
variable {q0:Bool}
def MtM (X:Cx) (id:String) (r:V→List V→Hp→VK→Prop):Prop :=
  ∀ (pins:List (Addr × Obj)) (s:Shared) (σ:St) (H:Hp) (x:V) (xs:List V) (v:Value) (us:List Value) (Q:VK),Inv X pins σ H s→RelV x v→Vals xs us→r x xs H Q →
    wpAny (model X.prog X.w) X.A (call (.builtin id) (v :: us)) (EP X pins σ Q) X.xe s
theorem Vals.one:∀ {x:V} {us:List Value},Vals [x] us→∃ u,us = [u]∧RelV x u
  | _,_,.cons r .nil=>⟨_,rfl,r⟩
theorem Vals.eraseIdx:∀ {xs:List V} {us:List Value} (i:Nat),Vals xs us→Vals (xs.eraseIdx i) (us.eraseIdx i)
  | _,_,_,.nil=>.nil
  | _,_,0,.cons _ t=>t
  | _,_,i + 1,.cons r t=>.cons r (Vals.eraseIdx i t)
theorem xgk {α:Type}:∀ (l:List α) (i:Nat),(l.eraseIdx i).length≤l.length
  | [],_=>Nat.le_refl _
  | _ :: _,0=>Nat.le_succ _
  | _ :: r,i + 1=>Nat.succ_le_succ (xgk r i)
section
variable {X:Cx} {pins:List (Addr × Obj)} {σ:St} {H:Hp} {s:Shared} {l b:Addr} {xs ys zs:List V}
theorem Inv.lset {its its':List Value} {n:Nat} {f:Array Value→Array Value} {t':Nat} (I:Inv X pins σ H s) (hH:H l = some (.lst xs))
    (e:s.heap.get? l = some { cls:=.type "list",data:=.seq its.toArray n }) (hf:f its.toArray = its'.toArray) (hv:Vals ys its') (hz:ys.length≤sizeLine) :
    Inv X pins σ (upd H l (.lst ys)) { s with heap:=s.heap.update l (Obj.mapSeq f),toks:=t' }:=by
  have q:=PySem.IsL.update e f
  rw [hf] at q
  refine I.write (x:=l) (e:=l) (by rw [hH]; exact trivial) (.inl rfl) (fun b' u hb hu=>(Heap.get?_update_other s.heap (Obj.mapSeq f) (Ne.symm hb)).trans hu) ⟨_,q⟩ ?_
  exact ⟨hz,its',_,hv,q⟩
theorem Inv.lnew {its:List Value} {t':Nat} (I:Inv X pins σ H s) (hv:Vals ys its) (hz:ys.length≤sizeLine) :
    Inv X pins σ (upd H s.heap.objs.size (.lst ys)) { s with heap:=s.heap.push { cls:=.type "list",data:=.seq its.toArray },toks:=t' } :=
  I.laid (fun _ _ q=>Heap.get?_push_of_some _ q) (Nat.le_refl _) ⟨hz,its,0,hv,Heap.get?_push_size _ rfl⟩
theorem Inv.fresh (I:Inv X pins σ H s):H s.heap.objs.size = none:=I.hok.fresh (Nat.le_refl _)
theorem Inv.lstM (I:Inv X pins σ H s) (hH:H l = some (.lst xs)):xs.length≤sizeLine∧∃ (its:List Value) (n:Nat),Vals xs its∧xs.length = its.length∧s.heap.get? l = some { cls:=.type "list",data:=.seq its.toArray n }:=by
  obtain ⟨z,its,n,r,e⟩:=I.hok l _ hH
  exact ⟨z,its,n,r,r.length,e⟩
end
section
variable {X:Cx}
def xm1:V→List V→Hp→VK→Prop:=fun x vs H Q=>∃ l xs y,x = .ref l∧vs = [y]∧H l = some (.lst xs)∧xs.length < sizeLine∧Q .non (upd H l (.lst (xs ++ [y])))
theorem xcw:MtM X "list.append" xm1:=by
  intro pins s σ H x vs v us Q I rx rv h
  obtain ⟨l,xs,y,rfl,rfl,hH,hz,q⟩:=h
  cases rx
  obtain ⟨u,rfl,ru⟩:=rv.one
  obtain ⟨z,its,n,r,hl,e⟩:=I.lstM hH
  refine call_meets F.slot_list_append ⟨_,e,rfl⟩ F.entry_list_append (F.args_list_append_2 _ _) (PySem.list_append l its.toArray n u (by rw [List.size_toArray]; omega)) ⟨e,?_⟩
  refine ⟨.non,_,I.lset (its':=its ++ [u]) hH e (by simp) (r.append (.cons ru .nil)) ?_,rfl,q⟩
  rw [List.length_append,List.length_singleton]
  omega
def rCat:R2:=fun x y H Q=>∃ l b xs zs,x = .ref l∧y = .ref b∧H l = some (.lst xs)∧H b = some (.lst zs)∧xs.length + zs.length≤sizeLine∧∀ p,H p = none→Q (.ref p) (upd H p (.lst (xs ++ zs)))
theorem xbn:OpR X (binaryOp .Add) rCat:=by
  intro pins s σ H x y v u Q I rx ry h
  obtain ⟨l,b,xs,zs,rfl,rfl,hH,hB,hz,q⟩:=h
  cases rx
  cases ry
  obtain ⟨z,its,n,r,hl,e⟩:=I.lstM hH
  obtain ⟨z2,its2,n2,r2,hl2,e2⟩:=I.lstM hB
  refine PySem.P.add_list e e2 ?_ (by rw [List.size_toArray,List.size_toArray]; omega)
  have ea:its.toArray ++ its2.toArray = (its ++ its2).toArray:=by simp
  rw [ea]
  exact ⟨.ref _,_,I.lnew (t':=s.toks) (r.append r2) (by rw [List.length_append]; omega),rfl,q _ I.fresh⟩
end
section
variable {prog:Program} {w:World} {A:Around} {E:Value→Shared→Prop} {s:Shared}
end
section
variable {X:Cx}
end
end L2
namespace L2
open PySem PySem.Spec PyProof.Rows
variable {q0:Bool}
section
variable {κ:Type} [DecidableEq κ]
def valV (kvs:List (κ × V)) (k:κ):Option V:=(kvs.find? fun kv=>decide (kv.1 = k)).map (·.2)
def putK (kvs:List (κ × V)) (k:κ) (v:V):List (κ × V) :=
  if (kvs.any fun kv=>decide (kv.1 = k)) = true then kvs.map (fun kv=>if kv.1 = k then (kv.1,v) else kv) else kvs ++ [(k,v)]
def xc9 (kvs:List (κ × V)) (k:κ):List (κ × V):=kvs.filter fun kv=>decide (kv.1≠k)
theorem xdj {p:κ × V} {r:List (κ × V)} {k:κ} (e:p.1 = k):valV (p :: r) k = some p.2:=by simp [valV,List.find?_cons,e]
theorem xcn {p:κ × V} {r:List (κ × V)} {k:κ} (e:¬ p.1 = k):valV (p :: r) k = valV r k:=by simp [valV,List.find?_cons,e]
theorem xdf (k:κ):∀ kvs:List (κ × V),(kvs.any fun kv=>decide (kv.1 = k)) = (valV kvs k).isSome
  | []=>rfl
  | p :: r=>by
    rw [List.any_cons]
    by_cases e:p.1 = k
    · simp only [xdj e,decide_eq_true e,Bool.true_or,Option.isSome_some]
    · rw [xcn e,decide_eq_false e,Bool.false_or]; exact xdf k r
theorem xe4 (kvs:List (κ × V)) (k:κ) (v:V):(putK kvs k v).length≤kvs.length + 1:=by
  unfold putK
  split
  · rw [List.length_map]; omega
  · rw [List.length_append,List.length_cons,List.length_nil]; omega
theorem xe8 {kvs:List (κ × V)} {k:κ} (v:V) (h:valV kvs k = none):putK kvs k v = kvs ++ [(k,v)]:=by
  unfold putK
  rw [xdf,h]
  exact if_neg (by decide)
theorem RelO.isSome_eq {o:Option V} {u:Option Value} (r:RelO o u):o.isSome = u.isSome:=by
  cases o with
  | none=>cases u with
    | none=>rfl
    | some _=>exact (show False from r).elim
  | some _=>cases u with
    | none=>exact (show False from r).elim
    | some _=>rfl
theorem KV.val {kvs:List (κ × V)} {vs:List (κ × Value)} (r:KV kvs vs) (k:κ):RelO (valV kvs k) (valueAt vs k):=by
  unfold KV at r
  induction r with
  | nil=>exact True.intro
  | @cons p q ps qs h t ih =>
    obtain ⟨h1,h2⟩:=h
    by_cases e:p.1 = k
    · have e':q.1 = k:=h1.symm.trans e
      have b:valueAt (q :: qs) k = some q.2:=by simp [valueAt,List.find?_cons,e']
      rw [xdj e,b]; exact h2
    · have e':¬ q.1 = k:=fun z=>e (h1.trans z)
      have b:valueAt (q :: qs) k = valueAt qs k:=by simp [valueAt,List.find?_cons,e']
      rw [xcn e,b]; exact ih
theorem KV.any {kvs:List (κ × V)} {vs:List (κ × Value)} (r:KV kvs vs) (k:κ):(kvs.any fun kv=>decide (kv.1 = k)) = vs.any fun kv=>decide (kv.1 = k):=by
  unfold KV at r
  induction r with
  | nil=>rfl
  | cons h t ih=>rw [List.any_cons,List.any_cons,ih,h.1]
theorem KV.repl {kvs:List (κ × V)} {vs:List (κ × Value)} (r:KV kvs vs) (k:κ) {y:V} {u:Value} (ry:RelV y u) :
    KV (kvs.map fun kv=>if kv.1 = k then (kv.1,y) else kv) (vs.map fun kv=>if kv.1 = k then (kv.1,u) else kv):=by
  unfold KV at r ⊢
  induction r with
  | nil=>exact .nil
  | @cons p q ps qs h t ih =>
    rw [List.map_cons,List.map_cons]
    refine .cons ?_ ih
    obtain ⟨h1,h2⟩:=h
    by_cases e:p.1 = k
    · rw [if_pos e,if_pos (h1.symm.trans e)]; exact ⟨h1,ry⟩
    · rw [if_neg e,if_neg (fun z=>e (h1.trans z))]; exact ⟨h1,h2⟩
theorem KV.put {kvs:List (κ × V)} {vs:List (κ × Value)} (r:KV kvs vs) (k:κ) {y:V} {u:Value} (ry:RelV y u):KV (putK kvs k y) (stored vs k u):=by
  unfold putK stored
  rw [r.any k]
  by_cases e:(vs.any fun kv=>decide (kv.1 = k)) = true
  · rw [if_pos e,if_pos e]; exact r.repl k ry
  · rw [if_neg e,if_neg e]; exact Paired.snoc r ⟨rfl,ry⟩
theorem KV.keys {kvs:List (κ × V)} {vs:List (κ × Value)} (r:KV kvs vs):kvs.map (·.1) = vs.map (·.1):=by
  unfold KV at r
  induction r with
  | nil=>rfl
  | cons h t ih=>rw [List.map_cons,List.map_cons,ih,h.1]
theorem KV.length {kvs:List (κ × V)} {vs:List (κ × Value)} (r:KV kvs vs):kvs.length = vs.length:=Paired.length r
theorem xl3 (kvs:List (κ × V)) (k:κ):(xc9 kvs k).length≤kvs.length:=List.length_filter_le _ _
end
theorem xdp {P:Program} {w:World} {k:Key} {u:Value} (r:RelV (kV k) u):(xa5 P w).is k u = true:=by
  cases k with
  | inl i=>obtain ⟨t,e⟩:=(show ∃ t,u = Value.int i t from r); subst e; exact xh7 P w i t
  | inr x=>obtain ⟨t,e⟩:=(show ∃ t,u = Value.str x t from r); subst e; exact xh6 P w x t
theorem xgi {P:Program} {w:World}:∀ {ks:List Key} {us:List Value},Vals (ks.map kV) us→ItemsAre (xa5 P w) ks us
  | [],_,r=>by rw [List.map_nil] at r; cases r; exact .nil
  | k :: ks,_,r=>by
    rw [List.map_cons] at r
    cases r with
    | cons h t=>exact .cons (xdp h) (xgi t)
abbrev KT (H:Hp):List (List Key × V)→List (List Key × Addr × Value)→Prop:=Paired fun p q=>p.1 = q.1∧H q.2.1 = some (.tup (p.1.map kV))∧RelV p.2 q.2.2
theorem KT.val {H:Hp} {kvs:List (List Key × V)} {xs:List (List Key × Addr × Value)} (r:KT H kvs xs) (k:List Key):RelO (valV kvs k) ((atKey xs k).map (·.2)):=by
  induction r with
  | nil=>exact True.intro
  | @cons p q ps qs h t ih =>
    obtain ⟨h1,_,h2⟩:=h
    by_cases e:p.1 = k
    · have e':q.1 = k:=h1.symm.trans e
      have b:atKey (q :: qs) k = some q.2:=by simp [atKey,List.find?_cons,e']
      rw [xdj e,b]; exact h2
    · have e':¬ q.1 = k:=fun z=>e (h1.trans z)
      have b:atKey (q :: qs) k = atKey qs k:=by simp [atKey,List.find?_cons,e']
      rw [xcn e,b]; exact ih
theorem KT.repl {H:Hp} {kvs:List (List Key × V)} {xs:List (List Key × Addr × Value)} (r:KT H kvs xs) (k:List Key) {y:V} {u:Value} (ry:RelV y u) :
    KT H (kvs.map fun kv=>if kv.1 = k then (kv.1,y) else kv) (xs.map (putAt k u)):=by
  induction r with
  | nil=>exact .nil
  | @cons p q ps qs h t ih =>
    rw [List.map_cons,List.map_cons]
    refine .cons ?_ ih
    obtain ⟨h1,h2,h3⟩:=h
    unfold putAt
    by_cases e:p.1 = k
    · rw [if_pos e,if_pos (h1.symm.trans e)]; exact ⟨h1,h2,ry⟩
    · rw [if_neg e,if_neg (fun z=>e (h1.trans z))]; exact ⟨h1,h2,h3⟩
theorem KT.put {H:Hp} {kvs:List (List Key × V)} {xs:List (List Key × Addr × Value)} (r:KT H kvs xs) (k:List Key) {b:Addr} {y:V} {u:Value} (hb:H b = some (.tup (k.map kV))) (ry:RelV y u) :
    KT H (putK kvs k y) (storedH xs k b u):=by
  have e:(kvs.any fun kv=>decide (kv.1 = k)) = (atKey xs k).isSome:=by
    rw [xdf,(r.val k).isSome_eq,Option.isSome_map]
  unfold putK storedH
  rw [e]
  by_cases q:(atKey xs k).isSome = true
  · rw [if_pos q,if_pos q]; exact r.repl k ry
  · rw [if_neg q,if_neg q]; exact Paired.snoc r ⟨rfl,hb,ry⟩
theorem KT.keeps {H H':Hp} {kvs:List (List Key × V)} {xs:List (List Key × Addr × Value)} (r:KT H kvs xs) (ht:∀ b ys,H b = some (.tup ys)→H' b = some (.tup ys)):KT H' kvs xs :=
  Paired.mapP r fun _ _ z=>⟨z.1,ht _ _ z.2.1,z.2.2⟩
section
variable {P:Program} {w:World} {H:Hp} {h:Heap} {a:Addr}
theorem xmk {u:HO} (ok:HOk P w H h) (e:Rd H a u):xa3 P w H h a u:=e.ok ok
theorem xed {kvs:List (Key × V)} (ok:HOk P w H h) (e:Rd H a (.dK kvs)):kvs.length≤sizeLine∧(a == sysModules) = false∧∃ vs,KV kvs vs∧h.DictOf (xa5 P w) a vs :=
  show xa3 P w H h a (.dK kvs) from xmk ok e
theorem xmf {kvs:List (Key × V)} (ok:HOk P w H h) (e:H a = some (.dK kvs)):kvs.length≤sizeLine∧(a == sysModules) = false∧∃ vs,KV kvs vs∧h.DictOf (xa5 P w) a vs:=xed ok (.inl e)
theorem xd3 {ks:List Key} (ok:HOk P w H h) (e:H a = some (.tup (ks.map kV))):(tupleKind (xa5 P w)).is h ks a:=by
  obtain ⟨_,its,r,o,h1,h2,n,h3⟩:=(show xa3 P w H h a (.tup (ks.map kV)) from ok a _ e)
  exact ⟨o,its.toArray,n,h1,h2,h3,by simpa using xgi r⟩
theorem xex {kvs:List (List Key × V)} (ok:HOk P w H h) (e:Rd H a (.dT kvs)):kvs.length≤sizeLine∧(a == sysModules) = false ∧
    ∃ xs,KT H kvs xs∧h.DictOfH (tupleKind (xa5 P w)) a xs:=by
  obtain ⟨z,y,xs,r,o,es,ep,h1,h2,h3,h4,h5⟩:=(show xa3 P w H h a (.dT kvs) from xmk ok e)
  refine ⟨z,y,xs,r,o,es,ep,h1,h2,h3,h4,fun x hx=>?_,h5⟩
  have all:∀ {l:List (List Key × V)} {m:List (List Key × Addr × Value)},KT H l m→∀ x ∈ m,(tupleKind (xa5 P w)).is h x.1 x.2.1:=by
    intro l m q
    induction q with
    | nil=>intro x hx; exact nomatch hx
    | @cons p q ps qs hq t ih =>
      intro x hx
      rcases List.mem_cons.mp hx with e | hx
      · subst e
        exact xd3 ok (by rw [← hq.1]; exact hq.2.1)
      · exact ih x hx
  exact all r x hx
theorem xi2 {kvs:List (List Key × V)} (ok:HOk P w H h) (e:H a = some (.dT kvs)):kvs.length≤sizeLine∧(a == sysModules) = false ∧
    ∃ xs,KT H kvs xs∧h.DictOfH (tupleKind (xa5 P w)) a xs:=xex ok (.inl e)
end
def DGet (H:Hp) (a:Addr) (y:V) (r:Option V):Prop :=
  (∃ kvs k,Rd H a (.dK kvs)∧y = kV k∧r = valV kvs k)∨∃ kvs k b,Rd H a (.dT kvs)∧y = .ref b∧H b = some (.tup (k.map kV))∧r = valV kvs k
def DPut (H:Hp) (a:Addr) (y v:V) (H':Hp):Prop :=
  (∃ kvs k,H a = some (.dK kvs)∧y = kV k∧kvs.length < sizeLine∧H' = upd H a (.dK (putK kvs k v))) ∨
  ∃ kvs k b,H a = some (.dT kvs)∧y = .ref b∧H b = some (.tup (k.map kV))∧kvs.length < sizeLine∧H' = upd H a (.dT (putK kvs k v))
theorem DGet.k {H:Hp} {a:Addr} {kvs:List (Key × V)} {k:Key} (e:H a = some (.dK kvs)):DGet H a (kV k) (valV kvs k):=.inl ⟨kvs,k,.inl e,rfl,rfl⟩
theorem DGet.t {H:Hp} {a b:Addr} {kvs:List (List Key × V)} {k:List Key} (e:H a = some (.dT kvs)) (eb:H b = some (.tup (k.map kV))):DGet H a (.ref b) (valV kvs k):=.inr ⟨kvs,k,b,.inl e,rfl,eb,rfl⟩
theorem DPut.k {H:Hp} {a:Addr} {kvs:List (Key × V)} {k:Key} {v:V} (e:H a = some (.dK kvs)) (hl:kvs.length < sizeLine):DPut H a (kV k) v (upd H a (.dK (putK kvs k v))):=.inl ⟨kvs,k,e,rfl,hl,rfl⟩
theorem DPut.t {H:Hp} {a b:Addr} {kvs:List (List Key × V)} {k:List Key} {v:V} (e:H a = some (.dT kvs)) (eb:H b = some (.tup (k.map kV))) (hl:kvs.length < sizeLine) :
    DPut H a (.ref b) v (upd H a (.dT (putK kvs k v))):=.inr ⟨kvs,k,b,e,rfl,eb,hl,rfl⟩
section
variable {X:Cx} {pins:List (Addr × Obj)} {σ:St} {H:Hp} {s:Shared} {a:Addr} {y v:V} {u r:Value} {o:Option V} {A:Around} {E:Value→Shared→Prop}
theorem Inv.big (I:Inv X pins σ H s):sysModules < s.heap.objs.size:=by
  have h:mainGlobals < s.heap.objs.size:=(I.mod.glob.keeps I.bk).lt
  exact Nat.lt_trans (by decide) h
theorem xk6 {Q:Value→Shared→Prop} (hu:A.units + 1 < cLine) (I:Inv X pins σ H s) (g:DGet H a y (some v)) (ry:RelV y u) (h:∀ w' s',Inv X pins σ H s'→RelV v w'→Q w' s') :
    wpAny (model X.prog X.w) A (getItem (.ref a) u) Q E s:=by
  rcases g with ⟨kvs,k,e,ey,l⟩ | ⟨kvs,k,b,e,ey,eb,l⟩
  · subst ey
    obtain ⟨z,hd,vs,rel,dd⟩:=xed I.hok e
    obtain ⟨w',hw,rw'⟩:=RelO.some_of (v:=v) (o:=valueAt vs k) (by rw [l]; exact rel.val k)
    exact wpAny_getItem_of (xdp ry) dd.mapOf hw (h w' _ (I.tok _) rw')
  · subst ey
    cases (show u = Value.ref b from ry)
    obtain ⟨z,hd,xs,rel,dd⟩:=xex I.hok e
    obtain ⟨w',hw,rw'⟩:=RelO.some_of (v:=v) (o:=(atKey xs k).map (·.2)) (by rw [l]; exact rel.val k)
    obtain ⟨p,hp,hp2⟩:=Option.map_eq_some_iff.mp hw
    refine wpAny_getItem_heap (tupleKind_room_in1 hu) (xd3 I.hok eb) dd hp ?_
    rw [hp2]
    exact h w' _ (I.tok _) rw'
theorem d_in {Q:Value→Shared→Prop} (hu:A.units + 1 < cLine) (I:Inv X pins σ H s) (g:DGet H a y o) (ry:RelV y u) (h:∀ s',Inv X pins σ H s'→Q (.bool o.isSome) s') :
    wpAny (model X.prog X.w) A (compareOp .In u (.ref a)) Q E s:=by
  rcases g with ⟨kvs,k,e,ey,l⟩ | ⟨kvs,k,b,e,ey,eb,l⟩
  · subst ey
    obtain ⟨z,hd,vs,rel,dd⟩:=xed I.hok e
    refine wpAny_in_of (xdp ry) hd dd.mapOf ?_
    rw [← (rel.val k).isSome_eq,← l]
    exact h _ (I.tok _)
  · subst ey
    cases (show u = Value.ref b from ry)
    obtain ⟨z,hd,xs,rel,dd⟩:=xex I.hok e
    refine wpAny_in_heap (tupleKind_room_in1 hu) (xd3 I.hok eb) hd dd ?_
    have q:=(rel.val k).isSome_eq
    rw [Option.isSome_map] at q
    rw [← q,← l]
    exact h _ (I.tok _)
theorem xnm {Q:Value→Shared→Prop} (hu:A.units + 1 < cLine) (I:Inv X pins σ H s) (g:DGet H a y o) (ry:RelV y u) (h:∀ s',Inv X pins σ H s'→Q (.bool (!o.isSome)) s') :
    wpAny (model X.prog X.w) A (compareOp .NotIn u (.ref a)) Q E s:=by
  rcases g with ⟨kvs,k,e,ey,l⟩ | ⟨kvs,k,b,e,ey,eb,l⟩
  · subst ey
    obtain ⟨z,hd,vs,rel,dd⟩:=xed I.hok e
    refine wpAny_notIn_of (xdp ry) hd dd.mapOf ?_
    rw [← (rel.val k).isSome_eq,← l]
    exact h _ (I.tok _)
  · subst ey
    cases (show u = Value.ref b from ry)
    obtain ⟨z,hd,xs,rel,dd⟩:=xex I.hok e
    refine wpAny_notIn_heap (tupleKind_room_in1 hu) (xd3 I.hok eb) hd dd ?_
    have q:=(rel.val k).isSome_eq
    rw [Option.isSome_map] at q
    rw [← q,← l]
    exact h _ (I.tok _)
theorem xgf {h':Heap} {t':Nat} {ob:HO} (I:Inv X pins σ H s) (mu:Mut (H a)) (hs:Heap.SameBut a s.heap h') (he:∃ q,h'.get? a = some q) (new:xa3 X.prog X.w (upd H a ob) h' a ob) :
    Inv X pins σ (upd H a ob) { s with heap:=h',toks:=t' } :=
  I.write (x:=a) (e:=a) mu (.inl rfl) (fun b q hb z=>(hs.2 b hb).trans z) he new
theorem xok {P:Program} {w:World} {H':Hp} {h':Heap} {kvs:List (Key × V)} {vs:List (Key × Value)} (z:kvs.length≤sizeLine) (hd:(a == sysModules) = false) (rel:KV kvs vs) (dd:h'.DictOf (xa5 P w) a vs) :
    xa3 P w H' h' a (.dK kvs):=⟨z,hd,vs,rel,dd⟩
theorem xjw {H':Hp} {Q:Unit→Shared→Prop} (hu:A.units + 1 < cLine) (I:Inv X pins σ H s) (g:DPut H a y v H') (ry:RelV y u) (rv:RelV v r) (h:∀ s',Inv X pins σ H' s'→Q () s') :
    wpAny (model X.prog X.w) A (setItem (.ref a) u r) Q E s:=by
  rcases g with ⟨kvs,k,e,ey,l,eH⟩ | ⟨kvs,k,b,e,ey,eb,l,eH⟩
  · subst ey eH
    obtain ⟨z,hd,vs,rel,dd⟩:=xmf I.hok e
    have hz:vs.length≤sizeLine:=by rw [← rel.length]; exact z
    have hl:(putK kvs k v).length≤sizeLine:=by have:=xe4 kvs k v; omega
    refine wpAny_setItem_pairs (hsz:=hz) (xdp ry) dd fun h' dd' hs=>h _ ?_
    have he:∃ q,h'.get? a = some q:=let ⟨q,_,_,hq,_⟩:=dd'; ⟨q,hq⟩
    exact xgf I (by rw [e]; exact True.intro) hs he (xok hl hd (rel.put k rv) dd')
  · subst ey eH
    cases (show u = Value.ref b from ry)
    obtain ⟨z,hd,xs,rel,dd⟩:=xi2 I.hok e
    have hz:xs.length≤sizeLine:=by rw [← Paired.length rel]; exact z
    have hl:(putK kvs k v).length≤sizeLine:=by have:=xe4 kvs k v; omega
    refine wpAny_setItem_heap (hsz:=hz) (tupleKind_room_in1 hu) (xd3 I.hok eb) dd fun h' dd' hs=>h _ ?_
    obtain ⟨q,es,ep,hq,h2,h3,h4,_,h5⟩:=dd'
    refine xgf I (by rw [e]; exact True.intro) hs ⟨q,hq⟩ ⟨hl,hd,_,(rel.put k eb rv).keeps fun c ys ec=>?_,q,es,ep,hq,h2,h3,h4,h5⟩
    rw [xm (xab ec e (fun z=>nomatch z))]
    exact ec
end
section
variable {X:Cx} {pins:List (Addr × Obj)} {σ:St} {H:Hp} {s:Shared} {a:Addr} {kvs:List (Key × V)} {k:Key} {u:Value} {A:Around} {E:Value→Shared→Prop}
theorem xo4 {Q:Value→Shared→Prop} (I:Inv X pins σ H s) (e:Rd H a (.dK kvs)) (h:∀ t s',Inv X pins σ H s'→Q (.int kvs.length t) s'):wpAny (model X.prog X.w) A (call (.builtin "len") [.ref a]) Q E s:=by
  obtain ⟨z,hd,vs,rel,dd⟩:=xed I.hok e
  refine call_len_dict hd dd (by rw [← rel.length]; rw [sizeLine_eq] at z; omega) ?_
  rw [← rel.length]
  exact h _ _ (I.tok _)
end
def NoSl (i:Expr):Prop:=∀ ov iv,subscripted i false ov iv = operate [ov,iv] (getItem ov iv)
theorem xm0 {prog:Program} {w:World} {A:Around} {E:Value→Shared→Prop} {s:Shared} {env:Env} {value slice:Expr} {pos:Pos} {T id:String} {Q:Value→Shared→Prop}
    (hl:typeLookup (.type T) "__getitem__" = pure (some (.builtin id))) (hs:NoSl slice)
    (h:wpAny (model prog w) A (eval value env) (fun o s₁=>wpAny (model prog w) A (eval slice env) (fun i s₂=>s₂.TypeIs o T∧wpAny (model prog w) A (getItem o i) Q E s₂) E s₁) E s) :
    wpAny (model prog w) A (eval (.Subscript value slice pos) env) Q E s:=by
  refine Subscript_ (wpAny_mono h (fun o s₁ h₁=>wpAny_mono h₁ (fun i s₂ h₂=>?_) fun _ _ x=>x) fun _ _ x=>x)
  obtain ⟨hT,h₂⟩:=h₂
  unfold subscriptTail
  refine wpAny_bind ?_
  rw [getitemInPython_of_ne hT.not_modules]
  refine wpAny_bind (wpAny_specialOf hT hl ?_)
  have fin:wpAny (model prog w) A (subscripted slice false o i) (fun r s₃=>wpAny (model prog w) A (letTemporaryGo value o r >>= fun _=>pure r) Q E s₃) E s₂:=by
    rw [hs o i]
    exact wpAny_operating (wpAny_mono h₂ (fun r s₃ h₃=>wpAny_bind (wpAny_letTemporaryGo (wpAny_pure h₃))) fun _ _ x=>x)
  first
    | exact wpAny_pure (wpAny_bind fin)
    | exact wpAny_bind (wpAny_pure (wpAny_bind fin))
    | exact wpAny_bind fin
theorem xh9 {X:Cx} {pins:List (Addr × Obj)} {σ:St} {H:Hp} {s:Shared} {a:Addr} {y:V} {o:Option V} (I:Inv X pins σ H s) (g:DGet H a y o):s.TypeIs (.ref a) "dict":=by
  rcases g with ⟨kvs,k,e,_,_⟩ | ⟨kvs,k,b,e,_,_,_⟩
  · obtain ⟨_,_,vs,_,dd⟩:=xed I.hok e
    exact dd.typeIs
  · obtain ⟨_,_,xs,_,dd⟩:=xex I.hok e
    exact dd.typeIs
def xp5 (td ty:TE):TE:=fun σ H Q=>td σ H fun x H1=>ty σ H1 fun y H2=>∃ a v,x = .ref a∧DGet H2 a y (some v)∧Q v H2
def tDIn (ty td:TE):TE:=fun σ H Q=>ty σ H fun y H1=>td σ H1 fun x H2=>∃ a o,x = .ref a∧DGet H2 a y o∧Q (.bl o.isSome) H2
def xmy (ty td:TE):TE:=fun σ H Q=>ty σ H fun y H1=>td σ H1 fun x H2=>∃ a o,x = .ref a∧DGet H2 a y o∧Q (.bl (!o.isSome)) H2
def xpt (td ty tv:TE):TS:=fun D σ H=>tv σ H fun v H1=>td σ H1 fun x H2=>ty σ H2 fun y H3=>∃ a H4,x = .ref a∧DPut H3 a y v H4∧D.nx σ H4
section
variable {X:Cx} {o i e value:Expr} {pos pos' tpos:Pos} {td ty tv:TE}
theorem xgd (hu:X.A.units + 1 < cLine) (ho:PE X o td) (hi:PE X i ty) (hs:NoSl i):PE X (.Subscript o i pos) (xp5 td ty):=by
  intro pins s σ H Q I h
  refine xm0 PySem.F.slot_dict_getitem.lookup hs (thn (ho pins s σ H _ I h) fun u s1 ⟨x,H1,I1,rx,q1⟩=>thn (hi pins s1 σ H1 _ I1 q1) fun iv s2 ⟨y,H2,I2,ry,a,v,ex,g,q2⟩=>?_)
  subst ex
  obtain rfl:u = Value.ref a:=rx
  exact ⟨xh9 I2 g,xk6 hu I2 g ry fun w' s3 I3 rw'=>⟨v,H2,I3,rw',q2⟩⟩
theorem xhh (hu:X.A.units + 1 < cLine) (hi:PE X i ty) (ho:PE X o td):PC X .In i o (tDIn ty td):=by
  intro pins s σ H Q I h
  refine thn (hi pins s σ H _ I h) fun iv s1 ⟨y,H1,I1,ry,q1⟩=>thn (ho pins s1 σ H1 _ I1 q1) fun u s2 ⟨x,H2,I2,rx,a,ov,ex,g,q2⟩=>?_
  subst ex
  obtain rfl:u = Value.ref a:=rx
  exact d_in hu I2 g ry fun s3 I3=>⟨.bl ov.isSome,H2,I3,rfl,q2⟩
theorem xgr (hu:X.A.units + 1 < cLine) (hi:PE X i ty) (ho:PE X o td):PC X .NotIn i o (xmy ty td):=by
  intro pins s σ H Q I h
  refine thn (hi pins s σ H _ I h) fun iv s1 ⟨y,H1,I1,ry,q1⟩=>thn (ho pins s1 σ H1 _ I1 q1) fun u s2 ⟨x,H2,I2,rx,a,ov,ex,g,q2⟩=>?_
  subst ex
  obtain rfl:u = Value.ref a:=rx
  exact xnm hu I2 g ry fun s3 I3=>⟨.bl (!ov.isSome),H2,I3,rfl,q2⟩
theorem xf8 (hu:X.A.units + 1 < cLine) (ho:PE X o td) (hi:PE X i ty) (hv:PE X value tv) (hs:swapsWith value (some (.Subscript o i pos')) pos.line X.env = pure false) :
    PS X (.Assign [.Subscript o i pos'] value pos) (xpt td ty tv):=by
  intro pins s σ H D I h
  refine wpAny_Assign_Subscript (thn (hv pins s σ H _ I h) fun r s1 ⟨v,H1,I1,rv,q1⟩=>thn (ho pins s1 σ H1 _ I1 q1) fun u s2 ⟨x,H2,I2,rx,q2⟩=>thn (hi pins s2 σ H2 _ I2 q2) fun iv s3 ⟨y,H3,I3,ry,a,H4,ex,g,q3⟩=>?_) hs
  subst ex
  obtain rfl:u = Value.ref a:=rx
  exact xjw hu I3 g ry rv fun s4 I4=>⟨σ,H4,I4,q3⟩
end
theorem xlo {P:Program} {w:World} {H:Hp} (h:Heap) (hb:sysModules < h.objs.size):xa3 P w H (h.push { cls:=.type "dict",data:=.dict #[] }) h.objs.size (.dK []) :=
  ⟨Nat.zero_le _,beq_eq_false_iff_ne.mpr (Ne.symm (Nat.ne_of_lt hb)),[],.nil,Heap.DictOf.new h⟩
theorem xln {P:Program} {w:World} {H:Hp} (h:Heap) (hb:sysModules < h.objs.size):xa3 P w H (h.push { cls:=.type "dict",data:=.dict #[] }) h.objs.size (.dT []) :=
  ⟨Nat.zero_le _,beq_eq_false_iff_ne.mpr (Ne.symm (Nat.ne_of_lt hb)),[],.nil,_,#[],0,Heap.get?_push_size _ rfl,⟨rfl,rfl,rfl⟩,rfl,rfl,List.nodup_nil⟩
def xn7:TE:=fun _ H Q=>∀ p,H p = none→Q (.ref p) (upd H p (.dK []))
def xnw:TE:=fun _ H Q=>∀ p,H p = none→Q (.ref p) (upd H p (.dT []))
section
variable {X:Cx} {pos:Pos}
theorem xl0:PE X (.Dict [] [] pos) xn7:=fun pins s σ H Q I h =>
  wpAny_Dict_empty ⟨.ref s.heap.objs.size,_,I.laid (a:=s.heap.objs.size) (o:=.dK []) (t':=s.toks) (fun _ _ q=>Heap.get?_push_of_some _ q) (Nat.le_refl _) (xlo s.heap I.big),rfl,h _ (I.hok.fresh (Nat.le_refl _))⟩
theorem xlq:PE X (.Dict [] [] pos) xnw:=fun pins s σ H Q I h =>
  wpAny_Dict_empty ⟨.ref s.heap.objs.size,_,I.laid (a:=s.heap.objs.size) (o:=.dT []) (t':=s.toks) (fun _ _ q=>Heap.get?_push_of_some _ q) (Nat.le_refl _) (xln s.heap I.big),rfl,h _ (I.hok.fresh (Nat.le_refl _))⟩
end
structure M1 (X:Cx) (o:Expr) (m:Str) (apos:Pos) (e:Expr) (cpos:Pos):Prop where
  base:attributeBase o m X.env (eval o X.env) = eval o X.env
  few:((backTo cpos (starEach [e] X.env)).all (fun x=>!x.1) && (backToKw cpos (keywordEach [] X.env)).all (fun x=>x.1.isSome)
    && decide (([e]:List Expr).length + ([]:List Keyword).length + (if ([]:List Keyword).isEmpty then 0 else 1) < 30)) = true
  line:(apos.endLine == cpos.line) = true
  trees:backTo cpos (starEach [e] X.env) = [(false,eval e X.env)]
def IsD (H:Hp) (a:Addr):Prop:=(∃ kvs,Rd H a (.dK kvs))∨∃ kvs,Rd H a (.dT kvs)
theorem xn6 {X:Cx} {pins:List (Addr × Obj)} {σ:St} {H:Hp} {s:Shared} {a:Addr} (I:Inv X pins σ H s) (d:IsD H a) :
    s.TypeIs (.ref a) "dict"∧(∀ b,Value.ref a = .ref b→∃ ob,s.heap.get? b = some ob∧ob.dict = none)∧(a == sysModules) = false:=by
  rcases d with ⟨kvs,e⟩ | ⟨kvs,e⟩
  · obtain ⟨_,hd,vs,_,dd⟩:=xed I.hok e
    refine ⟨dd.typeIs,fun b q=>?_,hd⟩
    cases q
    obtain ⟨ob,_,_,h1,h2,_⟩:=dd
    exact ⟨ob,h1,h2.2.1⟩
  · obtain ⟨_,hd,xs,_,dd⟩:=xex I.hok e
    refine ⟨dd.typeIs,fun b q=>?_,hd⟩
    cases q
    obtain ⟨ob,_,_,h1,h2,_⟩:=dd
    exact ⟨ob,h1,h2.2.1⟩
section
variable {X:Cx} {pins:List (Addr × Obj)} {σ:St} {H:Hp} {s:Shared} {a:Addr} {y d:V} {u r:Value} {o:Option V} {A:Around} {E:Value→Shared→Prop}
end
section
variable {X:Cx} {o e f:Expr} {apos cpos:Pos} {td ty tx:TE}
end
section
variable {X:Cx} {pins:List (Addr × Obj)} {σ:St} {H:Hp} {s:Shared} {a:Addr} {kvs:List (Key × V)} {A:Around} {E:Value→Shared→Prop}
end
section
variable {X:Cx} {pins:List (Addr × Obj)} {σ:St} {H:Hp} {s:Shared} {a:Addr} {y:V} {u:Value} {A:Around} {E:Value→Shared→Prop}
end
end L2
namespace Att
open PySem PySem.W PySem.Calls PyProof.Rows
theorem xfo {P:Params} {h:Heap}:∀ (ns:List Int) (vs:List Value),WellAll P h vs (ns.map WData.int)→IntsAre vs ns:=by
  intro ns
  induction ns with
  | nil =>
    intro vs w
    rw [List.map_nil] at w
    cases w
    exact .nil
  | cons n ns ih =>
    intro vs w
    rw [List.map_cons] at w
    cases w with
    | cons a b =>
      cases a
      exact .cons _ _ (ih _ b)
theorem xjz {l:OpenLaw} {n:Nat} (hn:l.most = some n) {P:Params} {h:Heap} {args:List WData} {vals:List Value}
    (hpre:l.row.toRowW.claim.pre args = true) (hwl:WellAll P h vals args) :
    ∃ a vs ns,vals = [Value.ref a]∧args = [WData.list (ns.map WData.int)]∧h.get? a = some { cls:=.type "list",data:=.seq vs.toArray }∧IntsAre vs ns∧ns.length≤n:=by
  have hsh:WShape.hasAll [] args [.list .int] = true:=(pre_splitW hpre).1
  have hc:l.pre.holds [] { args:=args } = true:=(pre_splitW hpre).2
  obtain ⟨d,r,rfl,h1,h2⟩:=hasAllW_cons hsh
  obtain rfl:=hasAllW_nil h2
  obtain ⟨xs,rfl,h3⟩:=hasW_list h1
  obtain ⟨ns,rfl⟩:=items_int h3
  have hlen:ns.length≤n:=by
    unfold OpenLaw.pre at hc
    have h4:(WTm.not (.lt (.lit (.int (n:Int))) (.len (.arg 0)))).holds [] { args:=[.list (ns.map .int)] } = true:=by
      have h4:=(holds_andW hc).1
      rw [hn] at h4
      exact h4
    have h5:=condW_of h4 (w_not (w_lt w_lit (w_len_list (w_arg rfl))))
    rw [List.length_map] at h5
    refine Nat.le_of_not_lt fun q=>?_
    have q':(n:Int) < ((ns.length:Nat):Int):=by omega
    first
      | (rw [decide_eq_true q'] at h5; exact absurd h5 (by decide))
      | (simp at h5; omega)
  cases hwl with
  | cons w1 w2 =>
    cases w2
    cases w1 with
    | list ho hall=>exact ⟨_,_,ns,rfl,rfl,ho,xfo ns _ hall,hlen⟩
theorem xkv (l:OpenLaw) (args:List WData):l.row.toRowW.claim.post args (.bool true) args = true :=
  postW_of (r:=l.row.toRowW) (X:=(true == true))
    (show WShape.has [] (.bool true) .bool = true by first | rfl | decide | simp [WShape.has,WShape.arms,WShape.armsAll])
    (show (WTm.eq .res (.lit (.bool true))).value [] { args:=args,res:=some (.bool true),after:=args } = some (.bool (true == true)) from w_eq_bool (w_res rfl) w_lit) rfl
theorem attach_call {l:OpenLaw} {n:Nat} {q:Program} {loose:List Str} {XP:(Str→Option Value)→Heap→Prop} {YP:World→Heap→Prop} {d:DefRec}
    (hn:l.most = some n) (hdf:d.params.defaults = [])
    (call:∀ (w:World) (s₀ s₁:Shared) (mg mb:Str→Option Value) (fa:Addr) (o:Obj) (pm cd doc:Value) (a:Addr) (vs:List Value) (ns:List Int),
      Ground q loose [] XP w s₀ mg mb s₁.heap→YP w s₁.heap →
      s₁.heap.get? fa = some o→o.data = .func (docDef d.name d.params d.body d.scope pm cd doc)→s₁.heap.CodeRec cd d.name→mg d.name = some (.ref fa) →
      s₁.heap.get? a = some { cls:=.type "list",data:=.seq vs.toArray }→IntsAre vs ns→ns.length≤n→s₁.gens = #[] →
      codeAny (model l.prog w) callerA (.call (.ref fa) ⟨[.ref a],[]⟩) (fun r s'=>r = .ok (.ret (.bool true))∧OldK s₁.heap s'.heap∧s'.os = s₁.os∧AllBare s'.gens) s₁) :
    WalkO q loose XP YP l.row.toRowW d [] (fun f vs=>PySem.call f vs):=by
  intro w s₀ s₁ mg mb G Y fa o pm cd doc dV kV ho hd hcd hD hmg hg args vals as hpre hlay hrd hwl hlo
  obtain rfl:dV = .none:=Dflts.none hD hdf
  obtain rfl:kV = .none:=Dflts.noKw hD
  obtain ⟨a,vs,ns,rfl,rfl,hobj,hints,hlen⟩:=xjz hn hpre hwl
  refine enter_call (codeAny_mono (call w s₀ s₁ mg mb fa o pm cd doc a vs ns G Y ho (fd_plain hd) hcd hmg hobj hints hlen hg) fun r s' hq=>?_)
  obtain ⟨rfl,h2,h3,h4⟩:=hq
  exact ⟨.inl ⟨.bool true,.bool true,[],rfl,fun _=>rfl,.bool true,xkv l _,fun _=>⟨List.Pairwise.nil,fun _ hm=>(nomatch hm)⟩⟩,h2,h3,h4⟩
section
variable {prog:Program} {w:World} {A:Around} {E:Value→Shared→Prop} {s:Shared} {K:Frag}
def xqc (h:Heap) (L d:Addr):List (Addr × Obj):=(List.range h.objs.size).filterMap fun a=>if a = L∨a = d then none else (h.get? a).map fun o=>(a,o)
end
end Att
namespace L2
open PySem PySem.Spec PyProof.Rows
variable {q0:Bool}
theorem xgw:∀ {vs:List Value} {ns:List Int},IntsAre vs ns→Vals (ns.map V.int) vs
  | _,_,.nil=>.nil
  | _,_,.cons n t h=>.cons ⟨t,rfl⟩ (xgw h)
def Only (H:Hp):Prop:=∀ b,H b = none∨∃ o xs,H b = some (.frz o (.lst xs))
theorem xlm {P:Program} {w:World} {K:PySem.W.Frag} {mg mb:Str→Option Value} {CX:CXT} {k:Nat} {fa a:Addr} {fd:FuncData} {x:Str} {sp:Sp} {s₁:Shared} {vs:List Value} {ns:List Int}
    (KX:K.In s₁.heap) (hns:s₁.heap.Ns mainGlobals mg) (hb:s₁.heap.Ns builtinsNs mb) (hbb:∀ x:Str,x≠"__name__"→mb x = bootBuiltins x) (hlim:s₁.heap.NoLimit) (hg:s₁.gens = #[])
    (ha:s₁.heap.get? a = some { cls:=.type "list",data:=.seq vs.toArray }) (hi:IntsAre vs ns) (hl:ns.length≤sizeLine) (hr:Room q0 k callerA)
    (F:∀ base:Heap,K.In base→base.Ns mainGlobals mg→FnOk q0 P w K mg base CX k fa fd [x] sp) (hbind:∀ (s:Shared) (u:Value),BindsTo s fd ⟨[u],[]⟩ [(x,u)])
    (hsp:∀ H:Hp,Only H→SqL K H a (ns.map V.int)→sp [.ref a] H (fun v _=>v = .bl true) fun _ _ _=>False)
    (hCX:∀ H e s',CX [] H s₁ (fun _ _ _=>False) e s'→False) :
    codeAny (model P w) callerA (.call (.ref fa) ⟨[.ref a],[]⟩) (fun r s'=>r = .ok (.ret (.bool true))∧OldK s₁.heap s'.heap∧s'.os = s₁.os∧AllBare s'.gens) s₁:=by
  have rv:=xgw hi
  have lenV:=hi.length
  -- from an abstract heap in which nothing but the script may be tracked
  have core:∀ H:Hp,Only H→SqL K H a (ns.map V.int)→HOk P w H s₁.heap→(∀ b,H b≠none→b = a)→(H a≠none→K.lookup a = none) →
      codeAny (model P w) callerA (.call (.ref fa) ⟨[.ref a],[]⟩) (fun r s'=>r = .ok (.ret (.bool true))∧OldK s₁.heap s'.heap∧s'.os = s₁.os∧AllBare s'.gens) s₁:=by
    intro H hO hS hok hA hK
    have base_of:∀ {b:Addr} {o:Obj},s₁.heap.get? b = some o→H b = none→(hidT s₁.heap H).get? b = some o:=fun e n=>xlg e n
    have noA:∀ {b:Addr} {o:Obj} {es:Array DictEntry} {ep:Nat},s₁.heap.get? b = some o→o.data = .dict es ep→H b = none:=fun {b o es ep} e d=>by
      cases q:H b with
      | none=>rfl
      | some u =>
        have e':b = a:=hA b (by rw [q]; simp)
        subst e'
        rw [ha] at e; cases e
        have d':Data.seq vs.toArray _ = Data.dict es ep:=d
        cases d'
    have nsK:∀ {b:Addr} {m:Str→Option Value},s₁.heap.Ns b m→(hidT s₁.heap H).Ns b m:=fun {b m} ⟨o,es,ep,e,d,r⟩=>⟨o,es,ep,base_of e (noA e d),d,r⟩
    have hKb:K.In (hidT s₁.heap H):=fun b o e=>base_of (KX b o e) (by
      cases q:H b with
      | none=>rfl
      | some u =>
        have e':b = a:=hA b (by rw [q]; simp)
        subst e'
        rw [hK (by rw [q]; simp)] at e; cases e)
    have hM:Mod K mg (hidT s₁.heap H):=⟨hKb,nsK hns,⟨mb,nsK hb,hbb⟩,let ⟨mc,h1,h2⟩:=hlim; ⟨mc,nsK h1,h2⟩⟩
    have e0:Env0 P w K mg (hidT s₁.heap H) callerA [] s₁ H:=⟨rfl,hM,fun b o e=>xnc e,Nat.le_of_eq (xk3 _ _),trivial,fun b hb=>absurd (show b ∈ ([]:List Addr) from hb) (by simp),hok,.of_eq hg⟩
    refine codeAny_mono ((F _ hKb (nsK hns)).run callerA [] s₁ H ⟨[.ref a],[]⟩ [.ref a] [.ref a] _ _ hr e0 (hbind s₁ (.ref a)) (.cons rfl .nil) (hsp H hO hS)) fun r s' h=>?_
    cases r with
    | error e=>exact (hCX H e s' h).elim
    | ok fl =>
      cases fl with
      | next=>exact False.elim h
      | brk=>exact False.elim h
      | cont=>exact False.elim h
      | ret u =>
        obtain ⟨v,H',os,bare,un,hok',r',q⟩:=h
        have q':v = .bl true:=q
        subst q'
        obtain rfl:u = Value.bool true:=r'
        refine ⟨rfl,OldK.of_keep fun b o e=>?_,os,bare⟩
        cases q:H b with
        | none=>exact un.keep b o e q (by intro z; exact absurd (show b ∈ ([]:List Addr) from z) (by simp)) (by simp)
        | some u =>
          rcases hO b with z | ⟨ob,xs,z⟩
          · rw [q] at z; cases z
          · have z2:=un.frzs b ob _ z
            obtain ⟨e1,_⟩:=hok b _ z
            obtain ⟨e2,_⟩:=hok' b _ z2
            rw [e] at e1; cases e1
            exact e2
  cases hk:K.lookup a with
  | some o =>
    -- the script is one of the module's own objects
    have e:=KX a o hk
    rw [ha] at e
    cases e
    refine core (fun _=>none) (fun _=>.inl rfl) (.inr ⟨_,vs.toArray,_,hk,rfl,rfl,rfl,by rw [List.size_toArray,lenV]; exact hl,by simpa using rv⟩) (fun b u z=>by have z':(none:Option HO) = some u:=z; cases z') (fun b z=>absurd rfl z) fun z=>absurd rfl z
  | none =>
    refine core (fun b=>if b = a then some (.frz { cls:=.type "list",data:=.seq vs.toArray } (.lst (ns.map V.int))) else none) (fun b=>?_) (.inl (.inr ⟨{ cls:=.type "list",data:=.seq vs.toArray },if_pos rfl⟩)) (fun b u z=>?_) (fun b z=>?_) fun _=>hk
    · by_cases hb:b = a
      · exact .inr ⟨_,_,if_pos hb⟩
      · exact .inl (if_neg hb)
    · by_cases hb:b = a
      · have z':=(if_pos hb).symm.trans z
        cases z'
        subst hb
        exact ⟨ha,by rw [List.length_map]; exact hl,vs,_,rv,ha⟩
      · have z':=(if_neg hb).symm.trans z
        cases z'
    · by_cases hb:b = a
      · exact hb
      · exact absurd (if_neg hb) z
end L2
namespace L2
open PySem PySem.Spec PyProof.Rows
variable {q0:Bool}
abbrev KOf {K:PySem.W.Frag} {h:Heap} (_:K.In h):PySem.W.Frag:=K
theorem walk_of {l:PySem.W.OpenLaw} {n k:Nat} {q:Program} {loose:List Str} {XP:(Str→Option Value)→Heap→Prop} {YP:World→Heap→Prop} {d:DefRec} {K:Params→PySem.W.Frag} {CX:World→CXT} {sp:World→Sp} {x:Str}
    (hn:l.most = some n) (hn2:n≤sizeLine) (hdf:d.params.defaults = []) (hr:Room q0 k callerA)
    (hY:∀ (w:World) (h:Heap),YP w h→(K w.params).In h)
    (F:∀ (w:World) (mg:Str→Option Value) (fa:Addr) (h:Heap),(K w.params).In h→h.Ns mainGlobals mg→mg d.name = some (.ref fa) →
      ∃ fd:FuncData,(∀ (s:Shared) (u:Value),BindsTo s fd ⟨[u],[]⟩ [(x,u)]) ∧
        ∀ base:Heap,(K w.params).In base→base.Ns mainGlobals mg→FnOk q0 l.prog w (K w.params) mg base (CX w) k fa fd [x] (sp w))
    (hsp:∀ (w:World) (H:Hp) (a:Addr) (ns:List Int),ns.length≤n→Only H→SqL (K w.params) H a (ns.map V.int)→sp w [.ref a] H (fun v _=>v = .bl true) fun _ _ _=>False)
    (hCX:∀ (w:World) (H:Hp) (s:Shared) (e:Value) (s':Shared),CX w [] H s (fun _ _ _=>False) e s'→False) :
    PySem.W.WalkO q loose XP YP l.row.toRowW d [] (fun f vs=>PySem.call f vs):=by
  refine Att.attach_call hn hdf fun w s₀ s₁ mg mb fa o pm cd doc a vs ns G Y ho hd hcd hmg hobj hints hlen hg=>?_
  have KX:=hY w _ Y
  obtain ⟨fd,hb,hF⟩:=F w mg fa _ KX G.T.g hmg
  exact xlm KX G.T.g G.T.b G.T.builtins G.T.nolimit hg hobj hints (Nat.le_trans hlen hn2) hr hF hb (fun H hO hS=>hsp w H a ns hlen hO hS) fun H e s'=>hCX w H s₁ e s'
end L2
namespace L2
open PySem PySem.Spec PyProof.Rows
variable {q0:Bool}
def xa0 (s:Stmt) (j:Nat):Stmt:=match s with
  | .ClassDef _ _ _ body _ _ _ _ _ _ _=>body.getD j (.Pass ⟨0,0,0,0⟩)
  | _=>.Pass ⟨0,0,0,0⟩
def x6 (s:Stmt):Arguments:=match s with
  | .FunctionDef _ a _ _ _ _ _ _ _ _=>a
  | _=>{ posonlyargs:=[],args:=[],vararg:=none,kwonlyargs:=[],kw_defaults:=[],kwarg:=none,defaults:=[] }
def x4 (s:Stmt):List Stmt:=match s with
  | .FunctionDef _ _ b _ _ _ _ _ _ _=>b
  | _=>[]
def xk (s:Stmt):Scope:=match s with
  | .FunctionDef _ _ _ _ _ _ sc _ _ _=>sc
  | _=>{ kind:=.function,names:=[],isGenerator:=false,isCoroutine:=false }
abbrev CX0:CXT:=fun _ _ _ _ _ _=>False
structure Fun (K:PySem.W.Frag) (x qual:Str) (st:Stmt) (f:Addr) (fd:FuncData):Prop where
  ex:∃ (oc:Value) (od:Option Addr) (kV doc pm:Value) (an:Option Addr) (cdv ct:Value) (osl:Array (Option Value)),
    fd = PySem.W.fnOf x qual (x6 st) (x4 st) (xk st) .none kV doc pm an cdv ct∧K.lookup f = some ⟨oc,od,.func fd,osl⟩∧PySem.W.codeIn K cdv qual = true
  kp:PySem.W.keepIn K (.ref f) = true
section
variable {P:Program} {w:World} {K:PySem.W.Frag} {mg:Str→Option Value} {base:Heap}
theorem Fun.ok {x qual:Str} {st:Stmt} {f:Addr} {fd:FuncData} {N ps:List Str} {k:Nat} {sp:Sp} (F:Fun K x qual st f fd) (S:x8 N ps (xk st)) (len:∀ vs H Q E,sp vs H Q E→vs.length = ps.length)
    (hbody:∀ (cdv:Value) (A:Around) (outer:List Env) (s:Shared) (H:Hp) (vs:List V) (Q:VK) (E:XK),Room q0 k (A.deeper (envOfC qual (xk st) s.heap.objs.size f cdv))→sp vs H Q E →
      ∃ t,PSs (cxOf q0 CX0 P w K mg base N qual (xk st) f cdv A outer s H E).nox (x4 st) t∧t { nx:=fun _ H'=>Q .non H',rt:=Q } (xce N vs) H):FnOk q0 P w K mg base CX0 (k + 1) f fd ps sp:=by
  obtain ⟨oc,od,kV,doc,pm,an,cdv,ct,osl,rfl,lk,hcd⟩:=F.ex
  refine xg3 lk hcd S len fun A outer s H vs Q E hr hsp=>?_
  obtain ⟨t,h,q⟩:=hbody cdv A outer s H vs Q E hr hsp
  exact ⟨t,h.nox,q⟩
theorem Fun.binds {x qual:Str} {st:Stmt} {f:Addr} {fd:FuncData} {ps:List Str} (F:Fun K x qual st f fd)
    (h:∀ (kV doc pm:Value) (an:Option Addr) (cdv ct:Value) (us:List Value),us.length = ps.length→bindArgs (PySem.W.fnOf x qual (x6 st) (x4 st) (xk st) .none kV doc pm an cdv ct) ⟨us,[]⟩ = pure (ps.zip us)):xag K fd ps []:=by
  obtain ⟨oc,od,kV,doc,pm,an,cdv,ct,osl,rfl,lk,hcd⟩:=F.ex
  exact .all (h kV doc pm an cdv ct)
theorem xt {x qual:Str} {st:Stmt} {f:Addr} {oc:Value} {od an:Option Addr} {osl:Array (Option Value)} {kV doc pm cdv ct:Value} (l:K.lookup f = some ⟨oc,od,.func (PySem.W.fnOf x qual (x6 st) (x4 st) (xk st) .none kV doc pm an cdv ct),osl⟩)
    (c:PySem.W.codeIn K cdv qual = true) (k:PySem.W.keepIn K (.ref f) = true):Fun K x qual st f (PySem.W.fnOf x qual (x6 st) (x4 st) (xk st) .none kV doc pm an cdv ct):=⟨⟨oc,od,kV,doc,pm,an,cdv,ct,osl,rfl,l,c⟩,k⟩
end
theorem xb7 {A:Around} {k:Nat} (hr:Room q0 k A):A.units + 1 < cLine:=Nat.lt_of_le_of_lt (Nat.add_le_add_left (by decide:1≤64) _) hr.units
section
variable {X:Cx}
theorem pv (i:Nat) {x:Str} {pos:Pos} (hN:X.N[i]? = some x:=by rfl) (hv:Vis X.env.scope x:=by first | exact Or.inl rfl | exact Or.inr (Or.inl rfl) | exact Or.inr (Or.inr rfl)) (hd:(x == ("__debug__":Str)) = false:=by decide)
    (hcd:(x == ("__classdict__":Str)) = false:=by decide):PE X (.Name x pos) (tVar i):=xog hN hv hd hcd
end
theorem iteF {A B:Prop} (h:B):if false = true then A else B:=by
  rw [if_neg Bool.false_ne_true]
  exact h
theorem iteT {A B:Prop} (h:A):if true = true then A else B:=by
  rw [if_pos rfl]
  exact h
theorem ite2 {c A B:Prop} [Decidable c] (h1:c→A) (h2:¬ c→B):if c then A else B:=by
  by_cases h:c
  · rw [if_pos h]
    exact h1 h
  · rw [if_neg h]
    exact h2 h
def Same (H H':Hp):Prop:=∀ b o,H b = some o→H' b = some o
theorem Same.refl (H:Hp):Same H H:=fun _ _ h=>h
theorem Same.trans {H H1 H2:Hp} (a:Same H H1) (b:Same H1 H2):Same H H2:=fun c o h=>b c o (a c o h)
theorem Same.free {H H':Hp} (e:Same H H') {l:Addr} (h:H' l = Option.none):H l = Option.none:=by
  cases q:H l with
  | none=>rfl
  | some o =>
    rw [e l o q] at h
    cases h
theorem Same.seq {K:PySem.W.Frag} {H H':Hp} {a:Addr} {xs:List V} (e:Same H H') (h:SqL K H a xs):SqL K H' a xs:=by
  rcases h with (h | ⟨o,h⟩) | h
  · exact .inl (.inl (e _ _ h))
  · exact .inl (.inr ⟨o,e _ _ h⟩)
  · exact .inr h
end L2
namespace Srt
open PySem PySem.W PyProof.Rows
abbrev CM:=Nat→Nat→(Bool→Shared→Prop)→Shared→Prop
abbrev g (p:Array Nat) (i:Nat):Nat:=p.getD i 0
structure Ord (n:Nat) (lt:Nat→Nat→Bool):Prop where
  irr:∀ i,i < n→lt i i = false
  tr:∀ i j k,i < n→j < n→k < n→lt i j = true→lt j k = true→lt i k = true
  tot:∀ i j,i < n→j < n→i≠j→lt i j = false→lt j i = true
def Cmp (n:Nat) (lt:Nat→Nat→Bool) (cmp:CM) (s:Shared):Prop:=∀ i j,i < n→j < n→∀ Q:Bool→Shared→Prop,Q (lt i j) s→cmp i j Q s
theorem xb2 {α:Type} {cmp:CM} {a:α} {Q:α→Shared→Prop} {s:Shared} (h:Q a s):KasT.kasWp cmp (.ret a) Q s:=h
theorem xet {α:Type} {cmp:CM} {i j:Nat} {k:Bool→KasT α} {Q:α→Shared→Prop} {s:Shared} (h:cmp i j (fun c s'=>KasT.kasWp cmp (k c) Q s') s):KasT.kasWp cmp (.ask i j k) Q s:=h
theorem xpm {p:Array Nat} {n:Nat}:kas_asc p 0 n = .ret n:=by unfold kas_asc; rfl
theorem xpd {p:Array Nat} {f n:Nat}:kas_asc p (f + 1) n = .ask (p.getD n 0) (p.getD (n - 1) 0) fun c=>if c = true then .ret n else kas_asc p f (n + 1):=by rw [kas_asc]
theorem xo7 {p:Array Nat} {k:Nat}:kas_bin 0 p k = .ret p:=by unfold kas_bin; rfl
theorem xpf {f:Nat} {p:Array Nat} {k:Nat}:kas_bin (f + 1) p k = (kas_place p k k 0 k).bind fun l=>kas_bin f (bubble p k (k - l)) (k + 1):=by rw [kas_bin]
theorem xm5 {p:Array Nat} {k l r:Nat}:kas_place p k 0 l r = .ret l:=by unfold kas_place; rfl
theorem xnk {p:Array Nat} {k f l r:Nat}:kas_place p k (f + 1) l r = if l ≥ r then .ret l else .ask (p.getD k 0) (p.getD ((l + r) / 2) 0) fun c=>if c = true then kas_place p k f l ((l + r) / 2) else kas_place p k f ((l + r) / 2 + 1) r:=by rw [kas_place]
theorem xom {p:Array Nat} {k l:Nat}:kas_desc 0 p k l = .ret (p,k,l):=by unfold kas_desc; rfl
theorem xn2 {f:Nat} {p:Array Nat} {k l:Nat}:kas_desc (f + 1) p k l = .ask (p.getD k 0) (p.getD (k - 1) 0) fun c=>if c = true then (if l > 0 then kas_desc f (kas_rev p (k - (l + 1)) k) (k + 1) 0 else kas_desc f p (k + 1) 0) else .ask (p.getD (k - 1) 0) (p.getD k 0) fun d=>if d = true then .ret (p,k,l) else kas_desc f p (k + 1) (l + 1):=by rw [kas_desc]
section
variable {n:Nat} {lt:Nat→Nat→Bool} {cmp:CM} {s:Shared}
structure Arr (n:Nat) (p:Array Nat):Prop where
  sz:p.size = n
  lt:∀ i,i < n→g p i < n
  inj:∀ i j,i < n→j < n→g p i = g p j→i = j
  pm:p.Perm (List.range n).toArray
theorem g_at {p:Array Nat} {i:Nat} {v:Nat} (h:p[i]? = some v):g p i = v:=by
  show p.getD i 0 = v
  rw [Array.getD_eq_getD_getElem?,h]
  rfl
theorem Arr.at {p:Array Nat} (a:Arr n p) {i:Nat} (h:i < n):p[i]? = some (g p i):=by
  have z:i < p.size:=by rw [a.sz]; exact h
  have e:p[i]? = some p[i]:=Array.getElem?_eq_getElem z
  rw [e,g_at e]
def Srtd (lt:Nat→Nat→Bool) (p:Array Nat) (m:Nat):Prop:=∀ i j,i < j→j < m→lt (g p i) (g p j) = true
theorem xif (o:Ord n lt) {p:Array Nat} (a:Arr n p) {m:Nat} (hm:m≤n) (h:∀ i,1≤i→i < m→lt (g p (i - 1)) (g p i) = true):Srtd lt p m:=by
  intro i j hij hj
  obtain ⟨d,rfl⟩:∃ d,j = i + 1 + d:=⟨j - (i + 1),by omega⟩
  induction d with
  | zero=>exact h (i + 1) (by omega) hj
  | succ d ih =>
    have h1:=ih (by omega) (by omega)
    have h2:=h (i + 1 + (d + 1)) (by omega) hj
    exact o.tr _ _ _ (a.lt _ (by omega)) (a.lt _ (by omega)) (a.lt _ (by omega)) h1 h2
theorem xhq (c:Cmp n lt cmp s) {p:Array Nat} (a:Arr n p) {G:Nat→Shared→Prop}:∀ (f k:Nat),1≤k→k + f≤n →
    (∀ m,k≤m→m≤k + f→(∀ i,k≤i→i < m→lt (g p i) (g p (i - 1)) = false)→(m < k + f→lt (g p m) (g p (m - 1)) = true)→G m s)→KasT.kasWp cmp (kas_asc p f k) G s
  | 0,k,h1,hf,hG=>by
    rw [xpm]
    exact xb2 (hG k (Nat.le_refl _) (by omega) (fun i h h'=>by omega) (fun h=>by omega))
  | f + 1,k,h1,hf,hG=>by
    rw [xpd]
    refine xet (c _ _ (a.lt k (by omega)) (a.lt (k - 1) (by omega)) _ ?_)
    cases e:lt (g p k) (g p (k - 1)) with
    | true =>
      exact xb2 (hG k (Nat.le_refl _) (by omega) (fun i h h'=>by omega) (fun _=>e))
    | false =>
      show KasT.kasWp cmp (kas_asc p f (k + 1)) G s
      refine xhq c a f (k + 1) (by omega) (by omega) fun m hm hm2 h3 h4=>hG m (by omega) (by omega) (fun i hi hi2=>?_) (fun h=>h4 (by omega))
      by_cases z:i = k
      · rw [z]; exact e
      · exact h3 i (by omega) hi2
theorem xix (o:Ord n lt) (c:Cmp n lt cmp s) {p:Array Nat} (a:Arr n p) {G:Array Nat × Nat × Nat→Shared→Prop}:∀ (f k:Nat),1≤k→k + f≤n →
    (∀ m,k≤m→m≤k + f→(∀ i,k≤i→i < m→lt (g p i) (g p (i - 1)) = true)→G (p,m,0) s)→KasT.kasWp cmp (kas_desc f p k 0) G s
  | 0,k,h1,hf,hG=>by
    rw [xom]
    exact xb2 (hG k (Nat.le_refl _) (by omega) (fun i h h'=>by omega))
  | f + 1,k,h1,hf,hG=>by
    rw [xn2]
    refine xet (c _ _ (a.lt k (by omega)) (a.lt (k - 1) (by omega)) _ ?_)
    cases e:lt (g p k) (g p (k - 1)) with
    | true =>
      show KasT.kasWp cmp (kas_desc f p (k + 1) 0) G s
      refine xix o c a f (k + 1) (by omega) (by omega) fun m hm hm2 h3=>hG m (by omega) (by omega) fun i hi hi2=>?_
      by_cases z:i = k
      · rw [z]; exact e
      · exact h3 i (by omega) hi2
    | false =>
      refine xet (c _ _ (a.lt (k - 1) (by omega)) (a.lt k (by omega)) _ ?_)
      have ne:g p k≠g p (k - 1):=fun z=>by have:=a.inj _ _ (by omega) (by omega) z; omega
      rw [show lt (p.getD (k - 1) 0) (p.getD k 0) = true from o.tot _ _ (a.lt k (by omega)) (a.lt (k - 1) (by omega)) ne e]
      exact xb2 (hG k (Nat.le_refl _) (by omega) (fun i h h'=>by omega))
theorem Arr.rev {p:Array Nat} (a:Arr n p) {k:Nat} (hk:k≤n):Arr n (kas_rev p 0 k)∧∀ i,i < n→g (kas_rev p 0 k) i = if i < k then g p (k - 1 - i) else g p i:=by
  have ge:∀ i,i < n→g (kas_rev p 0 k) i = if i < k then g p (k - 1 - i) else g p i:=fun i hi=>by
    have z:=getElem?_mirror_all (xs:=p) (i:=0) (j:=k) (by rw [a.sz]; exact hk) i
    by_cases c:i < k
    · rw [if_pos c]
      rw [if_pos ⟨Nat.zero_le _,c⟩,show 0 + k - 1 - i = k - 1 - i by omega,a.at (show k - 1 - i < n by omega)] at z
      exact g_at z
    · rw [if_neg c]
      rw [if_neg (fun w=>c w.2),a.at hi] at z
      exact g_at z
  refine ⟨⟨by rw [kas_rev_size,a.sz],fun i hi=>?_,fun i j hi hj e=>?_,(mirror_perm _ _ _ _).trans a.pm⟩,ge⟩
  · rw [ge i hi]
    split <;> exact a.lt _ (by omega)
  · rw [ge i hi,ge j hj] at e
    split at e <;> split at e <;> have:=a.inj _ _ (by omega) (by omega) e <;> omega
theorem xlr (o:Ord n lt) (c:Cmp n lt cmp s) {p:Array Nat} (a:Arr n p) (h2:2≤n) {G:Nat × Array Nat→Shared→Prop}
    (hG:∀ m p',1≤m→m≤n→Arr n p'→Srtd lt p' m→G (m,p') s):KasT.kasWp cmp (kas_count n p) G s:=by
  unfold kas_count
  rw [KasT.kasWp_bind]
  have up:∀ q,Arr n q→∀ i,1≤i→i < n→lt (g q i) (g q (i - 1)) = false→lt (g q (i - 1)) (g q i) = true:=fun q b i h1 hi e =>
    o.tot _ _ (b.lt i hi) (b.lt (i - 1) (by omega)) (fun z=>by have:=b.inj _ _ hi (by omega) z; omega) e
  refine xhq c a (n - 1) 1 (Nat.le_refl _) (by omega) fun m hm hm2 h3 h4=>?_
  have sm:Srtd lt p m:=xif o a (by omega) fun i hi hi2=>up p a i hi (by omega) (h3 i hi hi2)
  show KasT.kasWp cmp (if (m == n) = true then _ else _) G s
  by_cases e1:m = n
  · rw [if_pos (by simpa using e1)]
    exact xb2 (hG m p hm (by omega) a sm)
  · rw [if_neg (by simpa using e1)]
    by_cases e2:m > 1
    · rw [if_pos e2]
      refine xet (c _ _ (a.lt 0 (by omega)) (a.lt (m - 1) (by omega)) _ ?_)
      rw [show lt (p.getD 0 0) (p.getD (m - 1) 0) = true from sm 0 (m - 1) (by omega) (by omega)]
      exact xb2 (hG m p hm (by omega) a sm)
    · rw [if_neg e2]
      have m1:m = 1:=by omega
      subst m1
      have d1:=h4 (by omega)
      unfold kas_descPart
      rw [KasT.kasWp_bind]
      refine xix o c a (n - (1 + 1)) (1 + 1) (by omega) (by omega) fun k hk hk2 h5=>?_
      show KasT.kasWp cmp (if (0:Nat) > 0 then _ else kas_tail3 k n p) G s
      rw [if_neg (Nat.lt_irrefl 0)]
      unfold kas_tail3
      rw [KasT.kasWp_bind]
      obtain ⟨b,ge⟩:=a.rev (k:=k) (by omega)
      refine xhq c b (n - k) k (by omega) (by omega) fun m' hm' hm2' h6 _=>?_
      refine xb2 (hG m' _ (by omega) (by omega) b (xif o b (by omega) fun i hi hi2=>?_))
      by_cases ik:i < k
      · rw [ge i (by omega),ge (i - 1) (by omega),if_pos ik,if_pos (by omega)]
        have e3:k - 1 - (i - 1) - 1 = k - 1 - i:=by omega
        by_cases z:k - 1 - (i - 1) = 1
        · have z':k - 1 - i = 0:=by omega
          rw [z,z']
          exact d1
        · have:=h5 (k - 1 - (i - 1)) (by omega) (by omega)
          rw [e3] at this
          exact this
      · exact up _ b i hi (by omega) (h6 i (by omega) hi2)
theorem xfg (o:Ord n lt) (c:Cmp n lt cmp s) {p:Array Nat} (a:Arr n p) {k:Nat} (hk:k < n) (sk:Srtd lt p k) {G:Nat→Shared→Prop}:∀ (f l r:Nat),l≤r→r≤k→r - l≤f →
    (∀ j,j < l→lt (g p k) (g p j) = false)→(∀ j,r≤j→j < k→lt (g p k) (g p j) = true) →
    (∀ m,m≤k→(∀ j,j < m→lt (g p k) (g p j) = false)→(∀ j,m≤j→j < k→lt (g p k) (g p j) = true)→G m s)→KasT.kasWp cmp (kas_place p k f l r) G s
  | 0,l,r,h1,h2,h3,lo,hi,hG=>by
    rw [xm5]
    exact xb2 (hG l (by omega) lo fun j hj hj2=>hi j (by omega) hj2)
  | f + 1,l,r,h1,h2,h3,lo,hi,hG=>by
    rw [xnk]
    by_cases e:l ≥ r
    · rw [if_pos e]
      exact xb2 (hG l (by omega) lo fun j hj hj2=>hi j (by omega) hj2)
    · rw [if_neg e]
      have m1:(l + r) / 2 < r:=by omega
      have m2:l≤(l + r) / 2:=by omega
      refine xet (c _ _ (a.lt k hk) (a.lt _ (by omega)) _ ?_)
      cases e2:lt (g p k) (g p ((l + r) / 2)) with
      | true =>
        show KasT.kasWp cmp (kas_place p k f l ((l + r) / 2)) G s
        refine xfg o c a hk sk f l _ m2 (by omega) (by omega) lo (fun j hj hj2=>?_) hG
        by_cases z:j = (l + r) / 2
        · rw [z]; exact e2
        · exact o.tr _ _ _ (a.lt k hk) (a.lt _ (by omega)) (a.lt _ (by omega)) e2 (sk _ _ (by omega) hj2)
      | false =>
        show KasT.kasWp cmp (kas_place p k f ((l + r) / 2 + 1) r) G s
        refine xfg o c a hk sk f _ r (by omega) h2 (by omega) (fun j hj=>?_) hi hG
        by_cases z:j = (l + r) / 2
        · rw [z]; exact e2
        · cases e3:lt (g p k) (g p j) with
          | false=>rfl
          | true =>
            have:=o.tr _ _ _ (a.lt k hk) (a.lt _ (by omega)) (a.lt _ (by omega)) e3 (sk j ((l + r) / 2) (by omega) (by omega))
            rw [e2] at this
            cases this
theorem Arr.bub {p:Array Nat} (a:Arr n p) {k m:Nat} (hk:k < n) (hm:m≤k):Arr n (bubble p k (k - m))∧∀ i,i < n→g (bubble p k (k - m)) i = if i = m then g p k else if m < i∧i≤k then g p (i - 1) else g p i:=by
  have ge:∀ i,i < n→g (bubble p k (k - m)) i = if i = m then g p k else if m < i∧i≤k then g p (i - 1) else g p i:=fun i hi=>by
    have z:=getElem?_bubble (xs:=p) (src:=k) (by rw [a.sz]; exact hk) (k - m) (by omega) i
    rw [show k - (k - m) = m by omega] at z
    by_cases c:i = m
    · rw [if_pos c]
      rw [if_pos c,a.at hk] at z
      exact g_at z
    · rw [if_neg c]
      rw [if_neg c] at z
      by_cases d:m < i∧i≤k
      · rw [if_pos d]
        rw [if_pos d,a.at (show i - 1 < n by omega)] at z
        exact g_at z
      · rw [if_neg d]
        rw [if_neg d,a.at hi] at z
        exact g_at z
  refine ⟨⟨by rw [bubble_size,a.sz],fun i hi=>?_,fun i j hi hj e=>?_,(bubble_perm _ _ _).trans a.pm⟩,ge⟩
  · rw [ge i hi]
    split
    · exact a.lt _ hk
    · split <;> exact a.lt _ (by omega)
  · rw [ge i hi,ge j hj] at e
    split at e <;> (try split at e) <;> (try split at e) <;> (try split at e) <;> first | omega | (have:=a.inj _ _ (by omega) (by omega) e; omega)
theorem xj3 (o:Ord n lt) (c:Cmp n lt cmp s) {G:Array Nat→Shared→Prop}:∀ (f k:Nat) (p:Array Nat),k + f = n→Arr n p→Srtd lt p k→(∀ p',Arr n p'→Srtd lt p' n→G p' s)→KasT.kasWp cmp (kas_bin f p k) G s
  | 0,k,p,h,a,sk,hG=>by
    rw [xo7]
    have:k = n:=by omega
    subst this
    exact xb2 (hG p a sk)
  | f + 1,k,p,h,a,sk,hG=>by
    have hk:k < n:=by omega
    rw [xpf,KasT.kasWp_bind]
    refine xfg o c a hk sk k 0 k (Nat.zero_le _) (Nat.le_refl _) (by omega) (fun j hj=>by omega) (fun j hj hj2=>by omega) fun m hm lo hi=>?_
    obtain ⟨b,ge⟩:=a.bub hk hm
    refine xj3 o c f (k + 1) _ (by omega) b (fun i j hij hj=>?_) hG
    have inS:∀ i,i < m→lt (g p i) (g p k) = true:=fun i hi'=>o.tot _ _ (a.lt k hk) (a.lt i (by omega)) (fun z=>by have:=a.inj _ _ hk (by omega) z; omega) (lo i hi')
    have g1:∀ i,i < n→i = m→g (bubble p k (k - m)) i = g p k:=fun i hi z=>by rw [ge i hi,if_pos z]
    have g2:∀ i,i < n→m < i→i≤k→g (bubble p k (k - m)) i = g p (i - 1):=fun i hi z z2=>by rw [ge i hi,if_neg (by omega),if_pos ⟨z,z2⟩]
    have g3:∀ i,i < n→i < m→g (bubble p k (k - m)) i = g p i:=fun i hi z=>by rw [ge i hi,if_neg (by omega),if_neg (by omega)]
    by_cases j1:j = m
    · rw [g1 j (by omega) j1,g3 i (by omega) (by omega)]
      exact inS i (by omega)
    · by_cases i1:i = m
      · rw [g1 i (by omega) i1,g2 j (by omega) (by omega) (by omega)]
        exact hi (j - 1) (by omega) (by omega)
      · by_cases j2:m < j
        · rw [g2 j (by omega) j2 (by omega)]
          by_cases i2:m < i
          · rw [g2 i (by omega) i2 (by omega)]
            exact sk _ _ (by omega) (by omega)
          · rw [g3 i (by omega) (by omega)]
            by_cases z:i = j - 1
            · omega
            · exact sk _ _ (by omega) (by omega)
        · rw [g3 j (by omega) (by omega),g3 i (by omega) (by omega)]
          exact sk _ _ hij (by omega)
theorem xju:Arr n (List.range n).toArray:=by
  have e:∀ i,i < n→g (List.range n).toArray i = i:=fun i hi=>g_at (by rw [List.getElem?_toArray,List.getElem?_range hi])
  exact ⟨by simp,fun i hi=>by rw [e i hi]; exact hi,fun i j hi hj z=>by rw [e i hi,e j hj] at z; exact z,Array.Perm.refl _⟩
theorem sort_wp (o:Ord n lt) (c:Cmp n lt cmp s) (h2:2≤n) {G:Array Nat→Shared→Prop} (hG:∀ p,Arr n p→Srtd lt p n→G p s):KasT.kasWp cmp (kas_sort n) G s:=by
  unfold kas_sort
  rw [KasT.kasWp_bind]
  refine xlr o c xju h2 fun m p hm hm2 a sm=>?_
  show KasT.kasWp cmp (if m < n then _ else _) G s
  by_cases e:m < n
  · rw [if_pos e]
    show KasT.kasWp cmp (kas_bin (n - max m 1) p (max m 1)) G s
    rw [Nat.max_eq_left hm]
    exact xj3 o c (n - m) m p (by omega) a sm hG
  · rw [if_neg e]
    have:m = n:=by omega
    subst this
    exact xb2 (hG p a sm)
end
end Srt
set_option maxRecDepth 100000
namespace XL
open PySem
def Xat (h:Heap) (e:Addr) (cls:Value) (od tb:Option Addr):Prop :=
  ∃ oe vs,h.get? e = some oe∧oe.cls = cls∧oe.dict = od∧oe.data = .fields vs∧1 < vs.size ∧
    ((tb = none∧vs[1]? = some Value.none)∨∃ T oT ts,tb = some T∧vs[1]? = some (.ref T)∧T≠e∧h.get? T = some oT∧oT.data = .fields ts∧ts[3]? = some Value.none)
structure Stp (fs:List Addr) (e:Addr) (tb:Option Addr) (h h':Heap):Prop where
  keep:∀ b o,h.get? b = some o→b≠e→tb≠some b→b ∉ fs→h'.get? b = some o
  slot:∀ b o,h.get? b = some o→b ∈ fs→∃ sl,h'.get? b = some { o with slots:=sl }
abbrev xg6 (l:List Env):List Addr:=l.filterMap (·.frame)
theorem xjs (o:Obj) (f:Array Value→Array Value):(o.mapFields f).dict = o.dict:=by
  obtain ⟨c,d,dt,sl⟩:=o
  cases dt <;> rfl
section
variable {M:Model} {A:Around} {E:Value→Shared→Prop} {s:Shared}
theorem xiq {base:Heap} {env:Env} {outer:List Env} {L e:Addr} {oe:Obj} {vs:Array Value} {hd:Value} {nx:Bool} {cls:Value} {od tb:Option Addr} {g:Heap} {Q:Unit→Shared→Prop}
    (fr:A.frames = some (env :: outer)) (ff:s.heap.FunFrames base (env :: outer)) (fL:env.frame = some L)
    (ge:s.heap.get? e = some oe) (de:oe.data = .fields vs) (se:1 < vs.size) (ce:oe.cls = cls) (oo:oe.dict = od)
    (st:Stp (xg6 (env :: outer)) e tb g s.heap) (sz:g.objs.size≤s.heap.objs.size)
    (k:∀ h' T,Stp (xg6 (env :: outer)) e tb g h'→g.objs.size≤T→Xat h' e cls od (some T)→Q () { s with heap:=h' }) :
    wpAny M A (do let a ← frameOf env; let pl ← entryPlaceOf L nx; let b ← EntryCells.newEntry hd a .none (rawInt L) .none pl; setField (.ref e) 1 b) (fun _ s'=>wpAny M A (setFlight (.ref e) none) Q E s') E s:=by
  have nef:e ∉ xg6 (env :: outer):=fun hm=>by
    obtain ⟨_,o,ho,hnf⟩:=ff.mem hm
    have z:=ge.symm.trans ho
    cases z
    exact hnf vs de
  refine wpAny_bind (wpAny_frameOf_fun fr ff fL fun h1 so=>?_)
  refine wpAny_bind (wpAny_entryPlaceOf fun pl ip=>?_)
  unfold EntryCells.newEntry newFields
  refine wpAny_bind (wpAny_newObj_type ?_ (ip.sizeOk5 _ _ _ _ _))
  have e1:h1.get? e = some oe:=(so.2.1 e nef).trans ge
  generalize eT:({ cls:=.type "traceback",dict:=none,data:=.fields ([hd,.ref L,.none,rawInt L,.none] ++ (if pl.isEmpty then List.replicate 6 Value.none else pl)).toArray }:Obj) = oT
  have dT:oT.data = .fields ([hd,.ref L,.none,rawInt L,.none] ++ (if pl.isEmpty then List.replicate 6 Value.none else pl)).toArray:=by rw [← eT]
  have fT:oT.isFreed = false:=by rw [← eT]; rfl
  have e2:(h1.push oT).get? e = some oe:=Heap.get?_push_of_some oT e1
  refine wpAny_setField e2 de se ?_
  have nTe:h1.objs.size≠e:=Nat.ne_of_gt (Heap.lt_size e1)
  have d3:=Obj.data_mapFields de (·.setIfInBounds 1 (Value.ref h1.objs.size))
  have e3:=Heap.get?_update_self (Obj.mapFields (·.setIfInBounds 1 (Value.ref h1.objs.size))) e2 (Obj.isFreed_of_fields d3)
  have T3:((h1.push oT).update e (Obj.mapFields (·.setIfInBounds 1 (Value.ref h1.objs.size)))).get? h1.objs.size = some oT :=
    (Heap.get?_update_other (h1.push oT) _ (Ne.symm nTe)).trans (Heap.get?_push_size h1 fT)
  unfold setFlight
  refine wpAny_bind (wpAny_field e3 d3 (x:=.ref h1.objs.size) (by simp [se]) ?_)
  rw [if_pos (show (Value.ref h1.objs.size != Value.none) = true from by simp)]
  refine wpAny_setField T3 dT (by simp only [List.size_toArray,List.length_append,List.length_cons,List.length_nil] <;> omega) (k _ h1.objs.size ?_ ?_ ?_)
  · have go:∀ b o,b≠e→h1.get? b = some o→(((h1.push oT).update e (Obj.mapFields (·.setIfInBounds 1 (Value.ref h1.objs.size)))).update h1.objs.size
        (Obj.mapFields (·.setIfInBounds 3 ((none:Option Addr).elim Value.none fun f=>rawInt f)))).get? b = some o:=fun b o be hb=>by
      have bT:h1.objs.size≠b:=Nat.ne_of_gt (Heap.lt_size hb)
      rw [Heap.get?_update_other _ _ bT,Heap.get?_update_other _ _ (Ne.symm be)]
      exact Heap.get?_push_of_some oT hb
    refine ⟨fun b o hb be bt bf=>go b o be ((so.2.1 b bf).trans (st.keep b o hb be bt bf)),fun b o hb bf=>?_⟩
    obtain ⟨sl,h2⟩:=st.slot b o hb bf
    obtain ⟨sl2,h3⟩:=so.2.2 b _ h2
    exact ⟨sl2,go b _ (fun z=>nef (z ▸ bf)) h3⟩
  · rw [so.1]; exact sz
  · refine ⟨_,_,?_,(Obj.cls_mapFields _ _).trans ce,(xjs _ _).trans oo,d3,by simp [se],.inr ⟨h1.objs.size,_,_,rfl,by simp [se],nTe,Heap.get?_update_self _ T3 (Obj.isFreed_of_fields (Obj.data_mapFields dT _)),Obj.data_mapFields dT _,?_⟩⟩
    · rw [Heap.get?_update_other _ _ nTe]
      exact e3
    · first | (simp; done) | (rcases ip with rfl | ⟨_,_,_,_,_,_,_,rfl⟩ <;> simp)
theorem xkz {base:Heap} {env:Env} {outer:List Env} {L e:Addr} {cls:Value} {od tb:Option Addr} {Q:Unit→Shared→Prop}
    (fr:A.frames = some (env :: outer)) (ff:s.heap.FunFrames base (env :: outer)) (fL:env.frame = some L) (x:Xat s.heap e cls od tb)
    (k:∀ h' T,Stp (xg6 (env :: outer)) e tb s.heap h'→s.heap.objs.size≤T→Xat h' e cls od (some T)→Q () { s with heap:=h' }) :
    wpAny M A (noteFrame (.ref e) env) (fun _ s'=>wpAny M A (setFlight (.ref e) none) Q E s') E s:=by
  obtain ⟨oe,vs,ge,ce,oo,de,se,y⟩:=x
  unfold noteFrame
  simp only [fL]
  rcases y with ⟨rfl,h1⟩ | ⟨T,oT,ts,rfl,h1,nTe,gT,dT,h3⟩
  · refine wpAny_bind (wpAny_field ge de h1 ?_)
    rw [if_neg (by decide)]
    exact xiq fr ff fL ge de se ce oo ⟨fun b o hb _ _ _=>hb,fun b o hb _=>⟨o.slots,hb⟩⟩ (Nat.le_refl _) k
  · refine wpAny_bind (wpAny_field ge de h1 ?_)
    rw [if_pos (show (Value.ref T != Value.none) = true from by simp)]
    refine wpAny_bind (wpAny_field gT dT h3 ?_)
    rw [if_neg (show ¬ ((Value.none == rawInt L) = true) from by simp [rawInt])]
    refine wpAny_bind (wpAny_setField gT dT (Array.getElem?_eq_some_iff.mp h3).1 ?_)
    have ot:∀ b,b≠T→(s.heap.update T (Obj.mapFields (·.setIfInBounds 3 Value.none))).get? b = s.heap.get? b:=fun b hb=>Heap.get?_update_other _ _ (Ne.symm hb)
    have nr:∀ b o,s.heap.get? b = some o→(∀ vs,o.data≠.fields vs)→b≠T:=fun b o hb hn q=>by
      rw [q] at hb
      have z:=gT.symm.trans hb
      cases z
      exact hn ts dT
    refine xiq (g:=s.heap) fr (ff.of_keeps fun b o hb hn=>⟨o,(ot b (nr b o hb hn)).trans hb,rfl⟩) fL ((ot e (Ne.symm nTe)).trans ge) de se ce oo
      ⟨fun b o hb _ bt _=>(ot b fun z=>bt (congrArg some z.symm)).trans hb,fun b o hb bf=>⟨o.slots,?_⟩⟩ (Nat.le_of_eq (Heap.size_after_update ..).symm) k
    · obtain ⟨_,o',ho',hn⟩:=ff.mem bf
      have z:=hb.symm.trans ho'
      cases z
      exact (ot b (nr b _ hb hn)).trans hb
end
end XL
set_option maxRecDepth 100000
namespace XL
open PySem
section
variable {prog:Program} {w:World} {A:Around} {E:Value→Shared→Prop} {h:Heap} {g:Array GenState} {d:Drawn} {t:Nat} {os:OsState}
variable {nm qn:Str} {C N:Addr} {bs bm bmB:List Value} {hz:Bool} {sn:List Str} {sub:List Value} {ab:Bool} {col:Option Bool} {dd:Option Addr} {k0 k1 k2 k3 k5:Option Value} {B ni ii:String}
theorem xh8 (F:ExcBaseFacts B ni ii bmB) (T:OwnTail h bmB bm) {us:List Value} {fI:Addr} {oI:Obj} {Q:Fin→Shared→Prop}
    (gC:h.get? C = some (excClassObj nm qn C N bs bm hz sn sub ab col dd k0 k1 k2 k3 k5 ni))
    (hi:∀ (A':Around) (Q':Option Value→Shared→Prop) (E':Value→Shared→Prop) (s':Shared),(∀ b o,h.get? b = some o→s'.heap.get? b = some o)→Q' (some (.ref fI)) s'→wpAny (model prog w) A' (typeLookup (.ref C) "__init__") Q' E' s')
    (gI:h.get? fI = some oI) (cI:oI.cls = .type "function") (lu:us.length≤sizeLine)
    (k:∀ h' e,Heap.MadeExcOf h h' e (.ref C) us→h.objs.size≤e →
      wpAny (model prog w) A (call (.ref fI) (.ref e :: us)) (fun r s'=>r = .none∧Q (.done (.ret (.ref e))) s') E ⟨h',g,d,t,os⟩) :
    wpAny (model prog w) A (Builtin.«type.__call__» ⟨.ref C :: us,[]⟩) Q E ⟨h,g,d,t,os⟩:=by
  repeat (first | with_reducible refine wpAny_loadPart_at gC ?_ | with_reducible refine wpAny_madeBy_exc gC ?_ | wp_step)
  refine codeAny_call_builtin_code (Code.quiet_builtin _ F.quiet) (wpAny_check_new_subT F T gC ?_)
  refine codeAny_exc_new_subT F T gC ?_ lu
  show wpAny _ _ _ _ _ _
  generalize e1:({ cls:=.type "tuple",data:=.seq us.toArray }:Obj) = oT
  have fT:oT.isFreed = false:=by rw [← e1]; rfl
  generalize e2:({ cls:=.ref C,data:=.fields #[.ref h.objs.size,.none,.none,.none,.bool false,.none] }:Obj) = oE
  have fE:oE.isFreed = false:=by rw [← e2]; rfl
  have up:∀ b o,h.get? b = some o→((h.push oT).push oE).get? b = some o:=fun b o q=>Heap.get?_push_of_some oE (Heap.get?_push_of_some oT q)
  have gC':=up _ _ gC
  have gI':=up _ _ gI
  have gE:((h.push oT).push oE).get? (h.objs.size + 1) = some oE:=by
    have z:=Heap.get?_push_size (h.push oT) fE
    rwa [Heap.size_push] at z
  have cE:oE.cls = .ref C:=by rw [← e2]
  have me:(Value.ref C :: bm).contains (.ref C) = true:=by simp
  unfold isInstance
  repeat (first | (with_reducible refine wpAny_loadPart_at gE ?_; rw [cE]) | (with_reducible refine wpAny_isSubtype_exc gC' ?_; rw [me]) | wp_step)
  show wpAny _ _ (typeLookup (.ref C) _) _ _ _
  refine hi _ _ _ _ up ?_
  refine wpAny_holding (wpAny_bind ?_)
  unfold bindSpecial
  refine wpAny_bind (wpAny_typeOf (T:="function") ⟨_,gI',cI⟩ ?_)
  rw [if_pos (by decide)]
  refine wpAny_pure (wpAny_bind (wpAny_mono (k _ (h.objs.size + 1) ⟨up,Heap.get?_none_of_le (Nat.le_succ _),h.objs.size,?_,Heap.get?_none_of_le (Nat.le_refl _),?_⟩ (Nat.le_succ _)) (fun r s' z=>?_) fun _ _ x=>x))
  · rw [e2]; exact gE
  · rw [e1]; exact Heap.get?_push_of_some oE (Heap.get?_push_size h fT)
  · obtain ⟨rfl,z⟩:=z
    wp_walk
    exact z
theorem xiz (F:ExcBaseFacts B ni ii bmB) (T:OwnTail h bmB bm) {us:List Value} {fI:Addr} {oI:Obj} {Q:Value→Shared→Prop}
    (gC:h.get? C = some (excClassObj nm qn C N bs bm hz sn sub ab col dd k0 k1 k2 k3 k5 ni))
    (hi:∀ (A':Around) (Q':Option Value→Shared→Prop) (E':Value→Shared→Prop) (s':Shared),(∀ b o,h.get? b = some o→s'.heap.get? b = some o)→Q' (some (.ref fI)) s'→wpAny (model prog w) A' (typeLookup (.ref C) "__init__") Q' E' s')
    (gI:h.get? fI = some oI) (cI:oI.cls = .type "function") (lu:us.length≤sizeLine)
    (k:∀ h' e,Heap.MadeExcOf h h' e (.ref C) us→h.objs.size≤e →
      wpAny (model prog w) (A.under (.builtin "type.__call__" ⟨.ref C :: us,[]⟩)) (call (.ref fI) (.ref e :: us)) (fun r s'=>r = .none∧Q (.ref e) s') E ⟨h',g,d,t,os⟩) :
    wpAny (model prog w) A (call (.ref C) us) Q E ⟨h,g,d,t,os⟩:=by
  have a1:=tc_lookup
  have a2:=tc_bind (.ref C)
  have ty:(⟨h,g,d,t,os⟩:Shared).TypeIs (.ref C) "type":=⟨_,gC,rfl⟩
  refine wpAny_call (codeAny_of_tree ?_)
  show wpAny _ _ (callAny (.ref C) _) _ _ _
  repeat (any_goals (first | assumption | with_reducible refine wpAny_loadPart_at gC ?_ | wp_step))
  refine ⟨rfl,?_⟩
  refine codeAny_call_builtin_at (Code.quiet_builtin _ (by decide +kernel)) entry_typeCall (wpAny_check_type_call_sub gC (xh8 F T gC hi gI cI lu fun h' e hm hs=>?_))
  exact k h' e hm hs
theorem xm4 {M:Model} {s:Shared} {env:Env} {x:Sem Value} {Q:Flow→Shared→Prop} (hh:A.handled = none)
    (k:wpAny M A x (fun v s1=>∃ e od C nm qn N bs bm hz sn sub ab col dd k0 k1 k2 k3 k5 ni,v = .ref e∧bm.contains (.type "BaseException") = true∧s1.heap.get? C = some (excClassObj nm qn C N bs bm hz sn sub ab col dd k0 k1 k2 k3 k5 ni)∧Xat s1.heap e (.ref C) od none∧E (.ref e) s1) E s) :
    wpAny M A (raiseStmt env (some x) none) Q E s:=by
  unfold raiseStmt
  refine wpAny_bind (wpAny_mono k (fun v s1 z=>?_) fun _ _ x=>x)
  obtain ⟨e,od,C,nm,qn,N,bs,bm,hz,sn,sub,ab,col,dd,k0,k1,k2,k3,k5,ni,rfl,bB,gC,⟨oe,vs,ge,ce,oo,de,se,y⟩,zE⟩:=z
  have me:(Value.ref C :: bm).contains (.type "BaseException") = true:=by rw [List.contains_cons,bB,Bool.or_true]
  obtain ⟨hp,g,d,tk,os⟩:=s1
  rcases y with ⟨_,y1⟩ | ⟨T,_,_,z,_⟩
  · repeat (first | (with_reducible refine wpAny_loadPart_at ge ?_; rw [ce]) | with_reducible refine wpAny_loadPart_at gC ?_ | (with_reducible refine wpAny_isSubtype_exc gC ?_; rw [me]) | wp_step)
    rw [de]
    refine wpAny_pure ?_
    rw [y1]
    refine wpAny_pure ?_
    rw [if_neg (by decide)]
    exact wpAny_pure (wpAny_raiseNew_none hh zE)
  · cases z
end
end XL
set_option maxRecDepth 100000
namespace XL
open PySem PySem.W PySem.Calls PyProof.Rows Builtin Builtin.ObjectAttr
def vErr:List Value:=[.type "ValueError",.type "Exception",.type "BaseException",.type "object"]
def xd7:List Value→Bool
  | []=>false
  | .ref c :: r=>xd7 r || ((.ref c :: r:List Value) == vErr)
  | v :: r=>(v :: r) == vErr
def xa2 (K:Frag) (C:Addr):Bool:=(clsIn K C).any fun cd=>xd7 cd.mro
theorem xgh (self:Value):∀ {l:List Value},xd7 l = true→refuseLoop self "__setattr__" l = pure ()
  | [],e=>by cases e
  | v :: r,e=>by
    have last:((v :: r:List Value) == vErr) = true→refuseLoop self "__setattr__" (v :: r) = pure ():=fun z=>by
      rw [eq_of_beq z]
      exact PySem.F.store_ValueError.passes self
    cases v with
    | ref c =>
      rcases Bool.or_eq_true_iff.mp e with z | z
      · rw [refuseLoop_ref]
        exact xgh self z
      · exact last z
    | _=>exact last e
theorem xfa:∀ {l:List Value},xd7 l = true→l.contains (.type "object") = true∧l.contains (.type "BaseException") = true∧l.isEmpty = false
  | [],e=>by cases e
  | v :: r,e=>by
    have last:((v :: r:List Value) == vErr) = true→(v :: r).contains (.type "object") = true∧(v :: r).contains (.type "BaseException") = true∧(v :: r).isEmpty = false:=fun z=>by
      rw [eq_of_beq z]
      exact ⟨by decide +kernel,by decide +kernel,rfl⟩
    cases v with
    | ref c =>
      rcases Bool.or_eq_true_iff.mp e with z | z
      · obtain ⟨a,b,_⟩:=xfa z
        exact ⟨by rw [List.contains_cons,a,Bool.or_true],by rw [List.contains_cons,b,Bool.or_true],rfl⟩
      · exact last z
    | _=>exact last e
structure XC (K:Frag) (C:Addr):Prop where
  over:xa2 K C = true
  hd:hasDictIn K C = true
  sa:findIn K (.ref C) "__setattr__" = some (some (.builtin "object.__setattr__"))
  ga:findIn K (.ref C) "__getattribute__" = some (some (.builtin "BaseException.__getattribute__"))
  gh:findIn K (.ref C) "__getattr__" = some none
  ca:findIn K (.ref C) "__class__" = some (some (.builtin "object.__class__"))
  cg:specialIn K (.builtin "object.__class__") "__get__" = some (some (.builtin "getset_descriptor.__get__"))
  ct:takesIn K (.builtin "object.__class__") = some true
section
variable {prog:Program} {w:World} {A:Around} {E:Value→Shared→Prop} {s:Shared} {K:Frag} {x C dx:Addr} {ox:Obj} {od:Option Obj} {name:Str} {v:Value} {R:Result→Shared→Prop}
theorem XC.mro (c:XC K C):∃ cd,clsIn K C = some cd∧xd7 cd.mro = true∧cd.hasDict = true:=by
  obtain ⟨cd,h1,h2⟩:=any_some c.over
  obtain ⟨cd',h3,h4⟩:=any_some c.hd
  rw [h1] at h3
  cases h3
  exact ⟨cd,h1,h2,h4⟩
theorem XC.isObj (c:XC K C):mroIn K C (.type "object") = some true:=by
  obtain ⟨cd,h1,h2,_⟩:=c.mro
  obtain ⟨a,_,b⟩:=xfa h2
  unfold mroIn
  rw [h1,Option.bind_some,if_neg (by rw [b]; decide),a]
theorem XC.isExc (c:XC K C):mroIn K C (.type "BaseException") = some true:=by
  obtain ⟨cd,h1,h2,_⟩:=c.mro
  obtain ⟨_,a,b⟩:=xfa h2
  unfold mroIn
  rw [h1,Option.bind_some,if_neg (by rw [b]; decide),a]
theorem xl8 {tk:Tok} (X:K.In s.heap) (c:XC K C) (I:InstAt s.heap x ox C od) (ha:findIn K (.ref C) name = some none)
    (h:wpAny (model prog w) A.in1 (storeInOwnDict (.ref x) (.ref C) (.str name tk) name v false)
      (fun fin s'=>match fin with | .done f=>R (.ok f) s' | .again c'=>c'.quiet = true∧codeAny (model prog w) A c' R s') (fun e s'=>R (.error e) s') s) :
    codeAny (model prog w) A (.call (.builtin "object.__setattr__") ⟨[.ref x,.str name tk,v],[]⟩) R s:=by
  have SF:=PySem.F.store_object
  obtain ⟨cd,hc,hl,_⟩:=c.mro
  have sub:Looks (model prog w) s.heap (isInstance (.ref x) (.type "object")) true:=I.type.andThen (looks_mroIn X c.isObj)
  refine codeAny_call_builtin SF.slot.plain SF.entry (@check_slot (model prog w) _ _ s "object.__setattr__" "object" "__setattr__" (.ref x) [.str name tk,v] [] _ SF.kind SF.split sub (SF.args (.ref x) (.str name tk) v) ?_)
  have hm:Looks (model prog w) s.heap (mroOf (.ref C)) cd.mro:=(looks_clsIn X hc).andThen .now
  rw [osa_eq,refuse_eq]
  refine wpAny_bind (wpAny_bind (I.type.here (wpAny_bind (hm.here ?_))))
  rw [xgh _ hl]
  refine wpAny_pure (wpAny_bind (I.type.here (wpAny_bind ((looks_findIn X ha).here (wpAny_bind ((Looks.now (a:=(none:Option Value))).here ?_))))))
  exact h
theorem xo8 (X:K.In s.heap) (c:XC K C) (hx:s.heap.get? x = some ox) (hc:ox.cls = .ref C) (ho:ox.dict = some dx) {Q:Option Addr→Shared→Prop} (h:Q (some dx) s) :
    wpAny (model prog w) A (ownDictForStores (.ref x)) Q E s:=by
  obtain ⟨cd,h1,_,h2⟩:=c.mro
  unfold ownDictForStores instanceDict
  refine wpAny_bind (wpAny_loadPart hx ?_)
  rw [hc]
  refine wpAny_bind ((looks_clsIn X h1).here ?_)
  rw [h2,ho]
  exact wpAny_pure h
theorem xnr {ns:List Str} {mA:Str→Option Value} {Q:Unit→Shared→Prop} (X:K.In s.heap) (c:XC K C) (hx:s.heap.get? x = some ox) (hc:ox.cls = .ref C) (hn:notCls ox = true) (ho:ox.dict = some dx) (hm:s.heap.Ns1 dx mA)
    (ha:findIn K (.ref C) name = some none) (hw:PySem.Within mA ns) (hz:ns.length≤sizeLine)
    (h:∀ h',h'.Ns1 dx (fun y=>if y = name then some v else mA y)→Heap.SameBut dx s.heap h'→Q () { s with heap:=h',toks:=s.toks + 2 }) :
    wpAny (model prog w) A (setAttr (.ref x) name v) Q E s:=by
  obtain ⟨o1,_,_,g1,_⟩:=id hm
  have I:InstAt s.heap x ox C (some o1):=⟨hx,hc,hn,by rw [ho]; exact g1⟩
  refine set_plain X I c.sa (xl8 (s:={ s with toks:=s.toks + 1 }) X c I ha ?_)
  refine wpAny_bind (wpAny_pure (wpAny_bind (xo8 (s:={ s with toks:=s.toks + 1 }) X c hx hc ho ?_)))
  refine wpAny_bind (wpAny_pure (wpAny_bind ?_))
  refine wpAny_nsSet1 (s:={ s with toks:=s.toks + 1 }) hm fun h' n2 s2=>?_
  obtain ⟨oD,eD,pD,gD,dD,cD⟩:=n2.count (PySem.Within.cons name v hw)
  refine wpAny_bind (wpAny_lookBehind gD (by rw [dD]; exact pastItsLine_dict (Nat.le_trans cD (by rw [List.length_cons]; omega))) ?_)
  exact wpAny_pure (h _ n2 s2)
theorem xoy {Q:Unit→Shared→Prop} (X:K.In s.heap) (c:XC K C) (hx:s.heap.get? x = some ox) (hc:ox.cls = .ref C) (hn:notCls ox = true) (ho:ox.dict = none) (hf:ox.isFreed = false)
    (ha:findIn K (.ref C) name = some none)
    (h:∀ h',h'.get? x = some { ox with dict:=some s.heap.objs.size }→h'.Ns1 s.heap.objs.size (fun y=>if y = name then some v else none) →
      (∀ b o,b≠x→s.heap.get? b = some o→h'.get? b = some o)→s.heap.objs.size≤h'.objs.size→Q () { s with heap:=h',toks:=s.toks + 2 }) :
    wpAny (model prog w) A (setAttr (.ref x) name v) Q E s:=by
  obtain ⟨cd,h1,_,h2⟩:=c.mro
  have I:InstAt s.heap x ox C none:=⟨hx,hc,hn,by rw [ho]; trivial⟩
  refine set_plain X I c.sa (xl8 (s:={ s with toks:=s.toks + 1 }) X c I ha ?_)
  refine wpAny_bind (wpAny_pure (wpAny_bind ?_))
  unfold ownDictForStores instanceDict
  refine wpAny_bind (wpAny_loadPart (s:={ s with toks:=s.toks + 1 }) hx ?_)
  rw [hc]
  refine wpAny_bind ((looks_clsIn X h1).here (s:={ s with toks:=s.toks + 1 }) ?_)
  rw [h2,ho,if_neg (by simp)]
  obtain ⟨oc,odi,oda,osl⟩:=ox
  dsimp only at hc ho
  subst hc ho
  have hx1:(s.heap.push { cls:=.type "dict",data:=.dict #[] }).get? x = some ⟨.ref C,none,oda,osl⟩:=Heap.get?_push_of_some _ hx
  have nx:x≠s.heap.objs.size:=Nat.ne_of_lt (Heap.lt_size hx)
  have key:wpAny (model prog w) A.in1 (do let d ← alloc { cls:=.type "dict",data:=.dict #[] }; update x (fun o=>{ o with dict:=some d }); dictMade (.ref C) x d)
      (fun a s'=>wpAny (model prog w) A.in1 (match a with | some d=>storeInDict d (.str name s.toks) name v | none=>noDictFor (.ref x) (.ref C) name false)
        (fun fin s'=>match fin with
          | .done f=>(match (Except.ok f:Result) with | .ok (.ret _)=>Q () s' | .ok _=>False | .error e=>E e s')
          | .again c'=>c'.quiet = true∧codeAny (model prog w) A c' (fun r s'=>match r with | .ok (.ret _)=>Q () s' | .ok _=>False | .error e=>E e s') s')
        (fun e s'=>E e s') s') (fun e s'=>E e s') { s with toks:=s.toks + 1 }:=by
    refine wpAny_bind (wpAny_alloc' ?_)
    refine wpAny_bind (wpAny_update' hx1 ?_)
    refine wpAny_pure ?_
    dsimp only
    have g2:((s.heap.push { cls:=.type "dict",data:=.dict #[] }).update x fun o=>{ o with dict:=some s.heap.objs.size }).get? s.heap.objs.size = some { cls:=.type "dict",data:=.dict #[] } :=
      (Heap.get?_update_ne _ _ _ _ nx.symm).trans (Heap.get?_push_at rfl rfl)
    have n2:((s.heap.push { cls:=.type "dict",data:=.dict #[] }).update x fun o=>{ o with dict:=some s.heap.objs.size }).Ns s.heap.objs.size (fun _=>none) :=
      ⟨_,#[],_,g2,rfl,fun e he=>absurd he (by simp),fun _=>rfl⟩
    unfold storeInDict newKeyGuard
    refine wpAny_bind (wpAny_pure (wpAny_bind (wpAny_nsSet1 (Heap.Ns1.of_empty n2) fun h' n3 s3=>?_)))
    obtain ⟨oD,eD,pD,gD,dD,cD⟩:=n3.count (Within.cons name v Within.nil)
    refine wpAny_bind (wpAny_lookBehind gD (by rw [dD]; exact pastItsLine_dict (Nat.le_trans cD (by rw [List.length_cons,List.length_nil,sizeLine_eq]; omega))) ?_)
    refine wpAny_pure (h h' ?_ n3 (fun b o bx hb=>?_) ?_)
    · refine (s3.2 x nx).trans (Heap.get?_update_self _ hx1 ?_)
      cases oda <;> first | rfl | exact hf
    · exact (s3.2 b (Nat.ne_of_lt (Heap.lt_size hb))).trans ((Heap.get?_update_ne _ _ _ _ bx).trans (Heap.get?_push_of_some _ hb))
    · rw [s3.1,Heap.size_after_update,Heap.size_push]
      exact Nat.le_succ _
  cases oda <;> first | exact key | cases hn
theorem xmv (v:Value):bindSpecial (.builtin "BaseException.__getattribute__") v = pure (.builtin "BaseException.__getattribute__",[v]):=by
  have f:=PySem.F.attr_ValueError.ga.bind v
  exact f
theorem xl4:plainId "BaseException.__getattribute__" = true:=PySem.F.attr_ValueError.ga.plain
theorem xkx {Q:Value→Shared→Prop} {expr fill:Bool} {tk:Tok} (X:K.In s.heap) (c:XC K C) (I:InstAt s.heap x ox C od)
    (h:wpAny (model prog w) A.in1 (Builtin.«object.__getattribute__» ⟨[.ref x,.str name tk],[]⟩)
      (fun fin s'=>match fin with | .done (.ret v)=>wpAny (model prog w) A (handedOut v) Q E s' | _=>False) (fun _ _=>False) s) :
    wpAny (model prog w) A (getAttrBy (.ref x) (.str name tk) fill expr) Q E s:=by
  obtain ⟨hh,g,d,t,os⟩:=s
  have L0:=I.type (M:=model prog w)
  have L1:=looks_findIn (M:=model prog w) X c.ga
  have L2:=looks_findIn (M:=model prog w) X c.gh
  have sub:Looks (model prog w) hh (isInstance (.ref x) (.type "BaseException")) true:=I.type.andThen (looks_mroIn X c.isExc)
  have f2:(onTheHeap (Value.ref C) && Value.builtin "BaseException.__getattribute__" == Value.builtin "object.__getattribute__") = false:=by
    rw [show (Value.builtin "BaseException.__getattribute__" == Value.builtin "object.__getattribute__") = false from by decide +kernel]; rfl
  have f3:(expr && onTheHeap (Value.builtin "BaseException.__getattribute__")) = false:=by cases expr <;> rfl
  unfold getAttrBy
  refine wpAny_holding (wpAny_bind (L0.at (wpAny_bind (L1.at ?_))))
  dsimp only
  rw [f2]
  simp only [Bool.false_eq_true,if_false]
  unfold getAttrByItsOwn hookBefore
  refine wpAny_bind (L2.at (wpAny_bind (wpAny_attempt (wpAny_holding ?_))))
  unfold callGetattribute
  rw [f3]
  simp only [Bool.false_eq_true,if_false]
  unfold boundAndCalled
  rw [xmv]
  refine wpAny_bind (wpAny_pure (wpAny_call (codeAny_call_builtin xl4 PySem.F.entry_bexc_ga
    (@check_slot (model prog w) _ _ ⟨hh,g,d,t,os⟩ "BaseException.__getattribute__" "BaseException" "__getattribute__" (.ref x) [.str name tk] [] _ (by decide +kernel) (by decide +kernel) sub (PySem.F.args_bexc_ga _ _) ?_))))
  refine wpAny_mono h (fun fin s' z=>?_) fun e s' z=>z.elim
  rcases fin with (_ | _ | _ | _) | _ <;> first | exact z | exact z.elim
theorem xpw {Q:Value→Shared→Prop} {expr:Bool} (X:K.In s.heap) (c:XC K C) (hx:s.heap.get? x = some ox) (hc:ox.cls = .ref C) (hn:notCls ox = true) (ho:ox.dict = some dx) {o1:Obj} (g1:s.heap.get? dx = some o1) (hl:lookIn name o1 = some (some v))
    (ha:findIn K (.ref C) name = some none) (hv:handedIn v = true) (h:Q v { s with toks:=s.toks + 1 }) :
    wpAny (model prog w) A (getAttr (.ref x) name expr) Q E s:=by
  have I:InstAt s.heap x ox C (some o1):=⟨hx,hc,hn,by rw [ho]; exact g1⟩
  have hf:findObj K C (some o1) name = some (.value v):=findObj_own c.hd ha rfl hl
  unfold getAttr
  refine wpAny_bind (wpAny_mkText ?_)
  refine xkx (s:={ s with toks:=s.toks + 1 }) X c I ?_
  have L0:=I.type (M:=model prog w)
  have L1:=looks_find (M:=model prog w) X I hf
  obtain ⟨hh,g,d,t,os⟩:=s
  refine wpAny_bind (wpAny_pure (wpAny_bind (wpAny_pure (wpAny_bind (L0.at (wpAny_bind (L1.at ?_)))))))
  refine wpAny_pure ?_
  show wpAny _ _ (handedOut v) _ _ _
  rw [handedOut_of hv]
  exact wpAny_pure h
theorem xlb {Q:Option Value→Shared→Prop} (X:K.In s.heap) (c:XC K C) (I:InstAt s.heap x ox C od) (h:Q (some (.ref C)) { s with toks:=s.toks + 1 }) :
    wpAny (model prog w) A (getAttr? (.ref x) "__class__") Q E s:=by
  obtain ⟨cd,h1,_,h2⟩:=c.mro
  have hf:findObj K C od "__class__" = some (.bind (.builtin "getset_descriptor.__get__") (.builtin "object.__class__")):=by
    unfold findObj
    rw [h1,Option.bind_some,c.ca,Option.bind_some]
    simp [c.cg,c.ct]
  unfold getAttr? getAttrBy?
  refine wpAny_bind (wpAny_mkText (wpAny_bind (wpAny_attempt ?_)))
  refine xkx (s:={ s with toks:=s.toks + 1 }) X c I ?_
  have L0:=I.type (M:=model prog w)
  have L1:=looks_find (M:=model prog w) X I hf
  refine wpAny_bind (wpAny_pure (wpAny_bind (wpAny_pure (wpAny_bind (L0.here (s:={ s with toks:=s.toks + 1 }) (wpAny_bind (L1.here (s:={ s with toks:=s.toks + 1 }) ?_)))))))
  show wpAny _ _ (holding [_] (call _ [_,.ref x,.ref C]) >>= ret) _ _ _
  refine wpAny_bind (wpAny_holding (wpAny_call (class_get (s:={ s with toks:=s.toks + 1 }) (ox:=ox) (od:=od) X I c.isObj ?_)))
  refine wpAny_pure ?_
  show wpAny _ _ (handedOut (.ref C)) _ _ _
  exact wpAny_pure (wpAny_pure h)
end
end XL
set_option maxRecDepth 100000
namespace XL
open PySem
theorem xlt {x y:Str} {v:Value} (hx:v.isStr x = true) (n:y≠x):v.isStr y = false:=by
  cases v <;> simp_all [Value.isStr]
  exact fun z=>n z.symm
theorem xfs {name y:Str} (n:y≠name):∀ (l:List DictEntry) (i:Nat),l.findIdx? (·.key.isStr name) = some i→(l.eraseIdx i).find? (·.key.isStr y) = l.find? (·.key.isStr y)
  | [],i,h=>by simp at h
  | e :: r,i,h=>by
    rw [List.findIdx?_cons] at h
    by_cases q:e.key.isStr name = true
    · rw [if_pos q] at h
      cases h
      have z:=xlt q n
      simp [z]
    · rw [if_neg q] at h
      cases hi:r.findIdx? (·.key.isStr name) with
      | none=>rw [hi] at h; cases h
      | some j =>
        rw [hi] at h
        cases h
        have ih:=xfs n r j hi
        simp only [List.eraseIdx_cons_succ,List.find?_cons]
        split
        · rfl
        · exact ih
section
variable {M:Model} {A:Around} {E:Value→Shared→Prop} {s:Shared} {env:Env}
theorem xm2 {a:Addr} {m:Str→Option Value} {name:Str} {Q:Bool→Shared→Prop} (hn:s.heap.Ns a m)
    (k:∀ h' m',h'.Ns a m'→(∀ y,y≠name→m' y = m y)→Heap.SameBut a s.heap h'→Q (m name).isSome { s with heap:=h' }):wpAny M A (nsDel a name) Q E s:=by
  obtain ⟨o,es,ep,ho,hd,hk,hm⟩:=id hn
  have nor:es.any (·.refKey) = false:=by
    rw [Array.any_eq_false']
    intro e he
    obtain ⟨n,t,h⟩:=hk e he
    simp [DictEntry.refKey,h]
  have some_eq:(m name).isSome = es.any (·.key.isStr name):=by
    rw [← hm name]
    simp only [nsFind,findBy,Option.isSome_map]
    rw [Bool.eq_iff_iff]
    simp only [Array.find?_isSome,Array.any_eq_true]
    constructor
    · rintro ⟨z,hz,hp⟩
      obtain ⟨i,hi,rfl⟩:=Array.mem_iff_getElem.mp hz
      exact ⟨i,hi,hp⟩
    · rintro ⟨i,hi,hp⟩
      exact ⟨_,Array.getElem_mem hi,hp⟩
  have has:nsHas name o = pure (es.any (·.key.isStr name)):=by
    rw [nsHas_eq]
    unfold nsHasByArray
    rw [hd]
    show (if (es.any fun z=>z.key.isStr name) = true then _ else _) = _
    generalize (es.any fun z=>z.key.isStr name) = b
    cases b <;> simp [nor]
  unfold nsDel
  refine wpAny_bind (wpAny_loadPart ho ?_)
  rw [has]
  refine wpAny_bind (wpAny_pure ?_)
  rw [← some_eq]
  cases q:(m name).isSome
  · have z:=k s.heap m hn (fun _ _=>rfl) (.refl ..)
    rw [q] at z
    exact wpAny_pure z
  · refine wpAny_bind (wpAny_updatePart ho (wpAny_pure ?_))
    have key:∃ m',(s.heap.update a (Obj.dropName name)).Ns a m'∧∀ y,y≠name→m' y = m y:=by
      obtain ⟨cl,d,dt,sl⟩:=o
      subst hd
      cases hi:es.findIdx? (·.key.isStr name) with
      | none =>
        exact ⟨m,⟨_,_,ep,Heap.get?_update_self _ ho (by simp only [Obj.dropName_eq,Obj.dropNameByArray,hi] <;> rfl),(by simp only [Obj.dropName_eq,Obj.dropNameByArray,hi] <;> rfl),hk,hm⟩,fun _ _=>rfl⟩
      | some i =>
        refine ⟨_,⟨_,_,ep + 1,Heap.get?_update_self _ ho (by simp only [Obj.dropName_eq,Obj.dropNameByArray,hi] <;> rfl),(by simp only [Obj.dropName_eq,Obj.dropNameByArray,hi] <;> rfl),hk.erase i,fun _=>rfl⟩,fun y hy=>?_⟩
        rw [← hm y]
        obtain ⟨l⟩:=es
        have hi':l.findIdx? (·.key.isStr name) = some i:=by simpa using hi
        have z:=xfs hy l i hi'
        simp only [nsFind,findBy]
        have il:i < l.length:=by
          have:=List.findIdx?_eq_some_iff_findIdx_eq.mp hi'
          exact this.1
        have e1:(Array.mk l).eraseIdxIfInBounds i = Array.mk (l.eraseIdx i):=by
          simp [Array.eraseIdxIfInBounds,il]
        rw [e1]
        simp only [List.find?_toArray]
        rw [z]
    obtain ⟨m',n',e'⟩:=key
    have z:=k _ m' n' e' (Heap.SameBut.update ..)
    rw [q] at z
    exact z
theorem xj8 {n:Str} {pos:Pos} {m:Str→Option Value} {Q:Unit→Shared→Prop} (hl:env.kindOf n = some .local) (hn:s.heap.Ns env.locals m)
    (hp:(env.scope.kind == .class || (env.scope.kind == .module && env.locals != env.globals)) = false)
    (h:∀ h' m',h'.Ns env.locals m'→(∀ y,y≠n→m' y = m y)→Heap.SameBut env.locals s.heap h'→Q () { s with heap:=h',toks:=s.toks + 1 }) :
    wpAny M A (do bindName env n .none; unbindBehindTheSuite env n pos) Q E s:=by
  refine wpAny_bind (wpAny_bindName (wpAny_storeName_local hl hn (fun h1 n1 s1=>?_) hp))
  unfold unbindBehindTheSuite
  refine wpAny_onRaise ?_
  unfold unbindName
  refine wpAny_bind (wpAny_point (wpAny_bind ?_))
  unfold deleteName
  simp only [hl,hp]
  rw [if_neg (by decide)]
  refine wpAny_bind (xm2 n1 fun h2 m2 n2 e2 s2=>?_)
  simp only [if_true,Option.isSome_some,Bool.not_true,Bool.false_eq_true,if_false]
  refine wpAny_pure (wpAny_point (h h2 m2 n2 (fun y hy=>?_) (s1.trans s2)))
  rw [e2 y hy,if_neg hy]
end
end XL
set_option maxRecDepth 100000
namespace L2
open PySem PySem.Spec PyProof.Rows XL
variable {q0:Bool}
def XN (e C:Addr) (od:Option Addr):HO:=.ext fun h=>Xat h e (.ref C) od none
def XO (e C:Addr) (od:Option Addr):HO:=.ext fun h=>∃ ox vs,h.get? e = some ox∧ox.cls = .ref C∧ox.dict = od∧ox.data = .fields vs
def XD (dx:Addr) (fs:List (Str × V)):HO:=.ext fun h=>fs.length≤1000∧∃ mA,h.Ns1 dx mA∧(∀ f,RelO (fs.lookup f) (mA f))∧PySem.Within mA (fs.map (·.1))
section
variable {P:Program} {w:World} {H:Hp} {h:Heap} {e C dx:Addr} {od:Option Addr} {fs:List (Str × V)}
theorem xmj (x:Xat h e (.ref C) od none):xa3 P w H h e (XN e C od):=by
  refine ⟨x,?_,fun h1 h2 z k=>?_⟩
  · obtain ⟨oe,_,g,_⟩:=x
    exact ⟨oe,g⟩
  · obtain ⟨oe,vs,g,c,o,d,sz,y⟩:=z
    rcases y with y | ⟨T,_,_,z,_⟩
    · exact ⟨oe,vs,k oe g,c,o,d,sz,.inl y⟩
    · cases z
theorem xmh (x:∃ ox vs,h.get? e = some ox∧ox.cls = .ref C∧ox.dict = od∧ox.data = .fields vs):xa3 P w H h e (XO e C od):=by
  refine ⟨x,?_,fun h1 h2 z k=>?_⟩
  · obtain ⟨oe,_,g,_⟩:=x
    exact ⟨oe,g⟩
  · obtain ⟨oe,vs,g,c,o,d⟩:=z
    exact ⟨oe,vs,k oe g,c,o,d⟩
theorem xko {tb:Option Addr} (x:Xat h e (.ref C) od tb):∃ ox vs,h.get? e = some ox∧ox.cls = .ref C∧ox.dict = od∧ox.data = .fields vs:=by
  obtain ⟨oe,vs,g,c,o,d,_⟩:=x
  exact ⟨oe,vs,g,c,o,d⟩
theorem xn0 {h1 h2:Heap} {m:Str→Option Value} (n:h1.Ns1 dx m) (k:∀ o,h1.get? dx = some o→h2.get? dx = some o):h2.Ns1 dx m:=by
  obtain ⟨o,es,ep,g,r⟩:=n
  exact ⟨o,es,ep,k o g,r⟩
theorem xmb (hl:fs.length≤1000) {mA:Str→Option Value} (n:h.Ns1 dx mA) (r:∀ f,RelO (fs.lookup f) (mA f)) (wi:PySem.Within mA (fs.map (·.1))):xa3 P w H h dx (XD dx fs):=by
  refine ⟨⟨hl,mA,n,r,wi⟩,?_,fun h1 h2 z k=>?_⟩
  · obtain ⟨o,es,ep,g,_⟩:=n
    exact ⟨o,g⟩
  · obtain ⟨hl,mA,n,r,wi⟩:=z
    exact ⟨hl,mA,xn0 n k,r,wi⟩
end
def CXo (P:Program) (w:World):CXT:=fun outer H s E u s'=>∃ e C od H' T,u = .ref e∧s'.os = s.os∧AllBare s'.gens∧Un (frs outer) [] H H' s.heap s'.heap∧HOk P w H' s'.heap ∧
  Xat s'.heap e (.ref C) od (some T)∧H' e = some (XO e C od)∧s.heap.objs.size≤T∧H' T = none∧E e C H'
def Tbs (X:Cx) (pins:List (Addr × Obj)) (H:Hp) (tb:Option Addr):Prop:=∀ T,tb = some T→X.s₀.heap.objs.size≤T∧H T = none∧T≠X.env.locals∧(∀ x c,X.env.cells.lookup x = some c→c≠T)∧∀ p ∈ X.pn ++ pins,p.1≠T
def xe0 (X:Cx) (E:St→XK):Prop:=∀ (pins:List (Addr × Obj)) (σ:St) (H:Hp) (s:Shared) (e C:Addr) (od tb:Option Addr),Inv X pins σ H s→Xat s.heap e (.ref C) od tb→H e = some (XO e C od) →
  Tbs X pins H tb→E σ e C H→X.xe (.ref e) s
section
variable {X:Cx} {pins:List (Addr × Obj)} {σ:St} {H:Hp} {s:Shared} {e C:Addr} {od tb:Option Addr}
theorem Inv.size_lt (I:Inv X pins σ H s) {b:Addr} (h:s.heap.objs.size≤b):H b = none∧b≠X.env.locals∧(∀ x c,X.env.cells.lookup x = some c→c≠b)∧∀ p ∈ X.pn ++ pins,p.1≠b:=by
  refine ⟨I.hok.fresh h,fun z=>?_,fun x c hc z=>?_,fun p hp z=>?_⟩
  · rw [z] at h
    exact absurd I.lt (Nat.not_lt.mpr h)
  · obtain ⟨v,o,ho,_⟩:=I.cell x c hc
    rw [z] at ho
    exact absurd (Heap.lt_size ho) (Nat.not_lt.mpr h)
  · have g:=(I.pin p hp).1
    rw [z] at g
    exact absurd (Heap.lt_size g) (Nat.not_lt.mpr h)
theorem Inv.noted {h':Heap} {T:Addr} (I:Inv X pins σ H s) (he:H e = some (XO e C od)) (tbs:Tbs X pins H tb) (st:Stp (frs X.stack) e tb s.heap h') (x:Xat h' e (.ref C) od (some T)) :
    Inv X pins σ H { s with heap:=h' }:=by
  have neE:∀ b,H b = none→b≠e:=fun b n z=>by rw [z,he] at n; cases n
  have neT:∀ b u,H b = some u→tb≠some b:=fun b u hb z=>by rw [(tbs b z).2.1] at hb; cases hb
  have nfr:∀ b u,H b = some u→b ∉ frs X.stack:=fun b u hb z=>by rw [I.stkFree b z] at hb; cases hb
  have kp:∀ b u o,H b = some u→b≠e→s.heap.get? b = some o→h'.get? b = some o:=fun b u o hb ne g=>st.keep b o g ne (neT b u hb) (nfr b u hb)
  have un:Un (frs X.stack) tb.toList H H s.heap h':=by
    refine ⟨fun b o g n hb hx=>st.keep b o g (neE b n) (fun z=>hx (by rw [z]; simp)) hb,fun b o g n hb hx=>st.slot b o g hb,fun b o g n hx=>n,fun b o g hx=>?_,fun b xs z=>z,fun b o u z=>z,fun b ps z=>⟨#[],by rw [z]; simp⟩⟩
    by_cases b1:b = e
    · subst b1
      obtain ⟨oe,_,ge,_⟩:=x
      exact ⟨oe,ge⟩
    · by_cases b2:b ∈ frs X.stack
      · obtain ⟨sl,q⟩:=st.slot b o g b2
        exact ⟨_,q⟩
      · exact ⟨o,st.keep b o g b1 (fun z=>hx (by rw [z]; simp)) b2⟩
  have hok:HOk X.prog X.w H h':=fun b u hb=>by
    by_cases b1:b = e
    · subst b1
      rw [he] at hb
      cases hb
      exact xmh (xko x)
    · refine (I.hok b u hb).stay (fun c v hc q=>?_) (fun c q=>q) fun c xs q=>q
      rcases hc with rfl | hc
      · exact kp c u v hb b1 q
      · exact kp c _ v hc (fun z=>by rw [z,he] at hc; cases hc) q
  refine I.call (g':=s.gens) (d':=s.drawn) (t':=s.toks) (ch:=tb.toList) un hok I.bare fun b hb=>?_
  have z:tb = some b:=by
    cases tb with
    | none=>simp at hb
    | some T'=>simp at hb; rw [hb]
  obtain ⟨a1,_,a3,a4,a5⟩:=tbs b z
  exact ⟨.inr a1,a3,a4,a5⟩
theorem xe0.pass {E:St→XK} (t:xe0 X E):xcy (CXo X.prog X.w) X E:=fun pins σ H s u s' I h=>by
  obtain ⟨e,C,od,H',T,rfl,os,bare,un,hok,x,he,sT,hT,q⟩:=h
  have J:Inv X pins σ H' s':=I.call' os un hok bare (ch:=[]) fun b z=>absurd z (by simp)
  refine t pins σ H' s' e C od (some T) J x he (fun T' z=>?_) q
  cases z
  obtain ⟨_,a,b,c⟩:=I.size_lt sT
  exact ⟨Nat.le_trans I.sz sT,hT,a,b,c⟩
theorem xu:xcy (CXo X.prog X.w) X (fun _ _ _ _=>False):=fun pins σ H s u s' I h=>by
  obtain ⟨e,C,od,H',T,_,_,_,_,_,_,_,_,_,q⟩:=h
  exact q.elim
theorem xal {P:Program} {w:World} {K:PySem.W.Frag} {mg:Str→Option Value} {base:Heap} {N:List Str} {qual:Str} {scope:Scope} {f:Addr} {cd:Value} {A:Around} {outer:List Env} {s₀:Shared} {H₀:Hp} {E:XK} :
    xe0 (cxOf q0 (CXo P w) P w K mg base N qual scope f cd A outer s₀ H₀ E) (fun _=>E):=fun pins σ H s e C od tb I x he tbs q=>by
  show wpAny (model P w) _ (leaving _ (.ref e)) _ _ s
  unfold leaving
  refine wpAny_bind (xkz (L:=s₀.heap.objs.size) I.ok.frames I.stack rfl x fun h' T st sT x'=>?_)
  have J:=I.noted he tbs st x'
  exact ⟨e,C,od,H,T,rfl,J.os,J.bare,J.base,J.hok,x',he,Nat.le_trans I.sz sT,I.hok.fresh sT,q⟩
end
end L2
set_option maxRecDepth 100000
namespace XL
open PySem PySem.W
def xkd (e:DictEntry):Bool:=match e.key with | .str _ _=>true | _=>false
def xfh (K:Frag) (ns:Addr):Bool:=match K.lookup ns with
  | some ⟨_,_,.dict es _,_⟩=>es.toList.all xkd && !(es.toList.any (·.key.isStr "__init__"))
  | _=>false
def xfw (K:Frag):List Value→Bool
  | []=>false
  | .ref a :: r=>(match K.lookup a with
      | some ⟨_,_,.cls cd,_⟩=>xfh K cd.ns && xfw K r
      | _=>false)
  | v :: r=>(v :: r) == vErr
theorem xph {K:Frag} {h:Heap} {ns:Addr} (X:K.In h) (e:xfh K ns = true):∃ mA,h.Ns ns mA∧mA "__init__" = none:=by
  unfold xfh at e
  split at e
  · rename_i es n sl ho
    obtain ⟨e1,e2⟩:=Bool.and_eq_true_iff.mp e
    refine ⟨_,⟨_,es,_,X _ _ ho,rfl,fun z hz=>?_,fun _=>rfl⟩,?_⟩
    · have q:=List.all_eq_true.mp e1 z (Array.mem_toList_iff.mpr hz)
      unfold xkd at q
      split at q
      · rename_i a b c
        exact ⟨a,b,c⟩
      · cases q
    · unfold nsFind findBy
      rw [← Array.find?_toList]
      have z:es.toList.find? (fun e=>e.key.isStr "__init__") = none:=by
        rw [List.find?_eq_none]
        intro y hy q
        rw [Bool.not_eq_true',List.any_eq_false] at e2
        exact e2 y hy q
      rw [z]
      rfl
  · cases e
theorem xig {K:Frag} {h:Heap} (X:K.In h):∀ {l:List Value},xfw K l = true→OwnTail h vErr l
  | [],e=>by cases e
  | v :: r,e=>by
    have last:((v :: r:List Value) == vErr) = true→OwnTail h vErr (v :: r):=fun z=>by
      rw [eq_of_beq z]
      exact .base
    cases v with
    | ref a =>
      unfold xfw at e
      split at e
      · rename_i c d cd sl ho
        obtain ⟨e1,e2⟩:=Bool.and_eq_true_iff.mp e
        obtain ⟨mA,n,z⟩:=xph X e1
        exact .own (X _ _ ho) n z (xig X e2)
      · cases e
    | _=>exact last e
def xai (K:Frag) (C:Addr):Bool:=match K.lookup C with
  | some ⟨.type "type",_,.cls cd,sl⟩=>(match cd.mro,sl.toList with
    | .ref C' :: bm,[_,_,_,_,some (.builtin i),_]=>C' == C && !cd.hasDel && i == "ValueError.__new__" && xfw K bm
    | _,_=>false)
  | _=>false
theorem xfj {K:Frag} {h:Heap} {C:Addr} (X:K.In h) (q:xai K C = true):∃ nm qn N bs bm hz sn sub ab col dd k0 k1 k2 k3 k5,
    h.get? C = some (excClassObj nm qn C N bs bm hz sn sub ab col dd k0 k1 k2 k3 k5 "ValueError.__new__")∧OwnTail h vErr bm:=by
  unfold xai at q
  split at q
  · rename_i dd cd sl ho
    split at q
    · rename_i C' bm k0 k1 k2 k3 n k5 hm hs
      simp only [Bool.and_eq_true,beq_iff_eq,Bool.not_eq_true'] at q
      obtain ⟨⟨⟨rfl,hdel⟩,rfl⟩,ht⟩:=q
      obtain ⟨nm,bs,mro,ns,qn,hd,sn,sub,ab,col,del⟩:=cd
      dsimp only at hm hdel
      subst hm hdel
      have hsl:sl = #[k0,k1,k2,k3,some (.builtin "ValueError.__new__"),k5]:=by
        obtain ⟨l⟩:=sl
        simp only at hs
        rw [hs]
      subst hsl
      exact ⟨nm,qn,ns,bs,bm,hd,sn,sub,ab,col,dd,k0,k1,k2,k3,k5,X _ _ ho,xig X ht⟩
    · cases q
  · cases q
end XL
namespace L2
open PySem PySem.Spec PyProof.Rows XL
variable {q0:Bool}
section
variable {X:Cx} {pins:List (Addr × Obj)} {σ:St} {H:Hp} {s:Shared} {a C dx:Addr} {od:Option Addr} {fs:List (Str × V)} {f:Str} {v y:V} {u:Value} {A:Around} {E:Value→Shared→Prop}
theorem xg4 (I:Inv X pins σ H s) (e:H a = some (XN a C od)):Xat s.heap a (.ref C) od none:=(I.hok a _ e).1
theorem xmo (I:Inv X pins σ H s) (e:H a = some (XO a C od)):∃ ox vs,s.heap.get? a = some ox∧ox.cls = .ref C∧ox.dict = od∧ox.data = .fields vs:=(I.hok a _ e).1
theorem xg5 (I:Inv X pins σ H s) (e:H dx = some (XD dx fs)):fs.length≤1000∧∃ mA,s.heap.Ns1 dx mA∧(∀ f,RelO (fs.lookup f) (mA f))∧PySem.Within mA (fs.map (·.1)):=(I.hok dx _ e).1
theorem xdi {o:Obj} {vs:Array Value} (d:o.data = .fields vs):PySem.W.notCls o = true:=by
  unfold PySem.W.notCls
  rw [d]
theorem xlj {Q:Unit→Shared→Prop} (I:Inv X pins σ H s) (e:H a = some (XN a C none)) (c:XC X.K C) (n:PySem.W.findIn X.K (.ref C) f = some none) (ry:RelV y u)
    (h:∀ dx s',H dx = none→Inv X pins σ (upd (upd H dx (XD dx [(f,y)])) a (XN a C (some dx))) s'→Q () s'):wpAny (model X.prog X.w) A (setAttr (.ref a) f u) Q E s:=by
  obtain ⟨oe,vs,g,ce,oo,de,sz,tb⟩:=xg4 I e
  refine xoy I.kIn c g ce (xdi de) oo (Obj.isFreed_of_fields de) n fun h' g' n' k sz'=>h s.heap.objs.size _ (I.hok.fresh (Nat.le_refl _)) ?_
  have hN:H s.heap.objs.size = none:=I.hok.fresh (Nat.le_refl _)
  have nad:a≠s.heap.objs.size:=fun z=>by rw [z,hN] at e; cases e
  have na:∀ b,H b = none→b≠a:=fun b nb z=>by rw [z,e] at nb; cases nb
  have nd:∀ b o,s.heap.get? b = some o→b≠s.heap.objs.size:=fun b o gb=>Nat.ne_of_lt (Heap.lt_size gb)
  have nd':∀ b u,H b = some u→b≠s.heap.objs.size:=fun b u hb z=>by rw [z,hN] at hb; cases hb
  have at1:∀ b,b≠a→b≠s.heap.objs.size→upd (upd H s.heap.objs.size (XD s.heap.objs.size [(f,y)])) a (XN a C (some s.heap.objs.size)) b = H b:=fun b b1 b2=>by rw [xm b1,xm b2]
  have xnew:Xat h' a (.ref C) (some s.heap.objs.size) none:=⟨_,vs,g',ce,rfl,de,sz,by
    rcases tb with t | ⟨T,_,_,z,_⟩
    · exact .inl t
    · cases z⟩
  have own1:∀ b c,H c = some (.own b)→c≠a:=fun b c hc z=>by rw [z,e] at hc; cases hc
  have tup1:∀ c xs,H c = some (.tup xs)→c≠a:=fun c xs hc z=>by rw [z,e] at hc; cases hc
  refine I.un ⟨fun b o gb nb _ _=>k b o (na b nb) gb,fun b o gb nb _ _=>⟨o.slots,k b o (na b nb) gb⟩,fun b o gb nb _=>?_,fun b o gb _=>?_,fun b xs z=>?_,fun b o w z=>?_,fun b ps z=>⟨#[],?_⟩⟩ fun b w hb=>?_
  · rw [at1 b (na b nb) (nd b o gb)]; exact nb
  · by_cases b1:b = a
    · exact ⟨_,by rw [b1]; exact g'⟩
    · exact ⟨o,k b o b1 gb⟩
  · rw [at1 b (tup1 b xs z) (nd' b _ z)]; exact z
  · rw [at1 b (fun q=>by rw [q,e] at z; cases z) (nd' b _ z)]; exact z
  · rw [at1 b (fun q=>by rw [q,e] at z; cases z) (nd' b _ z),z]; simp
  · by_cases b1:b = a
    · subst b1
      rw [xg] at hb
      cases hb
      exact xmj xnew
    · rw [xm b1] at hb
      by_cases b2:b = s.heap.objs.size
      · subst b2
        rw [xg] at hb
        cases hb
        refine xmb (by show 1≤1000; decide) n' (fun g=>?_) fun g hg=>?_
        · show RelO (List.lookup g [(f,y)]) (if g = f then some u else none)
          by_cases q:g = f
          · rw [if_pos q,q]
            simp only [List.lookup_cons,beq_self_eq_true]
            exact ry
          · rw [if_neg q]
            simp only [List.lookup_cons,beq_eq_false_iff_ne.mpr q]
            exact trivial
        · by_cases q:g = f
          · simp [q]
          · exact absurd (show (if g = f then some u else none) = none from if_neg q) hg
      · rw [xm b2] at hb
        refine (I.hok b w hb).stay (fun c v hc q=>?_) (fun c q=>?_) fun c xs q=>?_
        · rcases hc with rfl | hc
          · exact k c v b1 q
          · exact k c v (own1 b c hc) q
        · rw [at1 c (own1 b c q) (nd' c _ q)]; exact q
        · rw [at1 c (tup1 c xs q) (nd' c _ q)]; exact q
theorem xlu {Q:Unit→Shared→Prop} (I:Inv X pins σ H s) (e:H a = some (XN a C (some dx))) (ed:H dx = some (XD dx fs)) (hl:fs.length < 1000) (c:XC X.K C) (n:PySem.W.findIn X.K (.ref C) f = some none) (ry:RelV y u)
    (h:∀ s',Inv X pins σ (upd H dx (XD dx (putF f y fs))) s'→Q () s'):wpAny (model X.prog X.w) A (setAttr (.ref a) f u) Q E s:=by
  obtain ⟨oe,vs,g,ce,oo,de,sz,tb⟩:=xg4 I e
  obtain ⟨_,mA,nm,r,wi⟩:=xg5 I ed
  have hz:(fs.map (·.1)).length≤sizeLine:=by rw [List.length_map,sizeLine_eq]; omega
  refine xnr I.kIn c g ce (xdi de) oo nm n wi hz fun h' n' sb=>h _ ?_
  have hd:∃ o,h'.get? dx = some o:=let ⟨o,_,_,e',_⟩:=n'; ⟨o,e'⟩
  refine I.write (x:=dx) (e:=dx) (by rw [ed]; exact True.intro) (.inl rfl) (fun b q hb z=>(sb.2 b hb).trans z) hd ?_
  refine xmb (Nat.le_trans (xdw f y fs) hl) n' (fun g=>?_) fun g hg=>?_
  · show RelO ((putF f y fs).lookup g) (if g = f then some u else mA g)
    rw [xdu]
    by_cases q:g = f
    · rw [if_pos q,if_pos q]; exact ry
    · rw [if_neg q,if_neg q]; exact r g
  · by_cases q:g = f
    · rw [q]; exact (xc3 f y fs).1
    · refine (xc3 f y fs).2 g (wi g fun z=>hg ?_)
      show (if g = f then some u else mA g) = none
      rw [if_neg q]; exact z
theorem xne {b:Bool} {Q:Value→Shared→Prop} (I:Inv X pins σ H s) (e:H a = some (XO a C (some dx))) (ed:H dx = some (XD dx fs)) (c:XC X.K C) (n:PySem.W.findIn X.K (.ref C) f = some none) (l:fs.lookup f = some v)
    (h:∀ u s',Inv X pins σ H s'→RelV v u→Q u s'):wpAny (model X.prog X.w) A (getAttr (.ref a) f b) Q E s:=by
  obtain ⟨ox,vs,g,ce,oo,de⟩:=xmo I e
  obtain ⟨_,mA,nm,r,wi⟩:=xg5 I ed
  obtain ⟨u,hu,ru⟩:=RelO.some_of (v:=v) (o:=mA f) (by rw [← l]; exact r f)
  obtain ⟨o1,g1,hl⟩:=xgu nm
  exact xpw I.kIn c g ce (xdi de) oo g1 (by rw [hl,hu]) n (xg1 ru) (h u _ (I.tok _) ru)
end
def sXF (K:PySem.W.Frag) (ta tv:TE) (f:Str):TS:=fun D σ H=>tv σ H fun y H1=>ta σ H1 fun x H2=>∃ a C,x = .ref a∧XC K C∧PySem.W.findIn K (.ref C) f = some none ∧
  ((H2 a = some (XN a C none)∧∀ dx,H2 dx = none→D.nx σ (upd (upd H2 dx (XD dx [(f,y)])) a (XN a C (some dx)))) ∨
   ∃ dx fs,H2 a = some (XN a C (some dx))∧H2 dx = some (XD dx fs)∧fs.length < 1000∧D.nx σ (upd H2 dx (XD dx (putF f y fs))))
def tXF (K:PySem.W.Frag) (ta:TE) (f:Str):TE:=fun σ H Q=>ta σ H fun x H1=>∃ a C dx fs v,x = .ref a∧H1 a = some (XO a C (some dx))∧H1 dx = some (XD dx fs)∧XC K C∧PySem.W.findIn K (.ref C) f = some none∧fs.lookup f = some v∧Q v H1
section
variable {X:Cx} {o e value:Expr} {f:Str} {pos pos' tpos:Pos} {ta tv te:TE}
theorem xcl (ha:PE X o ta) (hv:PE X value tv) (hs:swapsWith value (some (.Attribute o f pos')) pos.line X.env = pure false):PS X (.Assign [.Attribute o f pos'] value pos) (sXF X.K ta tv f):=by
  intro pins s σ H D I h
  refine plainObj_wpAny_Assign_Attribute (thn (hv pins s σ H _ I h) fun u s1 ⟨y,H1,I1,ry,q⟩=>thn (ha pins s1 σ H1 _ I1 q) fun ov s2 ⟨x,H2,I2,rx,a,C,ex,c,n,q2⟩=>?_) hs
  subst ex
  obtain rfl:ov = Value.ref a:=rx
  rcases q2 with ⟨ea,q2⟩ | ⟨dx,fs,ea,ed,hl,q2⟩
  · exact xlj I2 ea c n ry fun dx s3 nd I3=>⟨σ,_,I3,q2 dx nd⟩
  · exact xlu I2 ea ed hl c n ry fun s3 I3=>⟨σ,_,I3,q2⟩
theorem xbh (he:PE X e te) (hb:attributeBase e f X.env (eval e X.env) = eval e X.env):PE X (.Attribute e f pos) (tXF X.K te f):=by
  intro pins s σ H Q I h
  refine xik hb (thn (he pins s σ H _ I h) fun u s1 ⟨x,H1,I1,rx,a,C,dx,fs,v,ex,ea,ed,c,n,l,q⟩=>?_)
  subst ex
  obtain rfl:u = Value.ref a:=rx
  exact xne I1 ea ed c n l fun u' s2 I2 ru=>⟨v,H1,I2,ru,q⟩
end
structure XMk (K:PySem.W.Frag) (C f:Addr):Prop where
  makes:xai K C = true
  init:PySem.W.findIn K (.ref C) "__init__" = some (some (.ref f))
  fn:PySem.W.isFn K (.ref f) = true
  kp:PySem.W.keepIn K (.ref C) = true
def xol (C:Addr) (sp:Sp) (dvs:List V) (t:TA):TE:=fun σ H Q=>t σ H fun vs H1=>vs.length≤1000∧∀ e,H1 e = none →
  sp (.ref e :: (vs ++ dvs)) (upd H1 e (XN e C none)) (fun v H2=>v = .non∧Q (.ref e) H2) (fun _ _ _=>False)
def xop (K:PySem.W.Frag) (te:TE) (E:St→XK):TS:=fun D σ H=>te σ H fun v H1=>∃ e C od,v = .ref e∧H1 e = some (XN e C od)∧xai K C = true∧E σ e C (upd H1 e (XO e C od))
section
variable {X:Cx} {k:Nat} {f C:Addr} {fd:FuncData} {ps:List Str} {sp:Sp} {dvs:List V} {ds:List Value} {E:St→XK} {x m:Str} {p pos apos:Pos} {e o:Expr} {es:List Expr} {ta te:TE} {t:TA}
theorem xke {pins:List (Addr × Obj)} {σ:St} {H:Hp} {s:Shared} {Q:VK} {us:List Value} {vs:List V} (M:XMk X.K C f) (F:FnOk q0 X.prog X.w X.K X.mg X.base (CXo X.prog X.w) k f fd ps sp) (hr:Room q0 (k + 1) X.A) (hb:xag X.K fd ps ds) (hd:Vals dvs ds)
    (I:Inv X pins σ H s) (r:Vals vs us) (hl:vs.length≤1000)
    (h:∀ e,H e = none→sp (.ref e :: (vs ++ dvs)) (upd H e (XN e C none)) (fun v H2=>v = .non∧Q (.ref e) H2) (fun _ _ _=>False)) :
    wpAny (model X.prog X.w) X.A (call (.ref C) us) (EP X pins σ Q) X.xe s:=by
  obtain ⟨nm,qn,N,bs,bm,hz,sn,sub,ab,col,dd,k0,k1,k2,k3,k5,gC,T⟩:=xfj I.kIn M.makes
  have ty:PySem.W.typeIn X.K (.ref f) = some (.type "function"):=beq_iff_eq.mp M.fn
  obtain ⟨oI,gI,cI⟩:=Option.map_eq_some_iff.mp (show (X.K.lookup f).map (·.cls) = some (.type "function") from ty)
  have lu:us.length≤sizeLine:=by
    have:=r.length
    rw [← this,sizeLine_eq]
    omega
  obtain ⟨hh,gg,d,tk,os⟩:=s
  refine xiz PySem.F.excBase_ValueError T gC (fun A' Q' E' s' kk q=>PySem.W.looks_findIn I.kIn M.init A' Q' E' s' kk q) (I.kIn _ _ gI) cI lu fun h' e hm se=>?_
  have hn:H e = none:=I.hok.fresh se
  obtain ⟨t0,ge,_,_⟩:=hm.there
  have xa:Xat h' e (.ref C) none none:=⟨_,_,ge,rfl,rfl,rfl,by simp,.inl ⟨rfl,rfl⟩⟩
  have I2:Inv X pins σ (upd H e (XN e C none)) ⟨h',gg,d,tk,os⟩:=I.laid (t':=tk) hm.keeps se (xmj xa)
  have hq:=h e hn
  have r2:Vals (V.ref e :: (vs ++ dvs)) (Value.ref e :: (us ++ ds)):=.cons rfl (r.append hd)
  have hl2:(Value.ref e :: us ++ ds).length = ps.length:=by
    have z:=r2.length
    rw [F.len _ _ _ _ hq] at z
    exact z.symm
  refine wpAny_call (codeAny_mono (F.run _ X.stack _ _ ⟨Value.ref e :: us,[]⟩ (Value.ref e :: (us ++ ds)) _ _ (fun _ _ _=>False) (hr.make C us [])
    (I2.env0.make C us []) (hb _ (Value.ref e :: us) I2.kIn hl2) r2 hq) fun r s' hq'=>?_)
  cases r with
  | error e'=>exact (xu pins σ _ _ e' s' I2 hq')
  | ok fl =>
    cases fl with
    | ret u =>
      obtain ⟨v,H',I3,rv,ev,q3⟩:=I2.after hq'
      subst ev
      exact ⟨rv,⟨V.ref e,H',I3,rfl,q3⟩⟩
    | next=>exact False.elim hq'
    | brk=>exact False.elim hq'
    | cont=>exact False.elim hq'
theorem xcm (M:XMk X.K C f) (F:FnOk q0 X.prog X.w X.K X.mg X.base (CXo X.prog X.w) k f fd ps sp) (hr:Room q0 (k + 1) X.A) (hg:Gl X x) (hm:X.mg x = some (.ref C)) (hb:xag X.K fd ps ds) (hd:Vals dvs ds)
    (ha:PA X (e :: es) t) (hdb:(x == ("__debug__":Str)) = false:=by decide) (he:starEach (e :: es) X.env = (false,eval e X.env) :: starEach es X.env:=by rfl) (hpl:(backTo pos (starEach es X.env)).any (·.1) = false:=by rfl) :
    PE X (.Call (.Name x p) (e :: es) [] pos) (xol C sp dvs t):=by
  intro pins s σ H Q I h
  refine wpAny_Call_Name_kw (xdz I hg hm ?_ hdb)
  refine PySem.W.callWith_K (h₀:=X.base) I.ok.mod.kin M.kp (thn (ha pos pins s σ H _ I h) fun us s1 ⟨vs,H1,I1,r,hl,q⟩=>⟨I1.kIn,?_⟩) he hpl
  exact xke M F hr hb hd I1 r hl q
theorem Inv.toXO {pins:List (Addr × Obj)} {σ:St} {H:Hp} {s:Shared} {e:Addr} {od:Option Addr} (I:Inv X pins σ H s) (h:H e = some (XN e C od)):Inv X pins σ (upd H e (XO e C od)) s:=by
  have x:=xg4 I h
  obtain ⟨oe,_,ge,_⟩:=id x
  exact I.write (x:=e) (e:=e) (t':=s.toks) (by rw [h]; exact True.intro) (.inl rfl) (fun b u _ z=>z) ⟨oe,ge⟩ (xmh (xko x))
theorem xgt {h:Heap} {bm:List Value} (T:OwnTail h vErr bm):bm.contains (.type "BaseException") = true:=T.hasType (by decide +kernel)
theorem xco (hh:X.A.handled = none) (tk:xe0 X E) (he:PE X e te):PS X (.Raise (some e) none pos) (xop X.K te E):=by
  intro pins s σ H D I h
  rw [arm_exec_Raise]
  refine wpAny_bind (wpAny_standAt ?_)
  show wpAny _ _ (raiseStmt X.env (some (do let v ← eval e X.env; standAt pos; pure v)) none) _ _ s
  refine xm4 hh (wpAny_bind (thn (he pins s σ H _ I h) fun v s1 ⟨x,H1,I1,rx,a,C,od,ex,ea,mk,q⟩=>wpAny_bind (wpAny_standAt (wpAny_pure ?_))))
  subst ex
  obtain rfl:v = Value.ref a:=rx
  obtain ⟨nm,qn,N,bs,bm,hz,sn,sub,ab,col,dd,k0,k1,k2,k3,k5,gC,T⟩:=xfj I1.kIn mk
  have x:=xg4 I1 ea
  exact ⟨a,od,C,nm,qn,N,bs,bm,hz,sn,sub,ab,col,dd,k0,k1,k2,k3,k5,_,rfl,xgt T,gC,x,tk pins σ _ s1 a C od none (I1.toXO ea) x xg (fun T' z=>by cases z) q⟩
end
end L2
set_option maxRecDepth 100000
namespace XL
open PySem PySem.W
section
variable {M:Model} {A:Around} {E:Value→Shared→Prop} {s:Shared}
theorem xlf {fs:List Addr} {e T:Addr} {cls:Value} {od:Option Addr} {Q:Unit→Shared→Prop} (x:Xat s.heap e cls od (some T)) (nf:∀ b ∈ fs,b≠T)
    (k:∀ h',Stp fs e (some T) s.heap h'→Xat h' e cls od (some T)→Q () { s with heap:=h' }):wpAny M A (setFlight (.ref e) none) Q E s:=by
  obtain ⟨oe,vs,ge,ce,oo,de,se,y⟩:=x
  rcases y with ⟨z,_⟩ | ⟨T',oT,ts,z,h1,nTe,gT,dT,h3⟩
  · cases z
  · cases z
    unfold setFlight
    refine wpAny_bind (wpAny_field ge de h1 ?_)
    rw [if_pos (show (Value.ref T != Value.none) = true from by simp)]
    have z3:3 < ts.size:=(Array.getElem?_eq_some_iff.mp h3).1
    have ot:∀ b,b≠T→(s.heap.update T (Obj.mapFields (·.setIfInBounds 3 ((none:Option Addr).elim Value.none fun f=>rawInt f)))).get? b = s.heap.get? b:=fun b hb=>Heap.get?_update_other _ _ (Ne.symm hb)
    refine wpAny_setField gT dT z3 (k _ ⟨fun b o hb _ bt _=>(ot b fun q=>bt (congrArg some q.symm)).trans hb,fun b o hb bf=>⟨o.slots,(ot b (nf b bf)).trans hb⟩⟩ ?_)
    exact ⟨oe,vs,(ot e (Ne.symm nTe)).trans ge,ce,oo,de,se,.inr ⟨T,_,_,rfl,h1,nTe,Heap.get?_update_self _ gT (Obj.isFreed_of_fields (Obj.data_mapFields dT _)),Obj.data_mapFields dT _,by simp [z3]⟩⟩
variable {nm qn nm' qn':Str} {C N C' N':Addr} {bs bm bs' bm':List Value} {hz hz':Bool} {sn sn':List Str} {sub sub':List Value} {ab ab':Bool} {col col':Option Bool} {dd dd':Option Addr} {k0 k1 k2 k3 k5 j0 j1 j2 j3 j5:Option Value} {ni ni':String}
theorem xia {h:Heap} {g:Array GenState} {d:Drawn} {t:Nat} {os:OsState} {e:Addr} {oe:Obj} {b:Bool} {Q:Bool→Shared→Prop}
    (gC:h.get? C = some (excClassObj nm qn C N bs bm hz sn sub ab col dd k0 k1 k2 k3 k5 ni)) (gC':h.get? C' = some (excClassObj nm' qn' C' N' bs' bm' hz' sn' sub' ab' col' dd' j0 j1 j2 j3 j5 ni'))
    (ge:h.get? e = some oe) (ce:oe.cls = .ref C) (bB:bm'.contains (.type "BaseException") = true) (hm:(Value.ref C :: bm).contains (.ref C') = b)
    (k:Q b ⟨h,g,d,t,os⟩):wpAny M A (excMatches (.ref e) (.ref C')) Q E ⟨h,g,d,t,os⟩:=by
  have mB:(Value.ref C' :: bm').contains (.type "BaseException") = true:=by rw [List.contains_cons,bB,Bool.or_true]
  have nt:=tc_notTuple
  unfold excMatches
  repeat (first | (with_reducible refine wpAny_loadPart_at ge ?_; rw [ce]) | with_reducible refine wpAny_loadPart_at gC' ?_ | (with_reducible refine wpAny_isSubtype_exc gC' ?_; rw [mB]) | (with_reducible refine wpAny_isSubtype_exc gC ?_; rw [hm]) | wp_step)
  cases b <;> (wp_walk; exact k)
end
end XL
namespace L2
open PySem PySem.Spec PyProof.Rows XL
variable {q0:Bool}
abbrev Cx.tryc (X:Cx) (pins:List (Addr × Obj)) (xe:Value→Shared→Prop):Cx:={ X with xe:=xe,pn:=X.pn ++ pins }
abbrev Cx.hand (X:Cx) (e:Addr):Cx:={ X with A:=X.A.mark (some (.ref e)),calm:=false,xe:=fun _ _=>False }
section
variable {X:Cx} {pins:List (Addr × Obj)} {σ:St} {H:Hp} {s:Shared}
theorem Cx.Ok.tryc (ok:X.Ok) (pins:List (Addr × Obj)) (xe:Value→Shared→Prop):(X.tryc pins xe).Ok :=
  ⟨ok.mod,ok.kind,ok.glob,ok.blt,ok.above,ok.inj,ok.has,ok.cab,ok.hd,ok.frames,ok.stk,ok.exf,ok.bs,ok.bsz,ok.noex,ok.exfs,ok.funs,ok.frf⟩
theorem Cx.Ok.untryc {xe:Value→Shared→Prop} (ok:(X.tryc pins xe).Ok):X.Ok :=
  ⟨ok.mod,ok.kind,ok.glob,ok.blt,ok.above,ok.inj,ok.has,ok.cab,ok.hd,ok.frames,ok.stk,ok.exf,ok.bs,ok.bsz,ok.noex,ok.exfs,ok.funs,ok.frf⟩
theorem Cx.Ok.hand (ok:X.Ok) (e:Addr):(X.hand e).Ok :=
  ⟨ok.mod,ok.kind,ok.glob,ok.blt,ok.above,ok.inj,ok.has,ok.cab,(fun z=>nomatch z),ok.frames,ok.stk,ok.exf,ok.bs,ok.bsz,ok.noex,ok.exfs,ok.funs,ok.frf⟩
theorem Inv.tryc (I:Inv X pins σ H s) (xe:Value→Shared→Prop):Inv (X.tryc pins xe) [] σ H s :=
  ⟨I.ok.tryc pins xe,I.os,I.bare,I.base,I.loc,I.cell,I.free,I.freeC,fun p hp=>I.pin p (by simpa using hp),I.hok,I.len⟩
theorem Inv.untryc {xe:Value→Shared→Prop} {pl:List (Addr × Obj)} (I:Inv (X.tryc pins xe) pl σ H s):Inv X pins σ H s :=
  ⟨I.ok.untryc,I.os,I.bare,I.base,I.loc,I.cell,I.free,I.freeC,fun p hp=>I.pin p (List.mem_append_left _ hp),I.hok,I.len⟩
theorem Inv.hand (I:Inv X pins σ H s) (e:Addr):Inv (X.hand e) pins σ H s :=
  ⟨I.ok.hand e,I.os,I.bare,I.base,I.loc,I.cell,I.free,I.freeC,I.pin,I.hok,I.len⟩
theorem Inv.unhand {e:Addr} (ok:X.Ok) (I:Inv (X.hand e) pins σ H s):Inv X pins σ H s :=
  ⟨ok,I.os,I.bare,I.base,I.loc,I.cell,I.free,I.freeC,I.pin,I.hok,I.len⟩
theorem Inv.gone {h':Heap} {m m':Str→Option Value} {n:Str} {j t':Nat} (I:Inv X pins σ H s) (hN:X.N.Nodup) (hj:X.N[j]? = some n) (hl:X.env.scope.names.lookup n = some .local)
    (hm:s.heap.Ns X.env.locals m) (hv:∀ (i:Nat) (x:Str) (v:V),X.N[i]? = some x→σ[i]? = some (some v)→Vis X.env.scope x→∃ u,RelV v u∧Look X.env s.heap m x u)
    (n':h'.Ns X.env.locals m') (e':∀ y,y≠n→m' y = m y) (sb:Heap.SameBut X.env.locals s.heap h'):Inv X pins (σ.set j none) H { s with heap:=h',toks:=t' }:=by
  have kp:∀ b o,b≠X.env.locals→s.heap.get? b = some o→h'.get? b = some o:=fun b o nb g=>(sb.2 b nb).trans g
  have neL:∀ b o,X.s₀.heap.get? b = some o→b≠X.env.locals:=fun b o e=>Nat.ne_of_lt (Nat.lt_of_lt_of_le (Heap.lt_size e) I.ok.above)
  have trk:∀ b u,H b = some u→b≠X.env.locals:=fun b u hb z=>by rw [z,I.free] at hb; cases hb
  refine ⟨I.ok,I.os,I.bare,⟨fun b o e n hb hx=>kp b o (neL b o e) (I.base.keep b o e n hb hx),fun b o e n hb hx=>?_,fun b o e n hx=>I.base.free b o e n hx,fun b o e hx=>?_,I.base.tups,I.base.frzs,I.base.tbls⟩,
    ⟨m',n',fun i x v e1 e2 e3=>?_⟩,fun x c e=>?_,I.free,I.freeC,fun p hp=>?_,fun b u hb=>?_,by rw [List.length_set]; exact I.len⟩
  · obtain ⟨sl,q⟩:=I.base.slot b o e n hb hx
    exact ⟨sl,kp b _ (neL b o e) q⟩
  · obtain ⟨o',q⟩:=I.base.there b o e hx
    exact ⟨o',kp b o' (neL b o e) q⟩
  · have nij:i≠j:=fun z=>by
      subst z
      have hl2:i < σ.length:=by rw [I.len]; exact (List.getElem?_eq_some_iff.mp hj).1
      rw [List.getElem?_set_self hl2] at e2
      cases e2
    rw [List.getElem?_set_ne (Ne.symm nij)] at e2
    have nx:x≠n:=fun z=>nij (xfi hN e1 (by rw [z]; exact hj))
    obtain ⟨u,r,l⟩:=hv i x v e1 e2 e3
    refine ⟨u,r,?_⟩
    rcases l with ⟨k,z⟩ | ⟨k,c,e,o,ho,hd⟩
    · exact .inl ⟨k,by rw [e' x nx]; exact z⟩
    · exact .inr ⟨k,c,e,o,kp c o (I.cne x c e) ho,hd⟩
  · obtain ⟨v,o,ho,hd⟩:=I.cell x c e
    exact ⟨v,o,kp c o (I.cne x c e) ho,hd⟩
  · obtain ⟨e,a,ne,nf,d⟩:=I.pin p hp
    exact ⟨kp p.1 p.2 ne e,a,ne,nf,d⟩
  · refine (I.hok b u hb).stay (fun c v hc q=>?_) (fun c q=>q) fun c xs q=>q
    rcases hc with rfl | hc
    · exact kp c v (trk c u hb) q
    · exact kp c v (trk c _ hc) q
end
def endH (D:Ends) (j:Nat):Ends:={ nx:=fun σ H=>D.nx (σ.set j none) H,rt:=D.rt,bk:=fun σ H=>D.bk (σ.set j none) H,ct:=fun σ H=>D.ct (σ.set j none) H }
def tTry (K:PySem.W.Frag) (C0:Addr) (j:Nat) (E:St→XK) (tb th:TS):TS:=fun D σ H=>tb D σ H∧∀ σ' e C H',E σ' e C H'→xai K C = true∧PySem.W.mroIn K C (.ref C0) = some true∧th (endH D j) (σ'.set j (some (.ref e))) H'
section
variable {X:Cx} {pos np hpos:Pos} {body hbody:List Stmt} {b0:Stmt} {cx n:Str} {C0:Addr} {j:Nat} {E:St→XK} {tb th:TS}
theorem xo0 (hg:Gl X cx) (hm:X.mg cx = some (.ref C0)) (mk0:xai X.K C0 = true) (hN:X.N.Nodup) (hj:X.N[j]? = some n) (hl:X.env.scope.names.lookup n = some .local) (hf:X.env.frame = some X.env.locals) (hst:X.stack = X.env :: X.outer)
    (hb:∀ pins xe,xe0 (X.tryc pins xe) E→PSs (X.tryc pins xe) body tb) (hh:∀ e,PSs (X.hand e) (b0 :: hbody) th) (hdb:(cx == ("__debug__":Str)) = false:=by decide) :
    PS X (.Try body [.ExceptHandler (some (.Name cx np)) (some n) (b0 :: hbody) hpos] [] [] pos) (tTry X.K C0 j E tb th):=by
  intro pins s σ H D I ⟨h1,h2⟩
  refine wpAny_Try_except ?_
  have ok:=I.ok
  have T:xe0 (X.tryc pins (fun e s₁=>wpAny (model X.prog X.w) X.A (noteFrame e X.env) (fun _ s₂=>wpAny (model X.prog X.w) X.A (setFlight e none) (fun _ s₃=>wpAny (model X.prog X.w) X.A (handleBy e X.env [.ExceptHandler (some (.Name cx np)) (some n) (b0 :: hbody) hpos]) (SP X pins D) X.xe s₃) X.xe s₂) X.xe s₁)) E:=by
    intro pl σ' H' s' e C od tb' I' x he tbs q
    have J:=I'.untryc
    have tbs':Tbs X pins H' tb':=fun T z=>by
      obtain ⟨a1,a2,a3,a4,a5⟩:=tbs T z
      exact ⟨a1,a2,a3,a4,fun p hp=>a5 p (List.mem_append_left _ hp)⟩
    obtain ⟨mkC,mro,hth⟩:=h2 σ' e C H' q
    have fr:X.A.frames = some (X.env :: X.outer):=by rw [← hst]; exact J.ok.frames
    have ff:s'.heap.FunFrames X.base (X.env :: X.outer):=by rw [← hst]; exact J.stack
    refine xkz (L:=X.env.locals) fr ff hf x fun h' T st sT x'=>?_
    rw [← hst] at st
    have J2:=J.noted he tbs' st x'
    have fr2:X.base.objs.size≤s'.heap.objs.size:=Nat.le_trans J.ok.bsz J.sz
    have ff2:h'.FunFrames X.base X.stack:=J2.stack
    have nT:∀ b ∈ frs X.stack,b≠T:=fun b hb z=>by
      obtain ⟨_,o,ho,hnf⟩:=J.stack.mem hb
      rw [z] at ho
      exact absurd (Heap.lt_size ho) (Nat.not_lt.mpr sT)
    have fresh:=J.size_lt sT
    have tbs2:Tbs X pins H' (some T):=fun T' z=>by
      cases z
      exact ⟨Nat.le_trans J.sz sT,fresh.1,fresh.2.1,fresh.2.2.1,fresh.2.2.2⟩
    obtain ⟨nm,qn,N,bs,bm,hz,sn,sub,ab,col,dd,k0,k1,k2,k3,k5,gC,TC⟩:=xfj J2.kIn mkC
    obtain ⟨nm',qn',N',bs',bm',hz',sn',sub',ab',col',dd',j0,j1,j2,j3,j5,gC0,TC0⟩:=xfj J2.kIn mk0
    refine wpAny_handleBy_cons (codeAny_handlers_test (xdz (X:=X.hand e) (J2.hand e) hg hm ?_ hdb)) (by intro z; cases z)
    obtain ⟨oe,_,ge,ce,_⟩:=id x'
    have hmr:(Value.ref C :: bm).contains (.ref C0) = true:=by
      obtain ⟨cd,e1,e2⟩:=Option.bind_eq_some_iff.mp mro
      have e3:(Value.ref C :: bm) = cd.mro:=by
        unfold PySem.W.clsIn at e1
        split at e1
        · rename_i c1 d1 cd1 sl1 ho
          cases e1
          have z:=(J2.kIn _ _ ho).symm.trans gC
          injection z with z
          injection z with _ _ z _
          injection z with z
          rw [z]
        · cases e1
      rw [e3]
      split at e2
      · cases e2
      · exact Option.some.inj e2
    refine xia (M:=model X.prog X.w) gC gC0 ge ce (xgt TC0) hmr ?_
    show codeAny _ _ _ _ _
    refine codeAny_handlers_suite_as (xlf (fs:=frs X.stack) x' nT fun h3 st3 x3=>?_)
    have J3:Inv X pins σ' H' { s' with heap:=h3 }:=J2.noted he tbs2 st3 x3
    refine xe6 (v:=V.ref e) J3 hN hj (.inl hl) rfl (fun s4 J4=>?_) (.inr hl)
    refine wpAny_mono (hh e pins s4 _ H' _ (J4.hand e) hth) (fun f s5 q5=>?_) fun _ _ z=>z.elim
    have fin:∀ {σ5:St} {H5:Hp} {Q:Unit→Shared→Prop},Inv (X.hand e) pins σ5 H5 s5→(∀ s6,Inv X pins (σ5.set j none) H5 s6→Q () s6) →
        wpAny (model X.prog X.w) X.A (do bindName X.env n Value.none; unbindBehindTheSuite X.env n hpos) Q X.xe s5:=fun {σ5 H5 Q} K5 kq=>by
      have K6:Inv X pins σ5 H5 s5:=Inv.unhand ok K5
      obtain ⟨m,hm5,hv5⟩:=K6.loc
      refine xj8 (show X.env.kindOf n = some .local from hl) hm5 (by simp [ok.kind]) fun h6 m6 n6 e6 s6=>kq _ (K6.gone hN hj hl hm5 hv5 n6 e6 s6)
    cases f with
    | next =>
      obtain ⟨σ5,H5,K5,z⟩:=q5
      exact fin K5 fun s6 K6=>⟨_,H5,K6,z⟩
    | brk =>
      obtain ⟨σ5,H5,K5,z⟩:=q5
      exact fin K5 fun s6 K6=>⟨_,H5,K6,z⟩
    | cont =>
      obtain ⟨σ5,H5,K5,z⟩:=q5
      exact fin K5 fun s6 K6=>⟨_,H5,K6,z⟩
    | ret u =>
      obtain ⟨v,σ5,H5,K5,r,z⟩:=q5
      exact fin K5 fun s6 K6=>⟨v,_,H5,K6,r,z⟩
  refine wpAny_mono (hb pins _ T [] s σ H D (I.tryc _) h1) (fun f s1 q=>?_) fun u s1 q=>q
  cases f with
  | next =>
    obtain ⟨σ',H',J,z⟩:=q
    exact wpAny_execs_nil ⟨σ',H',J.untryc,z⟩
  | brk =>
    obtain ⟨σ',H',J,z⟩:=q
    exact ⟨σ',H',J.untryc,z⟩
  | cont =>
    obtain ⟨σ',H',J,z⟩:=q
    exact ⟨σ',H',J.untryc,z⟩
  | ret u =>
    obtain ⟨v,σ',H',J,r,z⟩:=q
    exact ⟨v,σ',H',J.untryc,r,z⟩
end
end L2
set_option maxRecDepth 100000
namespace XL
open PySem PySem.W
theorem xk4 {K:Frag} {x C:Addr} (c:XC K C):KitX K (.ref x) (.ref C) (fun h=>∃ ox od,InstAt h x ox C od) where
  ty:=fun _ _ _ ⟨_,_,I⟩=>I.type
  it:=fun _ _ X _=>by
    obtain ⟨cd,hc,_,_⟩:=c.mro
    unfold clsIn at hc
    split at hc
    · rename_i c' d' cd' sl' ho
      intro A' Q' E' s' k q
      unfold isType loadHead
      exact wpAny_bind (wpAny_loadPart (k _ _ (X _ _ ho)) (wpAny_pure q))
    · cases hc
  ne:=fun h tp dd its n sl X htp=>by
    obtain ⟨cd,hc,_,_⟩:=c.mro
    refine Bool.eq_false_iff.mpr fun q=>?_
    have e:C = tp:=Value.ref.inj (beq_iff_eq.mp q)
    subst e
    unfold clsIn at hc
    split at hc
    · rename_i c' d' cd' sl' ho
      have z:=(X _ _ ho).symm.trans htp
      cases z
    · cases hc
  ca:=fun X ⟨ox,od,I⟩ k=>xlb X c I k
end XL
namespace L2
open PySem PySem.Spec PyProof.Rows XL
variable {q0:Bool}
def clsV:V→Option Value
  | .ty n=>some (.type n)
  | .ref a=>some (.ref a)
  | _=>none
theorem xe7 {c:V} {u cv:Value} (e:clsV c = some cv) (r:RelV c u):u = cv:=by
  cases c <;> first | (cases e; exact r) | cases e
def xjf:List V→Option (List Value)
  | []=>some []
  | c :: r=>(clsV c).bind fun a=>(xjf r).map (a :: ·)
theorem xgx:∀ {cs:List V} {us cv:List Value},xjf cs = some cv→Vals cs us→us = cv
  | [],_,_,e,.nil=>by cases e; rfl
  | c :: r,_,_,e,.cons rc rr=>by
    obtain ⟨a,e1,e2⟩:=Option.bind_eq_some_iff.mp e
    obtain ⟨b,e3,rfl⟩:=Option.map_eq_some_iff.mp e2
    rw [xe7 e1 rc,xgx e3 rr]
section
variable {X:Cx} {pins:List (Addr × Obj)} {σ:St} {H:Hp} {s:Shared} {A:Around} {E:Value→Shared→Prop} {Q:Value→Shared→Prop}
theorem xip {a C:Addr} {od:Option Addr} (I:Inv X pins σ H s) (h:H a = some (XO a C od)) (hd:∀ d,od = some d→∃ o,s.heap.get? d = some o):∃ ox odx,PySem.W.InstAt s.heap a ox C odx:=by
  obtain ⟨ox,vs,g,ce,oo,de⟩:=xmo I h
  cases e:od with
  | none=>exact ⟨ox,none,g,ce,xdi de,by rw [oo,e]; trivial⟩
  | some d =>
    obtain ⟨o,go⟩:=hd d e
    exact ⟨ox,some o,g,ce,xdi de,by rw [oo,e]; exact go⟩
end
def xpn (K:PySem.W.Frag):List V→Hp→VK→Prop:=fun xs H Q=>∃ x c,xs = [x,c]∧((∃ t cv b,TyOf K H x t∧clsV c = some cv∧PySem.W.kitOne K t cv = some b∧Q (.bl b) H) ∨
  (∃ a C od cv b,x = .ref a∧H a = some (XO a C od)∧(∀ d,od = some d→∃ fs,H d = some (XD d fs))∧XC K C∧clsV c = some cv∧PySem.W.kitOne K (.ref C) cv = some b∧Q (.bl b) H) ∨
  (∃ a C od p cs cv b,x = .ref a∧H a = some (XO a C od)∧(∀ d,od = some d→∃ fs,H d = some (XD d fs))∧XC K C∧c = .ref p∧SqT K H p cs∧xjf cs = some cv∧PySem.W.kitAny K (.ref C) cv = some b∧Q (.bl b) H))
section
variable {X:Cx}
theorem xaf:xb6 X (.builtin "isinstance") (xpn X.K):=by
  intro pins s σ H us xs Q I r h
  obtain ⟨x,c,rfl,h⟩:=h
  obtain ⟨u,v,rfl,ru,rv⟩:=xi9 r
  rcases h with ⟨t,cv,b,ty,ec,ek,q⟩ | ⟨a,C,od,cv,b,rfl,ha,hd,xc,ec,ek,q⟩ | ⟨a,C,od,p,cs,cv,b,rfl,ha,hd,xc,rfl,hp,ec,ek,q⟩
  · obtain rfl:=xe7 ec rv
    exact xj4 I ru ty ek fun tk=>⟨.bl b,H,I.tok tk,rfl,q⟩
  · obtain rfl:=xe7 ec rv
    obtain rfl:u = Value.ref a:=ru
    refine PySem.W.kia_one (xk4 xc) I.kIn (xip I ha fun d e=>?_) ek (fun z=>nomatch z) fun tk=>⟨.bl b,H,I.tok tk,rfl,q⟩
    obtain ⟨fs,hw⟩:=hd d e
    obtain ⟨_,_,⟨o,_,_,go,_⟩,_⟩:=xg5 I hw
    exact ⟨o,go⟩
  · obtain rfl:u = Value.ref a:=ru
    obtain rfl:v = Value.ref p:=rv
    obtain ⟨its,vi,it,_⟩:=I.tuple hp
    obtain rfl:=xgx ec vi
    obtain ⟨o,g,oc,n,od'⟩:=it
    obtain ⟨c1,d1,dt1,sl1⟩:=o
    dsimp only at oc od'
    subst oc od'
    refine PySem.W.kia_tup (xk4 xc) I.kIn (xip I ha fun d e=>?_) g ek (fun z=>nomatch z) fun tk=>⟨.bl b,H,I.tok tk,rfl,q⟩
    obtain ⟨fs,hw⟩:=hd d e
    obtain ⟨_,_,⟨o,_,_,go,_⟩,_⟩:=xg5 I hw
    exact ⟨o,go⟩
end
end L2
set_option maxRecDepth 100000
namespace L2
open PySem PySem.Spec PyProof.Rows XL
variable {q0:Bool}
def xcf (scope:Scope):List Str:=(scope.names.filter fun x=>x.2 == .free).map (·.1)
def Cx.clo (X:Cx) (scope:Scope):List (Str × Addr):=(xcf scope).reverse.map fun n=>(n,(X.env.cells.lookup n).getD 0)
theorem xfz {env:Env} {f:Str→Addr}:∀ (l:List (Str × NameKind)) (acc:List (Str × Addr)),(∀ x ∈ l,x.2 = .free→env.cells.lookup x.1 = some (f x.1)) →
    (forIn l acc fun x cs=>(if x.2 == .free then do let c ← cellOf env x.1; pure (ForInStep.yield ((x.1,c) :: cs)) else pure (ForInStep.yield cs):Sem (ForInStep (List (Str × Addr))))) =
      pure ((((l.filter fun x=>x.2 == .free).map (·.1)).reverse.map fun n=>(n,f n)) ++ acc)
  | [],acc,_=>rfl
  | x :: r,acc,h=>by
    have ih:=fun a=>xfz r a fun y hy=>h y (List.mem_cons_of_mem _ hy)
    rw [List.forIn_cons]
    by_cases q:x.2 = .free
    · have e:=h x List.mem_cons_self q
      have qb:(x.2 == NameKind.free) = true:=by rw [q]; rfl
      rw [if_pos qb,List.filter_cons,if_pos qb]
      have ec:cellOf env x.1 = pure (f x.1):=by unfold cellOf; rw [e]
      rw [ec]
      simp only [pure_bind]
      rw [ih]
      simp
    · have qb:(x.2 == NameKind.free) = false:=by simpa using q
      rw [if_neg (by rw [qb]; decide),List.filter_cons,if_neg (by rw [qb]; decide)]
      simp only [pure_bind]
      rw [ih]
theorem xkc {X:Cx} {scope:Scope} (h:∀ n ∈ xcf scope,∃ c,X.env.cells.lookup n = some c):closureFor scope X.env = pure (X.clo scope):=by
  unfold closureFor
  have z:=xfz (env:=X.env) (f:=fun n=>(X.env.cells.lookup n).getD 0) scope.names [] fun x hx hf=>by
    obtain ⟨c,e⟩:=h x.1 (List.mem_map.mpr ⟨x,List.mem_filter.mpr ⟨hx,by simp [hf]⟩,rfl⟩)
    rw [e]
    rfl
  rw [List.append_nil] at z
  refine (bind_pure (m:=Sem) _).trans ?_
  exact z
theorem xms {X:Cx} {scope:Scope} {n:Str} {c:Addr} (h:(X.clo scope).lookup n = some c):n ∈ xcf scope∧c = (X.env.cells.lookup n).getD 0:=by
  have z:=PySem.mem_of_lookup h
  unfold Cx.clo at z
  obtain ⟨y,hy,e⟩:=List.mem_map.mp z
  injection e with e1 e2
  subst e1
  exact ⟨List.mem_reverse.mp hy,e2.symm⟩
theorem xdt {f:Str→Addr} {n:Str}:∀ {l:List Str},n ∈ l→(l.map fun y=>(y,f y)).lookup n = some (f n)
  | [],h=>by simp at h
  | y :: r,h=>by
    rw [List.map_cons,List.lookup_cons]
    by_cases q:n = y
    · subst q
      simp
    · rw [show (n == y) = false from by simpa using q]
      exact xdt ((List.mem_cons.mp h).resolve_left q)
theorem xio {X:Cx} {scope:Scope} {n:Str} {c:Addr} (hn:n ∈ xcf scope) (h:X.env.cells.lookup n = some c):(X.clo scope).lookup n = some c:=by
  have z:=xdt (f:=fun n=>(X.env.cells.lookup n).getD 0) (List.mem_reverse.mpr hn)
  unfold Cx.clo
  rw [z,h]
  rfl
section
variable {X:Cx} {pins:List (Addr × Obj)} {σ:St} {H:Hp} {s:Shared} {scope:Scope} {x:Str} {ys:List Str} {fr:List Nat} {fp:List Addr}
end
section
variable {X:Cx} {pins:List (Addr × Obj)} {σ:St} {H:Hp} {s:Shared} {scope:Scope} {x:Str} {ys:List Str} {fr:List Nat} {fp:List Addr}
end
def xew:TT:=fun _ H Q=>Q true H
def PIf (X:Cx) (ifs:List Expr) (t:TT):Prop :=
  ∀ (pins:List (Addr × Obj)) (s:Shared) (σ:St) (H:Hp) (Q:Bool→Hp→Prop),Inv X pins σ H s→t σ H Q →
    wpAny (model X.prog X.w) X.A (forIn ifs true fun c r=>if r = true then do let ok ← isTrue c X.env (eval c X.env); pure (ForInStep.yield ok) else pure (ForInStep.yield r)) (TP X pins σ Q) X.xe s
theorem xd6 {X:Cx}:PIf X [] xew:=fun pins s σ H Q I h=>wpAny_pure ⟨H,I,h⟩
theorem xdy {X:Cx} {c:Expr} {t:TT} (hc:PT X c t):PIf X [c] t:=fun pins s σ H Q I h=>by
  rw [List.forIn_cons]
  refine wpAny_bind ?_
  rw [if_pos rfl]
  refine wpAny_bind (wpAny_mono (hc pins s σ H Q I h) (fun b s1 q=>wpAny_pure ?_) fun _ _ z=>z)
  exact wpAny_pure q
section
variable {X:Cx} {scope:Scope} {x:Str} {ys:List Str} {fr:List Nat} {elt iter:Expr} {ifs:List Expr} {px pos:Pos} {wi:TI} {tc:TT} {te:TE}
end
end L2
set_option maxRecDepth 100000
namespace L2
open PySem PySem.Spec PyProof.Rows XL
variable {q0:Bool}
theorem xk2 {env:Env} {scope:Scope} (nc:∀ y ∈ scope.names,y.2≠.cell) (n:Str) (h:(relabel scope env).names.lookup n = some .cell∨(relabel scope env).names.lookup n = some .free):n ∈ xcf scope:=by
  have key:∀ k,(relabel scope env).names.lookup n = some k→(k = .cell∨k = .free)→n ∈ xcf scope:=fun k e hk=>by
    obtain ⟨y,hy,ey⟩:=List.mem_map.mp (PySem.mem_of_lookup e)
    obtain ⟨m,j⟩:=y
    dsimp only at ey
    split at ey
    · rename_i q
      injection ey with e1 e2
      subst e1
      have:j = .free:=by
        simp only [Bool.and_eq_true,beq_iff_eq] at q
        exact q.1.1
      subst this
      exact List.mem_map.mpr ⟨_,List.mem_filter.mpr ⟨hy,by simp⟩,rfl⟩
    · injection ey with e1 e2
      subst e1 e2
      rcases hk with z | z
      · exact absurd z (nc _ hy)
      · subst z
        exact List.mem_map.mpr ⟨_,List.mem_filter.mpr ⟨hy,by simp⟩,rfl⟩
  rcases h with h | h
  · exact key _ h (.inl rfl)
  · exact key _ h (.inr rfl)
theorem xi3 {env:Env} {scope:Scope} {n:Str} (h:scope.names.lookup n = some .free):(relabel scope env).names.lookup n = some .cell∨(relabel scope env).names.lookup n = some .free:=by
  have key:∀ (l:List (Str × NameKind)),l.lookup n = some .free→(l.map fun (m,k)=>if (k == NameKind.free && env.scope.kind == .function && env.kindOf m == some .cell) then (m,NameKind.cell) else (m,k)).lookup n = some .cell ∨
      (l.map fun (m,k)=>if (k == NameKind.free && env.scope.kind == .function && env.kindOf m == some .cell) then (m,NameKind.cell) else (m,k)).lookup n = some .free:=fun l=>by
    induction l with
    | nil=>intro e; simp at e
    | cons y r ih =>
      intro e
      obtain ⟨m,k⟩:=y
      rw [List.map_cons]
      rw [List.lookup_cons] at e
      cases q:n == m with
      | true =>
        rw [q] at e
        cases e
        dsimp only
        split
        · left; rw [List.lookup_cons,q]
        · right; rw [List.lookup_cons,q]
      | false =>
        rw [q] at e
        have z:=ih e
        dsimp only
        split <;> (rw [List.lookup_cons,q]; exact z)
  exact key _ h
section
variable {P:Program} {w:World} {K:PySem.W.Frag} {mg:Str→Option Value} {base:Heap}
theorem Fun.okx {x qual:Str} {st:Stmt} {f:Addr} {fd:FuncData} {N ps:List Str} {k:Nat} {sp:Sp} (F:Fun K x qual st f fd) (S:x8 N ps (xk st)) (len:∀ vs H Q E,sp vs H Q E→vs.length = ps.length)
    (hbody:∀ (cdv:Value) (A:Around) (outer:List Env) (s:Shared) (H:Hp) (vs:List V) (Q:VK) (E:XK),Room q0 k (A.deeper (envOfC qual (xk st) s.heap.objs.size f cdv))→sp vs H Q E →
      ∃ t,PSs (cxOf q0 (CXo P w) P w K mg base N qual (xk st) f cdv A outer s H E) (x4 st) t∧t { nx:=fun _ H'=>Q .non H',rt:=Q } (xce N vs) H):FnOk q0 P w K mg base (CXo P w) (k + 1) f fd ps sp:=by
  obtain ⟨oc,od,kV,doc,pm,an,cdv,ct,osl,rfl,lk,hcd⟩:=F.ex
  exact xg3 lk hcd S len fun A outer s H vs Q E hr hsp=>hbody cdv A outer s H vs Q E hr hsp
theorem Fun.okn {x qual:Str} {st:Stmt} {f:Addr} {fd:FuncData} {N ps:List Str} {k:Nat} {sp:Sp} (F:Fun K x qual st f fd) (S:x8 N ps (xk st)) (len:∀ vs H Q E,sp vs H Q E→vs.length = ps.length)
    (hbody:∀ (cdv:Value) (A:Around) (outer:List Env) (s:Shared) (H:Hp) (vs:List V) (Q:VK) (E:XK),Room q0 k (A.deeper (envOfC qual (xk st) s.heap.objs.size f cdv))→sp vs H Q E →
      ∃ t,PSs (cxOf q0 (CXo P w) P w K mg base N qual (xk st) f cdv A outer s H E).nox (x4 st) t∧t { nx:=fun _ H'=>Q .non H',rt:=Q } (xce N vs) H):FnOk q0 P w K mg base (CXo P w) (k + 1) f fd ps sp:=by
  obtain ⟨oc,od,kV,doc,pm,an,cdv,ct,osl,rfl,lk,hcd⟩:=F.ex
  refine xg3 lk hcd S len fun A outer s H vs Q E hr hsp=>?_
  obtain ⟨t,h,q⟩:=hbody cdv A outer s H vs Q E hr hsp
  exact ⟨t,h.nox,q⟩
end
end L2
set_option maxRecDepth 100000
namespace L2
open PySem PySem.Spec PyProof.Rows XL
theorem ifP {b:Bool} {A B:Prop} (h:b = true) (q:A):if b = true then A else B:=by
  rw [if_pos h]
  exact q
theorem ifN {b:Bool} {A B:Prop} (h:b = false) (q:B):if b = true then A else B:=by
  rw [if_neg (by rw [h]; decide)]
  exact q
end L2
set_option maxRecDepth 100000
namespace L2
open PySem PySem.Spec PyProof.Rows XL
section
variable {X:Cx}
theorem xdq:OpR X (compareOp .LtE) (fun x y H Q=>∃ i j,x = .str i∧y = .str j∧Q (.bl (!decide (j.cps.toList < i.cps.toList))) H):=by
  intro pins s σ H x y v u Q I rx ry h
  obtain ⟨i,j,rfl,rfl,q⟩:=h
  obtain ⟨t,rfl⟩:=rx
  obtain ⟨t',rfl⟩:=ry
  exact PySem.P.le_str (xat I q rfl)
end
end L2
set_option maxRecDepth 100000
namespace L2
open PySem PySem.Spec PyProof.Rows
variable {q0:Bool}
section
variable {X:Cx}
end
end L2
set_option maxRecDepth 100000
namespace L2
open PySem PySem.Spec PyProof.Rows
variable {q0:Bool}
structure FunD (K:PySem.W.Frag) (x qual:Str) (st:Stmt) (T f:Addr) (fd:FuncData):Prop where
  ex:∃ (oc:Value) (od:Option Addr) (kV doc pm:Value) (an:Option Addr) (cdv ct:Value) (osl:Array (Option Value)),
    fd = PySem.W.fnOf x qual (x6 st) (x4 st) (xk st) (.ref T) kV doc pm an cdv ct∧K.lookup f = some ⟨oc,od,.func fd,osl⟩∧PySem.W.codeIn K cdv qual = true
  kp:PySem.W.keepIn K (.ref f) = true
section
variable {P:Program} {w:World} {K:PySem.W.Frag} {mg:Str→Option Value} {base:Heap}
theorem FunD.okn {x qual:Str} {st:Stmt} {T f:Addr} {fd:FuncData} {N ps:List Str} {k:Nat} {sp:Sp} (F:FunD K x qual st T f fd) (S:x8 N ps (xk st)) (len:∀ vs H Q E,sp vs H Q E→vs.length = ps.length)
    (hbody:∀ (cdv:Value) (A:Around) (outer:List Env) (s:Shared) (H:Hp) (vs:List V) (Q:VK) (E:XK),Room q0 k (A.deeper (envOfC qual (xk st) s.heap.objs.size f cdv))→sp vs H Q E →
      ∃ t,PSs (cxOf q0 (CXo P w) P w K mg base N qual (xk st) f cdv A outer s H E).nox (x4 st) t∧t { nx:=fun _ H'=>Q .non H',rt:=Q } (xce N vs) H):FnOk q0 P w K mg base (CXo P w) (k + 1) f fd ps sp:=by
  obtain ⟨oc,od,kV,doc,pm,an,cdv,ct,osl,rfl,lk,hcd⟩:=F.ex
  refine xg3 lk hcd S len fun A outer s H vs Q E hr hsp=>?_
  obtain ⟨t,h,q⟩:=hbody cdv A outer s H vs Q E hr hsp
  exact ⟨t,h.nox,q⟩
theorem FunD.binds {x qual:Str} {st:Stmt} {T f:Addr} {fd:FuncData} {ps:List Str} {o:Obj} {items:Array Value} {n:Nat} {ds:List Value} (F:FunD K x qual st T f fd) (ho:K.lookup T = some o) (hs:o.data = .seq items n) (m:Nat) (hm:m + ds.length = ps.length)
    (h:∀ (kV doc pm:Value) (an:Option Addr) (cdv ct:Value) (us:List Value),us.length = m →
      ∃ k,bindArgs (PySem.W.fnOf x qual (x6 st) (x4 st) (xk st) (.ref T) kV doc pm an cdv ct) ⟨us,[]⟩ = seqItems? (.ref T) >>= k∧k (some items) = pure (ps.zip (us ++ ds))):xag K fd ps ds:=by
  obtain ⟨oc,od,kV,doc,pm,an,cdv,ct,osl,rfl,lk,hcd⟩:=F.ex
  intro s us hK hl
  rw [List.length_append] at hl
  obtain ⟨k,h1,h2⟩:=h kV doc pm an cdv ct us (by omega)
  exact BindsTo.of_defaults rfl (hK _ _ ho) hs h1 h2
theorem xiv {x qual:Str} {st:Stmt} {T f:Addr} {oc:Value} {od an:Option Addr} {osl:Array (Option Value)} {kV doc pm cdv ct:Value} (l:K.lookup f = some ⟨oc,od,.func (PySem.W.fnOf x qual (x6 st) (x4 st) (xk st) (.ref T) kV doc pm an cdv ct),osl⟩)
    (c:PySem.W.codeIn K cdv qual = true) (k:PySem.W.keepIn K (.ref f) = true):FunD K x qual st T f (PySem.W.fnOf x qual (x6 st) (x4 st) (xk st) (.ref T) kV doc pm an cdv ct):=⟨⟨oc,od,kV,doc,pm,an,cdv,ct,osl,rfl,l,c⟩,k⟩
end
end L2
set_option maxRecDepth 100000
namespace L2
open PySem PySem.Spec PyProof.Rows XL
variable {q0:Bool}
abbrev Cx.blkG (X:Cx) (scope:Scope) (zs:List Str) (ys:List Str) (C:Addr) (ex:List Addr) (s:Shared) (H:Hp) (pn:List (Addr × Obj)):Cx where
  prog:=X.prog
  w:=X.w
  K:=X.K
  mg:=X.mg
  base:=X.base
  A:=X.A
  N:=zs ++ ys
  s₀:=s
  H₀:=H
  env:=compEnvC scope (X.clo scope) C X.env
  outer:=X.stack
  stack:=X.stack
  ex:=ex
  fn:=fun _=>false
  calm:=X.calm
  pn:=pn
  xe:=fun _ _=>False
theorem xfv {prog:Program} {w:World} {A:Around} {R:Result→Shared→Prop} {s:Shared} {elt target iter:Expr} {ifs:List Expr} {scope:Scope} {pos:Pos} {it acc:Value} {env:Env} (I:Nat→Shared→Prop)
    (turn:∀ n s,I n s→wpAny (model prog w) A (pyNext it) (fun r s₁=>match r with
      | none=>R (.ok .next) s₁
      | some v=>wpAny (model prog w) A (letOwnedTupleGo target it v) (fun _ s₀=>wpAny (model prog w) A (assign target env v) (fun _ s₂ =>
          wpAny (model prog w) A (forIn ifs true fun c r=>if r = true then do let ok ← isTrue c env (eval c env); pure (ForInStep.yield ok) else pure (ForInStep.yield r)) (fun ok s₃ =>
            if ok = true then wpAny (model prog w) A (eval elt env) (fun x s₄ =>
              wpAny (model prog w) A (call (.builtin "list.append") [acc,x]) (fun _ s₅=>∃ m,m < n∧I m s₅) (notedBy (model prog w) A env fun e s'=>R (.error e) s') s₄) (notedBy (model prog w) A env fun e s'=>R (.error e) s') s₃
            else ∃ m,m < n∧I m s₃) (notedBy (model prog w) A env fun e s'=>R (.error e) s') s₂) (notedBy (model prog w) A env fun e s'=>R (.error e) s') s₀) (notedBy (model prog w) A env fun e s'=>R (.error e) s') s₁) (notedBy (model prog w) A env fun e s'=>R (.error e) s') s)
    (n:Nat) (h:I n s):codeAny (model prog w) A (.compLoop (.ListComp elt [⟨target,iter,ifs,0⟩] scope pos) 0 it acc env) R s:=by
  refine codeAny_loop rfl I (fun n s hI=>?_) n h
  show wpAny _ A ((compTurn (.ListComp elt [⟨target,iter,ifs,0⟩] scope pos) 0 it acc env).onRaise (fun x=>do noteFrame x env; theTreesLotGoes x)) _ _ s
  refine wpAny_noted ?_
  rw [compTurn_list]
  refine wpAny_bind (wpAny_standAt (wpAny_bind (wpAny_mono (turn n s hI) (fun r s₁ h₁=>?_) fun _ _ h'=>h')))
  cases r with
  | none=>exact wpAny_pure h₁
  | some v =>
    refine wpAny_bind (wpAny_mono h₁ (fun _ s₀ h₀=>wpAny_bind (wpAny_mono h₀ (fun _ s₂ h₂=>wpAny_bind (wpAny_mono h₂ (fun ok s₃ h₃=>?_) fun _ _ h'=>h')) fun _ _ h'=>h')) fun _ _ h'=>h')
    cases ok with
    | false=>exact wpAny_pure ⟨rfl,h₃⟩
    | true =>
      exact wpAny_bind (wpAny_bind (wpAny_mono h₃ (fun x s₄ h₄=>wpAny_bind (wpAny_mono h₄ (fun _ s₅ h₅=>wpAny_pure (wpAny_pure ⟨rfl,h₅⟩)) fun _ _ h'=>h')) fun _ _ h'=>h'))
structure BlkG (X:Cx) (scope:Scope) (zs:List Str) (ys:List Str) (fr:List Nat):Prop where
  kind:scope.kind = .function
  own:∀ x ∈ zs,scope.names.lookup x = some .local
  ncell:∀ y ∈ scope.names,y.2≠.cell
  names:∀ y ∈ scope.names,y.2 = .local→scope.names.lookup y.1 = some .local
  free:∀ n ∈ xcf scope,X.env.scope.names.lookup n = some .cell
  has:∀ n,((relabel scope X.env).names.lookup n = some .cell∨(relabel scope X.env).names.lookup n = some .free)→n ∈ xcf scope
  slots:fr.map (fun i=>X.N[i]?) = ys.map some
  ysf:∀ y ∈ ys,y ∈ xcf scope
  ysc:∀ y ∈ ys,(relabel scope X.env).names.lookup y = some .cell∨(relabel scope X.env).names.lookup y = some .free
  st:X.stack = X.env :: X.outer
  nd:X.N.Nodup
  ndb:(zs ++ ys).Nodup
def blk0 (σ:St) (fr:List Nat) (n:Nat):St:=List.replicate n none ++ fr.map fun i=>(σ[i]?).join
section
variable {X:Cx} {pins:List (Addr × Obj)} {σ:St} {H:Hp} {s:Shared} {scope:Scope} {zs:List Str} {ys:List Str} {fr:List Nat} {fp:List Addr}
theorem BlkG.cells (B:BlkG X scope zs ys fr) (I:Inv X pins σ H s):∀ n ∈ xcf scope,∃ c,X.env.cells.lookup n = some c:=fun n hn=>I.ok.has n (.inl (B.free n hn))
theorem BlkG.sub (B:BlkG X scope zs ys fr) (I:Inv X pins σ H s) {n:Str} {c:Addr} (h:(X.clo scope).lookup n = some c):X.env.cells.lookup n = some c:=by
  obtain ⟨a,b⟩:=xms h
  obtain ⟨d,e⟩:=B.cells I n a
  rw [e] at b
  rw [b,e]
  rfl
theorem Inv.blkG {h1:Heap} {m1:Str→Option Value} {t':Nat} (B:BlkG X scope zs ys fr) (I:Inv X pins σ H s) (hf:∀ b ∈ fp,FpOk X pins H b) (hz:∀ b ∈ fp,b < s.heap.objs.size) (n1:h1.Ns s.heap.objs.size m1) (k1:∀ b o,s.heap.get? b = some o→h1.get? b = some o) :
    Inv (X.blkG scope zs ys s.heap.objs.size fp s H (X.pn ++ pins)) [] (blk0 σ fr zs.length) H { s with heap:=h1,toks:=t' }:=by
  have sub:∀ n c,(X.clo scope).lookup n = some c→X.env.cells.lookup n = some c:=fun n c h=>B.sub I h
  have cz:∀ n c,X.env.cells.lookup n = some c→c < s.heap.objs.size:=fun n c e=>by
    obtain ⟨v,o,ho,_⟩:=I.cell n c e
    exact Heap.lt_size ho
  have nfs:∀ b ∈ fp,b ∉ frs X.stack:=fun b hb z=>(List.mem_cons.mp (I.stkSub b z)).elim (hf b hb).2.1 (hf b hb).2.2.1
  have fz:∀ b,b ∈ frs X.stack→b < s.heap.objs.size:=fun b hb=>by
    obtain ⟨_,o,ho,_⟩:=I.stack.mem hb
    exact Heap.lt_size ho
  refine ⟨⟨I.ok.mod,B.kind,I.ok.glob,I.ok.blt,Nat.le_refl _,fun y z c h1 h2=>I.ok.inj y z c (sub y c h1) (sub z c h2),fun y hy=>?_,(fun y c hy _=>nomatch hy),I.ok.hd,I.ok.frames,.inl rfl,fun b hb=>⟨?_,fun y c h=>(hf b hb).2.2.2.2.1 y c (sub y c h)⟩,
      I.bs,Nat.le_trans I.ok.bsz I.sz,fun b o e hb=>?_,fun b hb=>nfs b hb,I.stack,I.stkFree⟩,
    rfl,I.bare,Un.kept k1,⟨m1,n1,fun i y v e1 e2 e3=>?_⟩,fun y c h=>?_,I.hok.fresh (Nat.le_refl _),fun y c h=>I.freeC y c (sub y c h),fun p hp=>?_,I.hok.kept k1,?_⟩
  · obtain ⟨c,e⟩:=B.cells I y (B.has y hy)
    exact ⟨c,xio (B.has y hy) e⟩
  · exact Nat.ne_of_lt (hz b hb)
  · rcases (hf b hb).2.2.2.1 with z | z
    · exact I.ok.noex b o e z
    · exact absurd (Nat.lt_of_lt_of_le (Heap.lt_size (I.ok.bs b o e).1) z) (Nat.lt_irrefl _)
  · have ln:(List.replicate zs.length (none:Option V)).length = zs.length:=List.length_replicate
    by_cases lt:i < zs.length
    · have e2':(blk0 σ fr zs.length)[i]? = some (some v):=e2
      unfold blk0 at e2'
      rw [List.getElem?_append_left (by rw [ln]; exact lt),List.getElem?_replicate] at e2'
      split at e2' <;> cases e2'
    · obtain ⟨k,rfl⟩:∃ k,i = zs.length + k:=⟨i - zs.length,by omega⟩
      have e2':(fr.map fun i=>(σ[i]?).join)[k]? = some (some v):=by
        have z:(blk0 σ fr zs.length)[zs.length + k]? = some (some v):=e2
        unfold blk0 at z
        rw [List.getElem?_append_right (by rw [ln]; omega),ln] at z
        simpa using z
      have e1':ys[k]? = some y:=by
        have z:(zs ++ ys)[zs.length + k]? = some y:=e1
        rw [List.getElem?_append_right (by omega)] at z
        simpa using z
      rw [List.getElem?_map] at e2'
      obtain ⟨j,hj,ej⟩:=Option.map_eq_some_iff.mp e2'
      have ev:σ[j]? = some (some v):=by
        cases q:σ[j]? with
        | none=>rw [q] at ej; cases ej
        | some w=>rw [q] at ej; exact congrArg some ej
      have eN:X.N[j]? = some y:=by
        have z:=congrArg (fun l=>l[k]?) B.slots
        simp only [List.getElem?_map,hj,e1',Option.map_some] at z
        exact Option.some.inj z
      have my:y ∈ ys:=List.mem_of_getElem? e1'
      obtain ⟨m,_,lk⟩:=I.loc
      obtain ⟨u,r,l⟩:=lk j y v eN ev (.inr (.inl (B.free y (B.ysf y my))))
      refine ⟨u,r,.inr ⟨B.ysc y my,?_⟩⟩
      rcases l with ⟨kk,_⟩ | ⟨_,c,e,o,ho,hd⟩
      · have z:=B.free y (B.ysf y my)
        rw [show X.env.scope.names.lookup y = some .local from kk] at z
        cases z
      · exact ⟨c,xio (B.ysf y my) e,o,k1 c o ho,hd⟩
  · obtain ⟨v,o,ho,hd⟩:=I.cell y c (sub y c h)
    exact ⟨v,o,k1 c o ho,hd⟩
  · have hp':p ∈ X.pn ++ pins:=by simpa using hp
    obtain ⟨a1,a2,a3,a4,a5⟩:=I.pin p hp'
    exact ⟨k1 _ _ a1,a2,Nat.ne_of_lt (Heap.lt_size a1),fun z=>(List.mem_cons.mp (I.stkSub _ z)).elim a3 a4,a5⟩
  · have z:=congrArg List.length B.slots
    simp only [List.length_map] at z
    simp [blk0,z]
end
section
variable {X:Cx} {pins:List (Addr × Obj)} {σ:St} {H:Hp} {s:Shared} {scope:Scope} {zs:List Str} {ys:List Str} {fr:List Nat} {fp:List Addr}
theorem Inv.unblkG {C:Addr} {s':Shared} {h2:Heap} {σ':St} {H':Hp} {pl:List (Addr × Obj)} (I:Inv X pins σ H s) (hf:∀ b ∈ fp,FpOk X pins H b) (hC:s.heap.objs.size≤C) (J:Inv (X.blkG scope zs ys C fp s H (X.pn ++ pins)) pl σ' H' s') (sb:Heap.SameBut C s'.heap h2) :
    Inv X pins σ H' { s' with heap:=h2 }:=by
  have kp:∀ b o,b≠C→s'.heap.get? b = some o→h2.get? b = some o:=fun b o nb g=>(sb.2 b nb).trans g
  have old:∀ b o,s.heap.get? b = some o→b≠C:=fun b o g=>Nat.ne_of_lt (Nat.lt_of_lt_of_le (Heap.lt_size g) hC)
  have trk:∀ b u,H' b = some u→b≠C:=fun b u hb z=>by
    have f:H' C = none:=J.free
    rw [z,f] at hb
    cases hb
  refine I.call' (s':={ s' with heap:=h2 }) J.os (ch:=fp) ⟨fun b o e n hb hx=>kp b o (old b o e) (J.base.keep b o e n hb hx),fun b o e n hb hx=>?_,fun b o e n hx=>J.base.free b o e n hx,fun b o e hx=>?_,J.base.tups,J.base.frzs,J.base.tbls⟩ (fun b u hb=>?_) J.bare fun b hb=>?_
  · obtain ⟨sl,q⟩:=J.base.slot b o e n hb hx
    exact ⟨sl,kp b _ (old b o e) q⟩
  · obtain ⟨o',q⟩:=J.base.there b o e hx
    exact ⟨o',kp b o' (old b o e) q⟩
  · refine (J.hok b u hb).stay (fun c v hc q=>?_) (fun c q=>q) fun c xs q=>q
    rcases hc with rfl | hc
    · exact kp c v (trk c u hb) q
    · exact kp c v (trk c _ hc) q
  · obtain ⟨_,a1,_,a3,a4,a5⟩:=hf b hb
    exact ⟨a3,a1,a4,a5⟩
end
def GOk (n:Nat) (g:TG):Prop:=∀ v σ H Q,g v σ H Q→g v σ H (fun σ' H'=>Q σ' H'∧σ'.length = σ.length∧∀ i,n≤i→σ'[i]? = σ[i]?)
theorem xbz {i n:Nat} (h:i < n):GOk n (xev i):=fun v σ H Q q=>⟨q,by simp,fun j hj=>by rw [List.getElem?_set_ne (by omega)]⟩
def xe3 (J:It) (n:Nat) (g:TG) (σ:St) (fr:List Nat) (tc:TT) (te:TE) (l:Addr) (H1:Hp) (Q:VK):Prop:=∃ W:Nat→Nat→List V→Hp→Prop,(∃ m,W 0 m [] (upd H1 l (.lst [])))∧∀ i m xs H2,W i m xs H2 →
  (J.stop i H2∧Q (.ref l) H2)∨(J.go i H2∧∀ v H3,J.yld i H2 v H3→g v (blk0 σ fr n) H3 fun σ' H3'=>tc σ' H3' fun b H4=>if b = true then
    (te σ' H4 fun y H5=>H5 l = some (.lst xs)∧xs.length < sizeLine∧∃ m',m' < m∧W (i + 1) m' (xs ++ [y]) (upd H5 l (.lst (xs ++ [y])))) else ∃ m',m' < m∧W (i + 1) m' xs H4)
def xhj (wi:TI) (n:Nat) (g:TG) (fr:List Nat) (tc:TT) (te:TE):TE:=fun σ H Q=>wi σ H fun J H1=>∀ l,H1 l = none→xe3 J n g σ fr tc te l H1 Q
section
variable {X:Cx} {scope:Scope} {zs:List Str} {ys:List Str} {fr:List Nat} {elt iter tg:Expr} {g:TG} {ifs:List Expr} {px pos:Pos} {wi:TI} {tc:TT} {te:TE}
theorem xfp {pins:List (Addr × Obj)} {s:Shared} {σ:St} {H:Hp} {Q:VK} {U:Option (Value→Sem Unit)} {R:Value→Shared→Prop} (hc:X.calm = true) (B:BlkG X scope zs ys fr) (hi:PI X tg iter wi) (hg:∀ C ex s H pn,(∀ x ∈ zs,(relabel scope X.env).names.lookup x = some .local)→(zs ++ ys).Nodup→PG (X.blkG scope zs ys C ex s H pn) tg g) (gok:GOk zs.length g)
    (hif:∀ C ex s H pn,PIf (X.blkG scope zs ys C ex s H pn) ifs tc) (he:∀ C ex s H pn,PE (X.blkG scope zs ys C ex s H pn) elt te) (I:Inv X pins σ H s) (h:xhj wi zs.length g fr tc te σ H Q)
    (fin:∀ C l H' s' m,(X.s₀.heap.objs.size≤C∧C≠X.env.locals∧(∀ x c,X.env.cells.lookup x = some c→c≠C)∧∀ p ∈ X.pn ++ pins,p.1≠C)→H' C = none→s'.heap.Ns C m→(∀ h2,Heap.SameBut C s'.heap h2→Inv X pins σ H' { s' with heap:=h2 })→Q (.ref l) H'→compPost (model X.prog X.w) X.A X.xe U R (.ref l) C (.ok .next) s') :
    wpAny (model X.prog X.w) X.A (eval iter X.env) (fun v s1=>wpAny (model X.prog X.w) X.A (pyIter v) (fun it s2=>wpAny (model X.prog X.w) X.A (newList []) (fun acc s3 =>
      wpAny (model X.prog X.w) X.A (newFunctionEnv scope X.env.globals (X.clo scope) [] X.env.qual none .none (some X.env)) (fun cenv s4 =>
        codeAny (model X.prog X.w) X.A (.compStart (.ListComp elt [⟨tg,iter,ifs,0⟩] scope pos) 0 it acc { cenv with scope:=relabel scope X.env }) (compPost (model X.prog X.w) X.A X.xe U R acc cenv.locals) s4) X.xe s3) X.xe s2) X.xe s1) X.xe s:=by
  refine thn (hi pins s σ H _ I h) fun v s1 h1=>thn h1 fun itv s2 h2=>?_
  obtain ⟨it,fp,tn,J,H2,rfl,I2,T,st2,f2,body⟩:=h2
  have hN:H2 s2.heap.objs.size = none:=I2.hok.fresh (Nat.le_refl _)
  obtain ⟨W,⟨m0,w0⟩,turn⟩:=body s2.heap.objs.size hN
  refine wpAny_newObj_type ?_
  generalize hs3:({ s2 with heap:=s2.heap.push { cls:=.type "list",data:=.seq ([]:List Value).toArray } }:Shared) = s3
  have k3:∀ b o,s2.heap.get? b = some o→s3.heap.get? b = some o:=fun b o g=>by rw [← hs3]; exact Heap.get?_push_of_some _ g
  have I3:Inv X pins σ (upd H2 s2.heap.objs.size (.lst [])) s3:=by
    rw [← hs3]
    exact I2.laid (t':=s2.toks) (fun b u e=>Heap.get?_push_of_some _ e) (Nat.le_refl _) ⟨Nat.zero_le _,[],0,.nil,Heap.get?_push_size _ rfl⟩
  have z2:∀ b ∈ fp,b < s2.heap.objs.size:=fun b hb=>by
    obtain ⟨o,g,_⟩:=T.obj 0 _ st2 b hb
    exact Heap.lt_size g
  have z3:∀ b ∈ fp,b < s3.heap.objs.size:=fun b hb=>by
    obtain ⟨o,g,_⟩:=T.obj 0 _ st2 b hb
    exact Heap.lt_size (k3 b o g)
  have f3:∀ b ∈ fp,FpOk X pins (upd H2 s2.heap.objs.size (.lst [])) b:=fun b hb=>⟨by rw [xm (Nat.ne_of_lt (z2 b hb))]; exact (f2 b hb).1,(f2 b hb).2⟩
  have st3:tn 0 s3.heap:=T.keep _ _ _ st2 fun b _ o g=>k3 b o g
  refine wpAny_newFunctionEnv B.ncell (by intro y hy; simp at hy) (fun h1 n1 sb1=>?_) B.kind
  have k4:∀ b o,s3.heap.get? b = some o→h1.get? b = some o:=fun b o g=>sb1.extBut b o (Nat.ne_of_lt (Heap.lt_size g)) (Heap.get?_push_of_some _ g)
  have I4:=I3.blkG (t':=s3.toks + ([]:List (Str × Value)).length) B f3 z3 n1 k4
  have st4:tn 0 h1:=T.keep _ _ _ st3 fun b _ o g=>k4 b o g
  have own':∀ x ∈ zs,(relabel scope X.env).names.lookup x = some .local:=fun x hx=>lookup_relabel_local (B.own x hx)
  -- the iterator's objects,through the loop
  have stat:∀ {H':Hp},(∀ b ∈ fp,H' b = none)→∀ b ∈ fp,FpOk (X.blkG scope zs ys s3.heap.objs.size fp s3 (upd H2 s2.heap.objs.size (.lst [])) (X.pn ++ pins)) [] H' b:=fun hn b hb=>by
    obtain ⟨_,a1,a2,a3,a4,a5⟩:=f3 b hb
    exact ⟨hn b hb,Nat.ne_of_lt (z3 b hb),fun z=>(List.mem_cons.mp (I3.stkSub b z)).elim a1 a2,.inl hb,fun y c h=>a4 y c (B.sub I3 h),fun p hp=>a5 p (by simpa using hp)⟩
  have loop:∀ s4:Shared,s4 = { s3 with heap:=h1,toks:=s3.toks + ([]:List (Str × Value)).length } →
      codeAny (model X.prog X.w) X.A (.compLoop (.ListComp elt [⟨tg,iter,ifs,0⟩] scope pos) 0 (.ref it) (.ref s2.heap.objs.size) (compEnvC scope (X.clo scope) s3.heap.objs.size X.env))
        (compPost (model X.prog X.w) X.A X.xe U R (.ref s2.heap.objs.size) s3.heap.objs.size) s4:=by
    rintro s4 rfl
    refine xfv (fun n s'=>∃ i xs H',Inv (X.blkG scope zs ys s3.heap.objs.size fp s3 (upd H2 s2.heap.objs.size (.lst [])) (X.pn ++ pins)) [] (blk0 σ fr zs.length) H' s'∧tn i s'.heap∧(∀ b ∈ fp,H' b = none)∧W i n xs H') ?_ m0
      ⟨0,[],_,I4,st4,fun b hb=>(f3 b hb).1,w0⟩
    rintro n s5 ⟨i,xs,H5,I5,st5,fr5,w5⟩
    rcases turn i n xs H5 w5 with ⟨stop,q⟩ | ⟨go,step⟩
    · refine wpAny_mono (T.done (X.blkG scope zs ys s3.heap.objs.size fp s3 (upd H2 s2.heap.objs.size (.lst [])) (X.pn ++ pins)) rfl rfl rfl hc i [] s5 _ H5 (fun _ _=>False) I5 (stat fr5) st5 stop) (fun r s6 ⟨hr,I6⟩=>?_) fun _ _ z=>z.elim
      subst hr
      obtain ⟨m,hm,_⟩:=I6.loc
      exact fin _ _ H5 s6 m ⟨I3.sz,(I3.size_lt (Nat.le_refl _)).2⟩ I6.free hm (fun h2 sb=>I3.unblkG f3 (Nat.le_refl _) I6 sb) q
    · refine wpAny_mono (T.item (X.blkG scope zs ys s3.heap.objs.size fp s3 (upd H2 s2.heap.objs.size (.lst [])) (X.pn ++ pins)) rfl rfl rfl hc i [] s5 _ H5 (fun _ _=>False) I5 (stat fr5) st5 go) (fun r s6 ⟨u,hr,h6⟩=>?_) fun _ _ z=>z.elim
      subst hr
      refine wpAny_mono h6 (fun _ s7 ⟨y,H7,I7,r7,y7,st7,fr7⟩=>?_) fun _ _ z=>z.elim
      have I7':=I7.pinned (stat fr7) (T.obj _ _ st7)
      refine wpAny_mono (hg _ _ _ _ _ own' B.ndb _ s7 _ H7 y u _ I7' r7 (gok _ _ _ _ (step y H7 y7))) (fun _ s8 ⟨σ8,H8,I8,q8,l8,k8⟩=>?_) fun _ _ z=>z.elim
      have back:∀ {s9:Shared} {H9:Hp} {xs':List V},Inv (X.blkG scope zs ys s3.heap.objs.size fp s3 (upd H2 s2.heap.objs.size (.lst [])) (X.pn ++ pins)) ([] ++ xeq fp s7.heap) σ8 H9 s9→(∃ m',m' < n∧W (i + 1) m' xs' H9) →
          ∃ m,m < n∧∃ i xs H',Inv (X.blkG scope zs ys s3.heap.objs.size fp s3 (upd H2 s2.heap.objs.size (.lst [])) (X.pn ++ pins)) [] (blk0 σ fr zs.length) H' s9∧tn i s9.heap∧(∀ b ∈ fp,H' b = none)∧W i m xs H':=fun {s9 H9 xs'} I9 ⟨m',lt,w9⟩=>by
        refine ⟨m',lt,i + 1,xs',H9,I9.unpinned.weak l8.symm (fun j v e=>?_),T.keep _ _ _ st7 fun b hb o e=>(I9.pin (b,o) (List.mem_append_right _ (List.mem_append_right _ (xc6 hb e)))).1,fun b hb=>?_,w9⟩
        · by_cases lj:j < zs.length
          · unfold blk0 at e
            rw [List.getElem?_append_left (by rw [List.length_replicate]; exact lj),List.getElem?_replicate] at e
            split at e <;> cases e
          · rw [k8 j (by omega)]
            exact e
        obtain ⟨o,e,d⟩:=T.obj _ _ st7 b hb
        exact (I9.pin (b,o) (List.mem_append_right _ (List.mem_append_right _ (xc6 hb e)))).2.1
      refine wpAny_mono (hif _ _ _ _ _ _ s8 _ H8 _ I8 q8) (fun ok s9 ⟨H9,I9,q9⟩=>?_) fun _ _ z=>z.elim
      cases ok with
      | false =>
        rw [if_neg (by decide)] at q9 ⊢
        exact back I9 q9
      | true =>
        rw [if_pos rfl] at q9 ⊢
        refine wpAny_mono (he _ _ _ _ _ _ s9 _ H9 _ I9 q9) (fun ev s10 ⟨yv,H10,I10,r10,hl,len,w10⟩=>?_) fun _ _ z=>z.elim
        refine wpAny_mono (xcw (X:=X.blkG scope zs ys s3.heap.objs.size fp s3 (upd H2 s2.heap.objs.size (.lst [])) (X.pn ++ pins)) _ s10 _ H10 (.ref s2.heap.objs.size) [yv] (.ref s2.heap.objs.size) [ev] (fun v H'=>H' = upd H10 s2.heap.objs.size (.lst (xs ++ [yv]))) I10 rfl (.cons r10 .nil) ⟨_,xs,yv,rfl,rfl,hl,len,rfl⟩)
          (fun _ s11 ⟨_,H11,I11,_,e11⟩=>?_) fun _ _ z=>z.elim
        subst e11
        exact back I11 w10
  exact codeAny_compStart_list (loop _ rfl) (T.self _ 0 _ _ _ st4 (loop _ rfl))
theorem xdm (hc:X.calm = true) (B:BlkG X scope zs ys fr) (hi:PI X tg iter wi) (hg:∀ C ex s H pn,(∀ x ∈ zs,(relabel scope X.env).names.lookup x = some .local)→(zs ++ ys).Nodup→PG (X.blkG scope zs ys C ex s H pn) tg g) (gok:GOk zs.length g) (hif:∀ C ex s H pn,PIf (X.blkG scope zs ys C ex s H pn) ifs tc) (he:∀ C ex s H pn,PE (X.blkG scope zs ys C ex s H pn) elt te)
    (hs:∀ x,foldedSetIterable iter X.env x = pure x:=by intro _; rfl):PE X (.ListComp elt [⟨tg,iter,ifs,0⟩] scope pos) (xhj wi zs.length g fr tc te):=by
  intro pins s σ H Q I h
  rw [eval_ListComp]
  refine wpAny_comprehension_free (use:=none) rfl hs (xkc (B.cells I)) B.kind B.names (xfp hc B hi hg gok hif he I h fun C l H' s' m _ _ hm iv q=>?_)
  exact ⟨m,hm,fun h2 sb=>⟨.ref l,H',iv h2 sb,rfl,q⟩⟩
theorem xdl {j:Nat} {y:Str} {py spos:Pos} (hc:X.calm = true) (B:BlkG X scope zs ys fr) (hi:PI X tg iter wi) (hg:∀ C ex s H pn,(∀ x ∈ zs,(relabel scope X.env).names.lookup x = some .local)→(zs ++ ys).Nodup→PG (X.blkG scope zs ys C ex s H pn) tg g) (gok:GOk zs.length g) (hif:∀ C ex s H pn,PIf (X.blkG scope zs ys C ex s H pn) ifs tc) (he:∀ C ex s H pn,PE (X.blkG scope zs ys C ex s H pn) elt te)
    (hj:X.N[j]? = some y) (hy:Loc X.env.scope y) (hf:X.fn y = true∨X.env.scope.names.lookup y = some .local:=by first | exact .inl rfl | exact .inr rfl | assumption)
    (hsw:swapsWith (.ListComp elt [⟨tg,iter,ifs,0⟩] scope pos) (some (.Name y py)) spos.line X.env = pure true:=by rfl)
    (hs:∀ x,foldedSetIterable iter X.env x = pure x:=by intro _; rfl):PS X (.Assign [.Name y py] (.ListComp elt [⟨tg,iter,ifs,0⟩] scope pos) spos) (tAsg (xhj wi zs.length g fr tc te) (xev j)):=by
  intro pins s σ H D I h
  rw [exec_Assign_Name_used _ _ _ _ hsw]
  refine wpAny_bind (wpAny_standAt (wpAny_bind ?_))
  show wpAny _ _ (do let _ ← comprehension (.ListComp elt [⟨tg,iter,ifs,0⟩] scope pos) scope X.env _ (newList []) false (eval iter X.env) (some (assign (.Name y py) X.env))) _ _ s
  refine wpAny_bind (wpAny_mono (wpAny_comprehension_free (use:=some (assign (.Name y py) X.env)) (Q:=fun _ s'=>SP X pins D .next s') rfl hs (xkc (B.cells I)) B.kind B.names
    (xfp hc B hi hg gok hif he I h fun C l H' s' m hC hn hm iv q=>?_)) (fun _ s' z=>wpAny_pure (wpAny_pure z)) fun _ _ e=>e)
  show wpAny _ _ (assign (.Name y py) X.env (.ref l)) _ _ _
  have J:Inv X pins σ H' s':=iv s'.heap (.refl ..)
  refine wpAny_assign_Name (xgo (v:=V.ref l) J B.nd hj hy rfl (fun s2 J2 ⟨a,sb,ha⟩=>?_) hf)
  have na:a≠C:=by
    rcases ha with z | z
    · rw [z]; exact Ne.symm hC.2.1
    · exact hC.2.2.1 _ _ z
  refine ⟨m,?_,fun h2 s3=>?_⟩
  · obtain ⟨o,es,ep,g,r⟩:=hm
    exact ⟨o,es,ep,(sb.2 C (Ne.symm na)).trans g,r⟩
  · exact ⟨_,H',J2.turned (t':=s2.toks) (fun b o nb g=>(s3.2 b nb).trans g) hn (hC.2.1) (.inr hC.1) hC.2.2.1 hC.2.2.2,q⟩
end
def xjx (scope sc0:Scope) (N0:List Str) (zs:List Str) (ys:List Str) (fr:List Nat):Bool :=
  scope.kind == .function && zs.all (fun x=>scope.names.lookup x == some .local) && scope.names.all (fun y=>y.2 != .cell) && scope.names.all (fun y=>y.2 != .local || scope.names.lookup y.1 == some .local) &&
  (xcf scope).all (fun n=>sc0.names.lookup n == some .cell) && fr.map (fun i=>N0[i]?) == ys.map some && ys.all (fun y=>scope.names.lookup y == some .free) && decide N0.Nodup && decide (zs ++ ys).Nodup
theorem xby {X:Cx} {scope sc0:Scope} {N0:List Str} {zs:List Str} {ys:List Str} {fr:List Nat} (chk:xjx scope sc0 N0 zs ys fr = true) (es:X.env.scope = sc0) (eN:X.N = N0) (st:X.stack = X.env :: X.outer):BlkG X scope zs ys fr:=by
  unfold xjx at chk
  simp only [Bool.and_eq_true,beq_iff_eq,List.all_eq_true,decide_eq_true_eq] at chk
  obtain ⟨⟨⟨⟨⟨⟨⟨⟨a1,a2⟩,a3⟩,a4⟩,a5⟩,a6⟩,a7⟩,a8⟩,a9⟩:=chk
  have nc:∀ y ∈ scope.names,y.2≠.cell:=fun y hy=>by simpa using a3 y hy
  refine ⟨a1,a2,nc,fun y hy hl=>?_,fun n hn=>by rw [es]; exact a5 n hn,fun n h=>xk2 nc n h,by rw [eN]; exact a6,fun y hy=>?_,fun y hy=>xi3 (a7 y hy),st,by rw [eN]; exact a8,a9⟩
  · have z:=a4 y hy
    rw [hl] at z
    simpa using z
  · exact List.mem_map.mpr ⟨(y,.free),List.mem_filter.mpr ⟨PySem.mem_of_lookup (a7 y hy),by simp⟩,rfl⟩
theorem xis {K:PySem.W.Frag} {m n:Nat} {t:TGs} (h:∀ vs σ H Q,t vs σ H Q→t vs σ H (fun σ' H'=>Q σ' H'∧σ'.length = σ.length∧∀ i,n≤i→σ'[i]? = σ[i]?)):GOk n (gTup K m t):=fun v σ H Q q=>by
  obtain ⟨a,xs,e,hs,hl,q⟩:=q
  exact ⟨a,xs,e,hs,hl,h _ _ _ _ q⟩
theorem xhs {n:Nat}:∀ vs σ H Q,gNil vs σ H Q→gNil vs σ H (fun σ' H'=>Q σ' H'∧σ'.length = σ.length∧∀ i,n≤i→σ'[i]? = σ[i]?):=fun vs σ H Q q=>⟨q.1,q.2,rfl,fun _ _=>rfl⟩
theorem xds {i n:Nat} (hi:i < n) {t:TGs} (h:∀ vs σ H Q,t vs σ H Q→t vs σ H (fun σ' H'=>Q σ' H'∧σ'.length = σ.length∧∀ i,n≤i→σ'[i]? = σ[i]?)) :
    ∀ vs σ H Q,xjb (xev i) t vs σ H Q→xjb (xev i) t vs σ H (fun σ' H'=>Q σ' H'∧σ'.length = σ.length∧∀ i,n≤i→σ'[i]? = σ[i]?):=fun vs σ H Q q=>by
  obtain ⟨v,r,e,q⟩:=q
  refine ⟨v,r,e,?_⟩
  have z:=h _ _ _ _ q
  have e2:∀ (j:Nat),n≤j→(σ.set i (some v))[j]? = σ[j]?:=fun j hj=>by rw [List.getElem?_set_ne (by omega)]
  have e1:(σ.set i (some v)).length = σ.length:=by simp
  have key:(fun σ' H'=>Q σ' H'∧σ'.length = (σ.set i (some v)).length∧∀ j,n≤j→σ'[j]? = (σ.set i (some v))[j]?) = (fun σ' (H':Hp)=>Q σ' H'∧σ'.length = σ.length∧∀ j,n≤j→σ'[j]? = σ[j]?):=by
    funext σ' H'
    rw [e1]
    refine propext ⟨fun ⟨a,b,c⟩=>⟨a,b,fun j hj=>(c j hj).trans (e2 j hj)⟩,fun ⟨a,b,c⟩=>⟨a,b,fun j hj=>(c j hj).trans (e2 j hj).symm⟩⟩
  rw [key] at z
  exact z
theorem xea {J:It} {n:Nat} {g:TG} {σ:St} {fr:List Nat} {tc:TT} {te:TE} {l:Addr} {H1:Hp} {Q:VK} (len:Nat) (Pv:Nat→List V→Hp→Prop) (h0:Pv 0 [] (upd H1 l (.lst []))) (hgo:∀ i xs H,i < len→Pv i xs H→J.go i H)
    (step:∀ i xs H2 v H3,i < len→Pv i xs H2→J.yld i H2 v H3→∀ N:List V→Hp→Prop,(∀ xs' H',Pv (i + 1) xs' H'→N xs' H')→g v (blk0 σ fr n) H3 fun σ' H3'=>tc σ' H3' fun b H4=>if b = true then
      (te σ' H4 fun y H5=>H5 l = some (.lst xs)∧xs.length < sizeLine∧N (xs ++ [y]) (upd H5 l (.lst (xs ++ [y])))) else N xs H4)
    (fin:∀ xs H2,Pv len xs H2→J.stop len H2∧Q (.ref l) H2):xe3 J n g σ fr tc te l H1 Q:=by
  refine ⟨fun i m xs H=>m = len - i∧i≤len∧Pv i xs H,⟨len,by simp,Nat.zero_le _,h0⟩,?_⟩
  rintro i m xs H2 ⟨rfl,hi,p⟩
  by_cases lt:i < len
  · exact .inr ⟨hgo i xs H2 lt p,fun v H3 y=>step i xs H2 v H3 lt p y (fun xs' H'=>∃ m',m' < len - i∧m' = len - (i + 1)∧i + 1≤len∧Pv (i + 1) xs' H') fun xs' H' q=>⟨_,by omega,rfl,lt,q⟩⟩
  · have e:i = len:=by omega
    subst e
    exact .inl (fin xs H2 p)
end L2
set_option maxRecDepth 100000
namespace L2
open PySem PySem.Spec PyProof.Rows XL
variable {q0:Bool}
section
variable {X:Cx} {pins:List (Addr × Obj)} {σ:St} {H:Hp} {s:Shared}
theorem Inv.adopt {p:Addr} {o:HO} (I:Inv X pins σ H s) (n:H p = none) (h0:X.s₀.heap.objs.size≤p) (hL:p≠X.env.locals) (hC:∀ x c,X.env.cells.lookup x = some c→c≠p) (hp:∀ q ∈ X.pn ++ pins,q.1≠p)
    (new:xa3 X.prog X.w (upd H p o) s.heap p o):Inv X pins σ (upd H p o) s:=by
  have ne:∀ b u,H b = some u→b≠p:=fun b u e=>xp e n
  refine ⟨I.ok,I.os,I.bare,⟨I.base.keep,I.base.slot,fun b ob e hn hx=>?_,I.base.there,fun b xs e=>?_,fun b ob u e=>?_,fun b ps e=>?_⟩,I.loc,I.cell,?_,fun x c e=>?_,fun q hq=>?_,fun b u e=>?_,I.len⟩
  · rw [xm (Nat.ne_of_lt (Nat.lt_of_lt_of_le (Heap.lt_size e) h0))]
    exact I.base.free b ob e hn hx
  · have z:=I.base.tups b xs e
    rw [xm (ne b _ z)]
    exact z
  · have z:=I.base.frzs b ob u e
    rw [xm (ne b _ z)]
    exact z
  · obtain ⟨m,z⟩:=I.base.tbls b ps e
    exact ⟨m,by rw [xm (ne b _ z)]; exact z⟩
  · rw [xm (Ne.symm hL)]
    exact I.free
  · rw [xm (hC x c e)]
    exact I.freeC x c e
  · obtain ⟨a1,a2,a3⟩:=I.pin q hq
    exact ⟨a1,by rw [xm (hp q hq)]; exact a2,a3⟩
  · by_cases hb:b = p
    · subst hb
      rw [xg] at e
      cases e
      exact new
    · rw [xm hb] at e
      exact (I.hok b u e).stay (fun c v _ q=>q) (fun c q=>by rw [xm (ne c _ q)]; exact q) fun c xs q=>by rw [xm (ne c _ q)]; exact q
theorem Inv.thaw {d:Addr} {o:Obj} {u:HO} (I:Inv X pins σ H s) (e:H d = some (.frz o u)) (nf:∀ o' u',X.H₀ d≠some (.frz o' u')):Inv X pins σ (upd H d u) s:=by
  have ne:∀ b v,H b = some v→(∀ o' u',v≠.frz o' u')→b≠d:=fun b v h1 h2 z=>by
    subst z
    rw [e] at h1
    cases h1
    exact h2 _ _ rfl
  have ne0:∀ b,H b = none→b≠d:=fun b h1 z=>by
    subst z
    rw [e] at h1
    cases h1
  refine ⟨I.ok,I.os,I.bare,⟨I.base.keep,I.base.slot,fun b ob q hn hx=>?_,I.base.there,fun b xs q=>?_,fun b ob v q=>?_,fun b ps q=>?_⟩,I.loc,I.cell,?_,fun x c q=>?_,fun p hp=>?_,fun b v q=>?_,I.len⟩
  · have z:=I.base.free b ob q hn hx
    rw [xm (ne0 b z)]
    exact z
  · have z:=I.base.tups b xs q
    rw [xm (ne b _ z (fun _ _ h=>nomatch h))]
    exact z
  · have z:=I.base.frzs b ob v q
    have hb:b≠d:=fun w=>by
      subst w
      exact nf _ _ q
    rw [xm hb]
    exact z
  · obtain ⟨m,z⟩:=I.base.tbls b ps q
    exact ⟨m,by rw [xm (ne b _ z (fun _ _ h=>nomatch h))]; exact z⟩
  · rw [xm (ne0 _ I.free)]
    exact I.free
  · rw [xm (ne0 _ (I.freeC x c q))]
    exact I.freeC x c q
  · obtain ⟨a1,a2,a3⟩:=I.pin p hp
    exact ⟨a1,by rw [xm (ne0 _ a2)]; exact a2,a3⟩
  · have st:∀ (a:Addr) (v:HO),xa3 X.prog X.w H s.heap a v→xa3 X.prog X.w (upd H d u) s.heap a v:=fun a v k =>
      k.stay (fun c v _ q=>q) (fun c q=>by rw [xm (ne c _ q (fun _ _ h=>nomatch h))]; exact q) fun c xs q=>by rw [xm (ne c _ q (fun _ _ h=>nomatch h))]; exact q
    by_cases hb:b = d
    · subst hb
      rw [xg] at q
      cases q
      obtain ⟨g,ok⟩:=I.hok b _ e
      exact st _ _ ok
    · rw [xm hb] at q
      exact st _ _ (I.hok b v q)
theorem Inv.nofrz {d:Addr} {kvs:List (Key × V)} (I:Inv X pins σ H s) (e:H d = some (.dK kvs)):∀ o' u',X.H₀ d≠some (.frz o' u'):=fun o' u' z=>by
  have q:=I.base.frzs d o' u' z
  rw [e] at q
  cases q
theorem KV.get:∀ {kvs:List (Key × V)} {vs:List (Key × Value)} {i:Nat} {k:Key} {x:V},KV kvs vs→kvs[i]? = some (k,x)→∃ u,vs[i]? = some (k,u)∧RelV x u
  | _,_,_,_,_,.nil,e=>by simp at e
  | _,(_,_) :: _,0,_,_,.cons r _,e=>by
    simp at e
    subst e
    obtain ⟨r1,r2⟩:=r
    dsimp only at r1 r2
    subst r1
    exact ⟨_,rfl,r2⟩
  | _,_,i + 1,k,x,.cons _ t,e=>by
    obtain ⟨u,h1,h2⟩:=KV.get (i:=i) (k:=k) (x:=x) t (by simpa using e)
    exact ⟨u,by simpa using h1,h2⟩
theorem xo2 {P:Program} {w:World} {k:Key} {u:Value} (h:(xa5 P w).is k u = true):RelV (kV k) u:=by
  rcases xbc (show xec k u = true from h) with ⟨i,t,rfl,rfl⟩ | ⟨x,t,rfl,rfl⟩
  · exact ⟨t,rfl⟩
  · exact ⟨t,rfl⟩
theorem xkq {d:Addr} {o:Obj} {kvs:List (Key × V)} {ep:Nat} (I:Inv X pins σ H s) (e:H d = some (.frz o (.dK kvs))) (hep:∃ es,o.data = .dict es ep):∃ vs,KV kvs vs∧s.heap.DictAt (xa5 X.prog X.w) d vs ep:=by
  obtain ⟨g,_,_,vs,rel,o',es',ep',g',ex,hdat,hk,hp,hn⟩:=I.hok d _ e
  rw [g] at g'
  cases g'
  obtain ⟨es,he⟩:=hep
  rw [he] at hdat
  cases hdat
  exact ⟨vs,rel,o,_,g,ex,he,hk,hp,hn⟩
end
def Iti (d:Addr) (o:Obj) (kvs:List (Key × V)):It :=
  ⟨fun i H=>H d = some (.frz o (.dK kvs))∧i < kvs.length,fun i H v H'=>∃ p k x,kvs[i]? = some (k,x)∧v = .ref p∧H p = none∧H' = upd H p (.tup [kV k,x]),fun i H=>H d = some (.frz o (.dK kvs))∧kvs.length≤i⟩
theorem xjl {P:Program} {w:World} {K:PySem.W.Frag} {elts:List Expr} {x1} {tpos:Pos} (d it:Addr) (o:Obj) (kvs:List (Key × V)) (ep:Nat) (hep:∃ es,o.data = .dict es ep) :
    Turn P w K (.Tuple elts x1 tpos) (Iti d o kvs) [it] it (fun i h=>∃ ok ov,IsItemIter h it d i kvs.length ep ok ov) where
  mem:=by simp
  obj:=fun i h st b hb=>by
    have e:b = it:=by simpa using hb
    subst e
    obtain ⟨ok,ov,st⟩:=st
    exact ⟨_,st,fun v z=>by
      have z':Data.fields _ = Data.cell v:=z
      cases z'⟩
  keep:=fun i h h' ⟨ok,ov,st⟩ k=>⟨ok,ov,k it (by simp) _ st⟩
  item:=by
    intro X hP hw hK hc i pins s σ H E I hf st hg
    subst hP hw hK
    obtain ⟨ok,ov,st⟩:=st
    obtain ⟨e,lt⟩:=hg
    obtain ⟨vs,rel,da⟩:=xkq I e hep
    obtain ⟨f0,f1,f2,f3,f4,f5⟩:=hf it (by simp)
    have hl:kvs.length = vs.length:=rel.length
    obtain ⟨⟨k,x⟩,q⟩:∃ y,kvs[i] = y:=⟨_,rfl⟩
    have hx:kvs[i]? = some (k,x):=by rw [List.getElem?_eq_getElem lt,q]
    obtain ⟨u,hv,ru⟩:=rel.get hx
    rw [hl] at st
    refine wpAny_pyNext_items_item st da hv fun key h' hkey hout ht hz hkp=>?_
    refine ⟨_,rfl,wpAny_letOwnedTupleGo_items hout fun h'' hit' hsb=>?_⟩
    have kk:∀ b o,b≠it→s.heap.get? b = some o→h''.get? b = some o:=fun b o hb g=>(hsb.2 b hb).trans (hkp b o hb g)
    have I1:Inv X pins σ H { s with heap:=h'' }:=I.turned (t':=s.toks) kk f0 f1 f3 f4 f5
    obtain ⟨n0,nL,nC,nP⟩:=I.size_lt (Nat.le_refl s.heap.objs.size)
    have itlt:it < s.heap.objs.size:=Heap.lt_size st
    have pne:s.heap.objs.size≠it:=Nat.ne_of_gt itlt
    have hp:h''.get? s.heap.objs.size = some { cls:=.type "tuple",data:=.seq #[key,u] }:=(hsb.2 _ pne).trans ht
    refine ⟨.ref s.heap.objs.size,upd H s.heap.objs.size (.tup [kV k,x]),I1.adopt n0 I.sz nL nC nP ⟨by show 2≤sizeLine; decide,[key,u],.cons (xo2 hkey) (.cons ru .nil),_,hp,rfl,_,rfl⟩,rfl,⟨_,k,x,hx,rfl,n0,rfl⟩,?_,fun b hb=>?_⟩
    · rw [← hl] at hit'
      exact ⟨_,_,hit'⟩
    · have e:b = it:=by simpa using hb
      subst e
      rw [xm (Ne.symm pne)]
      exact f0
  done:=by
    intro X hP hw hK hc i pins s σ H E I hf st hg
    subst hP hw hK
    obtain ⟨ok,ov,st⟩:=st
    obtain ⟨e,le⟩:=hg
    obtain ⟨vs,rel,da⟩:=xkq I e hep
    obtain ⟨f0,f1,f2,f3,f4,f5⟩:=hf it (by simp)
    have hl:kvs.length = vs.length:=rel.length
    rw [hl] at st
    exact wpAny_pyNext_items_end (I.ok.hd hc) st da (by simpa using (by omega:vs.length≤i)) fun h' eb=>⟨rfl,I.turned (t':=s.toks) (fun b o hb e=>eb b o hb e) f0 f1 f3 f4 f5⟩
  self:=fun _ _ _ _ _ ⟨ok,ov,st⟩ h=>PySem.W.kcp_self st h
def xof (X:Cx) (to:TE):TI:=fun σ H R=>to σ H fun x H1=>∃ d kvs,x = .ref d∧H1 d = some (.dK kvs)∧∀ ob,(∀ o' u',X.H₀ d≠some (.frz o' u'))→R (Iti d ob kvs) (upd H1 d (.frz ob (.dK kvs)))
section
variable {X:Cx} {o:Expr} {to:TE} {elts:List Expr} {x1:_} {tpos apos cpos:Pos}
theorem xlw (ho:PE X o to) (hbase:attributeBase o "items" X.env (eval o X.env) = eval o X.env:=by rfl) (hline:(apos.endLine == cpos.line) = true:=by rfl) :
    PI X (.Tuple elts x1 tpos) (.Call (.Attribute o "items" apos) [] [] cpos) (xof X to):=by
  intro pins s σ H R I h
  refine wpAny_Call_method0_late hbase hline (thn (ho pins s σ H _ I h) fun v s1 ⟨x,H1,I1,r1,q1⟩=>?_)
  obtain ⟨d,kvs,e1,e,q⟩:=q1
  subst e1
  cases r1
  obtain ⟨z,hd,vs,rel,dd⟩:=xmf I1.hok e
  obtain ⟨ob,es,ep,g,ex,hdat,hk,hp,hn⟩:=id dd
  refine ⟨"dict", "dict.items",PySem.F.plainAttrs_dict,PySem.F.slot_dict_items,PySem.F.type_dict_items,dd.typeIs,fun a e2=>?_,Calls.callWith_builtin rfl (PySem.evalArgs_none ?_)⟩
  · cases e2
    exact ⟨ob,g,ex.2.1⟩
  refine call_meetsIn PySem.F.slot_dict_items dd.typeIs PySem.F.entry_dict_items (PySem.F.args_dict_items_1 _) (meets_dict_items (xa5 X.prog X.w) d hd) ⟨⟨vs,dd⟩,?_⟩
  have da:(s1.heap.push { cls:=.type "dict_items",data:=.fields #[.ref d] }).DictAt (xa5 X.prog X.w) d vs ep:=⟨ob,es,Heap.get?_push_of_some _ g,ex,hdat,hk,hp,hn⟩
  refine wpAny_pyIter_items (s:={ s1 with heap:=s1.heap.push { cls:=.type "dict_items",data:=.fields #[.ref d] } }) ⟨_,Heap.get?_push_size _ rfl,rfl,rfl⟩ da ?_
  have I2:Inv X pins σ H1 { s1 with heap:=s1.heap.push { cls:=.type "dict_items",data:=.fields #[.ref d] } }:=I1.kept (t':=s1.toks) fun b o e=>Heap.get?_push_of_some _ e
  generalize hs2:({ s1 with heap:=s1.heap.push { cls:=.type "dict_items",data:=.fields #[.ref d] } }:Shared) = s2 at I2
  have g2:s2.heap.get? d = some ob:=by rw [← hs2]; exact Heap.get?_push_of_some _ g
  have I3:Inv X pins σ (upd H1 d (.frz ob (.dK kvs))) s2:=I2.write (t':=s2.toks) (x:=d) (e:=d) (by rw [e]; exact True.intro) (.inl rfl) (fun b u _ q=>q) ⟨ob,g2⟩ ⟨g2,I2.hok d _ e⟩
  have I4:Inv X pins σ (upd H1 d (.frz ob (.dK kvs))) { s2 with heap:=s2.heap.push { cls:=.type "dict_itemiterator",data:=.fields #[.none,.bool false,.ref d,.int 0 0,.int vs.length 0,.int ep 0,.none,.none] } } :=
    I3.kept (t':=s2.toks) fun b o e=>Heap.get?_push_of_some _ e
  have fin:PIE X pins σ (.Tuple elts x1 tpos) R (.ref s2.heap.objs.size) { s2 with heap:=s2.heap.push { cls:=.type "dict_itemiterator",data:=.fields #[.none,.bool false,.ref d,.int 0 0,.int vs.length 0,.int ep 0,.none,.none] } }:=by
    refine ⟨s2.heap.objs.size,[s2.heap.objs.size],_,_,upd H1 d (.frz ob (.dK kvs)),rfl,I4,xjl d _ ob kvs ep ⟨es,hdat⟩,⟨.none,.none,?_⟩,fun b hb=>?_,q ob (I1.nofrz e)⟩
    · have hl:kvs.length = vs.length:=rel.length
      show IsItemIter _ _ d 0 kvs.length ep .none .none
      rw [hl]
      exact Heap.get?_push_size _ rfl
    · have eb:b = s2.heap.objs.size:=by simpa using hb
      subst eb
      exact I3.fpOk (Nat.le_refl _) (I3.hok.fresh (Nat.le_refl _))
  exact fin
theorem xlp {pins:List (Addr × Obj)} {σ:St} {Q:VK} {u:Value} {s:Shared} (h:EP X pins σ (fun v H2=>∃ d ob u,H2 d = some (.frz ob u)∧(∀ o' u',X.H₀ d≠some (.frz o' u'))∧Q v (upd H2 d u)) u s):EP X pins σ Q u s:=by
  obtain ⟨v,H2,I2,r2,d,ob,u',e,nf,q⟩:=h
  exact ⟨v,_,I2.thaw e nf,r2,q⟩
theorem xnj {e:Expr} {t:TE} (h:PE X e t):PE X e (fun σ H Q=>t σ H fun v H2=>∃ d ob u,H2 d = some (.frz ob u)∧(∀ o' u',X.H₀ d≠some (.frz o' u'))∧Q v (upd H2 d u)):=fun pins s σ H Q I q =>
  thn (h pins s σ H _ I q) fun _ _ z=>xlp z
end
end L2
set_option maxRecDepth 100000
namespace PySem.F
end PySem.F
namespace L2
open PySem PySem.Spec PyProof.Rows XL
variable {q0:Bool}
section
variable {X:Cx} {pins:List (Addr × Obj)} {σ:St} {H:Hp} {s:Shared} {a:Addr} {y v:V} {u r:Value} {A:Around} {E:Value→Shared→Prop}
end
end L2
set_option maxRecDepth 100000
namespace L2
open PySem PySem.Spec PyProof.Rows XL
variable {q0:Bool}
theorem xo3 {X:Cx} {e:Expr} {t1 t2:TE} (h1:PE X e t1) (h2:PE X e t2):PE X e (fun σ H Q=>t1 σ H Q∨t2 σ H Q):=fun pins s σ H Q I h=>h.elim (h1 pins s σ H Q I) (h2 pins s σ H Q I)
section
variable {X:Cx} {tg:Expr}
end
theorem xd0 {xs:List V} {us:List Value} (r:Vals xs us) {j:Nat} (h:j < us.toArray.size):∃ x,xs[j]? = some x∧RelV x us.toArray[j]:=by
  have hl:=r.length
  have hj:j < xs.length:=by simp at h; omega
  obtain ⟨u,h1,h2⟩:=r.get (x:=xs[j]) (List.getElem?_eq_getElem hj)
  refine ⟨xs[j],List.getElem?_eq_getElem hj,?_⟩
  have:us.toArray[j] = u:=by
    have z:=List.getElem?_eq_some_iff.mp h1
    obtain ⟨z1,z2⟩:=z
    simpa using z2
  rw [this]
  exact h2
section
variable {X:Cx} {pins:List (Addr × Obj)} {σ:St} {H:Hp} {s:Shared}
end
theorem xa4 {A:Around} {k:Nat} (hr:Room q0 k A):A.units + 20 < cLine:=by have:=hr.un; omega
theorem xk5 {X:Cx}:xb6 X (.builtin "len") (fun xs H Q=>∃ a kvs,xs = [.ref a]∧H a = some (.dK kvs)∧Q (.int kvs.length) H):=by
  intro pins s σ H xs us Q I r h
  obtain ⟨a,kvs,rfl,e,q⟩:=h
  obtain ⟨u,rfl,rx⟩:=xc7 r
  obtain rfl:u = Value.ref a:=rx
  exact xo4 I (.inl e) fun t s' I'=>⟨.int _,H,I',⟨t,rfl⟩,q⟩
inductive Ents (w:World):List DictEntry→List (Key × V)→Prop
  | nil:Ents w [] []
  | cons {k:Key} {x:V} {key val:Value} {h:Int} {es:List DictEntry} {kvs:List (Key × V)} (hh:h = keyH w k) (hk:RelV (kV k) key) (hv:RelV x val) (r:Ents w es kvs):Ents w (⟨h,key,val⟩ :: es) ((k,x) :: kvs)
def xjg (w:World) (K:PySem.W.Frag) (D:Addr) (kvs:List (Key × V)):Prop:=(D == sysModules) = false∧∃ (es:Array DictEntry) (ep:Nat),K.lookup D = some ⟨.type "dict",none,.dict es ep,#[]⟩∧Ents w es.toList kvs∧(kvs.map (·.1)).Nodup
theorem Ents.ok {P:Program} {w:World} {es:List DictEntry} {kvs:List (Key × V)} (h:Ents w es kvs):∃ vs,KV kvs vs∧Pairs (xa5 P w) es vs∧∀ e ∈ es,∃ k,(xa5 P w).is k e.key = true∧e.hash = (xa5 P w).hash k:=by
  induction h with
  | nil=>exact ⟨[],.nil,.nil,fun e z=>nomatch z⟩
  | @cons k x key val h es kvs hh hk hv _ ih =>
    obtain ⟨vs,a,b,c⟩:=ih
    refine ⟨(k,val) :: vs,.cons ⟨rfl,hv⟩ a,.cons (xdp hk) rfl b,fun e he=>?_⟩
    rcases List.mem_cons.mp he with rfl | z
    · exact ⟨k,xdp hk,hh⟩
    · exact c e z
section
variable {X:Cx} {pins:List (Addr × Obj)} {σ:St} {H:Hp} {s:Shared} {D:Addr} {kvs:List (Key × V)}
theorem xlz (I:Inv X pins σ H s) (g:xjg X.w X.K D kvs):∃ vs,KV kvs vs∧s.heap.DictOf (xa5 X.prog X.w) D vs:=by
  obtain ⟨_,es,ep,l,en,nd⟩:=g
  obtain ⟨vs,a,b,c⟩:=en.ok (P:=X.prog)
  refine ⟨vs,a,_,es,ep,I.kIn _ _ l,⟨rfl,rfl,rfl⟩,rfl,fun e he=>c e (by simpa using he),b,?_⟩
  rw [← a.keys]
  exact nd
def tGIn (kvs:List (Key × V)) (neg:Bool) (ty:TE):TE:=fun σ H Q=>ty σ H fun y H1=>∃ k:Key,y = kV k∧Q (.bl (if neg then !(valV kvs k).isSome else (valV kvs k).isSome)) H1
theorem xky {i:Expr} {ty:TE} {x:Str} {p:Pos} (hi:PE X i ty) (hg:Gl X x) (hm:X.mg x = some (.ref D)) (g:xjg X.w X.K D kvs) (hd:(x == ("__debug__":Str)) = false:=by decide):PC X .NotIn i (.Name x p) (tGIn kvs true ty):=by
  intro pins s σ H Q I h
  refine thn (hi pins s σ H _ I h) fun iv s1 ⟨y,H1,I1,ry,k,ey,q1⟩=>thn (xaz (v:=.ref D) hg hm rfl hd pins s1 σ H1 (fun v H2=>v = .ref D∧H2 = H1) I1 ⟨rfl,rfl⟩) fun u s2 ⟨x,H2,I2,rx,e1,e2⟩=>?_
  subst ey e1 e2
  obtain rfl:u = Value.ref D:=rx
  obtain ⟨vs,rel,dd⟩:=xlz I2 g
  refine wpAny_notIn_of (xdp ry) g.1 dd.mapOf ?_
  rw [← (rel.val k).isSome_eq]
  exact ⟨.bl _,_,I2.tok _,rfl,q1⟩
end
end L2
set_option maxRecDepth 100000
namespace L2
open PySem PySem.Spec PyProof.Rows XL
variable {q0:Bool}
end L2
set_option maxRecDepth 100000
namespace L2
open PySem PySem.Spec PyProof.Rows XL
variable {q0:Bool}
section
variable {X:Cx} {pins:List (Addr × Obj)} {σ:St} {H:Hp} {s:Shared} {h':Heap}
theorem Inv.turnedL {t':Nat} {ch:List Addr} (I:Inv X pins σ H s) (k:∀ b o,b ∉ ch→s.heap.get? b = some o→h'.get? b = some o) (hf:∀ b ∈ ch,FpOk X pins H b):Inv X pins σ H { s with heap:=h',toks:=t' }:=by
  have nit:∀ b u,H b = some u→b ∉ ch:=fun b u e z=>by
    have:=(hf b z).1
    rw [this] at e
    cases e
  refine I.step (g':=s.gens) (d':=s.drawn) (ch:=ch) (fun b hb=>?_) (fun b o _ _ hc e _=>k b o hc e) (fun b o _ _ hc e _=>⟨o.slots,k b o hc e⟩) (fun _ _ _ _ n=>n)
    (fun b o hc e=>⟨o,k b o hc e⟩) (fun _ _ e=>e) (fun _ _ _ e=>e) (fun b ps e=>⟨#[],by rw [e]; simp⟩) (fun m hm=>?_) (fun b u e=>?_) I.bare
  · obtain ⟨f0,f1,f2,f3,f4,f5⟩:=hf b hb
    exact ⟨f3,f1,f4,f5⟩
  · obtain ⟨o,es,ep,ho,r⟩:=hm
    exact ⟨o,es,ep,k _ o (fun z=>(hf _ z).2.1 rfl) ho,r⟩
  · refine (I.hok b u e).stay (fun c v hc q=>k c v ?_ q) (fun _ q=>q) fun _ _ q=>q
    rcases hc with z | z
    · rw [z]; exact nit b u e
    · exact nit c _ z
end
section
variable {X:Cx} {tg:Expr}
end
theorem xny {a b:Nat} (h:a≠b):(a:Addr)≠(b:Addr):=h
section
variable {X:Cx} {elts:List Expr} {x1:_} {tpos:Pos}
end
end L2
set_option maxRecDepth 100000
namespace L2
open PySem PySem.Spec PyProof.Rows XL
variable {q0:Bool}
def Ite (K:PySem.W.Frag) (a:Addr):It :=
  ⟨fun i H=>∃ xs x,SqL K H a xs∧xs[i]? = some x,fun i H v H'=>∃ p x,(∀ xs,SqL K H a xs→xs[i]? = some x)∧v = .ref p∧H p = none∧H' = upd H p (.tup [.int i,x]),fun i H=>∃ xs,SqL K H a xs∧xs.length≤i⟩
theorem xj7 {P:Program} {w:World} {K:PySem.W.Frag} {elts:List Expr} {x1} {tpos:Pos} (e it l:Addr) (hei:e≠it) :
    Turn P w K (.Tuple elts x1 tpos) (Ite K l) [e,it] e (fun i h=>(∃ old,IsEnum h e it i old)∧h.IsListIter it l i) where
  mem:=by simp
  obj:=fun i h st b hb=>by
    obtain ⟨⟨old,he⟩,⟨o1,e1,c1,d1⟩⟩:=st
    simp only [List.mem_cons,List.not_mem_nil,or_false] at hb
    rcases hb with rfl | rfl
    · exact ⟨_,he,fun v k=>by have k':Data.fields _ = Data.cell v:=k; cases k'⟩
    · exact ⟨_,e1,fun v k=>by rw [d1] at k; cases k⟩
  keep:=fun i h h' ⟨⟨old,he⟩,h1⟩ k=>⟨⟨old,k e (by simp) _ he⟩,h1.at fun o z=>k it (by simp) o z⟩
  item:=by
    intro X hP hw hK hc i pins s σ H E I hf st hg
    subst hP hw hK
    obtain ⟨xs,x,hq,hx⟩:=hg
    obtain ⟨its,rv,p,hz1⟩:=I.list hq
    obtain ⟨u,hu,ru⟩:=rv.get hx
    obtain ⟨⟨old,he⟩,h1⟩:=id st
    refine wpAny_pyNext_enum_item he h1 p.isList (x:=u) (by simpa using hu) hei fun h' ho hit' hT hsz hk=>?_
    refine ⟨_,rfl,wpAny_letOwnedTupleGo_enum (s:={ s with heap:=h',toks:=s.toks + 1 }) ho fun h'' he' hs'=>?_⟩
    have elt:e < s.heap.objs.size:=Heap.lt_size he
    have pne:s.heap.objs.size≠e:=Nat.ne_of_gt elt
    have kk:∀ b o,b ∉ [e,it]→s.heap.get? b = some o→h''.get? b = some o:=fun b o hb g=>by
      simp only [List.mem_cons,List.not_mem_nil,or_false,not_or] at hb
      exact (hs'.2 b hb.1).trans (hk b o hb.1 hb.2 g)
    have I1:Inv X pins σ H { s with heap:=h'',toks:=s.toks + 1 }:=I.turnedL kk hf
    obtain ⟨n0,nL,nC,nP⟩:=I.size_lt (Nat.le_refl s.heap.objs.size)
    have hp:h''.get? s.heap.objs.size = some { cls:=.type "tuple",data:=.seq #[.int i s.toks,u] }:=(hs'.2 _ pne).trans hT
    refine ⟨.ref s.heap.objs.size,upd H s.heap.objs.size (.tup [.int i,x]),I1.adopt n0 I.sz nL nC nP ⟨by show 2≤sizeLine; decide,[.int i s.toks,u],.cons ⟨_,rfl⟩ (.cons ru .nil),_,hp,rfl,_,rfl⟩,rfl,
      ⟨_,x,fun zs hz=>by rw [I.list_inj hz hq]; exact hx,rfl,n0,rfl⟩,?_,fun b hb=>?_⟩
    · exact ⟨⟨_,by simpa using he'⟩,hit'.at fun o y=>(hs'.2 it (Ne.symm hei)).trans y⟩
    · obtain ⟨o,ho⟩:∃ o,s.heap.get? b = some o:=by
        obtain ⟨o1,e1,c1,d1⟩:=h1
        simp only [List.mem_cons,List.not_mem_nil,or_false] at hb
        rcases hb with rfl | rfl
        · exact ⟨_,he⟩
        · exact ⟨_,e1⟩
      rw [xm (Nat.ne_of_lt (Heap.lt_size ho))]
      exact (hf b hb).1
  done:=by
    intro X hP hw hK hc i pins s σ H E I hf st hg
    subst hP hw hK
    obtain ⟨xs,hq,hl⟩:=hg
    obtain ⟨its,rv,p,hz1⟩:=I.list hq
    have e1:=rv.length
    obtain ⟨⟨old,he⟩,h1⟩:=id st
    refine wpAny_pyNext_enum_end (I.ok.hd hc) he h1 p.isList (by simp; omega) fun h' hx=>⟨rfl,I.turnedL (t':=s.toks) (fun b o hb g=>?_) hf⟩
    simp only [List.mem_cons,List.not_mem_nil,or_false,not_or] at hb
    exact hx b o hb.2 g
  self:=fun _ _ _ _ _ ⟨⟨_,st⟩,_⟩ h=>wpAny_pyIter_enum st h
def xpb (K:PySem.W.Frag) (ta:TA):TI:=fun σ H R=>ta σ H fun vs H1=>∃ a xs,vs = [.ref a]∧SqL K H1 a xs∧R (Ite K a) H1
section
variable {X:Cx} {elts:List Expr} {x1:_} {tpos:Pos}
theorem xhz {a:Expr} {ta:TA} {p pos:Pos} (hg:Gl X "enumerate") (hm:X.mg "enumerate" = none) (ha:PA X [a] ta) (hs:starEach [a] X.env = [(false,eval a X.env)]:=by rfl) :
    PI X (.Tuple elts x1 tpos) (.Call (.Name "enumerate" p) [a] [] pos) (xpb X.K ta):=by
  intro pins s σ H R I h
  refine Call_ (xd2 I hg hm PyProof.Rows.Boot.«enumerate» (PyProof.Rows.callWith_type1 (thn (ha pos pins s σ H _ I h) fun us s1 ⟨vs,H1,I1,r1,q1⟩=>?_) hs rfl))
  obtain ⟨l,xs,e,hq,q⟩:=q1
  subst e
  obtain ⟨u,rfl,ru⟩:=xc7 r1
  obtain rfl:u = Value.ref l:=ru
  obtain ⟨its,rv,p1,hz1⟩:=I1.list hq
  refine call_enumerate_list p1.isList fun h' he h1 hsz hk=>?_
  refine wpAny_pyIter_enum (s:={ s1 with heap:=h' }) he ?_
  have I2:Inv X pins σ H1 { s1 with heap:=h' }:=I1.kept (t':=s1.toks) hk
  refine ⟨_,[s1.heap.objs.size + 1,s1.heap.objs.size],_,_,H1,rfl,I2,xj7 _ _ l (xny (by omega)),⟨⟨_,he⟩,h1⟩,fun b hb=>?_,q⟩
  have hb':s1.heap.objs.size≤b:=by
    simp only [List.mem_cons,List.not_mem_nil,or_false] at hb
    rcases hb with rfl | rfl
    · exact Nat.le_add_right _ 1
    · exact Nat.le_refl _
  exact I1.fpOk hb' (I1.hok.fresh hb')
end
theorem xls {K:PySem.W.Frag} {a:Addr} {xs:List V} {g:TG} {tb:TS} {D:Ends} {σ:St} {H:Hp} (Pv:Nat→St→Hp→Prop) (h0:Pv 0 σ H) (hl:∀ i σ H,i≤xs.length→Pv i σ H→SqL K H a xs)
    (hs:∀ i x p σ H,xs[i]? = some x→H p = none→Pv i σ H→g (.ref p) σ (upd H p (.tup [.int i,x])) fun σ2 H2=>tb { D with nx:=Pv (i + 1),ct:=Pv (i + 1),bk:=D.nx } σ2 H2) (hd:∀ σ H,Pv xs.length σ H→D.nx σ H) :
    ∃ W:Nat→Nat→St→Hp→Prop,(∃ m,W 0 m σ H)∧∀ i m σ H,W i m σ H →
      ((Ite K a).stop i H∧D.nx σ H)∨((Ite K a).go i H∧∃ N:St→Hp→Prop,(∀ σ' H',N σ' H'→∃ m',m' < m∧W (i + 1) m' σ' H')∧∀ x H',(Ite K a).yld i H x H'→g x σ H' fun σ2 H2=>tb { D with nx:=N,ct:=N,bk:=D.nx } σ2 H2):=by
  refine ⟨fun i m σ H=>m = xs.length - i∧i≤xs.length∧Pv i σ H,⟨xs.length,by simp,Nat.zero_le _,h0⟩,?_⟩
  rintro i m σ H ⟨rfl,hi,p⟩
  have q:=hl i σ H hi p
  by_cases hlt:i < xs.length
  · refine .inr ⟨⟨xs,xs[i],q,by simp [hlt]⟩,Pv (i + 1),fun σ' H' p'=>⟨xs.length - (i + 1),by omega,rfl,hlt,p'⟩,fun x H' y=>?_⟩
    obtain ⟨r,x',e1,rfl,hr,rfl⟩:=y
    exact hs i x' r σ H (e1 _ q) hr p
  · have e:i = xs.length:=by omega
    subst e
    exact .inl ⟨⟨xs,q,Nat.le_refl _⟩,hd σ H p⟩
end L2
namespace L2
open PySem PySem.Spec PyProof.Rows XL
end L2
set_option maxRecDepth 100000
namespace L2
open PySem PySem.Spec PyProof.Rows XL
def tMid (t:TS):TS:=fun D σ H=>∃ Pv:St→Hp→Prop,t { D with nx:=Pv } σ H∧∀ σ' H',Pv σ' H'→D.nx σ' H'
theorem xbf {X:Cx} {st:Stmt} {t:TS} (h:PS X st t):PS X st (tMid t):=by
  intro pins s σ H D I q
  obtain ⟨Pv,q1,q2⟩:=q
  refine thn (h pins s σ H { D with nx:=Pv } I q1) fun fl s1 z=>?_
  cases fl with
  | next =>
    obtain ⟨σ',H',I',r⟩:=z
    exact ⟨σ',H',I',q2 _ _ r⟩
  | _=>exact z
end L2
set_option maxRecDepth 100000
namespace XL
open PySem PySem.W
section
variable {prog:Program} {w:World} {A:Around} {E:Value→Shared→Prop} {h:Heap} {g:Array GenState} {d:Drawn} {t:Nat} {os:OsState}
variable {nm qn:Str} {C N:Addr} {bs bm bmB:List Value} {hz:Bool} {sn:List Str} {sub:List Value} {ab:Bool} {col:Option Bool} {dd:Option Addr} {k0 k1 k2 k3 k5:Option Value} {B ni ii:String}
end
end XL
namespace L2
open PySem PySem.Spec PyProof.Rows XL
variable {q0:Bool}
section
variable {X:Cx} {C:Addr} {x:Str} {p pos:Pos}
end
section
variable {X:Cx} {pos np hpos np1 np2 hpos1 hpos2:Pos} {body hbody hbody1 hbody2:List Stmt} {b0 b1 b2:Stmt} {cx cx1 cx2 n:Str} {C0 C1 C2:Addr} {j:Nat} {E:St→XK} {tb th th1 th2:TS} {rest:List ExceptHandler}
end
end L2
set_option maxRecDepth 100000
namespace L2
open PySem PySem.Spec PyProof.Rows XL
section
variable {X:Cx} {a b c d:Expr} {ta tb tc td:TE} {pos:Pos}
end
end L2
set_option maxRecDepth 100000
set_option maxHeartbeats 4000000
namespace L2
open PySem PySem.Calls PyProof PyProof.Rows
def eU (e:V→Bool) (u:Value):Bool:=match absV u with | some y=>e y | none=>false
theorem xe1 {e:V→Bool} {y:V} {u:Value} (r:RelV y u):eU e u = e y:=by unfold eU; rw [r.abs]
theorem xhr {e:V→Bool}:∀ {xs:List V} {us:List Value},Vals xs us→us.any (eU e) = xs.any e
  | _,_,.nil=>rfl
  | y :: xs,u :: us,.cons r t=>by rw [List.any_cons,List.any_cons,xe1 r,xhr t]
theorem xf4:∀ {xs:List V} {us:List Value},Vals xs us→∀ u ∈ us,∃ y ∈ xs,RelV y u
  | _,_,.nil=>fun u hu=>nomatch hu
  | y :: xs,u :: us,.cons r t=>fun u' hu=>by
    rcases List.mem_cons.mp hu with rfl | hu
    · exact ⟨y,List.mem_cons_self,r⟩
    · obtain ⟨z,h1,h2⟩:=xf4 t u' hu
      exact ⟨z,List.mem_cons_of_mem _ h1,h2⟩
section
variable {X:Cx}
end
end L2
set_option maxRecDepth 100000
namespace PySem.F
end PySem.F
namespace L2
open PySem PySem.Spec PyProof.Rows XL
variable {q0:Bool}
end L2
set_option maxRecDepth 100000
namespace L2
open PySem PySem.Spec PyProof.Rows XL
variable {q0:Bool}
section
variable {z TI TO i1 i2 l1 l2:Addr} {P:Nat→Prop} {i:Nat} {h:Heap}
end
end L2
set_option maxRecDepth 100000
namespace L2
open PySem PySem.Spec PyProof.Rows XL
variable {q0:Bool}
end L2
set_option maxRecDepth 100000
namespace L2
open PySem PySem.Spec PyProof.Rows XL
variable {q0:Bool}
section
variable {X:Cx} {pos np1 np2 np3 hpos1 hpos2 hpos3:Pos} {body hbody1 hbody2 hbody3:List Stmt} {rest:List ExceptHandler} {b1 b2 b3:Stmt} {cx1 cx2 cx3 n:Str} {C1 C2 C3:Addr} {j:Nat} {E:St→XK} {tb th1 th2 th3:TS}
end
end L2
set_option maxRecDepth 100000
namespace L2
open PySem PySem.Spec PyProof.Rows XL PySem.W
variable {q0:Bool}
theorem xga {prog:Program} {w:World} {A:Around} {E:Value→Shared→Prop} {s:Shared} {a:Addr} {vs:List Value} {n:Nat} {P:PySem.Fin→Shared→Prop}
    (h:s.heap.get? a = some (seqObj "list" vs.toArray n)) (h2:2≤vs.length) (h64:vs.length < 64)
    (hk:∀ s':Shared,s'.heap = (((s.heap.update a (Obj.mapSeq fun x=>#[])).push (seqObj "tuple" vs.toArray 0)).push (seqObj "list" #[] 0))→s' = { s with heap:=s'.heap } →
      wpAny (model prog w) A (keyKind' vs.toArray) (fun κ s''=>s'' = s'∧KasT.kasWp (kas_ask prog w A κ vs) (kas_sort vs.length) (fun p s3=>s3 = s'∧P (.done (.ret .none)) { s with heap:=sortedHeap s.heap a vs (p.map fun i=>vs.getD i .none) }) s'') (fun _ _=>False) s') :
    wpAny (model prog w) A (Builtin.«list.sort» { pos:=[.ref a] }) P E s:=by
  obtain ⟨hp,g,d,tk,os⟩:=s
  rw [list_sort_plain]
  repeat (any_goals (first | assumption | wp_step))
  have z:¬ vs.toArray.toList.toArray.size > sizeLine:=by
    simp
    exact Nat.le_of_lt (Nat.lt_trans h64 (by decide))
  rw [if_neg z]
  generalize keyKind' vs.toArray = kk at hk ⊢
  repeat (any_goals (first | assumption | wp_step))
  have hk':=hk { heap:=((hp.update a (Obj.mapSeq fun x=>#[])).push (seqObj "tuple" vs.toArray 0)).push (seqObj "list" #[] 0),gens:=g,drawn:=d,toks:=tk,os:=os } rfl rfl
  refine wpAny_mono hk' (fun κ s'' z=>?_) (fun _ _ z=>z.elim)
  obtain ⟨e,q⟩:=z
  subst e
  show wpAny _ _ (StateT.run (if vs.toArray.size < 2 then pure () else sortRuns') _ >>= _) _ _ _
  rw [if_neg (by simp; omega)]
  refine wpAny_bind (wpAny_mono (kat_run (E:=E) (Q:=fun st' s'=>∃ p:Array Nat,p.size = vs.length∧arrOf st' = Array.map (kas_item (vs.toArray.zip vs.toArray)) p∧failedOf st' = none∧s' = _∧P (.done (.ret .none)) { heap:=sortedHeap hp a vs (p.map fun i=>vs.getD i .none),gens:=g,drawn:=d,toks:=tk,os:=os }) rfl h2 h64 (fun p st' s' hp' e f q'=>⟨p,hp',e,f,q'.1,q'.2⟩) q) (fun r s' z=>?_) fun _ _ z=>z)
  obtain ⟨u,st⟩:=r
  obtain ⟨p,psz,e,f,rfl,q'⟩:=z
  have al:a < hp.objs.size:=Heap.lt_size h
  have g1:(((hp.update a (Obj.mapSeq fun x=>#[])).push (seqObj "tuple" vs.toArray 0)).push (seqObj "list" #[] 0)).get? a = some (seqObj "list" #[] (n + 1)):=by
    refine Heap.get?_push_of_some _ (Heap.get?_push_of_some _ ?_)
    rw [Heap.get?_update_self _ h rfl]
    have z:((0:Nat) == vs.length) = false:=by
      cases vs with
      | nil=>simp at h2
      | cons=>rfl
    simp [Obj.mapSeq,z]
  have e2:(if (((fun x=>#[]) vs.toArray:Array Value).size == vs.toArray.size) = true then n else n + 1) = n + 1:=by
    rw [if_neg]
    simp
    omega
  simp only [e2,f]
  have e3:Array.map (fun x=>x.snd) (arrOf st) = p.map fun i=>vs.getD i .none:=by
    rw [e,Array.map_map]
    congr 1
    funext i
    show (kas_item (vs.toArray.zip vs.toArray) i).snd = _
    unfold kas_item
    by_cases c:i < vs.length
    · simp [List.getElem?_eq_getElem c,c]
    · simp [List.getElem?_eq_none (by omega:vs.length≤i),c]
  simp only [e3]
  repeat (any_goals (first | assumption | wp_step))
  have e4:(Obj.mapSeq (fun x=>Array.map (fun i=>vs.getD i Value.none) p) (seqObj "list" #[] (n + 1))).data.pastItsLine = none:=by
    show (if (Array.map (fun i=>vs.getD i Value.none) p).size > sizeLine + 1 then _ else none) = none
    rw [if_neg]
    rw [Array.size_map,psz]
    have:vs.length < sizeLine:=Nat.lt_trans h64 (by decide)
    omega
  rw [e4]
  refine wpAny_pure ?_
  rw [f]
  show wpAny _ _ (if (n + 1 != n + 1) = true then _ else _) _ _ _
  rw [if_neg (by simp)]
  exact wpAny_pure q'
theorem xh3 {prog:Program} {w:World} {A:Around} {E:Value→Shared→Prop} {s:Shared} {it d:Addr} {i ep:Nat} {o:Obj} {es:Array DictEntry} {en:DictEntry} {Q:Option Value→Shared→Prop}
    (st:s.heap.IsKeyIter it d i es.size ep) (hd:s.heap.get? d = some o) (hx:o.ExactDict) (hdat:o.data = .dict es ep) (hi:es[i]? = some en)
    (h:∀ h',h'.IsKeyIter it d (i + 1) es.size ep→Heap.SameBut it s.heap h'→Q (some en.key) { s with heap:=h' }):wpAny (model prog w) A (pyNext (.ref it)) Q E s:=by
  unfold pyNext
  refine wpAny_bind (wpAny_attempt (wpAny_callSpecial?_slot st.typeIs F.slot_dict_keyiterator_next ?_))
  refine wpAny_call_entry F.slot_dict_keyiterator_next st.typeIs F.entry_dict_keyiterator_next ?_ (F.args_dict_keyiterator_next_1 _)
  have ti:=st.typeIs
  obtain ⟨hp,g,dr,tk,os⟩:=s
  obtain ⟨⟨c,dct,dat,sl⟩,hit,ci,di⟩:=st
  simp only at ci di
  subst ci di
  unfold Builtin.«dict_keyiterator.__next__»
  repeat (any_goals (first | assumption | (with_reducible refine wpAny_typeNameOfWhole_keyiter ti ?_) | (with_reducible refine wpAny_isOneOf_keyiter ti ?_) | (with_reducible refine wpAny_dictEntries hd hdat ?_) | (with_reducible refine wpAny_dictEpoch hd hdat ?_) | wp_step))
  have e1:(if (i:Int) < 0 then none else es[(i:Int).toNat]?) = some en:=by
    rw [if_neg (by omega),Int.toNat_natCast]
    exact hi
  rw [e1]
  repeat (any_goals (first | assumption | (with_reducible refine wpAny_typeNameOfWhole_keyiter ti ?_) | (with_reducible refine wpAny_isOneOf_keyiter ti ?_) | (with_reducible refine wpAny_dictEntries hd hdat ?_) | (with_reducible refine wpAny_dictEpoch hd hdat ?_) | wp_step))
  refine ⟨_,rfl,wpAny_pure (h _ ?_ (Heap.SameBut.update _ _ _))⟩
  refine ⟨_,Heap.get?_update_self _ hit rfl,rfl,?_⟩
  rfl
theorem xh5 {prog:Program} {w:World} {A:Around} {E:Value→Shared→Prop} {s:Shared} {it d:Addr} {ep:Nat} {o:Obj} {es:Array DictEntry} {Q:Option Value→Shared→Prop}
    (hA:A.handled = none) (st:s.heap.IsKeyIter it d es.size es.size ep) (hd:s.heap.get? d = some o) (hx:o.ExactDict) (hdat:o.data = .dict es ep)
    (h:∀ h',Heap.ExtBut it s.heap h'→Q none { s with heap:=h' }):wpAny (model prog w) A (pyNext (.ref it)) Q E s:=by
  unfold pyNext
  refine wpAny_bind (wpAny_attempt (wpAny_callSpecial?_slot st.typeIs F.slot_dict_keyiterator_next ?_))
  refine wpAny_call_entry F.slot_dict_keyiterator_next st.typeIs F.entry_dict_keyiterator_next ?_ (F.args_dict_keyiterator_next_1 _)
  have ti:=st.typeIs
  obtain ⟨hp,g,dr,tk,os⟩:=s
  obtain ⟨⟨c,dct,dat,sl⟩,hit,ci,di⟩:=st
  simp only at ci di
  subst ci di
  unfold Builtin.«dict_keyiterator.__next__»
  repeat (any_goals (first | assumption | (with_reducible refine wpAny_typeNameOfWhole_keyiter ti ?_) | (with_reducible refine wpAny_isOneOf_keyiter ti ?_) | (with_reducible refine wpAny_dictEntries hd hdat ?_) | (with_reducible refine wpAny_dictEpoch hd hdat ?_) | wp_step))
  have e1:(if (es.size:Int) < 0 then none else es[(es.size:Int).toNat]?) = none:=by
    rw [if_neg (by omega),Int.toNat_natCast]
    simp
  rw [e1]
  repeat (any_goals (first | assumption | (with_reducible refine wpAny_typeNameOfWhole_keyiter ti ?_) | (with_reducible refine wpAny_isOneOf_keyiter ti ?_) | (with_reducible refine wpAny_dictEntries hd hdat ?_) | (with_reducible refine wpAny_dictEpoch hd hdat ?_) | wp_step))
  refine wpAny_raiseNew_none hA ?_
  refine wpAny_bind (wpAny_isInstance ⟨_,Heap.get?_push_size _ rfl,rfl⟩ isSubtype_stop (wpAny_pure (h _ fun b o nb e=>?_)))
  refine Heap.get?_push_of_some _ (Heap.get?_push_of_some _ ?_)
  rw [Heap.get?_update_other _ _ (Ne.symm nb)]
  exact e
theorem xly {prog:Program} {w:World} {A:Around} {E:Value→Shared→Prop} {s:Shared} {d:Addr} {ep:Nat} {o:Obj} {es:Array DictEntry} {Q:Value→Shared→Prop}
    (hs:(d == sysModules) = false) (hd:s.heap.get? d = some o) (hx:o.ExactDict) (hdat:o.data = .dict es ep)
    (h:Q (.ref s.heap.objs.size) { s with heap:=s.heap.push { cls:=.type "dict_keyiterator",data:=.fields #[.ref d,.int 0 0,.int es.size 0,.int ep 0] } }):wpAny (model prog w) A (pyIter (.ref d)) Q E s:=by
  have ti:s.TypeIs (.ref d) "dict":=⟨o,hd,hx.1⟩
  obtain ⟨c,dct,dat,sl⟩:=o
  obtain ⟨x1,x2,x3⟩:=hx
  simp only at x1 x2 x3 hdat
  subst x1 x2 x3 hdat
  refine wpAny_pyIter_slot ti F.slot_dict_iter ?_
  refine wpAny_call_entry F.slot_dict_iter ti F.entry_dict_iter ?_ (F.args_dict_iter_1 _)
  obtain ⟨hp,g,dr,tk,os⟩:=s
  unfold Builtin.«dict.__iter__»
  repeat (any_goals (first | assumption | (with_reducible refine wpAny_notOrdered_dict ti ?_) | (with_reducible refine wpAny_dictEntries hd rfl ?_) | (with_reducible refine wpAny_dictEpoch hd rfl ?_) | wp_step))
  exact ⟨_,rfl,_,_,⟨_,Heap.get?_push_size _ rfl,rfl⟩,F.slot_dict_keyiterator_next.lookup,h⟩
theorem xna {prog:Program} {w:World} {d:Addr} {ep:Nat} {o:Obj} {es:Array DictEntry} (hs:(d == sysModules) = false) (hx:o.ExactDict) (hdat:o.data = .dict es ep) :
    KdlSrc prog w "dict" d d es.size (fun i v=>∃ en,es[i]? = some en∧v = en.key) (fun h=>h.get? d = some o) where
  type:=fun s h=>⟨o,h,hx.1⟩
  there:=fun h e=>⟨Heap.lt_size e,Heap.lt_size e⟩
  keep:=fun h h' e k=>k d (.inl rfl) o e
  notList:=by decide
  notTuple:=by decide
  hint:=fun A E s Q h q=>kdl_hint_dict ⟨o,h,hx.1⟩ q
  iter:=fun A s hA h=>by
    have dl:=Heap.lt_size h
    refine ⟨{ cls:=.type "dict_keyiterator",data:=.fields #[.ref d,.int 0 0,.int es.size 0,.int ep 0] },fun i h=>h.IsKeyIter s.heap.objs.size d i es.size ep∧h.get? d = some o,fun E Q q=>xly hs h hx hdat q,?_,⟨_,Heap.get?_push_size _ rfl,rfl,rfl⟩,Heap.get?_push_of_some _ h⟩
    have dn:d≠s.heap.objs.size:=Nat.ne_of_lt dl
    exact {
      sub:=fun b hb=>by
        have e:b = s.heap.objs.size:=by simpa using hb
        rw [e]
        simp
      frame:=fun i h h' st k=>⟨st.1.at fun o e=>k _ (by simp) o e,k _ (by simp) _ st.2⟩
      item:=fun i s' Q E hi st q=>by
        refine xh3 st.1 st.2 hx hdat (Array.getElem?_eq_getElem hi) fun h' st' sb=>q _ h' s'.toks ⟨_,Array.getElem?_eq_getElem hi,rfl⟩ ⟨st',(sb.2 d dn).trans st.2⟩ fun b o hb e=>?_
        exact (sb.2 b (by simpa using hb)).trans e
      done:=fun s' Q E st q=>by
        refine xh5 hA st.1 st.2 hx hdat fun h' eb=>q h' s'.toks fun b o hb e=>?_
        exact eb b o (by simpa using hb) e
      self:=fun i s' Q E st q=>wpAny_pyIter_keyiter st.1 q }
end L2
set_option maxRecDepth 100000
namespace L2
open PySem PySem.Spec PyProof.Rows XL PySem.W
variable {q0:Bool}
def xch:Key→Key→Bool
  | .inl a,.inl b=>decide (a < b)
  | .inr a,.inr b=>decide (a.cps.toList < b.cps.toList)
  | _,_=>false
def lexK:List Key→List Key→Bool
  | [],[]=>false
  | [],_ :: _=>true
  | _ :: _,[]=>false
  | x :: xs,y :: ys=>if x = y then lexK xs ys else xch x y
abbrev shp (k:List Key):List Bool:=k.map Sum.isLeft
theorem xng {a b:Str} (h:a.cps.toList = b.cps.toList):a = b:=by
  cases a
  cases b
  simp at h
  rw [h]
theorem xjy (x:Key):xch x x = false:=by
  cases x with
  | inl a=>simp [xch]
  | inr a=>exact PyProof.Rows.strKind.irrefl a.cps.toList
theorem xlx {x y z:Key} (h1:xch x y = true) (h2:xch y z = true):xch x z = true:=by
  cases x <;> cases y <;> cases z <;> simp only [xch,Bool.false_eq_true] at h1 h2
  · have a:=of_decide_eq_true h1
    have b:=of_decide_eq_true h2
    exact decide_eq_true (Int.lt_trans a b)
  · exact PyProof.Rows.strKind.trans _ _ _ h1 h2
theorem xj1 {x y:Key} (hs:x.isLeft = y.isLeft) (ne:x≠y) (h:xch x y = false):xch y x = true:=by
  cases x with
  | inl a =>
    cases y with
    | inl b =>
      have h':¬ a < b:=of_decide_eq_false h
      have n':a≠b:=fun e=>ne (by rw [e])
      exact decide_eq_true (show b < a by omega)
    | inr b=>cases hs
  | inr a =>
    cases y with
    | inl b=>cases hs
    | inr b =>
      cases e:xch (.inr b) (.inr a) with
      | true=>rfl
      | false=>exact absurd (by rw [xng (PyProof.Rows.strKind.total _ _ h e)]) ne
theorem xhw:∀ x:List Key,lexK x x = false
  | []=>rfl
  | x :: xs=>by
    unfold lexK
    rw [if_pos rfl]
    exact xhw xs
theorem xit:∀ {x y z:List Key},shp x = shp y→shp y = shp z→lexK x y = true→lexK y z = true→lexK x z = true
  | [],[],_,_,_,h,_=>by cases h
  | [],_ :: _,_,h,_,_,_=>by cases h
  | _ :: _,[],_,h,_,_,_=>by cases h
  | _ :: _,_ :: _,[],_,h,_,_=>by cases h
  | x :: xs,y :: ys,z :: zs,h1,h2,h3,h4=>by
    simp only [shp,List.map_cons,List.cons.injEq] at h1 h2
    unfold lexK at h3 h4 ⊢
    by_cases xy:x = y
    · subst xy
      rw [if_pos rfl] at h3
      by_cases yz:x = z
      · rw [if_pos yz] at h4 ⊢
        exact xit h1.2 h2.2 h3 h4
      · rw [if_neg yz] at h4 ⊢
        exact h4
    · rw [if_neg xy] at h3
      by_cases yz:y = z
      · subst yz
        rw [if_neg xy]
        exact h3
      · rw [if_neg yz] at h4
        have h5:=xlx h3 h4
        rw [if_neg (fun e=>by rw [e,xjy] at h5; cases h5)]
        exact h5
theorem xh4:∀ {x y:List Key},shp x = shp y→x≠y→lexK x y = false→lexK y x = true
  | [],[],_,h,_=>absurd rfl h
  | [],_ :: _,h,_,_=>by cases h
  | _ :: _,[],h,_,_=>by cases h
  | x :: xs,y :: ys,h1,h2,h3=>by
    simp only [shp,List.map_cons,List.cons.injEq] at h1
    unfold lexK at h3 ⊢
    by_cases xy:x = y
    · subst xy
      rw [if_pos rfl] at h3 ⊢
      exact xh4 h1.2 (fun e=>h2 (by rw [e])) h3
    · rw [if_neg xy] at h3
      rw [if_neg (fun e=>xy e.symm)]
      exact xj1 h1.1 xy h3
theorem xhx {prog:Program} {w:World} {A:Around} {s:Shared} {b:Bool} {Q:Bool→Shared→Prop}:∀ (xs ys:List Key) (us vs:List Value) (i:Nat),shp xs = shp ys→Vals (xs.map kV) us→Vals (ys.map kV) vs→Q (lexK xs ys) s→KatLex prog w A b false Q (us.zip vs) i s
  | [],[],_,_,i,_,.nil,.nil,q=>kat_nil q
  | [],_ :: _,_,_,_,h,_,_,_=>by cases h
  | _ :: _,[],_,_,_,h,_,_,_=>by cases h
  | x :: xs,y :: ys,_,_,i,h,.cons ru r,.cons rv r',q=>by
    simp only [shp,List.map_cons,List.cons.injEq] at h
    unfold lexK at q
    cases x with
    | inl a =>
      cases y with
      | inr c=>cases h.1
      | inl c =>
        obtain ⟨t,rfl⟩:=ru
        obtain ⟨t',rfl⟩:=rv
        refine kat_cons (wpAny_eqBool_int ?_)
        unfold KatGo
        by_cases e:a = c
        · subst e
          rw [if_pos rfl] at q
          rw [if_pos (by simp)]
          exact xhx xs ys _ _ (i + 1) h.2 r r' q
        · rw [if_neg (fun z=>e (Sum.inl.inj z))] at q
          rw [if_neg (by simpa using e)]
          cases (b && i == 0) with
          | true=>exact oneLt_int q
          | false=>exact kat_one _ _ (lt_int q)
    | inr a =>
      cases y with
      | inl c=>cases h.1
      | inr c =>
        obtain ⟨t,rfl⟩:=ru
        obtain ⟨t',rfl⟩:=rv
        refine kat_cons (wpAny_eqBool_str ?_)
        unfold KatGo
        by_cases e:a = c
        · subst e
          rw [if_pos rfl] at q
          rw [if_pos (by simp)]
          exact xhx xs ys _ _ (i + 1) h.2 r r' q
        · rw [if_neg (fun z=>e (Sum.inr.inj z))] at q
          rw [if_neg (by simpa using e)]
          cases (b && i == 0) with
          | true=>exact oneLt_str q
          | false=>exact kat_one _ _ (lt_str q)
theorem xg2 {prog:Program} {w:World} {A:Around} {E:Value→Shared→Prop} {s:Shared} {a:Addr} {vs:List Value} {n:Nat} {P:PySem.Fin→Shared→Prop}
    (h:s.heap.get? a = some (seqObj "list" vs.toArray n)) (h2:vs.length < 2) (q':P (.done (.ret .none)) { s with heap:=sortedHeap s.heap a vs vs.toArray }) :
    wpAny (model prog w) A (Builtin.«list.sort» { pos:=[.ref a] }) P E s:=by
  obtain ⟨hp,g,d,tk,os⟩:=s
  rcases vs with _ | ⟨v,_ | ⟨v',r⟩⟩
  · rw [list_sort_plain]
    repeat (any_goals (first | assumption | wp_step))
    show wpAny _ _ (pure (PUnit.unit,SortSt.mk' general' ((#[]:Array Value).zip #[]) #[] 7 none)) _ _ _
    refine wpAny_pure ?_
    have e3:Array.map (fun x=>x.snd) (arrOf (SortSt.mk' general' ((#[]:Array Value).zip #[]) #[] 7 none)) = #[]:=by
      show Array.map (fun x=>x.snd) ((#[]:Array Value).zip #[]) = #[]
      simp
    simp only [e3]
    have g1:(((hp.update a (Obj.mapSeq fun x=>#[])).push (seqObj "tuple" #[] 0)).push (seqObj "list" #[] 0)).get? a = some (seqObj "list" #[] (n)):=by
      refine Heap.get?_push_of_some _ (Heap.get?_push_of_some _ ?_)
      rw [Heap.get?_update_self _ h rfl]
      rfl
    show wpAny _ _ (seqEpoch a >>= _) _ _ _
    repeat (any_goals (first | assumption | wp_step))
  · rw [list_sort_plain]
    repeat (any_goals (first | assumption | wp_step))
    show wpAny _ _ (pure (PUnit.unit,SortSt.mk' general' ((#[v]:Array Value).zip #[v]) #[] 7 none)) _ _ _
    refine wpAny_pure ?_
    have e3:Array.map (fun x=>x.snd) (arrOf (SortSt.mk' general' ((#[v]:Array Value).zip #[v]) #[] 7 none)) = #[v]:=by
      show Array.map (fun x=>x.snd) ((#[v]:Array Value).zip #[v]) = #[v]
      simp
    simp only [e3]
    have g1:(((hp.update a (Obj.mapSeq fun x=>#[])).push (seqObj "tuple" #[v] 0)).push (seqObj "list" #[] 0)).get? a = some (seqObj "list" #[] (n + 1)):=by
      refine Heap.get?_push_of_some _ (Heap.get?_push_of_some _ ?_)
      rw [Heap.get?_update_self _ h rfl]
      rfl
    show wpAny _ _ (seqEpoch a >>= _) _ _ _
    repeat (any_goals (first | assumption | wp_step))
  · simp at h2
    omega
theorem xel {α:Type} (f:α→Addr):∀ (es:List α),Vals (es.map fun x=>V.ref (f x)) (es.map fun x=>Value.ref (f x))
  | []=>.nil
  | x :: r=>.cons rfl (xel f r)
theorem xki {H:Hp} {kvs:List (List Key × V)} {es:List (List Key × Addr × Value)} (h:KT H kvs es):(∀ x ∈ es,H x.2.1 = some (.tup (x.1.map kV)))∧es.map (·.1) = kvs.map (·.1):=by
  induction h with
  | nil=>exact ⟨(fun _ z=>nomatch z),rfl⟩
  | @cons p x kvs es hp r ih =>
    obtain ⟨e1,e2,_⟩:=hp
    refine ⟨fun y hy=>?_,by rw [List.map_cons,List.map_cons,ih.2,e1]⟩
    rcases List.mem_cons.mp hy with rfl | z
    · rw [← e1]
      exact e2
    · exact ih.1 y z
theorem xj2 {P:Program} {w:World} {H:Hp} {h:Heap} (ok:HOk P w H h) {b:Bool} {sh:List Bool}:∀ (es:List (List Key × Addr × Value)),(∀ x ∈ es,H x.2.1 = some (.tup (x.1.map kV)))→(∀ x ∈ es,shp x.1 = b :: sh) →
    ∃ fs,KatTups h (es.map fun x=>Value.ref x.2.1) fs∧fs.length = es.length∧∀ v ∈ fs,if b = true then ∃ i t,v = Value.int i t else ∃ i t,v = Value.str i t
  | [],_,_=>⟨[],KatTups.nil,rfl,fun _ z=>nomatch z⟩
  | x :: es,h1,h2=>by
    obtain ⟨fs,k,l,m⟩:=xj2 ok es (fun y hy=>h1 y (List.mem_cons_of_mem _ hy)) (fun y hy=>h2 y (List.mem_cons_of_mem _ hy))
    obtain ⟨z2,ts,rt,ot,et,ct,nt,dt⟩:=ok x.2.1 _ (h1 x List.mem_cons_self)
    have s1:=h2 x List.mem_cons_self
    obtain ⟨k1,a1,v1⟩:=x
    cases k1 with
    | nil=>cases s1
    | cons k0 kr =>
      simp only [shp,List.map_cons,List.cons.injEq] at s1
      simp only [List.map_cons] at rt
      cases rt with
      | @cons _ u _ us ru rr =>
        refine ⟨u :: fs,KatTups.cons et ct dt (by simp) k,by simp [l],fun v hv=>?_⟩
        rcases List.mem_cons.mp hv with rfl | hv'
        · cases k0 with
          | inl i =>
            obtain ⟨t,rfl⟩:=ru
            rw [if_pos (show b = true from s1.1.symm)]
            exact ⟨i,t,rfl⟩
          | inr i =>
            obtain ⟨t,rfl⟩:=ru
            rw [if_neg (show ¬ b = true by rw [← s1.1]; simp)]
            exact ⟨i,t,rfl⟩
        · exact m v hv'
theorem xgz {X:Cx} {pins:List (Addr × Obj)} {σ:St} {H:Hp} {s:Shared} {h1:Heap} {tk:Nat} {Q:VK} {sh:List Bool} (es':List (List Key × Addr × Value)) (I1:Inv X pins σ H { s with heap:=h1,toks:=tk })
    (hl:es'.length < 64) (km:∀ x ∈ es',H x.2.1 = some (.tup (x.1.map kV))) (shE:∀ x ∈ es',shp x.1 = sh) (hpos:0 < sh.length) (hnd:(List.map (fun x=>x.fst) es').Nodup)
    (q:∀ (l:Addr) (ts:List (List Key × Addr)),H l = none→ts.Perm (es'.map fun x=>(x.1,x.2.1))→(ts.map (·.1)).Pairwise (fun x y=>lexK x y = true)→Q (.ref l) (upd H l (.lst (ts.map fun t=>.ref t.2)))) :
    wpAny (model X.prog X.w) X.A.in1 (newList (es'.map fun x=>Value.ref x.2.1) >>= fun l=>holding [l] (call (.builtin "list.sort") [l] []) >>= fun _=>ret l) (fun fin s'=>∃ v,fin = Fin.done (Flow.ret v)∧EP X pins σ Q v s') X.xe { s with heap:=h1,toks:=tk }:=by
  have hz:es'.length≤sizeLine:=Nat.le_of_lt (Nat.lt_trans hl (by decide))
  have vals:Vals (es'.map fun x=>V.ref x.2.1) (es'.map fun x=>Value.ref x.2.1):=xel (fun x=>x.2.1) es'
  have I2:=I1.lnew (t':=tk) vals (by rw [List.length_map]; exact hz)
  refine wpAny_bind (wpAny_newList ?_ (by rw [List.length_map]; exact hz))
  have fr:H h1.objs.size = none:=I1.fresh
  have gl:(h1.push { cls:=.type "list",data:=.seq (es'.map fun x=>Value.ref x.2.1).toArray }).get? h1.objs.size = some (seqObj "list" (es'.map fun x=>Value.ref x.2.1).toArray 0):=Heap.get?_push_size _ rfl
  refine wpAny_bind (wpAny_holding (wpAny_call_entry slot_list_sort ⟨_,gl,rfl⟩ entry_list_sort ?_ (args_list_sort _)))
  have J1:=I2.lset (l:=h1.objs.size) (its:=es'.map fun x=>Value.ref x.2.1) (its':=[]) (ys:=[]) (f:=fun _=>#[]) (t':=tk) xg gl rfl .nil (Nat.zero_le _)
  have J2:=J1.kept (t':=tk) (h':=(((h1.push { cls:=.type "list",data:=.seq (es'.map fun x=>Value.ref x.2.1).toArray }).update h1.objs.size (Obj.mapSeq fun _=>#[])).push (seqObj "tuple" (es'.map fun x=>Value.ref x.2.1).toArray 0)).push (seqObj "list" #[] 0)) fun b u e=>Heap.get?_push_of_some _ (Heap.get?_push_of_some _ e)
  obtain ⟨z9,its9,n9,r9,hl9,e9⟩:=J2.lstM xg
  have done:∀ (ts:List (List Key × Addr)),ts.Perm (es'.map fun x=>(x.1,x.2.1))→(ts.map (·.1)).Pairwise (fun x y=>lexK x y = true) →
      EP X pins σ Q (.ref h1.objs.size) { s with heap:=sortedHeap (h1.push { cls:=.type "list",data:=.seq (es'.map fun x=>Value.ref x.2.1).toArray }) h1.objs.size (es'.map fun x=>Value.ref x.2.1) (ts.map fun t=>Value.ref t.2).toArray,toks:=tk }:=by
    intro ts pm pw
    have tl:ts.length = es'.length:=by rw [pm.length_eq,List.length_map]
    have J3:=J2.lset (l:=h1.objs.size) (its:=its9) (its':=ts.map fun t=>Value.ref t.2) (ys:=ts.map fun t=>V.ref t.2) (f:=fun _=>(ts.map fun t=>Value.ref t.2).toArray) (t':=tk) xg e9 rfl (xel (fun t=>t.2) ts) (by rw [List.length_map,tl]; exact hz)
    rw [xf1,xf1] at J3
    exact ⟨.ref h1.objs.size,_,J3,rfl,q _ ts fr pm pw⟩
  by_cases few:es'.length < 2
  · refine xg2 gl (by rw [List.length_map]; exact few) ⟨_,rfl,wpAny_pure ⟨_,rfl,?_⟩⟩
    have:=done (es'.map fun x=>(x.1,x.2.1)) (List.Perm.refl _) ?_
    · rw [List.map_map] at this
      exact this
    · match es',few with
      | [],_=>exact .nil
      | [x],_=>exact List.pairwise_singleton _ _
      | _ :: _ :: _,h=>exact absurd h (by simp)
  · refine xga gl (by rw [List.length_map]; omega) (by rw [List.length_map]; exact hl) fun s' es1 es2=>?_
    obtain ⟨b,sh0,rfl⟩:∃ b sh0,sh = b :: sh0:=by
      cases sh with
      | nil=>simp at hpos
      | cons b r=>exact ⟨b,r,rfl⟩
    rw [es1] at es2
    subst es2
    have km2:∀ x ∈ es',upd (upd H h1.objs.size (.lst (es'.map fun x=>V.ref x.2.1))) h1.objs.size (.lst []) x.2.1 = some (.tup (x.1.map kV)):=fun x hx=>by
      rw [xm (xp (km x hx) fr),xm (xp (km x hx) fr)]
      exact km x hx
    obtain ⟨fs,kt,fl,fm⟩:=xj2 J2.hok es' km2 shE
    have few':2≤es'.length:=by omega
    refine kat_kind (T:=if b = true then .type "int" else .type "str") kt (by omega) (fun v hv=>?_) (by cases b <;> rfl) ⟨rfl,?_⟩
    · have z:=fm v hv
      cases b with
      | true =>
        obtain ⟨i,t,rfl⟩:=z
        exact fun A Q E s _ q=>wpAny_typeOf (T:="int") rfl q
      | false =>
        obtain ⟨i,t,rfl⟩:=z
        exact fun A Q E s _ q=>wpAny_typeOf (T:="str") rfl q
    rw [List.length_map]
    have eAt:∀ i,i < es'.length→es'[i]? = some (es'.getD i ([],0,.none)):=fun i hi=>by
      rw [List.getD_eq_getElem?_getD,List.getElem?_eq_getElem hi]
      rfl
    have eM:∀ i,i < es'.length→es'.getD i ([],0,.none) ∈ es':=fun i hi=>List.mem_of_getElem? (eAt i hi)
    have vAt:∀ i,i < es'.length→(es'.map fun x=>Value.ref x.2.1).getD i .none = .ref (es'.getD i ([],0,.none)).2.1:=fun i hi=>by
      rw [List.getD_eq_getElem?_getD,List.getElem?_map,eAt i hi]
      rfl
    have shI:∀ i j,i < es'.length→j < es'.length→shp (es'.getD i ([],0,.none)).1 = shp (es'.getD j ([],0,.none)).1:=fun i j hi hj=>by rw [shE _ (eM i hi),shE _ (eM j hj)]
    refine Srt.sort_wp (lt:=fun i j=>lexK (es'.getD i ([],0,.none)).1 (es'.getD j ([],0,.none)).1) ⟨fun i hi=>xhw _,fun i j k hi hj hk=>xit (shI i j hi hj) (shI j k hj hk),fun i j hi hj ne=>xh4 (shI i j hi hj) fun e=>ne ?_⟩ (fun i j hi hj Q' q'=>?_) few' fun p arr srt=>⟨rfl,_,rfl,wpAny_pure ⟨_,rfl,?_⟩⟩
    · have e1:(es'.map (·.1))[i]? = (es'.map (·.1))[j]?:=by rw [List.getElem?_map,List.getElem?_map,eAt i hi,eAt j hj]; exact congrArg some e
      exact (List.getElem?_inj (by rw [List.length_map]; exact hi) hnd).mp e1
    · show wpAny _ _ (keyLt' _ ((es'.map fun x=>Value.ref x.2.1).getD i .none) ((es'.map fun x=>Value.ref x.2.1).getD j .none)) _ _ _
      rw [vAt i hi,vAt j hj]
      obtain ⟨_,ti,ri,oi,ei,_,ni,di⟩:=J2.hok _ _ (km2 _ (eM i hi))
      obtain ⟨_,tj,rj,oj,ej,_,nj,dj⟩:=J2.hok _ _ (km2 _ (eM j hj))
      have l1:=Vals.length ri
      have l2:=Vals.length rj
      have l3:=congrArg List.length (shI i j hi hj)
      simp only [List.length_map] at l1 l2 l3
      refine kat_lt ei di ej dj ?_
      rw [decide_eq_false (by simp; omega)]
      exact xhx _ _ _ _ 0 (shI i j hi hj) ri rj q'
    have pl:∀ i ∈ p.toList,i < es'.length:=fun i hi=>by
      have:=(Array.Perm.mem_iff arr.pm).mp (Array.mem_toList_iff.mp hi)
      simpa using this
    have:=done (p.toList.map fun i=>((es'.getD i ([],0,.none)).1,(es'.getD i ([],0,.none)).2.1)) ?_ ?_
    · rw [List.map_map] at this
      have e2:(p.map fun i=>(es'.map fun x=>Value.ref x.2.1).getD i .none) = (p.toList.map ((fun t:List Key × Addr=>Value.ref t.2) ∘ fun i=>((es'.getD i ([],0,.none)).1,(es'.getD i ([],0,.none)).2.1))).toArray:=by
        rw [← Array.toList_inj,Array.toList_map]
        exact List.map_congr_left fun i hi=>vAt i (pl i hi)
      rw [e2]
      exact this
    · have e3:(es'.map fun x=>(x.1,x.2.1)) = (List.range es'.length).map fun i=>((es'.getD i ([],0,.none)).1,(es'.getD i ([],0,.none)).2.1):=by
        refine List.ext_getElem? fun i=>?_
        by_cases c:i < es'.length
        · rw [List.getElem?_map,eAt i c,List.getElem?_map,List.getElem?_range c]
          rfl
        · rw [List.getElem?_eq_none (by rw [List.length_map]; omega),List.getElem?_eq_none (by simp; omega)]
      rw [e3]
      refine List.Perm.map _ ?_
      have:=Array.Perm.toList arr.pm
      simpa using this
    · rw [List.map_map,List.pairwise_map,List.pairwise_iff_getElem]
      intro i j hi hj hij
      have z:=srt i j hij (by rw [← arr.sz]; simpa using hj)
      have gi:Srt.g p i = p.toList[i]:=Srt.g_at (by rw [← Array.getElem?_toList]; exact List.getElem?_eq_getElem hi)
      have gj:Srt.g p j = p.toList[j]:=Srt.g_at (by rw [← Array.getElem?_toList]; exact List.getElem?_eq_getElem hj)
      rw [gi,gj] at z
      exact z
def xl6:List V→Hp→VK→Prop:=fun xs H Q=>∃ (d:Addr) (kvs:List (List Key × V)) (sh:List Bool),xs = [.ref d]∧H d = some (.dT kvs)∧kvs.length < 64∧(∀ p ∈ kvs,shp p.1 = sh)∧0 < sh.length ∧
  ∀ (l:Addr) (ts:List (List Key × Addr)),H l = none→(∀ t ∈ ts,H t.2 = some (.tup (t.1.map kV)))→(ts.map (·.1)).Perm (kvs.map (·.1))→(ts.map (·.1)).Pairwise (fun x y=>lexK x y = true)→Q (.ref l) (upd H l (.lst (ts.map fun t=>.ref t.2)))
theorem xhn {X:Cx} (hc:X.calm = true):xb6 X (.builtin "sorted") xl6:=by
  intro pins s σ H xs us Q I r h
  obtain ⟨d,kvs,sh,rfl,hd,hl,hsh,hpos,q⟩:=h
  obtain ⟨u,rfl,ru⟩:=xc7 r
  obtain rfl:u = Value.ref d:=ru
  obtain ⟨z,hsys,es',rel,dd⟩:=xi2 I.hok hd
  obtain ⟨o,es,ep,ho,hx,hdat,hes,hkk,hnd⟩:=dd
  have ln:=Paired.length rel
  have esz:es.size = es'.length:=by rw [← Array.length_toList,hes,List.length_map]
  refine Calls.call_function_entry kind_sorted plain_sorted entry_sorted (args_sorted1 _) ?_
  unfold Builtin.sorted
  refine wpAny_bind (wpAny_pure ?_)
  show wpAny _ _ (collect (.ref d) >>= _) _ _ _
  refine wpAny_bind (kdu_collect (xna hsys hx hdat) (I.ok.hd hc) ho (by rw [esz,← ln]; exact z) fun h1 tk acc keep items=>?_)
  have acl:acc.toList = es'.map fun x=>Value.ref x.2.1:=by
    refine List.ext_getElem? fun j=>?_
    obtain ⟨i1,i2⟩:=items
    by_cases c:j < es'.length
    · have c':j < acc.size:=by rw [i1,esz]; exact c
      have e:acc[j]? = some acc[j]:=Array.getElem?_eq_getElem c'
      obtain ⟨en,he,hv⟩:=i2 j acc[j] e
      rw [Array.getElem?_toList,e,hv]
      have he':es.toList[j]? = some en:=by rw [Array.getElem?_toList]; exact he
      rw [hes,List.getElem?_map,List.getElem?_eq_getElem c] at he'
      rw [List.getElem?_map,List.getElem?_eq_getElem c]
      have:=Option.some.inj he'
      rw [← this]
      rfl
    · rw [List.getElem?_eq_none (by rw [Array.length_toList,i1,esz]; omega),List.getElem?_eq_none (by rw [List.length_map]; omega)]
  rw [acl]
  have I1:Inv X pins σ H { s with heap:=h1,toks:=tk }:=I.kept keep
  obtain ⟨km,ke⟩:=xki rel
  have shE:∀ x ∈ es',shp x.1 = sh:=fun x hx=>by
    have m:x.1 ∈ kvs.map (·.1):=by rw [← ke]; exact List.mem_map.mpr ⟨x,hx,rfl⟩
    obtain ⟨p,hp,e⟩:=List.mem_map.mp m
    rw [← e]
    exact hsh p hp
  refine xgz es' I1 (by rw [← ln]; exact hl) km shE hpos hnd fun l ts fr pm pw=>q l ts fr (fun t ht=>?_) ?_ pw
  · obtain ⟨x,hx,rfl⟩:=List.mem_map.mp (pm.mem_iff.mp ht)
    exact km x hx
  · have:=pm.map (·.1)
    rw [List.map_map] at this
    rw [← ke]
    exact this
def xht:List V→Hp→VK→Prop:=fun xs H Q=>∃ (d:Addr) (ts0:List (List Key × Addr)) (sh:List Bool),xs = [.ref d]∧H d = some (.lst (ts0.map fun t=>.ref t.2))∧ts0.length < 64∧(∀ t ∈ ts0,H t.2 = some (.tup (t.1.map kV)))∧(∀ t ∈ ts0,shp t.1 = sh)∧0 < sh.length∧(ts0.map (·.1)).Nodup ∧
  ∀ (l:Addr) (ts:List (List Key × Addr)),H l = none→ts.Perm ts0→(ts.map (·.1)).Pairwise (fun x y=>lexK x y = true)→Q (.ref l) (upd H l (.lst (ts.map fun t=>.ref t.2)))
theorem xgv {α:Type} (f:α→Addr):∀ {es:List α} {us:List Value},Vals (es.map fun x=>V.ref (f x)) us→us = es.map fun x=>Value.ref (f x)
  | [],_,.nil=>rfl
  | x :: es,_,.cons r rs=>by
    cases r
    rw [xgv f rs]
    rfl
theorem xek {X:Cx} (hc:X.calm = true):xb6 X (.builtin "sorted") xht:=by
  intro pins s σ H xs us Q I r h
  obtain ⟨d,ts0,sh,rfl,hd,hl,km,hsh,hpos,hnd,q⟩:=h
  obtain ⟨u,rfl,ru⟩:=xc7 r
  obtain rfl:u = Value.ref d:=ru
  obtain ⟨z,its,n,rv,hlen,el⟩:=I.lstM hd
  have eits:=xgv (fun t:List Key × Addr=>t.2) rv
  refine Calls.call_function_entry kind_sorted plain_sorted entry_sorted (args_sorted1 _) ?_
  unfold Builtin.sorted
  refine wpAny_bind (wpAny_pure ?_)
  show wpAny _ _ (collect (.ref d) >>= _) _ _ _
  refine wpAny_bind (wpAny_collect_seq d (T:="list") (.inl rfl) el rfl rfl (fun h1 keep=>?_) (by rw [List.size_toArray,eits,List.length_map]; exact Nat.le_of_lt (Nat.lt_trans hl (by decide))))
  have I1:Inv X pins σ H { s with heap:=h1,toks:=s.toks }:=I.kept keep
  have e0:its.toArray.toList = (ts0.map fun t=>(t.1,t.2,Value.none)).map fun x=>Value.ref x.2.1:=by
    rw [List.map_map,eits]
    rfl
  rw [e0]
  refine xgz (ts0.map fun t=>(t.1,t.2,Value.none)) I1 (by rw [List.length_map]; exact hl) (fun x hx=>?_) (fun x hx=>?_) hpos (by rw [List.map_map]; exact hnd) fun l ts fr pm pw=>q l ts fr ?_ pw
  · obtain ⟨t,ht,rfl⟩:=List.mem_map.mp hx
    exact km t ht
  · obtain ⟨t,ht,rfl⟩:=List.mem_map.mp hx
    exact hsh t ht
  · rw [List.map_map] at pm
    have e1:ts0.map ((fun x:List Key × Addr × Value=>(x.1,x.2.1)) ∘ fun t=>(t.1,t.2,Value.none)) = ts0:=List.map_id _
    rw [e1] at pm
    exact pm
end L2
set_option maxRecDepth 100000
namespace L2
open PySem PySem.Spec PyProof.Rows XL PySem.W
variable {q0:Bool}
theorem xhf {prog:Program} {w:World} {K:Type} [DecidableEq K] {knd:HeapKind prog w K} {A:Around} {E:Value→Shared→Prop} {s:Shared} {d a b:Addr} {xs:List (K × Addr × Value)} {k:K} {v:Value} {i:Nat} {Q:Option DictEntry→Shared→Prop}
    (hr:knd.room A) (hk:knd.is s.heap k a) (dd:Heap.DictOfH knd s.heap d xs) (hi:xs[i]? = some (k,b,v)) (hz:xs.length≤sizeLine)
    (h:∀ h',Heap.DictOfH knd h' d (xs.eraseIdx i)→Heap.SameBut d s.heap h'→Q (some (entryOfKey knd (k,b,v))) { s with heap:=h',toks:=s.toks + knd.draws k }):wpAny (model prog w) A (Builtin.Dict.takeOut d (.ref a)) Q E s:=by
  obtain ⟨o,es,ep,ho,hx,hdat,hes,hkk,hnd⟩:=dd
  have esz:es.size = xs.length:=by rw [← Array.length_toList,hes,List.length_map]
  unfold Builtin.Dict.takeOut
  refine wpAny_holding (wpAny_bind (knd.pyHash hr hk ?_))
  refine wpAny_bind (wpAny_dictFind_heap (s:={ s with toks:=s.toks + knd.draws k }) hr hk ho hdat hes hkk hnd (fun no=>absurd hi (no i (b,v))) fun j p hj=>?_)
  have ji:j = i:=by
    have e1:(xs.map (·.1))[j]? = (xs.map (·.1))[i]?:=by rw [List.getElem?_map,List.getElem?_map,hj,hi]; rfl
    exact (List.getElem?_inj (by rw [List.length_map]; exact (List.getElem?_eq_some_iff.mp hj).1) hnd).mp e1
  subst ji
  refine wpAny_bind (wpAny_dictEntries ho hdat ?_)
  have e:=entry_at hes j
  rw [hi] at e
  rw [e]
  refine wpAny_bind (wpAny_updateDictKeys ho hdat (wpAny_pure (h _ ?_ (Heap.SameBut.update _ _ _))) (by rw [esz]; exact hz) (by have:=size_eraseIdxIfInBounds_le es j; omega))
  refine ⟨_,_,_,Heap.get?_update_self _ ho (Obj.isFreed_of_dict (Obj.data_mapDictKeys hdat _)),hx.mapDictKeys _,Obj.data_mapDictKeys hdat _,?_,fun x hx'=>?_,?_⟩
  · have e2:(es.eraseIdxIfInBounds j).toList = es.toList.eraseIdx j:=by simp
    rw [e2,hes]
    simp [List.eraseIdx_eq_take_drop_succ,List.map_take,List.map_drop]
  · exact knd.keeps (hkk x (List.mem_of_mem_eraseIdx hx')) ho hdat (Heap.SameBut.update _ _ _)
  · exact List.Nodup.sublist (List.Sublist.map _ (List.eraseIdx_sublist _ _)) hnd
theorem Paired.erase {α β:Type} {F:α→β→Prop} {l₁:List α} {l₂:List β} (h:Paired F l₁ l₂):∀ i,Paired F (l₁.eraseIdx i) (l₂.eraseIdx i):=by
  induction h with
  | nil=>exact fun i=>.nil
  | cons r t ih =>
    intro i
    cases i with
    | zero=>exact t
    | succ i=>exact .cons r (ih i)
theorem Paired.at_ {α β:Type} {F:α→β→Prop} {l₁:List α} {l₂:List β} (h:Paired F l₁ l₂):∀ {i:Nat} {x:α},l₁[i]? = some x→∃ y,l₂[i]? = some y∧F x y:=by
  induction h with
  | nil=>intro i x e; simp at e
  | @cons a b l₁ l₂ r t ih =>
    intro i x e
    cases i with
    | zero =>
      simp at e
      subst e
      exact ⟨b,rfl,r⟩
    | succ i=>exact ih (by simpa using e)
theorem xfq {κ:Type} [DecidableEq κ]:∀ {kvs:List (κ × V)} {i:Nat} {k:κ} {v:V},(kvs.map (·.1)).Nodup→kvs[i]? = some (k,v)→xc9 kvs k = kvs.eraseIdx i
  | [],i,k,v,_,h=>by simp at h
  | p :: r,0,k,v,nd,h=>by
    simp at h
    subst h
    rw [List.map_cons,List.nodup_cons] at nd
    show List.filter _ _ = r
    rw [List.filter_cons_of_neg (by simp)]
    refine List.filter_eq_self.mpr fun q hq=>?_
    have:q.1≠k:=fun e=>nd.1 (e ▸ List.mem_map.mpr ⟨q,hq,rfl⟩)
    simpa using this
  | p :: r,i + 1,k,v,nd,h=>by
    rw [List.map_cons,List.nodup_cons] at nd
    have h':r[i]? = some (k,v):=by simpa using h
    have ne:p.1≠k:=fun e=>nd.1 (by rw [e]; exact List.mem_map.mpr ⟨(k,v),List.mem_of_getElem? h',rfl⟩)
    show List.filter _ _ = p :: r.eraseIdx i
    rw [List.filter_cons_of_pos (by simpa using ne)]
    have:=xfq nd.2 h'
    unfold xc9 at this
    rw [this]
theorem xge {κ:Type} [DecidableEq κ]:∀ {kvs:List (κ × V)} {k:κ} {v:V},valV kvs k = some v→∃ i:Nat,kvs[i]? = some (k,v)
  | [],k,v,h=>by cases h
  | p :: r,k,v,h=>by
    by_cases e:p.1 = k
    · rw [xdj e] at h
      cases h
      exact ⟨0,by simp [← e]⟩
    · rw [xcn e] at h
      obtain ⟨i,hi⟩:=xge h
      exact ⟨i + 1,by simpa using hi⟩
theorem xoh {X:Cx} {pins:List (Addr × Obj)} {σ:St} {H:Hp} {s:Shared} {A:Around} {E:Value→Shared→Prop} {a b:Addr} {kvs:List (List Key × V)} {k:List Key} {v:V} {Q:Value→Shared→Prop} (hu:A.in1.units < cLine) (I:Inv X pins σ H s) (e:H a = some (.dT kvs)) (eb:H b = some (.tup (k.map kV))) (l:valV kvs k = some v)
    (h:∀ w' s',Inv X pins σ (upd H a (.dT (xc9 kvs k))) s'→RelV v w'→Q w' s'):wpAny (model X.prog X.w) A (call (.builtin "dict.pop") [.ref a,.ref b]) Q E s:=by
  obtain ⟨z,hd,xs,rel,dd⟩:=xi2 I.hok e
  obtain ⟨km,ke⟩:=xki rel
  have ln:=Paired.length rel
  obtain ⟨i,hi⟩:=xge l
  obtain ⟨x,hx,rx⟩:∃ x,xs[i]? = some x∧((k,v):List Key × V).1 = x.1∧H x.2.1 = some (.tup (k.map kV))∧RelV v x.2.2:=L2.Paired.at_ rel hi
  obtain ⟨k',b',w'⟩:=x
  obtain ⟨ek,_,rw'⟩:=rx
  simp only at ek
  subst ek
  have dd0:=dd
  obtain ⟨o,es,ep,ho,hxd,hdat,hes,hkk,hnd⟩:=dd
  have ndk:(kvs.map (·.1)).Nodup:=by rw [← ke]; exact hnd
  refine wpAny_call_entry PySem.F.slot_dict_pop ⟨o,ho,hxd.1⟩ PySem.F.entry_dict_pop ?_ (PySem.F.args_dict_pop_2 _ _)
  have ti:s.TypeIs (.ref a) "dict":=⟨o,ho,hxd.1⟩
  unfold Builtin.«dict.pop»
  have esz:es.isEmpty = false:=by
    have:es.size = xs.length:=by rw [← Array.length_toList,hes,List.length_map]
    have:i < xs.length:=(List.getElem?_eq_some_iff.mp hx).1
    rw [Array.isEmpty_eq_false_iff_exists_mem]
    exact ⟨es[i]'(by omega),by simp⟩
  obtain ⟨c0,d0,dat0,sl0⟩:=o
  obtain ⟨x1,x2,x3⟩:=hxd
  simp only at x1 x2 x3 hdat
  subst x1 x2 x3 hdat
  repeat (any_goals (first | assumption | (with_reducible refine wpAny_notOrdered_dict ti ?_) | (with_reducible refine wpAny_dictEntries ho rfl ?_) | ((with_reducible show wpAny _ _ (Builtin.Dict.takeOut _ _) _ _ _); refine xhf (show (tupleKind (xa5 X.prog X.w)).room A.in1 from hu) (xd3 I.hok eb) dd0 hx (by rw [← ln]; exact z) fun h' dd' hs=>?_) | wp_step))
  refine ⟨_,rfl,h w' _ ?_ rw'⟩
  have dd2:=dd'
  obtain ⟨o',es',ep',ho',hx',hd',he',hk',hn'⟩:=dd2
  refine xgf I (by rw [e]; exact True.intro) hs ⟨o',ho'⟩ ?_
  refine ⟨Nat.le_trans (xl3 kvs k) z,hd,xs.eraseIdx i,?_,o',es',ep',ho',hx',hd',he',hn'⟩
  rw [xfq ndk hi]
  refine Paired.mapP (L2.Paired.erase rel i) fun p q zz=>⟨zz.1,?_,zz.2.2⟩
  rw [xm (xab zz.2.1 e (fun z=>nomatch z))]
  exact zz.2.1
def xns (td ty:TE):TE:=fun σ H Q=>td σ H fun x H1=>∃ a,x = .ref a∧IsD H1 a∧ty σ H1 fun y H2=>∃ kvs k b v,H2 a = some (.dT kvs)∧y = .ref b∧H2 b = some (.tup (k.map kV))∧valV kvs k = some v∧Q v (upd H2 a (.dT (xc9 kvs k)))
section
variable {X:Cx} {o e:Expr} {td ty:TE} {apos cpos:Pos}
theorem xla (hu:X.A.units + 1 < cLine) (ho:PE X o td) (he:PE X e ty) (m:M1 X o "pop" apos e cpos):PE X (.Call (.Attribute o "pop" apos) [e] [] cpos) (xns td ty):=by
  intro pins s σ H Q I h
  refine wpAny_Call_method m.base m.few m.line PySem.F.plainAttrs_dict PySem.F.slot_dict_pop PySem.F.type_dict_pop (thn (ho pins s σ H _ I h) fun u s1 ⟨x,H1,I1,rx,a,ex,d,q1⟩=>?_)
  subst ex
  obtain rfl:u = Value.ref a:=rx
  obtain ⟨t1,t2,_⟩:=xn6 I1 d
  refine ⟨t1,t2,?_⟩
  rw [m.trees]
  refine Calls.callWith_builtin rfl (Calls.evalArgs_plain (Calls.spliced_cons (thn (he pins s1 σ H1 _ I1 q1) fun iv s2 ⟨y,H2,I2,ry,kvs,k,b,v,ea,ey,eb,l,q2⟩=>Calls.spliced_nil ?_)))
  subst ey
  obtain rfl:iv = Value.ref b:=ry
  exact xoh hu I2 ea eb l fun w' s3 I3 rw'=>⟨v,_,I3,rw',q2⟩
end
end L2
set_option maxRecDepth 100000
namespace L2
open PySem PySem.Spec PyProof.Rows XL PySem.W
variable {q0:Bool}
end L2
set_option maxRecDepth 100000
set_option maxHeartbeats 1000000
namespace L2
open PySem PySem.Spec PyProof.Rows XL PySem.W
inductive DV where
  | non
  | bl (b:Bool)
  | int (i:Int)
  | str (x:Str)
  | tup (xs:List DV)
  | lst (xs:List DV)
mutual
def dEq:DV→DV→Bool
  | .non,.non=>true
  | .bl a,.bl b=>a == b
  | .bl a,.int b=>(if a then 1 else 0) == b
  | .int a,.bl b=>a == (if b then 1 else 0)
  | .int a,.int b=>a == b
  | .str a,.str b=>a == b
  | .tup xs,.tup ys=>dEqs xs ys
  | .lst xs,.lst ys=>dEqs xs ys
  | _,_=>false
def dEqs:List DV→List DV→Bool
  | [],[]=>true
  | x :: xs,y :: ys=>dEq x y && dEqs xs ys
  | _,_=>false
end
mutual
theorem xba:∀ d,dEq d d = true
  | .non=>rfl
  | .bl _=>by simp [dEq]
  | .int _=>by simp [dEq]
  | .str _=>by simp [dEq]
  | .tup xs=>by simp only [dEq]; exact xc0 xs
  | .lst xs=>by simp only [dEq]; exact xc0 xs
theorem xc0:∀ xs,dEqs xs xs = true
  | []=>rfl
  | x :: xs=>by simp only [dEqs,Bool.and_eq_true]; exact ⟨xba x,xc0 xs⟩
end
mutual
def DV.pl:DV→Bool
  | .bl _=>false
  | .tup xs=>pls xs
  | .lst xs=>pls xs
  | _=>true
def pls:List DV→Bool
  | []=>true
  | x :: xs=>x.pl && pls xs
end
mutual
theorem xjn:∀ {d e:DV},d.pl = true→e.pl = true→dEq d e = true→d = e
  | .non,.non,_,_,_=>rfl
  | .int a,.int b,_,_,h=>by simp only [dEq,beq_iff_eq] at h; rw [h]
  | .str a,.str b,_,_,h=>by simp only [dEq,beq_iff_eq] at h; rw [h]
  | .tup xs,.tup ys,p,q,h=>by
    simp only [dEq] at h
    simp only [DV.pl] at p q
    rw [xf9 p q h]
  | .lst xs,.lst ys,p,q,h=>by
    simp only [dEq] at h
    simp only [DV.pl] at p q
    rw [xf9 p q h]
  | .bl _,_,p,_,_=>by simp [DV.pl] at p
  | .non,.bl _,_,q,_=>by simp [DV.pl] at q
  | .int _,.bl _,_,q,_=>by simp [DV.pl] at q
  | .str _,.bl _,_,q,_=>by simp [DV.pl] at q
  | .tup _,.bl _,_,q,_=>by simp [DV.pl] at q
  | .lst _,.bl _,_,q,_=>by simp [DV.pl] at q
  | .non,.int _,_,_,h=>by simp [dEq] at h
  | .non,.str _,_,_,h=>by simp [dEq] at h
  | .non,.tup _,_,_,h=>by simp [dEq] at h
  | .non,.lst _,_,_,h=>by simp [dEq] at h
  | .int _,.non,_,_,h=>by simp [dEq] at h
  | .int _,.str _,_,_,h=>by simp [dEq] at h
  | .int _,.tup _,_,_,h=>by simp [dEq] at h
  | .int _,.lst _,_,_,h=>by simp [dEq] at h
  | .str _,.non,_,_,h=>by simp [dEq] at h
  | .str _,.int _,_,_,h=>by simp [dEq] at h
  | .str _,.tup _,_,_,h=>by simp [dEq] at h
  | .str _,.lst _,_,_,h=>by simp [dEq] at h
  | .tup _,.non,_,_,h=>by simp [dEq] at h
  | .tup _,.int _,_,_,h=>by simp [dEq] at h
  | .tup _,.str _,_,_,h=>by simp [dEq] at h
  | .tup _,.lst _,_,_,h=>by simp [dEq] at h
  | .lst _,.non,_,_,h=>by simp [dEq] at h
  | .lst _,.int _,_,_,h=>by simp [dEq] at h
  | .lst _,.str _,_,_,h=>by simp [dEq] at h
  | .lst _,.tup _,_,_,h=>by simp [dEq] at h
theorem xf9:∀ {xs ys:List DV},pls xs = true→pls ys = true→dEqs xs ys = true→xs = ys
  | [],[],_,_,_=>rfl
  | x :: xs,y :: ys,p,q,h=>by
    simp only [pls,Bool.and_eq_true] at p q
    simp only [dEqs,Bool.and_eq_true] at h
    rw [xjn p.1 q.1 h.1,xf9 p.2 q.2 h.2]
  | [],_ :: _,_,_,h=>by simp [dEqs] at h
  | _ :: _,[],_,_,h=>by simp [dEqs] at h
end
theorem xm3 {d e:DV} {α:Type} {x y:α} [DecidableEq α] (p:d.pl = true) (q:e.pl = true) (f:d = e ↔ x = y):dEq d e = decide (x = y):=by
  by_cases c:x = y
  · rw [decide_eq_true c,f.mpr c]
    exact xba _
  · rw [decide_eq_false c]
    cases z:dEq d e with
    | false=>rfl
    | true=>exact absurd (f.mp (xjn p q z)) c
theorem xfd:∀ {xs ys:List DV} {e:Nat→Bool},(∀ (j:Nat) (x y:DV),xs[j]? = some x→ys[j]? = some y→e j = dEq x y)→((List.range (min xs.length ys.length)).all e && xs.length == ys.length) = dEqs xs ys
  | [],[],_,_=>rfl
  | [],_ :: _,_,_=>by simp [dEqs]
  | _ :: _,[],_,_=>by simp [dEqs]
  | x :: xs,y :: ys,e,h=>by
    have ih:=xfd (xs:=xs) (ys:=ys) (e:=fun j=>e (j + 1)) (fun j a b ha hb=>h (j + 1) a b (by simpa using ha) (by simpa using hb))
    have h0:=h 0 x y rfl rfl
    rw [List.length_cons,List.length_cons,show min (xs.length + 1) (ys.length + 1) = min xs.length ys.length + 1 by omega,List.range_succ_eq_map,List.all_cons,List.all_map]
    show _ = (dEq x y && dEqs xs ys)
    rw [← ih,h0]
    have z:((xs.length + 1 == ys.length + 1):Bool) = (xs.length == ys.length):=by
      rw [Bool.eq_iff_iff]
      simp
    rw [z,Bool.and_assoc]
    rfl
theorem xha:∀ {xs ys:List DV},xs.length≠ys.length→dEqs xs ys = false
  | [],[],h=>absurd rfl h
  | [],_ :: _,_=>rfl
  | _ :: _,[],_=>rfl
  | x :: xs,y :: ys,h=>by
    show (dEq x y && dEqs xs ys) = false
    rw [xha (xs:=xs) (ys:=ys) (fun z=>h (by simp [z]))]
    exact Bool.and_false _
inductive Dv (K:PySem.W.Frag) (H:Hp):Nat→V→DV→Prop
  | non {n:Nat}:Dv K H n .non .non
  | bl {n:Nat} {b:Bool}:Dv K H n (.bl b) (.bl b)
  | int {n:Nat} {b:Int}:Dv K H n (.int b) (.int b)
  | str {n:Nat} {b:Str}:Dv K H n (.str b) (.str b)
  | tup {n:Nat} {a:Addr} {xs:List V} {ds:List DV} (ha:SqT K H a xs) (hl:xs.length = ds.length) (h:∀ (j:Nat) (x:V) (d:DV),xs[j]? = some x→ds[j]? = some d→Dv K H n x d):Dv K H (n + 1) (.ref a) (.tup ds)
  | lst {n:Nat} {a:Addr} {xs:List V} {ds:List DV} (ha:SqL K H a xs) (hl:xs.length = ds.length) (h:∀ (j:Nat) (x:V) (d:DV),xs[j]? = some x→ds[j]? = some d→Dv K H n x d):Dv K H (n + 1) (.ref a) (.lst ds)
section
variable {X:Cx} {pins:List (Addr × Obj)} {σ:St} {H:Hp} {s:Shared}
theorem xgn {h:Heap} {a:Addr} {i j:Array Value} (p:h.IsTuple a i) (q:PlainL h a j):False:=by
  obtain ⟨o,e,c,_⟩:=p
  obtain ⟨o',n,e',c',_⟩:=q
  rw [e] at e'
  cases e'
  rw [c] at c'
  exact absurd c' (by decide)
theorem xjo {xs ys:List DV} (h:xs.length = ys.length) (f:∀ (j:Nat) (x y:DV),xs[j]? = some x→ys[j]? = some y→x = y):xs = ys:=by
  refine List.ext_getElem? fun j=>?_
  by_cases c:j < xs.length
  · rw [List.getElem?_eq_getElem c,List.getElem?_eq_getElem (by omega),f j _ _ (List.getElem?_eq_getElem c) (List.getElem?_eq_getElem (by omega))]
  · rw [List.getElem?_eq_none (by omega),List.getElem?_eq_none (by omega)]
theorem xh1 (I:Inv X pins σ H s) {n:Nat} {x:V} {d:DV} (h:Dv X.K H n x d):∀ {m:Nat} {e:DV},Dv X.K H m x e→d = e:=by
  induction h with
  | non=>intro m e h; cases h; rfl
  | bl=>intro m e h; cases h; rfl
  | int=>intro m e h; cases h; rfl
  | str=>intro m e h; cases h; rfl
  | @tup n a xs ds ha hl h ih =>
    intro m e h2
    cases h2 with
    | @tup m _ ys es hb kl k =>
      obtain rfl:=I.tuple_inj ha hb
      refine congrArg DV.tup (xjo (by omega) fun j d e h1 h2=>?_)
      have lt:j < xs.length:=by
        have:=(List.getElem?_eq_some_iff.mp h1).1
        omega
      exact ih j xs[j] d (List.getElem?_eq_getElem lt) h1 (k j xs[j] e (List.getElem?_eq_getElem lt) h2)
    | @lst m _ ys es hb kl k =>
      obtain ⟨its,_,t1,_⟩:=I.tuple ha
      obtain ⟨its2,_,t2,_⟩:=I.list hb
      exact (xgn t1 t2).elim
  | @lst n a xs ds ha hl h ih =>
    intro m e h2
    cases h2 with
    | @lst m _ ys es hb kl k =>
      obtain rfl:=I.list_inj ha hb
      refine congrArg DV.lst (xjo (by omega) fun j d e h1 h2=>?_)
      have lt:j < xs.length:=by
        have:=(List.getElem?_eq_some_iff.mp h1).1
        omega
      exact ih j xs[j] d (List.getElem?_eq_getElem lt) h1 (k j xs[j] e (List.getElem?_eq_getElem lt) h2)
    | @tup m _ ys es hb kl k =>
      obtain ⟨its,_,t1,_⟩:=I.tuple hb
      obtain ⟨its2,_,t2,_⟩:=I.list ha
      exact (xgn t1 t2).elim
def at2 (f:DV→DV→Bool) (ds es:List DV) (j:Nat):Bool:=match ds[j]?,es[j]? with | some d,some e=>f d e | _,_=>false
theorem xfx {f:DV→DV→Bool} {ds es:List DV} {j:Nat} {d e:DV} (h:ds[j]? = some d) (h2:es[j]? = some e):at2 f ds es j = f d e:=by
  unfold at2
  rw [h,h2]
theorem xfr (I:Inv X pins σ H s) {n:Nat} {x:V} {d:DV} (h:Dv X.K H n x d):∀ {m:Nat} {y:V} {e:DV},Dv X.K H m y e→∀ {A:Around} {u v:Value},A.units + n + m < cLine→RelV x u→RelV y v →
    SeqAt.EqAt A s u v (dEq d e)∧SeqAt.RcAt A s u v (dEq d e)∧SeqAt.RcNeAt A s u v (!dEq d e):=by
  induction h with
  | @non n =>
    intro m y e h2 A u v hu rx ry
    obtain rfl:u = Value.none:=rx
    cases h2 with
    | @non  =>
      obtain rfl:v = Value.none:=ry
      exact ⟨SeqAt.EqAt.same _,SeqAt.RcAt.none_none,SeqAt.RcNeAt.none_none⟩
    | @bl _ b2 =>
      obtain rfl:v = Value.bool _:=ry
      exact ⟨SeqAt.EqAt.none_bool _,SeqAt.RcAt.none_bool _,SeqAt.RcNeAt.none_bool _⟩
    | @int _ b2 =>
      obtain ⟨_,rfl⟩:=ry
      exact ⟨SeqAt.EqAt.none_int _ _,SeqAt.RcAt.none_int _ _,SeqAt.RcNeAt.none_int _ _⟩
    | @str _ b2 =>
      obtain ⟨_,rfl⟩:=ry
      exact ⟨SeqAt.EqAt.none_str _ _,SeqAt.RcAt.none_str _ _,SeqAt.RcNeAt.none_str _ _⟩
    | @tup m b ys es hb kl k =>
      obtain rfl:v = Value.ref _:=ry
      obtain ⟨its2,r2,t2,z2⟩:=I.tuple hb
      have l2:=r2.length
      exact ⟨SeqAt.EqAt.none_tuple t2 (by omega),SeqAt.RcAt.none_tuple t2 (by omega),SeqAt.RcNeAt.none_tuple t2 (by omega)⟩
    | @lst m b ys es hb kl k =>
      obtain rfl:v = Value.ref _:=ry
      obtain ⟨its2,r2,t2,z2⟩:=I.list hb
      have l2:=r2.length
      exact ⟨SeqAt.EqAt.none_list t2.isList (by omega),SeqAt.RcAt.none_list t2.isList (by omega),SeqAt.RcNeAt.none_list t2.isList (by omega)⟩
  | @bl n b1 =>
    intro m y e h2 A u v hu rx ry
    obtain rfl:u = Value.bool _:=rx
    cases h2 with
    | @non  =>
      obtain rfl:v = Value.none:=ry
      exact ⟨SeqAt.EqAt.bool_none _,SeqAt.RcAt.bool_none _,SeqAt.RcNeAt.bool_none _⟩
    | @bl _ b2 =>
      obtain rfl:v = Value.bool _:=ry
      exact ⟨SeqAt.EqAt.bool_bool _ _,SeqAt.RcAt.bool_bool _ _,SeqAt.RcNeAt.bool_bool _ _⟩
    | @int _ b2 =>
      obtain ⟨_,rfl⟩:=ry
      exact ⟨SeqAt.EqAt.bool_int _ _ _,SeqAt.RcAt.bool_int _ _ _,SeqAt.RcNeAt.bool_int _ _ _⟩
    | @str _ b2 =>
      obtain ⟨_,rfl⟩:=ry
      exact ⟨SeqAt.EqAt.bool_str _ _ _,SeqAt.RcAt.bool_str _ _ _,SeqAt.RcNeAt.bool_str _ _ _⟩
    | @tup m b ys es hb kl k =>
      obtain rfl:v = Value.ref _:=ry
      obtain ⟨its2,r2,t2,z2⟩:=I.tuple hb
      have l2:=r2.length
      exact ⟨SeqAt.EqAt.bool_tuple _ t2 (by omega),SeqAt.RcAt.bool_tuple _ t2 (by omega),SeqAt.RcNeAt.bool_tuple _ t2 (by omega)⟩
    | @lst m b ys es hb kl k =>
      obtain rfl:v = Value.ref _:=ry
      obtain ⟨its2,r2,t2,z2⟩:=I.list hb
      have l2:=r2.length
      exact ⟨SeqAt.EqAt.bool_list _ t2.isList (by omega),SeqAt.RcAt.bool_list _ t2.isList (by omega),SeqAt.RcNeAt.bool_list _ t2.isList (by omega)⟩
  | @int n b1 =>
    intro m y e h2 A u v hu rx ry
    obtain ⟨_,rfl⟩:=rx
    cases h2 with
    | @non  =>
      obtain rfl:v = Value.none:=ry
      exact ⟨SeqAt.EqAt.int_none _ _,SeqAt.RcAt.int_none _ _,SeqAt.RcNeAt.int_none _ _⟩
    | @bl _ b2 =>
      obtain rfl:v = Value.bool _:=ry
      exact ⟨SeqAt.EqAt.int_bool _ _ _,SeqAt.RcAt.int_bool _ _ _,SeqAt.RcNeAt.int_bool _ _ _⟩
    | @int _ b2 =>
      obtain ⟨_,rfl⟩:=ry
      exact ⟨SeqAt.EqAt.int_int _ _ _ _,SeqAt.RcAt.int_int _ _ _ _,SeqAt.RcNeAt.int_int _ _ _ _⟩
    | @str _ b2 =>
      obtain ⟨_,rfl⟩:=ry
      exact ⟨SeqAt.EqAt.int_str _ _ _ _,SeqAt.RcAt.int_str _ _ _ _,SeqAt.RcNeAt.int_str _ _ _ _⟩
    | @tup m b ys es hb kl k =>
      obtain rfl:v = Value.ref _:=ry
      obtain ⟨its2,r2,t2,z2⟩:=I.tuple hb
      have l2:=r2.length
      exact ⟨SeqAt.EqAt.int_tuple _ _ t2 (by omega),SeqAt.RcAt.int_tuple _ _ t2 (by omega),SeqAt.RcNeAt.int_tuple _ _ t2 (by omega)⟩
    | @lst m b ys es hb kl k =>
      obtain rfl:v = Value.ref _:=ry
      obtain ⟨its2,r2,t2,z2⟩:=I.list hb
      have l2:=r2.length
      exact ⟨SeqAt.EqAt.int_list _ _ t2.isList (by omega),SeqAt.RcAt.int_list _ _ t2.isList (by omega),SeqAt.RcNeAt.int_list _ _ t2.isList (by omega)⟩
  | @str n b1 =>
    intro m y e h2 A u v hu rx ry
    obtain ⟨_,rfl⟩:=rx
    cases h2 with
    | @non  =>
      obtain rfl:v = Value.none:=ry
      exact ⟨SeqAt.EqAt.str_none _ _,SeqAt.RcAt.str_none _ _,SeqAt.RcNeAt.str_none _ _⟩
    | @bl _ b2 =>
      obtain rfl:v = Value.bool _:=ry
      exact ⟨SeqAt.EqAt.str_bool _ _ _,SeqAt.RcAt.str_bool _ _ _,SeqAt.RcNeAt.str_bool _ _ _⟩
    | @int _ b2 =>
      obtain ⟨_,rfl⟩:=ry
      exact ⟨SeqAt.EqAt.str_int _ _ _ _,SeqAt.RcAt.str_int _ _ _ _,SeqAt.RcNeAt.str_int _ _ _ _⟩
    | @str _ b2 =>
      obtain ⟨_,rfl⟩:=ry
      exact ⟨SeqAt.EqAt.str_str _ _ _ _,SeqAt.RcAt.str_str _ _ _ _,SeqAt.RcNeAt.str_str _ _ _ _⟩
    | @tup m b ys es hb kl k =>
      obtain rfl:v = Value.ref _:=ry
      obtain ⟨its2,r2,t2,z2⟩:=I.tuple hb
      have l2:=r2.length
      exact ⟨SeqAt.EqAt.str_tuple _ _ t2 (by omega),SeqAt.RcAt.str_tuple _ _ t2 (by omega),SeqAt.RcNeAt.str_tuple _ _ t2 (by omega)⟩
    | @lst m b ys es hb kl k =>
      obtain rfl:v = Value.ref _:=ry
      obtain ⟨its2,r2,t2,z2⟩:=I.list hb
      have l2:=r2.length
      exact ⟨SeqAt.EqAt.str_list _ _ t2.isList (by omega),SeqAt.RcAt.str_list _ _ t2.isList (by omega),SeqAt.RcNeAt.str_list _ _ t2.isList (by omega)⟩
  | @tup n a xs ds ha hl h ih =>
    intro m y e h2 A u v hu rx ry
    obtain rfl:u = Value.ref _:=rx
    obtain ⟨its,r1,t1,z1⟩:=I.tuple ha
    have l1:=r1.length
    cases h2 with
    | @non  =>
      obtain rfl:v = Value.none:=ry
      exact ⟨SeqAt.EqAt.tuple_none t1 (by omega),SeqAt.RcAt.tuple_none t1 (by omega),SeqAt.RcNeAt.tuple_none t1 (by omega)⟩
    | @bl _ b2 =>
      obtain rfl:v = Value.bool _:=ry
      exact ⟨SeqAt.EqAt.tuple_bool _ t1 (by omega),SeqAt.RcAt.tuple_bool _ t1 (by omega),SeqAt.RcNeAt.tuple_bool _ t1 (by omega)⟩
    | @int _ b2 =>
      obtain ⟨_,rfl⟩:=ry
      exact ⟨SeqAt.EqAt.tuple_int _ _ t1 (by omega),SeqAt.RcAt.tuple_int _ _ t1 (by omega),SeqAt.RcNeAt.tuple_int _ _ t1 (by omega)⟩
    | @str _ b2 =>
      obtain ⟨_,rfl⟩:=ry
      exact ⟨SeqAt.EqAt.tuple_str _ _ t1 (by omega),SeqAt.RcAt.tuple_str _ _ t1 (by omega),SeqAt.RcNeAt.tuple_str _ _ t1 (by omega)⟩
    | @tup m b ys es hb kl k =>
      obtain rfl:v = Value.ref _:=ry
      obtain ⟨its2,r2,t2,z2⟩:=I.tuple hb
      have l2:=r2.length
      have step:∀ (j:Nat) (h1:j < its.toArray.size) (h2:j < its2.toArray.size),SeqAt.EqAt A.in1 s its.toArray[j] its2.toArray[j] (at2 dEq ds es j):=fun j h1 h2=>by
        obtain ⟨x,hx,rx⟩:=xd0 r1 h1
        obtain ⟨y,hy,ry⟩:=xd0 r2 h2
        have j1:j < ds.length:=by simp at h1; omega
        have j2:j < es.length:=by simp at h2; omega
        rw [xfx (List.getElem?_eq_getElem j1) (List.getElem?_eq_getElem j2)]
        exact (ih j x _ hx (List.getElem?_eq_getElem j1) (k j y _ hy (List.getElem?_eq_getElem j2)) (A:=A.in1) (by show A.units + 1 + n + m < cLine; omega) rx ry).1
      have all:=xfd (xs:=ds) (ys:=es) (e:=at2 dEq ds es) fun j x y h1 h2=>xfx h1 h2
      have both:SeqAt.RcAt A s (.ref a) (.ref b) (dEqs ds es)∧SeqAt.RcNeAt A s (.ref a) (.ref b) (!dEqs ds es):=by
        have z1:=SeqAt.RcAt.tuples (A:=A) (e:=at2 dEq ds es) (show s.heap.IsTuple a its.toArray from t1) (show s.heap.IsTuple b its2.toArray from t2) (by omega) step
        have z2:=SeqAt.RcNeAt.tuples (A:=A) (e:=at2 dEq ds es) (show s.heap.IsTuple a its.toArray from t1) (show s.heap.IsTuple b its2.toArray from t2) (by omega) step
        have e1:its.toArray.size = ds.length:=by simp; omega
        have e2:its2.toArray.size = es.length:=by simp; omega
        rw [e1,e2,all] at z1 z2
        exact ⟨z1,z2⟩
      simp only [dEq]
      refine ⟨?_,both⟩
      by_cases q:a = b
      · subst q
        have ed:DV.tup ds = DV.tup es:=xh1 I (Dv.tup ha hl h) (Dv.tup hb kl k)
        rw [show es = ds by injection ed with z; exact z.symm,xc0]
        exact SeqAt.EqAt.same _
      · exact .of_refs q both.1
    | @lst m b ys es hb kl k =>
      obtain rfl:v = Value.ref _:=ry
      obtain ⟨its2,r2,t2,z2⟩:=I.list hb
      have l2:=r2.length
      exact ⟨SeqAt.EqAt.tuple_list t1 t2.isList (by omega),SeqAt.RcAt.tuple_list t1 t2.isList (by omega),SeqAt.RcNeAt.tuple_list t1 t2.isList (by omega)⟩
  | @lst n a xs ds ha hl h ih =>
    intro m y e h2 A u v hu rx ry
    obtain rfl:u = Value.ref _:=rx
    obtain ⟨its,r1,t1,z1⟩:=I.list ha
    have l1:=r1.length
    cases h2 with
    | @non  =>
      obtain rfl:v = Value.none:=ry
      exact ⟨SeqAt.EqAt.list_none t1.isList (by omega),SeqAt.RcAt.list_none t1.isList (by omega),SeqAt.RcNeAt.list_none t1.isList (by omega)⟩
    | @bl _ b2 =>
      obtain rfl:v = Value.bool _:=ry
      exact ⟨SeqAt.EqAt.list_bool _ t1.isList (by omega),SeqAt.RcAt.list_bool _ t1.isList (by omega),SeqAt.RcNeAt.list_bool _ t1.isList (by omega)⟩
    | @int _ b2 =>
      obtain ⟨_,rfl⟩:=ry
      exact ⟨SeqAt.EqAt.list_int _ _ t1.isList (by omega),SeqAt.RcAt.list_int _ _ t1.isList (by omega),SeqAt.RcNeAt.list_int _ _ t1.isList (by omega)⟩
    | @str _ b2 =>
      obtain ⟨_,rfl⟩:=ry
      exact ⟨SeqAt.EqAt.list_str _ _ t1.isList (by omega),SeqAt.RcAt.list_str _ _ t1.isList (by omega),SeqAt.RcNeAt.list_str _ _ t1.isList (by omega)⟩
    | @tup m b ys es hb kl k =>
      obtain rfl:v = Value.ref _:=ry
      obtain ⟨its2,r2,t2,z2⟩:=I.tuple hb
      have l2:=r2.length
      exact ⟨SeqAt.EqAt.list_tuple t1.isList t2 (by omega),SeqAt.RcAt.list_tuple t1.isList t2 (by omega),SeqAt.RcNeAt.list_tuple t1.isList t2 (by omega)⟩
    | @lst m b ys es hb kl k =>
      obtain rfl:v = Value.ref _:=ry
      obtain ⟨its2,r2,t2,z2⟩:=I.list hb
      have l2:=r2.length
      have step:∀ (j:Nat) (h1:j < its.toArray.size) (h2:j < its2.toArray.size),SeqAt.EqAt A.in1 s its.toArray[j] its2.toArray[j] (at2 dEq ds es j):=fun j h1 h2=>by
        obtain ⟨x,hx,rx⟩:=xd0 r1 h1
        obtain ⟨y,hy,ry⟩:=xd0 r2 h2
        have j1:j < ds.length:=by simp at h1; omega
        have j2:j < es.length:=by simp at h2; omega
        rw [xfx (List.getElem?_eq_getElem j1) (List.getElem?_eq_getElem j2)]
        exact (ih j x _ hx (List.getElem?_eq_getElem j1) (k j y _ hy (List.getElem?_eq_getElem j2)) (A:=A.in1) (by show A.units + 1 + n + m < cLine; omega) rx ry).1
      have all:=xfd (xs:=ds) (ys:=es) (e:=at2 dEq ds es) fun j x y h1 h2=>xfx h1 h2
      have both:SeqAt.RcAt A s (.ref a) (.ref b) (dEqs ds es)∧SeqAt.RcNeAt A s (.ref a) (.ref b) (!dEqs ds es):=by
        have e1:its.toArray.size = ds.length:=by simp; omega
        have e2:its2.toArray.size = es.length:=by simp; omega
        by_cases c:ds.length = es.length
        · have z1:=SeqAt.RcAt.lists (A:=A) (e:=at2 dEq ds es) t1.isList t2.isList (by omega) (by omega) step
          have z2:=SeqAt.RcNeAt.lists (A:=A) (e:=at2 dEq ds es) t1.isList t2.isList (by omega) (by omega) step
          have all':(List.range ds.length).all (at2 dEq ds es) = dEqs ds es:=by
            rw [← all,c,Nat.min_self]
            simp
          rw [e1,all'] at z1 z2
          exact ⟨z1,z2⟩
        · rw [xha c]
          exact ⟨SeqAt.RcAt.lists_lengths (A:=A) t1.isList t2.isList (by rw [e1,e2]; simpa using c) (by omega),SeqAt.RcNeAt.lists_lengths (A:=A) t1.isList t2.isList (by rw [e1,e2]; simpa using c) (by omega)⟩
      simp only [dEq]
      refine ⟨?_,both⟩
      by_cases q:a = b
      · subst q
        have ed:DV.lst ds = DV.lst es:=xh1 I (Dv.lst ha hl h) (Dv.lst hb kl k)
        rw [show es = ds by injection ed with z; exact z.symm,xc0]
        exact SeqAt.EqAt.same _
      · exact .of_refs q both.1
end
theorem Same.seqL {K:PySem.W.Frag} {H H':Hp} {a:Addr} {xs:List V} (s:Same H H') (h:SqL K H a xs):SqL K H' a xs:=by
  rcases h with (h | ⟨ob,h⟩) | h
  · exact .inl (.inl (s _ _ h))
  · exact .inl (.inr ⟨ob,s _ _ h⟩)
  · exact .inr h
def rEqV (K:PySem.W.Frag):R2:=fun x y H Q=>∃ (n m:Nat) (d e:DV),Dv K H n x d∧Dv K H m y e∧n≤9∧m≤9∧Q (.bl (dEq d e)) H
def rNeV (K:PySem.W.Frag):R2:=fun x y H Q=>∃ (n m:Nat) (d e:DV),Dv K H n x d∧Dv K H m y e∧n≤9∧m≤9∧Q (.bl (!dEq d e)) H
def rInV (K:PySem.W.Frag) (neg:Bool):R2:=fun x y H Q=>∃ (n m:Nat) (d:DV) (es:List DV),Dv K H n x d∧Dv K H m y (.lst es)∧n≤9∧m≤9∧Q (.bl (if neg then !es.any (fun z=>dEq z d) else es.any fun z=>dEq z d)) H
section
variable {X:Cx}
theorem xb4 (hu:X.A.units + 20 < cLine):OpR X (compareOp .Eq) (rEqV X.K):=by
  intro pins s σ H x y u v Q I rx ry h
  obtain ⟨n,m,d,e,h1,h2,hn,hm,q⟩:=h
  exact (xfr I h1 h2 (A:=X.A) (by omega) rx ry).2.1 X.prog X.w X.xe _ ⟨.bl _,H,I,rfl,q⟩
theorem xc2 (hu:X.A.units + 20 < cLine):OpR X (compareOp .NotEq) (rNeV X.K):=by
  intro pins s σ H x y u v Q I rx ry h
  obtain ⟨n,m,d,e,h1,h2,hn,hm,q⟩:=h
  exact PySem.W.cmp_ofNotEq ((xfr I h1 h2 (A:=X.A) (by omega) rx ry).2.2 X.prog X.w X.xe _ ⟨.bl _,H,I,rfl,q⟩)
theorem xhm {α β:Type} {f:α→Bool} {g:β→Bool}:∀ {xs:List α} {ys:List β},xs.length = ys.length→(∀ (j:Nat) (x:α) (y:β),xs[j]? = some x→ys[j]? = some y→f x = g y)→xs.any f = ys.any g
  | [],[],_,_=>rfl
  | [],_ :: _,h,_=>by cases h
  | _ :: _,[],h,_=>by cases h
  | x :: xs,y :: ys,h,k=>by
    rw [List.any_cons,List.any_cons,k 0 x y rfl rfl,xhm (xs:=xs) (ys:=ys) (by simpa using h) fun j a b h1 h2=>k (j + 1) a b (by simpa using h1) (by simpa using h2)]
noncomputable def eOf (K:PySem.W.Frag) (H:Hp) (m:Nat) (d:DV) (z:V):Bool:=@dite Bool (∃ e,Dv K H m z e) (Classical.propDecidable _) (fun h=>dEq h.choose d) fun _=>false
theorem xdk {pins:List (Addr × Obj)} {σ:St} {H:Hp} {s:Shared} (I:Inv X pins σ H s) {m:Nat} {d e:DV} {z:V} (h:Dv X.K H m z e):eOf X.K H m d z = dEq e d:=by
  unfold eOf
  rw [dif_pos ⟨e,h⟩]
  have ex:∃ e,Dv X.K H m z e:=⟨e,h⟩
  rw [xh1 I ex.choose_spec h]
theorem xkm (hu:X.A.units + 20 < cLine):OpR X (compareOp .In) (rInV X.K false):=by
  intro pins s σ H x y v u Q I rx ry h
  obtain ⟨n,m,d,es,h1,h2,hn,hm,q⟩:=h
  cases h2 with
  | @lst m a xs _ ha hl k =>
    cases ry
    obtain ⟨its,r,pl,hz⟩:=I.list ha
    have get:∀ z ∈ xs,∃ (j:Nat) (e:DV),xs[j]? = some z∧es[j]? = some e∧Dv X.K H m z e:=fun z hz=>by
      obtain ⟨j,hj⟩:=List.getElem?_of_mem hz
      have lt:j < es.length:=by rw [← hl]; exact (List.getElem?_eq_some_iff.mp hj).1
      exact ⟨j,es[j],hj,List.getElem?_eq_getElem lt,k j z _ hj (List.getElem?_eq_getElem lt)⟩
    refine SeqAt.in_listAt (eU (eOf X.K H m d)) pl.isList (fun w hw=>?_) ⟨.bl _,H,I,rfl,?_⟩
    · obtain ⟨z,m1,m2⟩:=xf4 r w (by simpa using hw)
      obtain ⟨j,e,_,_,he⟩:=get z m1
      rw [xe1 m2,xdk I he]
      exact (xfr I he h1 (A:=X.A.in1) (by show X.A.units + 1 + m + n < cLine; omega) m2 rx).1
    · rw [show its.toArray.any (eU (eOf X.K H m d)) = its.any (eU (eOf X.K H m d)) by simp,xhr r,xhm (g:=fun z=>dEq z d) hl fun j z e g1 g2=>xdk I (k j z e g1 g2)]
      exact q
theorem xka (hu:X.A.units + 20 < cLine):OpR X (compareOp .NotIn) (rInV X.K true):=by
  intro pins s σ H x y v u Q I rx ry h
  obtain ⟨n,m,d,es,h1,h2,hn,hm,q⟩:=h
  cases h2 with
  | @lst m a xs _ ha hl k =>
    cases ry
    obtain ⟨its,r,pl,hz⟩:=I.list ha
    have get:∀ z ∈ xs,∃ (j:Nat) (e:DV),xs[j]? = some z∧es[j]? = some e∧Dv X.K H m z e:=fun z hz=>by
      obtain ⟨j,hj⟩:=List.getElem?_of_mem hz
      have lt:j < es.length:=by rw [← hl]; exact (List.getElem?_eq_some_iff.mp hj).1
      exact ⟨j,es[j],hj,List.getElem?_eq_getElem lt,k j z _ hj (List.getElem?_eq_getElem lt)⟩
    refine SeqAt.notIn_listAt (eU (eOf X.K H m d)) pl.isList (fun w hw=>?_) ⟨.bl _,H,I,rfl,?_⟩
    · obtain ⟨z,m1,m2⟩:=xf4 r w (by simpa using hw)
      obtain ⟨j,e,_,_,he⟩:=get z m1
      rw [xe1 m2,xdk I he]
      exact (xfr I he h1 (A:=X.A.in1) (by show X.A.units + 1 + m + n < cLine; omega) m2 rx).1
    · rw [show its.toArray.any (eU (eOf X.K H m d)) = its.any (eU (eOf X.K H m d)) by simp,xhr r,xhm (g:=fun z=>dEq z d) hl fun j z e g1 g2=>xdk I (k j z e g1 g2)]
      exact q
end
end L2
set_option maxRecDepth 100000
set_option maxHeartbeats 1000000
namespace L2
open PySem PySem.Spec PyProof.Rows XL PySem.W
def Tp (H H':Hp):Prop:=∀ b xs,H b = some (.tup xs)→H' b = some (.tup xs)
theorem Same.tp {H H':Hp} (s:Same H H'):Tp H H':=fun b xs e=>s b _ e
theorem Tp.trans {H H' H'':Hp} (s:Tp H H') (r:Tp H' H''):Tp H H'':=fun b xs e=>r b xs (s b xs e)
theorem xkg {H:Hp} {l:Addr} {xs ys:List V} (h:H l = some (.lst xs)):Tp H (upd H l (.lst ys)):=fun b zs e=>by
  rw [xm (fun z=>by rw [z,h] at e; cases e)]
  exact e
section
variable {J:It} {n:Nat} {g:TG} {σ:St} {fr:List Nat} {tc:TT} {te:TE} {l:Addr} {H1:Hp} {Q:VK}
theorem xno (len:Nat) (hlen:len < sizeLine) (hl:H1 l = none) (x:Nat→V) (hgo:∀ i H,i < len→Same H1 H→J.go i H) (hy:∀ i H v H',i < len→Same H1 H→J.yld i H v H'→H' = H∧v = x i) (hst:∀ H,Same H1 H→J.stop len H)
    (p:Nat→Bool) (F:Nat→V→Hp→Prop) (stab:∀ i y H H',Tp H H'→F i y H→F i y H')
    (step:∀ i H2,i < len→Same H1 H2→∀ (N:V→Hp→Prop) (M:Hp→Prop),(∀ y H',Same H2 H'→p i = true→F i y H'→N y H')→(∀ H',Same H2 H'→p i = false→M H') →
      g (x i) (blk0 σ fr n) H2 fun σ' H3=>tc σ' H3 fun b H4=>if b = true then te σ' H4 N else M H4)
    (fin:∀ ys H2,Same H1 H2→H2 l = some (.lst ys)→ys.length = ((List.range len).filter p).length→(∀ (j:Nat) (y:V) (i:Nat),ys[j]? = some y→((List.range len).filter p)[j]? = some i→F i y H2)→Q (.ref l) H2):xe3 J n g σ fr tc te l H1 Q:=by
  refine xea len (fun i ys H2=>Same H1 H2∧H2 l = some (.lst ys)∧ys.length = ((List.range i).filter p).length∧∀ (j:Nat) (y:V) (k:Nat),ys[j]? = some y→((List.range i).filter p)[j]? = some k→F k y H2) ?_ ?_ ?_ ?_
  · refine ⟨fun b u e=>?_,xg,rfl,fun j y k e=>by simp at e⟩
    rw [xm (xp e hl)]
    exact e
  · rintro i ys H2 lt ⟨s,_⟩
    exact hgo i H2 lt s
  · rintro i ys H2 v H3 lt ⟨s,el,ly,f⟩ yl N hN
    obtain ⟨rfl,rfl⟩:=hy i H2 v H3 lt s yl
    refine step i H3 lt s _ _ (fun y H' s' pt hf=>?_) (fun H' s' pf=>?_)
    · have el':=s' _ _ el
      have ylen:ys.length < sizeLine:=by
        rw [ly]
        refine Nat.lt_of_le_of_lt (List.length_filter_le _ _) ?_
        rw [List.length_range]
        omega
      refine ⟨el',ylen,hN _ _ ⟨fun b u e=>?_,xg,?_,fun j z k e1 e2=>?_⟩⟩
      · rw [xm (xp e hl)]
        exact s' _ _ (s _ _ e)
      · rw [List.range_succ,List.filter_append,List.length_append,List.length_append,ly,List.filter_cons_of_pos pt]
        rfl
      · rw [List.range_succ,List.filter_append,List.filter_cons_of_pos pt] at e2
        by_cases c:j < ys.length
        · rw [List.getElem?_append_left c] at e1
          rw [List.getElem?_append_left (by omega)] at e2
          exact stab _ _ _ _ ((Same.tp s').trans (xkg el')) (f j z k e1 e2)
        · rw [List.getElem?_append_right (by omega)] at e1 e2
          rw [← ly] at e2
          cases hj:j - ys.length with
          | zero =>
            rw [hj] at e1 e2
            simp at e1 e2
            subst e1 e2
            exact stab _ _ _ _ (xkg el') hf
          | succ m =>
            rw [hj] at e1
            simp at e1
    · refine hN _ _ ⟨s.trans s',s' _ _ el,?_,fun j z k e1 e2=>?_⟩
      · rw [List.range_succ,List.filter_append,List.filter_cons_of_neg (by simp [pf])]
        simpa using ly
      · rw [List.range_succ,List.filter_append,List.filter_cons_of_neg (by simp [pf])] at e2
        simp only [List.filter_nil,List.append_nil] at e2
        exact stab _ _ _ _ (Same.tp s') (f j z k e1 e2)
  · rintro ys H2 ⟨s,el,ly,f⟩
    exact ⟨hst _ s,fin ys H2 s el ly f⟩
theorem xci {K:PySem.W.Frag} {a:Addr} {xs:List V} (hs:SqL K H1 a xs) (hlen:xs.length < sizeLine) (hl:H1 l = none) (p:Nat→Bool) (F:Nat→V→Hp→Prop) (stab:∀ i y H H',Tp H H'→F i y H→F i y H')
    (step:∀ (i:Nat) (x:V) (H2:Hp),xs[i]? = some x→Same H1 H2→∀ (N:V→Hp→Prop) (M:Hp→Prop),(∀ y H',Same H2 H'→p i = true→F i y H'→N y H')→(∀ H',Same H2 H'→p i = false→M H') →
      g x (blk0 σ fr n) H2 fun σ' H3=>tc σ' H3 fun b H4=>if b = true then te σ' H4 N else M H4)
    (fin:∀ ys H2,Same H1 H2→H2 l = some (.lst ys)→ys.length = ((List.range xs.length).filter p).length→(∀ (j:Nat) (y:V) (i:Nat),ys[j]? = some y→((List.range xs.length).filter p)[j]? = some i→F i y H2)→Q (.ref l) H2):xe3 (Itl K a) n g σ fr tc te l H1 Q:=by
  refine xno xs.length hlen hl (fun i=>xs.getD i .non) (fun i H lt s=>⟨xs,xs[i],Same.seqL s hs,List.getElem?_eq_getElem lt⟩) (fun i H v H' lt s y=>?_) (fun H s=>⟨xs,Same.seqL s hs,Nat.le_refl _⟩) p F stab (fun i H2 lt s N M h1 h2=>?_) fin
  · obtain ⟨e,f⟩:=y
    have z:=f xs (Same.seqL s hs)
    refine ⟨e,?_⟩
    simp [z]
  · have e:xs[i]? = some (xs.getD i .non):=by simp [List.getElem?_eq_getElem lt]
    exact step i _ H2 e s N M h1 h2
theorem xh0 {i:Nat} {x:V} {σ0:St} {H2:Hp} {N:V→Hp→Prop} {M:Hp→Prop} {g:TG} {te:TE} (h:g x σ0 H2 fun σ' H3=>te σ' H3 N):g x σ0 H2 fun σ' H3=>xew σ' H3 fun b H4=>if b = true then te σ' H4 N else M H4:=by
  have e:(fun (σ':St) (H3:Hp)=>xew σ' H3 fun b H4=>if b = true then te σ' H4 N else M H4) = fun σ' H3=>te σ' H3 N:=by
    funext σ' H3
    show (if true = true then te σ' H3 N else M H3) = te σ' H3 N
    rw [if_pos rfl]
  rw [e]
  exact h
theorem xfy (m:Nat):(List.range m).filter (fun _=>true) = List.range m:=by simp
theorem xer {K:PySem.W.Frag} {a:Addr} {xs:List V} (hs:SqL K H1 a xs) (hlen:xs.length < sizeLine) (hl:H1 l = none) (F:Nat→V→Hp→Prop) (stab:∀ i y H H',Tp H H'→F i y H→F i y H')
    (step:∀ (i:Nat) (x:V) (H2:Hp),xs[i]? = some x→Same H1 H2→∀ (N:V→Hp→Prop),(∀ y H',Same H2 H'→F i y H'→N y H')→g x (blk0 σ fr n) H2 fun σ' H3=>te σ' H3 N)
    (fin:∀ ys H2,Same H1 H2→H2 l = some (.lst ys)→ys.length = xs.length→(∀ (i:Nat) (y:V),ys[i]? = some y→F i y H2)→Q (.ref l) H2):xe3 (Itl K a) n g σ fr xew te l H1 Q:=by
  refine xci hs hlen hl (fun _=>true) F stab (fun i x H2 hx s N M h1 h2=>xh0 (i:=i) (step i x H2 hx s N fun y H' s' f=>h1 y H' s' rfl f)) (fun ys H2 s e ly f=>?_)
  rw [xfy,List.length_range] at ly
  refine fin ys H2 s e ly fun i y hy=>f i y i hy ?_
  rw [xfy,List.getElem?_range (by have:=(List.getElem?_eq_some_iff.mp hy).1; omega)]
end
theorem xg8 {α:Type} {f:α→V}:∀ {as:List α} {ys:List V},ys.length = as.length→(∀ (i:Nat) (y:V) (a:α),ys[i]? = some y→as[i]? = some a→y = f a)→ys = as.map f
  | [],[],_,_=>rfl
  | [],_ :: _,h,_=>by cases h
  | _ :: _,[],h,_=>by cases h
  | a :: as,y :: ys,h,k=>by
    rw [List.map_cons,k 0 y a rfl rfl,xg8 (as:=as) (ys:=ys) (by simpa using h) fun i y' a' h1 h2=>k (i + 1) y' a' (by simpa using h1) (by simpa using h2)]
theorem xiw {α:Type} (q:α→Bool):∀ (as:List α) (p:Nat→Bool),(∀ (i:Nat) (a:α),as[i]? = some a→p i = q a)→((List.range as.length).filter p).filterMap (fun i=>as[i]?) = as.filter q
  | [],_,_=>rfl
  | a :: as,p,h=>by
    have ih:=xiw q as (fun i=>p (i + 1)) fun i b hb=>h (i + 1) b (by simpa using hb)
    rw [List.length_cons,List.range_succ_eq_map]
    have e:((List.range as.length).map Nat.succ).filter p = ((List.range as.length).filter (fun i=>p (i + 1))).map Nat.succ:=by
      rw [List.filter_map]
      rfl
    have h0:=h 0 a rfl
    by_cases c:q a = true
    · rw [List.filter_cons_of_pos (by rw [h0]; exact c),List.filter_cons_of_pos c,e,List.filterMap_cons]
      simp only [List.getElem?_cons_zero,List.filterMap_map]
      rw [← ih]
      rfl
    · rw [List.filter_cons_of_neg (by rw [h0]; exact c),List.filter_cons_of_neg c,e,List.filterMap_map,← ih]
      rfl
theorem xeu {α:Type} (q:α→Bool) {as:List α} {p:Nat→Bool} (h:∀ (i:Nat) (a:α),as[i]? = some a→p i = q a):((List.range as.length).filter p).length = (as.filter q).length∧∀ j i:Nat,((List.range as.length).filter p)[j]? = some i→as[i]? = (as.filter q)[j]?:=by
  rw [← xiw q as p h]
  have all:∀ i ∈ (List.range as.length).filter p,∃ a,as[i]? = some a:=fun i hi=>by
    have:=List.mem_range.mp (List.mem_filter.mp hi).1
    exact ⟨as[i],List.getElem?_eq_getElem this⟩
  generalize (List.range as.length).filter p = is at all
  induction is with
  | nil=>exact ⟨rfl,fun j i e=>by simp at e⟩
  | cons i is ih =>
    obtain ⟨a,ha⟩:=all i List.mem_cons_self
    obtain ⟨h1,h2⟩:=ih fun k hk=>all k (List.mem_cons_of_mem _ hk)
    rw [List.filterMap_cons,ha]
    refine ⟨by simp [h1],fun j k e=>?_⟩
    cases j with
    | zero =>
      simp at e
      subst e
      exact ha
    | succ m=>exact h2 m k (by simpa using e)
end L2
set_option maxRecDepth 100000
set_option maxHeartbeats 1000000
namespace XL
open PySem PySem.MeetsSeq PySem.MeetsSeq2 PySem.MeetsSeq3 PySem.SeqAt
open AutoSeq1 (wpAny_loadPart')
theorem xi8 (a:Addr) (zs:Array Value) (n:Nat) (y:Value) (f:Value→Bool) (j:Nat) (lt:j < zs.size) (yes:f zs[j] = true) (few:zs.size≤sizeLine) (k:Nat) :
    ∀ i:Nat,j - i = k→i≤j→(∀ m (hm:m < zs.size),i≤m→m < j→f zs[m] = false)→Meets (Builtin.«list.remove.loop» ⟨[.ref a,y,rawInt i],[]⟩)
      (fun A R s=>(s.heap.get? a = some { cls:=.type "list",dict:=none,data:=.seq zs n,slots:=#[] })∧(∀ z,z ∈ zs→EqAt A.in1 s z y (f z)) ∧
        R (.ok (.ret .none)) { s with heap:=s.heap.update a (Obj.mapSeq fun t=>t.eraseIdxIfInBounds j) }):=by
  induction k with
  | zero =>
    intro i ek le no prog w A R s g
    obtain ⟨hp,gs,dr,tk,os⟩:=s
    obtain ⟨at_,eq,g⟩:=g
    obtain rfl:i = j:=by omega
    wp_walk using
      wpAny_loadPart' at_
    have ix:zs[((i:Nat):Int).toNat]? = some zs[i]:=by simp [lt]
    rw [ix]
    refine wpAny_bind
      (eq _ (Array.getElem_mem lt) prog w _ _ ?_)
    rw [yes]
    have few':(zs.eraseIdxIfInBounds i).size≤sizeLine + 1 :=
      Nat.le_trans (size_erased zs _) (Nat.le_succ_of_le few)
    wp_walk using
      (wpAny_updateSeq at_ rfl (hz:=few) (_hz':=few')),wpAny_loadPart' at_
    simpa using g
  | succ k ih =>
    intro i ek le no prog w A R s g
    obtain ⟨hp,gs,dr,tk,os⟩:=s
    obtain ⟨at_,eq,g⟩:=g
    have il:i < zs.size:=by omega
    wp_walk using
      wpAny_loadPart' at_
    have ix:zs[((i:Nat):Int).toNat]? = some zs[i]:=by simp [il]
    have ic:((i:Int) + 1) = ((i + 1:Nat):Int):=by omega
    rw [ix]
    refine wpAny_bind
      (eq _ (Array.getElem_mem il) prog w _ _ ?_)
    rw [no i il (Nat.le_refl _) (by omega)]
    wp_walk
    rw [ic]
    exact ⟨plainId_quiet plain_remove_loop _,codeAny_builtin entry_remove_loop (by
      rw [Around.under_plainId plain_remove_loop _]
      exact ih (i + 1) (by omega) (by omega) (fun m hm h1 h2=>no m hm (by omega) h2) prog w A R _ ⟨at_,eq,g⟩)⟩
theorem xp4 (a:Addr) (zs:Array Value) (n:Nat) (y:Value) (f:Value→Bool) (j:Nat) (lt:j < zs.size) (yes:f zs[j] = true) (no:∀ m (hm:m < zs.size),m < j→f zs[m] = false) (few:zs.size≤sizeLine) :
    Meets (Builtin.«list.remove» ⟨[.ref a,y],[]⟩)
      (fun A R s=>(s.heap.get? a = some { cls:=.type "list",dict:=none,data:=.seq zs n,slots:=#[] })∧(∀ z,z ∈ zs→EqAt A.in1 s z y (f z)) ∧
        R (.ok (.ret .none)) { s with heap:=s.heap.update a (Obj.mapSeq fun t=>t.eraseIdxIfInBounds j) }):=by
  intro prog w A R s g
  obtain ⟨hp,gs,dr,tk,os⟩:=s
  obtain ⟨at_,eq,g⟩:=g
  wp_walk using
    wpAny_loadPart' at_
  exact ⟨plainId_quiet plain_remove_loop _,codeAny_builtin entry_remove_loop (by
    rw [Around.under_plainId plain_remove_loop _]
    exact xi8 a zs n y f j lt yes few _ 0 rfl (Nat.zero_le _) (fun m hm _ h2=>no m hm h2) prog w A R _ ⟨at_,eq,g⟩)⟩
end XL
namespace L2
open PySem PySem.Spec PyProof.Rows XL PySem.W
theorem Room.mark {q0:Bool} {j k:Nat} {A:Around} (r:Room q0 k A) (h:j≤k) {e:Option Value}:Room false j (A.mark e) :=
  ⟨fun z=>(nomatch z),by have:=r.dp; show A.depth + 3 * j + 5 < _; omega,by have:=r.un; show A.units + 16 * j + 200 < _; omega⟩
def xk1:Expr→Bool
  | .Starred _ _=>false
  | _=>true
theorem xjj {e:Expr} {es:List Expr} {env:Env} (h:xk1 e = true):starEach (e :: es) env = (false,eval e env) :: starEach es env:=by
  cases e <;> first | rfl | cases h
theorem xaq {X:Cx} {e:Expr} {es:List Expr} {te:TE} {t:TA} (ha:PE X e te) (hr:PA X es t) (hn:xk1 e = true):PA X (e :: es) (xmg te t):=xf ha hr (xjj hn)
def xgb (es:List DV) (d:DV) (j:Nat):Prop:=(∃ e,es[j]? = some e∧dEq e d = true)∧∀ (i:Nat) (e:DV),i < j→es[i]? = some e→dEq e d = false
def xnb (K:PySem.W.Frag):V→List V→Hp→VK→Prop:=fun x vs H Q=>∃ (l:Addr) (xs:List V) (y:V) (n m:Nat) (d:DV) (es:List DV) (j:Nat),x = .ref l∧vs = [y]∧H l = some (.lst xs)∧Dv K H n y d∧Dv K H m (.ref l) (.lst es)∧n≤9∧m≤9∧xgb es d j∧Q .non (upd H l (.lst (xs.eraseIdx j)))
section
variable {X:Cx}
theorem xli {pins:List (Addr × Obj)} {s:Shared} {σ:St} {H:Hp} {l:Addr} {xs:List V} {its:List Value} {y:V} {u:Value} {n m:Nat} {d:DV} {es:List DV} {j:Nat} (hu:X.A.units + 20 < cLine) (I:Inv X pins σ H s) (hH:H l = some (.lst xs)) (r:Vals xs its) (ru:RelV y u) (h1:Dv X.K H n y d) (h2:Dv X.K H m (.ref l) (.lst es)) (hn:n≤9) (hm:m≤9) (fa:xgb es d j) :
    ∃ (f:Value→Bool) (lt:j < its.toArray.size),f its.toArray[j] = true∧(∀ k (hk:k < its.toArray.size),k < j→f its.toArray[k] = false)∧∀ z,z ∈ its.toArray→SeqAt.EqAt X.A.in1 s z u (f z):=by
  cases h2 with
  | @lst m _ zs _ ha hl k =>
    obtain rfl:=I.list_inj ha (SqL.of hH)
    obtain ⟨⟨e,he,ee⟩,no⟩:=fa
    have len:=r.length
    have jl:j < es.length:=(List.getElem?_eq_some_iff.mp he).1
    have at_:∀ (i:Nat) (h:i < its.toArray.size),∃ (z:V) (e:DV),es[i]? = some e∧RelV z its.toArray[i]∧Dv X.K H m z e:=fun i h=>by
      obtain ⟨z,hz,rz⟩:=xd0 r h
      have il:i < es.length:=by simp at h; omega
      exact ⟨z,es[i],List.getElem?_eq_getElem il,rz,k i z _ hz (List.getElem?_eq_getElem il)⟩
    refine ⟨eU (eOf X.K H m d),by simp; omega,?_,?_,?_⟩
    · obtain ⟨z,e',h3,rz,dz⟩:=at_ j (by simp; omega)
      rw [xe1 rz,xdk I dz]
      rw [he] at h3
      cases h3
      exact ee
    · intro i hi lt
      obtain ⟨z,e',h3,rz,dz⟩:=at_ i hi
      rw [xe1 rz,xdk I dz]
      exact no i e' lt h3
    · intro z hz
      obtain ⟨i,hi,rfl⟩:=Array.mem_iff_getElem.mp hz
      obtain ⟨z,e',h3,rz,dz⟩:=at_ i hi
      rw [xe1 rz,xdk I dz]
      exact (xfr I dz h1 (A:=X.A.in1) (by show X.A.units + 1 + m + n < cLine; omega) rz ru).1
theorem xi0 (hu:X.A.units + 20 < cLine):MtM X "list.remove" (xnb X.K):=by
  intro pins s σ H x vs v us Q I rx rv h
  obtain ⟨l,xs,y,n,m,d,es,j,rfl,rfl,hH,h1,h2,hn,hm,fa,q⟩:=h
  cases rx
  obtain ⟨u,rfl,ru⟩:=rv.one
  obtain ⟨z,its,n',r,hl,e⟩:=I.lstM hH
  obtain ⟨f,lt,yes,no,eq⟩:=xli hu I hH r ru h1 h2 hn hm fa
  refine call_meets F.slot_list_remove ⟨_,e,rfl⟩ F.entry_list_remove (F.args_list_remove_2 _ _)
    (xp4 l its.toArray n' u f j lt yes no (by rw [List.size_toArray]; omega)) ⟨e,eq,?_⟩
  refine ⟨.non,_,I.lset (its':=its.eraseIdx j) hH e ?_ (r.eraseIdx j) ?_,rfl,q⟩
  · show its.toArray.eraseIdxIfInBounds j = (its.eraseIdx j).toArray
    rw [List.eraseIdxIfInBounds_toArray]
  · have:=xgk xs j
    omega
end
section
variable {J:It} {n:Nat} {g:TG} {σ:St} {fr:List Nat} {tc:TT} {te:TE} {l:Addr} {H1:Hp} {Q:VK}
end
end L2
set_option maxRecDepth 100000
set_option maxHeartbeats 1000000
namespace XL
open PySem L2
open PyProof.Rows (assign_Tuple)
section
variable {prog:Program} {w:World} {A:Around} {E:Value→Shared→Prop}
end
section
variable {X:Cx} {pos:Pos}
end
end XL
set_option maxRecDepth 100000
set_option maxHeartbeats 1000000
namespace L2
open PySem PySem.Spec PyProof.Rows XL PySem.W
section
variable {J:It} {n:Nat} {g:TG} {σ:St} {fr:List Nat} {tc:TT} {te:TE} {l:Addr} {H1:Hp} {Q:VK}
end
end L2
set_option maxRecDepth 100000
set_option maxHeartbeats 1000000
namespace L2
open PySem PySem.Spec PyProof.Rows XL PySem.W
section
variable {J:It} {n:Nat} {g:TG} {σ:St} {fr:List Nat} {tc:TT} {te:TE} {l:Addr} {H1:Hp} {Q:VK}
theorem xib {lo:Int} {m:Nat} (hlen:m < sizeLine) (hl:H1 l = none) (F:Nat→List V→Hp→Prop) (F0:∀ H,Same H1 H→F 0 [] H) (stab:∀ i ys zs H H',H l = some (.lst zs)→(∀ b u,b≠l→H b = some u→H' b = some u)→F i ys H→F i ys H')
    (step:∀ (i:Nat) (ys:List V) H2,i < m→Same H1 H2→H2 l = some (.lst ys)→F i ys H2→∀ (N:V→Hp→Prop),(∀ y H',Same H2 H'→F (i + 1) (ys ++ [y]) H'→N y H')→g (.int (lo + i)) (blk0 σ fr n) H2 fun σ' H3=>te σ' H3 N)
    (fin:∀ ys H2,Same H1 H2→H2 l = some (.lst ys)→ys.length = m→F m ys H2→Q (.ref l) H2):xe3 (Itr lo m) n g σ fr xew te l H1 Q:=by
  refine xea m (fun i ys H2=>Same H1 H2∧H2 l = some (.lst ys)∧ys.length = i∧F i ys H2) ?_ ?_ ?_ ?_
  · have s0:Same H1 (upd H1 l (.lst [])):=fun b u e=>by
      rw [xm (xp e hl)]
      exact e
    exact ⟨s0,xg,rfl,F0 _ s0⟩
  · rintro i ys H2 lt ⟨s,_⟩
    exact lt
  · rintro i ys H2 v H3 lt ⟨s,el,ly,f⟩ ⟨rfl,rfl⟩ N hN
    refine xh0 (i:=i) (step i ys H3 lt s el f _ fun y H' s' f'=>?_)
    have el':=s' _ _ el
    refine ⟨el',by omega,hN _ _ ⟨fun b u e=>?_,xg,by simp [ly],stab _ _ _ _ _ el' (fun b u nb e=>?_) f'⟩⟩
    · rw [xm (xp e hl)]
      exact s' _ _ (s _ _ e)
    · rw [xm nb]
      exact e
  · rintro ys H2 ⟨s,el,ly,f⟩
    exact ⟨Nat.le_refl _,fin ys H2 s el ly f⟩
end
end L2
namespace Geo
def dn (y r:Int):Int:=if y < r then 1 else -1
def upN (y r:Int):Nat:=if y < r then (r - y).toNat else (y - r).toNat
def wayI (b:Bool):Int:=if b then -1 else 1
def lvN (w x:Int) (b:Bool):Nat:=if b then (x + 1).toNat else (w + 2 - x).toNat
def upL (x y r:Int):List (Int × Int):=(List.range (upN y r)).map fun (i:Nat)=>(x,y + (i:Int) * dn y r)
def lvL (w x:Int) (b:Bool) (r:Int):List (Int × Int):=(List.range (lvN w x b)).map fun (i:Nat)=>(x + (i:Int) * wayI b,r)
def cells (w x y:Int) (b:Bool) (r:Int):List (Int × Int):=upL x y r ++ lvL w x b r
def btw (v a b:Int):Prop:=min a b≤v∧v≤max a b
instance (v a b:Int):Decidable (btw v a b):=inferInstanceAs (Decidable (_∧_))
end Geo
set_option maxRecDepth 100000
set_option maxHeartbeats 4000000
namespace S06
open PySem L2 XL
def top (i:Nat):Stmt:=PySem.Challenge.pw_rimnotes_k06_what_a_point_may_have.main.body.getD i (.Pass ⟨0,0,0,0⟩)
abbrev s_ak:Stmt:=xa0 (top 5) 0
abbrev s_af:Stmt:=xa0 (top 9) 0
abbrev s_r:Stmt:=xa0 (top 11) 0
abbrev s_ag:Stmt:=xa0 (top 12) 0
abbrev s_al:Stmt:=xa0 (top 13) 0
abbrev s_ao:Stmt:=xa0 (top 14) 0
abbrev s_am:Stmt:=xa0 (top 25) 0
abbrev s_o:Stmt:=xa0 (top 26) 3
abbrev s_k:Stmt:=xa0 (top 27) 3
abbrev s_at:Stmt:=top 28
abbrev s_aa:Stmt:=top 30
abbrev s_az:Stmt:=top 31
abbrev s_ah:Stmt:=xa0 (top 37) 0
abbrev s_q:Stmt:=xa0 (top 37) 1
abbrev s_ab:Stmt:=xa0 (top 37) 3
abbrev s_f:Stmt:=xa0 (top 37) 4
abbrev s_h:Stmt:=xa0 (top 37) 5
abbrev s_m:Stmt:=xa0 (top 37) 6
abbrev s_u:Stmt:=xa0 (top 37) 7
abbrev s_i:Stmt:=xa0 (top 37) 8
abbrev s_z:Stmt:=xa0 (top 37) 9
abbrev s_p:Stmt:=xa0 (top 37) 10
abbrev s_g:Stmt:=xa0 (top 37) 11
abbrev s_d:Stmt:=xa0 (top 37) 15
abbrev s_e:Stmt:=xa0 (top 37) 16
abbrev s_a:Stmt:=xa0 (top 37) 17
abbrev s_c:Stmt:=xa0 (top 37) 18
abbrev s_as:Stmt:=top 39
abbrev s_x:Stmt:=top 40
abbrev s_ar:Stmt:=top 41
abbrev s_s:Stmt:=top 42
abbrev s_ad:Stmt:=top 43
abbrev s_aj:Stmt:=top 44
abbrev s_y:Stmt:=top 45
abbrev s_an:Stmt:=top 46
abbrev s_ap:Stmt:=top 47
abbrev s_v:Stmt:=top 48
abbrev s_ae:Stmt:=top 49
abbrev xeb:Stmt:=top 50
set_option genInjectivity false in
set_option genSizeOf false in
structure Adr where
  f_ak:Addr
  d_ak:FuncData
  f_af:Addr
  d_af:FuncData
  f_r:Addr
  d_r:FuncData
  f_ag:Addr
  d_ag:FuncData
  f_al:Addr
  d_al:FuncData
  f_ao:Addr
  d_ao:FuncData
  f_am:Addr
  d_am:FuncData
  f_o:Addr
  d_o:FuncData
  f_k:Addr
  d_k:FuncData
  f_at:Addr
  d_at:FuncData
  f_aa:Addr
  d_aa:FuncData
  f_az:Addr
  d_az:FuncData
  f_ah:Addr
  d_ah:FuncData
  f_q:Addr
  d_q:FuncData
  T_q:Addr
  f_ab:Addr
  d_ab:FuncData
  f_f:Addr
  d_f:FuncData
  f_h:Addr
  d_h:FuncData
  f_m:Addr
  d_m:FuncData
  f_u:Addr
  d_u:FuncData
  f_i:Addr
  d_i:FuncData
  f_z:Addr
  d_z:FuncData
  f_p:Addr
  d_p:FuncData
  f_g:Addr
  d_g:FuncData
  f_d:Addr
  d_d:FuncData
  f_e:Addr
  d_e:FuncData
  f_a:Addr
  d_a:FuncData
  f_c:Addr
  d_c:FuncData
  f_as:Addr
  d_as:FuncData
  f_x:Addr
  d_x:FuncData
  f_ar:Addr
  d_ar:FuncData
  f_s:Addr
  d_s:FuncData
  f_ad:Addr
  d_ad:FuncData
  f_aj:Addr
  d_aj:FuncData
  f_y:Addr
  d_y:FuncData
  f_an:Addr
  d_an:FuncData
  f_ap:Addr
  d_ap:FuncData
  f_v:Addr
  d_v:FuncData
  f_ae:Addr
  d_ae:FuncData
  f_law:Addr
  d_law:FuncData
  C_a0:Addr
  C_a2:Addr
  C_ba:Addr
  C_w:Addr
  C_a7:Addr
  C_a5:Addr
  C_a6:Addr
  C_l:Addr
  C_a8:Addr
  C_b:Addr
  C_n:Addr
  C_t:Addr
  C_ai:Addr
  C_a9:Addr
  C_bb:Addr
  C_a3:Addr
  C_au:Addr
  C_av:Addr
  C_aw:Addr
  C_ax:Addr
  C_ac:Addr
  C_a4:Addr
  C_be:Addr
  C_ay:Addr
  C_aq:Addr
  C_j:Addr
  D_a1:Addr
structure Txt (w:World) (K:PySem.W.Frag) (mg:Str→Option Value) (t:Adr):Prop where
  g_a0:mg "RimError" = some (.ref t.C_a0)
  g_a2:mg "NoSize" = some (.ref t.C_a2)
  g_ba:mg "NoName" = some (.ref t.C_ba)
  g_w:mg "NoCell" = some (.ref t.C_w)
  g_a7:mg "NoSides" = some (.ref t.C_a7)
  g_a5:mg "NoWindow" = some (.ref t.C_a5)
  g_a6:mg "OldPoint" = some (.ref t.C_a6)
  g_l:mg "NoPoint" = some (.ref t.C_l)
  g_a8:mg "TooMany" = some (.ref t.C_a8)
  g_b:mg "SameColumn" = some (.ref t.C_b)
  g_n:mg "SameRow" = some (.ref t.C_n)
  g_t:mg "NoSide" = some (.ref t.C_t)
  g_ai:mg "NoRow" = some (.ref t.C_ai)
  g_a9:mg "OldSeat" = some (.ref t.C_a9)
  g_bb:mg "NoSeat" = some (.ref t.C_bb)
  g_a3:mg "NoRoom" = some (.ref t.C_a3)
  g_au:mg "NoNotes" = some (.ref t.C_au)
  g_av:mg "TooFull" = some (.ref t.C_av)
  g_aw:mg "TooTall" = some (.ref t.C_aw)
  g_ax:mg "BadLine" = some (.ref t.C_ax)
  g_ac:mg "BadDrawing" = some (.ref t.C_ac)
  g_a4:mg "NoLine" = some (.ref t.C_a4)
  g_be:mg "Side" = some (.ref t.C_be)
  g_ay:mg "LeftSide" = some (.ref t.C_ay)
  g_aq:mg "RightSide" = some (.ref t.C_aq)
  g_j:mg "Picture" = some (.ref t.C_j)
  F_ak:Fun K "__init__" "NoCell.__init__" s_ak t.f_ak t.d_ak
  b_ak:xag K t.d_ak ["self", "x", "y"] []
  F_af:Fun K "__init__" "NoPoint.__init__" s_af t.f_af t.d_af
  b_af:xag K t.d_af ["self", "name"] []
  F_r:Fun K "__init__" "SameColumn.__init__" s_r t.f_r t.d_r
  b_r:xag K t.d_r ["self", "name"] []
  F_ag:Fun K "__init__" "SameRow.__init__" s_ag t.f_ag t.d_ag
  b_ag:xag K t.d_ag ["self", "name"] []
  F_al:Fun K "__init__" "NoSide.__init__" s_al t.f_al t.d_al
  b_al:xag K t.d_al ["self", "side"] []
  F_ao:Fun K "__init__" "NoRow.__init__" s_ao t.f_ao t.d_ao
  b_ao:xag K t.d_ao ["self", "row"] []
  F_am:Fun K "__init__" "Side.__init__" s_am t.f_am t.d_am
  b_am:xag K t.d_am ["self", "width"] []
  F_o:Fun K "across" "LeftSide.across" s_o t.f_o t.d_o
  b_o:xag K t.d_o ["self", "x"] []
  F_k:Fun K "across" "RightSide.across" s_k t.f_k t.d_k
  b_k:xag K t.d_k ["self", "x"] []
  g_at:mg "side_of" = some (.ref t.f_at)
  F_at:Fun K "side_of" "side_of" s_at t.f_at t.d_at
  b_at:xag K t.d_at ["word", "width"] []
  g_aa:mg "is_whole" = some (.ref t.f_aa)
  F_aa:Fun K "is_whole" "is_whole" s_aa t.f_aa t.d_aa
  b_aa:xag K t.d_aa ["thing", "low", "high"] []
  g_az:mg "is_name" = some (.ref t.f_az)
  F_az:Fun K "is_name" "is_name" s_az t.f_az t.d_az
  b_az:xag K t.d_az ["thing"] []
  F_ah:Fun K "__init__" "Picture.__init__" s_ah t.f_ah t.d_ah
  b_ah:xag K t.d_ah ["self", "width", "height"] []
  F_q:FunD K "put" "Picture.put" s_q t.T_q t.f_q t.d_q
  b_q:xag K t.d_q ["self", "name", "x", "y", "sides", "low", "high"] []
  F_ab:Fun K "move" "Picture.move" s_ab t.f_ab t.d_ab
  b_ab:xag K t.d_ab ["self", "name", "x", "y"] []
  F_f:Fun K "open_seat" "Picture.open_seat" s_f t.f_f t.d_f
  b_f:xag K t.d_f ["self", "side", "row"] []
  F_h:Fun K "shut_seat" "Picture.shut_seat" s_h t.f_h t.d_h
  b_h:xag K t.d_h ["self", "side", "row"] []
  F_m:Fun K "points" "Picture.points" s_m t.f_m t.d_m
  b_m:xag K t.d_m ["self"] []
  F_u:Fun K "seats" "Picture.seats" s_u t.f_u t.d_u
  b_u:xag K t.d_u ["self"] []
  F_i:Fun K "place_of" "Picture.place_of" s_i t.f_i t.d_i
  b_i:xag K t.d_i ["self", "name"] []
  F_z:Fun K "may" "Picture.may" s_z t.f_z t.d_z
  b_z:xag K t.d_z ["self", "name", "side", "row"] []
  F_p:Fun K "length" "Picture.length" s_p t.f_p t.d_p
  b_p:xag K t.d_p ["self", "name", "side", "row"] []
  F_g:Fun K "seats_for" "Picture.seats_for" s_g t.f_g t.d_g
  b_g:xag K t.d_g ["self", "name"] []
  F_d:Fun K "check_name" "Picture.check_name" s_d t.f_d t.d_d
  b_d:xag K t.d_d ["self", "name"] []
  F_e:Fun K "check_cell" "Picture.check_cell" s_e t.f_e t.d_e
  b_e:xag K t.d_e ["self", "x", "y"] []
  F_a:Fun K "check_lines" "Picture.check_lines" s_a t.f_a t.d_a
  b_a:xag K t.d_a ["self", "name", "x", "y"] []
  F_c:Fun K "check_seat" "Picture.check_seat" s_c t.f_c t.d_c
  b_c:xag K t.d_c ["self", "side", "row"] []
  g_as:mg "_law_cell" = some (.ref t.f_as)
  F_as:Fun K "_law_cell" "_law_cell" s_as t.f_as t.d_as
  b_as:xag K t.d_as ["_law_script", "_law_k"] []
  g_x:mg "_law_mixed" = some (.ref t.f_x)
  F_x:Fun K "_law_mixed" "_law_mixed" s_x t.f_x t.d_x
  b_x:xag K t.d_x ["_law_cell_here", "_law_k"] []
  g_ar:mg "_law_told" = some (.ref t.f_ar)
  F_ar:Fun K "_law_told" "_law_told" s_ar t.f_ar t.d_ar
  b_ar:xag K t.d_ar ["_law_e"] []
  g_s:mg "_law_told_more" = some (.ref t.f_s)
  F_s:Fun K "_law_told_more" "_law_told_more" s_s t.f_s t.d_s
  b_s:xag K t.d_s ["_law_e"] []
  g_ad:mg "_law_filled" = some (.ref t.f_ad)
  F_ad:Fun K "_law_filled" "_law_filled" s_ad t.f_ad t.d_ad
  b_ad:xag K t.d_ad ["_law_cell_here", "_law_most"] []
  g_aj:mg "_law_opened" = some (.ref t.f_aj)
  F_aj:Fun K "_law_opened" "_law_opened" s_aj t.f_aj t.d_aj
  b_aj:xag K t.d_aj ["_law_picture", "_law_cell_here"] []
  g_y:mg "_law_is_whole" = some (.ref t.f_y)
  F_y:Fun K "_law_is_whole" "_law_is_whole" s_y t.f_y t.d_y
  b_y:xag K t.d_y ["_law_thing", "_law_low", "_law_high"] []
  g_an:mg "_law_asked" = some (.ref t.f_an)
  F_an:Fun K "_law_asked" "_law_asked" s_an t.f_an t.d_an
  b_an:xag K t.d_an ["_law_picture", "_law_way", "_law_name", "_law_side", "_law_row"] []
  g_ap:mg "_law_wants" = some (.ref t.f_ap)
  F_ap:Fun K "_law_wants" "_law_wants" s_ap t.f_ap t.d_ap
  b_ap:xag K t.d_ap ["_law_point", "_law_side", "_law_row"] []
  g_v:mg "_law_answered" = some (.ref t.f_v)
  F_v:Fun K "_law_answered" "_law_answered" s_v t.f_v t.d_v
  b_v:xag K t.d_v ["_law_picture", "_law_rows", "_law_seats", "_law_name", "_law_side", "_law_row"] []
  g_ae:mg "_law_changed" = some (.ref t.f_ae)
  F_ae:Fun K "_law_changed" "_law_changed" s_ae t.f_ae t.d_ae
  b_ae:xag K t.d_ae ["_law_picture", "_law_rows", "_law_seats", "_law_number"] []
  g_law:mg "law" = some (.ref t.f_law)
  F_law:Fun K "law" "law" xeb t.f_law t.d_law
  b_law:xag K t.d_law ["_law_script"] []
  x_a0:XC K t.C_a0
  mk_a0:xai K t.C_a0 = true
  x_a2:XC K t.C_a2
  mk_a2:xai K t.C_a2 = true
  x_ba:XC K t.C_ba
  mk_ba:xai K t.C_ba = true
  x_w:XC K t.C_w
  mk_w:xai K t.C_w = true
  k_w:XMk K t.C_w t.f_ak
  x_a7:XC K t.C_a7
  mk_a7:xai K t.C_a7 = true
  x_a5:XC K t.C_a5
  mk_a5:xai K t.C_a5 = true
  x_a6:XC K t.C_a6
  mk_a6:xai K t.C_a6 = true
  x_l:XC K t.C_l
  mk_l:xai K t.C_l = true
  k_l:XMk K t.C_l t.f_af
  x_a8:XC K t.C_a8
  mk_a8:xai K t.C_a8 = true
  x_b:XC K t.C_b
  mk_b:xai K t.C_b = true
  k_b:XMk K t.C_b t.f_r
  x_n:XC K t.C_n
  mk_n:xai K t.C_n = true
  k_n:XMk K t.C_n t.f_ag
  x_t:XC K t.C_t
  mk_t:xai K t.C_t = true
  k_t:XMk K t.C_t t.f_al
  x_ai:XC K t.C_ai
  mk_ai:xai K t.C_ai = true
  k_ai:XMk K t.C_ai t.f_ao
  x_a9:XC K t.C_a9
  mk_a9:xai K t.C_a9 = true
  x_bb:XC K t.C_bb
  mk_bb:xai K t.C_bb = true
  x_a3:XC K t.C_a3
  mk_a3:xai K t.C_a3 = true
  x_au:XC K t.C_au
  mk_au:xai K t.C_au = true
  x_av:XC K t.C_av
  mk_av:xai K t.C_av = true
  x_aw:XC K t.C_aw
  mk_aw:xai K t.C_aw = true
  x_ax:XC K t.C_ax
  mk_ax:xai K t.C_ax = true
  x_ac:XC K t.C_ac
  mk_ac:xai K t.C_ac = true
  x_a4:XC K t.C_a4
  mk_a4:xai K t.C_a4 = true
  c_be:Cls K t.C_be
  ca_be:PySem.W.findIn K (.ref t.C_be) "__class__" = some (some (.builtin "object.__class__"))
  mo_be:PySem.W.mroIn K t.C_be (.type "object") = some true
  k_be:Mk K t.C_be t.f_am
  c_ay:Cls K t.C_ay
  ca_ay:PySem.W.findIn K (.ref t.C_ay) "__class__" = some (some (.builtin "object.__class__"))
  mo_ay:PySem.W.mroIn K t.C_ay (.type "object") = some true
  k_ay:Mk K t.C_ay t.f_am
  m_o:Meth K t.C_ay "across" t.f_o
  c_aq:Cls K t.C_aq
  ca_aq:PySem.W.findIn K (.ref t.C_aq) "__class__" = some (some (.builtin "object.__class__"))
  mo_aq:PySem.W.mroIn K t.C_aq (.type "object") = some true
  k_aq:Mk K t.C_aq t.f_am
  m_k:Meth K t.C_aq "across" t.f_k
  c_j:Cls K t.C_j
  ca_j:PySem.W.findIn K (.ref t.C_j) "__class__" = some (some (.builtin "object.__class__"))
  mo_j:PySem.W.mroIn K t.C_j (.type "object") = some true
  k_j:Mk K t.C_j t.f_ah
  m_q:Meth K t.C_j "put" t.f_q
  m_ab:Meth K t.C_j "move" t.f_ab
  m_f:Meth K t.C_j "open_seat" t.f_f
  m_h:Meth K t.C_j "shut_seat" t.f_h
  m_m:Meth K t.C_j "points" t.f_m
  m_u:Meth K t.C_j "seats" t.f_u
  m_i:Meth K t.C_j "place_of" t.f_i
  m_z:Meth K t.C_j "may" t.f_z
  m_p:Meth K t.C_j "length" t.f_p
  m_g:Meth K t.C_j "seats_for" t.f_g
  m_d:Meth K t.C_j "check_name" t.f_d
  m_e:Meth K t.C_j "check_cell" t.f_e
  m_a:Meth K t.C_j "check_lines" t.f_a
  m_c:Meth K t.C_j "check_seat" t.f_c
  cg:PySem.W.specialIn K (.builtin "object.__class__") "__get__" = some (some (.builtin "getset_descriptor.__get__"))
  ct:PySem.W.takesIn K (.builtin "object.__class__") = some true
  n_bi:PySem.W.findIn K (.ref t.C_aq) "width" = some none
  n_bd:PySem.W.findIn K (.ref t.C_j) "placed" = some none
  n_bc:PySem.W.findIn K (.ref t.C_j) "height" = some none
  n_bg:PySem.W.findIn K (.ref t.C_j) "width" = some none
  n_bf:PySem.W.findIn K (.ref t.C_j) "opened" = some none
  n_ed:PySem.W.findIn K (.ref t.C_l) "row" = some none
  n_d3:PySem.W.findIn K (.ref t.C_l) "side" = some none
  n_c6:PySem.W.findIn K (.ref t.C_l) "name" = some none
  n_d4:PySem.W.findIn K (.ref t.C_l) "high" = some none
  n_ee:PySem.W.findIn K (.ref t.C_l) "low" = some none
  n_d0:PySem.W.findIn K (.ref t.C_l) "sides" = some none
  n_ex:PySem.W.findIn K (.ref t.C_l) "y" = some none
  n_ey:PySem.W.findIn K (.ref t.C_l) "x" = some none
  n_ep:PySem.W.findIn K (.ref t.C_w) "row" = some none
  n_ef:PySem.W.findIn K (.ref t.C_w) "side" = some none
  n_eg:PySem.W.findIn K (.ref t.C_w) "name" = some none
  n_eh:PySem.W.findIn K (.ref t.C_w) "high" = some none
  n_eq:PySem.W.findIn K (.ref t.C_w) "low" = some none
  n_d5:PySem.W.findIn K (.ref t.C_w) "sides" = some none
  n_en:PySem.W.findIn K (.ref t.C_w) "y" = some none
  n_eo:PySem.W.findIn K (.ref t.C_w) "x" = some none
  n_dr:PySem.W.findIn K (.ref t.C_b) "row" = some none
  n_do:PySem.W.findIn K (.ref t.C_b) "side" = some none
  n_bs:PySem.W.findIn K (.ref t.C_b) "name" = some none
  n_dp:PySem.W.findIn K (.ref t.C_b) "high" = some none
  n_ds:PySem.W.findIn K (.ref t.C_b) "low" = some none
  n_c7:PySem.W.findIn K (.ref t.C_b) "sides" = some none
  n_d6:PySem.W.findIn K (.ref t.C_b) "y" = some none
  n_d7:PySem.W.findIn K (.ref t.C_b) "x" = some none
  n_ei:PySem.W.findIn K (.ref t.C_n) "row" = some none
  n_d8:PySem.W.findIn K (.ref t.C_n) "side" = some none
  n_c8:PySem.W.findIn K (.ref t.C_n) "name" = some none
  n_d9:PySem.W.findIn K (.ref t.C_n) "high" = some none
  n_ej:PySem.W.findIn K (.ref t.C_n) "low" = some none
  n_d1:PySem.W.findIn K (.ref t.C_n) "sides" = some none
  n_ez:PySem.W.findIn K (.ref t.C_n) "y" = some none
  n_e0:PySem.W.findIn K (.ref t.C_n) "x" = some none
  n_er:PySem.W.findIn K (.ref t.C_t) "row" = some none
  n_dq:PySem.W.findIn K (.ref t.C_t) "side" = some none
  n_ek:PySem.W.findIn K (.ref t.C_t) "name" = some none
  n_el:PySem.W.findIn K (.ref t.C_t) "high" = some none
  n_es:PySem.W.findIn K (.ref t.C_t) "low" = some none
  n_ea:PySem.W.findIn K (.ref t.C_t) "sides" = some none
  n_e2:PySem.W.findIn K (.ref t.C_t) "y" = some none
  n_e3:PySem.W.findIn K (.ref t.C_t) "x" = some none
  n_eb:PySem.W.findIn K (.ref t.C_ai) "row" = some none
  n_et:PySem.W.findIn K (.ref t.C_ai) "side" = some none
  n_eu:PySem.W.findIn K (.ref t.C_ai) "name" = some none
  n_ev:PySem.W.findIn K (.ref t.C_ai) "high" = some none
  n_e1:PySem.W.findIn K (.ref t.C_ai) "low" = some none
  n_em:PySem.W.findIn K (.ref t.C_ai) "sides" = some none
  n_e4:PySem.W.findIn K (.ref t.C_ai) "y" = some none
  n_e5:PySem.W.findIn K (.ref t.C_ai) "x" = some none
  n_ew:PySem.W.findIn K (.ref t.C_be) "width" = some none
  n_bz:PySem.W.findIn K (.ref t.C_ay) "width" = some none
  n_ec:mg "ValueError" = none
  n_abs:mg "abs" = none
  n_bool:mg "bool" = none
  n_enumerate:mg "enumerate" = none
  n_int:mg "int" = none
  n_isinstance:mg "isinstance" = none
  n_len:mg "len" = none
  n_list:mg "list" = none
  n_max:mg "max" = none
  n_min:mg "min" = none
  n_range:mg "range" = none
  n_sorted:mg "sorted" = none
  n_str:mg "str" = none
  n_tuple:mg "tuple" = none
  kit_cm:PySem.W.kitOne K (.ref t.C_l) (.ref t.C_ba) = some false
  kit_cn:PySem.W.kitOne K (.ref t.C_l) (.ref t.C_w) = some false
  kit_b7:PySem.W.kitOne K (.ref t.C_l) (.ref t.C_a7) = some false
  kit_b0:PySem.W.kitOne K (.ref t.C_l) (.ref t.C_a5) = some false
  kit_b1:PySem.W.kitOne K (.ref t.C_l) (.ref t.C_a6) = some false
  kit_b8:PySem.W.kitOne K (.ref t.C_l) (.ref t.C_a8) = some false
  kit_bl:PySem.W.kitOne K (.ref t.C_l) (.ref t.C_b) = some false
  kit_b9:PySem.W.kitOne K (.ref t.C_l) (.ref t.C_n) = some false
  kit_ca:PySem.W.kitOne K (.ref t.C_l) (.ref t.C_l) = some true
  kit_co:PySem.W.kitOne K (.ref t.C_l) (.ref t.C_t) = some false
  kit_c9:PySem.W.kitOne K (.ref t.C_l) (.ref t.C_ai) = some false
  kit_cb:PySem.W.kitOne K (.ref t.C_l) (.ref t.C_a9) = some false
  kit_cp:PySem.W.kitOne K (.ref t.C_l) (.ref t.C_bb) = some false
  kany_l:PySem.W.kitAny K (.ref t.C_l) [.ref t.C_a2,.ref t.C_a3,.ref t.C_au,.ref t.C_av,.ref t.C_aw,.ref t.C_ax,.ref t.C_ac,.ref t.C_a4] = some false
  kitv_l:PySem.W.kitOne K (.ref t.C_l) (.type "ValueError") = some true
  mro_l:PySem.W.mroIn K t.C_l (.ref t.C_a0) = some true
  kit_da:PySem.W.kitOne K (.ref t.C_w) (.ref t.C_ba) = some false
  kit_db:PySem.W.kitOne K (.ref t.C_w) (.ref t.C_w) = some true
  kit_cq:PySem.W.kitOne K (.ref t.C_w) (.ref t.C_a7) = some false
  kit_cc:PySem.W.kitOne K (.ref t.C_w) (.ref t.C_a5) = some false
  kit_cd:PySem.W.kitOne K (.ref t.C_w) (.ref t.C_a6) = some false
  kit_cr:PySem.W.kitOne K (.ref t.C_w) (.ref t.C_a8) = some false
  kit_bt:PySem.W.kitOne K (.ref t.C_w) (.ref t.C_b) = some false
  kit_cs:PySem.W.kitOne K (.ref t.C_w) (.ref t.C_n) = some false
  kit_ct:PySem.W.kitOne K (.ref t.C_w) (.ref t.C_l) = some false
  kit_dc:PySem.W.kitOne K (.ref t.C_w) (.ref t.C_t) = some false
  kit_dt:PySem.W.kitOne K (.ref t.C_w) (.ref t.C_ai) = some false
  kit_cu:PySem.W.kitOne K (.ref t.C_w) (.ref t.C_a9) = some false
  kit_dd:PySem.W.kitOne K (.ref t.C_w) (.ref t.C_bb) = some false
  kany_w:PySem.W.kitAny K (.ref t.C_w) [.ref t.C_a2,.ref t.C_a3,.ref t.C_au,.ref t.C_av,.ref t.C_aw,.ref t.C_ax,.ref t.C_ac,.ref t.C_a4] = some false
  kitv_w:PySem.W.kitOne K (.ref t.C_w) (.type "ValueError") = some true
  mro_w:PySem.W.mroIn K t.C_w (.ref t.C_a0) = some true
  kit_bu:PySem.W.kitOne K (.ref t.C_b) (.ref t.C_ba) = some false
  kit_bv:PySem.W.kitOne K (.ref t.C_b) (.ref t.C_w) = some false
  kit_bm:PySem.W.kitOne K (.ref t.C_b) (.ref t.C_a7) = some false
  kit_bj:PySem.W.kitOne K (.ref t.C_b) (.ref t.C_a5) = some false
  kit_bk:PySem.W.kitOne K (.ref t.C_b) (.ref t.C_a6) = some false
  kit_bn:PySem.W.kitOne K (.ref t.C_b) (.ref t.C_a8) = some false
  kit_bh:PySem.W.kitOne K (.ref t.C_b) (.ref t.C_b) = some true
  kit_bo:PySem.W.kitOne K (.ref t.C_b) (.ref t.C_n) = some false
  kit_bp:PySem.W.kitOne K (.ref t.C_b) (.ref t.C_l) = some false
  kit_bw:PySem.W.kitOne K (.ref t.C_b) (.ref t.C_t) = some false
  kit_b2:PySem.W.kitOne K (.ref t.C_b) (.ref t.C_ai) = some false
  kit_bq:PySem.W.kitOne K (.ref t.C_b) (.ref t.C_a9) = some false
  kit_bx:PySem.W.kitOne K (.ref t.C_b) (.ref t.C_bb) = some false
  kany_b:PySem.W.kitAny K (.ref t.C_b) [.ref t.C_a2,.ref t.C_a3,.ref t.C_au,.ref t.C_av,.ref t.C_aw,.ref t.C_ax,.ref t.C_ac,.ref t.C_a4] = some false
  kitv_b:PySem.W.kitOne K (.ref t.C_b) (.type "ValueError") = some true
  mro_b:PySem.W.mroIn K t.C_b (.ref t.C_a0) = some true
  kit_cv:PySem.W.kitOne K (.ref t.C_n) (.ref t.C_ba) = some false
  kit_cw:PySem.W.kitOne K (.ref t.C_n) (.ref t.C_w) = some false
  kit_ce:PySem.W.kitOne K (.ref t.C_n) (.ref t.C_a7) = some false
  kit_b3:PySem.W.kitOne K (.ref t.C_n) (.ref t.C_a5) = some false
  kit_b4:PySem.W.kitOne K (.ref t.C_n) (.ref t.C_a6) = some false
  kit_cf:PySem.W.kitOne K (.ref t.C_n) (.ref t.C_a8) = some false
  kit_br:PySem.W.kitOne K (.ref t.C_n) (.ref t.C_b) = some false
  kit_cg:PySem.W.kitOne K (.ref t.C_n) (.ref t.C_n) = some true
  kit_ch:PySem.W.kitOne K (.ref t.C_n) (.ref t.C_l) = some false
  kit_cx:PySem.W.kitOne K (.ref t.C_n) (.ref t.C_t) = some false
  kit_de:PySem.W.kitOne K (.ref t.C_n) (.ref t.C_ai) = some false
  kit_ci:PySem.W.kitOne K (.ref t.C_n) (.ref t.C_a9) = some false
  kit_cy:PySem.W.kitOne K (.ref t.C_n) (.ref t.C_bb) = some false
  kany_n:PySem.W.kitAny K (.ref t.C_n) [.ref t.C_a2,.ref t.C_a3,.ref t.C_au,.ref t.C_av,.ref t.C_aw,.ref t.C_ax,.ref t.C_ac,.ref t.C_a4] = some false
  kitv_n:PySem.W.kitOne K (.ref t.C_n) (.type "ValueError") = some true
  mro_n:PySem.W.mroIn K t.C_n (.ref t.C_a0) = some true
  kit_df:PySem.W.kitOne K (.ref t.C_t) (.ref t.C_ba) = some false
  kit_dg:PySem.W.kitOne K (.ref t.C_t) (.ref t.C_w) = some false
  kit_cz:PySem.W.kitOne K (.ref t.C_t) (.ref t.C_a7) = some false
  kit_cj:PySem.W.kitOne K (.ref t.C_t) (.ref t.C_a5) = some false
  kit_ck:PySem.W.kitOne K (.ref t.C_t) (.ref t.C_a6) = some false
  kit_c0:PySem.W.kitOne K (.ref t.C_t) (.ref t.C_a8) = some false
  kit_by:PySem.W.kitOne K (.ref t.C_t) (.ref t.C_b) = some false
  kit_c1:PySem.W.kitOne K (.ref t.C_t) (.ref t.C_n) = some false
  kit_c2:PySem.W.kitOne K (.ref t.C_t) (.ref t.C_l) = some false
  kit_dh:PySem.W.kitOne K (.ref t.C_t) (.ref t.C_t) = some true
  kit_du:PySem.W.kitOne K (.ref t.C_t) (.ref t.C_ai) = some false
  kit_c3:PySem.W.kitOne K (.ref t.C_t) (.ref t.C_a9) = some false
  kit_di:PySem.W.kitOne K (.ref t.C_t) (.ref t.C_bb) = some false
  kany_t:PySem.W.kitAny K (.ref t.C_t) [.ref t.C_a2,.ref t.C_a3,.ref t.C_au,.ref t.C_av,.ref t.C_aw,.ref t.C_ax,.ref t.C_ac,.ref t.C_a4] = some false
  kitv_t:PySem.W.kitOne K (.ref t.C_t) (.type "ValueError") = some true
  mro_t:PySem.W.mroIn K t.C_t (.ref t.C_a0) = some true
  kit_dv:PySem.W.kitOne K (.ref t.C_ai) (.ref t.C_ba) = some false
  kit_dw:PySem.W.kitOne K (.ref t.C_ai) (.ref t.C_w) = some false
  kit_dj:PySem.W.kitOne K (.ref t.C_ai) (.ref t.C_a7) = some false
  kit_c4:PySem.W.kitOne K (.ref t.C_ai) (.ref t.C_a5) = some false
  kit_c5:PySem.W.kitOne K (.ref t.C_ai) (.ref t.C_a6) = some false
  kit_dk:PySem.W.kitOne K (.ref t.C_ai) (.ref t.C_a8) = some false
  kit_b5:PySem.W.kitOne K (.ref t.C_ai) (.ref t.C_b) = some false
  kit_dl:PySem.W.kitOne K (.ref t.C_ai) (.ref t.C_n) = some false
  kit_dm:PySem.W.kitOne K (.ref t.C_ai) (.ref t.C_l) = some false
  kit_dx:PySem.W.kitOne K (.ref t.C_ai) (.ref t.C_t) = some false
  kit_d2:PySem.W.kitOne K (.ref t.C_ai) (.ref t.C_ai) = some true
  kit_dn:PySem.W.kitOne K (.ref t.C_ai) (.ref t.C_a9) = some false
  kit_dy:PySem.W.kitOne K (.ref t.C_ai) (.ref t.C_bb) = some false
  kany_ai:PySem.W.kitAny K (.ref t.C_ai) [.ref t.C_a2,.ref t.C_a3,.ref t.C_au,.ref t.C_av,.ref t.C_aw,.ref t.C_ax,.ref t.C_ac,.ref t.C_a4] = some false
  kitv_ai:PySem.W.kitOne K (.ref t.C_ai) (.type "ValueError") = some true
  mro_ai:PySem.W.mroIn K t.C_ai (.ref t.C_a0) = some true
  v_dz:∃ tk,mg "MOST_ROWS" = some (.int 16 tk)
  v_b6:∃ tk,mg "MOST_COLUMNS" = some (.int 30 tk)
  v_cl:∃ tk,mg "MOST_POINTS" = some (.int 12 tk)
  g_a1:mg "MIRRORED_SIDES" = some (.ref t.D_a1)
  D_a1:xjg w K t.D_a1 [(.inr "left",.str "right"),(.inr "right",.str "left"),(.inr "both",.str "both")]
theorem txt_mk {w:World} {K:PySem.W.Frag} {h:Heap} {mg:Str→Option Value} (X:K.In h) (G:h.Ns mainGlobals mg) {C_a0 C_a2 C_ba C_w C_a7 C_a5 C_a6 C_l C_a8 C_b C_n C_t C_ai C_a9 C_bb C_a3 C_au C_av C_aw C_ax C_ac C_a4 C_be C_ay C_aq C_j f_ak f_af f_r f_ag f_al f_ao f_am f_o f_k f_at f_aa f_az f_ah f_q T_q f_ab f_f f_h f_m f_u f_i f_z f_p f_g f_d f_e f_a f_c f_as f_x f_ar f_s f_ad f_aj f_y f_an f_ap f_v f_ae f_law:Addr} {oc_ak kv_ak dc_ak pm_ak cd_ak ct_ak:Value} {od_ak an_ak:Option Addr} {sl_ak:Array (Option Value)} {oc_af kv_af dc_af pm_af cd_af ct_af:Value} {od_af an_af:Option Addr} {sl_af:Array (Option Value)} {oc_r kv_r dc_r pm_r cd_r ct_r:Value} {od_r an_r:Option Addr} {sl_r:Array (Option Value)} {oc_ag kv_ag dc_ag pm_ag cd_ag ct_ag:Value} {od_ag an_ag:Option Addr} {sl_ag:Array (Option Value)} {oc_al kv_al dc_al pm_al cd_al ct_al:Value} {od_al an_al:Option Addr} {sl_al:Array (Option Value)} {oc_ao kv_ao dc_ao pm_ao cd_ao ct_ao:Value} {od_ao an_ao:Option Addr} {sl_ao:Array (Option Value)} {oc_am kv_am dc_am pm_am cd_am ct_am:Value} {od_am an_am:Option Addr} {sl_am:Array (Option Value)} {oc_o kv_o dc_o pm_o cd_o ct_o:Value} {od_o an_o:Option Addr} {sl_o:Array (Option Value)} {oc_k kv_k dc_k pm_k cd_k ct_k:Value} {od_k an_k:Option Addr} {sl_k:Array (Option Value)} {oc_at kv_at dc_at pm_at cd_at ct_at:Value} {od_at an_at:Option Addr} {sl_at:Array (Option Value)} {oc_aa kv_aa dc_aa pm_aa cd_aa ct_aa:Value} {od_aa an_aa:Option Addr} {sl_aa:Array (Option Value)} {oc_az kv_az dc_az pm_az cd_az ct_az:Value} {od_az an_az:Option Addr} {sl_az:Array (Option Value)} {oc_ah kv_ah dc_ah pm_ah cd_ah ct_ah:Value} {od_ah an_ah:Option Addr} {sl_ah:Array (Option Value)} {oc_q kv_q dc_q pm_q cd_q ct_q:Value} {od_q an_q:Option Addr} {sl_q:Array (Option Value)} {oc_ab kv_ab dc_ab pm_ab cd_ab ct_ab:Value} {od_ab an_ab:Option Addr} {sl_ab:Array (Option Value)} {oc_f kv_f dc_f pm_f cd_f ct_f:Value} {od_f an_f:Option Addr} {sl_f:Array (Option Value)} {oc_h kv_h dc_h pm_h cd_h ct_h:Value} {od_h an_h:Option Addr} {sl_h:Array (Option Value)} {oc_m kv_m dc_m pm_m cd_m ct_m:Value} {od_m an_m:Option Addr} {sl_m:Array (Option Value)} {oc_u kv_u dc_u pm_u cd_u ct_u:Value} {od_u an_u:Option Addr} {sl_u:Array (Option Value)} {oc_i kv_i dc_i pm_i cd_i ct_i:Value} {od_i an_i:Option Addr} {sl_i:Array (Option Value)} {oc_z kv_z dc_z pm_z cd_z ct_z:Value} {od_z an_z:Option Addr} {sl_z:Array (Option Value)} {oc_p kv_p dc_p pm_p cd_p ct_p:Value} {od_p an_p:Option Addr} {sl_p:Array (Option Value)} {oc_g kv_g dc_g pm_g cd_g ct_g:Value} {od_g an_g:Option Addr} {sl_g:Array (Option Value)} {oc_d kv_d dc_d pm_d cd_d ct_d:Value} {od_d an_d:Option Addr} {sl_d:Array (Option Value)} {oc_e kv_e dc_e pm_e cd_e ct_e:Value} {od_e an_e:Option Addr} {sl_e:Array (Option Value)} {oc_a kv_a dc_a pm_a cd_a ct_a:Value} {od_a an_a:Option Addr} {sl_a:Array (Option Value)} {oc_c kv_c dc_c pm_c cd_c ct_c:Value} {od_c an_c:Option Addr} {sl_c:Array (Option Value)} {oc_as kv_as dc_as pm_as cd_as ct_as:Value} {od_as an_as:Option Addr} {sl_as:Array (Option Value)} {oc_x kv_x dc_x pm_x cd_x ct_x:Value} {od_x an_x:Option Addr} {sl_x:Array (Option Value)} {oc_ar kv_ar dc_ar pm_ar cd_ar ct_ar:Value} {od_ar an_ar:Option Addr} {sl_ar:Array (Option Value)} {oc_s kv_s dc_s pm_s cd_s ct_s:Value} {od_s an_s:Option Addr} {sl_s:Array (Option Value)} {oc_ad kv_ad dc_ad pm_ad cd_ad ct_ad:Value} {od_ad an_ad:Option Addr} {sl_ad:Array (Option Value)} {oc_aj kv_aj dc_aj pm_aj cd_aj ct_aj:Value} {od_aj an_aj:Option Addr} {sl_aj:Array (Option Value)} {oc_y kv_y dc_y pm_y cd_y ct_y:Value} {od_y an_y:Option Addr} {sl_y:Array (Option Value)} {oc_an kv_an dc_an pm_an cd_an ct_an:Value} {od_an an_an:Option Addr} {sl_an:Array (Option Value)} {oc_ap kv_ap dc_ap pm_ap cd_ap ct_ap:Value} {od_ap an_ap:Option Addr} {sl_ap:Array (Option Value)} {oc_v kv_v dc_v pm_v cd_v ct_v:Value} {od_v an_v:Option Addr} {sl_v:Array (Option Value)} {oc_ae kv_ae dc_ae pm_ae cd_ae ct_ae:Value} {od_ae an_ae:Option Addr} {sl_ae:Array (Option Value)} {oc_law kv_law dc_law pm_law cd_law ct_law:Value} {od_law an_law:Option Addr} {sl_law:Array (Option Value)} {tk0_q:Tok} {tk1_q:Tok} {toc_q:Value} {tod_q:Option Addr} {tn_q:Nat} {tsl_q:Array (Option Value)} {tkc_dz:Tok} {tkc_b6:Tok} {tkc_cl:Tok} {D_a1:Addr} {ta0_a1 tb0_a1:Tok} {ta1_a1 tb1_a1:Tok} {ta2_a1 tb2_a1:Tok} {ep_a1:Nat}
    (g_a0:PySem.W.nsIn K mainGlobals "RimError" = some (some (.ref C_a0)))
    (g_a2:PySem.W.nsIn K mainGlobals "NoSize" = some (some (.ref C_a2)))
    (g_ba:PySem.W.nsIn K mainGlobals "NoName" = some (some (.ref C_ba)))
    (g_w:PySem.W.nsIn K mainGlobals "NoCell" = some (some (.ref C_w)))
    (g_a7:PySem.W.nsIn K mainGlobals "NoSides" = some (some (.ref C_a7)))
    (g_a5:PySem.W.nsIn K mainGlobals "NoWindow" = some (some (.ref C_a5)))
    (g_a6:PySem.W.nsIn K mainGlobals "OldPoint" = some (some (.ref C_a6)))
    (g_l:PySem.W.nsIn K mainGlobals "NoPoint" = some (some (.ref C_l)))
    (g_a8:PySem.W.nsIn K mainGlobals "TooMany" = some (some (.ref C_a8)))
    (g_b:PySem.W.nsIn K mainGlobals "SameColumn" = some (some (.ref C_b)))
    (g_n:PySem.W.nsIn K mainGlobals "SameRow" = some (some (.ref C_n)))
    (g_t:PySem.W.nsIn K mainGlobals "NoSide" = some (some (.ref C_t)))
    (g_ai:PySem.W.nsIn K mainGlobals "NoRow" = some (some (.ref C_ai)))
    (g_a9:PySem.W.nsIn K mainGlobals "OldSeat" = some (some (.ref C_a9)))
    (g_bb:PySem.W.nsIn K mainGlobals "NoSeat" = some (some (.ref C_bb)))
    (g_a3:PySem.W.nsIn K mainGlobals "NoRoom" = some (some (.ref C_a3)))
    (g_au:PySem.W.nsIn K mainGlobals "NoNotes" = some (some (.ref C_au)))
    (g_av:PySem.W.nsIn K mainGlobals "TooFull" = some (some (.ref C_av)))
    (g_aw:PySem.W.nsIn K mainGlobals "TooTall" = some (some (.ref C_aw)))
    (g_ax:PySem.W.nsIn K mainGlobals "BadLine" = some (some (.ref C_ax)))
    (g_ac:PySem.W.nsIn K mainGlobals "BadDrawing" = some (some (.ref C_ac)))
    (g_a4:PySem.W.nsIn K mainGlobals "NoLine" = some (some (.ref C_a4)))
    (g_be:PySem.W.nsIn K mainGlobals "Side" = some (some (.ref C_be)))
    (g_ay:PySem.W.nsIn K mainGlobals "LeftSide" = some (some (.ref C_ay)))
    (g_aq:PySem.W.nsIn K mainGlobals "RightSide" = some (some (.ref C_aq)))
    (g_j:PySem.W.nsIn K mainGlobals "Picture" = some (some (.ref C_j)))
    (a_ak:PySem.W.findIn K (.ref C_w) "__init__" = some (some (.ref f_ak)))
    (l_ak:K.lookup f_ak = some ⟨oc_ak,od_ak,.func (PySem.W.fnOf "__init__" "NoCell.__init__" (x6 s_ak) (x4 s_ak) (xk s_ak) .none kv_ak dc_ak pm_ak an_ak cd_ak ct_ak),sl_ak⟩)
    (c_ak:PySem.W.codeIn K cd_ak "NoCell.__init__" = true)
    (k_ak:PySem.W.keepIn K (.ref f_ak) = true)
    (i_ak:PySem.W.isFn K (.ref f_ak) = true)
    (a_af:PySem.W.findIn K (.ref C_l) "__init__" = some (some (.ref f_af)))
    (l_af:K.lookup f_af = some ⟨oc_af,od_af,.func (PySem.W.fnOf "__init__" "NoPoint.__init__" (x6 s_af) (x4 s_af) (xk s_af) .none kv_af dc_af pm_af an_af cd_af ct_af),sl_af⟩)
    (c_af:PySem.W.codeIn K cd_af "NoPoint.__init__" = true)
    (k_af:PySem.W.keepIn K (.ref f_af) = true)
    (i_af:PySem.W.isFn K (.ref f_af) = true)
    (a_r:PySem.W.findIn K (.ref C_b) "__init__" = some (some (.ref f_r)))
    (l_r:K.lookup f_r = some ⟨oc_r,od_r,.func (PySem.W.fnOf "__init__" "SameColumn.__init__" (x6 s_r) (x4 s_r) (xk s_r) .none kv_r dc_r pm_r an_r cd_r ct_r),sl_r⟩)
    (c_r:PySem.W.codeIn K cd_r "SameColumn.__init__" = true)
    (k_r:PySem.W.keepIn K (.ref f_r) = true)
    (i_r:PySem.W.isFn K (.ref f_r) = true)
    (a_ag:PySem.W.findIn K (.ref C_n) "__init__" = some (some (.ref f_ag)))
    (l_ag:K.lookup f_ag = some ⟨oc_ag,od_ag,.func (PySem.W.fnOf "__init__" "SameRow.__init__" (x6 s_ag) (x4 s_ag) (xk s_ag) .none kv_ag dc_ag pm_ag an_ag cd_ag ct_ag),sl_ag⟩)
    (c_ag:PySem.W.codeIn K cd_ag "SameRow.__init__" = true)
    (k_ag:PySem.W.keepIn K (.ref f_ag) = true)
    (i_ag:PySem.W.isFn K (.ref f_ag) = true)
    (a_al:PySem.W.findIn K (.ref C_t) "__init__" = some (some (.ref f_al)))
    (l_al:K.lookup f_al = some ⟨oc_al,od_al,.func (PySem.W.fnOf "__init__" "NoSide.__init__" (x6 s_al) (x4 s_al) (xk s_al) .none kv_al dc_al pm_al an_al cd_al ct_al),sl_al⟩)
    (c_al:PySem.W.codeIn K cd_al "NoSide.__init__" = true)
    (k_al:PySem.W.keepIn K (.ref f_al) = true)
    (i_al:PySem.W.isFn K (.ref f_al) = true)
    (a_ao:PySem.W.findIn K (.ref C_ai) "__init__" = some (some (.ref f_ao)))
    (l_ao:K.lookup f_ao = some ⟨oc_ao,od_ao,.func (PySem.W.fnOf "__init__" "NoRow.__init__" (x6 s_ao) (x4 s_ao) (xk s_ao) .none kv_ao dc_ao pm_ao an_ao cd_ao ct_ao),sl_ao⟩)
    (c_ao:PySem.W.codeIn K cd_ao "NoRow.__init__" = true)
    (k_ao:PySem.W.keepIn K (.ref f_ao) = true)
    (i_ao:PySem.W.isFn K (.ref f_ao) = true)
    (a_am:PySem.W.findIn K (.ref C_be) "__init__" = some (some (.ref f_am)))
    (l_am:K.lookup f_am = some ⟨oc_am,od_am,.func (PySem.W.fnOf "__init__" "Side.__init__" (x6 s_am) (x4 s_am) (xk s_am) .none kv_am dc_am pm_am an_am cd_am ct_am),sl_am⟩)
    (c_am:PySem.W.codeIn K cd_am "Side.__init__" = true)
    (k_am:PySem.W.keepIn K (.ref f_am) = true)
    (i_am:PySem.W.isFn K (.ref f_am) = true)
    (a_o:PySem.W.findIn K (.ref C_ay) "across" = some (some (.ref f_o)))
    (l_o:K.lookup f_o = some ⟨oc_o,od_o,.func (PySem.W.fnOf "across" "LeftSide.across" (x6 s_o) (x4 s_o) (xk s_o) .none kv_o dc_o pm_o an_o cd_o ct_o),sl_o⟩)
    (c_o:PySem.W.codeIn K cd_o "LeftSide.across" = true)
    (k_o:PySem.W.keepIn K (.ref f_o) = true)
    (i_o:PySem.W.isFn K (.ref f_o) = true)
    (a_k:PySem.W.findIn K (.ref C_aq) "across" = some (some (.ref f_k)))
    (l_k:K.lookup f_k = some ⟨oc_k,od_k,.func (PySem.W.fnOf "across" "RightSide.across" (x6 s_k) (x4 s_k) (xk s_k) .none kv_k dc_k pm_k an_k cd_k ct_k),sl_k⟩)
    (c_k:PySem.W.codeIn K cd_k "RightSide.across" = true)
    (k_k:PySem.W.keepIn K (.ref f_k) = true)
    (i_k:PySem.W.isFn K (.ref f_k) = true)
    (a_at:PySem.W.nsIn K mainGlobals "side_of" = some (some (.ref f_at)))
    (l_at:K.lookup f_at = some ⟨oc_at,od_at,.func (PySem.W.fnOf "side_of" "side_of" (x6 s_at) (x4 s_at) (xk s_at) .none kv_at dc_at pm_at an_at cd_at ct_at),sl_at⟩)
    (c_at:PySem.W.codeIn K cd_at "side_of" = true)
    (k_at:PySem.W.keepIn K (.ref f_at) = true)
    (i_at:PySem.W.isFn K (.ref f_at) = true)
    (a_aa:PySem.W.nsIn K mainGlobals "is_whole" = some (some (.ref f_aa)))
    (l_aa:K.lookup f_aa = some ⟨oc_aa,od_aa,.func (PySem.W.fnOf "is_whole" "is_whole" (x6 s_aa) (x4 s_aa) (xk s_aa) .none kv_aa dc_aa pm_aa an_aa cd_aa ct_aa),sl_aa⟩)
    (c_aa:PySem.W.codeIn K cd_aa "is_whole" = true)
    (k_aa:PySem.W.keepIn K (.ref f_aa) = true)
    (i_aa:PySem.W.isFn K (.ref f_aa) = true)
    (a_az:PySem.W.nsIn K mainGlobals "is_name" = some (some (.ref f_az)))
    (l_az:K.lookup f_az = some ⟨oc_az,od_az,.func (PySem.W.fnOf "is_name" "is_name" (x6 s_az) (x4 s_az) (xk s_az) .none kv_az dc_az pm_az an_az cd_az ct_az),sl_az⟩)
    (c_az:PySem.W.codeIn K cd_az "is_name" = true)
    (k_az:PySem.W.keepIn K (.ref f_az) = true)
    (i_az:PySem.W.isFn K (.ref f_az) = true)
    (a_ah:PySem.W.findIn K (.ref C_j) "__init__" = some (some (.ref f_ah)))
    (l_ah:K.lookup f_ah = some ⟨oc_ah,od_ah,.func (PySem.W.fnOf "__init__" "Picture.__init__" (x6 s_ah) (x4 s_ah) (xk s_ah) .none kv_ah dc_ah pm_ah an_ah cd_ah ct_ah),sl_ah⟩)
    (c_ah:PySem.W.codeIn K cd_ah "Picture.__init__" = true)
    (k_ah:PySem.W.keepIn K (.ref f_ah) = true)
    (i_ah:PySem.W.isFn K (.ref f_ah) = true)
    (a_q:PySem.W.findIn K (.ref C_j) "put" = some (some (.ref f_q)))
    (l_q:K.lookup f_q = some ⟨oc_q,od_q,.func (PySem.W.fnOf "put" "Picture.put" (x6 s_q) (x4 s_q) (xk s_q) (.ref T_q) kv_q dc_q pm_q an_q cd_q ct_q),sl_q⟩)
    (c_q:PySem.W.codeIn K cd_q "Picture.put" = true)
    (k_q:PySem.W.keepIn K (.ref f_q) = true)
    (i_q:PySem.W.isFn K (.ref f_q) = true)
    (t_q:K.lookup T_q = some ⟨toc_q,tod_q,.seq #[.str "both" tk0_q,.int 1 tk1_q,.none] tn_q,tsl_q⟩)
    (a_ab:PySem.W.findIn K (.ref C_j) "move" = some (some (.ref f_ab)))
    (l_ab:K.lookup f_ab = some ⟨oc_ab,od_ab,.func (PySem.W.fnOf "move" "Picture.move" (x6 s_ab) (x4 s_ab) (xk s_ab) .none kv_ab dc_ab pm_ab an_ab cd_ab ct_ab),sl_ab⟩)
    (c_ab:PySem.W.codeIn K cd_ab "Picture.move" = true)
    (k_ab:PySem.W.keepIn K (.ref f_ab) = true)
    (i_ab:PySem.W.isFn K (.ref f_ab) = true)
    (a_f:PySem.W.findIn K (.ref C_j) "open_seat" = some (some (.ref f_f)))
    (l_f:K.lookup f_f = some ⟨oc_f,od_f,.func (PySem.W.fnOf "open_seat" "Picture.open_seat" (x6 s_f) (x4 s_f) (xk s_f) .none kv_f dc_f pm_f an_f cd_f ct_f),sl_f⟩)
    (c_f:PySem.W.codeIn K cd_f "Picture.open_seat" = true)
    (k_f:PySem.W.keepIn K (.ref f_f) = true)
    (i_f:PySem.W.isFn K (.ref f_f) = true)
    (a_h:PySem.W.findIn K (.ref C_j) "shut_seat" = some (some (.ref f_h)))
    (l_h:K.lookup f_h = some ⟨oc_h,od_h,.func (PySem.W.fnOf "shut_seat" "Picture.shut_seat" (x6 s_h) (x4 s_h) (xk s_h) .none kv_h dc_h pm_h an_h cd_h ct_h),sl_h⟩)
    (c_h:PySem.W.codeIn K cd_h "Picture.shut_seat" = true)
    (k_h:PySem.W.keepIn K (.ref f_h) = true)
    (i_h:PySem.W.isFn K (.ref f_h) = true)
    (a_m:PySem.W.findIn K (.ref C_j) "points" = some (some (.ref f_m)))
    (l_m:K.lookup f_m = some ⟨oc_m,od_m,.func (PySem.W.fnOf "points" "Picture.points" (x6 s_m) (x4 s_m) (xk s_m) .none kv_m dc_m pm_m an_m cd_m ct_m),sl_m⟩)
    (c_m:PySem.W.codeIn K cd_m "Picture.points" = true)
    (k_m:PySem.W.keepIn K (.ref f_m) = true)
    (i_m:PySem.W.isFn K (.ref f_m) = true)
    (a_u:PySem.W.findIn K (.ref C_j) "seats" = some (some (.ref f_u)))
    (l_u:K.lookup f_u = some ⟨oc_u,od_u,.func (PySem.W.fnOf "seats" "Picture.seats" (x6 s_u) (x4 s_u) (xk s_u) .none kv_u dc_u pm_u an_u cd_u ct_u),sl_u⟩)
    (c_u:PySem.W.codeIn K cd_u "Picture.seats" = true)
    (k_u:PySem.W.keepIn K (.ref f_u) = true)
    (i_u:PySem.W.isFn K (.ref f_u) = true)
    (a_i:PySem.W.findIn K (.ref C_j) "place_of" = some (some (.ref f_i)))
    (l_i:K.lookup f_i = some ⟨oc_i,od_i,.func (PySem.W.fnOf "place_of" "Picture.place_of" (x6 s_i) (x4 s_i) (xk s_i) .none kv_i dc_i pm_i an_i cd_i ct_i),sl_i⟩)
    (c_i:PySem.W.codeIn K cd_i "Picture.place_of" = true)
    (k_i:PySem.W.keepIn K (.ref f_i) = true)
    (i_i:PySem.W.isFn K (.ref f_i) = true)
    (a_z:PySem.W.findIn K (.ref C_j) "may" = some (some (.ref f_z)))
    (l_z:K.lookup f_z = some ⟨oc_z,od_z,.func (PySem.W.fnOf "may" "Picture.may" (x6 s_z) (x4 s_z) (xk s_z) .none kv_z dc_z pm_z an_z cd_z ct_z),sl_z⟩)
    (c_z:PySem.W.codeIn K cd_z "Picture.may" = true)
    (k_z:PySem.W.keepIn K (.ref f_z) = true)
    (i_z:PySem.W.isFn K (.ref f_z) = true)
    (a_p:PySem.W.findIn K (.ref C_j) "length" = some (some (.ref f_p)))
    (l_p:K.lookup f_p = some ⟨oc_p,od_p,.func (PySem.W.fnOf "length" "Picture.length" (x6 s_p) (x4 s_p) (xk s_p) .none kv_p dc_p pm_p an_p cd_p ct_p),sl_p⟩)
    (c_p:PySem.W.codeIn K cd_p "Picture.length" = true)
    (k_p:PySem.W.keepIn K (.ref f_p) = true)
    (i_p:PySem.W.isFn K (.ref f_p) = true)
    (a_g:PySem.W.findIn K (.ref C_j) "seats_for" = some (some (.ref f_g)))
    (l_g:K.lookup f_g = some ⟨oc_g,od_g,.func (PySem.W.fnOf "seats_for" "Picture.seats_for" (x6 s_g) (x4 s_g) (xk s_g) .none kv_g dc_g pm_g an_g cd_g ct_g),sl_g⟩)
    (c_g:PySem.W.codeIn K cd_g "Picture.seats_for" = true)
    (k_g:PySem.W.keepIn K (.ref f_g) = true)
    (i_g:PySem.W.isFn K (.ref f_g) = true)
    (a_d:PySem.W.findIn K (.ref C_j) "check_name" = some (some (.ref f_d)))
    (l_d:K.lookup f_d = some ⟨oc_d,od_d,.func (PySem.W.fnOf "check_name" "Picture.check_name" (x6 s_d) (x4 s_d) (xk s_d) .none kv_d dc_d pm_d an_d cd_d ct_d),sl_d⟩)
    (c_d:PySem.W.codeIn K cd_d "Picture.check_name" = true)
    (k_d:PySem.W.keepIn K (.ref f_d) = true)
    (i_d:PySem.W.isFn K (.ref f_d) = true)
    (a_e:PySem.W.findIn K (.ref C_j) "check_cell" = some (some (.ref f_e)))
    (l_e:K.lookup f_e = some ⟨oc_e,od_e,.func (PySem.W.fnOf "check_cell" "Picture.check_cell" (x6 s_e) (x4 s_e) (xk s_e) .none kv_e dc_e pm_e an_e cd_e ct_e),sl_e⟩)
    (c_e:PySem.W.codeIn K cd_e "Picture.check_cell" = true)
    (k_e:PySem.W.keepIn K (.ref f_e) = true)
    (i_e:PySem.W.isFn K (.ref f_e) = true)
    (a_a:PySem.W.findIn K (.ref C_j) "check_lines" = some (some (.ref f_a)))
    (l_a:K.lookup f_a = some ⟨oc_a,od_a,.func (PySem.W.fnOf "check_lines" "Picture.check_lines" (x6 s_a) (x4 s_a) (xk s_a) .none kv_a dc_a pm_a an_a cd_a ct_a),sl_a⟩)
    (c_a:PySem.W.codeIn K cd_a "Picture.check_lines" = true)
    (k_a:PySem.W.keepIn K (.ref f_a) = true)
    (i_a:PySem.W.isFn K (.ref f_a) = true)
    (a_c:PySem.W.findIn K (.ref C_j) "check_seat" = some (some (.ref f_c)))
    (l_c:K.lookup f_c = some ⟨oc_c,od_c,.func (PySem.W.fnOf "check_seat" "Picture.check_seat" (x6 s_c) (x4 s_c) (xk s_c) .none kv_c dc_c pm_c an_c cd_c ct_c),sl_c⟩)
    (c_c:PySem.W.codeIn K cd_c "Picture.check_seat" = true)
    (k_c:PySem.W.keepIn K (.ref f_c) = true)
    (i_c:PySem.W.isFn K (.ref f_c) = true)
    (a_as:PySem.W.nsIn K mainGlobals "_law_cell" = some (some (.ref f_as)))
    (l_as:K.lookup f_as = some ⟨oc_as,od_as,.func (PySem.W.fnOf "_law_cell" "_law_cell" (x6 s_as) (x4 s_as) (xk s_as) .none kv_as dc_as pm_as an_as cd_as ct_as),sl_as⟩)
    (c_as:PySem.W.codeIn K cd_as "_law_cell" = true)
    (k_as:PySem.W.keepIn K (.ref f_as) = true)
    (i_as:PySem.W.isFn K (.ref f_as) = true)
    (a_x:PySem.W.nsIn K mainGlobals "_law_mixed" = some (some (.ref f_x)))
    (l_x:K.lookup f_x = some ⟨oc_x,od_x,.func (PySem.W.fnOf "_law_mixed" "_law_mixed" (x6 s_x) (x4 s_x) (xk s_x) .none kv_x dc_x pm_x an_x cd_x ct_x),sl_x⟩)
    (c_x:PySem.W.codeIn K cd_x "_law_mixed" = true)
    (k_x:PySem.W.keepIn K (.ref f_x) = true)
    (i_x:PySem.W.isFn K (.ref f_x) = true)
    (a_ar:PySem.W.nsIn K mainGlobals "_law_told" = some (some (.ref f_ar)))
    (l_ar:K.lookup f_ar = some ⟨oc_ar,od_ar,.func (PySem.W.fnOf "_law_told" "_law_told" (x6 s_ar) (x4 s_ar) (xk s_ar) .none kv_ar dc_ar pm_ar an_ar cd_ar ct_ar),sl_ar⟩)
    (c_ar:PySem.W.codeIn K cd_ar "_law_told" = true)
    (k_ar:PySem.W.keepIn K (.ref f_ar) = true)
    (i_ar:PySem.W.isFn K (.ref f_ar) = true)
    (a_s:PySem.W.nsIn K mainGlobals "_law_told_more" = some (some (.ref f_s)))
    (l_s:K.lookup f_s = some ⟨oc_s,od_s,.func (PySem.W.fnOf "_law_told_more" "_law_told_more" (x6 s_s) (x4 s_s) (xk s_s) .none kv_s dc_s pm_s an_s cd_s ct_s),sl_s⟩)
    (c_s:PySem.W.codeIn K cd_s "_law_told_more" = true)
    (k_s:PySem.W.keepIn K (.ref f_s) = true)
    (i_s:PySem.W.isFn K (.ref f_s) = true)
    (a_ad:PySem.W.nsIn K mainGlobals "_law_filled" = some (some (.ref f_ad)))
    (l_ad:K.lookup f_ad = some ⟨oc_ad,od_ad,.func (PySem.W.fnOf "_law_filled" "_law_filled" (x6 s_ad) (x4 s_ad) (xk s_ad) .none kv_ad dc_ad pm_ad an_ad cd_ad ct_ad),sl_ad⟩)
    (c_ad:PySem.W.codeIn K cd_ad "_law_filled" = true)
    (k_ad:PySem.W.keepIn K (.ref f_ad) = true)
    (i_ad:PySem.W.isFn K (.ref f_ad) = true)
    (a_aj:PySem.W.nsIn K mainGlobals "_law_opened" = some (some (.ref f_aj)))
    (l_aj:K.lookup f_aj = some ⟨oc_aj,od_aj,.func (PySem.W.fnOf "_law_opened" "_law_opened" (x6 s_aj) (x4 s_aj) (xk s_aj) .none kv_aj dc_aj pm_aj an_aj cd_aj ct_aj),sl_aj⟩)
    (c_aj:PySem.W.codeIn K cd_aj "_law_opened" = true)
    (k_aj:PySem.W.keepIn K (.ref f_aj) = true)
    (i_aj:PySem.W.isFn K (.ref f_aj) = true)
    (a_y:PySem.W.nsIn K mainGlobals "_law_is_whole" = some (some (.ref f_y)))
    (l_y:K.lookup f_y = some ⟨oc_y,od_y,.func (PySem.W.fnOf "_law_is_whole" "_law_is_whole" (x6 s_y) (x4 s_y) (xk s_y) .none kv_y dc_y pm_y an_y cd_y ct_y),sl_y⟩)
    (c_y:PySem.W.codeIn K cd_y "_law_is_whole" = true)
    (k_y:PySem.W.keepIn K (.ref f_y) = true)
    (i_y:PySem.W.isFn K (.ref f_y) = true)
    (a_an:PySem.W.nsIn K mainGlobals "_law_asked" = some (some (.ref f_an)))
    (l_an:K.lookup f_an = some ⟨oc_an,od_an,.func (PySem.W.fnOf "_law_asked" "_law_asked" (x6 s_an) (x4 s_an) (xk s_an) .none kv_an dc_an pm_an an_an cd_an ct_an),sl_an⟩)
    (c_an:PySem.W.codeIn K cd_an "_law_asked" = true)
    (k_an:PySem.W.keepIn K (.ref f_an) = true)
    (i_an:PySem.W.isFn K (.ref f_an) = true)
    (a_ap:PySem.W.nsIn K mainGlobals "_law_wants" = some (some (.ref f_ap)))
    (l_ap:K.lookup f_ap = some ⟨oc_ap,od_ap,.func (PySem.W.fnOf "_law_wants" "_law_wants" (x6 s_ap) (x4 s_ap) (xk s_ap) .none kv_ap dc_ap pm_ap an_ap cd_ap ct_ap),sl_ap⟩)
    (c_ap:PySem.W.codeIn K cd_ap "_law_wants" = true)
    (k_ap:PySem.W.keepIn K (.ref f_ap) = true)
    (i_ap:PySem.W.isFn K (.ref f_ap) = true)
    (a_v:PySem.W.nsIn K mainGlobals "_law_answered" = some (some (.ref f_v)))
    (l_v:K.lookup f_v = some ⟨oc_v,od_v,.func (PySem.W.fnOf "_law_answered" "_law_answered" (x6 s_v) (x4 s_v) (xk s_v) .none kv_v dc_v pm_v an_v cd_v ct_v),sl_v⟩)
    (c_v:PySem.W.codeIn K cd_v "_law_answered" = true)
    (k_v:PySem.W.keepIn K (.ref f_v) = true)
    (i_v:PySem.W.isFn K (.ref f_v) = true)
    (a_ae:PySem.W.nsIn K mainGlobals "_law_changed" = some (some (.ref f_ae)))
    (l_ae:K.lookup f_ae = some ⟨oc_ae,od_ae,.func (PySem.W.fnOf "_law_changed" "_law_changed" (x6 s_ae) (x4 s_ae) (xk s_ae) .none kv_ae dc_ae pm_ae an_ae cd_ae ct_ae),sl_ae⟩)
    (c_ae:PySem.W.codeIn K cd_ae "_law_changed" = true)
    (k_ae:PySem.W.keepIn K (.ref f_ae) = true)
    (i_ae:PySem.W.isFn K (.ref f_ae) = true)
    (a_law:PySem.W.nsIn K mainGlobals "law" = some (some (.ref f_law)))
    (l_law:K.lookup f_law = some ⟨oc_law,od_law,.func (PySem.W.fnOf "law" "law" (x6 xeb) (x4 xeb) (xk xeb) .none kv_law dc_law pm_law an_law cd_law ct_law),sl_law⟩)
    (c_law:PySem.W.codeIn K cd_law "law" = true)
    (k_law:PySem.W.keepIn K (.ref f_law) = true)
    (i_law:PySem.W.isFn K (.ref f_law) = true)
    (kc_a0:PySem.W.keepIn K (.ref C_a0) = true)
    (ov_a0:xa2 K C_a0 = true)
    (hd_a0:PySem.W.hasDictIn K C_a0 = true)
    (sa_a0:PySem.W.findIn K (.ref C_a0) "__setattr__" = some (some (.builtin "object.__setattr__")))
    (ga_a0:PySem.W.findIn K (.ref C_a0) "__getattribute__" = some (some (.builtin "BaseException.__getattribute__")))
    (gh_a0:PySem.W.findIn K (.ref C_a0) "__getattr__" = some none)
    (ca_a0:PySem.W.findIn K (.ref C_a0) "__class__" = some (some (.builtin "object.__class__")))
    (mk_a0:xai K C_a0 = true)
    (kc_a2:PySem.W.keepIn K (.ref C_a2) = true)
    (ov_a2:xa2 K C_a2 = true)
    (hd_a2:PySem.W.hasDictIn K C_a2 = true)
    (sa_a2:PySem.W.findIn K (.ref C_a2) "__setattr__" = some (some (.builtin "object.__setattr__")))
    (ga_a2:PySem.W.findIn K (.ref C_a2) "__getattribute__" = some (some (.builtin "BaseException.__getattribute__")))
    (gh_a2:PySem.W.findIn K (.ref C_a2) "__getattr__" = some none)
    (ca_a2:PySem.W.findIn K (.ref C_a2) "__class__" = some (some (.builtin "object.__class__")))
    (mk_a2:xai K C_a2 = true)
    (kc_ba:PySem.W.keepIn K (.ref C_ba) = true)
    (ov_ba:xa2 K C_ba = true)
    (hd_ba:PySem.W.hasDictIn K C_ba = true)
    (sa_ba:PySem.W.findIn K (.ref C_ba) "__setattr__" = some (some (.builtin "object.__setattr__")))
    (ga_ba:PySem.W.findIn K (.ref C_ba) "__getattribute__" = some (some (.builtin "BaseException.__getattribute__")))
    (gh_ba:PySem.W.findIn K (.ref C_ba) "__getattr__" = some none)
    (ca_ba:PySem.W.findIn K (.ref C_ba) "__class__" = some (some (.builtin "object.__class__")))
    (mk_ba:xai K C_ba = true)
    (kc_w:PySem.W.keepIn K (.ref C_w) = true)
    (ov_w:xa2 K C_w = true)
    (hd_w:PySem.W.hasDictIn K C_w = true)
    (sa_w:PySem.W.findIn K (.ref C_w) "__setattr__" = some (some (.builtin "object.__setattr__")))
    (ga_w:PySem.W.findIn K (.ref C_w) "__getattribute__" = some (some (.builtin "BaseException.__getattribute__")))
    (gh_w:PySem.W.findIn K (.ref C_w) "__getattr__" = some none)
    (ca_w:PySem.W.findIn K (.ref C_w) "__class__" = some (some (.builtin "object.__class__")))
    (mk_w:xai K C_w = true)
    (kc_a7:PySem.W.keepIn K (.ref C_a7) = true)
    (ov_a7:xa2 K C_a7 = true)
    (hd_a7:PySem.W.hasDictIn K C_a7 = true)
    (sa_a7:PySem.W.findIn K (.ref C_a7) "__setattr__" = some (some (.builtin "object.__setattr__")))
    (ga_a7:PySem.W.findIn K (.ref C_a7) "__getattribute__" = some (some (.builtin "BaseException.__getattribute__")))
    (gh_a7:PySem.W.findIn K (.ref C_a7) "__getattr__" = some none)
    (ca_a7:PySem.W.findIn K (.ref C_a7) "__class__" = some (some (.builtin "object.__class__")))
    (mk_a7:xai K C_a7 = true)
    (kc_a5:PySem.W.keepIn K (.ref C_a5) = true)
    (ov_a5:xa2 K C_a5 = true)
    (hd_a5:PySem.W.hasDictIn K C_a5 = true)
    (sa_a5:PySem.W.findIn K (.ref C_a5) "__setattr__" = some (some (.builtin "object.__setattr__")))
    (ga_a5:PySem.W.findIn K (.ref C_a5) "__getattribute__" = some (some (.builtin "BaseException.__getattribute__")))
    (gh_a5:PySem.W.findIn K (.ref C_a5) "__getattr__" = some none)
    (ca_a5:PySem.W.findIn K (.ref C_a5) "__class__" = some (some (.builtin "object.__class__")))
    (mk_a5:xai K C_a5 = true)
    (kc_a6:PySem.W.keepIn K (.ref C_a6) = true)
    (ov_a6:xa2 K C_a6 = true)
    (hd_a6:PySem.W.hasDictIn K C_a6 = true)
    (sa_a6:PySem.W.findIn K (.ref C_a6) "__setattr__" = some (some (.builtin "object.__setattr__")))
    (ga_a6:PySem.W.findIn K (.ref C_a6) "__getattribute__" = some (some (.builtin "BaseException.__getattribute__")))
    (gh_a6:PySem.W.findIn K (.ref C_a6) "__getattr__" = some none)
    (ca_a6:PySem.W.findIn K (.ref C_a6) "__class__" = some (some (.builtin "object.__class__")))
    (mk_a6:xai K C_a6 = true)
    (kc_l:PySem.W.keepIn K (.ref C_l) = true)
    (ov_l:xa2 K C_l = true)
    (hd_l:PySem.W.hasDictIn K C_l = true)
    (sa_l:PySem.W.findIn K (.ref C_l) "__setattr__" = some (some (.builtin "object.__setattr__")))
    (ga_l:PySem.W.findIn K (.ref C_l) "__getattribute__" = some (some (.builtin "BaseException.__getattribute__")))
    (gh_l:PySem.W.findIn K (.ref C_l) "__getattr__" = some none)
    (ca_l:PySem.W.findIn K (.ref C_l) "__class__" = some (some (.builtin "object.__class__")))
    (mk_l:xai K C_l = true)
    (kc_a8:PySem.W.keepIn K (.ref C_a8) = true)
    (ov_a8:xa2 K C_a8 = true)
    (hd_a8:PySem.W.hasDictIn K C_a8 = true)
    (sa_a8:PySem.W.findIn K (.ref C_a8) "__setattr__" = some (some (.builtin "object.__setattr__")))
    (ga_a8:PySem.W.findIn K (.ref C_a8) "__getattribute__" = some (some (.builtin "BaseException.__getattribute__")))
    (gh_a8:PySem.W.findIn K (.ref C_a8) "__getattr__" = some none)
    (ca_a8:PySem.W.findIn K (.ref C_a8) "__class__" = some (some (.builtin "object.__class__")))
    (mk_a8:xai K C_a8 = true)
    (kc_b:PySem.W.keepIn K (.ref C_b) = true)
    (ov_b:xa2 K C_b = true)
    (hd_b:PySem.W.hasDictIn K C_b = true)
    (sa_b:PySem.W.findIn K (.ref C_b) "__setattr__" = some (some (.builtin "object.__setattr__")))
    (ga_b:PySem.W.findIn K (.ref C_b) "__getattribute__" = some (some (.builtin "BaseException.__getattribute__")))
    (gh_b:PySem.W.findIn K (.ref C_b) "__getattr__" = some none)
    (ca_b:PySem.W.findIn K (.ref C_b) "__class__" = some (some (.builtin "object.__class__")))
    (mk_b:xai K C_b = true)
    (kc_n:PySem.W.keepIn K (.ref C_n) = true)
    (ov_n:xa2 K C_n = true)
    (hd_n:PySem.W.hasDictIn K C_n = true)
    (sa_n:PySem.W.findIn K (.ref C_n) "__setattr__" = some (some (.builtin "object.__setattr__")))
    (ga_n:PySem.W.findIn K (.ref C_n) "__getattribute__" = some (some (.builtin "BaseException.__getattribute__")))
    (gh_n:PySem.W.findIn K (.ref C_n) "__getattr__" = some none)
    (ca_n:PySem.W.findIn K (.ref C_n) "__class__" = some (some (.builtin "object.__class__")))
    (mk_n:xai K C_n = true)
    (kc_t:PySem.W.keepIn K (.ref C_t) = true)
    (ov_t:xa2 K C_t = true)
    (hd_t:PySem.W.hasDictIn K C_t = true)
    (sa_t:PySem.W.findIn K (.ref C_t) "__setattr__" = some (some (.builtin "object.__setattr__")))
    (ga_t:PySem.W.findIn K (.ref C_t) "__getattribute__" = some (some (.builtin "BaseException.__getattribute__")))
    (gh_t:PySem.W.findIn K (.ref C_t) "__getattr__" = some none)
    (ca_t:PySem.W.findIn K (.ref C_t) "__class__" = some (some (.builtin "object.__class__")))
    (mk_t:xai K C_t = true)
    (kc_ai:PySem.W.keepIn K (.ref C_ai) = true)
    (ov_ai:xa2 K C_ai = true)
    (hd_ai:PySem.W.hasDictIn K C_ai = true)
    (sa_ai:PySem.W.findIn K (.ref C_ai) "__setattr__" = some (some (.builtin "object.__setattr__")))
    (ga_ai:PySem.W.findIn K (.ref C_ai) "__getattribute__" = some (some (.builtin "BaseException.__getattribute__")))
    (gh_ai:PySem.W.findIn K (.ref C_ai) "__getattr__" = some none)
    (ca_ai:PySem.W.findIn K (.ref C_ai) "__class__" = some (some (.builtin "object.__class__")))
    (mk_ai:xai K C_ai = true)
    (kc_a9:PySem.W.keepIn K (.ref C_a9) = true)
    (ov_a9:xa2 K C_a9 = true)
    (hd_a9:PySem.W.hasDictIn K C_a9 = true)
    (sa_a9:PySem.W.findIn K (.ref C_a9) "__setattr__" = some (some (.builtin "object.__setattr__")))
    (ga_a9:PySem.W.findIn K (.ref C_a9) "__getattribute__" = some (some (.builtin "BaseException.__getattribute__")))
    (gh_a9:PySem.W.findIn K (.ref C_a9) "__getattr__" = some none)
    (ca_a9:PySem.W.findIn K (.ref C_a9) "__class__" = some (some (.builtin "object.__class__")))
    (mk_a9:xai K C_a9 = true)
    (kc_bb:PySem.W.keepIn K (.ref C_bb) = true)
    (ov_bb:xa2 K C_bb = true)
    (hd_bb:PySem.W.hasDictIn K C_bb = true)
    (sa_bb:PySem.W.findIn K (.ref C_bb) "__setattr__" = some (some (.builtin "object.__setattr__")))
    (ga_bb:PySem.W.findIn K (.ref C_bb) "__getattribute__" = some (some (.builtin "BaseException.__getattribute__")))
    (gh_bb:PySem.W.findIn K (.ref C_bb) "__getattr__" = some none)
    (ca_bb:PySem.W.findIn K (.ref C_bb) "__class__" = some (some (.builtin "object.__class__")))
    (mk_bb:xai K C_bb = true)
    (kc_a3:PySem.W.keepIn K (.ref C_a3) = true)
    (ov_a3:xa2 K C_a3 = true)
    (hd_a3:PySem.W.hasDictIn K C_a3 = true)
    (sa_a3:PySem.W.findIn K (.ref C_a3) "__setattr__" = some (some (.builtin "object.__setattr__")))
    (ga_a3:PySem.W.findIn K (.ref C_a3) "__getattribute__" = some (some (.builtin "BaseException.__getattribute__")))
    (gh_a3:PySem.W.findIn K (.ref C_a3) "__getattr__" = some none)
    (ca_a3:PySem.W.findIn K (.ref C_a3) "__class__" = some (some (.builtin "object.__class__")))
    (mk_a3:xai K C_a3 = true)
    (kc_au:PySem.W.keepIn K (.ref C_au) = true)
    (ov_au:xa2 K C_au = true)
    (hd_au:PySem.W.hasDictIn K C_au = true)
    (sa_au:PySem.W.findIn K (.ref C_au) "__setattr__" = some (some (.builtin "object.__setattr__")))
    (ga_au:PySem.W.findIn K (.ref C_au) "__getattribute__" = some (some (.builtin "BaseException.__getattribute__")))
    (gh_au:PySem.W.findIn K (.ref C_au) "__getattr__" = some none)
    (ca_au:PySem.W.findIn K (.ref C_au) "__class__" = some (some (.builtin "object.__class__")))
    (mk_au:xai K C_au = true)
    (kc_av:PySem.W.keepIn K (.ref C_av) = true)
    (ov_av:xa2 K C_av = true)
    (hd_av:PySem.W.hasDictIn K C_av = true)
    (sa_av:PySem.W.findIn K (.ref C_av) "__setattr__" = some (some (.builtin "object.__setattr__")))
    (ga_av:PySem.W.findIn K (.ref C_av) "__getattribute__" = some (some (.builtin "BaseException.__getattribute__")))
    (gh_av:PySem.W.findIn K (.ref C_av) "__getattr__" = some none)
    (ca_av:PySem.W.findIn K (.ref C_av) "__class__" = some (some (.builtin "object.__class__")))
    (mk_av:xai K C_av = true)
    (kc_aw:PySem.W.keepIn K (.ref C_aw) = true)
    (ov_aw:xa2 K C_aw = true)
    (hd_aw:PySem.W.hasDictIn K C_aw = true)
    (sa_aw:PySem.W.findIn K (.ref C_aw) "__setattr__" = some (some (.builtin "object.__setattr__")))
    (ga_aw:PySem.W.findIn K (.ref C_aw) "__getattribute__" = some (some (.builtin "BaseException.__getattribute__")))
    (gh_aw:PySem.W.findIn K (.ref C_aw) "__getattr__" = some none)
    (ca_aw:PySem.W.findIn K (.ref C_aw) "__class__" = some (some (.builtin "object.__class__")))
    (mk_aw:xai K C_aw = true)
    (kc_ax:PySem.W.keepIn K (.ref C_ax) = true)
    (ov_ax:xa2 K C_ax = true)
    (hd_ax:PySem.W.hasDictIn K C_ax = true)
    (sa_ax:PySem.W.findIn K (.ref C_ax) "__setattr__" = some (some (.builtin "object.__setattr__")))
    (ga_ax:PySem.W.findIn K (.ref C_ax) "__getattribute__" = some (some (.builtin "BaseException.__getattribute__")))
    (gh_ax:PySem.W.findIn K (.ref C_ax) "__getattr__" = some none)
    (ca_ax:PySem.W.findIn K (.ref C_ax) "__class__" = some (some (.builtin "object.__class__")))
    (mk_ax:xai K C_ax = true)
    (kc_ac:PySem.W.keepIn K (.ref C_ac) = true)
    (ov_ac:xa2 K C_ac = true)
    (hd_ac:PySem.W.hasDictIn K C_ac = true)
    (sa_ac:PySem.W.findIn K (.ref C_ac) "__setattr__" = some (some (.builtin "object.__setattr__")))
    (ga_ac:PySem.W.findIn K (.ref C_ac) "__getattribute__" = some (some (.builtin "BaseException.__getattribute__")))
    (gh_ac:PySem.W.findIn K (.ref C_ac) "__getattr__" = some none)
    (ca_ac:PySem.W.findIn K (.ref C_ac) "__class__" = some (some (.builtin "object.__class__")))
    (mk_ac:xai K C_ac = true)
    (kc_a4:PySem.W.keepIn K (.ref C_a4) = true)
    (ov_a4:xa2 K C_a4 = true)
    (hd_a4:PySem.W.hasDictIn K C_a4 = true)
    (sa_a4:PySem.W.findIn K (.ref C_a4) "__setattr__" = some (some (.builtin "object.__setattr__")))
    (ga_a4:PySem.W.findIn K (.ref C_a4) "__getattribute__" = some (some (.builtin "BaseException.__getattribute__")))
    (gh_a4:PySem.W.findIn K (.ref C_a4) "__getattr__" = some none)
    (ca_a4:PySem.W.findIn K (.ref C_a4) "__class__" = some (some (.builtin "object.__class__")))
    (mk_a4:xai K C_a4 = true)
    (kc_be:PySem.W.keepIn K (.ref C_be) = true)
    (pg_be:PySem.W.plainGet K C_be Str.empty = true)
    (hd_be:PySem.W.hasDictIn K C_be = true)
    (po_be:PySem.W.plainOver K C_be = true)
    (sa_be:PySem.W.findIn K (.ref C_be) "__setattr__" = some (some (.builtin "object.__setattr__")))
    (mk_be:PySem.W.makesIn K C_be = true)
    (ca_be:PySem.W.findIn K (.ref C_be) "__class__" = some (some (.builtin "object.__class__")))
    (mo_be:PySem.W.mroIn K C_be (.type "object") = some true)
    (kc_ay:PySem.W.keepIn K (.ref C_ay) = true)
    (pg_ay:PySem.W.plainGet K C_ay Str.empty = true)
    (hd_ay:PySem.W.hasDictIn K C_ay = true)
    (po_ay:PySem.W.plainOver K C_ay = true)
    (sa_ay:PySem.W.findIn K (.ref C_ay) "__setattr__" = some (some (.builtin "object.__setattr__")))
    (mk_ay:PySem.W.makesIn K C_ay = true)
    (ca_ay:PySem.W.findIn K (.ref C_ay) "__class__" = some (some (.builtin "object.__class__")))
    (mo_ay:PySem.W.mroIn K C_ay (.type "object") = some true)
    (a_LeftSide_init:PySem.W.findIn K (.ref C_ay) "__init__" = some (some (.ref f_am)))
    (kc_aq:PySem.W.keepIn K (.ref C_aq) = true)
    (pg_aq:PySem.W.plainGet K C_aq Str.empty = true)
    (hd_aq:PySem.W.hasDictIn K C_aq = true)
    (po_aq:PySem.W.plainOver K C_aq = true)
    (sa_aq:PySem.W.findIn K (.ref C_aq) "__setattr__" = some (some (.builtin "object.__setattr__")))
    (mk_aq:PySem.W.makesIn K C_aq = true)
    (ca_aq:PySem.W.findIn K (.ref C_aq) "__class__" = some (some (.builtin "object.__class__")))
    (mo_aq:PySem.W.mroIn K C_aq (.type "object") = some true)
    (a_RightSide_init:PySem.W.findIn K (.ref C_aq) "__init__" = some (some (.ref f_am)))
    (kc_j:PySem.W.keepIn K (.ref C_j) = true)
    (pg_j:PySem.W.plainGet K C_j Str.empty = true)
    (hd_j:PySem.W.hasDictIn K C_j = true)
    (po_j:PySem.W.plainOver K C_j = true)
    (sa_j:PySem.W.findIn K (.ref C_j) "__setattr__" = some (some (.builtin "object.__setattr__")))
    (mk_j:PySem.W.makesIn K C_j = true)
    (ca_j:PySem.W.findIn K (.ref C_j) "__class__" = some (some (.builtin "object.__class__")))
    (mo_j:PySem.W.mroIn K C_j (.type "object") = some true)
    (cg:PySem.W.specialIn K (.builtin "object.__class__") "__get__" = some (some (.builtin "getset_descriptor.__get__")))
    (ct:PySem.W.takesIn K (.builtin "object.__class__") = some true)
    (n_bi:PySem.W.findIn K (.ref C_aq) "width" = some none)
    (n_bd:PySem.W.findIn K (.ref C_j) "placed" = some none)
    (n_bc:PySem.W.findIn K (.ref C_j) "height" = some none)
    (n_bg:PySem.W.findIn K (.ref C_j) "width" = some none)
    (n_bf:PySem.W.findIn K (.ref C_j) "opened" = some none)
    (n_ed:PySem.W.findIn K (.ref C_l) "row" = some none)
    (n_d3:PySem.W.findIn K (.ref C_l) "side" = some none)
    (n_c6:PySem.W.findIn K (.ref C_l) "name" = some none)
    (n_d4:PySem.W.findIn K (.ref C_l) "high" = some none)
    (n_ee:PySem.W.findIn K (.ref C_l) "low" = some none)
    (n_d0:PySem.W.findIn K (.ref C_l) "sides" = some none)
    (n_ex:PySem.W.findIn K (.ref C_l) "y" = some none)
    (n_ey:PySem.W.findIn K (.ref C_l) "x" = some none)
    (n_ep:PySem.W.findIn K (.ref C_w) "row" = some none)
    (n_ef:PySem.W.findIn K (.ref C_w) "side" = some none)
    (n_eg:PySem.W.findIn K (.ref C_w) "name" = some none)
    (n_eh:PySem.W.findIn K (.ref C_w) "high" = some none)
    (n_eq:PySem.W.findIn K (.ref C_w) "low" = some none)
    (n_d5:PySem.W.findIn K (.ref C_w) "sides" = some none)
    (n_en:PySem.W.findIn K (.ref C_w) "y" = some none)
    (n_eo:PySem.W.findIn K (.ref C_w) "x" = some none)
    (n_dr:PySem.W.findIn K (.ref C_b) "row" = some none)
    (n_do:PySem.W.findIn K (.ref C_b) "side" = some none)
    (n_bs:PySem.W.findIn K (.ref C_b) "name" = some none)
    (n_dp:PySem.W.findIn K (.ref C_b) "high" = some none)
    (n_ds:PySem.W.findIn K (.ref C_b) "low" = some none)
    (n_c7:PySem.W.findIn K (.ref C_b) "sides" = some none)
    (n_d6:PySem.W.findIn K (.ref C_b) "y" = some none)
    (n_d7:PySem.W.findIn K (.ref C_b) "x" = some none)
    (n_ei:PySem.W.findIn K (.ref C_n) "row" = some none)
    (n_d8:PySem.W.findIn K (.ref C_n) "side" = some none)
    (n_c8:PySem.W.findIn K (.ref C_n) "name" = some none)
    (n_d9:PySem.W.findIn K (.ref C_n) "high" = some none)
    (n_ej:PySem.W.findIn K (.ref C_n) "low" = some none)
    (n_d1:PySem.W.findIn K (.ref C_n) "sides" = some none)
    (n_ez:PySem.W.findIn K (.ref C_n) "y" = some none)
    (n_e0:PySem.W.findIn K (.ref C_n) "x" = some none)
    (n_er:PySem.W.findIn K (.ref C_t) "row" = some none)
    (n_dq:PySem.W.findIn K (.ref C_t) "side" = some none)
    (n_ek:PySem.W.findIn K (.ref C_t) "name" = some none)
    (n_el:PySem.W.findIn K (.ref C_t) "high" = some none)
    (n_es:PySem.W.findIn K (.ref C_t) "low" = some none)
    (n_ea:PySem.W.findIn K (.ref C_t) "sides" = some none)
    (n_e2:PySem.W.findIn K (.ref C_t) "y" = some none)
    (n_e3:PySem.W.findIn K (.ref C_t) "x" = some none)
    (n_eb:PySem.W.findIn K (.ref C_ai) "row" = some none)
    (n_et:PySem.W.findIn K (.ref C_ai) "side" = some none)
    (n_eu:PySem.W.findIn K (.ref C_ai) "name" = some none)
    (n_ev:PySem.W.findIn K (.ref C_ai) "high" = some none)
    (n_e1:PySem.W.findIn K (.ref C_ai) "low" = some none)
    (n_em:PySem.W.findIn K (.ref C_ai) "sides" = some none)
    (n_e4:PySem.W.findIn K (.ref C_ai) "y" = some none)
    (n_e5:PySem.W.findIn K (.ref C_ai) "x" = some none)
    (n_ew:PySem.W.findIn K (.ref C_be) "width" = some none)
    (n_bz:PySem.W.findIn K (.ref C_ay) "width" = some none)
    (n_ec:PySem.W.nsIn K mainGlobals "ValueError" = some none)
    (n_abs:PySem.W.nsIn K mainGlobals "abs" = some none)
    (n_bool:PySem.W.nsIn K mainGlobals "bool" = some none)
    (n_enumerate:PySem.W.nsIn K mainGlobals "enumerate" = some none)
    (n_int:PySem.W.nsIn K mainGlobals "int" = some none)
    (n_isinstance:PySem.W.nsIn K mainGlobals "isinstance" = some none)
    (n_len:PySem.W.nsIn K mainGlobals "len" = some none)
    (n_list:PySem.W.nsIn K mainGlobals "list" = some none)
    (n_max:PySem.W.nsIn K mainGlobals "max" = some none)
    (n_min:PySem.W.nsIn K mainGlobals "min" = some none)
    (n_range:PySem.W.nsIn K mainGlobals "range" = some none)
    (n_sorted:PySem.W.nsIn K mainGlobals "sorted" = some none)
    (n_str:PySem.W.nsIn K mainGlobals "str" = some none)
    (n_tuple:PySem.W.nsIn K mainGlobals "tuple" = some none)
    (kit_cm:PySem.W.kitOne K (.ref C_l) (.ref C_ba) = some false)
    (kit_cn:PySem.W.kitOne K (.ref C_l) (.ref C_w) = some false)
    (kit_b7:PySem.W.kitOne K (.ref C_l) (.ref C_a7) = some false)
    (kit_b0:PySem.W.kitOne K (.ref C_l) (.ref C_a5) = some false)
    (kit_b1:PySem.W.kitOne K (.ref C_l) (.ref C_a6) = some false)
    (kit_b8:PySem.W.kitOne K (.ref C_l) (.ref C_a8) = some false)
    (kit_bl:PySem.W.kitOne K (.ref C_l) (.ref C_b) = some false)
    (kit_b9:PySem.W.kitOne K (.ref C_l) (.ref C_n) = some false)
    (kit_ca:PySem.W.kitOne K (.ref C_l) (.ref C_l) = some true)
    (kit_co:PySem.W.kitOne K (.ref C_l) (.ref C_t) = some false)
    (kit_c9:PySem.W.kitOne K (.ref C_l) (.ref C_ai) = some false)
    (kit_cb:PySem.W.kitOne K (.ref C_l) (.ref C_a9) = some false)
    (kit_cp:PySem.W.kitOne K (.ref C_l) (.ref C_bb) = some false)
    (kany_l:PySem.W.kitAny K (.ref C_l) [.ref C_a2,.ref C_a3,.ref C_au,.ref C_av,.ref C_aw,.ref C_ax,.ref C_ac,.ref C_a4] = some false)
    (kitv_l:PySem.W.kitOne K (.ref C_l) (.type "ValueError") = some true)
    (mro_l:PySem.W.mroIn K C_l (.ref C_a0) = some true)
    (kit_da:PySem.W.kitOne K (.ref C_w) (.ref C_ba) = some false)
    (kit_db:PySem.W.kitOne K (.ref C_w) (.ref C_w) = some true)
    (kit_cq:PySem.W.kitOne K (.ref C_w) (.ref C_a7) = some false)
    (kit_cc:PySem.W.kitOne K (.ref C_w) (.ref C_a5) = some false)
    (kit_cd:PySem.W.kitOne K (.ref C_w) (.ref C_a6) = some false)
    (kit_cr:PySem.W.kitOne K (.ref C_w) (.ref C_a8) = some false)
    (kit_bt:PySem.W.kitOne K (.ref C_w) (.ref C_b) = some false)
    (kit_cs:PySem.W.kitOne K (.ref C_w) (.ref C_n) = some false)
    (kit_ct:PySem.W.kitOne K (.ref C_w) (.ref C_l) = some false)
    (kit_dc:PySem.W.kitOne K (.ref C_w) (.ref C_t) = some false)
    (kit_dt:PySem.W.kitOne K (.ref C_w) (.ref C_ai) = some false)
    (kit_cu:PySem.W.kitOne K (.ref C_w) (.ref C_a9) = some false)
    (kit_dd:PySem.W.kitOne K (.ref C_w) (.ref C_bb) = some false)
    (kany_w:PySem.W.kitAny K (.ref C_w) [.ref C_a2,.ref C_a3,.ref C_au,.ref C_av,.ref C_aw,.ref C_ax,.ref C_ac,.ref C_a4] = some false)
    (kitv_w:PySem.W.kitOne K (.ref C_w) (.type "ValueError") = some true)
    (mro_w:PySem.W.mroIn K C_w (.ref C_a0) = some true)
    (kit_bu:PySem.W.kitOne K (.ref C_b) (.ref C_ba) = some false)
    (kit_bv:PySem.W.kitOne K (.ref C_b) (.ref C_w) = some false)
    (kit_bm:PySem.W.kitOne K (.ref C_b) (.ref C_a7) = some false)
    (kit_bj:PySem.W.kitOne K (.ref C_b) (.ref C_a5) = some false)
    (kit_bk:PySem.W.kitOne K (.ref C_b) (.ref C_a6) = some false)
    (kit_bn:PySem.W.kitOne K (.ref C_b) (.ref C_a8) = some false)
    (kit_bh:PySem.W.kitOne K (.ref C_b) (.ref C_b) = some true)
    (kit_bo:PySem.W.kitOne K (.ref C_b) (.ref C_n) = some false)
    (kit_bp:PySem.W.kitOne K (.ref C_b) (.ref C_l) = some false)
    (kit_bw:PySem.W.kitOne K (.ref C_b) (.ref C_t) = some false)
    (kit_b2:PySem.W.kitOne K (.ref C_b) (.ref C_ai) = some false)
    (kit_bq:PySem.W.kitOne K (.ref C_b) (.ref C_a9) = some false)
    (kit_bx:PySem.W.kitOne K (.ref C_b) (.ref C_bb) = some false)
    (kany_b:PySem.W.kitAny K (.ref C_b) [.ref C_a2,.ref C_a3,.ref C_au,.ref C_av,.ref C_aw,.ref C_ax,.ref C_ac,.ref C_a4] = some false)
    (kitv_b:PySem.W.kitOne K (.ref C_b) (.type "ValueError") = some true)
    (mro_b:PySem.W.mroIn K C_b (.ref C_a0) = some true)
    (kit_cv:PySem.W.kitOne K (.ref C_n) (.ref C_ba) = some false)
    (kit_cw:PySem.W.kitOne K (.ref C_n) (.ref C_w) = some false)
    (kit_ce:PySem.W.kitOne K (.ref C_n) (.ref C_a7) = some false)
    (kit_b3:PySem.W.kitOne K (.ref C_n) (.ref C_a5) = some false)
    (kit_b4:PySem.W.kitOne K (.ref C_n) (.ref C_a6) = some false)
    (kit_cf:PySem.W.kitOne K (.ref C_n) (.ref C_a8) = some false)
    (kit_br:PySem.W.kitOne K (.ref C_n) (.ref C_b) = some false)
    (kit_cg:PySem.W.kitOne K (.ref C_n) (.ref C_n) = some true)
    (kit_ch:PySem.W.kitOne K (.ref C_n) (.ref C_l) = some false)
    (kit_cx:PySem.W.kitOne K (.ref C_n) (.ref C_t) = some false)
    (kit_de:PySem.W.kitOne K (.ref C_n) (.ref C_ai) = some false)
    (kit_ci:PySem.W.kitOne K (.ref C_n) (.ref C_a9) = some false)
    (kit_cy:PySem.W.kitOne K (.ref C_n) (.ref C_bb) = some false)
    (kany_n:PySem.W.kitAny K (.ref C_n) [.ref C_a2,.ref C_a3,.ref C_au,.ref C_av,.ref C_aw,.ref C_ax,.ref C_ac,.ref C_a4] = some false)
    (kitv_n:PySem.W.kitOne K (.ref C_n) (.type "ValueError") = some true)
    (mro_n:PySem.W.mroIn K C_n (.ref C_a0) = some true)
    (kit_df:PySem.W.kitOne K (.ref C_t) (.ref C_ba) = some false)
    (kit_dg:PySem.W.kitOne K (.ref C_t) (.ref C_w) = some false)
    (kit_cz:PySem.W.kitOne K (.ref C_t) (.ref C_a7) = some false)
    (kit_cj:PySem.W.kitOne K (.ref C_t) (.ref C_a5) = some false)
    (kit_ck:PySem.W.kitOne K (.ref C_t) (.ref C_a6) = some false)
    (kit_c0:PySem.W.kitOne K (.ref C_t) (.ref C_a8) = some false)
    (kit_by:PySem.W.kitOne K (.ref C_t) (.ref C_b) = some false)
    (kit_c1:PySem.W.kitOne K (.ref C_t) (.ref C_n) = some false)
    (kit_c2:PySem.W.kitOne K (.ref C_t) (.ref C_l) = some false)
    (kit_dh:PySem.W.kitOne K (.ref C_t) (.ref C_t) = some true)
    (kit_du:PySem.W.kitOne K (.ref C_t) (.ref C_ai) = some false)
    (kit_c3:PySem.W.kitOne K (.ref C_t) (.ref C_a9) = some false)
    (kit_di:PySem.W.kitOne K (.ref C_t) (.ref C_bb) = some false)
    (kany_t:PySem.W.kitAny K (.ref C_t) [.ref C_a2,.ref C_a3,.ref C_au,.ref C_av,.ref C_aw,.ref C_ax,.ref C_ac,.ref C_a4] = some false)
    (kitv_t:PySem.W.kitOne K (.ref C_t) (.type "ValueError") = some true)
    (mro_t:PySem.W.mroIn K C_t (.ref C_a0) = some true)
    (kit_dv:PySem.W.kitOne K (.ref C_ai) (.ref C_ba) = some false)
    (kit_dw:PySem.W.kitOne K (.ref C_ai) (.ref C_w) = some false)
    (kit_dj:PySem.W.kitOne K (.ref C_ai) (.ref C_a7) = some false)
    (kit_c4:PySem.W.kitOne K (.ref C_ai) (.ref C_a5) = some false)
    (kit_c5:PySem.W.kitOne K (.ref C_ai) (.ref C_a6) = some false)
    (kit_dk:PySem.W.kitOne K (.ref C_ai) (.ref C_a8) = some false)
    (kit_b5:PySem.W.kitOne K (.ref C_ai) (.ref C_b) = some false)
    (kit_dl:PySem.W.kitOne K (.ref C_ai) (.ref C_n) = some false)
    (kit_dm:PySem.W.kitOne K (.ref C_ai) (.ref C_l) = some false)
    (kit_dx:PySem.W.kitOne K (.ref C_ai) (.ref C_t) = some false)
    (kit_d2:PySem.W.kitOne K (.ref C_ai) (.ref C_ai) = some true)
    (kit_dn:PySem.W.kitOne K (.ref C_ai) (.ref C_a9) = some false)
    (kit_dy:PySem.W.kitOne K (.ref C_ai) (.ref C_bb) = some false)
    (kany_ai:PySem.W.kitAny K (.ref C_ai) [.ref C_a2,.ref C_a3,.ref C_au,.ref C_av,.ref C_aw,.ref C_ax,.ref C_ac,.ref C_a4] = some false)
    (kitv_ai:PySem.W.kitOne K (.ref C_ai) (.type "ValueError") = some true)
    (mro_ai:PySem.W.mroIn K C_ai (.ref C_a0) = some true)
    (v_dz:PySem.W.nsIn K mainGlobals "MOST_ROWS" = some (some (.int 16 tkc_dz)))
    (v_b6:PySem.W.nsIn K mainGlobals "MOST_COLUMNS" = some (some (.int 30 tkc_b6)))
    (v_cl:PySem.W.nsIn K mainGlobals "MOST_POINTS" = some (some (.int 12 tkc_cl)))
    (g_a1:PySem.W.nsIn K mainGlobals "MIRRORED_SIDES" = some (some (.ref D_a1)))
    (l_a1:K.lookup D_a1 = some ⟨.type "dict",none,.dict #[⟨hashStr w "left",.str "left" ta0_a1,.str "right" tb0_a1⟩,⟨hashStr w "right",.str "right" ta1_a1,.str "left" tb1_a1⟩,⟨hashStr w "both",.str "both" ta2_a1,.str "both" tb2_a1⟩] ep_a1,#[]⟩)
    (ns_a1:(D_a1 == sysModules) = false)
   :∃ t,Txt w K mg t :=
  ⟨⟨f_ak,_,f_af,_,f_r,_,f_ag,_,f_al,_,f_ao,_,f_am,_,f_o,_,f_k,_,f_at,_,f_aa,_,f_az,_,f_ah,_,f_q,_,T_q,f_ab,_,f_f,_,f_h,_,f_m,_,f_u,_,f_i,_,f_z,_,f_p,_,f_g,_,f_d,_,f_e,_,f_a,_,f_c,_,f_as,_,f_x,_,f_ar,_,f_s,_,f_ad,_,f_aj,_,f_y,_,f_an,_,f_ap,_,f_v,_,f_ae,_,f_law,_,C_a0,C_a2,C_ba,C_w,C_a7,C_a5,C_a6,C_l,C_a8,C_b,C_n,C_t,C_ai,C_a9,C_bb,C_a3,C_au,C_av,C_aw,C_ax,C_ac,C_a4,C_be,C_ay,C_aq,C_j,D_a1⟩,{
    g_a0:=PySem.W.mg_of X G g_a0
    g_a2:=PySem.W.mg_of X G g_a2
    g_ba:=PySem.W.mg_of X G g_ba
    g_w:=PySem.W.mg_of X G g_w
    g_a7:=PySem.W.mg_of X G g_a7
    g_a5:=PySem.W.mg_of X G g_a5
    g_a6:=PySem.W.mg_of X G g_a6
    g_l:=PySem.W.mg_of X G g_l
    g_a8:=PySem.W.mg_of X G g_a8
    g_b:=PySem.W.mg_of X G g_b
    g_n:=PySem.W.mg_of X G g_n
    g_t:=PySem.W.mg_of X G g_t
    g_ai:=PySem.W.mg_of X G g_ai
    g_a9:=PySem.W.mg_of X G g_a9
    g_bb:=PySem.W.mg_of X G g_bb
    g_a3:=PySem.W.mg_of X G g_a3
    g_au:=PySem.W.mg_of X G g_au
    g_av:=PySem.W.mg_of X G g_av
    g_aw:=PySem.W.mg_of X G g_aw
    g_ax:=PySem.W.mg_of X G g_ax
    g_ac:=PySem.W.mg_of X G g_ac
    g_a4:=PySem.W.mg_of X G g_a4
    g_be:=PySem.W.mg_of X G g_be
    g_ay:=PySem.W.mg_of X G g_ay
    g_aq:=PySem.W.mg_of X G g_aq
    g_j:=PySem.W.mg_of X G g_j
    F_ak:=xt (st:=s_ak) l_ak c_ak k_ak
    b_ak:=(xt (st:=s_ak) l_ak c_ak k_ak).binds (ps:=["self", "x", "y"]) fun _ _ _ _ _ _ us hl=>match us,hl with | [_,_,_],_=>rfl
    F_af:=xt (st:=s_af) l_af c_af k_af
    b_af:=(xt (st:=s_af) l_af c_af k_af).binds (ps:=["self", "name"]) fun _ _ _ _ _ _ us hl=>match us,hl with | [_,_],_=>rfl
    F_r:=xt (st:=s_r) l_r c_r k_r
    b_r:=(xt (st:=s_r) l_r c_r k_r).binds (ps:=["self", "name"]) fun _ _ _ _ _ _ us hl=>match us,hl with | [_,_],_=>rfl
    F_ag:=xt (st:=s_ag) l_ag c_ag k_ag
    b_ag:=(xt (st:=s_ag) l_ag c_ag k_ag).binds (ps:=["self", "name"]) fun _ _ _ _ _ _ us hl=>match us,hl with | [_,_],_=>rfl
    F_al:=xt (st:=s_al) l_al c_al k_al
    b_al:=(xt (st:=s_al) l_al c_al k_al).binds (ps:=["self", "side"]) fun _ _ _ _ _ _ us hl=>match us,hl with | [_,_],_=>rfl
    F_ao:=xt (st:=s_ao) l_ao c_ao k_ao
    b_ao:=(xt (st:=s_ao) l_ao c_ao k_ao).binds (ps:=["self", "row"]) fun _ _ _ _ _ _ us hl=>match us,hl with | [_,_],_=>rfl
    F_am:=xt (st:=s_am) l_am c_am k_am
    b_am:=(xt (st:=s_am) l_am c_am k_am).binds (ps:=["self", "width"]) fun _ _ _ _ _ _ us hl=>match us,hl with | [_,_],_=>rfl
    F_o:=xt (st:=s_o) l_o c_o k_o
    b_o:=(xt (st:=s_o) l_o c_o k_o).binds (ps:=["self", "x"]) fun _ _ _ _ _ _ us hl=>match us,hl with | [_,_],_=>rfl
    F_k:=xt (st:=s_k) l_k c_k k_k
    b_k:=(xt (st:=s_k) l_k c_k k_k).binds (ps:=["self", "x"]) fun _ _ _ _ _ _ us hl=>match us,hl with | [_,_],_=>rfl
    g_at:=PySem.W.mg_of X G a_at
    F_at:=xt (st:=s_at) l_at c_at k_at
    b_at:=(xt (st:=s_at) l_at c_at k_at).binds (ps:=["word", "width"]) fun _ _ _ _ _ _ us hl=>match us,hl with | [_,_],_=>rfl
    g_aa:=PySem.W.mg_of X G a_aa
    F_aa:=xt (st:=s_aa) l_aa c_aa k_aa
    b_aa:=(xt (st:=s_aa) l_aa c_aa k_aa).binds (ps:=["thing", "low", "high"]) fun _ _ _ _ _ _ us hl=>match us,hl with | [_,_,_],_=>rfl
    g_az:=PySem.W.mg_of X G a_az
    F_az:=xt (st:=s_az) l_az c_az k_az
    b_az:=(xt (st:=s_az) l_az c_az k_az).binds (ps:=["thing"]) fun _ _ _ _ _ _ us hl=>match us,hl with | [_],_=>rfl
    F_ah:=xt (st:=s_ah) l_ah c_ah k_ah
    b_ah:=(xt (st:=s_ah) l_ah c_ah k_ah).binds (ps:=["self", "width", "height"]) fun _ _ _ _ _ _ us hl=>match us,hl with | [_,_,_],_=>rfl
    F_q:=(xiv (st:=s_q) l_q c_q k_q)
    b_q:=(xiv (st:=s_q) l_q c_q k_q).binds t_q rfl 7 rfl fun _ _ _ _ _ _ us hl=>match us,hl with | [_,_,_,_,_,_,_],_=>⟨_,rfl,rfl⟩
    F_ab:=xt (st:=s_ab) l_ab c_ab k_ab
    b_ab:=(xt (st:=s_ab) l_ab c_ab k_ab).binds (ps:=["self", "name", "x", "y"]) fun _ _ _ _ _ _ us hl=>match us,hl with | [_,_,_,_],_=>rfl
    F_f:=xt (st:=s_f) l_f c_f k_f
    b_f:=(xt (st:=s_f) l_f c_f k_f).binds (ps:=["self", "side", "row"]) fun _ _ _ _ _ _ us hl=>match us,hl with | [_,_,_],_=>rfl
    F_h:=xt (st:=s_h) l_h c_h k_h
    b_h:=(xt (st:=s_h) l_h c_h k_h).binds (ps:=["self", "side", "row"]) fun _ _ _ _ _ _ us hl=>match us,hl with | [_,_,_],_=>rfl
    F_m:=xt (st:=s_m) l_m c_m k_m
    b_m:=(xt (st:=s_m) l_m c_m k_m).binds (ps:=["self"]) fun _ _ _ _ _ _ us hl=>match us,hl with | [_],_=>rfl
    F_u:=xt (st:=s_u) l_u c_u k_u
    b_u:=(xt (st:=s_u) l_u c_u k_u).binds (ps:=["self"]) fun _ _ _ _ _ _ us hl=>match us,hl with | [_],_=>rfl
    F_i:=xt (st:=s_i) l_i c_i k_i
    b_i:=(xt (st:=s_i) l_i c_i k_i).binds (ps:=["self", "name"]) fun _ _ _ _ _ _ us hl=>match us,hl with | [_,_],_=>rfl
    F_z:=xt (st:=s_z) l_z c_z k_z
    b_z:=(xt (st:=s_z) l_z c_z k_z).binds (ps:=["self", "name", "side", "row"]) fun _ _ _ _ _ _ us hl=>match us,hl with | [_,_,_,_],_=>rfl
    F_p:=xt (st:=s_p) l_p c_p k_p
    b_p:=(xt (st:=s_p) l_p c_p k_p).binds (ps:=["self", "name", "side", "row"]) fun _ _ _ _ _ _ us hl=>match us,hl with | [_,_,_,_],_=>rfl
    F_g:=xt (st:=s_g) l_g c_g k_g
    b_g:=(xt (st:=s_g) l_g c_g k_g).binds (ps:=["self", "name"]) fun _ _ _ _ _ _ us hl=>match us,hl with | [_,_],_=>rfl
    F_d:=xt (st:=s_d) l_d c_d k_d
    b_d:=(xt (st:=s_d) l_d c_d k_d).binds (ps:=["self", "name"]) fun _ _ _ _ _ _ us hl=>match us,hl with | [_,_],_=>rfl
    F_e:=xt (st:=s_e) l_e c_e k_e
    b_e:=(xt (st:=s_e) l_e c_e k_e).binds (ps:=["self", "x", "y"]) fun _ _ _ _ _ _ us hl=>match us,hl with | [_,_,_],_=>rfl
    F_a:=xt (st:=s_a) l_a c_a k_a
    b_a:=(xt (st:=s_a) l_a c_a k_a).binds (ps:=["self", "name", "x", "y"]) fun _ _ _ _ _ _ us hl=>match us,hl with | [_,_,_,_],_=>rfl
    F_c:=xt (st:=s_c) l_c c_c k_c
    b_c:=(xt (st:=s_c) l_c c_c k_c).binds (ps:=["self", "side", "row"]) fun _ _ _ _ _ _ us hl=>match us,hl with | [_,_,_],_=>rfl
    g_as:=PySem.W.mg_of X G a_as
    F_as:=xt (st:=s_as) l_as c_as k_as
    b_as:=(xt (st:=s_as) l_as c_as k_as).binds (ps:=["_law_script", "_law_k"]) fun _ _ _ _ _ _ us hl=>match us,hl with | [_,_],_=>rfl
    g_x:=PySem.W.mg_of X G a_x
    F_x:=xt (st:=s_x) l_x c_x k_x
    b_x:=(xt (st:=s_x) l_x c_x k_x).binds (ps:=["_law_cell_here", "_law_k"]) fun _ _ _ _ _ _ us hl=>match us,hl with | [_,_],_=>rfl
    g_ar:=PySem.W.mg_of X G a_ar
    F_ar:=xt (st:=s_ar) l_ar c_ar k_ar
    b_ar:=(xt (st:=s_ar) l_ar c_ar k_ar).binds (ps:=["_law_e"]) fun _ _ _ _ _ _ us hl=>match us,hl with | [_],_=>rfl
    g_s:=PySem.W.mg_of X G a_s
    F_s:=xt (st:=s_s) l_s c_s k_s
    b_s:=(xt (st:=s_s) l_s c_s k_s).binds (ps:=["_law_e"]) fun _ _ _ _ _ _ us hl=>match us,hl with | [_],_=>rfl
    g_ad:=PySem.W.mg_of X G a_ad
    F_ad:=xt (st:=s_ad) l_ad c_ad k_ad
    b_ad:=(xt (st:=s_ad) l_ad c_ad k_ad).binds (ps:=["_law_cell_here", "_law_most"]) fun _ _ _ _ _ _ us hl=>match us,hl with | [_,_],_=>rfl
    g_aj:=PySem.W.mg_of X G a_aj
    F_aj:=xt (st:=s_aj) l_aj c_aj k_aj
    b_aj:=(xt (st:=s_aj) l_aj c_aj k_aj).binds (ps:=["_law_picture", "_law_cell_here"]) fun _ _ _ _ _ _ us hl=>match us,hl with | [_,_],_=>rfl
    g_y:=PySem.W.mg_of X G a_y
    F_y:=xt (st:=s_y) l_y c_y k_y
    b_y:=(xt (st:=s_y) l_y c_y k_y).binds (ps:=["_law_thing", "_law_low", "_law_high"]) fun _ _ _ _ _ _ us hl=>match us,hl with | [_,_,_],_=>rfl
    g_an:=PySem.W.mg_of X G a_an
    F_an:=xt (st:=s_an) l_an c_an k_an
    b_an:=(xt (st:=s_an) l_an c_an k_an).binds (ps:=["_law_picture", "_law_way", "_law_name", "_law_side", "_law_row"]) fun _ _ _ _ _ _ us hl=>match us,hl with | [_,_,_,_,_],_=>rfl
    g_ap:=PySem.W.mg_of X G a_ap
    F_ap:=xt (st:=s_ap) l_ap c_ap k_ap
    b_ap:=(xt (st:=s_ap) l_ap c_ap k_ap).binds (ps:=["_law_point", "_law_side", "_law_row"]) fun _ _ _ _ _ _ us hl=>match us,hl with | [_,_,_],_=>rfl
    g_v:=PySem.W.mg_of X G a_v
    F_v:=xt (st:=s_v) l_v c_v k_v
    b_v:=(xt (st:=s_v) l_v c_v k_v).binds (ps:=["_law_picture", "_law_rows", "_law_seats", "_law_name", "_law_side", "_law_row"]) fun _ _ _ _ _ _ us hl=>match us,hl with | [_,_,_,_,_,_],_=>rfl
    g_ae:=PySem.W.mg_of X G a_ae
    F_ae:=xt (st:=s_ae) l_ae c_ae k_ae
    b_ae:=(xt (st:=s_ae) l_ae c_ae k_ae).binds (ps:=["_law_picture", "_law_rows", "_law_seats", "_law_number"]) fun _ _ _ _ _ _ us hl=>match us,hl with | [_,_,_,_],_=>rfl
    g_law:=PySem.W.mg_of X G a_law
    F_law:=xt (st:=xeb) l_law c_law k_law
    b_law:=(xt (st:=xeb) l_law c_law k_law).binds (ps:=["_law_script"]) fun _ _ _ _ _ _ us hl=>match us,hl with | [_],_=>rfl
    x_a0:=⟨ov_a0,hd_a0,sa_a0,ga_a0,gh_a0,ca_a0,cg,ct⟩
    mk_a0:=mk_a0
    x_a2:=⟨ov_a2,hd_a2,sa_a2,ga_a2,gh_a2,ca_a2,cg,ct⟩
    mk_a2:=mk_a2
    x_ba:=⟨ov_ba,hd_ba,sa_ba,ga_ba,gh_ba,ca_ba,cg,ct⟩
    mk_ba:=mk_ba
    x_w:=⟨ov_w,hd_w,sa_w,ga_w,gh_w,ca_w,cg,ct⟩
    mk_w:=mk_w
    k_w:=⟨mk_w,a_ak,i_ak,kc_w⟩
    x_a7:=⟨ov_a7,hd_a7,sa_a7,ga_a7,gh_a7,ca_a7,cg,ct⟩
    mk_a7:=mk_a7
    x_a5:=⟨ov_a5,hd_a5,sa_a5,ga_a5,gh_a5,ca_a5,cg,ct⟩
    mk_a5:=mk_a5
    x_a6:=⟨ov_a6,hd_a6,sa_a6,ga_a6,gh_a6,ca_a6,cg,ct⟩
    mk_a6:=mk_a6
    x_l:=⟨ov_l,hd_l,sa_l,ga_l,gh_l,ca_l,cg,ct⟩
    mk_l:=mk_l
    k_l:=⟨mk_l,a_af,i_af,kc_l⟩
    x_a8:=⟨ov_a8,hd_a8,sa_a8,ga_a8,gh_a8,ca_a8,cg,ct⟩
    mk_a8:=mk_a8
    x_b:=⟨ov_b,hd_b,sa_b,ga_b,gh_b,ca_b,cg,ct⟩
    mk_b:=mk_b
    k_b:=⟨mk_b,a_r,i_r,kc_b⟩
    x_n:=⟨ov_n,hd_n,sa_n,ga_n,gh_n,ca_n,cg,ct⟩
    mk_n:=mk_n
    k_n:=⟨mk_n,a_ag,i_ag,kc_n⟩
    x_t:=⟨ov_t,hd_t,sa_t,ga_t,gh_t,ca_t,cg,ct⟩
    mk_t:=mk_t
    k_t:=⟨mk_t,a_al,i_al,kc_t⟩
    x_ai:=⟨ov_ai,hd_ai,sa_ai,ga_ai,gh_ai,ca_ai,cg,ct⟩
    mk_ai:=mk_ai
    k_ai:=⟨mk_ai,a_ao,i_ao,kc_ai⟩
    x_a9:=⟨ov_a9,hd_a9,sa_a9,ga_a9,gh_a9,ca_a9,cg,ct⟩
    mk_a9:=mk_a9
    x_bb:=⟨ov_bb,hd_bb,sa_bb,ga_bb,gh_bb,ca_bb,cg,ct⟩
    mk_bb:=mk_bb
    x_a3:=⟨ov_a3,hd_a3,sa_a3,ga_a3,gh_a3,ca_a3,cg,ct⟩
    mk_a3:=mk_a3
    x_au:=⟨ov_au,hd_au,sa_au,ga_au,gh_au,ca_au,cg,ct⟩
    mk_au:=mk_au
    x_av:=⟨ov_av,hd_av,sa_av,ga_av,gh_av,ca_av,cg,ct⟩
    mk_av:=mk_av
    x_aw:=⟨ov_aw,hd_aw,sa_aw,ga_aw,gh_aw,ca_aw,cg,ct⟩
    mk_aw:=mk_aw
    x_ax:=⟨ov_ax,hd_ax,sa_ax,ga_ax,gh_ax,ca_ax,cg,ct⟩
    mk_ax:=mk_ax
    x_ac:=⟨ov_ac,hd_ac,sa_ac,ga_ac,gh_ac,ca_ac,cg,ct⟩
    mk_ac:=mk_ac
    x_a4:=⟨ov_a4,hd_a4,sa_a4,ga_a4,gh_a4,ca_a4,cg,ct⟩
    mk_a4:=mk_a4
    c_be:=⟨pg_be,hd_be,po_be,sa_be⟩
    ca_be:=ca_be
    mo_be:=mo_be
    k_be:=⟨mk_be,a_am,i_am,kc_be⟩
    c_ay:=⟨pg_ay,hd_ay,po_ay,sa_ay⟩
    ca_ay:=ca_ay
    mo_ay:=mo_ay
    k_ay:=⟨mk_ay,a_LeftSide_init,i_am,kc_ay⟩
    m_o:=⟨a_o,i_o,k_o⟩
    c_aq:=⟨pg_aq,hd_aq,po_aq,sa_aq⟩
    ca_aq:=ca_aq
    mo_aq:=mo_aq
    k_aq:=⟨mk_aq,a_RightSide_init,i_am,kc_aq⟩
    m_k:=⟨a_k,i_k,k_k⟩
    c_j:=⟨pg_j,hd_j,po_j,sa_j⟩
    ca_j:=ca_j
    mo_j:=mo_j
    k_j:=⟨mk_j,a_ah,i_ah,kc_j⟩
    m_q:=⟨a_q,i_q,k_q⟩
    m_ab:=⟨a_ab,i_ab,k_ab⟩
    m_f:=⟨a_f,i_f,k_f⟩
    m_h:=⟨a_h,i_h,k_h⟩
    m_m:=⟨a_m,i_m,k_m⟩
    m_u:=⟨a_u,i_u,k_u⟩
    m_i:=⟨a_i,i_i,k_i⟩
    m_z:=⟨a_z,i_z,k_z⟩
    m_p:=⟨a_p,i_p,k_p⟩
    m_g:=⟨a_g,i_g,k_g⟩
    m_d:=⟨a_d,i_d,k_d⟩
    m_e:=⟨a_e,i_e,k_e⟩
    m_a:=⟨a_a,i_a,k_a⟩
    m_c:=⟨a_c,i_c,k_c⟩
    cg:=cg
    ct:=ct
    n_bi:=n_bi
    n_bd:=n_bd
    n_bc:=n_bc
    n_bg:=n_bg
    n_bf:=n_bf
    n_ed:=n_ed
    n_d3:=n_d3
    n_c6:=n_c6
    n_d4:=n_d4
    n_ee:=n_ee
    n_d0:=n_d0
    n_ex:=n_ex
    n_ey:=n_ey
    n_ep:=n_ep
    n_ef:=n_ef
    n_eg:=n_eg
    n_eh:=n_eh
    n_eq:=n_eq
    n_d5:=n_d5
    n_en:=n_en
    n_eo:=n_eo
    n_dr:=n_dr
    n_do:=n_do
    n_bs:=n_bs
    n_dp:=n_dp
    n_ds:=n_ds
    n_c7:=n_c7
    n_d6:=n_d6
    n_d7:=n_d7
    n_ei:=n_ei
    n_d8:=n_d8
    n_c8:=n_c8
    n_d9:=n_d9
    n_ej:=n_ej
    n_d1:=n_d1
    n_ez:=n_ez
    n_e0:=n_e0
    n_er:=n_er
    n_dq:=n_dq
    n_ek:=n_ek
    n_el:=n_el
    n_es:=n_es
    n_ea:=n_ea
    n_e2:=n_e2
    n_e3:=n_e3
    n_eb:=n_eb
    n_et:=n_et
    n_eu:=n_eu
    n_ev:=n_ev
    n_e1:=n_e1
    n_em:=n_em
    n_e4:=n_e4
    n_e5:=n_e5
    n_ew:=n_ew
    n_bz:=n_bz
    n_ec:=PySem.W.mg_none_of X G n_ec
    n_abs:=PySem.W.mg_none_of X G n_abs
    n_bool:=PySem.W.mg_none_of X G n_bool
    n_enumerate:=PySem.W.mg_none_of X G n_enumerate
    n_int:=PySem.W.mg_none_of X G n_int
    n_isinstance:=PySem.W.mg_none_of X G n_isinstance
    n_len:=PySem.W.mg_none_of X G n_len
    n_list:=PySem.W.mg_none_of X G n_list
    n_max:=PySem.W.mg_none_of X G n_max
    n_min:=PySem.W.mg_none_of X G n_min
    n_range:=PySem.W.mg_none_of X G n_range
    n_sorted:=PySem.W.mg_none_of X G n_sorted
    n_str:=PySem.W.mg_none_of X G n_str
    n_tuple:=PySem.W.mg_none_of X G n_tuple
    kit_cm:=kit_cm
    kit_cn:=kit_cn
    kit_b7:=kit_b7
    kit_b0:=kit_b0
    kit_b1:=kit_b1
    kit_b8:=kit_b8
    kit_bl:=kit_bl
    kit_b9:=kit_b9
    kit_ca:=kit_ca
    kit_co:=kit_co
    kit_c9:=kit_c9
    kit_cb:=kit_cb
    kit_cp:=kit_cp
    kany_l:=kany_l
    kitv_l:=kitv_l
    mro_l:=mro_l
    kit_da:=kit_da
    kit_db:=kit_db
    kit_cq:=kit_cq
    kit_cc:=kit_cc
    kit_cd:=kit_cd
    kit_cr:=kit_cr
    kit_bt:=kit_bt
    kit_cs:=kit_cs
    kit_ct:=kit_ct
    kit_dc:=kit_dc
    kit_dt:=kit_dt
    kit_cu:=kit_cu
    kit_dd:=kit_dd
    kany_w:=kany_w
    kitv_w:=kitv_w
    mro_w:=mro_w
    kit_bu:=kit_bu
    kit_bv:=kit_bv
    kit_bm:=kit_bm
    kit_bj:=kit_bj
    kit_bk:=kit_bk
    kit_bn:=kit_bn
    kit_bh:=kit_bh
    kit_bo:=kit_bo
    kit_bp:=kit_bp
    kit_bw:=kit_bw
    kit_b2:=kit_b2
    kit_bq:=kit_bq
    kit_bx:=kit_bx
    kany_b:=kany_b
    kitv_b:=kitv_b
    mro_b:=mro_b
    kit_cv:=kit_cv
    kit_cw:=kit_cw
    kit_ce:=kit_ce
    kit_b3:=kit_b3
    kit_b4:=kit_b4
    kit_cf:=kit_cf
    kit_br:=kit_br
    kit_cg:=kit_cg
    kit_ch:=kit_ch
    kit_cx:=kit_cx
    kit_de:=kit_de
    kit_ci:=kit_ci
    kit_cy:=kit_cy
    kany_n:=kany_n
    kitv_n:=kitv_n
    mro_n:=mro_n
    kit_df:=kit_df
    kit_dg:=kit_dg
    kit_cz:=kit_cz
    kit_cj:=kit_cj
    kit_ck:=kit_ck
    kit_c0:=kit_c0
    kit_by:=kit_by
    kit_c1:=kit_c1
    kit_c2:=kit_c2
    kit_dh:=kit_dh
    kit_du:=kit_du
    kit_c3:=kit_c3
    kit_di:=kit_di
    kany_t:=kany_t
    kitv_t:=kitv_t
    mro_t:=mro_t
    kit_dv:=kit_dv
    kit_dw:=kit_dw
    kit_dj:=kit_dj
    kit_c4:=kit_c4
    kit_c5:=kit_c5
    kit_dk:=kit_dk
    kit_b5:=kit_b5
    kit_dl:=kit_dl
    kit_dm:=kit_dm
    kit_dx:=kit_dx
    kit_d2:=kit_d2
    kit_dn:=kit_dn
    kit_dy:=kit_dy
    kany_ai:=kany_ai
    kitv_ai:=kitv_ai
    mro_ai:=mro_ai
    v_dz:=⟨_,PySem.W.mg_of X G v_dz⟩
    v_b6:=⟨_,PySem.W.mg_of X G v_b6⟩
    v_cl:=⟨_,PySem.W.mg_of X G v_cl⟩
    g_a1:=PySem.W.mg_of X G g_a1
    D_a1:=⟨ns_a1,_,_,l_a1,.cons rfl ⟨_,rfl⟩ ⟨_,rfl⟩ (.cons rfl ⟨_,rfl⟩ ⟨_,rfl⟩ (.cons rfl ⟨_,rfl⟩ ⟨_,rfl⟩ (.nil))),by decide⟩ }⟩
theorem sc_ak:x8 ["self", "x", "y"] ["self", "x", "y"] (xk s_ak):=⟨rfl,rfl,rfl,by decide +kernel,rfl,by decide +kernel,by decide +kernel⟩
theorem sc_af:x8 ["self", "name"] ["self", "name"] (xk s_af):=⟨rfl,rfl,rfl,by decide +kernel,rfl,by decide +kernel,by decide +kernel⟩
theorem sc_r:x8 ["self", "name"] ["self", "name"] (xk s_r):=⟨rfl,rfl,rfl,by decide +kernel,rfl,by decide +kernel,by decide +kernel⟩
theorem sc_ag:x8 ["self", "name"] ["self", "name"] (xk s_ag):=⟨rfl,rfl,rfl,by decide +kernel,rfl,by decide +kernel,by decide +kernel⟩
theorem sc_al:x8 ["self", "side"] ["self", "side"] (xk s_al):=⟨rfl,rfl,rfl,by decide +kernel,rfl,by decide +kernel,by decide +kernel⟩
theorem sc_ao:x8 ["self", "row"] ["self", "row"] (xk s_ao):=⟨rfl,rfl,rfl,by decide +kernel,rfl,by decide +kernel,by decide +kernel⟩
theorem sc_am:x8 ["self", "width"] ["self", "width"] (xk s_am):=⟨rfl,rfl,rfl,by decide +kernel,rfl,by decide +kernel,by decide +kernel⟩
theorem sc_o:x8 ["self", "x"] ["self", "x"] (xk s_o):=⟨rfl,rfl,rfl,by decide +kernel,rfl,by decide +kernel,by decide +kernel⟩
theorem sc_k:x8 ["self", "x"] ["self", "x"] (xk s_k):=⟨rfl,rfl,rfl,by decide +kernel,rfl,by decide +kernel,by decide +kernel⟩
theorem sc_at:x8 ["word", "width"] ["word", "width"] (xk s_at):=⟨rfl,rfl,rfl,by decide +kernel,rfl,by decide +kernel,by decide +kernel⟩
theorem sc_aa:x8 ["thing", "low", "high"] ["thing", "low", "high"] (xk s_aa):=⟨rfl,rfl,rfl,by decide +kernel,rfl,by decide +kernel,by decide +kernel⟩
theorem sc_az:x8 ["thing"] ["thing"] (xk s_az):=⟨rfl,rfl,rfl,by decide +kernel,rfl,by decide +kernel,by decide +kernel⟩
theorem sc_ah:x8 ["self", "width", "height"] ["self", "width", "height"] (xk s_ah):=⟨rfl,rfl,rfl,by decide +kernel,rfl,by decide +kernel,by decide +kernel⟩
theorem sc_q:x8 ["self", "name", "x", "y", "sides", "low", "high", "highest"] ["self", "name", "x", "y", "sides", "low", "high"] (xk s_q):=⟨rfl,rfl,rfl,by decide +kernel,rfl,by decide +kernel,by decide +kernel⟩
theorem sc_ab:x8 ["self", "name", "x", "y"] ["self", "name", "x", "y"] (xk s_ab):=⟨rfl,rfl,rfl,by decide +kernel,rfl,by decide +kernel,by decide +kernel⟩
theorem sc_f:x8 ["self", "side", "row"] ["self", "side", "row"] (xk s_f):=⟨rfl,rfl,rfl,by decide +kernel,rfl,by decide +kernel,by decide +kernel⟩
theorem sc_h:x8 ["self", "side", "row"] ["self", "side", "row"] (xk s_h):=⟨rfl,rfl,rfl,by decide +kernel,rfl,by decide +kernel,by decide +kernel⟩
theorem sc_m:x8 ["self"] ["self"] (xk s_m):=⟨rfl,rfl,rfl,by decide +kernel,rfl,by decide +kernel,by decide +kernel⟩
theorem sc_u:x8 ["self"] ["self"] (xk s_u):=⟨rfl,rfl,rfl,by decide +kernel,rfl,by decide +kernel,by decide +kernel⟩
theorem sc_i:x8 ["self", "name"] ["self", "name"] (xk s_i):=⟨rfl,rfl,rfl,by decide +kernel,rfl,by decide +kernel,by decide +kernel⟩
theorem sc_z:x8 ["self", "name", "side", "row", "x", "y", "sides", "low", "high"] ["self", "name", "side", "row"] (xk s_z):=⟨rfl,rfl,rfl,by decide +kernel,rfl,by decide +kernel,by decide +kernel⟩
theorem sc_p:x8 ["self", "name", "side", "row", "x", "y"] ["self", "name", "side", "row"] (xk s_p):=⟨rfl,rfl,rfl,by decide +kernel,rfl,by decide +kernel,by decide +kernel⟩
theorem sc_g:x8 ["self", "name"] ["self", "name"] (xk s_g):=⟨rfl,rfl,rfl,by decide +kernel,rfl,by decide +kernel,by decide +kernel⟩
theorem sc_d:x8 ["self", "name"] ["self", "name"] (xk s_d):=⟨rfl,rfl,rfl,by decide +kernel,rfl,by decide +kernel,by decide +kernel⟩
theorem sc_e:x8 ["self", "x", "y"] ["self", "x", "y"] (xk s_e):=⟨rfl,rfl,rfl,by decide +kernel,rfl,by decide +kernel,by decide +kernel⟩
theorem sc_a:x8 ["self", "name", "x", "y", "others", "other"] ["self", "name", "x", "y"] (xk s_a):=⟨rfl,rfl,rfl,by decide +kernel,rfl,by decide +kernel,by decide +kernel⟩
theorem sc_c:x8 ["self", "side", "row"] ["self", "side", "row"] (xk s_c):=⟨rfl,rfl,rfl,by decide +kernel,rfl,by decide +kernel,by decide +kernel⟩
theorem sc_as:x8 ["_law_script", "_law_k"] ["_law_script", "_law_k"] (xk s_as):=⟨rfl,rfl,rfl,by decide +kernel,rfl,by decide +kernel,by decide +kernel⟩
theorem sc_x:x8 ["_law_cell_here", "_law_k", "_law_number"] ["_law_cell_here", "_law_k"] (xk s_x):=⟨rfl,rfl,rfl,by decide +kernel,rfl,by decide +kernel,by decide +kernel⟩
theorem sc_ar:x8 ["_law_e", "_law_found"] ["_law_e"] (xk s_ar):=⟨rfl,rfl,rfl,by decide +kernel,rfl,by decide +kernel,by decide +kernel⟩
theorem sc_s:x8 ["_law_e", "_law_found"] ["_law_e"] (xk s_s):=⟨rfl,rfl,rfl,by decide +kernel,rfl,by decide +kernel,by decide +kernel⟩
theorem sc_ad:x8 ["_law_cell_here", "_law_most", "_law_width", "_law_height", "_law_picture", "_law_rows", "_law_first", "_law_k", "_law_x", "_law_y", "_law_number", "_law_low", "_law_row"] ["_law_cell_here", "_law_most"] (xk s_ad):=⟨rfl,rfl,rfl,by decide +kernel,rfl,by decide +kernel,by decide +kernel⟩
theorem sc_aj:x8 ["_law_picture", "_law_cell_here", "_law_seats", "_law_j", "_law_side", "_law_number", "_law_bits", "_law_row"] ["_law_picture", "_law_cell_here"] (xk s_aj):=⟨rfl,rfl,rfl,by decide +kernel,rfl,by decide +kernel,by decide +kernel⟩
theorem sc_y:x8 ["_law_thing", "_law_low", "_law_high"] ["_law_thing", "_law_low", "_law_high"] (xk s_y):=⟨rfl,rfl,rfl,by decide +kernel,rfl,by decide +kernel,by decide +kernel⟩
theorem sc_an:x8 ["_law_picture", "_law_way", "_law_name", "_law_side", "_law_row", "_law_reply", "_law_told_here", "_law_e"] ["_law_picture", "_law_way", "_law_name", "_law_side", "_law_row"] (xk s_an):=⟨rfl,rfl,rfl,by decide +kernel,rfl,by decide +kernel,by decide +kernel⟩
theorem sc_ap:x8 ["_law_point", "_law_side", "_law_row"] ["_law_point", "_law_side", "_law_row"] (xk s_ap):=⟨rfl,rfl,rfl,by decide +kernel,rfl,by decide +kernel,by decide +kernel⟩
theorem sc_v:x8 ["_law_picture", "_law_rows", "_law_seats", "_law_name", "_law_side", "_law_row", "_law_old", "_law_due", "_law_answers", "_law_point", "_law_may", "_law_across", "_law_some"] ["_law_picture", "_law_rows", "_law_seats", "_law_name", "_law_side", "_law_row"] (xk s_v):=⟨rfl,rfl,rfl,by decide +kernel,rfl,by decide +kernel,by decide +kernel⟩
theorem sc_ae:x8 ["_law_picture", "_law_rows", "_law_seats", "_law_number", "_law_seat", "_law_at", "_law_x"] ["_law_picture", "_law_rows", "_law_seats", "_law_number"] (xk s_ae):=⟨rfl,rfl,rfl,by decide +kernel,rfl,by decide +kernel,by decide +kernel⟩
theorem xbs:x8 ["_law_script", "_law_picture", "_law_rows", "_law_seats", "_law_k", "_law_cell_here", "_law_number", "_law_other", "_law_name", "_law_side", "_law_row"] ["_law_script"] (xk xeb):=⟨rfl,rfl,rfl,by decide +kernel,rfl,by decide +kernel,by decide +kernel⟩
end S06
set_option maxRecDepth 100000
set_option maxHeartbeats 4000000
namespace S06
open PySem L2 XL PyProof.Rows
theorem xa8 {K:PySem.W.Frag} {v:Value}:PySem.W.kitOne K v v = some true:=if_pos (by simp)
theorem xo {H H':Hp} {p:Addr} {o:HO} (s:Same H H') (hp:H' p = none):Same H (L2.upd H' p o):=fun b u z=>by
  have z':=s b u z
  rw [xm (xp z' hp)]
  exact z'
theorem xg7 {H:Hp} {x dx:Addr} {a b c:HO} (hx:H x = none) (hd:H dx = none):Same H (upd (upd (upd H dx a) x b) x c):=fun y o e=>by
  rw [xm (xp e hx),xm (xp e hx),xm (xp e hd)]
  exact e
def xv (b:Bool):Str:=if b then "left" else "right"
def xhd (t:Adr) (H:Hp) (p:Addr) (b:Bool) (w:Int):Prop:=∃ dx,H p = some (.ins (if b then t.C_ay else t.C_aq) dx [("width",.int w)])
def xoa (K:PySem.W.Frag):Sp:=fun vs H Q _=>∃ (p C dx:Addr) (n:Int),vs = [.ref p,.int n]∧H p = some (.ins C dx [])∧Cls K C∧xdd K C "width"∧Q .non (upd H p (.ins C dx [("width",.int n)]))
def xo5:Sp:=fun vs H Q _=>∃ (p:V) (x:V),vs = [p,x]∧Q x H
def xpu (t:Adr):Sp:=fun vs H Q _=>∃ (p:Addr) (n x:Int),vs = [.ref p,.int x]∧xhd t H p false n∧Q (.int (n + 1 - x)) H
def xk9 (t:Adr):Sp:=fun vs H Q _=>∃ (b:Bool) (n:Int),vs = [.str (xv b),.int n]∧∀ p H',H p = none→xhd t H' p b n→Same H H'→Q (.ref p) H'
section
variable {P:Program} {w:World} {K:PySem.W.Frag} {mg:Str→Option Value} {base:Heap} {t:Adr}
theorem ok_am (T:Txt w K mg t):FnOk true P w K mg base (CXo P w) 1 t.f_am t.d_am ["self", "width"] (xoa K):=by
  refine T.F_am.okn (k:=0) sc_am (fun vs H Q E h=>?_) (fun cdv A outer s H vs Q E hr h=>?_)
  · obtain ⟨p,C,dx,n,rfl,_⟩:=h
    rfl
  · obtain ⟨p,C,dx,n,rfl,h⟩:=h
    refine ⟨_,xn (xeo (pv 0) (pv 1) rfl),?_⟩
    obtain ⟨hp,c,na,q⟩:=h
    exact ⟨_,rfl,_,rfl,p,C,dx,[],rfl,hp,c,na,(by show 0 < 1000; decide),q⟩
theorem ok_o (T:Txt w K mg t):FnOk true P w K mg base (CXo P w) 1 t.f_o t.d_o ["self", "x"] (xo5):=by
  refine T.F_o.okn (k:=0) sc_o (fun vs H Q E h=>?_) (fun cdv A outer s H vs Q E hr h=>?_)
  · obtain ⟨p,x,rfl,_⟩:=h
    rfl
  · obtain ⟨p,x,rfl,h⟩:=h
    refine ⟨_,xn (xar (pv 1)),?_⟩
    exact ⟨_,rfl,h⟩
theorem ok_k (T:Txt w K mg t):FnOk true P w K mg base (CXo P w) 1 t.f_k t.d_k ["self", "x"] (xpu t):=by
  refine T.F_k.okn (k:=0) sc_k (fun vs H Q E h=>?_) (fun cdv A outer s H vs Q E hr h=>?_)
  · obtain ⟨p,n,x,rfl,_⟩:=h
    rfl
  · obtain ⟨p,n,x,rfl,h⟩:=h
    refine ⟨_,xn (xar (xq xcv (xq xax (xao (pv 0) rfl) (xi)) (pv 1))),?_⟩
    obtain ⟨⟨dx,hp⟩,q⟩:=h
    exact ⟨_,rfl,p,t.C_aq,dx,_,_,rfl,hp,T.c_aq,T.n_bi,rfl,_,_,rfl,rfl,_,rfl,_,_,rfl,rfl,q⟩
theorem ok_at (T:Txt w K mg t):FnOk true P w K mg base (CXo P w) 3 t.f_at t.d_at ["word", "width"] (xk9 t):=by
  refine T.F_at.okn (k:=2) sc_at (fun vs H Q E h=>?_) (fun cdv A outer s H vs Q E hr h=>?_)
  · obtain ⟨b,n,rfl,_⟩:=h
    rfl
  · obtain ⟨b,n,rfl,h⟩:=h
    refine ⟨_,xj (xaa (xan (xz xaf rfl T.n_isinstance boot_isinstance (xf (pv 0) (xf (xbj (v:=.ty "str") rfl T.n_str boot_str rfl) (xh))))) (xj (xaa (xad xbt (pv 0) (x9) (xaj _)) (xn (xar (xd5 T.k_ay (ok_am T) (hr.mono (by decide)) rfl T.g_ay T.b_am .nil xu (xf (pv 1) (xh))))) (xw))
      (xn (xaa (xad xbt (pv 0) (x9) (xaj _)) (xn (xar (xd5 T.k_aq (ok_am T) (hr.mono (by decide)) rfl T.g_aq T.b_am .nil xu (xf (pv 1) (xh))))) (xw)))) (xw))
      (xn (xbk)),?_⟩
    cases b with
    | true =>
      refine ⟨_,rfl,_,_,rfl,.inl ⟨_,_,true,.str _,rfl,xa8,true,rfl,iteT ?_⟩⟩
      refine ⟨_,rfl,rfl,_,rfl,?_⟩
      refine ifP (by decide +kernel) ?_
      exact ⟨_,rfl,fun x dx hx hdx ne=>⟨x,t.C_ay,dx,n,rfl,xg,T.c_ay,T.n_bz,rfl,h x _ hx ⟨dx,xg⟩ (xg7 hx hdx)⟩⟩
    | false =>
      refine ⟨_,rfl,_,_,rfl,.inl ⟨_,_,true,.str _,rfl,xa8,true,rfl,iteT ?_⟩⟩
      refine ⟨_,rfl,rfl,_,rfl,?_⟩
      refine ifN (by decide +kernel) ?_
      refine ⟨_,rfl,rfl,_,rfl,?_⟩
      refine ifP (by decide +kernel) ?_
      exact ⟨_,rfl,fun x dx hx hdx ne=>⟨x,t.C_aq,dx,n,rfl,xg,T.c_aq,T.n_bi,rfl,h x _ hx ⟨dx,xg⟩ (xg7 hx hdx)⟩⟩
end
def isNm (x:Str):Bool:=decide (x.length = 1) && (!decide (x.cps.toList < [97]) && !decide ([122] < x.cps.toList))
def xo6:Sp:=fun vs H Q _=>∃ (i lo hi:Int),vs = [.int i,.int lo,.int hi]∧lo≤i∧i≤hi∧Q (.bl true) H
def xpe:Sp:=fun vs H Q _=>∃ (x:Str),vs = [.str x]∧isNm x = true∧Q (.bl true) H
theorem xje:("a":Str).cps.toList = [97]:=by decide +kernel
theorem xmm:("z":Str).cps.toList = [122]:=by decide +kernel
section
variable {P:Program} {w:World} {K:PySem.W.Frag} {mg:Str→Option Value} {base:Heap} {t:Adr}
theorem ok_aa (T:Txt w K mg t):FnOk true P w K mg base (CXo P w) 1 t.f_aa t.d_aa ["thing", "low", "high"] (xo6):=by
  refine T.F_aa.okn (k:=0) sc_aa (fun vs H Q E h=>?_) (fun cdv A outer s H vs Q E hr h=>?_)
  · obtain ⟨i,lo,hi,rfl,_⟩:=h
    rfl
  · obtain ⟨i,lo,hi,rfl,h⟩:=h
    refine ⟨_,xn (xar (xbl (xz xaf rfl T.n_isinstance boot_isinstance (xf (pv 0) (xf (xbj (v:=.ty "int") rfl T.n_int boot_int rfl) (xh)))) (xbl (xhy (xz xaf rfl T.n_isinstance boot_isinstance (xf (pv 0) (xf (xbj (v:=.ty "bool") rfl T.n_bool boot_bool rfl) (xh))))) (xb0 (xb9 xct xct (pv 1) (pv 0) (pv 2)))))),?_⟩
    obtain ⟨c1,c2,q⟩:=h
    refine ⟨_,rfl,_,_,rfl,.inl ⟨_,_,true,.int i,rfl,xa8,true,rfl,iteT ?_⟩⟩
    refine ⟨_,rfl,_,_,rfl,.inl ⟨_,_,false,.int i,rfl,(by rfl),false,rfl,true,rfl,iteT ?_⟩⟩
    refine ⟨_,rfl,_,rfl,_,_,rfl,rfl,_,rfl,ite2 (fun c=>?_) (fun c=>?_)⟩
    · refine ⟨_,rfl,_,_,rfl,rfl,?_⟩
      show Q (.bl (decide (i≤hi))) H
      rw [decide_eq_true c2]
      exact q
    · exact absurd (decide_eq_true c1) c
theorem ok_az (T:Txt w K mg t):FnOk true P w K mg base (CXo P w) 1 t.f_az t.d_az ["thing"] (xpe):=by
  refine T.F_az.okn (k:=0) sc_az (fun vs H Q E h=>?_) (fun cdv A outer s H vs Q E hr h=>?_)
  · obtain ⟨x,rfl,_⟩:=h
    rfl
  · obtain ⟨x,rfl,h⟩:=h
    refine ⟨_,xn (xar (xbl (xz xaf rfl T.n_isinstance boot_isinstance (xf (pv 0) (xf (xbj (v:=.ty "str") rfl T.n_str boot_str rfl) (xh)))) (xbl (xbv xbt (xz xej rfl T.n_len boot_len (xf (pv 0) (xh))) (xi) (xaj _)) (xb0 (xb9 xdq xdq (x9) (pv 0) (x9)))))),?_⟩
    obtain ⟨hn,q⟩:=h
    unfold isNm at hn
    simp only [Bool.and_eq_true,decide_eq_true_eq,Bool.not_eq_true',decide_eq_false_iff_not] at hn
    obtain ⟨l1,n1,n2⟩:=hn
    refine ⟨_,rfl,_,_,rfl,.inl ⟨_,_,true,.str x,rfl,xa8,true,rfl,iteT ?_⟩⟩
    refine ⟨_,rfl,_,rfl,(by rw [l1]; decide),rfl,_,rfl,ite2 (fun c=>?_) (fun c=>?_)⟩
    · refine ⟨_,rfl,_,_,rfl,rfl,_,rfl,ite2 (fun d=>?_) (fun d=>?_)⟩
      · refine ⟨_,_,rfl,rfl,?_⟩
        rw [xmm,decide_eq_false n2]
        exact q
      · rw [xje,decide_eq_false n1] at d
        exact absurd rfl d
    · exact absurd (decide_eq_true (by rw [l1]; rfl)) c
end
section
end
end S06
set_option maxRecDepth 100000
set_option maxHeartbeats 4000000
namespace S06
open PySem L2 XL PyProof.Rows
structure Pt where
  nm:Str
  x:Int
  y:Int
  sd:Str
  lo:Int
  hi:Int
def ptV (p:Pt):List V:=[.int p.x,.int p.y,.str p.sd,.int p.lo,.int p.hi]
inductive Pl (H:Hp):List Pt→List (Key × V)→Prop
  | nil:Pl H [] []
  | cons {p:Pt} {q:Addr} {ps:List Pt} {kvs:List (Key × V)} (h:H q = some (.tup (ptV p))) (r:Pl H ps kvs):Pl H (p :: ps) ((.inr p.nm,.ref q) :: kvs)
inductive PtsL (H:Hp):List Pt→List Addr→Prop
  | nil:PtsL H [] []
  | cons {p:Pt} {q:Addr} {ps:List Pt} {qs:List Addr} (h:H q = some (.tup (.str p.nm :: ptV p))) (r:PtsL H ps qs):PtsL H (p :: ps) (q :: qs)
theorem xo9 {σ:L2.St} {H:Hp} {A B:Hp→Prop} (h:A H):xew σ H (fun b H4=>if b = true then A H4 else B H4):=by
  show if true = true then A H else B H
  rw [if_pos rfl]
  exact h
def Tups (H H':Hp):Prop:=∀ b xs,H b = some (.tup xs)→H' b = some (.tup xs)
theorem Pl.keep {H H':Hp} (s:Tups H H') {ps:List Pt} {kvs:List (Key × V)} (h:Pl H ps kvs):Pl H' ps kvs:=by
  induction h with
  | nil=>exact .nil
  | cons h _ ih=>exact .cons (s _ _ h) ih
theorem PtsL.keep {H H':Hp} (s:Tups H H') {ps:List Pt} {qs:List Addr} (h:PtsL H ps qs):PtsL H' ps qs:=by
  induction h with
  | nil=>exact .nil
  | cons h _ ih=>exact .cons (s _ _ h) ih
theorem Pl.len {H:Hp} {ps:List Pt} {kvs:List (Key × V)} (h:Pl H ps kvs):kvs.length = ps.length:=by
  induction h with
  | nil=>rfl
  | cons _ _ ih=>simp [ih]
theorem PtsL.len {H:Hp} {ps:List Pt} {qs:List Addr} (h:PtsL H ps qs):qs.length = ps.length:=by
  induction h with
  | nil=>rfl
  | cons _ _ ih=>simp [ih]
theorem Pl.find {H:Hp} {ps:List Pt} {kvs:List (Key × V)} (h:Pl H ps kvs) {nm:Str} {pt:Pt} (e:ps.find? (fun p=>decide (p.nm = nm)) = some pt):∃ q,valV kvs (.inr nm) = some (.ref q)∧H q = some (.tup (ptV pt)):=by
  induction h with
  | nil=>simp at e
  | @cons p q ps kvs h _ ih =>
    by_cases c:p.nm = nm
    · rw [List.find?_cons_of_pos (by simpa using c)] at e
      cases e
      exact ⟨q,xdj (by rw [c]),h⟩
    · rw [List.find?_cons_of_neg (by simpa using c)] at e
      obtain ⟨q',h1,h2⟩:=ih e
      exact ⟨q',by rw [xcn (fun z=>c (Sum.inr.inj z))]; exact h1,h2⟩
theorem Pl.no {H:Hp} {ps:List Pt} {kvs:List (Key × V)} (h:Pl H ps kvs) {nm:Str} (e:∀ p ∈ ps,p.nm≠nm):valV kvs (.inr nm) = none:=by
  induction h with
  | nil=>rfl
  | @cons p q ps kvs h _ ih =>
    rw [xcn (fun z=>e p List.mem_cons_self (Sum.inr.inj z))]
    exact ih fun p' hp=>e p' (List.mem_cons_of_mem _ hp)
theorem Pl.get {H:Hp} {ps:List Pt} {kvs:List (Key × V)} (h:Pl H ps kvs) {i:Nat} {k:Key} {x:V} (e:kvs[i]? = some (k,x)):∃ p q,ps[i]? = some p∧k = .inr p.nm∧x = .ref q∧H q = some (.tup (ptV p)):=by
  induction h generalizing i with
  | nil=>simp at e
  | @cons p q ps kvs h _ ih =>
    cases i with
    | zero =>
      simp at e
      exact ⟨p,q,rfl,e.1.symm,e.2.symm,h⟩
    | succ j=>exact ih (by simpa using e)
theorem PtsL.get {H:Hp} {ps:List Pt} {qs:List Addr} (h:PtsL H ps qs) {i:Nat} {q:Addr} (e:qs[i]? = some q):∃ p,ps[i]? = some p∧H q = some (.tup (.str p.nm :: ptV p)):=by
  induction h generalizing i with
  | nil=>simp at e
  | @cons p q' ps qs h _ ih =>
    cases i with
    | zero =>
      simp at e
      subst e
      exact ⟨p,rfl,h⟩
    | succ j=>exact ih (by simpa using e)
theorem Pl.snoc {H:Hp} {ps:List Pt} {kvs:List (Key × V)} (h:Pl H ps kvs) {p:Pt} {q:Addr} (e:H q = some (.tup (ptV p))):Pl H (ps ++ [p]) (kvs ++ [(.inr p.nm,.ref q)]):=by
  induction h with
  | nil=>exact .cons e .nil
  | cons h _ ih=>exact .cons h ih
theorem PtsL.snoc {H:Hp} {ps:List Pt} {qs:List Addr} (h:PtsL H ps qs) {p:Pt} {q:Addr} (e:H q = some (.tup (.str p.nm :: ptV p))):PtsL H (ps ++ [p]) (qs ++ [q]):=by
  induction h with
  | nil=>exact .cons e .nil
  | cons h _ ih=>exact .cons h ih
abbrev picF (w h:Int) (dp do_:Addr):List (Str × V):=[("width",.int w),("height",.int h),("placed",.ref dp),("opened",.ref do_)]
structure Pic (t:Adr) (H:Hp) (a dp do_:Addr) (w h:Int) (ps:List Pt):Prop where
  ins:∃ dx,H a = some (.ins t.C_j dx (picF w h dp do_))
  pl:∃ kvs,H dp = some (.dK kvs)∧Pl H ps kvs
  w1:1≤w
  w2:w≤30
  h1:1≤h
  h2:h≤16
  len:ps.length≤12
theorem Same.tups {H H':Hp} (s:Same H H'):Tups H H':=fun b xs e=>s b _ e
theorem Pic.same {t:Adr} {H H':Hp} {a dp do_:Addr} {w h:Int} {ps:List Pt} (s:Same H H') (p:Pic t H a dp do_ w h ps):Pic t H' a dp do_ w h ps :=
  ⟨let ⟨dx,e⟩:=p.ins; ⟨dx,s _ _ e⟩,let ⟨kvs,e,q⟩:=p.pl; ⟨kvs,s _ _ e,q.keep (Same.tups s)⟩,p.w1,p.w2,p.h1,p.h2,p.len⟩
theorem xa6 {w h:Int} {dp do_:Addr} {m:Str} (e:((["width", "height", "placed", "opened"]:List Str).all fun k=>!(m == k)) = true):(picF w h dp do_).lookup m = none:=by
  simp only [List.all_cons,List.all_nil,Bool.and_eq_true,Bool.not_eq_true'] at e
  obtain ⟨e1,e2,e3,e4,_⟩:=e
  unfold picF
  rw [List.lookup_cons,e1]
  show List.lookup m [("height",V.int h),("placed",V.ref dp),("opened",V.ref do_)] = none
  rw [List.lookup_cons,e2]
  show List.lookup m [("placed",V.ref dp),("opened",V.ref do_)] = none
  rw [List.lookup_cons,e3]
  show List.lookup m [("opened",V.ref do_)] = none
  rw [List.lookup_cons,e4]
  rfl
theorem lkW {w h:Int} {dp do_:Addr}:(picF w h dp do_).lookup ("width":Str) = some (.int w):=by
  unfold picF
  rw [List.lookup_cons,show (("width":Str) == "width") = true from by decide +kernel]
theorem lkH {w h:Int} {dp do_:Addr}:(picF w h dp do_).lookup ("height":Str) = some (.int h):=by
  unfold picF
  rw [List.lookup_cons,show (("height":Str) == "width") = false from by decide +kernel]
  show List.lookup ("height":Str) [("height",V.int h),("placed",V.ref dp),("opened",V.ref do_)] = _
  rw [List.lookup_cons,show (("height":Str) == "height") = true from by decide +kernel]
theorem lkP {w h:Int} {dp do_:Addr}:(picF w h dp do_).lookup ("placed":Str) = some (.ref dp):=by
  unfold picF
  rw [List.lookup_cons,show (("placed":Str) == "width") = false from by decide +kernel]
  show List.lookup ("placed":Str) [("height",V.int h),("placed",V.ref dp),("opened",V.ref do_)] = _
  rw [List.lookup_cons,show (("placed":Str) == "height") = false from by decide +kernel]
  show List.lookup ("placed":Str) [("placed",V.ref dp),("opened",V.ref do_)] = _
  rw [List.lookup_cons,show (("placed":Str) == "placed") = true from by decide +kernel]
def xmt (t:Adr):Sp:=fun vs H Q _=>∃ (p dx:Addr) (w h:Int),vs = [.ref p,.int w,.int h]∧H p = some (.ins t.C_j dx [])∧1≤w∧w≤30∧1≤h∧h≤16 ∧
  ∀ H' dp do_,H dp = none→H do_ = none→(∀ b u,b≠p→H b = some u→H' b = some u)→Pic t H' p dp do_ w h []→H' do_ = some (.dT [])→Q .non H'
def spCC (t:Adr):Sp:=fun vs H Q _=>∃ (a dp do_:Addr) (pw ph:Int) (ps:List Pt) (x y:Int),vs = [.ref a,.int x,.int y]∧Pic t H a dp do_ pw ph ps∧1≤x∧x≤pw∧1≤y∧y≤ph∧Q .non H
def xpj (t:Adr):Sp:=fun vs H Q _=>∃ (a dp do_:Addr) (pw ph:Int) (ps:List Pt),vs = [.ref a]∧Pic t H a dp do_ pw ph ps∧∀ H' l qs,Same H H'→H' l = some (.lst (qs.map V.ref))→PtsL H' ps qs→Q (.ref l) H'
def spCL (t:Adr):Sp:=fun vs H Q _=>∃ (a dp do_:Addr) (pw ph:Int) (ps:List Pt) (nm:Str) (x y:Int),vs = [.ref a,.str nm,.int x,.int y]∧Pic t H a dp do_ pw ph ps∧(∀ p ∈ ps,p.nm≠nm→p.x≠x∧p.y≠y)∧∀ H',Same H H'→Q .non H'
def spCS (t:Adr):Sp:=fun vs H Q _=>∃ (a dp do_:Addr) (pw ph:Int) (ps:List Pt) (b:Bool) (r:Int),vs = [.ref a,.str (xv b),.int r]∧Pic t H a dp do_ pw ph ps∧1≤r∧r≤ph∧∀ H',Same H H'→Q .non H'
def xpc (t:Adr):Sp:=fun vs H Q _=>∃ (a dp do_:Addr) (pw ph:Int) (ps:List Pt) (nm:Str) (x y:Int) (sd:Str) (lo hi:Int) (hv:V),vs = [.ref a,.str nm,.int x,.int y,.str sd,.int lo,hv]∧Pic t H a dp do_ pw ph ps ∧
  ((hv = .non∧hi = ph)∨hv = .int hi)∧isNm nm = true∧1≤x∧x≤pw∧1≤y∧y≤ph∧(sd = "left"∨sd = "right"∨sd = "both")∧1≤lo∧lo≤hi∧hi≤ph∧(∀ p ∈ ps,p.nm≠nm∧p.x≠x∧p.y≠y)∧ps.length < 12 ∧
  ∀ H',(∀ b u,b≠dp→H b = some u→H' b = some u)→Pic t H' a dp do_ pw ph (ps ++ [⟨nm,x,y,sd,lo,hi⟩])→Q .non H'
def lenI (w x y:Int) (b:Bool) (r:Int):Int:=(if b then x else w + 1 - x) + (if y - r < 0 then -(y - r) else y - r)
section
variable {P:Program} {w:World} {K:PySem.W.Frag} {mg:Str→Option Value} {base:Heap} {t:Adr}
theorem ok_ah (T:Txt w K mg t):FnOk true P w K mg base (CXo P w) 2 t.f_ah t.d_ah ["self", "width", "height"] (xmt t):=by
  refine T.F_ah.okn (k:=1) sc_ah (fun vs H Q E h=>?_) (fun cdv A outer s H vs Q E hr h=>?_)
  · obtain ⟨p,dx,pw,ph,rfl,_⟩:=h
    rfl
  · obtain ⟨p,dx,pw,ph,rfl,h⟩:=h
    refine ⟨_,xj (xaa (PW.pt (xcp (xbd (xan (xae (ok_aa T) (hr.mono (by decide)) rfl T.g_aa T.F_aa.kp T.b_aa .nil xu (xf (pv 1) (xf (xi) (xf (xaz (v:=.int 30) rfl T.v_b6.choose_spec ⟨_,rfl⟩) (xh))))))) (xb5 (xbd (xan (xae (ok_aa T) (hr.mono (by decide)) rfl T.g_aa T.F_aa.kp T.b_aa .nil xu (xf (pv 2) (xf (xi) (xf (xaz (v:=.int 16) rfl T.v_dz.choose_spec ⟨_,rfl⟩) (xh)))))))))) (xn (xbk)) (xw))
      (xj (xeo (pv 0) (pv 1) rfl)
      (xj (xeo (pv 0) (pv 2) rfl)
      (xj (xeo (pv 0) (xl0) rfl)
      (xn (xeo (pv 0) (xlq) rfl))))),?_⟩
    obtain ⟨hp,w1,w2,h1,h2,q⟩:=h
    refine ⟨_,rfl,pw,1,30,rfl,w1,w2,true,rfl,iteF ⟨_,rfl,ph,1,16,rfl,h1,h2,true,rfl,iteF ?_⟩⟩
    refine ⟨_,rfl,_,rfl,p,_,dx,_,rfl,hp,T.c_j,T.n_bg,(by show 0 < 1000; decide),?_⟩
    refine ⟨_,rfl,_,rfl,p,_,dx,_,rfl,xg,T.c_j,T.n_bc,(by show 1 < 1000; decide),?_⟩
    rw [xf1]
    refine fun dp hdp=>?_
    have n1:p≠dp:=xp xg hdp
    refine ⟨_,rfl,p,_,dx,_,rfl,(by rw [xm n1]; exact xg),T.c_j,T.n_bd,(by show 2 < 1000; decide),fun do_ hdo=>?_⟩
    have n2:p≠do_:=xp xg hdo
    have n3:dp≠do_:=xp (by rw [xm (Ne.symm n1)]; exact xg) hdo
    refine ⟨_,rfl,p,_,dx,_,rfl,(by rw [xm n2]; exact xg),T.c_j,T.n_bf,(by show 3 < 1000; decide),?_⟩
    rw [xm (Ne.symm n1)] at hdp
    have hdo':H do_ = none:=by
      have z:=hdo
      rw [xm (Ne.symm n2),xm (Ne.symm n3),xm (Ne.symm n2)] at z
      exact z
    refine q _ dp do_ hdp hdo' (fun b u nb e=>?_) ⟨⟨dx,xg⟩,⟨[],?_,.nil⟩,w1,w2,h1,h2,Nat.zero_le _⟩ ?_
    · have c1:b≠dp:=xp e hdp
      have c2:b≠do_:=fun z=>by
        subst z
        rw [xm nb,xm c1,xm nb] at hdo
        rw [e] at hdo
        cases hdo
      rw [xm nb,xm c2,xm nb,xm c1,xm nb]
      exact e
    · rw [xm (Ne.symm n1),xm n3,xm (Ne.symm n1)]
      exact xg
    · rw [xm (Ne.symm n2)]
      exact xg
theorem ok_e (T:Txt w K mg t):FnOk true P w K mg base (CXo P w) 2 t.f_e t.d_e ["self", "x", "y"] (spCC t):=by
  refine T.F_e.okn (k:=1) sc_e (fun vs H Q E h=>?_) (fun cdv A outer s H vs Q E hr h=>?_)
  · obtain ⟨a,dp,do_,pw,ph,ps,x,y,rfl,_⟩:=h
    rfl
  · obtain ⟨a,dp,do_,pw,ph,ps,x,y,rfl,h⟩:=h
    refine ⟨_,xn (xaa (PW.pt (xcp (xbd (xan (xae (ok_aa T) (hr.mono (by decide)) rfl T.g_aa T.F_aa.kp T.b_aa .nil xu (xf (pv 1) (xf (xi) (xf (xao (pv 0) rfl) (xh))))))) (xb5 (xbd (xan (xae (ok_aa T) (hr.mono (by decide)) rfl T.g_aa T.F_aa.kp T.b_aa .nil xu (xf (pv 2) (xf (xi) (xf (xao (pv 0) rfl) (xh)))))))))) (xn (xbk)) (xw)),?_⟩
    obtain ⟨pic,x1,x2,y1,y2,q⟩:=h
    obtain ⟨⟨dx,hp⟩,_,_⟩:=id pic
    exact ⟨_,rfl,_,rfl,a,_,dx,_,_,rfl,hp,T.c_j,T.n_bg,lkW,x,1,pw,rfl,x1,x2,true,rfl,iteF ⟨_,rfl,_,rfl,a,_,dx,_,_,rfl,hp,T.c_j,T.n_bc,lkH,y,1,ph,rfl,y1,y2,true,rfl,iteF q⟩⟩
theorem ok_m (T:Txt w K mg t):FnOk true P w K mg base (CXo P w) 1 t.f_m t.d_m ["self"] (xpj t):=by
  refine T.F_m.okn (k:=0) sc_m (fun vs H Q E h=>?_) (fun cdv A outer s H vs Q E hr h=>?_)
  · obtain ⟨a,dp,do_,pw,ph,ps,rfl,_⟩:=h
    rfl
  · obtain ⟨a,dp,do_,pw,ph,ps,rfl,h⟩:=h
    refine ⟨_,xn (xar (xnj (xdm rfl (xby (zs:=["name", "rest"]) (ys:=[]) (fr:=[]) (N0:=["self"]) (sc0:=xk s_m) (by decide +kernel) rfl rfl rfl) (xlw (xao (pv 0) rfl)) (fun _ _ _ _ _ ow nd=>(xd1 rfl (xa9 (xap (i:=0) nd rfl (Or.inl (ow _ (by simp))) (Or.inr (ow _ (by simp)))) (xa9 (xap (i:=1) nd rfl (Or.inl (ow _ (by simp))) (Or.inr (ow _ (by simp)))) (xdc))):PG _ _ (gTup K 2 _))) (xis (xds (by decide) (xds (by decide) (xhs)))) (fun _ _ _ _ _=>xd6) (fun _ _ _ _ _=>xq (r:=xmc K) xf5 (xa1 (xf (pv 0) (xh))) (pv 1))))),?_⟩
    obtain ⟨pic,q⟩:=h
    obtain ⟨⟨dx,hp⟩,⟨kvs,hk,pl⟩,_⟩:=id pic
    refine ⟨_,rfl,a,_,dx,_,_,rfl,hp,T.c_j,T.n_bd,lkP,dp,kvs,rfl,hk,fun ob nf l hl=>?_⟩
    have nl:l≠dp:=fun z=>by
      rw [z,xg] at hl
      cases hl
    have hl0:H l = none:=by rwa [xm nl] at hl
    refine xea kvs.length (fun i xs H2=>∃ qs:List Addr,xs = qs.map V.ref∧qs.length≤i∧H2 dp = some (.frz ob (.dK kvs))∧(∀ b u,b≠dp→H b = some u→H2 b = some u)∧H2 l = some (.lst xs)∧PtsL H2 (ps.take i) qs) ?_ ?_ ?_ ?_
    · refine ⟨[],rfl,Nat.le_refl _,?_,fun b u nb e=>?_,xg,by simpa using PtsL.nil⟩
      · rw [xm (Ne.symm nl)]
        exact xg
      · rw [xm (xp e hl0),xm nb]
        exact e
    · rintro i xs H2 lt ⟨qs,_,_,hd,_⟩
      exact ⟨hd,lt⟩
    · rintro i xs H2 v H3 lt ⟨qs,rfl,ql,hd,sm,hl2,pts⟩ ⟨p,k,x,hx,rfl,hpn,rfl⟩ N hN
      obtain ⟨pt,q0,hpt,rfl,rfl,hq0⟩:=pl.get hx
      have e0:H2 q0 = some (.tup (ptV pt)):=sm _ _ (xab hq0 hk (fun z=>nomatch z)) hq0
      refine ⟨p,_,rfl,SqT.of xg,rfl,_,_,rfl,_,_,rfl,rfl,?_⟩
      refine xo9 ?_
      have n0:q0≠p:=xp e0 hpn
      refine ⟨_,rfl,(by show 1≤sizeLine; decide),fun p1 h1=>⟨_,rfl,p1,q0,_,ptV pt,rfl,rfl,SqT.of xg,SqT.of ?_,(by simp),(by show 1 + 5≤sizeLine; decide),(fun z=>nomatch z),fun _ p2 h2=>?_⟩⟩
      · rw [xm (xp (by rw [xm n0]; exact e0) h1),xm n0]
        exact e0
      have up:∀ b u,H2 b = some u→(upd (upd (upd H2 p (.tup [.str pt.nm,.ref q0])) p1 (.tup [.str pt.nm])) p2 (.tup ([.str pt.nm] ++ ptV pt))) b = some u:=fun b u e=>by
        have c1:b≠p:=xp e hpn
        have e1:upd H2 p (.tup [.str pt.nm,.ref q0]) b = some u:=by rw [xm c1]; exact e
        have c2:b≠p1:=xp e1 h1
        have e2:upd (upd H2 p (.tup [.str pt.nm,.ref q0])) p1 (.tup [.str pt.nm]) b = some u:=by rw [xm c2]; exact e1
        rw [xm (xp e2 h2)]
        exact e2
      have c3:l≠p2:=xp (show upd (upd H2 p (.tup [.str pt.nm,.ref q0])) p1 (.tup [.str pt.nm]) l = some (.lst (qs.map V.ref)) from by
        have c1:l≠p:=xp hl2 hpn
        have e1:upd H2 p (.tup [.str pt.nm,.ref q0]) l = some (.lst (qs.map V.ref)):=by rw [xm c1]; exact hl2
        rw [xm (xp e1 h1)]
        exact e1) h2
      have tk:ps.take (i + 1) = ps.take i ++ [pt]:=by
        rw [List.take_add_one,hpt]
        rfl
      have ll:qs.length < sizeLine:=Nat.lt_trans (by have:=pl.len; have:=pic.len; omega:qs.length < 13) (by decide)
      refine ⟨up _ _ hl2,by rw [List.length_map]; exact ll,hN _ _ ⟨qs ++ [p2],by simp,by simp; omega,?_,fun b u nb e=>?_,xg,?_⟩⟩
      · rw [xm (Ne.symm nl)]
        exact up _ _ hd
      · have e2:=up _ _ (sm b u nb e)
        rw [xm (xp e hl0)]
        exact e2
      · rw [tk]
        refine PtsL.snoc (PtsL.keep (fun b xs e=>?_) pts) ?_
        · have e2:=up _ _ e
          rw [xm (xab e2 (up _ _ hl2) (fun z=>nomatch z))]
          exact e2
        · rw [xm (Ne.symm c3)]
          exact xg
    · rintro xs H2 ⟨qs,rfl,_,hd,sm,hl2,pts⟩
      refine ⟨⟨hd,Nat.le_refl _⟩,dp,ob,_,hd,nf,q _ l qs (fun b u e=>?_) ?_ (PtsL.keep (fun b xs e=>?_) (by rw [pl.len,List.take_length] at pts; exact pts))⟩
      · by_cases c:b = dp
        · subst c
          rw [hk] at e
          cases e
          exact xg
        · rw [xm c]
          exact sm b u c e
      · rw [xm nl]
        exact hl2
      · rw [xm (xab e hd (fun z=>nomatch z))]
        exact e
theorem ok_a (T:Txt w K mg t):FnOk true P w K mg base (CXo P w) 2 t.f_a t.d_a ["self", "name", "x", "y"] (spCL t):=by
  refine T.F_a.okn (k:=1) sc_a (fun vs H Q E h=>?_) (fun cdv A outer s H vs Q E hr h=>?_)
  · obtain ⟨a,dp,do_,pw,ph,ps,nm,x,y,rfl,_⟩:=h
    rfl
  · obtain ⟨a,dp,do_,pw,ph,ps,nm,x,y,rfl,h⟩:=h
    refine ⟨_,xj (xdl rfl (xby (zs:=["other"]) (ys:=["name"]) (fr:=[1]) (N0:=["self", "name", "x", "y", "others", "other"]) (sc0:=xk s_a) (by decide +kernel) rfl rfl rfl) (xbp (xde (pv 0) T.c_j T.m_m (ok_m T) (hr.mono (by decide)) T.b_m .nil xu)) (fun _ _ _ _ _ ow nd=>xap (i:=0) nd rfl (Or.inl (ow _ (by simp))) (Or.inr (ow _ (by simp)))) (xbz (by decide)) (fun _ _ _ _ _=>xdy (xad xmi (x5 (r:=rIxT K) xak (pv 0) (xi) (fun _ _=>rfl)) (pv 1) (xaj _))) (fun _ _ _ _ _=>pv 0) (j:=4) rfl (Or.inl rfl))
      (xj (xcz PassesOwn.never rfl (xbp (pv 4)) (xap (i:=5) sc_a.nd rfl (Or.inl rfl)) (xn (xaa (xad xbt (x5 xak (pv 5) (xi) (fun _ _=>rfl)) (pv 2) (xaj _)) (xn (xbk)) (xw))))
      (xn (xcz PassesOwn.never rfl (xbp (pv 4)) (xap (i:=5) sc_a.nd rfl (Or.inl rfl)) (xn (xaa (xad xbt (x5 xak (pv 5) (xi) (fun _ _=>rfl)) (pv 3) (xaj _)) (xn (xbk)) (xw)))))),?_⟩
    obtain ⟨pic,no,q⟩:=h
    obtain ⟨⟨dx,hp⟩,⟨kvs,hk,pl⟩,_⟩:=id pic
    refine ⟨_,rfl,a,dx,_,rfl,hp,xa6 (by decide +kernel),a,dp,do_,pw,ph,ps,rfl,pic,fun H1 l1 qs s1 hl1 pt1=>⟨l1,rfl,⟨_,SqL.of hl1⟩,fun l hl=>?_⟩⟩
    refine xea qs.length (fun i xs H2=>∃ os:List Addr,xs = os.map V.ref∧os.length≤i∧Same H1 H2∧H2 l = some (.lst xs)∧∀ o ∈ os,∃ p ∈ ps,p.nm≠nm∧H1 o = some (.tup (.str p.nm :: ptV p))) ?_ ?_ ?_ ?_
    · exact ⟨[],rfl,Nat.le_refl _,xo (Same.refl _) hl,xg,fun o z=>nomatch z⟩
    · rintro i xs H2 lt ⟨os,_,_,s2,_⟩
      exact ⟨_,.ref qs[i],SqL.of (s2 _ _ hl1),by simp [lt]⟩
    · rintro i xs H2 v H3 lt ⟨os,rfl,ol,s2,hl2,hos⟩ ⟨rfl,hv⟩ N hN
      have hv':=hv _ (SqL.of (s2 _ _ hl1))
      rw [List.getElem?_map] at hv'
      obtain ⟨o,ho,rfl⟩:=Option.map_eq_some_iff.mp hv'
      obtain ⟨p,hpp,ep⟩:=pt1.get ho
      refine ⟨_,rfl,o,_,0,_,rfl,rfl,SqT.of (s2 _ _ ep),rfl,_,rfl,rfl,_,rfl,ite2 (fun c=>?_) (fun c=>?_)⟩
      · have cn:p.nm≠nm:=fun z=>by
          rw [z] at c
          simp at c
        refine ⟨_,rfl,hl2,(by rw [List.length_map]; exact Nat.lt_trans (by have:=pt1.len; have:=pic.len; omega:os.length < 13) (by decide)),hN _ _ ⟨os ++ [o],by simp,by simp; omega,?_,xg,?_⟩⟩
        · intro b u e
          by_cases cb:b = l
          · subst cb
            rw [e] at hl
            cases hl
          · rw [xm cb]
            exact s2 b u e
        · intro o' ho'
          rcases List.mem_append.mp ho' with z | z
          · exact hos o' z
          · have:=List.mem_singleton.mp z
            subst this
            exact ⟨p,List.mem_of_getElem? hpp,cn,ep⟩
      · exact hN _ _ ⟨os,rfl,by omega,s2,hl2,hos⟩
    · rintro xs H2 ⟨os,rfl,ol,s2,hl2,hos⟩
      refine ⟨⟨_,SqL.of (s2 _ _ hl1),by simp⟩,?_⟩
      have loop:∀ (o:Addr),o ∈ os→∃ p ∈ ps,p.nm≠nm∧H2 o = some (.tup (.str p.nm :: ptV p)):=fun o ho=>by
        obtain ⟨p,h1,h2,h3⟩:=hos o ho
        exact ⟨p,h1,h2,s2 _ _ h3⟩
      refine ⟨_,rfl,l,rfl,⟨_,SqL.of hl2⟩,xd9 (xs:=os.map V.ref) (Pv:=fun i σ H3=>∃ v5:Option V,σ = [some (.ref a),some (.str nm),some (.int x),some (.int y),some (.ref l),v5]∧H2 = H3) ⟨_,rfl,rfl⟩ (fun _ _ _ _ ⟨_,_,z⟩=>by rw [← z]; exact SqL.of hl2) ?_ ?_⟩
      · rintro i v σ _ hv ⟨v5,rfl,rfl⟩
        rw [List.getElem?_map] at hv
        obtain ⟨o,ho,rfl⟩:=Option.map_eq_some_iff.mp hv
        obtain ⟨p,m1,m2,m3⟩:=loop o (List.mem_of_getElem? ho)
        refine ⟨_,rfl,o,_,1,_,rfl,rfl,SqT.of m3,rfl,_,rfl,rfl,_,rfl,ifN (decide_eq_false fun z=>(no p m1 m2).1 (V.int.inj z)) ⟨_,rfl,rfl⟩⟩
      · rintro σ _ ⟨v5,rfl,rfl⟩
        refine ⟨_,rfl,l,rfl,⟨_,SqL.of hl2⟩,xd9 (xs:=os.map V.ref) (Pv:=fun i σ H3=>∃ v5:Option V,σ = [some (.ref a),some (.str nm),some (.int x),some (.int y),some (.ref l),v5]∧H2 = H3) ⟨_,rfl,rfl⟩ (fun _ _ _ _ ⟨_,_,z⟩=>by rw [← z]; exact SqL.of hl2) ?_ ?_⟩
        · rintro i v σ _ hv ⟨v5,rfl,rfl⟩
          rw [List.getElem?_map] at hv
          obtain ⟨o,ho,rfl⟩:=Option.map_eq_some_iff.mp hv
          obtain ⟨p,m1,m2,m3⟩:=loop o (List.mem_of_getElem? ho)
          refine ⟨_,rfl,o,_,2,_,rfl,rfl,SqT.of m3,rfl,_,rfl,rfl,_,rfl,ifN (decide_eq_false fun z=>(no p m1 m2).2 (V.int.inj z)) ⟨_,rfl,rfl⟩⟩
        · rintro σ _ ⟨v5,rfl,rfl⟩
          exact q _ (s1.trans s2)
theorem ok_c (T:Txt w K mg t):FnOk true P w K mg base (CXo P w) 4 t.f_c t.d_c ["self", "side", "row"] (spCS t):=by
  refine T.F_c.okn (k:=3) sc_c (fun vs H Q E h=>?_) (fun cdv A outer s H vs Q E hr h=>?_)
  · obtain ⟨a,dp,do_,pw,ph,ps,b,r,rfl,_⟩:=h
    rfl
  · obtain ⟨a,dp,do_,pw,ph,ps,b,r,rfl,h⟩:=h
    refine ⟨_,xj (xav (xae (ok_at T) (hr.mono (by decide)) rfl T.g_at T.F_at.kp T.b_at .nil xu (xf (pv 1) (xf (xao (pv 0) rfl) (xh)))))
      (xn (xaa (xbd (xan (xae (ok_aa T) (hr.mono (by decide)) rfl T.g_aa T.F_aa.kp T.b_aa .nil xu (xf (pv 2) (xf (xi) (xf (xao (pv 0) rfl) (xh))))))) (xn (xbk)) (xw))),?_⟩
    obtain ⟨pic,r1,r2,q⟩:=h
    obtain ⟨⟨dx,hp⟩,_,_⟩:=id pic
    refine ⟨_,rfl,_,rfl,a,_,dx,_,_,rfl,hp,T.c_j,T.n_bg,lkW,b,pw,rfl,fun p H1 hp1 sd1 s1=>?_⟩
    exact ⟨_,rfl,_,rfl,a,_,dx,_,_,rfl,(s1 _ _ hp),T.c_j,T.n_bc,lkH,r,1,ph,rfl,r1,r2,true,rfl,iteF (q H1 s1)⟩
theorem ok_q (T:Txt w K mg t):FnOk true P w K mg base (CXo P w) 3 t.f_q t.d_q ["self", "name", "x", "y", "sides", "low", "high"] (xpc t):=by
  refine T.F_q.okn (k:=2) sc_q (fun vs H Q E h=>?_) (fun cdv A outer s H vs Q E hr h=>?_)
  · obtain ⟨a,dp,do_,pw,ph,ps,nm,x,y,sd,lo,hi,hv,rfl,_⟩:=h
    rfl
  · obtain ⟨a,dp,do_,pw,ph,ps,nm,x,y,sd,lo,hi,hv,rfl,h⟩:=h
    refine ⟨_,xj (xx (i:=7) sc_q.nd rfl (Or.inl rfl) (xld (xad xo1 (pv 6) (xck) (xaj _)) (xao (pv 0) rfl) (pv 6)))
      (xj (xaa (xbd (xan (xae (ok_az T) (hr.mono (by decide)) rfl T.g_az T.F_az.kp T.b_az .nil xu (xf (pv 1) (xh))))) (xn (xbk)) (xw))
      (xj (xav (xay (pv 0) T.c_j T.m_e (ok_e T) (hr.mono (by decide)) T.b_e .nil xu (xf (pv 2) (xf (pv 3) (xh)))))
      (xj (xaa (PW.pt (xcp (xbd (xan (xz xaf rfl T.n_isinstance boot_isinstance (xf (pv 4) (xf (xbj (v:=.ty "str") rfl T.n_str boot_str rfl) (xh)))))) (xb5 (xei (xky (pv 4) rfl T.g_a1 T.D_a1))))) (xn (xbk)) (xw))
      (xj (xaa (PW.pt (xcp (xbd (xan (xae (ok_aa T) (hr.mono (by decide)) rfl T.g_aa T.F_aa.kp T.b_aa .nil xu (xf (pv 5) (xf (xi) (xf (xao (pv 0) rfl) (xh))))))) (xb5 (xbd (xan (xae (ok_aa T) (hr.mono (by decide)) rfl T.g_aa T.F_aa.kp T.b_aa .nil xu (xf (pv 7) (xf (pv 5) (xf (xao (pv 0) rfl) (xh)))))))))) (xn (xbk)) (xw))
      (xj (xaa (xei (xhh (xb7 hr) (pv 1) (xao (pv 0) rfl))) (xn (xbk)) (xw))
      (xj (xaa (xad xp8 (xz xk5 rfl T.n_len boot_len (xf (xao (pv 0) rfl) (xh))) (xaz (v:=.int 12) rfl T.v_cl.choose_spec ⟨_,rfl⟩) (xaj _)) (xn (xbk)) (xw))
      (xj (xav (xay (pv 0) T.c_j T.m_a (ok_a T) (hr.mono (by decide)) T.b_a .nil xu (xf (pv 1) (xf (pv 2) (xf (pv 3) (xh))))))
      (xn (xf8 (xb7 hr) (xao (pv 0) rfl) (pv 1) (xa1 (xf (pv 2) (xf (pv 3) (xf (pv 4) (xf (pv 5) (xf (pv 7) (xh))))))) rfl))))))))),?_⟩
    obtain ⟨pic,hhv,hn,x1,x2,y1,y2,hsd,l1,l2,l3,no,len,q⟩:=h
    obtain ⟨⟨dx,hp⟩,⟨kvs,hk,pl⟩,_⟩:=id pic
    have hsd':(valV ([(Sum.inr "left",V.str "right"),(Sum.inr "right",V.str "left"),(Sum.inr "both",V.str "both")]:List (Key × V)) (Sum.inr sd)).isSome = true:=by
      rcases hsd with rfl | rfl | rfl <;> decide +kernel
    rcases hhv with ⟨rfl,e⟩ | rfl
    · obtain rfl:=e.symm
      refine ⟨_,rfl,rfl,_,rfl,ifP (by rfl) ⟨_,rfl,a,_,dx,_,_,rfl,hp,T.c_j,T.n_bc,lkH,?_⟩⟩
      refine ⟨_,rfl,nm,rfl,hn,true,rfl,iteF ?_⟩
      refine ⟨_,rfl,a,dx,_,rfl,hp,xa6 (by decide +kernel),_,rfl,_,rfl,a,dp,do_,pw,ph,ps,x,y,rfl,pic,x1,x2,y1,y2,?_⟩
      refine ⟨_,rfl,_,_,rfl,.inl ⟨_,_,true,.str _,rfl,xa8,true,rfl,iteF ⟨_,rfl,.inr sd,rfl,false,(by rw [hsd']; rfl),iteF ?_⟩⟩⟩
      refine ⟨_,rfl,_,rfl,a,_,dx,_,_,rfl,hp,T.c_j,T.n_bc,lkH,lo,1,ph,rfl,l1,(by omega),true,rfl,iteF ⟨_,rfl,_,rfl,_,rfl,a,_,dx,_,_,rfl,hp,T.c_j,T.n_bc,lkH,ph,lo,ph,rfl,(by omega),(by omega),true,rfl,iteF ?_⟩⟩
      refine ⟨_,rfl,_,rfl,a,_,dx,_,_,rfl,hp,T.c_j,T.n_bd,lkP,dp,none,rfl,(by rw [← pl.no (nm:=nm) (fun p hp=>(no p hp).1)]; exact DGet.k (k:=.inr nm) hk),false,rfl,iteF ?_⟩
      refine ⟨_,rfl,a,_,dx,_,_,rfl,hp,T.c_j,T.n_bd,lkP,dp,kvs,rfl,hk,_,_,rfl,rfl,_,rfl,ifN (decide_eq_false (by have:=pl.len; omega)) ?_⟩
      refine ⟨_,rfl,a,dx,_,rfl,hp,xa6 (by decide +kernel),_,rfl,_,rfl,_,rfl,a,dp,do_,pw,ph,ps,nm,x,y,rfl,pic,fun p hp _=>(no p hp).2,fun H1 s1=>?_⟩
      refine ⟨_,rfl,_,rfl,_,rfl,_,rfl,_,rfl,(by show 5≤sizeLine; decide),fun q1 hq1=>?_⟩
      have hp1:upd H1 q1 (.tup [.int x,.int y,.str sd,.int lo,.int ph]) a = some (.ins t.C_j dx (picF pw ph dp do_)):=by rw [xm (xp (s1 _ _ hp) hq1)]; exact s1 _ _ hp
      have hk1:upd H1 q1 (.tup [.int x,.int y,.str sd,.int lo,.int ph]) dp = some (.dK kvs):=by rw [xm (xp (s1 _ _ hk) hq1)]; exact s1 _ _ hk
      refine ⟨_,rfl,a,_,dx,_,_,rfl,hp1,T.c_j,T.n_bd,lkP,_,rfl,dp,_,rfl,DPut.k (k:=.inr nm) hk1 (Nat.lt_trans (by have:=pl.len; omega:kvs.length < 12) (by decide)),?_⟩
      rw [xe8 (.ref q1) (pl.no (nm:=nm) (fun p hp=>(no p hp).1))]
      have nq:q1≠dp:=fun z=>by
        subst z
        rw [s1 _ _ hk] at hq1
        cases hq1
      refine q _ (fun b u nb e=>?_) ⟨⟨dx,?_⟩,⟨_,xg,Pl.snoc (p:=⟨nm,x,y,sd,lo,ph⟩) (pl.keep (fun b xs e=>?_)) ?_⟩,pic.w1,pic.w2,pic.h1,pic.h2,(by rw [List.length_append]; exact len)⟩
      · rw [xm nb,xm (xp (s1 _ _ e) hq1)]
        exact s1 _ _ e
      · rw [xm (xab hp1 hk1 (fun z=>nomatch z))]
        exact hp1
      · have e':=s1 _ _ e
        rw [xm (xab e' (s1 _ _ hk) (fun z=>nomatch z)),xm (xp e' hq1)]
        exact e'
      · rw [xm nq]
        exact xg
    · refine ⟨_,rfl,rfl,_,rfl,ifN (by rfl) ⟨_,rfl,?_⟩⟩
      refine ⟨_,rfl,nm,rfl,hn,true,rfl,iteF ?_⟩
      refine ⟨_,rfl,a,dx,_,rfl,hp,xa6 (by decide +kernel),_,rfl,_,rfl,a,dp,do_,pw,ph,ps,x,y,rfl,pic,x1,x2,y1,y2,?_⟩
      refine ⟨_,rfl,_,_,rfl,.inl ⟨_,_,true,.str _,rfl,xa8,true,rfl,iteF ⟨_,rfl,.inr sd,rfl,false,(by rw [hsd']; rfl),iteF ?_⟩⟩⟩
      refine ⟨_,rfl,_,rfl,a,_,dx,_,_,rfl,hp,T.c_j,T.n_bc,lkH,lo,1,ph,rfl,l1,(by omega),true,rfl,iteF ⟨_,rfl,_,rfl,_,rfl,a,_,dx,_,_,rfl,hp,T.c_j,T.n_bc,lkH,hi,lo,ph,rfl,(by omega),(by omega),true,rfl,iteF ?_⟩⟩
      refine ⟨_,rfl,_,rfl,a,_,dx,_,_,rfl,hp,T.c_j,T.n_bd,lkP,dp,none,rfl,(by rw [← pl.no (nm:=nm) (fun p hp=>(no p hp).1)]; exact DGet.k (k:=.inr nm) hk),false,rfl,iteF ?_⟩
      refine ⟨_,rfl,a,_,dx,_,_,rfl,hp,T.c_j,T.n_bd,lkP,dp,kvs,rfl,hk,_,_,rfl,rfl,_,rfl,ifN (decide_eq_false (by have:=pl.len; omega)) ?_⟩
      refine ⟨_,rfl,a,dx,_,rfl,hp,xa6 (by decide +kernel),_,rfl,_,rfl,_,rfl,a,dp,do_,pw,ph,ps,nm,x,y,rfl,pic,fun p hp _=>(no p hp).2,fun H1 s1=>?_⟩
      refine ⟨_,rfl,_,rfl,_,rfl,_,rfl,_,rfl,(by show 5≤sizeLine; decide),fun q1 hq1=>?_⟩
      have hp1:upd H1 q1 (.tup [.int x,.int y,.str sd,.int lo,.int hi]) a = some (.ins t.C_j dx (picF pw ph dp do_)):=by rw [xm (xp (s1 _ _ hp) hq1)]; exact s1 _ _ hp
      have hk1:upd H1 q1 (.tup [.int x,.int y,.str sd,.int lo,.int hi]) dp = some (.dK kvs):=by rw [xm (xp (s1 _ _ hk) hq1)]; exact s1 _ _ hk
      refine ⟨_,rfl,a,_,dx,_,_,rfl,hp1,T.c_j,T.n_bd,lkP,_,rfl,dp,_,rfl,DPut.k (k:=.inr nm) hk1 (Nat.lt_trans (by have:=pl.len; omega:kvs.length < 12) (by decide)),?_⟩
      rw [xe8 (.ref q1) (pl.no (nm:=nm) (fun p hp=>(no p hp).1))]
      have nq:q1≠dp:=fun z=>by
        subst z
        rw [s1 _ _ hk] at hq1
        cases hq1
      refine q _ (fun b u nb e=>?_) ⟨⟨dx,?_⟩,⟨_,xg,Pl.snoc (p:=⟨nm,x,y,sd,lo,hi⟩) (pl.keep (fun b xs e=>?_)) ?_⟩,pic.w1,pic.w2,pic.h1,pic.h2,(by rw [List.length_append]; exact len)⟩
      · rw [xm nb,xm (xp (s1 _ _ e) hq1)]
        exact s1 _ _ e
      · rw [xm (xab hp1 hk1 (fun z=>nomatch z))]
        exact hp1
      · have e':=s1 _ _ e
        rw [xm (xab e' (s1 _ _ hk) (fun z=>nomatch z)),xm (xp e' hq1)]
        exact e'
      · rw [xm nq]
        exact xg
end
end S06
set_option maxRecDepth 100000
set_option maxHeartbeats 4000000
namespace S06
open PySem L2 XL PyProof.Rows
theorem lkO {w h:Int} {dp do_:Addr}:(picF w h dp do_).lookup ("opened":Str) = some (.ref do_):=by
  unfold picF
  rw [List.lookup_cons,show (("opened":Str) == "width") = false from by decide +kernel]
  show List.lookup ("opened":Str) [("height",V.int h),("placed",V.ref dp),("opened",V.ref do_)] = _
  rw [List.lookup_cons,show (("opened":Str) == "height") = false from by decide +kernel]
  show List.lookup ("opened":Str) [("placed",V.ref dp),("opened",V.ref do_)] = _
  rw [List.lookup_cons,show (("opened":Str) == "placed") = false from by decide +kernel]
  show List.lookup ("opened":Str) [("opened",V.ref do_)] = _
  rw [List.lookup_cons,show (("opened":Str) == "opened") = true from by decide +kernel]
abbrev Seat:=Bool × Int
def xah (s:Seat):List Key:=[.inr (xv s.1),.inl s.2]
def xc5 (s:Seat):List V:=[.str (xv s.1),.int s.2]
theorem xcu {a b:Bool} (h:xv a = xv b):a = b:=by
  cases a <;> cases b <;> first | rfl | exact absurd h (by decide +kernel)
theorem xeh {s t:Seat} (h:xah s = xah t):s = t:=by
  simp only [xah,List.cons.injEq,Sum.inr.injEq,Sum.inl.injEq] at h
  exact Prod.ext (xcu h.1) h.2.1
def Sts (H:Hp) (do_:Addr) (ss:List Seat):Prop:=∃ kvs:List (List Key × V),H do_ = some (.dT kvs)∧kvs.map (·.1) = ss.map xah∧ss.Nodup∧ss.length≤32
theorem Sts.same {H H':Hp} {do_:Addr} {ss:List Seat} (s:Same H H') (h:Sts H do_ ss):Sts H' do_ ss:=let ⟨k,e,r⟩:=h; ⟨k,s _ _ e,r⟩
theorem xjr {kvs:List (List Key × V)} {ss:List Seat} (e:kvs.map (·.1) = ss.map xah) {s:Seat} (h:s ∉ ss):valV kvs (xah s) = none:=by
  cases z:valV kvs (xah s) with
  | none=>rfl
  | some v =>
    obtain ⟨i,hi⟩:=xge z
    have m:xah s ∈ kvs.map (·.1):=List.mem_map.mpr ⟨_,List.mem_of_getElem? hi,rfl⟩
    rw [e] at m
    obtain ⟨t,ht,et⟩:=List.mem_map.mp m
    exact absurd ht (by rw [xeh et]; exact h)
theorem xij {kvs:List (List Key × V)} {ss:List Seat} (e:kvs.map (·.1) = ss.map xah) {s:Seat} (h:s ∈ ss):∃ v,valV kvs (xah s) = some v:=by
  cases z:valV kvs (xah s) with
  | some v=>exact ⟨v,rfl⟩
  | none =>
    have m:xah s ∈ kvs.map (·.1):=by rw [e]; exact List.mem_map.mpr ⟨s,h,rfl⟩
    obtain ⟨p,hp,ep⟩:=List.mem_map.mp m
    have a:=xdf (xah s) kvs
    rw [z] at a
    have:(kvs.any fun kv=>decide (kv.1 = xah s)) = true:=List.any_eq_true.mpr ⟨p,hp,by simpa using ep⟩
    rw [this] at a
    cases a
inductive xam (H:Hp):List Seat→List Addr→Prop
  | nil:xam H [] []
  | cons {s:Seat} {q:Addr} {ss:List Seat} {qs:List Addr} (h:H q = some (.tup (xc5 s))) (r:xam H ss qs):xam H (s :: ss) (q :: qs)
theorem xam.keep {H H':Hp} (k:Tups H H') {ss:List Seat} {qs:List Addr} (h:xam H ss qs):xam H' ss qs:=by
  induction h with
  | nil=>exact .nil
  | cons h _ ih=>exact .cons (k _ _ h) ih
theorem xam.len {H:Hp} {ss:List Seat} {qs:List Addr} (h:xam H ss qs):qs.length = ss.length:=by
  induction h with
  | nil=>rfl
  | cons _ _ ih=>simp [ih]
def xcg (s t:Seat):Prop:=(s.1 = true∧t.1 = false)∨(s.1 = t.1∧s.2 < t.2)
theorem xhc {s t:Seat} (h:lexK (xah s) (xah t) = true):xcg s t:=by
  obtain ⟨a,i⟩:=s
  obtain ⟨b,j⟩:=t
  unfold xah at h
  unfold lexK at h
  by_cases e:xv a = xv b
  · rw [if_pos (by rw [e])] at h
    unfold lexK at h
    by_cases e2:i = j
    · rw [if_pos (by rw [e2])] at h
      unfold lexK at h
      cases h
    · rw [if_neg (fun z=>e2 (Sum.inl.inj z))] at h
      exact .inr ⟨xcu e,of_decide_eq_true h⟩
  · rw [if_neg (fun z=>e (Sum.inr.inj z))] at h
    cases a <;> cases b
    · exact absurd rfl e
    · exact absurd h (by show ¬ xch (.inr (xv false)) (.inr (xv true)) = true; decide +kernel)
    · exact .inl ⟨rfl,rfl⟩
    · exact absurd rfl e
def unK:List Key→Seat
  | [.inr s,.inl r]=>(decide (s = "left"),r)
  | _=>(true,0)
theorem xd8 (s:Seat):unK (xah s) = s:=by
  obtain ⟨b,r⟩:=s
  cases b
  · show (decide (("right":Str) = "left"),r) = _
    rw [decide_eq_false (by decide +kernel)]
  · show (decide (("left":Str) = "left"),r) = _
    rw [decide_eq_true rfl]
theorem xkw {kvs:List (List Key × V)} {ss:List Seat} (e:kvs.map (·.1) = ss.map xah) {s:Seat}:(xc9 kvs (xah s)).map (·.1) = (ss.filter fun t=>decide (t≠s)).map xah:=by
  have h1:(xc9 kvs (xah s)).map (·.1) = (kvs.map (·.1)).filter fun k=>decide (k≠xah s):=by
    unfold xc9
    rw [List.filter_map]
    rfl
  rw [h1,e,List.filter_map]
  congr 1
  refine List.filter_congr fun t _=>?_
  show decide (xah t≠xah s) = decide (t≠s)
  by_cases c:t = s
  · subst c
    simp
  · have c':xah t≠xah s:=fun z=>c (xeh z)
    simp [c,c']
def xnq (t:Adr):Sp:=fun vs H Q _=>∃ (a dp do_:Addr) (pw ph:Int) (ps:List Pt) (ss:List Seat) (b:Bool) (r:Int),vs = [.ref a,.str (xv b),.int r]∧Pic t H a dp do_ pw ph ps∧Sts H do_ ss∧1≤r∧r≤ph∧(b,r) ∉ ss∧ss.length < 32 ∧
  ∀ H',(∀ c u,c≠do_→H c = some u→H' c = some u)→Pic t H' a dp do_ pw ph ps→Sts H' do_ (ss ++ [(b,r)])→Q .non H'
def xox (t:Adr):Sp:=fun vs H Q _=>∃ (a dp do_:Addr) (pw ph:Int) (ps:List Pt) (ss:List Seat) (b:Bool) (r:Int),vs = [.ref a,.str (xv b),.int r]∧Pic t H a dp do_ pw ph ps∧Sts H do_ ss∧1≤r∧r≤ph∧(b,r) ∈ ss ∧
  ∀ H',(∀ c u,c≠do_→H c = some u→H' c = some u)→Pic t H' a dp do_ pw ph ps→Sts H' do_ (ss.filter fun s=>decide (s≠(b,r)))→Q .non H'
def xmp (t:Adr):Sp:=fun vs H Q _=>∃ (a dp do_:Addr) (pw ph:Int) (ps:List Pt) (ss:List Seat),vs = [.ref a]∧Pic t H a dp do_ pw ph ps∧Sts H do_ ss ∧
  ∀ (l:Addr) (ss':List Seat) (qs:List Addr),H l = none→xam H ss' qs→ss'.Perm ss→ss'.Pairwise xcg→Q (.ref l) (upd H l (.lst (qs.map V.ref)))
theorem Pic.but {t:Adr} {H H':Hp} {a dp do_:Addr} {w h:Int} {ps:List Pt} {kvs:List (List Key × V)} (e:H do_ = some (.dT kvs)) (s:∀ c u,c≠do_→H c = some u→H' c = some u) (p:Pic t H a dp do_ w h ps):Pic t H' a dp do_ w h ps :=
  ⟨let ⟨dx,x⟩:=p.ins; ⟨dx,s _ _ (xab x e (fun z=>nomatch z)) x⟩,let ⟨k,x,q⟩:=p.pl; ⟨k,s _ _ (xab x e (fun z=>nomatch z)) x,q.keep fun b xs x=>s _ _ (xab x e (fun z=>nomatch z)) x⟩,p.w1,p.w2,p.h1,p.h2,p.len⟩
section
variable {P:Program} {w:World} {K:PySem.W.Frag} {mg:Str→Option Value} {base:Heap} {t:Adr}
theorem ok_f (T:Txt w K mg t):FnOk true P w K mg base (CXo P w) 5 t.f_f t.d_f ["self", "side", "row"] (xnq t):=by
  refine T.F_f.okn (k:=4) sc_f (fun vs H Q E h=>?_) (fun cdv A outer s H vs Q E hr h=>?_)
  · obtain ⟨a,dp,do_,pw,ph,ps,ss,b,r,rfl,_⟩:=h
    rfl
  · obtain ⟨a,dp,do_,pw,ph,ps,ss,b,r,rfl,h⟩:=h
    refine ⟨_,xj (xav (xay (pv 0) T.c_j T.m_c (ok_c T) (hr.mono (by decide)) T.b_c .nil xu (xf (pv 1) (xf (pv 2) (xh)))))
      (xj (xaa (xei (xhh (xb7 hr) (xa1 (xf (pv 1) (xf (pv 2) (xh)))) (xao (pv 0) rfl))) (xn (xbk)) (xw))
      (xn (xf8 (xb7 hr) (xao (pv 0) rfl) (xa1 (xf (pv 1) (xf (pv 2) (xh)))) (xeg) rfl))),?_⟩
    obtain ⟨pic,st,r1,r2,no,len,q⟩:=h
    obtain ⟨⟨dx,hp⟩,_,_⟩:=id pic
    obtain ⟨kvs,hk,ek,nd,l32⟩:=id st
    refine ⟨_,rfl,a,dx,_,rfl,hp,xa6 (by decide +kernel),_,rfl,_,rfl,a,dp,do_,pw,ph,ps,b,r,rfl,pic,r1,r2,fun H1 s1=>?_⟩
    refine ⟨_,rfl,_,rfl,(by show 2≤sizeLine; decide),fun q1 hq1=>?_⟩
    have s2:Same H1 (upd H1 q1 (.tup [.str (xv b),.int r])):=xo (Same.refl _) hq1
    have g2:upd H1 q1 (.tup [.str (xv b),.int r]) q1 = some (.tup [.str (xv b),.int r]):=xg
    revert s2 g2
    generalize upd H1 q1 (.tup [.str (xv b),.int r]) = H2
    intro s2 g2
    have hk2:=s2 _ _ (s1 _ _ hk)
    have hp2:=s2 _ _ (s1 _ _ hp)
    have n0:valV kvs (xah (b,r)) = none:=xjr ek no
    refine ⟨_,rfl,a,_,dx,_,_,rfl,hp2,T.c_j,T.n_bf,lkO,do_,none,rfl,(by rw [← n0]; exact DGet.t (k:=xah (b,r)) hk2 g2),false,rfl,iteF ?_⟩
    refine ⟨_,rfl,a,_,dx,_,_,rfl,hp2,T.c_j,T.n_bf,lkO,_,rfl,_,rfl,(by show 2≤sizeLine; decide),fun q3 hq3=>?_⟩
    have s3:Same H2 (upd H2 q3 (.tup [.str (xv b),.int r])):=xo (Same.refl _) hq3
    have g3:upd H2 q3 (.tup [.str (xv b),.int r]) q3 = some (.tup [.str (xv b),.int r]):=xg
    revert s3 g3
    generalize upd H2 q3 (.tup [.str (xv b),.int r]) = H3
    intro s3 g3
    have kl:kvs.length = ss.length:=by
      have:=congrArg List.length ek
      simpa using this
    refine ⟨do_,_,rfl,DPut.t (k:=xah (b,r)) (s3 _ _ hk2) g3 (Nat.lt_trans (by omega:kvs.length < 33) (by decide)),?_⟩
    have bt:∀ c u,c≠do_→H c = some u→upd H3 do_ (.dT (putK kvs (xah (b,r)) (.bl true))) c = some u:=fun c u nc e=>by
      rw [xm nc]
      exact s3 _ _ (s2 _ _ (s1 _ _ e))
    refine q _ bt (Pic.but hk bt pic) ⟨_,xg,?_,?_,?_⟩
    · rw [xe8 _ n0,List.map_append,List.map_append,ek]
      rfl
    · rw [List.nodup_append]
      exact ⟨nd,by simp,fun x hx y hy=>by rw [List.mem_singleton.mp hy]; exact fun e=>no (e ▸ hx)⟩
    · rw [List.length_append]
      show ss.length + 1≤32
      omega
theorem ok_h (T:Txt w K mg t):FnOk true P w K mg base (CXo P w) 5 t.f_h t.d_h ["self", "side", "row"] (xox t):=by
  refine T.F_h.okn (k:=4) sc_h (fun vs H Q E h=>?_) (fun cdv A outer s H vs Q E hr h=>?_)
  · obtain ⟨a,dp,do_,pw,ph,ps,ss,b,r,rfl,_⟩:=h
    rfl
  · obtain ⟨a,dp,do_,pw,ph,ps,ss,b,r,rfl,h⟩:=h
    refine ⟨_,xj (xav (xay (pv 0) T.c_j T.m_c (ok_c T) (hr.mono (by decide)) T.b_c .nil xu (xf (pv 1) (xf (pv 2) (xh)))))
      (xj (xaa (xei (xgr (xb7 hr) (xa1 (xf (pv 1) (xf (pv 2) (xh)))) (xao (pv 0) rfl))) (xn (xbk)) (xw))
      (xn (xav (xla (xb7 hr) (xao (pv 0) rfl) (xa1 (xf (pv 1) (xf (pv 2) (xh)))) ⟨rfl,rfl,rfl,rfl⟩)))),?_⟩
    obtain ⟨pic,st,r1,r2,yes,q⟩:=h
    obtain ⟨⟨dx,hp⟩,_,_⟩:=id pic
    obtain ⟨kvs,hk,ek,nd,l32⟩:=id st
    obtain ⟨v,hv⟩:=xij ek yes
    refine ⟨_,rfl,a,dx,_,rfl,hp,xa6 (by decide +kernel),_,rfl,_,rfl,a,dp,do_,pw,ph,ps,b,r,rfl,pic,r1,r2,fun H1 s1=>?_⟩
    refine ⟨_,rfl,_,rfl,(by show 2≤sizeLine; decide),fun q1 hq1=>?_⟩
    have s2:Same H1 (upd H1 q1 (.tup [.str (xv b),.int r])):=xo (Same.refl _) hq1
    have g2:upd H1 q1 (.tup [.str (xv b),.int r]) q1 = some (.tup [.str (xv b),.int r]):=xg
    revert s2 g2
    generalize upd H1 q1 (.tup [.str (xv b),.int r]) = H2
    intro s2 g2
    have hk2:=s2 _ _ (s1 _ _ hk)
    have hp2:=s2 _ _ (s1 _ _ hp)
    refine ⟨_,rfl,a,_,dx,_,_,rfl,hp2,T.c_j,T.n_bf,lkO,do_,some v,rfl,(by rw [← hv]; exact DGet.t (k:=xah (b,r)) hk2 g2),false,rfl,iteF ?_⟩
    refine ⟨_,rfl,a,_,dx,_,_,rfl,hp2,T.c_j,T.n_bf,lkO,do_,rfl,.inr ⟨_,.inl hk2⟩,_,rfl,_,rfl,(by show 2≤sizeLine; decide),fun q3 hq3=>?_⟩
    have s3:Same H2 (upd H2 q3 (.tup [.str (xv b),.int r])):=xo (Same.refl _) hq3
    have g3:upd H2 q3 (.tup [.str (xv b),.int r]) q3 = some (.tup [.str (xv b),.int r]):=xg
    revert s3 g3
    generalize upd H2 q3 (.tup [.str (xv b),.int r]) = H3
    intro s3 g3
    refine ⟨kvs,xah (b,r),q3,v,s3 _ _ hk2,rfl,g3,hv,?_⟩
    have bt:∀ c u,c≠do_→H c = some u→upd H3 do_ (.dT (xc9 kvs (xah (b,r)))) c = some u:=fun c u nc e=>by
      rw [xm nc]
      exact s3 _ _ (s2 _ _ (s1 _ _ e))
    refine q _ bt (Pic.but hk bt pic) ⟨_,xg,?_,nd.filter _,Nat.le_trans (List.length_filter_le _ _) l32⟩
    exact xkw ek
theorem ok_u (T:Txt w K mg t):FnOk true P w K mg base (CXo P w) 1 t.f_u t.d_u ["self"] (xmp t):=by
  refine T.F_u.okn (k:=0) sc_u (fun vs H Q E h=>?_) (fun cdv A outer s H vs Q E hr h=>?_)
  · obtain ⟨a,dp,do_,pw,ph,ps,ss,rfl,_⟩:=h
    rfl
  · obtain ⟨a,dp,do_,pw,ph,ps,ss,rfl,h⟩:=h
    refine ⟨_,xn (xar (xz (xhn rfl) rfl T.n_sorted PyProof.Rows.Boot.«sorted» (xf (xao (pv 0) rfl) (xh)))),?_⟩
    obtain ⟨pic,st,q⟩:=h
    obtain ⟨⟨dx,hp⟩,_,_⟩:=id pic
    obtain ⟨kvs,hk,ek,nd,l32⟩:=id st
    have kl:kvs.length = ss.length:=by
      have:=congrArg List.length ek
      simpa using this
    refine ⟨_,rfl,a,_,dx,_,_,rfl,hp,T.c_j,T.n_bf,lkO,do_,kvs,[false,true],rfl,hk,by omega,fun p hp'=>?_,by decide,fun l ts fr tm pm pw'=>?_⟩
    · have m:p.1 ∈ kvs.map (·.1):=List.mem_map.mpr ⟨p,hp',rfl⟩
      rw [ek] at m
      obtain ⟨s,_,e⟩:=List.mem_map.mp m
      rw [← e]
      rfl
    rw [ek] at pm
    have back:∀ t ∈ ts,xah (unK t.1) = t.1:=fun t ht=>by
      obtain ⟨s,_,e⟩:=List.mem_map.mp (pm.mem_iff.mp (List.mem_map.mpr ⟨t,ht,rfl⟩))
      rw [← e,xd8]
    have z:=q l ((ts.map (·.1)).map unK) (ts.map (·.2)) fr ?_ ?_ ?_
    · rw [List.map_map] at z
      exact z
    · clear pm pw'
      induction ts with
      | nil=>exact .nil
      | cons t ts ih =>
        refine .cons ?_ (ih (fun x hx=>tm x (List.mem_cons_of_mem _ hx)) fun x hx=>back x (List.mem_cons_of_mem _ hx))
        have e:=tm t List.mem_cons_self
        rw [← back t List.mem_cons_self] at e
        exact e
    · have z2:=pm.map unK
      have e2:(ss.map xah).map unK = ss:=by
        rw [List.map_map,show (unK ∘ xah) = id from funext xd8]
        exact List.map_id _
      rw [e2] at z2
      exact z2
    · rw [List.pairwise_map] at pw'
      rw [List.map_map,List.pairwise_map]
      refine pw'.imp_of_mem fun {x y} hx hy hxy=>xhc ?_
      show lexK (xah (unK x.1)) (xah (unK y.1)) = true
      rw [back x hx,back y hy]
      exact hxy
end
end S06
set_option maxRecDepth 100000
set_option maxHeartbeats 4000000
namespace S06
open PySem L2 XL PyProof.Rows
def scD:V→DV
  | .int i=>.int i
  | .bl b=>.bl b
  | .str s=>.str s
  | _=>.non
def scV:V→Bool
  | .int _=>true
  | .bl _=>true
  | .str _=>true
  | .non=>true
  | _=>false
inductive Thg (H:Hp):V→DV→Prop
  | non:Thg H .non .non
  | bl (b:Bool):Thg H (.bl b) (.bl b)
  | int (i:Int):Thg H (.int i) (.int i)
  | str (s:Str) (h:s.length≤1000):Thg H (.str s) (.str s)
  | lst {q:Addr} {xs:List V} (h:H q = some (.lst xs)) (f:xs.all scV = true):Thg H (.ref q) (.lst (xs.map scD))
  | tup {q:Addr} {xs:List V} (h:H q = some (.tup xs)) (f:xs.all scV = true):Thg H (.ref q) (.tup (xs.map scD))
theorem Thg.same {H H':Hp} (s:Same H H') {v:V} {d:DV} (h:Thg H v d):Thg H' v d:=by
  cases h with
  | non=>exact .non
  | bl b=>exact .bl b
  | int i=>exact .int i
  | str s h=>exact .str s h
  | lst h f=>exact .lst (s _ _ h) f
  | tup h f=>exact .tup (s _ _ h) f
theorem xpr {K:PySem.W.Frag} {H:Hp} {v:V} (h:scV v = true):Dv K H 0 v (scD v):=by
  cases v with
  | int i=>exact .int
  | bl b=>exact .bl
  | str s=>exact .str
  | non=>exact .non
  | _=>cases h
theorem xkk {K:PySem.W.Frag} {H:Hp} {xs:List V} (f:xs.all scV = true) (j:Nat) (x:V) (d:DV) (h1:xs[j]? = some x) (h2:(xs.map scD)[j]? = some d):Dv K H 0 x d:=by
  rw [List.getElem?_map,h1] at h2
  cases h2
  exact xpr (List.all_eq_true.mp f x (List.mem_of_getElem? h1))
theorem Thg.dv {K:PySem.W.Frag} {H:Hp} {v:V} {d:DV} (h:Thg H v d):Dv K H 1 v d:=by
  cases h with
  | non=>exact .non
  | bl b=>exact .bl
  | int i=>exact .int
  | str s h=>exact .str
  | lst h f=>exact .lst (SqL.of h) (by rw [List.length_map]) (xkk f)
  | tup h f=>exact .tup (SqT.of h) (by rw [List.length_map]) (xkk f)
def xa7:DV→Int→Int→Bool
  | .int i,lo,hi=>decide (lo≤i) && decide (i≤hi)
  | _,_,_=>false
theorem xem {d:DV} {lo hi:Int} (h:xa7 d lo hi = true):∃ i,d = .int i∧lo≤i∧i≤hi:=by
  cases d with
  | int i =>
    simp only [xa7,Bool.and_eq_true,decide_eq_true_eq] at h
    exact ⟨i,rfl,h.1,h.2⟩
  | _=>cases h
def intD:DV→Int
  | .int i=>i
  | _=>0
theorem xc8 {i lo hi:Int} (h1:lo≤i) (h2:i≤hi):xa7 (.int i) lo hi = true:=by
  simp [xa7,h1,h2]
theorem Thg.int_of {H:Hp} {v:V} {i:Int} (h:Thg H v (.int i)):v = .int i:=by cases h; rfl
theorem Thg.str_of {H:Hp} {v:V} {s:Str} (h:Thg H v (.str s)):v = .str s:=by cases h; rfl
def xl9:DV→Bool
  | .str s=>isNm s
  | _=>false
def xbq:DV→Option Bool
  | .str s=>if s = "left" then some true else if s = "right" then some false else none
  | _=>none
theorem xlk {d:DV} {b:Bool} (h:xbq d = some b):d = .str (xv b):=by
  cases d with
  | str s =>
    change (if s = "left" then some true else if s = "right" then some false else none) = some b at h
    by_cases c:s = "left"
    · rw [if_pos c] at h
      cases h
      rw [c]
      rfl
    · rw [if_neg c] at h
      by_cases c2:s = "right"
      · rw [if_pos c2] at h
        cases h
        rw [c2]
        rfl
      · rw [if_neg c2] at h
        cases h
  | _=>cases h
theorem xcb (b:Bool):xbq (.str (xv b)) = some b:=by
  cases b <;> decide +kernel
inductive Er where
  | noPoint (v0:V)
  | noCell (v0:V) (v1:V)
  | sameColumn (v0:V)
  | sameRow (v0:V)
  | noSide (v0:V)
  | noRow (v0:V)
def Er.cls (t:Adr):Er→Addr
  | .noPoint _=>t.C_l
  | .noCell _ _=>t.C_w
  | .sameColumn _=>t.C_b
  | .sameRow _=>t.C_n
  | .noSide _=>t.C_t
  | .noRow _=>t.C_ai
def Er.fs:Er→List (Str × V)
  | .noPoint v0=>[("name",v0)]
  | .noCell v0 v1=>[("x",v0),("y",v1)]
  | .sameColumn v0=>[("name",v0)]
  | .sameRow v0=>[("name",v0)]
  | .noSide v0=>[("side",v0)]
  | .noRow v0=>[("row",v0)]
def Er.told:Er→List V
  | .noPoint v0=>[.str "point",v0]
  | .noCell v0 v1=>[.str "cell",v0,v1]
  | .sameColumn v0=>[.str "column",v0]
  | .sameRow v0=>[.str "row",v0]
  | .noSide v0=>[.str "side",v0]
  | .noRow v0=>[.str "no row",v0]
def ErAt (t:Adr) (H:Hp) (e:Addr) (er:Er):Prop:=(er.fs = []∧H e = some (XO e (er.cls t) none))∨(er.fs≠[]∧∃ dx,H e = some (XO e (er.cls t) (some dx))∧H dx = some (XD dx er.fs))
def xbm (t:Adr) (H H':Hp) (e:Addr) (er:Er):Prop:=Same H H'∧ErAt t H' e er
theorem xbm.pre {t:Adr} {H H1 H':Hp} {e:Addr} {er:Er} (s:Same H H1) (h:xbm t H1 H' e er):xbm t H H' e er:=⟨s.trans h.1,h.2⟩
theorem ErAt.same {t:Adr} {H H':Hp} {e:Addr} {er:Er} (s:Same H H') (h:ErAt t H e er):ErAt t H' e er:=by
  rcases h with ⟨a,b⟩ | ⟨ne,dx,a,b⟩
  · exact .inl ⟨a,s _ _ b⟩
  · exact .inr ⟨ne,dx,s _ _ a,s _ _ b⟩
def Outs (t:Adr) (H:Hp) (out:Option Er) (E:XK) (D:Prop):Prop:=(∀ er,out = some er→∀ e H',xbm t H H' e er→E e (er.cls t) H')∧(out = none→D)
def spX1 (C:Addr) (f:Str):Sp:=fun vs H Q _=>∃ (e:Addr) (v:V),vs = [.ref e,v]∧H e = some (XN e C none)∧∀ dx,H dx = none→Q .non (upd (upd H dx (XD dx [(f,v)])) e (XN e C (some dx)))
def spX2 (C:Addr) (f g:Str):Sp:=fun vs H Q _=>∃ (e:Addr) (v w:V),vs = [.ref e,v,w]∧H e = some (XN e C none)∧∀ dx,H dx = none→Q .non (upd (upd (upd H dx (XD dx [(f,v)])) e (XN e C (some dx))) dx (XD dx (putF g w [(f,v)])))
theorem lk_1 {f:Str} {v:V} {r:List (Str × V)}:((f,v) :: r).lookup f = some v:=by simp
theorem lk_2 {f g:Str} {v w:V} (h:(g == f) = false):([(f,v),(g,w)]:List (Str × V)).lookup g = some w:=by
  rw [List.lookup_cons,h]
  simp
theorem xbu {t:Adr} {H:Hp} {e dx C:Addr} {er:Er} {fs:List (Str × V)} (hc:er.cls t = C) (hf:er.fs = fs) (he:H e = none) (hdx:upd H e (XN e C none) dx = none) (hn:fs≠[]:=by (intro z; cases z)):xbm t H (upd (upd (upd (upd H e (XN e C none)) dx (XD dx fs)) e (XN e C (some dx))) e (XO e C (some dx))) e er:=by
  have ne:dx≠e:=fun z=>by rw [z,xg] at hdx; cases hdx
  rw [xm ne] at hdx
  subst hc hf
  refine ⟨fun y o q=>?_,.inr ⟨hn,dx,xg,?_⟩⟩
  · rw [xm (xp q he),xm (xp q he),xm (xp q hdx),xm (xp q he)]
    exact q
  · rw [xm ne,xm ne,xg]
theorem xii {t:Adr} {H:Hp} {e dx C:Addr} {er:Er} {fs fs0:List (Str × V)} (hc:er.cls t = C) (hf:er.fs = fs) (he:H e = none) (hdx:upd H e (XN e C none) dx = none) (hn:fs≠[]:=by (intro z; cases z)):xbm t H (upd (upd (upd (upd (upd H e (XN e C none)) dx (XD dx fs0)) e (XN e C (some dx))) dx (XD dx fs)) e (XO e C (some dx))) e er:=by
  have ne:dx≠e:=fun z=>by rw [z,xg] at hdx; cases hdx
  rw [xm ne] at hdx
  subst hc hf
  refine ⟨fun y o q=>?_,.inr ⟨hn,dx,xg,?_⟩⟩
  · rw [xm (xp q he),xm (xp q hdx),xm (xp q he),xm (xp q hdx),xm (xp q he)]
    exact q
  · rw [xm ne,xg]
theorem xin {H:Hp} {e dx C:Addr} {a b c:HO} (hdx:upd H e a dx = none):upd (upd (upd (upd H e a) dx b) e (XN e C (some dx))) dx c e = some (XN e C (some dx)):=by
  have ne:dx≠e:=fun z=>by rw [z,xg] at hdx; cases hdx
  rw [xm (Ne.symm ne),xg]
section
variable {P:Program} {w:World} {K:PySem.W.Frag} {mg:Str→Option Value} {base:Heap} {t:Adr}
theorem ok_af (T:Txt w K mg t):FnOk true P w K mg base (CXo P w) 1 t.f_af t.d_af ["self", "name"] (spX1 t.C_l "name"):=by
  refine T.F_af.okn (k:=0) sc_af (fun vs H Q E h=>?_) (fun cdv A outer s H vs Q E hr h=>?_)
  · obtain ⟨e,v,rfl,_⟩:=h
    rfl
  · obtain ⟨e,v,rfl,h⟩:=h
    refine ⟨_,xn (xcl (pv 0) (pv 1) rfl),?_⟩
    obtain ⟨he,q⟩:=h
    exact ⟨_,rfl,_,rfl,e,t.C_l,rfl,T.x_l,T.n_c6,.inl ⟨he,q⟩⟩
theorem ok_ak (T:Txt w K mg t):FnOk true P w K mg base (CXo P w) 1 t.f_ak t.d_ak ["self", "x", "y"] (spX2 t.C_w "x" "y"):=by
  refine T.F_ak.okn (k:=0) sc_ak (fun vs H Q E h=>?_) (fun cdv A outer s H vs Q E hr h=>?_)
  · obtain ⟨e,v,w2,rfl,_⟩:=h
    rfl
  · obtain ⟨e,v,w2,rfl,h⟩:=h
    refine ⟨_,xj (xcl (pv 0) (pv 1) rfl)
      (xn (xcl (pv 0) (pv 2) rfl)),?_⟩
    obtain ⟨he,q⟩:=h
    refine ⟨_,rfl,_,rfl,e,t.C_w,rfl,T.x_w,T.n_eo,.inl ⟨he,fun dx hdx=>?_⟩⟩
    have ne:dx≠e:=fun z=>by rw [z,he] at hdx; cases hdx
    exact ⟨_,rfl,_,rfl,e,t.C_w,rfl,T.x_w,T.n_en,.inr ⟨dx,_,xg,(by rw [xm ne]; exact xg),(by show 1 < 1000; decide),q dx hdx⟩⟩
theorem ok_r (T:Txt w K mg t):FnOk true P w K mg base (CXo P w) 1 t.f_r t.d_r ["self", "name"] (spX1 t.C_b "name"):=by
  refine T.F_r.okn (k:=0) sc_r (fun vs H Q E h=>?_) (fun cdv A outer s H vs Q E hr h=>?_)
  · obtain ⟨e,v,rfl,_⟩:=h
    rfl
  · obtain ⟨e,v,rfl,h⟩:=h
    refine ⟨_,xn (xcl (pv 0) (pv 1) rfl),?_⟩
    obtain ⟨he,q⟩:=h
    exact ⟨_,rfl,_,rfl,e,t.C_b,rfl,T.x_b,T.n_bs,.inl ⟨he,q⟩⟩
theorem ok_ag (T:Txt w K mg t):FnOk true P w K mg base (CXo P w) 1 t.f_ag t.d_ag ["self", "name"] (spX1 t.C_n "name"):=by
  refine T.F_ag.okn (k:=0) sc_ag (fun vs H Q E h=>?_) (fun cdv A outer s H vs Q E hr h=>?_)
  · obtain ⟨e,v,rfl,_⟩:=h
    rfl
  · obtain ⟨e,v,rfl,h⟩:=h
    refine ⟨_,xn (xcl (pv 0) (pv 1) rfl),?_⟩
    obtain ⟨he,q⟩:=h
    exact ⟨_,rfl,_,rfl,e,t.C_n,rfl,T.x_n,T.n_c8,.inl ⟨he,q⟩⟩
theorem ok_al (T:Txt w K mg t):FnOk true P w K mg base (CXo P w) 1 t.f_al t.d_al ["self", "side"] (spX1 t.C_t "side"):=by
  refine T.F_al.okn (k:=0) sc_al (fun vs H Q E h=>?_) (fun cdv A outer s H vs Q E hr h=>?_)
  · obtain ⟨e,v,rfl,_⟩:=h
    rfl
  · obtain ⟨e,v,rfl,h⟩:=h
    refine ⟨_,xn (xcl (pv 0) (pv 1) rfl),?_⟩
    obtain ⟨he,q⟩:=h
    exact ⟨_,rfl,_,rfl,e,t.C_t,rfl,T.x_t,T.n_dq,.inl ⟨he,q⟩⟩
theorem ok_ao (T:Txt w K mg t):FnOk true P w K mg base (CXo P w) 1 t.f_ao t.d_ao ["self", "row"] (spX1 t.C_ai "row"):=by
  refine T.F_ao.okn (k:=0) sc_ao (fun vs H Q E h=>?_) (fun cdv A outer s H vs Q E hr h=>?_)
  · obtain ⟨e,v,rfl,_⟩:=h
    rfl
  · obtain ⟨e,v,rfl,h⟩:=h
    refine ⟨_,xn (xcl (pv 0) (pv 1) rfl),?_⟩
    obtain ⟨he,q⟩:=h
    exact ⟨_,rfl,_,rfl,e,t.C_ai,rfl,T.x_ai,T.n_eb,.inl ⟨he,q⟩⟩
end
end S06
set_option maxRecDepth 100000
set_option maxHeartbeats 4000000
namespace S06
open PySem L2 XL PyProof.Rows
def spWT:Sp:=fun vs H Q _=>∃ (x:V) (d:DV) (lo hi:Int),vs = [x,.int lo,.int hi]∧Thg H x d∧Q (.bl (xa7 d lo hi)) H
def spNT:Sp:=fun vs H Q _=>∃ (x:V) (d:DV),vs = [x]∧Thg H x d∧Q (.bl (xl9 d)) H
def xca (d:DV) (x:V):Option Er:=match xbq d with | some _=>none | none=>some (.noSide x)
theorem xen {d:DV} {x:V} {b:Bool} (h:xbq d = some b):xca d x = none:=by unfold xca; rw [h]
theorem xbw {d:DV} {x:V} (h:xbq d = none):xca d x = some (.noSide x):=by unfold xca; rw [h]
def xmq (t:Adr):Sp:=fun vs H Q E=>∃ (x:V) (d:DV) (n:Int),vs = [x,.int n]∧Thg H x d∧Outs t H (xca d x) E (∀ b p H',xbq d = some b→H p = none→xhd t H' p b n→Same H H'→Q (.ref p) H')
section
variable {P:Program} {w:World} {K:PySem.W.Frag} {mg:Str→Option Value} {base:Heap} {t:Adr}
theorem okT_aa (T:Txt w K mg t):FnOk true P w K mg base (CXo P w) 1 t.f_aa t.d_aa ["thing", "low", "high"] (spWT):=by
  refine T.F_aa.okn (k:=0) sc_aa (fun vs H Q E h=>?_) (fun cdv A outer s H vs Q E hr h=>?_)
  · obtain ⟨x,d,lo,hi,rfl,_⟩:=h
    rfl
  · obtain ⟨x,d,lo,hi,rfl,h⟩:=h
    refine ⟨_,xn (xar (xbl (xz xaf rfl T.n_isinstance boot_isinstance (xf (pv 0) (xf (xbj (v:=.ty "int") rfl T.n_int boot_int rfl) (xh)))) (xbl (xhy (xz xaf rfl T.n_isinstance boot_isinstance (xf (pv 0) (xf (xbj (v:=.ty "bool") rfl T.n_bool boot_bool rfl) (xh))))) (xb0 (xb9 xct xct (pv 1) (pv 0) (pv 2)))))),?_⟩
    obtain ⟨tx,q⟩:=h
    cases tx with
    | int i =>
      refine ⟨_,rfl,_,_,rfl,.inl ⟨_,_,true,.int i,rfl,xa8,true,rfl,iteT ?_⟩⟩
      refine ⟨_,rfl,_,_,rfl,.inl ⟨_,_,false,.int i,rfl,(by rfl),false,rfl,true,rfl,iteT ?_⟩⟩
      refine ⟨_,rfl,_,rfl,_,_,rfl,rfl,_,rfl,ite2 (fun c=>?_) (fun c=>?_)⟩
      · refine ⟨_,rfl,_,_,rfl,rfl,?_⟩
        change Q (.bl (decide (lo≤i) && decide (i≤hi))) H at q
        rw [c,Bool.true_and] at q
        exact q
      · change Q (.bl (decide (lo≤i) && decide (i≤hi))) H at q
        rw [Bool.eq_false_iff.mpr c,Bool.false_and] at q
        exact q
    | bl b =>
      refine ⟨_,rfl,_,_,rfl,.inl ⟨_,_,true,.bl b,rfl,(by rfl),true,rfl,iteT ?_⟩⟩
      exact ⟨_,rfl,_,_,rfl,.inl ⟨_,_,true,.bl b,rfl,xa8,true,rfl,false,rfl,iteF q⟩⟩
    | str y=>exact ⟨_,rfl,_,_,rfl,.inl ⟨_,_,false,.str y,rfl,(by rfl),false,rfl,iteF q⟩⟩
    | non=>exact ⟨_,rfl,_,_,rfl,.inl ⟨_,_,false,.non,rfl,(by rfl),false,rfl,iteF q⟩⟩
    | lst hq=>exact ⟨_,rfl,_,_,rfl,.inl ⟨_,_,false,.lst hq,rfl,(by rfl),false,rfl,iteF q⟩⟩
    | tup hq=>exact ⟨_,rfl,_,_,rfl,.inl ⟨_,_,false,.tup hq,rfl,(by rfl),false,rfl,iteF q⟩⟩
theorem okT_az (T:Txt w K mg t):FnOk true P w K mg base (CXo P w) 1 t.f_az t.d_az ["thing"] (spNT):=by
  refine T.F_az.okn (k:=0) sc_az (fun vs H Q E h=>?_) (fun cdv A outer s H vs Q E hr h=>?_)
  · obtain ⟨v,d,rfl,_⟩:=h
    rfl
  · obtain ⟨v,d,rfl,h⟩:=h
    refine ⟨_,xn (xar (xbl (xz xaf rfl T.n_isinstance boot_isinstance (xf (pv 0) (xf (xbj (v:=.ty "str") rfl T.n_str boot_str rfl) (xh)))) (xbl (xbv xbt (xz xej rfl T.n_len boot_len (xf (pv 0) (xh))) (xi) (xaj _)) (xb0 (xb9 xdq xdq (x9) (pv 0) (x9)))))),?_⟩
    obtain ⟨tx,q⟩:=h
    cases tx with
    | str x xl =>
      refine ⟨_,rfl,_,_,rfl,.inl ⟨_,_,true,.str x,rfl,xa8,true,rfl,iteT ?_⟩⟩
      refine ⟨_,rfl,_,rfl,(by first | exact Nat.lt_of_le_of_lt xl (by decide) | exact Nat.le_trans xl (by decide) | omega),rfl,_,rfl,ite2 (fun c=>?_) (fun c=>?_)⟩
      · have l1:x.length = 1:=by
          have z:(x.length:Int) = 1:=by simpa using c
          omega
        change Q (.bl (isNm x)) H at q
        unfold isNm at q
        rw [decide_eq_true l1,Bool.true_and] at q
        refine ⟨_,rfl,_,_,rfl,rfl,_,rfl,ite2 (fun d=>?_) (fun d=>?_)⟩
        · refine ⟨_,_,rfl,rfl,?_⟩
          rw [xje] at d
          rw [xmm]
          rw [d,Bool.true_and] at q
          exact q
        · rw [xje] at d
          rw [Bool.eq_false_iff.mpr d,Bool.false_and] at q
          exact q
      · have l1:¬ x.length = 1:=fun z=>c (by rw [z]; rfl)
        change Q (.bl (isNm x)) H at q
        unfold isNm at q
        rw [decide_eq_false l1,Bool.false_and] at q
        exact q
    | int i=>exact ⟨_,rfl,_,_,rfl,.inl ⟨_,_,false,.int i,rfl,(by rfl),false,rfl,iteF q⟩⟩
    | bl b=>exact ⟨_,rfl,_,_,rfl,.inl ⟨_,_,false,.bl b,rfl,(by rfl),false,rfl,iteF q⟩⟩
    | non=>exact ⟨_,rfl,_,_,rfl,.inl ⟨_,_,false,.non,rfl,(by rfl),false,rfl,iteF q⟩⟩
    | lst hq=>exact ⟨_,rfl,_,_,rfl,.inl ⟨_,_,false,.lst hq,rfl,(by rfl),false,rfl,iteF q⟩⟩
    | tup hq=>exact ⟨_,rfl,_,_,rfl,.inl ⟨_,_,false,.tup hq,rfl,(by rfl),false,rfl,iteF q⟩⟩
theorem okT_at (T:Txt w K mg t):FnOk true P w K mg base (CXo P w) 3 t.f_at t.d_at ["word", "width"] (xmq t):=by
  refine T.F_at.okx (k:=2) sc_at (fun vs H Q E h=>?_) (fun cdv A outer s H vs Q E hr h=>?_)
  · obtain ⟨x,d,n,rfl,_⟩:=h
    rfl
  · obtain ⟨x,d,n,rfl,h⟩:=h
    refine ⟨_,xj (xaa (xan (xz xaf rfl T.n_isinstance boot_isinstance (xf (pv 0) (xf (xbj (v:=.ty "str") rfl T.n_str boot_str rfl) (xh))))) (xj (xaa (xad xbt (pv 0) (x9) (xaj _)) (xn (xar (xd5 T.k_ay (ok_am T) (hr.mono (by decide)) rfl T.g_ay T.b_am .nil xal.pass (xf (pv 1) (xh))))) (xw))
      (xn (xaa (xad xbt (pv 0) (x9) (xaj _)) (xn (xar (xd5 T.k_aq (ok_am T) (hr.mono (by decide)) rfl T.g_aq T.b_am .nil xal.pass (xf (pv 1) (xh))))) (xw)))) (xw))
      (xn (xco (hr.hd rfl) xal (xcm T.k_t (ok_al T) (hr.mono (by decide)) rfl T.g_t T.b_al .nil (xf (pv 0) (xh))))),?_⟩
    obtain ⟨tx,hE,q⟩:=h
    cases tx with
    | str y =>
      refine ⟨_,rfl,_,_,rfl,.inl ⟨_,_,true,.str _,rfl,xa8,true,rfl,iteT ?_⟩⟩
      refine ⟨_,rfl,rfl,_,rfl,ite2 (fun c=>?_) (fun c=>?_)⟩
      · have e:y = "left":=V.str.inj (of_decide_eq_true c)
        have sd:xbq (.str y) = some true:=by rw [e]; exact xcb true
        exact ⟨_,rfl,fun x dx hx hdx ne=>⟨x,t.C_ay,dx,n,rfl,xg,T.c_ay,T.n_bz,rfl,q (xen sd) true x _ sd hx ⟨dx,xg⟩ (xg7 hx hdx)⟩⟩
      · have n1:¬ y = "left":=fun z=>c (by rw [z]; exact decide_eq_true rfl)
        refine ⟨_,rfl,rfl,_,rfl,ite2 (fun c2=>?_) (fun c2=>?_)⟩
        · have e:y = "right":=V.str.inj (of_decide_eq_true c2)
          have sd:xbq (.str y) = some false:=by rw [e]; exact xcb false
          exact ⟨_,rfl,fun x dx hx hdx ne=>⟨x,t.C_aq,dx,n,rfl,xg,T.c_aq,T.n_bi,rfl,q (xen sd) false x _ sd hx ⟨dx,xg⟩ (xg7 hx hdx)⟩⟩
        · have n2:¬ y = "right":=fun z=>c2 (by rw [z]; exact decide_eq_true rfl)
          have sd:xbq (.str y) = none:=by show (if y = "left" then some true else if y = "right" then some false else none) = none; rw [if_neg n1,if_neg n2]
          exact ⟨_,rfl,(by show 1≤1000; decide),fun e he=>⟨e,_,rfl,xg,fun dx hdx=>⟨rfl,e,t.C_t,some dx,rfl,xg,T.mk_t,hE (.noSide _) (xbw sd) e _ (xbu rfl rfl he hdx)⟩⟩⟩
    | int i=>exact ⟨_,rfl,_,_,rfl,.inl ⟨_,_,false,.int i,rfl,(by rfl),false,rfl,iteF ⟨_,rfl,(by show 1≤1000; decide),fun e he=>⟨e,_,rfl,xg,fun dx hdx=>⟨rfl,e,t.C_t,some dx,rfl,xg,T.mk_t,hE (.noSide _) (xbw rfl) e _ (xbu rfl rfl he hdx)⟩⟩⟩⟩⟩
    | bl b=>exact ⟨_,rfl,_,_,rfl,.inl ⟨_,_,false,.bl b,rfl,(by rfl),false,rfl,iteF ⟨_,rfl,(by show 1≤1000; decide),fun e he=>⟨e,_,rfl,xg,fun dx hdx=>⟨rfl,e,t.C_t,some dx,rfl,xg,T.mk_t,hE (.noSide _) (xbw rfl) e _ (xbu rfl rfl he hdx)⟩⟩⟩⟩⟩
    | non=>exact ⟨_,rfl,_,_,rfl,.inl ⟨_,_,false,.non,rfl,(by rfl),false,rfl,iteF ⟨_,rfl,(by show 1≤1000; decide),fun e he=>⟨e,_,rfl,xg,fun dx hdx=>⟨rfl,e,t.C_t,some dx,rfl,xg,T.mk_t,hE (.noSide _) (xbw rfl) e _ (xbu rfl rfl he hdx)⟩⟩⟩⟩⟩
    | lst hq=>exact ⟨_,rfl,_,_,rfl,.inl ⟨_,_,false,.lst hq,rfl,(by rfl),false,rfl,iteF ⟨_,rfl,(by show 1≤1000; decide),fun e he=>⟨e,_,rfl,xg,fun dx hdx=>⟨rfl,e,t.C_t,some dx,rfl,xg,T.mk_t,hE (.noSide _) (xbw rfl) e _ (xbu rfl rfl he hdx)⟩⟩⟩⟩⟩
    | tup hq=>exact ⟨_,rfl,_,_,rfl,.inl ⟨_,_,false,.tup hq,rfl,(by rfl),false,rfl,iteF ⟨_,rfl,(by show 1≤1000; decide),fun e he=>⟨e,_,rfl,xg,fun dx hdx=>⟨rfl,e,t.C_t,some dx,rfl,xg,T.mk_t,hE (.noSide _) (xbw rfl) e _ (xbu rfl rfl he hdx)⟩⟩⟩⟩⟩
end
end S06
set_option maxRecDepth 100000
set_option maxHeartbeats 4000000
namespace S06
open PySem L2 XL PyProof.Rows
def xcq (ph:Int) (dx dr:DV) (x r:V):Option Er:=match xbq dx with
  | none=>some (.noSide x)
  | some _=>if xa7 dr 1 ph then none else some (.noRow r)
theorem xgc {ph:Int} {dx dr:DV} {x r:V} (h:xbq dx = none):xcq ph dx dr x r = some (.noSide x):=by unfold xcq; rw [h]
theorem xf3 {ph:Int} {dx dr:DV} {x r:V} {b:Bool} (h:xbq dx = some b) (h2:xa7 dr 1 ph = false):xcq ph dx dr x r = some (.noRow r):=by unfold xcq; rw [h]; simp [h2]
theorem xey {ph:Int} {dx dr:DV} {x r:V} {b:Bool} (h:xbq dx = some b) (h2:xa7 dr 1 ph = true):xcq ph dx dr x r = none:=by unfold xcq; rw [h]; simp [h2]
def xp7 (t:Adr):Sp:=fun vs H Q E=>∃ (a dp do_:Addr) (pw ph:Int) (ps:List Pt) (x r:V) (dx dr:DV),vs = [.ref a,x,r]∧Pic t H a dp do_ pw ph ps∧Thg H x dx∧Thg H r dr ∧
  Outs t H (xcq ph dx dr x r) E (∀ b i H',dx = .str (xv b)→dr = .int i→1≤i→i≤ph→Same H H'→Q .non H')
section
variable {P:Program} {w:World} {K:PySem.W.Frag} {mg:Str→Option Value} {base:Heap} {t:Adr}
theorem okT_c (T:Txt w K mg t):FnOk true P w K mg base (CXo P w) 4 t.f_c t.d_c ["self", "side", "row"] (xp7 t):=by
  refine T.F_c.okx (k:=3) sc_c (fun vs H Q E h=>?_) (fun cdv A outer s H vs Q E hr h=>?_)
  · obtain ⟨a,dp,do_,pw,ph,ps,x,r,dx,dr,rfl,_⟩:=h
    rfl
  · obtain ⟨a,dp,do_,pw,ph,ps,x,r,dx,dr,rfl,h⟩:=h
    refine ⟨_,xj (xav (xae (okT_at T) (hr.mono (by decide)) rfl T.g_at T.F_at.kp T.b_at .nil xal.pass (xf (pv 1) (xf (xao (pv 0) rfl) (xh)))))
      (xn (xaa (xbd (xan (xae (okT_aa T) (hr.mono (by decide)) rfl T.g_aa T.F_aa.kp T.b_aa .nil xal.pass (xf (pv 2) (xf (xi) (xf (xao (pv 0) rfl) (xh))))))) (xn (xco (hr.hd rfl) xal (xcm T.k_ai (ok_ao T) (hr.mono (by decide)) rfl T.g_ai T.b_ao .nil (xf (pv 2) (xh))))) (xw))),?_⟩
    obtain ⟨pic,tx,tr,hE,q⟩:=h
    obtain ⟨⟨dx0,hp⟩,_,_⟩:=id pic
    refine ⟨_,rfl,_,rfl,a,_,_,_,_,rfl,hp,T.c_j,T.n_bg,lkW,x,dx,pw,rfl,tx,?_,?_⟩
    · intro er her e H' z
      unfold xca at her
      cases sd:xbq dx with
      | none =>
        rw [sd] at her
        cases her
        exact hE _ (xgc sd) e H' z
      | some b=>rw [sd] at her; cases her
    · intro _ b p H1 sd hp1 sa s1
      refine ⟨_,rfl,_,rfl,a,_,_,_,_,rfl,(s1 _ _ hp),T.c_j,T.n_bc,lkH,r,dr,1,ph,rfl,tr.same s1,_,rfl,?_⟩
      cases wr:xa7 dr 1 ph with
      | true =>
        obtain ⟨i,ei,i1,i2⟩:=xem wr
        exact iteF (q (xey sd wr) b i H1 (xlk sd) ei i1 i2 s1)
      | false=>exact iteT ⟨_,rfl,(by show 1≤1000; decide),fun e he=>⟨e,_,rfl,xg,fun dx hdx=>⟨rfl,e,t.C_ai,some dx,rfl,xg,T.mk_ai,hE (.noRow _) (xf3 sd wr) e _ (xbm.pre s1 (xbu rfl rfl he hdx))⟩⟩⟩
end
end S06
set_option maxRecDepth 100000
set_option maxHeartbeats 4000000
namespace S06
open PySem L2 XL PyProof.Rows
structure PtOk (w h:Int) (p:Pt):Prop where
  nm:isNm p.nm = true
  x1:1≤p.x
  x2:p.x≤w
  y1:1≤p.y
  y2:p.y≤h
  sd:p.sd = "left"∨p.sd = "right"∨p.sd = "both"
  l1:1≤p.lo
  l2:p.lo≤p.hi
  l3:p.hi≤h
structure xb8 (w h:Int) (ps:List Pt):Prop where
  ok:∀ p ∈ ps,PtOk w h p
  nn:(ps.map (·.nm)).Nodup
  nx:(ps.map (·.x)).Nodup
  ny:(ps.map (·.y)).Nodup
  le:ps.length≤12
theorem xn3 {α β:Type} {f:α→β} (inj:∀ a b,f a = f b→a = b) {l:List α} (h:l.Nodup):(l.map f).Nodup:=by
  rw [List.nodup_iff_pairwise_ne,List.pairwise_map]
  exact h.imp fun hne e=>hne (inj _ _ e)
def ptD (p:Pt):DV:=.tup [.str p.nm,.int p.x,.int p.y,.str p.sd,.int p.lo,.int p.hi]
theorem xpl {K:PySem.W.Frag} {H:Hp} {q:Addr} {p:Pt} (h:H q = some (.tup (.str p.nm :: ptV p))):Dv K H 1 (.ref q) (ptD p):=by
  refine .tup (SqT.of h) rfl fun j x d h1 h2=>?_
  match j,h1,h2 with
  | 0,h1,h2=>cases h1; cases h2; exact .str
  | 1,h1,h2=>cases h1; cases h2; exact .int
  | 2,h1,h2=>cases h1; cases h2; exact .int
  | 3,h1,h2=>cases h1; cases h2; exact .str
  | 4,h1,h2=>cases h1; cases h2; exact .int
  | 5,h1,h2=>cases h1; cases h2; exact .int
  | j + 6,h1,h2=>simp [ptV] at h1
theorem PtsL.dv {K:PySem.W.Frag} {H:Hp} {ps:List Pt} {qs:List Addr} (h:PtsL H ps qs) {l:Addr} (e:H l = some (.lst (qs.map V.ref))):Dv K H 2 (.ref l) (.lst (ps.map ptD)):=by
  refine .lst (SqL.of e) (by rw [List.length_map,List.length_map,h.len]) fun j x d h1 h2=>?_
  rw [List.getElem?_map] at h1 h2
  obtain ⟨q,hq,rfl⟩:=Option.map_eq_some_iff.mp h1
  obtain ⟨p,hp,rfl⟩:=Option.map_eq_some_iff.mp h2
  obtain ⟨p',hp',e'⟩:=h.get hq
  rw [hp] at hp'
  cases hp'
  exact xpl e'
theorem xk0 {K:PySem.W.Frag} {H:Hp} {q:Addr} {a b:Int} (h:H q = some (.tup [.int a,.int b])):Dv K H 1 (.ref q) (.tup [.int a,.int b]):=by
  refine .tup (SqT.of h) rfl fun j x d h1 h2=>?_
  match j,h1,h2 with
  | 0,h1,h2=>cases h1; cases h2; exact .int
  | 1,h1,h2=>cases h1; cases h2; exact .int
  | j + 2,h1,h2=>simp at h1
theorem PtsL.pick {H:Hp}:∀ {ps:List Pt} {ys:List V},ys.length = ps.length→(∀ (j:Nat) (y:V) (p:Pt),ys[j]? = some y→ps[j]? = some p→∃ q,y = .ref q∧H q = some (.tup (.str p.nm :: ptV p)))→∃ rs:List Addr,ys = rs.map V.ref∧PtsL H ps rs
  | [],[],_,_=>⟨[],rfl,.nil⟩
  | [],_ :: _,h,_=>by cases h
  | _ :: _,[],h,_=>by cases h
  | s :: ss,y :: ys,h,k=>by
    obtain ⟨q,e,hq⟩:=k 0 y s rfl rfl
    obtain ⟨rs,e2,r⟩:=PtsL.pick (ps:=ss) (ys:=ys) (by simpa using h) fun j y s h1 h2=>k (j + 1) y s (by simpa using h1) (by simpa using h2)
    exact ⟨q :: rs,by rw [e,e2]; rfl,.cons hq r⟩
section
variable {P:Program} {w:World} {K:PySem.W.Frag} {mg:Str→Option Value} {base:Heap} {t:Adr}
end
end S06
set_option maxRecDepth 100000
set_option maxHeartbeats 4000000
namespace S06
open PySem L2 XL PyProof.Rows
def SsOk (h:Int) (ss:List Seat):Prop:=ss.Nodup∧ss.length≤32∧∀ s ∈ ss,1≤s.2∧s.2≤h
theorem xam.get {H:Hp} {ss:List Seat} {qs:List Addr} (h:xam H ss qs) {i:Nat} {q:Addr} (e:qs[i]? = some q):∃ s,ss[i]? = some s∧H q = some (.tup (xc5 s)):=by
  induction h generalizing i with
  | nil=>simp at e
  | @cons s q' ss qs h _ ih =>
    cases i with
    | zero =>
      simp at e
      subst e
      exact ⟨s,rfl,h⟩
    | succ j=>exact ih (by simpa using e)
theorem xam.snoc {H:Hp} {ss:List Seat} {qs:List Addr} (h:xam H ss qs) {s:Seat} {q:Addr} (e:H q = some (.tup (xc5 s))):xam H (ss ++ [s]) (qs ++ [q]):=by
  induction h with
  | nil=>exact .cons e .nil
  | cons h _ ih=>exact .cons h ih
theorem xdv {α:Type} {R:α→α→Prop} (as:∀ a b,R a b→¬ R b a):∀ {l l':List α},l.Perm l'→l.Pairwise R→l'.Pairwise R→l = l'
  | [],l',p,_,_=>(List.Perm.nil_eq p)
  | a :: t,[],p,_,_=>absurd p.symm (by intro z; exact absurd (List.Perm.nil_eq z) (by simp))
  | a :: t,b :: t',p,h,h'=>by
    have h1:=List.pairwise_cons.mp h
    have h2:=List.pairwise_cons.mp h'
    by_cases e:a = b
    · subst e
      rw [xdv as ((List.perm_cons a).mp p) h1.2 h2.2]
    · have ma:a ∈ t':=by
        have:=p.mem_iff.mp (List.mem_cons_self (a:=a) (l:=t))
        rcases List.mem_cons.mp this with z | z
        · exact absurd z e
        · exact z
      have mb:b ∈ t:=by
        have:=p.mem_iff.mpr (List.mem_cons_self (a:=b) (l:=t'))
        rcases List.mem_cons.mp this with z | z
        · exact absurd z.symm e
        · exact z
      exact absurd (h2.1 a ma) (as _ _ (h1.1 b mb))
theorem xgq (a b:Seat) (h:xcg a b):¬ xcg b a:=by
  rintro (⟨x,y⟩ | ⟨x,y⟩) <;> rcases h with ⟨z,w⟩ | ⟨z,w⟩
  · rw [x] at w; cases w
  · rw [x,y] at z; cases z
  · rw [z,w] at x; cases x
  · omega
def xbo (s:Seat):DV:=.tup [.str (xv s.1),.int s.2]
theorem xk8 {s t:Seat}:xbo s = xbo t ↔ s = t:=by
  constructor
  · intro h
    unfold xbo at h
    simp only [DV.tup.injEq,List.cons.injEq,DV.str.injEq,DV.int.injEq,and_true] at h
    exact Prod.ext (xcu h.1) h.2
  · intro h
    rw [h]
theorem xhu (s t:Seat):dEq (xbo s) (xbo t) = decide (s = t):=xm3 rfl rfl xk8
theorem xef (ss:List Seat) (s:Seat):(ss.map xbo).any (fun z=>dEq z (xbo s)) = decide (s ∈ ss):=by
  rw [Bool.eq_iff_iff,List.any_eq_true,decide_eq_true_iff]
  constructor
  · rintro ⟨z,hz,e⟩
    obtain ⟨t,ht,rfl⟩:=List.mem_map.mp hz
    rw [xhu,decide_eq_true_iff] at e
    exact e ▸ ht
  · intro h
    exact ⟨_,List.mem_map.mpr ⟨s,h,rfl⟩,xba _⟩
theorem xez {K:PySem.W.Frag} {H:Hp} {q:Addr} {s:Seat} (h:H q = some (.tup (xc5 s))):Dv K H 1 (.ref q) (xbo s):=by
  refine .tup (SqT.of h) rfl fun j x d h1 h2=>?_
  match j,h1,h2 with
  | 0,h1,h2=>cases h1; cases h2; exact .str
  | 1,h1,h2=>cases h1; cases h2; exact .int
  | j + 2,h1,h2=>simp [xc5] at h1
theorem xam.dv {K:PySem.W.Frag} {H:Hp} {ss:List Seat} {qs:List Addr} (h:xam H ss qs) {l:Addr} (e:H l = some (.lst (qs.map V.ref))):Dv K H 2 (.ref l) (.lst (ss.map xbo)):=by
  refine .lst (SqL.of e) (by rw [List.length_map,List.length_map,h.len]) fun j x d h1 h2=>?_
  rw [List.getElem?_map] at h1 h2
  obtain ⟨q,hq,rfl⟩:=Option.map_eq_some_iff.mp h1
  obtain ⟨p,hp,rfl⟩:=Option.map_eq_some_iff.mp h2
  obtain ⟨p',hp',e'⟩:=h.get hq
  rw [hp] at hp'
  cases hp'
  exact xez e'
theorem xam.pick {H:Hp}:∀ {ss:List Seat} {ys:List V},ys.length = ss.length→(∀ (j:Nat) (y:V) (s:Seat),ys[j]? = some y→ss[j]? = some s→∃ q,y = .ref q∧H q = some (.tup (xc5 s)))→∃ rs:List Addr,ys = rs.map V.ref∧xam H ss rs
  | [],[],_,_=>⟨[],rfl,.nil⟩
  | [],_ :: _,h,_=>by cases h
  | _ :: _,[],h,_=>by cases h
  | s :: ss,y :: ys,h,k=>by
    obtain ⟨q,e,hq⟩:=k 0 y s rfl rfl
    obtain ⟨rs,e2,r⟩:=xam.pick (ss:=ss) (ys:=ys) (by simpa using h) fun j y s h1 h2=>k (j + 1) y s (by simpa using h1) (by simpa using h2)
    exact ⟨q :: rs,by rw [e,e2]; rfl,.cons hq r⟩
theorem xkj {α:Type} [DecidableEq α]:∀ {l m:List α},l.Nodup→(∀ x ∈ l,x ∈ m)→l.length≤m.length
  | [],m,_,_=>Nat.zero_le _
  | a :: l,m,nd,sub=>by
    obtain ⟨h1,h2⟩:=List.nodup_cons.mp nd
    have ha:=sub a List.mem_cons_self
    have z:=xkj (l:=l) (m:=m.erase a) h2 (fun x hx=>(List.mem_erase_of_ne (fun e:x = a=>h1 (e ▸ hx))).mpr (sub x (List.mem_cons_of_mem _ hx)))
    rw [List.length_erase_of_mem ha] at z
    have:=List.length_pos_of_mem ha
    rw [List.length_cons]
    omega
theorem xi5 {h:Int} {ss:List Seat} (h16:h≤16) (o:SsOk h ss) (l:32≤ss.length) (s:Seat) (r1:1≤s.2) (r2:s.2≤h):s ∈ ss:=by
  by_cases c:s ∈ ss
  · exact c
  have all:∀ x ∈ s :: ss,x ∈ ((List.range 16).map fun i:Nat=>(true,(i:Int) + 1)) ++ (List.range 16).map fun i:Nat=>(false,(i:Int) + 1):=fun x hx=>by
    have b:1≤x.2∧x.2≤h:=by
      rcases List.mem_cons.mp hx with z | z
      · rw [z]; exact ⟨r1,r2⟩
      · exact o.2.2 x z
    obtain ⟨xb,xr⟩:=x
    have i1:(xr - 1).toNat ∈ List.range 16:=List.mem_range.mpr (by dsimp only at b; omega)
    have i2:((xr - 1).toNat:Int) + 1 = xr:=by dsimp only at b; omega
    rw [List.mem_append]
    cases xb
    · exact .inr (List.mem_map.mpr ⟨_,i1,by rw [i2]⟩)
    · exact .inl (List.mem_map.mpr ⟨_,i1,by rw [i2]⟩)
  have z:=xkj (List.nodup_cons.mpr ⟨c,o.1⟩) all
  simp at z
  omega
section
variable {P:Program} {w:World} {K:PySem.W.Frag} {mg:Str→Option Value} {base:Heap} {t:Adr}
end
end S06
set_option maxRecDepth 100000
set_option maxHeartbeats 4000000
namespace S06
open PySem L2 XL PyProof.Rows
def hasN (ps:List Pt) (d:DV):Bool:=match d with
  | .str s=>isNm s && ps.any fun p=>decide (p.nm = s)
  | _=>false
def xb3 (ps:List Pt) (d:DV) (n:V):Option Er:=if hasN ps d then none else some (.noPoint n)
theorem xb1 {ps:List Pt} {d:DV} {n:V} (h:hasN ps d = false):xb3 ps d n = some (.noPoint n):=by
  unfold xb3
  rw [h]
  rfl
theorem xdr {ps:List Pt} {d:DV} {n:V} (h:hasN ps d = true):xb3 ps d n = none:=by
  unfold xb3
  rw [h]
  rfl
theorem xdb {ps:List Pt} {d:DV} (h:hasN ps d = true):∃ s pt,d = .str s∧isNm s = true∧ps.find? (fun p=>decide (p.nm = s)) = some pt∧pt ∈ ps∧pt.nm = s:=by
  cases d with
  | str s =>
    change (isNm s && ps.any fun p=>decide (p.nm = s)) = true at h
    rw [Bool.and_eq_true,List.any_eq_true] at h
    obtain ⟨h1,p,hp,e⟩:=h
    cases z:ps.find? (fun p=>decide (p.nm = s)) with
    | none=>exact absurd e (List.find?_eq_none.mp z p hp)
    | some pt=>exact ⟨s,pt,rfl,h1,z,List.mem_of_find?_eq_some z,by simpa using List.find?_some z⟩
  | _=>cases h
def xdn (pw ph:Int) (dx dy:DV) (x y:V):Option Er:=if xa7 dx 1 pw && xa7 dy 1 ph then none else some (.noCell x y)
def xcr (ps:List Pt) (nm:Str) (x y:Int):Option Er:=match ps.find? (fun p=>decide (p.nm≠nm) && decide (p.x = x)) with
  | some p=>some (.sameColumn (.str p.nm))
  | none=>match ps.find? (fun p=>decide (p.nm≠nm) && decide (p.y = y)) with
    | some p=>some (.sameRow (.str p.nm))
    | none=>none
theorem xiu {α:Type} {f:α→Bool}:∀ {l:List α} {j:Nat} {p:α},l[j]? = some p→f p = true→(∀ (k:Nat) (p':α),k < j→l[k]? = some p'→f p' = false)→l.find? f = some p
  | [],_,_,h,_,_=>by simp at h
  | a :: l,0,p,h,fp,_=>by
    simp at h
    subst h
    rw [List.find?_cons_of_pos fp]
  | a :: l,j + 1,p,h,fp,no=>by
    rw [List.find?_cons_of_neg (by rw [no 0 a (Nat.succ_pos _) rfl]; decide)]
    exact xiu (by simpa using h) fp fun k p' hk hp'=>no (k + 1) p' (by omega) (by simpa using hp')
theorem xcs {α:Type} {p f:α→Bool}:∀ l:List α,(l.filter p).find? f = l.find? fun a=>p a && f a
  | []=>rfl
  | a :: l=>by
    cases h:p a with
    | true =>
      rw [List.filter_cons_of_pos h,List.find?_cons,List.find?_cons,xcs l,h,Bool.true_and]
    | false =>
      rw [List.filter_cons_of_neg (by rw [h]; decide),List.find?_cons,xcs l,h,Bool.false_and]
def xp0 (t:Adr):Sp:=fun vs H Q E=>∃ (a dp do_:Addr) (pw ph:Int) (ps:List Pt) (n:V) (d:DV),vs = [.ref a,n]∧Pic t H a dp do_ pw ph ps∧Thg H n d∧Outs t H (xb3 ps d n) E (Q .non H)
def xpx (t:Adr):Sp:=fun vs H Q E=>∃ (a dp do_:Addr) (pw ph:Int) (ps:List Pt) (x y:V) (dx dy:DV),vs = [.ref a,x,y]∧Pic t H a dp do_ pw ph ps∧Thg H x dx∧Thg H y dy∧Outs t H (xdn pw ph dx dy x y) E (Q .non H)
def xp9 (t:Adr):Sp:=fun vs H Q E=>∃ (a dp do_:Addr) (pw ph:Int) (ps:List Pt) (nm:Str) (x y:Int),vs = [.ref a,.str nm,.int x,.int y]∧Pic t H a dp do_ pw ph ps∧Outs t H (xcr ps nm x y) E (∀ H',Same H H'→Q .non H')
def xou (t:Adr):Sp:=fun vs H Q E=>∃ (a dp do_:Addr) (pw ph:Int) (ps:List Pt) (n:V) (d:DV),vs = [.ref a,n]∧Pic t H a dp do_ pw ph ps∧Thg H n d∧Outs t H (xb3 ps d n) E (∀ pt H' q,pt ∈ ps→d = .str pt.nm→ps.find? (fun p=>decide (p.nm = pt.nm)) = some pt→Same H H'→H' q = some (.tup [.int pt.x,.int pt.y])→Q (.ref q) H')
def mvP (nm:Str) (x y:Int) (p:Pt):Pt:=if p.nm = nm then { p with x:=x,y:=y } else p
def xee (pw ph:Int) (ps:List Pt) (d dx dy:DV) (n x y:V):Option Er:=if hasN ps d then (if xa7 dx 1 pw && xa7 dy 1 ph then (match d with | .str s=>xcr ps s (intD dx) (intD dy) | _=>none) else some (.noCell x y)) else some (.noPoint n)
def xpk (t:Adr):Sp:=fun vs H Q E=>∃ (a dp do_:Addr) (pw ph:Int) (ps:List Pt) (n x y:V) (d dx dy:DV),vs = [.ref a,n,x,y]∧Pic t H a dp do_ pw ph ps∧(ps.map (·.nm)).Nodup∧Thg H n d∧Thg H x dx∧Thg H y dy∧Outs t H (xee pw ph ps d dx dy n x y) E (∀ nm i j H',d = .str nm→dx = .int i→dy = .int j→(∀ b u,b≠dp→H b = some u→H' b = some u)→Pic t H' a dp do_ pw ph (ps.map (mvP nm i j))→Q .non H')
theorem Pl.get? {H:Hp} {ps:List Pt} {kvs:List (Key × V)} (h:Pl H ps kvs) {nm:Str} (no:¬ (ps.any fun p=>decide (p.nm = nm)) = true):valV kvs (.inr nm) = none:=h.no fun p hp e=>no (List.any_eq_true.mpr ⟨p,hp,by simpa using e⟩)
theorem Pl.mv {H H':Hp} {nm:Str} {x y:Int} {q1:Addr} {ps:List Pt} {kvs:List (Key × V)} (h:Pl H ps kvs) (tp:Tups H H') (hq:∀ p ∈ ps,p.nm = nm→H' q1 = some (.tup (ptV { p with x:=x,y:=y }))):Pl H' (ps.map (mvP nm x y)) (kvs.map fun kv=>if kv.1 = .inr nm then (kv.1,.ref q1) else kv):=by
  induction h with
  | nil=>exact .nil
  | @cons p q ps kvs h r ih =>
    have ih':=ih fun p' hp'=>hq p' (List.mem_cons_of_mem _ hp')
    rw [List.map_cons,List.map_cons]
    by_cases c:p.nm = nm
    · rw [if_pos (by rw [c]),show mvP nm x y p = { p with x:=x,y:=y } from if_pos c]
      exact .cons (hq p List.mem_cons_self c) ih'
    · rw [if_neg (fun z=>c (Sum.inr.inj z)),show mvP nm x y p = p from if_neg c]
      exact .cons (tp _ _ h) ih'
theorem xkr {ps:List Pt} (nd:(ps.map (·.nm)).Nodup) {p q:Pt} (hp:p ∈ ps) (hq:q ∈ ps) (e:p.nm = q.nm):p = q:=by
  induction ps with
  | nil=>exact (nomatch hp)
  | cons a ps ih =>
    rw [List.map_cons,List.nodup_cons] at nd
    rcases List.mem_cons.mp hp with z | z <;> rcases List.mem_cons.mp hq with z2 | z2
    · rw [z,z2]
    · exact absurd (List.mem_map.mpr ⟨q,z2,by rw [← e,z]⟩) nd.1
    · exact absurd (List.mem_map.mpr ⟨p,z,by rw [e,z2]⟩) nd.1
    · exact ih nd.2 z z2
section
variable {P:Program} {w:World} {K:PySem.W.Frag} {mg:Str→Option Value} {base:Heap} {t:Adr}
theorem okT_d (T:Txt w K mg t):FnOk true P w K mg base (CXo P w) 3 t.f_d t.d_d ["self", "name"] (xp0 t):=by
  refine T.F_d.okx (k:=2) sc_d (fun vs H Q E h=>?_) (fun cdv A outer s H vs Q E hr h=>?_)
  · obtain ⟨a,dp,do_,pw,ph,ps,n,d,rfl,_⟩:=h
    rfl
  · obtain ⟨a,dp,do_,pw,ph,ps,n,d,rfl,h⟩:=h
    refine ⟨_,xn (xaa (PW.pt (xcp (xbd (xan (xae (okT_az T) (hr.mono (by decide)) rfl T.g_az T.F_az.kp T.b_az .nil xal.pass (xf (pv 1) (xh))))) (xb5 (xei (xgr (xb7 hr) (pv 1) (xao (pv 0) rfl)))))) (xn (xco (hr.hd rfl) xal (xcm T.k_l (ok_af T) (hr.mono (by decide)) rfl T.g_l T.b_af .nil (xf (pv 1) (xh))))) (xw)),?_⟩
    obtain ⟨pic,tn,hE,q⟩:=h
    obtain ⟨⟨dx0,hp⟩,⟨kvs,hk,pl⟩,_⟩:=id pic
    refine ⟨_,rfl,n,d,rfl,tn,_,rfl,?_⟩
    cases hn:xl9 d with
    | false =>
      have no:hasN ps d = false:=by
        cases d with
        | str s=>change (isNm s && _) = false; rw [show isNm s = false from hn]; rfl
        | _=>rfl
      exact iteT (iteT ⟨_,rfl,(by show 1≤1000; decide),fun e he=>⟨e,_,rfl,xg,fun dx hdx=>⟨rfl,e,t.C_l,some dx,rfl,xg,T.mk_l,hE (.noPoint _) (xb1 no) e _ (xbu rfl rfl he hdx)⟩⟩⟩)
    | true =>
      obtain ⟨s,rfl⟩:∃ s,d = .str s:=by
        cases d with
        | str s=>exact ⟨s,rfl⟩
        | _=>cases hn
      obtain rfl:=tn.str_of
      refine iteF ?_
      cases ha:(ps.any fun p=>decide (p.nm = s)) with
      | true =>
        have yes:hasN ps (.str s) = true:=by change (isNm s && _) = true; rw [show isNm s = true from hn,ha]; rfl
        obtain ⟨s',pt,e,_,hf,_⟩:=xdb yes
        cases e
        obtain ⟨q0,e,_⟩:=pl.find hf
        exact ⟨_,rfl,_,rfl,a,_,_,_,_,rfl,hp,T.c_j,T.n_bd,lkP,dp,some (.ref q0),rfl,(by rw [← e]; exact DGet.k (k:=.inr s) hk),false,rfl,iteF (q (xdr yes))⟩
      | false =>
        have no:hasN ps (.str s) = false:=by change (isNm s && _) = false; rw [ha]; exact Bool.and_false _
        refine ⟨_,rfl,_,rfl,a,_,_,_,_,rfl,hp,T.c_j,T.n_bd,lkP,dp,none,rfl,(by rw [← pl.get? (nm:=s) (by rw [ha]; decide)]; exact DGet.k (k:=.inr s) hk),true,rfl,iteT ?_⟩
        exact ⟨_,rfl,(by show 1≤1000; decide),fun e he=>⟨e,_,rfl,xg,fun dx hdx=>⟨rfl,e,t.C_l,some dx,rfl,xg,T.mk_l,hE (.noPoint _) (xb1 no) e _ (xbu rfl rfl he hdx)⟩⟩⟩
theorem okT_e (T:Txt w K mg t):FnOk true P w K mg base (CXo P w) 3 t.f_e t.d_e ["self", "x", "y"] (xpx t):=by
  refine T.F_e.okx (k:=2) sc_e (fun vs H Q E h=>?_) (fun cdv A outer s H vs Q E hr h=>?_)
  · obtain ⟨a,dp,do_,pw,ph,ps,x,y,dx,dy,rfl,_⟩:=h
    rfl
  · obtain ⟨a,dp,do_,pw,ph,ps,x,y,dx,dy,rfl,h⟩:=h
    refine ⟨_,xn (xaa (PW.pt (xcp (xbd (xan (xae (okT_aa T) (hr.mono (by decide)) rfl T.g_aa T.F_aa.kp T.b_aa .nil xal.pass (xf (pv 1) (xf (xi) (xf (xao (pv 0) rfl) (xh))))))) (xb5 (xbd (xan (xae (okT_aa T) (hr.mono (by decide)) rfl T.g_aa T.F_aa.kp T.b_aa .nil xal.pass (xf (pv 2) (xf (xi) (xf (xao (pv 0) rfl) (xh)))))))))) (xn (xco (hr.hd rfl) xal (xcm T.k_w (ok_ak T) (hr.mono (by decide)) rfl T.g_w T.b_ak .nil (xf (pv 1) (xf (pv 2) (xh)))))) (xw)),?_⟩
    obtain ⟨pic,tx,ty,hE,q⟩:=h
    obtain ⟨⟨dx0,hp⟩,_⟩:=id pic
    refine ⟨_,rfl,_,rfl,a,_,_,_,_,rfl,hp,T.c_j,T.n_bg,lkW,x,dx,1,pw,rfl,tx,_,rfl,?_⟩
    cases wx:xa7 dx 1 pw with
    | false =>
      have oo:xdn pw ph dx dy x y = some (.noCell x y):=by unfold xdn; rw [wx]; rfl
      exact iteT (iteT ⟨_,rfl,_,rfl,(by show 2≤1000; decide),fun e he=>⟨e,_,_,rfl,xg,fun dx hdx=>⟨rfl,e,t.C_w,some dx,rfl,xin hdx,T.mk_w,hE (.noCell _ _) (oo) e _ (xii rfl rfl he hdx)⟩⟩⟩)
    | true =>
      refine iteF ⟨_,rfl,_,rfl,a,_,_,_,_,rfl,hp,T.c_j,T.n_bc,lkH,y,dy,1,ph,rfl,ty,_,rfl,?_⟩
      cases wy:xa7 dy 1 ph with
      | false =>
        have oo:xdn pw ph dx dy x y = some (.noCell x y):=by unfold xdn; rw [wx,wy]; rfl
        exact iteT ⟨_,rfl,_,rfl,(by show 2≤1000; decide),fun e he=>⟨e,_,_,rfl,xg,fun dx hdx=>⟨rfl,e,t.C_w,some dx,rfl,xin hdx,T.mk_w,hE (.noCell _ _) (oo) e _ (xii rfl rfl he hdx)⟩⟩⟩
      | true=>exact iteF (q (by unfold xdn; rw [wx,wy]; rfl))
theorem okT_a (T:Txt w K mg t):FnOk true P w K mg base (CXo P w) 3 t.f_a t.d_a ["self", "name", "x", "y"] (xp9 t):=by
  refine T.F_a.okx (k:=2) sc_a (fun vs H Q E h=>?_) (fun cdv A outer s H vs Q E hr h=>?_)
  · obtain ⟨a,dp,do_,pw,ph,ps,nm,x,y,rfl,_⟩:=h
    rfl
  · obtain ⟨a,dp,do_,pw,ph,ps,nm,x,y,rfl,h⟩:=h
    refine ⟨_,xj (xdl rfl (xby (zs:=["other"]) (ys:=["name"]) (fr:=[1]) (N0:=["self", "name", "x", "y", "others", "other"]) (sc0:=xk s_a) (by decide +kernel) rfl rfl rfl) (xbp (xde (pv 0) T.c_j T.m_m (ok_m T) (hr.mono (by decide)) T.b_m .nil xu)) (fun _ _ _ _ _ ow nd=>xap (i:=0) nd rfl (Or.inl (ow _ (by simp))) (Or.inr (ow _ (by simp)))) (xbz (by decide)) (fun _ _ _ _ _=>xdy (xad xmi (x5 (r:=rIxT K) xak (pv 0) (xi) (fun _ _=>rfl)) (pv 1) (xaj _))) (fun _ _ _ _ _=>pv 0) (j:=4) rfl (Or.inl rfl))
      (xj (xcz PassesOwn.leaving rfl (xbp (pv 4)) (xap (i:=5) sc_a.nd rfl (Or.inl rfl)) (xn (xaa (xad xbt (x5 xak (pv 5) (xi) (fun _ _=>rfl)) (pv 2) (xaj _)) (xn (xco (hr.hd rfl) xal (xcm T.k_b (ok_r T) (hr.mono (by decide)) rfl T.g_b T.b_r .nil (xf (x5 xak (pv 5) (xi) (fun _ _=>rfl)) (xh))))) (xw))))
      (xn (xcz PassesOwn.leaving rfl (xbp (pv 4)) (xap (i:=5) sc_a.nd rfl (Or.inl rfl)) (xn (xaa (xad xbt (x5 xak (pv 5) (xi) (fun _ _=>rfl)) (pv 3) (xaj _)) (xn (xco (hr.hd rfl) xal (xcm T.k_n (ok_ag T) (hr.mono (by decide)) rfl T.g_n T.b_ag .nil (xf (x5 xak (pv 5) (xi) (fun _ _=>rfl)) (xh))))) (xw)))))),?_⟩
    obtain ⟨pic,hE,q⟩:=h
    obtain ⟨⟨dx0,hp⟩,_⟩:=id pic
    have ple:=pic.len
    refine ⟨_,rfl,a,dx0,_,rfl,hp,xa6 (by decide +kernel),a,dp,do_,pw,ph,ps,rfl,pic,fun H1 l1 qs s1 hl1 pt1=>⟨l1,rfl,⟨_,SqL.of hl1⟩,fun l hl=>?_⟩⟩
    have ql:=pt1.len
    refine xci (SqL.of hl1) (by rw [List.length_map]; exact Nat.lt_trans (by omega:qs.length < 13) (by decide)) hl (fun i=>((ps[i]?).map fun p=>decide (p.nm≠nm)).getD false) (fun i y H=>∃ p q,ps[i]? = some p∧y = .ref q∧H q = some (.tup (.str p.nm :: ptV p))) (fun i y H H' tp ⟨p,q,e1,e2,e3⟩=>⟨p,q,e1,e2,tp _ _ e3⟩) (fun i z H2 hz s2 N M hN hM=>?_) (fun ys H2 s2 el2 ly f2=>?_)
    · rw [List.getElem?_map] at hz
      obtain ⟨o,ho,rfl⟩:=Option.map_eq_some_iff.mp hz
      obtain ⟨p,hpp,ep⟩:=pt1.get ho
      refine ⟨_,rfl,o,_,0,_,rfl,rfl,SqT.of (s2 _ _ ep),rfl,_,rfl,rfl,_,rfl,ite2 (fun c=>?_) (fun c=>?_)⟩
      · have cn:p.nm≠nm:=fun z=>by
          rw [z] at c
          simp at c
        exact ⟨_,rfl,hN _ _ (Same.refl _) (by rw [hpp]; simpa using cn) ⟨p,o,hpp,rfl,s2 _ _ ep⟩⟩
      · have cn:p.nm = nm:=by
          by_cases z:p.nm = nm
          · exact z
          · exact absurd (by simpa using fun e=>z e) c
        exact hM _ (Same.refl _) (by rw [hpp]; simpa using cn)
    have fi:=xeu (fun p:Pt=>decide (p.nm≠nm)) (as:=ps) (p:=fun i=>((ps[i]?).map fun p=>decide (p.nm≠nm)).getD false) (fun i p hp=>by rw [hp]; rfl)
    rw [List.length_map,ql] at ly f2
    obtain ⟨os,eo,ptO⟩:=PtsL.pick (H:=H2) (ps:=ps.filter fun p=>decide (p.nm≠nm)) (ys:=ys) (by rw [ly,fi.1]) (fun j y p hy hp=>by
      have hj:j < ((List.range ps.length).filter fun i=>((ps[i]?).map fun p=>decide (p.nm≠nm)).getD false).length:=by
        rw [← ly]
        exact (List.getElem?_eq_some_iff.mp hy).1
      obtain ⟨p',q',h1,h2,h3⟩:=f2 j y _ hy (List.getElem?_eq_getElem hj)
      rw [fi.2 j _ (List.getElem?_eq_getElem hj),hp] at h1
      cases h1
      exact ⟨q',h2,h3⟩)
    subst eo
    have s02:=s1.trans s2
    have rs1:∀ (f:Pt→Bool) (j:Nat) (p:Pt),(ps.filter fun p=>decide (p.nm≠nm))[j]? = some p→f p = true→(∀ (k:Nat) (p':Pt),k < j→(ps.filter fun p=>decide (p.nm≠nm))[k]? = some p'→f p' = false)→ps.find? (fun p=>decide (p.nm≠nm) && f p) = some p:=fun f j p hp fp no=>by
      rw [← xcs]
      exact xiu hp fp no
    have rs0:∀ (f:Pt→Bool),(∀ (k:Nat) (p':Pt),(ps.filter fun p=>decide (p.nm≠nm))[k]? = some p'→f p' = false)→ps.find? (fun p=>decide (p.nm≠nm) && f p) = none:=fun f no=>by
      rw [← xcs,List.find?_eq_none]
      intro p hp
      obtain ⟨k,hk⟩:=List.getElem?_of_mem hp
      rw [no k p hk]
      decide
    refine ⟨_,rfl,l,rfl,⟨_,SqL.of el2⟩,xd9 (xs:=os.map V.ref) (Pv:=fun i σ H3=>∃ v5:Option V,σ = [some (.ref a),some (.str nm),some (.int x),some (.int y),some (.ref l),v5]∧H2 = H3∧∀ (k:Nat) (p':Pt),k < i→(ps.filter fun p=>decide (p.nm≠nm))[k]? = some p'→decide (p'.x = x) = false) ⟨_,rfl,rfl,fun k p' h=>absurd h (Nat.not_lt_zero _)⟩ (fun _ _ _ _ ⟨_,_,z,_⟩=>by rw [← z]; exact SqL.of el2) ?_ ?_⟩
    · rintro i v σ _ hv ⟨v5,rfl,rfl,no⟩
      rw [List.getElem?_map] at hv
      obtain ⟨o,ho,rfl⟩:=Option.map_eq_some_iff.mp hv
      obtain ⟨p,hpp,ep⟩:=ptO.get ho
      refine ⟨_,rfl,o,_,1,_,rfl,rfl,SqT.of ep,rfl,_,rfl,rfl,_,rfl,?_⟩
      by_cases c:p.x = x
      · have oo:xcr ps nm x y = some (.sameColumn (.str p.nm)):=by
          unfold xcr
          rw [rs1 (fun p=>decide (p.x = x)) i p hpp (decide_eq_true c) no]
        refine ifP (decide_eq_true (by rw [c])) ⟨_,rfl,o,_,0,_,rfl,rfl,SqT.of ep,rfl,(by show 1≤1000; decide),fun e he=>⟨e,_,rfl,xg,fun dx hdx=>⟨rfl,e,t.C_b,some dx,rfl,xg,T.mk_b,hE _ oo e _ (xbm.pre s02 (xbu rfl rfl he hdx))⟩⟩⟩
      · refine ifN (decide_eq_false fun z=>c (V.int.inj z)) ⟨_,rfl,rfl,fun k p' hk hp'=>?_⟩
        by_cases d:k = i
        · subst d
          rw [hpp] at hp'
          cases hp'
          exact decide_eq_false c
        · exact no k p' (by omega) hp'
    · rintro σ _ ⟨v5,rfl,rfl,noX⟩
      have ol:=ptO.len
      have noX':∀ (k:Nat) (p':Pt),(ps.filter fun p=>decide (p.nm≠nm))[k]? = some p'→decide (p'.x = x) = false:=fun k p' hk=>noX k p' (by rw [List.length_map,ol]; exact (List.getElem?_eq_some_iff.mp hk).1) hk
      have e1:=rs0 (fun p=>decide (p.x = x)) noX'
      refine ⟨_,rfl,l,rfl,⟨_,SqL.of el2⟩,xd9 (xs:=os.map V.ref) (Pv:=fun i σ H3=>∃ v5:Option V,σ = [some (.ref a),some (.str nm),some (.int x),some (.int y),some (.ref l),v5]∧H2 = H3∧∀ (k:Nat) (p':Pt),k < i→(ps.filter fun p=>decide (p.nm≠nm))[k]? = some p'→decide (p'.y = y) = false) ⟨_,rfl,rfl,fun k p' h=>absurd h (Nat.not_lt_zero _)⟩ (fun _ _ _ _ ⟨_,_,z,_⟩=>by rw [← z]; exact SqL.of el2) ?_ ?_⟩
      · rintro i v σ _ hv ⟨v5,rfl,rfl,no⟩
        rw [List.getElem?_map] at hv
        obtain ⟨o,ho,rfl⟩:=Option.map_eq_some_iff.mp hv
        obtain ⟨p,hpp,ep⟩:=ptO.get ho
        refine ⟨_,rfl,o,_,2,_,rfl,rfl,SqT.of ep,rfl,_,rfl,rfl,_,rfl,?_⟩
        by_cases c:p.y = y
        · have oo:xcr ps nm x y = some (.sameRow (.str p.nm)):=by
            unfold xcr
            rw [e1,rs1 (fun p=>decide (p.y = y)) i p hpp (decide_eq_true c) no]
          refine ifP (decide_eq_true (by rw [c])) ⟨_,rfl,o,_,0,_,rfl,rfl,SqT.of ep,rfl,(by show 1≤1000; decide),fun e he=>⟨e,_,rfl,xg,fun dx hdx=>⟨rfl,e,t.C_n,some dx,rfl,xg,T.mk_n,hE _ oo e _ (xbm.pre s02 (xbu rfl rfl he hdx))⟩⟩⟩
        · refine ifN (decide_eq_false fun z=>c (V.int.inj z)) ⟨_,rfl,rfl,fun k p' hk hp'=>?_⟩
          by_cases d:k = i
          · subst d
            rw [hpp] at hp'
            cases hp'
            exact decide_eq_false c
          · exact no k p' (by omega) hp'
      · rintro σ _ ⟨v5,rfl,rfl,noY⟩
        have e2:=rs0 (fun p=>decide (p.y = y)) fun k p' hk=>noY k p' (by rw [List.length_map,ol]; exact (List.getElem?_eq_some_iff.mp hk).1) hk
        exact q (by unfold xcr; rw [e1,e2]) _ s02
theorem okT_i (T:Txt w K mg t):FnOk true P w K mg base (CXo P w) 4 t.f_i t.d_i ["self", "name"] (xou t):=by
  refine T.F_i.okx (k:=3) sc_i (fun vs H Q E h=>?_) (fun cdv A outer s H vs Q E hr h=>?_)
  · obtain ⟨a,dp,do_,pw,ph,ps,n,d,rfl,_⟩:=h
    rfl
  · obtain ⟨a,dp,do_,pw,ph,ps,n,d,rfl,h⟩:=h
    refine ⟨_,xj (xav (xay (pv 0) T.c_j T.m_d (okT_d T) (hr.mono (by decide)) T.b_d .nil xal.pass (xf (pv 1) (xh))))
      (xn (xar (xfb xhp (xgd (xb7 hr) (xao (pv 0) rfl) (pv 1) (fun _ _=>rfl)) xf6 (xf2 (xi))))),?_⟩
    obtain ⟨pic,tn,hE,q⟩:=h
    obtain ⟨⟨dx0,hp⟩,⟨kvs,hk,pl⟩,_⟩:=id pic
    refine ⟨_,rfl,a,dx0,_,rfl,hp,xa6 (by decide +kernel),_,rfl,a,dp,do_,pw,ph,ps,n,d,rfl,pic,tn,hE,fun out=>?_⟩
    have yes:hasN ps d = true:=by
      cases z:hasN ps d with
      | true=>rfl
      | false=>rw [xb1 z] at out; cases out
    obtain ⟨nm,pt,rfl,hn,hf,hpt,rfl⟩:=xdb yes
    obtain rfl:=tn.str_of
    obtain ⟨q0,e,hq0⟩:=pl.find hf
    exact ⟨_,rfl,a,_,_,_,_,rfl,hp,T.c_j,T.n_bd,lkP,_,rfl,dp,.ref q0,rfl,(by rw [← e]; exact DGet.k (k:=.inr pt.nm) hk),2,rfl,q0,ptV pt,rfl,SqT.of hq0,(fun z=>absurd z.2 (by show ¬ ((2:Nat) = 5); decide)),fun p hp'=>q out pt _ p hpt rfl hf (xo (Same.refl _) hp') xg⟩
theorem okT_ab (T:Txt w K mg t):FnOk true P w K mg base (CXo P w) 4 t.f_ab t.d_ab ["self", "name", "x", "y"] (xpk t):=by
  refine T.F_ab.okx (k:=3) sc_ab (fun vs H Q E h=>?_) (fun cdv A outer s H vs Q E hr h=>?_)
  · obtain ⟨a,dp,do_,pw,ph,ps,n,x,y,d,dx,dy,rfl,_⟩:=h
    rfl
  · obtain ⟨a,dp,do_,pw,ph,ps,n,x,y,d,dx,dy,rfl,h⟩:=h
    refine ⟨_,xj (xav (xay (pv 0) T.c_j T.m_d (okT_d T) (hr.mono (by decide)) T.b_d .nil xal.pass (xf (pv 1) (xh))))
      (xj (xav (xay (pv 0) T.c_j T.m_e (okT_e T) (hr.mono (by decide)) T.b_e .nil xal.pass (xf (pv 2) (xf (pv 3) (xh)))))
      (xj (xav (xay (pv 0) T.c_j T.m_a (okT_a T) (hr.mono (by decide)) T.b_a .nil xal.pass (xf (pv 1) (xf (pv 2) (xf (pv 3) (xh))))))
      (xn (xf8 (xb7 hr) (xao (pv 0) rfl) (pv 1) (xq xf5 (xa1 (xf (pv 2) (xf (pv 3) (xh)))) (xfb xhp (xgd (xb7 hr) (xao (pv 0) rfl) (pv 1) (fun _ _=>rfl)) (xf2 (xi)) xf6)) rfl)))),?_⟩
    obtain ⟨pic,nd,tn,tx,ty,hE,q⟩:=h
    obtain ⟨⟨dx0,hp⟩,⟨kvs,hk,pl⟩,w1,w2,h1,h2,le⟩:=id pic
    refine ⟨_,rfl,a,dx0,_,rfl,hp,xa6 (by decide +kernel),_,rfl,a,dp,do_,pw,ph,ps,n,d,rfl,pic,tn,?_,fun out=>?_⟩
    · intro er her e H' z
      unfold xb3 at her
      cases y1:hasN ps d with
      | true=>rw [y1] at her; cases her
      | false =>
        rw [y1] at her
        cases her
        exact hE _ (by unfold xee; rw [y1]; rfl) e H' z
    have yes:hasN ps d = true:=by
      cases z:hasN ps d with
      | true=>rfl
      | false=>rw [xb1 z] at out; cases out
    refine ⟨_,rfl,a,dx0,_,rfl,hp,xa6 (by decide +kernel),_,rfl,_,rfl,a,dp,do_,pw,ph,ps,x,y,dx,dy,rfl,pic,tx,ty,?_,fun out2=>?_⟩
    · intro er her e H' z
      unfold xdn at her
      cases y1:(xa7 dx 1 pw && xa7 dy 1 ph) with
      | true=>rw [y1] at her; cases her
      | false =>
        rw [y1] at her
        cases her
        exact hE _ (by unfold xee; rw [yes,y1]; rfl) e H' z
    have wc:(xa7 dx 1 pw && xa7 dy 1 ph) = true:=by
      cases z:(xa7 dx 1 pw && xa7 dy 1 ph) with
      | true=>rfl
      | false=>unfold xdn at out2; rw [z] at out2; cases out2
    obtain ⟨wx,wy⟩:=Bool.and_eq_true_iff.mp wc
    obtain ⟨i,rfl,i1,i2⟩:=xem wx
    obtain ⟨j,rfl,j1,j2⟩:=xem wy
    obtain ⟨nm,pt,rfl,hn,hf,hpt,ept⟩:=xdb yes
    obtain rfl:=tn.str_of
    obtain rfl:=tx.int_of
    obtain rfl:=ty.int_of
    have om:xee pw ph ps (.str nm) (.int i) (.int j) (.str nm) (.int i) (.int j) = xcr ps nm i j:=by unfold xee; rw [yes,wc]; rfl
    refine ⟨_,rfl,a,dx0,_,rfl,hp,xa6 (by decide +kernel),_,rfl,_,rfl,_,rfl,a,dp,do_,pw,ph,ps,nm,i,j,rfl,pic,fun er her e H' z=>hE er (om.trans her) e H' z,fun out3 H1 s1=>?_⟩
    obtain ⟨q0,e0,hq0⟩:=pl.find hf
    have hp1:=s1 _ _ hp
    have hk1:=s1 _ _ hk
    refine ⟨_,rfl,_,rfl,(by show 2≤sizeLine; decide),fun q1 hq1=>?_⟩
    have s2:Same H1 (upd H1 q1 (.tup [.int i,.int j])):=xo (Same.refl _) hq1
    have g2:upd H1 q1 (.tup [.int i,.int j]) q1 = some (.tup [.int i,.int j]):=xg
    revert s2 g2
    generalize upd H1 q1 (.tup [.int i,.int j]) = H2
    intro s2 g2
    have hp2:=s2 _ _ hp1
    have hk2:=s2 _ _ hk1
    have hq2:=s2 _ _ (s1 _ _ hq0)
    refine ⟨_,rfl,a,_,_,_,_,rfl,hp2,T.c_j,T.n_bd,lkP,_,rfl,dp,.ref q0,rfl,(by rw [← e0]; exact DGet.k (k:=.inr nm) hk2),2,rfl,q0,ptV pt,rfl,SqT.of hq2,(fun z=>absurd z.1 (by show ¬ ((2:Nat) = 0); decide)),fun q3 hq3=>?_⟩
    have s3:Same H2 (upd H2 q3 (.tup [.str pt.sd,.int pt.lo,.int pt.hi])):=xo (Same.refl _) hq3
    have g3:upd H2 q3 (.tup [.str pt.sd,.int pt.lo,.int pt.hi]) q3 = some (.tup [.str pt.sd,.int pt.lo,.int pt.hi]):=xg
    refine ⟨q1,q3,_,[.str pt.sd,.int pt.lo,.int pt.hi],rfl,rfl,SqT.of (s3 _ _ g2),SqT.of g3,(by simp),(by show 2 + 3≤sizeLine; decide),(fun z=>nomatch z),fun _ q4 hq4=>?_⟩
    have s4:=s3.trans (xo (o:=.tup (ptV { pt with x:=i,y:=j })) (Same.refl _) hq4)
    have g4:upd (upd H2 q3 (.tup [.str pt.sd,.int pt.lo,.int pt.hi])) q4 (.tup (ptV { pt with x:=i,y:=j })) q4 = some (.tup (ptV { pt with x:=i,y:=j })):=xg
    change _ at g4
    have hp4:=s4 _ _ hp2
    have hk4:=s4 _ _ hk2
    refine ⟨_,rfl,a,_,_,_,_,rfl,hp4,T.c_j,T.n_bd,lkP,_,rfl,dp,_,rfl,DPut.k (k:=.inr nm) hk4 (Nat.lt_trans (by have:=pl.len; omega:kvs.length < 13) (by decide)),?_⟩
    have ek:putK kvs (.inr nm) (.ref q4) = kvs.map fun kv=>if kv.1 = .inr nm then (kv.1,.ref q4) else kv:=by
      unfold putK
      rw [xdf,e0]
      rfl
    rw [ek]
    have s04:=s1.trans (s2.trans s4)
    have bt:∀ b u,b≠dp→H b = some u→upd (upd (upd H2 q3 (.tup [.str pt.sd,.int pt.lo,.int pt.hi])) q4 (.tup (ptV { pt with x:=i,y:=j }))) dp (.dK (kvs.map fun kv=>if kv.1 = .inr nm then (kv.1,.ref q4) else kv)) b = some u:=fun b u nb e=>by
      rw [xm nb]
      exact s04 _ _ e
    refine q (om.trans out3) nm i j _ rfl rfl rfl bt ⟨⟨dx0,bt _ _ (xab hp hk (fun z=>nomatch z)) hp⟩,⟨_,xg,pl.mv (fun b xs e=>bt _ _ (xab e hk (fun z=>nomatch z)) e) fun p hp' ep=>?_⟩,w1,w2,h1,h2,by rw [List.length_map]; exact le⟩
    rw [xkr nd hp' hpt (ep.trans ept.symm),xm (Ne.symm (xp (s3 _ _ hk2) hq4))]
    exact g4
end
end S06
set_option maxRecDepth 100000
set_option maxHeartbeats 4000000
namespace S06
open PySem L2 XL PyProof.Rows
def xbe (p:Pt) (s:Seat):Bool:=(decide (p.sd = "both") || decide (p.sd = xv s.1)) && (decide (p.lo≤s.2) && decide (s.2≤p.hi))
theorem xfu (sd w:Str):inV (.str sd) [.str "both",.str w] = (decide (sd = "both") || decide (sd = w)):=by
  have e:∀ a b:Str,(a == b) = decide (b = a):=fun a b=>by
    rw [Bool.eq_iff_iff,beq_iff_eq,decide_eq_true_iff]
    exact eq_comm
  show ((("both":Str) == sd) || ((w == sd) || false)) = _
  rw [Bool.or_false,e,e]
def xbr (ph:Int) (ps:List Pt) (d dx dr:DV) (n x r:V):Option Er:=if hasN ps d then xcq ph dx dr x r else some (.noPoint n)
theorem xcc {ph:Int} {ps:List Pt} {d dx dr:DV} {n x r:V} (h:hasN ps d = false):xbr ph ps d dx dr n x r = some (.noPoint n):=by
  unfold xbr
  rw [h]
  rfl
theorem xbx {ph:Int} {ps:List Pt} {d dx dr:DV} {n x r:V} (h:hasN ps d = true):xbr ph ps d dx dr n x r = xcq ph dx dr x r:=by
  unfold xbr
  rw [h]
  rfl
theorem xfe {ps:List Pt} {d:DV} {n:V} (out:xb3 ps d n = none):hasN ps d = true:=by
  cases z:hasN ps d with
  | true=>rfl
  | false=>rw [xb1 z] at out; cases out
theorem xhi {ps:List Pt} {d:DV} {n:V} {er:Er} (h:xb3 ps d n = some er):hasN ps d = false∧er = .noPoint n:=by
  cases z:hasN ps d with
  | true=>rw [xdr z] at h; cases h
  | false=>rw [xb1 z] at h; cases h; exact ⟨rfl,rfl⟩
def xot (t:Adr):Sp:=fun vs H Q E=>∃ (a dp do_:Addr) (pw ph:Int) (ps:List Pt) (ss:List Seat) (n x r:V) (d dx dr:DV),vs = [.ref a,n,x,r]∧Pic t H a dp do_ pw ph ps∧Sts H do_ ss∧Thg H n d∧Thg H x dx∧Thg H r dr ∧
  Outs t H (xbr ph ps d dx dr n x r) E (∀ pt b i H',pt ∈ ps→d = .str pt.nm→ps.find? (fun p=>decide (p.nm = pt.nm)) = some pt→dx = .str (xv b)→dr = .int i→1≤i→i≤ph→Same H H'→Q (.bl (decide ((b,i) ∈ ss) && xbe pt (b,i))) H')
def xod (t:Adr):Sp:=fun vs H Q E=>∃ (a dp do_:Addr) (pw ph:Int) (ps:List Pt) (n x r:V) (d dx dr:DV),vs = [.ref a,n,x,r]∧Pic t H a dp do_ pw ph ps∧Thg H n d∧Thg H x dx∧Thg H r dr ∧
  Outs t H (xbr ph ps d dx dr n x r) E (∀ pt b i H',pt ∈ ps→d = .str pt.nm→ps.find? (fun p=>decide (p.nm = pt.nm)) = some pt→dx = .str (xv b)→dr = .int i→1≤i→i≤ph→Same H H'→Q (.int (lenI pw pt.x pt.y b i)) H')
def xnt (t:Adr):Sp:=fun vs H Q E=>∃ (a dp do_:Addr) (pw ph:Int) (ps:List Pt) (ss:List Seat) (n:V) (d:DV),vs = [.ref a,n]∧Pic t H a dp do_ pw ph ps∧Sts H do_ ss∧SsOk ph ss∧Thg H n d ∧
  Outs t H (xb3 ps d n) E (∀ (pt:Pt) (H':Hp) (l:Addr) (srt:List Seat) (rs:List Addr),pt ∈ ps→d = .str pt.nm→ps.find? (fun p=>decide (p.nm = pt.nm)) = some pt→Same H H'→H l = none→srt.Perm ss→srt.Pairwise xcg→H' l = some (.lst (rs.map V.ref))→xam H' (srt.filter (xbe pt)) rs→Q (.ref l) H')
def xc1 (s2:List Seat) (p:Pt) (i:Nat):Bool:=match s2[i]? with | some s=>xbe p s | none=>false
theorem xcd {s2:List Seat} {p:Pt} {s:Seat} {i:Nat} (h:s2[i]? = some s):xc1 s2 p i = xbe p s:=by
  unfold xc1
  rw [h]
theorem xdo (b:Bool):(xv b).length≤1000:=by cases b <;> decide +kernel
section
variable {P:Program} {w:World} {K:PySem.W.Frag} {mg:Str→Option Value} {base:Heap} {t:Adr}
theorem okT_z (T:Txt w K mg t):FnOk true P w K mg base (CXo P w) 5 t.f_z t.d_z ["self", "name", "side", "row"] (xot t):=by
  refine T.F_z.okx (k:=4) sc_z (fun vs H Q E h=>?_) (fun cdv A outer s H vs Q E hr h=>?_)
  · obtain ⟨a,dp,do_,pw,ph,ps,ss,n,x,r,d,dx,dr,rfl,_⟩:=h
    rfl
  · obtain ⟨a,dp,do_,pw,ph,ps,ss,n,x,r,d,dx,dr,rfl,h⟩:=h
    refine ⟨_,xj (xav (xay (pv 0) T.c_j T.m_d (okT_d T) (hr.mono (by decide)) T.b_d .nil xal.pass (xf (pv 1) (xh))))
      (xj (xav (xay (pv 0) T.c_j T.m_c (okT_c T) (hr.mono (by decide)) T.b_c .nil xal.pass (xf (pv 2) (xf (pv 3) (xh)))))
      (xj (xfl (xgd (xb7 hr) (xao (pv 0) rfl) (pv 1) (fun _ _=>rfl)) (xd1 rfl (xa9 (xap (i:=4) sc_z.nd rfl (Or.inl rfl)) (xa9 (xap (i:=5) sc_z.nd rfl (Or.inl rfl)) (xa9 (xap (i:=6) sc_z.nd rfl (Or.inl rfl)) (xa9 (xap (i:=7) sc_z.nd rfl (Or.inl rfl)) (xa9 (xap (i:=8) sc_z.nd rfl (Or.inl rfl)) (xdc))))))))
      (xn (xar (xbl (xnz (xhh (xb7 hr) (xa1 (xf (pv 2) (xf (pv 3) (xh)))) (xao (pv 0) rfl))) (xbl (xbv xgj (pv 6) (xa1 (xf (x9) (xf (pv 2) (xh)))) (by rfl)) (xb0 (xb9 xct xct (pv 7) (pv 3) (pv 8))))))))),?_⟩
    obtain ⟨pic,st,tn,tx,tr,hE,q⟩:=h
    obtain ⟨⟨dx0,hp⟩,⟨kvs,hk,pl⟩,_⟩:=id pic
    refine ⟨_,rfl,a,dx0,_,rfl,hp,xa6 (by decide +kernel),_,rfl,a,dp,do_,pw,ph,ps,n,d,rfl,pic,tn,?_,fun out=>?_⟩
    · intro er her e H' z
      obtain ⟨no,rfl⟩:=xhi her
      exact hE _ (xcc no) e H' z
    have yes:=xfe out
    obtain ⟨nm,pt,rfl,hn,hf,hpt,rfl⟩:=xdb yes
    obtain rfl:=tn.str_of
    refine ⟨_,rfl,a,dx0,_,rfl,hp,xa6 (by decide +kernel),_,rfl,_,rfl,a,dp,do_,pw,ph,ps,x,r,dx,dr,rfl,pic,tx,tr,fun er her e H' z=>hE er ((xbx yes).trans her) e H' z,?_⟩
    intro out2 b i H1 ex ei i1 i2 s1
    subst ex ei
    obtain rfl:=tx.str_of
    obtain rfl:=tr.int_of
    obtain ⟨q0,e0,hq0⟩:=pl.find hf
    have hp1:=s1 _ _ hp
    have hk1:=s1 _ _ hk
    refine ⟨_,rfl,a,_,_,_,_,rfl,hp1,T.c_j,T.n_bd,lkP,_,rfl,dp,.ref q0,rfl,(by rw [← e0]; exact DGet.k (k:=.inr pt.nm) hk1),q0,_,rfl,SqT.of (s1 _ _ hq0),rfl,_,_,rfl,_,_,rfl,_,_,rfl,_,_,rfl,_,_,rfl,rfl,?_⟩
    refine ⟨_,rfl,_,rfl,(by show 2≤sizeLine; decide),fun q1 hq1=>?_⟩
    have s2:Same H1 (upd H1 q1 (.tup [.str (xv b),.int i])):=xo (Same.refl _) hq1
    have g2:upd H1 q1 (.tup [.str (xv b),.int i]) q1 = some (.tup [.str (xv b),.int i]):=xg
    revert s2 g2
    generalize upd H1 q1 (.tup [.str (xv b),.int i]) = H2
    intro s2 g2
    have hp2:=s2 _ _ hp1
    have s02:=s1.trans s2
    obtain ⟨ko,hko,ek,nd,l32⟩:=id st
    have hko2:=s02 _ _ hko
    have qq:=fun H' s=>q ((xbx yes).trans out2) pt b i H' hpt rfl hf rfl rfl i1 i2 s
    by_cases cin:(b,i) ∈ ss
    · obtain ⟨v,hv⟩:=xij ek cin
      refine ⟨_,rfl,a,_,_,_,_,rfl,hp2,T.c_j,T.n_bf,lkO,do_,some v,rfl,(by rw [← hv]; exact DGet.t (k:=xah (b,i)) hko2 g2),true,rfl,iteT ?_⟩
      refine ⟨_,rfl,_,rfl,(by show 2≤sizeLine; decide),fun q3 hq3=>?_⟩
      have s3:Same H2 (upd H2 q3 (.tup [.str "both",.str (xv b)])):=xo (Same.refl _) hq3
      have g3:upd H2 q3 (.tup [.str "both",.str (xv b)]) q3 = some (.tup [.str "both",.str (xv b)]):=xg
      revert s3 g3
      generalize upd H2 q3 (.tup [.str "both",.str (xv b)]) = H3
      intro s3 g3
      have z:=qq H3 (s02.trans s3)
      rw [decide_eq_true cin,Bool.true_and] at z
      unfold xbe at z
      refine ⟨q3,_,rfl,.inr (SqT.of g3),rfl,rfl,_,rfl,ite2 (fun c=>?_) (fun c=>?_)⟩
      · rw [if_neg (by decide),xfu] at c
        dsimp only at z
        rw [c,Bool.true_and] at z
        refine ⟨_,rfl,_,rfl,_,_,rfl,rfl,_,rfl,ite2 (fun c2=>?_) (fun c2=>?_)⟩
        · rw [c2,Bool.true_and] at z
          exact ⟨_,rfl,_,_,rfl,rfl,z⟩
        · rw [Bool.eq_false_iff.mpr c2,Bool.false_and] at z
          exact z
      · rw [if_neg (by decide),xfu] at c
        dsimp only at z
        rw [Bool.eq_false_iff.mpr c,Bool.false_and] at z
        exact z
    · have n0:valV ko (xah (b,i)) = none:=xjr ek cin
      have z:=qq H2 s02
      rw [decide_eq_false cin,Bool.false_and] at z
      exact ⟨_,rfl,a,_,_,_,_,rfl,hp2,T.c_j,T.n_bf,lkO,do_,none,rfl,(by rw [← n0]; exact DGet.t (k:=xah (b,i)) hko2 g2),false,rfl,iteF z⟩
theorem okT_p (T:Txt w K mg t):FnOk true P w K mg base (CXo P w) 5 t.f_p t.d_p ["self", "name", "side", "row"] (xod t):=by
  refine T.F_p.okx (k:=4) sc_p (fun vs H Q E h=>?_) (fun cdv A outer s H vs Q E hr h=>?_)
  · obtain ⟨a,dp,do_,pw,ph,ps,n,x,r,d,dx,dr,rfl,_⟩:=h
    rfl
  · obtain ⟨a,dp,do_,pw,ph,ps,n,x,r,d,dx,dr,rfl,h⟩:=h
    refine ⟨_,xj (xfl (xay (pv 0) T.c_j T.m_i (okT_i T) (hr.mono (by decide)) T.b_i .nil xal.pass (xf (pv 1) (xh))) (xd1 rfl (xa9 (xap (i:=4) sc_p.nd rfl (Or.inl rfl)) (xa9 (xap (i:=5) sc_p.nd rfl (Or.inl rfl)) (xdc)))))
      (xj (xav (xay (pv 0) T.c_j T.m_c (okT_c T) (hr.mono (by decide)) T.b_c .nil xal.pass (xf (pv 2) (xf (pv 3) (xh)))))
      (xn (xar (xq xax (xo3 (xay (xae (okT_at T) (hr.mono (by decide)) rfl T.g_at T.F_at.kp T.b_at .nil xal.pass (xf (pv 2) (xf (xao (pv 0) rfl) (xh)))) T.c_ay T.m_o (ok_o T) (hr.mono (by decide)) T.b_o .nil xal.pass (xf (pv 4) (xh))) (xay (xae (okT_at T) (hr.mono (by decide)) rfl T.g_at T.F_at.kp T.b_at .nil xal.pass (xf (pv 2) (xf (xao (pv 0) rfl) (xh)))) T.c_aq T.m_k (ok_k T) (hr.mono (by decide)) T.b_k .nil xal.pass (xf (pv 4) (xh)))) (xz xh2 rfl T.n_abs boot_abs (xf (xq xcv (pv 5) (pv 3)) (xh))))))),?_⟩
    obtain ⟨pic,tn,tx,tr,hE,q⟩:=h
    obtain ⟨⟨dx0,hp⟩,_,_⟩:=id pic
    refine ⟨_,rfl,a,dx0,_,rfl,hp,xa6 (by decide +kernel),_,rfl,a,dp,do_,pw,ph,ps,n,d,rfl,pic,tn,?_,fun out pt H1 q1 hpt ed hf s1 hq1=>⟨q1,_,rfl,SqT.of hq1,rfl,_,_,rfl,_,_,rfl,rfl,?_⟩⟩
    · intro er her e H' z
      obtain ⟨no,rfl⟩:=xhi her
      exact hE _ (xcc no) e H' z
    have yes:=xfe out
    subst ed
    obtain rfl:=tn.str_of
    refine ⟨_,rfl,a,dx0,_,rfl,s1 _ _ hp,xa6 (by decide +kernel),_,rfl,_,rfl,a,dp,do_,pw,ph,ps,x,r,dx,dr,rfl,Pic.same s1 pic,tx.same s1,tr.same s1,fun er her e H' z=>hE er ((xbx yes).trans her) e H' (xbm.pre s1 z),?_⟩
    intro out2 b i H2 ex ei i1 i2 s2
    subst ex ei
    obtain rfl:=tx.str_of
    obtain rfl:=tr.int_of
    have s02:=s1.trans s2
    have hp2:=s02 _ _ hp
    have noS:∀ er,xca (.str (xv b)) (.str (xv b)) = some er→False:=fun er h=>by
      unfold xca at h
      rw [xcb] at h
      cases h
    have qq:=fun H' s=>q ((xbx yes).trans out2) pt b i H' hpt rfl hf rfl rfl i1 i2 s
    cases b with
    | true =>
      refine .inl ⟨_,rfl,_,rfl,a,_,_,_,_,rfl,hp2,T.c_j,T.n_bg,lkW,.str (xv true),.str (xv true),pw,rfl,.str _ (xdo _),fun er her=>(noS er her).elim,fun _ b' p H3 sb hp3 sd3 s3=>?_⟩
      rw [xcb] at sb
      cases sb
      obtain ⟨ds,hs⟩:=sd3
      exact ⟨p,ds,_,rfl,hs,(by rw [List.lookup_cons,show (("across":Str) == "width") = false from by decide +kernel]; rfl),_,rfl,_,_,rfl,_,rfl,_,rfl,_,_,rfl,rfl,_,rfl,_,_,rfl,rfl,qq H3 (s02.trans s3)⟩
    | false =>
      refine .inr ⟨_,rfl,_,rfl,a,_,_,_,_,rfl,hp2,T.c_j,T.n_bg,lkW,.str (xv false),.str (xv false),pw,rfl,.str _ (xdo _),fun er her=>(noS er her).elim,fun _ b' p H3 sb hp3 sd3 s3=>?_⟩
      rw [xcb] at sb
      cases sb
      obtain ⟨ds,hs⟩:=id sd3
      exact ⟨p,ds,_,rfl,hs,(by rw [List.lookup_cons,show (("across":Str) == "width") = false from by decide +kernel]; rfl),_,rfl,p,pw,_,rfl,sd3,_,rfl,_,rfl,_,_,rfl,rfl,_,rfl,_,_,rfl,rfl,qq H3 (s02.trans s3)⟩
theorem okT_g (T:Txt w K mg t):FnOk true P w K mg base (CXo P w) 6 t.f_g t.d_g ["self", "name"] (xnt t):=by
  refine T.F_g.okx (k:=5) sc_g (fun vs H Q E h=>?_) (fun cdv A outer s H vs Q E hr h=>?_)
  · obtain ⟨a,dp,do_,pw,ph,ps,ss,n,d,rfl,_⟩:=h
    rfl
  · obtain ⟨a,dp,do_,pw,ph,ps,ss,n,d,rfl,h⟩:=h
    refine ⟨_,xj (xav (xay (pv 0) T.c_j T.m_d (okT_d T) (hr.mono (by decide)) T.b_d .nil xal.pass (xf (pv 1) (xh))))
      (xn (xar (xdm rfl (xby (zs:=["side", "row"]) (ys:=["name", "self"]) (fr:=[1,0]) (N0:=["self", "name"]) (sc0:=xk s_g) (by decide +kernel) rfl rfl rfl) (xbp (xde (pv 0) T.c_j T.m_u (ok_u T) (hr.mono (by decide)) T.b_u .nil xu)) (fun _ _ _ _ _ ow nd=>(xd1 rfl (xa9 (xap (i:=0) nd rfl (Or.inl (ow _ (by simp))) (Or.inr (ow _ (by simp)))) (xa9 (xap (i:=1) nd rfl (Or.inl (ow _ (by simp))) (Or.inr (ow _ (by simp)))) (xdc))):PG _ _ (gTup K 2 _))) (xis (xds (by decide) (xds (by decide) (xhs)))) (fun _ _ _ _ _=>xdy (xan (xay (pv 3) T.c_j T.m_z (okT_z T) (hr.mono (by decide)) T.b_z .nil xu (xf (pv 2) (xf (pv 0) (xf (pv 1) (xh))))))) (fun _ _ _ _ _=>xa1 (xf (pv 0) (xf (pv 1) (xh))))))),?_⟩
    obtain ⟨pic,st,sok,tn,hE,q⟩:=h
    obtain ⟨⟨dx0,hp⟩,_,_⟩:=id pic
    refine ⟨_,rfl,a,dx0,_,rfl,hp,xa6 (by decide +kernel),_,rfl,a,dp,do_,pw,ph,ps,n,d,rfl,pic,tn,hE,fun out=>?_⟩
    have yes:=xfe out
    obtain ⟨nm,pt,rfl,hn,hf,hpt,rfl⟩:=xdb yes
    obtain rfl:=tn.str_of
    refine ⟨_,rfl,a,dx0,_,rfl,hp,xa6 (by decide +kernel),a,dp,do_,pw,ph,ps,ss,rfl,pic,st,fun l1 srt qs1 fr1 sl1 pm1 pw1=>?_⟩
    have s1:Same H (upd H l1 (.lst (qs1.map V.ref))):=xo (Same.refl _) fr1
    have g1:upd H l1 (.lst (qs1.map V.ref)) l1 = some (.lst (qs1.map V.ref)):=xg
    revert s1 g1
    generalize upd H l1 (.lst (qs1.map V.ref)) = H1
    intro s1 g1
    have sl1':=sl1.keep (Same.tups s1)
    have ql:=sl1.len
    have sl32:srt.length≤32:=by rw [pm1.length_eq]; exact sok.2.1
    refine ⟨l1,rfl,⟨_,SqL.of g1⟩,fun l2 hl2=>?_⟩
    refine xci (SqL.of g1) (by rw [List.length_map]; exact Nat.lt_trans (by omega:qs1.length < 33) (by decide)) hl2 (xc1 srt pt) (fun i y H=>∃ s q,srt[i]? = some s∧y = .ref q∧H q = some (.tup (xc5 s))) (fun i y H H' tp ⟨s,q,e1,e2,e3⟩=>⟨s,q,e1,e2,tp _ _ e3⟩) (fun i x H4 hx s4 N M hN hM=>?_) (fun ys H4 s4 el4 ly f4=>?_)
    · rw [List.getElem?_map] at hx
      obtain ⟨o,ho,rfl⟩:=Option.map_eq_some_iff.mp hx
      obtain ⟨s0,hs0,ep⟩:=sl1'.get ho
      have s04:=s1.trans s4
      have min:s0 ∈ ss:=pm1.mem_iff.mp (List.mem_of_getElem? hs0)
      obtain ⟨sr1,sr2⟩:=sok.2.2 s0 min
      refine ⟨o,_,rfl,SqT.of (s4 _ _ ep),rfl,_,_,rfl,_,_,rfl,rfl,?_⟩
      refine ⟨_,rfl,a,dx0,_,rfl,s04 _ _ hp,xa6 (by decide +kernel),_,rfl,_,rfl,_,rfl,a,dp,do_,pw,ph,ps,ss,.str pt.nm,.str (xv s0.1),.int s0.2,.str pt.nm,.str (xv s0.1),.int s0.2,rfl,Pic.same s04 pic,st.same s04,tn.same s04,.str _ (xdo _),.int _,fun er her=>?_,fun _ pt' b' i' H5 hm e1 hf' e2 e3 i1 i2 s5=>?_⟩
      · rw [xbx yes,xey (xcb _) (xc8 sr1 sr2)] at her
        cases her
      · have ept:pt' = pt:=by
          rw [← (DV.str.inj e1),hf] at hf'
          exact (Option.some.inj hf').symm
        have eb:b' = s0.1:=(xcu (DV.str.inj e2)).symm
        have ei:i' = s0.2:=(DV.int.inj e3).symm
        subst ept eb ei
        refine ⟨_,rfl,ite2 (fun c=>?_) (fun c=>?_)⟩
        · rw [decide_eq_true (show (s0.1,s0.2) ∈ ss from min),Bool.true_and] at c
          refine ⟨_,rfl,_,rfl,(by show 2≤sizeLine; decide),fun q6 hq6=>?_⟩
          exact hN _ _ (s5.trans (xo (Same.refl _) hq6)) (by rw [xcd hs0]; exact c) ⟨s0,q6,hs0,rfl,xg⟩
        · rw [decide_eq_true (show (s0.1,s0.2) ∈ ss from min),Bool.true_and] at c
          exact hM _ s5 (by rw [xcd hs0]; exact Bool.eq_false_iff.mpr c)
    · have fi:=xeu (xbe pt) (as:=srt) (p:=xc1 srt pt) (fun i s hs=>xcd hs)
      rw [List.length_map,ql] at ly f4
      obtain ⟨rs4,e4,sts4⟩:=xam.pick (H:=H4) (ss:=srt.filter (xbe pt)) (ys:=ys) (by rw [ly,fi.1]) (fun j y s hy hs=>by
        have hj:j < ((List.range srt.length).filter (xc1 srt pt)).length:=by
          rw [← ly]
          exact (List.getElem?_eq_some_iff.mp hy).1
        obtain ⟨s',q',h1,h2,h3⟩:=f4 j y _ hy (List.getElem?_eq_getElem hj)
        rw [fi.2 j _ (List.getElem?_eq_getElem hj),hs] at h1
        cases h1
        exact ⟨q',h2,h3⟩)
      subst e4
      exact q out pt H4 l2 srt rs4 hpt rfl hf (s1.trans s4) (s1.free hl2) pm1 pw1 el4 sts4
end
end S06
set_option maxRecDepth 100000
set_option maxHeartbeats 4000000
namespace S06
open PySem L2 XL PyProof.Rows
def xnh (t:Adr):Sp:=fun vs H Q _=>∃ (e:Addr) (er:Er),vs = [.ref e]∧ErAt t H e er∧∀ H' l,H l = none→Same H H'→H' l = some (.lst er.told)→Q (.ref l) H'
def Er.more:Er→List V
  | .noPoint v0=>[.str "point",v0]
  | .noCell _ _=>[]
  | .sameColumn _=>[]
  | .sameRow _=>[]
  | .noSide v0=>[.str "side",v0]
  | .noRow v0=>[.str "no row",v0]
def xmr (t:Adr):Sp:=fun vs H Q _=>∃ (e:Addr) (er:Er),vs = [.ref e]∧ErAt t H e er∧∀ H' l,Same H H'→H' l = some (.lst er.more)→Q (.ref l) H'
section
variable {P:Program} {w:World} {K:PySem.W.Frag} {mg:Str→Option Value} {base:Heap} {t:Adr}
theorem ok_s (T:Txt w K mg t):FnOk false P w K mg base (CXo P w) 1 t.f_s t.d_s ["_law_e"] (xmr t):=by
  refine T.F_s.okn (k:=0) sc_s (fun vs H Q E h=>?_) (fun cdv A outer s H vs Q E hr h=>?_)
  · obtain ⟨e,er,rfl,_⟩:=h
    rfl
  · obtain ⟨e,er,rfl,h⟩:=h
    refine ⟨_,xj (xx (i:=1) sc_s.nd rfl (Or.inl rfl) (xac (xh)))
      (xj (xaa (xan (xz xaf rfl T.n_isinstance boot_isinstance (xf (pv 0) (xf (xaz (v:=.ref _) rfl T.g_l rfl) (xh))))) (xn (xx (i:=1) sc_s.nd rfl (Or.inl rfl) (xq xbn (pv 1) (xac (xf (x9) (xf (xbh (pv 0) rfl) (xh))))))) (xw))
      (xj (xaa (xan (xz xaf rfl T.n_isinstance boot_isinstance (xf (pv 0) (xf (xaz (v:=.ref _) rfl T.g_t rfl) (xh))))) (xn (xx (i:=1) sc_s.nd rfl (Or.inl rfl) (xq xbn (pv 1) (xac (xf (x9) (xf (xbh (pv 0) rfl) (xh))))))) (xw))
      (xj (xaa (xan (xz xaf rfl T.n_isinstance boot_isinstance (xf (pv 0) (xf (xaz (v:=.ref _) rfl T.g_ai rfl) (xh))))) (xn (xx (i:=1) sc_s.nd rfl (Or.inl rfl) (xq xbn (pv 1) (xac (xf (x9) (xf (xbh (pv 0) rfl) (xh))))))) (xw))
      (xj (xaa (xan (xz xaf rfl T.n_isinstance boot_isinstance (xf (pv 0) (xf (xaz (v:=.ref _) rfl T.g_a9 rfl) (xh))))) (xn (xx (i:=1) sc_s.nd rfl (Or.inl rfl) (xq xbn (pv 1) (xac (xf (x9) (xf (xbh (pv 0) rfl) (xf (xbh (pv 0) rfl) (xh)))))))) (xw))
      (xj (xaa (xan (xz xaf rfl T.n_isinstance boot_isinstance (xf (pv 0) (xf (xaz (v:=.ref _) rfl T.g_bb rfl) (xh))))) (xn (xx (i:=1) sc_s.nd rfl (Or.inl rfl) (xq xbn (pv 1) (xac (xf (x9) (xf (xbh (pv 0) rfl) (xf (xbh (pv 0) rfl) (xh)))))))) (xw))
      (xj ((by (with_reducible refine' xaa ?c1 ?a2 ?b3); (case c1=>exact xan (xz xaf rfl T.n_isinstance boot_isinstance (xf (pv 0) (xf (xa1 (xaq (xaz (v:=.ref _) rfl T.g_a2 rfl) (xaq (xaz (v:=.ref _) rfl T.g_a3 rfl) (xaq (xaz (v:=.ref _) rfl T.g_au rfl) (xaq (xaz (v:=.ref _) rfl T.g_av rfl) (xaq (xaz (v:=.ref _) rfl T.g_aw rfl) (xaq (xaz (v:=.ref _) rfl T.g_ax rfl) (xaq (xaz (v:=.ref _) rfl T.g_ac rfl) (xaq (xaz (v:=.ref _) rfl T.g_a4 rfl) (xh) rfl) rfl) rfl) rfl) rfl) rfl) rfl) rfl)) (xh))))); (case a2=>((with_reducible refine' xn ?c4); (case c4=>((exact xx (i:=1) sc_s.nd rfl (Or.inl rfl) (xq xbn (pv 1) (xac (xf (x9) (xh))))))))); (case b3=>((exact xw)))))
      (xj (xaa (xbd (xan (xz xaf rfl T.n_isinstance boot_isinstance (xf (pv 0) (xf (xbj (v:=.ty "ValueError") rfl T.n_ec PyProof.Rows.Boot.«ValueError» rfl) (xh)))))) (xn (xx (i:=1) sc_s.nd rfl (Or.inl rfl) (xq xbn (pv 1) (xac (xf (x9) (xh)))))) (xw))
      (xn (xar (pv 1)))))))))),?_⟩
    obtain ⟨ea,q⟩:=h
    cases er with
    | noPoint v0 =>
      rcases ea with ⟨z,_⟩ | ⟨_,dx,he,hdx⟩
      · cases z
      refine ⟨(by show 0≤sizeLine; exact Nat.zero_le _),fun l0 hl0=>?_⟩
      have sa:Same H (upd H l0 (.lst [])):=xo (Same.refl _) hl0
      have ga:upd H l0 (.lst []) l0 = some (.lst []):=xg
      revert sa ga
      generalize upd H l0 (.lst []) = Ha
      intro sa ga
      have ha:Same H Ha:=sa
      have hda:∀ d,some dx = some d→∃ fs,Ha d = some (XD d fs):=fun d z=>by cases z; exact ⟨_,ha _ _ hdx⟩
      refine ⟨_,rfl,_,_,rfl,.inr (.inl ⟨e,_,_,_,true,rfl,(ha _ _ he),(hda),T.x_l,rfl,T.kit_ca,true,rfl,iteT ?_⟩)⟩
      refine ⟨_,rfl,_,rfl,e,_,dx,_,v0,rfl,ha _ _ he,ha _ _ hdx,T.x_l,T.n_c6,lk_1,(by show 2≤sizeLine; decide),fun l1 hl1=>?_⟩
      have sb:Same Ha (upd Ha l1 (.lst [.str "point",v0])):=xo (Same.refl _) hl1
      have gb:upd Ha l1 (.lst [.str "point",v0]) l1 = some (.lst [.str "point",v0]):=xg
      revert sb gb
      generalize upd Ha l1 (.lst [.str "point",v0]) = Hb
      intro sb gb
      refine ⟨l0,l1,_,_,rfl,rfl,sb _ _ ga,gb,(by show 0 + 2≤sizeLine; decide),fun l2 hl2=>?_⟩
      have sc:Same Hb (upd Hb l2 (.lst ([] ++ [.str "point",v0]))):=xo (Same.refl _) hl2
      have gc:upd Hb l2 (.lst ([] ++ [.str "point",v0])) l2 = some (.lst ([] ++ [.str "point",v0])):=xg
      revert sc gc
      generalize upd Hb l2 (.lst ([] ++ [.str "point",v0])) = Hc
      intro sc gc
      have hc:Same H Hc:=ha.trans (sb.trans sc)
      have hdc:∀ d,some dx = some d→∃ fs,Hc d = some (XD d fs):=fun d z=>by cases z; exact ⟨_,hc _ _ hdx⟩
      refine ⟨_,rfl,_,_,rfl,.inr (.inl ⟨e,_,_,_,false,rfl,(hc _ _ he),(hdc),T.x_l,rfl,T.kit_co,false,rfl,iteF ?_⟩)⟩
      refine ⟨_,rfl,_,_,rfl,.inr (.inl ⟨e,_,_,_,false,rfl,(hc _ _ he),(hdc),T.x_l,rfl,T.kit_c9,false,rfl,iteF ?_⟩)⟩
      refine ⟨_,rfl,_,_,rfl,.inr (.inl ⟨e,_,_,_,false,rfl,(hc _ _ he),(hdc),T.x_l,rfl,T.kit_cb,false,rfl,iteF ?_⟩)⟩
      refine ⟨_,rfl,_,_,rfl,.inr (.inl ⟨e,_,_,_,false,rfl,(hc _ _ he),(hdc),T.x_l,rfl,T.kit_cp,false,rfl,iteF ?_⟩)⟩
      refine ⟨_,rfl,(by show 8≤sizeLine; decide),fun tq htq=>?_⟩
      have st:Same Hc (upd Hc tq (.tup [.ref t.C_a2,.ref t.C_a3,.ref t.C_au,.ref t.C_av,.ref t.C_aw,.ref t.C_ax,.ref t.C_ac,.ref t.C_a4])):=xo (Same.refl _) htq
      have gt:upd Hc tq (.tup [.ref t.C_a2,.ref t.C_a3,.ref t.C_au,.ref t.C_av,.ref t.C_aw,.ref t.C_ax,.ref t.C_ac,.ref t.C_a4]) tq = some (.tup [.ref t.C_a2,.ref t.C_a3,.ref t.C_au,.ref t.C_av,.ref t.C_aw,.ref t.C_ax,.ref t.C_ac,.ref t.C_a4]):=xg
      revert st gt
      generalize upd Hc tq (.tup [.ref t.C_a2,.ref t.C_a3,.ref t.C_au,.ref t.C_av,.ref t.C_aw,.ref t.C_ax,.ref t.C_ac,.ref t.C_a4]) = Ht
      intro st gt
      refine ⟨_,_,rfl,.inr (.inr ⟨e,_,_,tq,_,_,false,rfl,(st _ _ (hc _ _ he)),(fun d z=>let ⟨fs,y⟩:=hdc d z; ⟨fs,st _ _ y⟩),T.x_l,rfl,SqT.of gt,rfl,T.kany_l,false,rfl,iteF ?_⟩)⟩
      refine ⟨_,rfl,_,_,rfl,.inr (.inl ⟨e,_,_,_,true,rfl,(st _ _ (hc _ _ he)),(fun d z=>let ⟨fs,y⟩:=hdc d z; ⟨fs,st _ _ y⟩),T.x_l,rfl,T.kitv_l,true,rfl,iteF ?_⟩)⟩
      exact ⟨_,rfl,q _ l2 (hc.trans st) (st _ _ gc)⟩
    | noCell v0 v1 =>
      rcases ea with ⟨z,_⟩ | ⟨_,dx,he,hdx⟩
      · cases z
      refine ⟨(by show 0≤sizeLine; exact Nat.zero_le _),fun l0 hl0=>?_⟩
      have sa:Same H (upd H l0 (.lst [])):=xo (Same.refl _) hl0
      have ga:upd H l0 (.lst []) l0 = some (.lst []):=xg
      revert sa ga
      generalize upd H l0 (.lst []) = Ha
      intro sa ga
      have ha:Same H Ha:=sa
      have hda:∀ d,some dx = some d→∃ fs,Ha d = some (XD d fs):=fun d z=>by cases z; exact ⟨_,ha _ _ hdx⟩
      refine ⟨_,rfl,_,_,rfl,.inr (.inl ⟨e,_,_,_,false,rfl,(ha _ _ he),(hda),T.x_w,rfl,T.kit_ct,false,rfl,iteF ?_⟩)⟩
      refine ⟨_,rfl,_,_,rfl,.inr (.inl ⟨e,_,_,_,false,rfl,(ha _ _ he),(hda),T.x_w,rfl,T.kit_dc,false,rfl,iteF ?_⟩)⟩
      refine ⟨_,rfl,_,_,rfl,.inr (.inl ⟨e,_,_,_,false,rfl,(ha _ _ he),(hda),T.x_w,rfl,T.kit_dt,false,rfl,iteF ?_⟩)⟩
      refine ⟨_,rfl,_,_,rfl,.inr (.inl ⟨e,_,_,_,false,rfl,(ha _ _ he),(hda),T.x_w,rfl,T.kit_cu,false,rfl,iteF ?_⟩)⟩
      refine ⟨_,rfl,_,_,rfl,.inr (.inl ⟨e,_,_,_,false,rfl,(ha _ _ he),(hda),T.x_w,rfl,T.kit_dd,false,rfl,iteF ?_⟩)⟩
      refine ⟨_,rfl,(by show 8≤sizeLine; decide),fun tq htq=>?_⟩
      have st:Same Ha (upd Ha tq (.tup [.ref t.C_a2,.ref t.C_a3,.ref t.C_au,.ref t.C_av,.ref t.C_aw,.ref t.C_ax,.ref t.C_ac,.ref t.C_a4])):=xo (Same.refl _) htq
      have gt:upd Ha tq (.tup [.ref t.C_a2,.ref t.C_a3,.ref t.C_au,.ref t.C_av,.ref t.C_aw,.ref t.C_ax,.ref t.C_ac,.ref t.C_a4]) tq = some (.tup [.ref t.C_a2,.ref t.C_a3,.ref t.C_au,.ref t.C_av,.ref t.C_aw,.ref t.C_ax,.ref t.C_ac,.ref t.C_a4]):=xg
      revert st gt
      generalize upd Ha tq (.tup [.ref t.C_a2,.ref t.C_a3,.ref t.C_au,.ref t.C_av,.ref t.C_aw,.ref t.C_ax,.ref t.C_ac,.ref t.C_a4]) = Ht
      intro st gt
      refine ⟨_,_,rfl,.inr (.inr ⟨e,_,_,tq,_,_,false,rfl,(st _ _ (ha _ _ he)),(fun d z=>let ⟨fs,y⟩:=hda d z; ⟨fs,st _ _ y⟩),T.x_w,rfl,SqT.of gt,rfl,T.kany_w,false,rfl,iteF ?_⟩)⟩
      refine ⟨_,rfl,_,_,rfl,.inr (.inl ⟨e,_,_,_,true,rfl,(st _ _ (ha _ _ he)),(fun d z=>let ⟨fs,y⟩:=hda d z; ⟨fs,st _ _ y⟩),T.x_w,rfl,T.kitv_w,true,rfl,iteF ?_⟩)⟩
      exact ⟨_,rfl,q _ l0 (ha.trans st) (st _ _ ga)⟩
    | sameColumn v0 =>
      rcases ea with ⟨z,_⟩ | ⟨_,dx,he,hdx⟩
      · cases z
      refine ⟨(by show 0≤sizeLine; exact Nat.zero_le _),fun l0 hl0=>?_⟩
      have sa:Same H (upd H l0 (.lst [])):=xo (Same.refl _) hl0
      have ga:upd H l0 (.lst []) l0 = some (.lst []):=xg
      revert sa ga
      generalize upd H l0 (.lst []) = Ha
      intro sa ga
      have ha:Same H Ha:=sa
      have hda:∀ d,some dx = some d→∃ fs,Ha d = some (XD d fs):=fun d z=>by cases z; exact ⟨_,ha _ _ hdx⟩
      refine ⟨_,rfl,_,_,rfl,.inr (.inl ⟨e,_,_,_,false,rfl,(ha _ _ he),(hda),T.x_b,rfl,T.kit_bp,false,rfl,iteF ?_⟩)⟩
      refine ⟨_,rfl,_,_,rfl,.inr (.inl ⟨e,_,_,_,false,rfl,(ha _ _ he),(hda),T.x_b,rfl,T.kit_bw,false,rfl,iteF ?_⟩)⟩
      refine ⟨_,rfl,_,_,rfl,.inr (.inl ⟨e,_,_,_,false,rfl,(ha _ _ he),(hda),T.x_b,rfl,T.kit_b2,false,rfl,iteF ?_⟩)⟩
      refine ⟨_,rfl,_,_,rfl,.inr (.inl ⟨e,_,_,_,false,rfl,(ha _ _ he),(hda),T.x_b,rfl,T.kit_bq,false,rfl,iteF ?_⟩)⟩
      refine ⟨_,rfl,_,_,rfl,.inr (.inl ⟨e,_,_,_,false,rfl,(ha _ _ he),(hda),T.x_b,rfl,T.kit_bx,false,rfl,iteF ?_⟩)⟩
      refine ⟨_,rfl,(by show 8≤sizeLine; decide),fun tq htq=>?_⟩
      have st:Same Ha (upd Ha tq (.tup [.ref t.C_a2,.ref t.C_a3,.ref t.C_au,.ref t.C_av,.ref t.C_aw,.ref t.C_ax,.ref t.C_ac,.ref t.C_a4])):=xo (Same.refl _) htq
      have gt:upd Ha tq (.tup [.ref t.C_a2,.ref t.C_a3,.ref t.C_au,.ref t.C_av,.ref t.C_aw,.ref t.C_ax,.ref t.C_ac,.ref t.C_a4]) tq = some (.tup [.ref t.C_a2,.ref t.C_a3,.ref t.C_au,.ref t.C_av,.ref t.C_aw,.ref t.C_ax,.ref t.C_ac,.ref t.C_a4]):=xg
      revert st gt
      generalize upd Ha tq (.tup [.ref t.C_a2,.ref t.C_a3,.ref t.C_au,.ref t.C_av,.ref t.C_aw,.ref t.C_ax,.ref t.C_ac,.ref t.C_a4]) = Ht
      intro st gt
      refine ⟨_,_,rfl,.inr (.inr ⟨e,_,_,tq,_,_,false,rfl,(st _ _ (ha _ _ he)),(fun d z=>let ⟨fs,y⟩:=hda d z; ⟨fs,st _ _ y⟩),T.x_b,rfl,SqT.of gt,rfl,T.kany_b,false,rfl,iteF ?_⟩)⟩
      refine ⟨_,rfl,_,_,rfl,.inr (.inl ⟨e,_,_,_,true,rfl,(st _ _ (ha _ _ he)),(fun d z=>let ⟨fs,y⟩:=hda d z; ⟨fs,st _ _ y⟩),T.x_b,rfl,T.kitv_b,true,rfl,iteF ?_⟩)⟩
      exact ⟨_,rfl,q _ l0 (ha.trans st) (st _ _ ga)⟩
    | sameRow v0 =>
      rcases ea with ⟨z,_⟩ | ⟨_,dx,he,hdx⟩
      · cases z
      refine ⟨(by show 0≤sizeLine; exact Nat.zero_le _),fun l0 hl0=>?_⟩
      have sa:Same H (upd H l0 (.lst [])):=xo (Same.refl _) hl0
      have ga:upd H l0 (.lst []) l0 = some (.lst []):=xg
      revert sa ga
      generalize upd H l0 (.lst []) = Ha
      intro sa ga
      have ha:Same H Ha:=sa
      have hda:∀ d,some dx = some d→∃ fs,Ha d = some (XD d fs):=fun d z=>by cases z; exact ⟨_,ha _ _ hdx⟩
      refine ⟨_,rfl,_,_,rfl,.inr (.inl ⟨e,_,_,_,false,rfl,(ha _ _ he),(hda),T.x_n,rfl,T.kit_ch,false,rfl,iteF ?_⟩)⟩
      refine ⟨_,rfl,_,_,rfl,.inr (.inl ⟨e,_,_,_,false,rfl,(ha _ _ he),(hda),T.x_n,rfl,T.kit_cx,false,rfl,iteF ?_⟩)⟩
      refine ⟨_,rfl,_,_,rfl,.inr (.inl ⟨e,_,_,_,false,rfl,(ha _ _ he),(hda),T.x_n,rfl,T.kit_de,false,rfl,iteF ?_⟩)⟩
      refine ⟨_,rfl,_,_,rfl,.inr (.inl ⟨e,_,_,_,false,rfl,(ha _ _ he),(hda),T.x_n,rfl,T.kit_ci,false,rfl,iteF ?_⟩)⟩
      refine ⟨_,rfl,_,_,rfl,.inr (.inl ⟨e,_,_,_,false,rfl,(ha _ _ he),(hda),T.x_n,rfl,T.kit_cy,false,rfl,iteF ?_⟩)⟩
      refine ⟨_,rfl,(by show 8≤sizeLine; decide),fun tq htq=>?_⟩
      have st:Same Ha (upd Ha tq (.tup [.ref t.C_a2,.ref t.C_a3,.ref t.C_au,.ref t.C_av,.ref t.C_aw,.ref t.C_ax,.ref t.C_ac,.ref t.C_a4])):=xo (Same.refl _) htq
      have gt:upd Ha tq (.tup [.ref t.C_a2,.ref t.C_a3,.ref t.C_au,.ref t.C_av,.ref t.C_aw,.ref t.C_ax,.ref t.C_ac,.ref t.C_a4]) tq = some (.tup [.ref t.C_a2,.ref t.C_a3,.ref t.C_au,.ref t.C_av,.ref t.C_aw,.ref t.C_ax,.ref t.C_ac,.ref t.C_a4]):=xg
      revert st gt
      generalize upd Ha tq (.tup [.ref t.C_a2,.ref t.C_a3,.ref t.C_au,.ref t.C_av,.ref t.C_aw,.ref t.C_ax,.ref t.C_ac,.ref t.C_a4]) = Ht
      intro st gt
      refine ⟨_,_,rfl,.inr (.inr ⟨e,_,_,tq,_,_,false,rfl,(st _ _ (ha _ _ he)),(fun d z=>let ⟨fs,y⟩:=hda d z; ⟨fs,st _ _ y⟩),T.x_n,rfl,SqT.of gt,rfl,T.kany_n,false,rfl,iteF ?_⟩)⟩
      refine ⟨_,rfl,_,_,rfl,.inr (.inl ⟨e,_,_,_,true,rfl,(st _ _ (ha _ _ he)),(fun d z=>let ⟨fs,y⟩:=hda d z; ⟨fs,st _ _ y⟩),T.x_n,rfl,T.kitv_n,true,rfl,iteF ?_⟩)⟩
      exact ⟨_,rfl,q _ l0 (ha.trans st) (st _ _ ga)⟩
    | noSide v0 =>
      rcases ea with ⟨z,_⟩ | ⟨_,dx,he,hdx⟩
      · cases z
      refine ⟨(by show 0≤sizeLine; exact Nat.zero_le _),fun l0 hl0=>?_⟩
      have sa:Same H (upd H l0 (.lst [])):=xo (Same.refl _) hl0
      have ga:upd H l0 (.lst []) l0 = some (.lst []):=xg
      revert sa ga
      generalize upd H l0 (.lst []) = Ha
      intro sa ga
      have ha:Same H Ha:=sa
      have hda:∀ d,some dx = some d→∃ fs,Ha d = some (XD d fs):=fun d z=>by cases z; exact ⟨_,ha _ _ hdx⟩
      refine ⟨_,rfl,_,_,rfl,.inr (.inl ⟨e,_,_,_,false,rfl,(ha _ _ he),(hda),T.x_t,rfl,T.kit_c2,false,rfl,iteF ?_⟩)⟩
      refine ⟨_,rfl,_,_,rfl,.inr (.inl ⟨e,_,_,_,true,rfl,(ha _ _ he),(hda),T.x_t,rfl,T.kit_dh,true,rfl,iteT ?_⟩)⟩
      refine ⟨_,rfl,_,rfl,e,_,dx,_,v0,rfl,ha _ _ he,ha _ _ hdx,T.x_t,T.n_dq,lk_1,(by show 2≤sizeLine; decide),fun l1 hl1=>?_⟩
      have sb:Same Ha (upd Ha l1 (.lst [.str "side",v0])):=xo (Same.refl _) hl1
      have gb:upd Ha l1 (.lst [.str "side",v0]) l1 = some (.lst [.str "side",v0]):=xg
      revert sb gb
      generalize upd Ha l1 (.lst [.str "side",v0]) = Hb
      intro sb gb
      refine ⟨l0,l1,_,_,rfl,rfl,sb _ _ ga,gb,(by show 0 + 2≤sizeLine; decide),fun l2 hl2=>?_⟩
      have sc:Same Hb (upd Hb l2 (.lst ([] ++ [.str "side",v0]))):=xo (Same.refl _) hl2
      have gc:upd Hb l2 (.lst ([] ++ [.str "side",v0])) l2 = some (.lst ([] ++ [.str "side",v0])):=xg
      revert sc gc
      generalize upd Hb l2 (.lst ([] ++ [.str "side",v0])) = Hc
      intro sc gc
      have hc:Same H Hc:=ha.trans (sb.trans sc)
      have hdc:∀ d,some dx = some d→∃ fs,Hc d = some (XD d fs):=fun d z=>by cases z; exact ⟨_,hc _ _ hdx⟩
      refine ⟨_,rfl,_,_,rfl,.inr (.inl ⟨e,_,_,_,false,rfl,(hc _ _ he),(hdc),T.x_t,rfl,T.kit_du,false,rfl,iteF ?_⟩)⟩
      refine ⟨_,rfl,_,_,rfl,.inr (.inl ⟨e,_,_,_,false,rfl,(hc _ _ he),(hdc),T.x_t,rfl,T.kit_c3,false,rfl,iteF ?_⟩)⟩
      refine ⟨_,rfl,_,_,rfl,.inr (.inl ⟨e,_,_,_,false,rfl,(hc _ _ he),(hdc),T.x_t,rfl,T.kit_di,false,rfl,iteF ?_⟩)⟩
      refine ⟨_,rfl,(by show 8≤sizeLine; decide),fun tq htq=>?_⟩
      have st:Same Hc (upd Hc tq (.tup [.ref t.C_a2,.ref t.C_a3,.ref t.C_au,.ref t.C_av,.ref t.C_aw,.ref t.C_ax,.ref t.C_ac,.ref t.C_a4])):=xo (Same.refl _) htq
      have gt:upd Hc tq (.tup [.ref t.C_a2,.ref t.C_a3,.ref t.C_au,.ref t.C_av,.ref t.C_aw,.ref t.C_ax,.ref t.C_ac,.ref t.C_a4]) tq = some (.tup [.ref t.C_a2,.ref t.C_a3,.ref t.C_au,.ref t.C_av,.ref t.C_aw,.ref t.C_ax,.ref t.C_ac,.ref t.C_a4]):=xg
      revert st gt
      generalize upd Hc tq (.tup [.ref t.C_a2,.ref t.C_a3,.ref t.C_au,.ref t.C_av,.ref t.C_aw,.ref t.C_ax,.ref t.C_ac,.ref t.C_a4]) = Ht
      intro st gt
      refine ⟨_,_,rfl,.inr (.inr ⟨e,_,_,tq,_,_,false,rfl,(st _ _ (hc _ _ he)),(fun d z=>let ⟨fs,y⟩:=hdc d z; ⟨fs,st _ _ y⟩),T.x_t,rfl,SqT.of gt,rfl,T.kany_t,false,rfl,iteF ?_⟩)⟩
      refine ⟨_,rfl,_,_,rfl,.inr (.inl ⟨e,_,_,_,true,rfl,(st _ _ (hc _ _ he)),(fun d z=>let ⟨fs,y⟩:=hdc d z; ⟨fs,st _ _ y⟩),T.x_t,rfl,T.kitv_t,true,rfl,iteF ?_⟩)⟩
      exact ⟨_,rfl,q _ l2 (hc.trans st) (st _ _ gc)⟩
    | noRow v0 =>
      rcases ea with ⟨z,_⟩ | ⟨_,dx,he,hdx⟩
      · cases z
      refine ⟨(by show 0≤sizeLine; exact Nat.zero_le _),fun l0 hl0=>?_⟩
      have sa:Same H (upd H l0 (.lst [])):=xo (Same.refl _) hl0
      have ga:upd H l0 (.lst []) l0 = some (.lst []):=xg
      revert sa ga
      generalize upd H l0 (.lst []) = Ha
      intro sa ga
      have ha:Same H Ha:=sa
      have hda:∀ d,some dx = some d→∃ fs,Ha d = some (XD d fs):=fun d z=>by cases z; exact ⟨_,ha _ _ hdx⟩
      refine ⟨_,rfl,_,_,rfl,.inr (.inl ⟨e,_,_,_,false,rfl,(ha _ _ he),(hda),T.x_ai,rfl,T.kit_dm,false,rfl,iteF ?_⟩)⟩
      refine ⟨_,rfl,_,_,rfl,.inr (.inl ⟨e,_,_,_,false,rfl,(ha _ _ he),(hda),T.x_ai,rfl,T.kit_dx,false,rfl,iteF ?_⟩)⟩
      refine ⟨_,rfl,_,_,rfl,.inr (.inl ⟨e,_,_,_,true,rfl,(ha _ _ he),(hda),T.x_ai,rfl,T.kit_d2,true,rfl,iteT ?_⟩)⟩
      refine ⟨_,rfl,_,rfl,e,_,dx,_,v0,rfl,ha _ _ he,ha _ _ hdx,T.x_ai,T.n_eb,lk_1,(by show 2≤sizeLine; decide),fun l1 hl1=>?_⟩
      have sb:Same Ha (upd Ha l1 (.lst [.str "no row",v0])):=xo (Same.refl _) hl1
      have gb:upd Ha l1 (.lst [.str "no row",v0]) l1 = some (.lst [.str "no row",v0]):=xg
      revert sb gb
      generalize upd Ha l1 (.lst [.str "no row",v0]) = Hb
      intro sb gb
      refine ⟨l0,l1,_,_,rfl,rfl,sb _ _ ga,gb,(by show 0 + 2≤sizeLine; decide),fun l2 hl2=>?_⟩
      have sc:Same Hb (upd Hb l2 (.lst ([] ++ [.str "no row",v0]))):=xo (Same.refl _) hl2
      have gc:upd Hb l2 (.lst ([] ++ [.str "no row",v0])) l2 = some (.lst ([] ++ [.str "no row",v0])):=xg
      revert sc gc
      generalize upd Hb l2 (.lst ([] ++ [.str "no row",v0])) = Hc
      intro sc gc
      have hc:Same H Hc:=ha.trans (sb.trans sc)
      have hdc:∀ d,some dx = some d→∃ fs,Hc d = some (XD d fs):=fun d z=>by cases z; exact ⟨_,hc _ _ hdx⟩
      refine ⟨_,rfl,_,_,rfl,.inr (.inl ⟨e,_,_,_,false,rfl,(hc _ _ he),(hdc),T.x_ai,rfl,T.kit_dn,false,rfl,iteF ?_⟩)⟩
      refine ⟨_,rfl,_,_,rfl,.inr (.inl ⟨e,_,_,_,false,rfl,(hc _ _ he),(hdc),T.x_ai,rfl,T.kit_dy,false,rfl,iteF ?_⟩)⟩
      refine ⟨_,rfl,(by show 8≤sizeLine; decide),fun tq htq=>?_⟩
      have st:Same Hc (upd Hc tq (.tup [.ref t.C_a2,.ref t.C_a3,.ref t.C_au,.ref t.C_av,.ref t.C_aw,.ref t.C_ax,.ref t.C_ac,.ref t.C_a4])):=xo (Same.refl _) htq
      have gt:upd Hc tq (.tup [.ref t.C_a2,.ref t.C_a3,.ref t.C_au,.ref t.C_av,.ref t.C_aw,.ref t.C_ax,.ref t.C_ac,.ref t.C_a4]) tq = some (.tup [.ref t.C_a2,.ref t.C_a3,.ref t.C_au,.ref t.C_av,.ref t.C_aw,.ref t.C_ax,.ref t.C_ac,.ref t.C_a4]):=xg
      revert st gt
      generalize upd Hc tq (.tup [.ref t.C_a2,.ref t.C_a3,.ref t.C_au,.ref t.C_av,.ref t.C_aw,.ref t.C_ax,.ref t.C_ac,.ref t.C_a4]) = Ht
      intro st gt
      refine ⟨_,_,rfl,.inr (.inr ⟨e,_,_,tq,_,_,false,rfl,(st _ _ (hc _ _ he)),(fun d z=>let ⟨fs,y⟩:=hdc d z; ⟨fs,st _ _ y⟩),T.x_ai,rfl,SqT.of gt,rfl,T.kany_ai,false,rfl,iteF ?_⟩)⟩
      refine ⟨_,rfl,_,_,rfl,.inr (.inl ⟨e,_,_,_,true,rfl,(st _ _ (hc _ _ he)),(fun d z=>let ⟨fs,y⟩:=hdc d z; ⟨fs,st _ _ y⟩),T.x_ai,rfl,T.kitv_ai,true,rfl,iteF ?_⟩)⟩
      exact ⟨_,rfl,q _ l2 (hc.trans st) (st _ _ gc)⟩
theorem ok_ar (T:Txt w K mg t):FnOk false P w K mg base (CXo P w) 2 t.f_ar t.d_ar ["_law_e"] (xnh t):=by
  refine T.F_ar.okn (k:=1) sc_ar (fun vs H Q E h=>?_) (fun cdv A outer s H vs Q E hr h=>?_)
  · obtain ⟨e,er,rfl,_⟩:=h
    rfl
  · obtain ⟨e,er,rfl,h⟩:=h
    refine ⟨_,xj (xx (i:=1) sc_ar.nd rfl (Or.inl rfl) (xac (xh)))
      (xj (xaa (xan (xz xaf rfl T.n_isinstance boot_isinstance (xf (pv 0) (xf (xaz (v:=.ref _) rfl T.g_ba rfl) (xh))))) (xn (xx (i:=1) sc_ar.nd rfl (Or.inl rfl) (xq xbn (pv 1) (xac (xf (x9) (xf (xbh (pv 0) rfl) (xh))))))) (xw))
      (xj (xaa (xan (xz xaf rfl T.n_isinstance boot_isinstance (xf (pv 0) (xf (xaz (v:=.ref _) rfl T.g_w rfl) (xh))))) (xn (xx (i:=1) sc_ar.nd rfl (Or.inl rfl) (xq xbn (pv 1) (xac (xf (x9) (xf (xbh (pv 0) rfl) (xf (xbh (pv 0) rfl) (xh)))))))) (xw))
      (xj (xaa (xan (xz xaf rfl T.n_isinstance boot_isinstance (xf (pv 0) (xf (xaz (v:=.ref _) rfl T.g_a7 rfl) (xh))))) (xn (xx (i:=1) sc_ar.nd rfl (Or.inl rfl) (xq xbn (pv 1) (xac (xf (x9) (xf (xbh (pv 0) rfl) (xh))))))) (xw))
      (xj (xaa (xan (xz xaf rfl T.n_isinstance boot_isinstance (xf (pv 0) (xf (xaz (v:=.ref _) rfl T.g_a5 rfl) (xh))))) (xn (xx (i:=1) sc_ar.nd rfl (Or.inl rfl) (xq xbn (pv 1) (xac (xf (x9) (xf (xbh (pv 0) rfl) (xf (xbh (pv 0) rfl) (xh)))))))) (xw))
      (xj (xaa (xan (xz xaf rfl T.n_isinstance boot_isinstance (xf (pv 0) (xf (xaz (v:=.ref _) rfl T.g_a6 rfl) (xh))))) (xn (xx (i:=1) sc_ar.nd rfl (Or.inl rfl) (xq xbn (pv 1) (xac (xf (x9) (xf (xbh (pv 0) rfl) (xh))))))) (xw))
      (xj (xaa (xan (xz xaf rfl T.n_isinstance boot_isinstance (xf (pv 0) (xf (xaz (v:=.ref _) rfl T.g_a8 rfl) (xh))))) (xn (xx (i:=1) sc_ar.nd rfl (Or.inl rfl) (xq xbn (pv 1) (xac (xf (x9) (xh)))))) (xw))
      (xj (xaa (xan (xz xaf rfl T.n_isinstance boot_isinstance (xf (pv 0) (xf (xaz (v:=.ref _) rfl T.g_b rfl) (xh))))) (xn (xx (i:=1) sc_ar.nd rfl (Or.inl rfl) (xq xbn (pv 1) (xac (xf (x9) (xf (xbh (pv 0) rfl) (xh))))))) (xw))
      (xj (xaa (xan (xz xaf rfl T.n_isinstance boot_isinstance (xf (pv 0) (xf (xaz (v:=.ref _) rfl T.g_n rfl) (xh))))) (xn (xx (i:=1) sc_ar.nd rfl (Or.inl rfl) (xq xbn (pv 1) (xac (xf (x9) (xf (xbh (pv 0) rfl) (xh))))))) (xw))
      (xn (xar (xq xbn (pv 1) (xae (ok_s T) (hr.mono (by decide)) rfl T.g_s T.F_s.kp T.b_s .nil xu (xf (pv 0) (xh)))))))))))))),?_⟩
    obtain ⟨ea,q⟩:=h
    cases er with
    | noPoint v0 =>
      have ea0:=ea
      rcases ea with ⟨z,_⟩ | ⟨_,dx,he,hdx⟩
      · cases z
      refine ⟨(by show 0≤sizeLine; exact Nat.zero_le _),fun l0 hl0=>?_⟩
      have sa:Same H (upd H l0 (.lst [])):=xo (Same.refl _) hl0
      have ga:upd H l0 (.lst []) l0 = some (.lst []):=xg
      revert sa ga
      generalize upd H l0 (.lst []) = Ha
      intro sa ga
      have ha:Same H Ha:=sa
      have hda:∀ d,some dx = some d→∃ fs,Ha d = some (XD d fs):=fun d z=>by cases z; exact ⟨_,ha _ _ hdx⟩
      refine ⟨_,rfl,_,_,rfl,.inr (.inl ⟨e,_,_,_,false,rfl,(ha _ _ he),(hda),T.x_l,rfl,T.kit_cm,false,rfl,iteF ?_⟩)⟩
      refine ⟨_,rfl,_,_,rfl,.inr (.inl ⟨e,_,_,_,false,rfl,(ha _ _ he),(hda),T.x_l,rfl,T.kit_cn,false,rfl,iteF ?_⟩)⟩
      refine ⟨_,rfl,_,_,rfl,.inr (.inl ⟨e,_,_,_,false,rfl,(ha _ _ he),(hda),T.x_l,rfl,T.kit_b7,false,rfl,iteF ?_⟩)⟩
      refine ⟨_,rfl,_,_,rfl,.inr (.inl ⟨e,_,_,_,false,rfl,(ha _ _ he),(hda),T.x_l,rfl,T.kit_b0,false,rfl,iteF ?_⟩)⟩
      refine ⟨_,rfl,_,_,rfl,.inr (.inl ⟨e,_,_,_,false,rfl,(ha _ _ he),(hda),T.x_l,rfl,T.kit_b1,false,rfl,iteF ?_⟩)⟩
      refine ⟨_,rfl,_,_,rfl,.inr (.inl ⟨e,_,_,_,false,rfl,(ha _ _ he),(hda),T.x_l,rfl,T.kit_b8,false,rfl,iteF ?_⟩)⟩
      refine ⟨_,rfl,_,_,rfl,.inr (.inl ⟨e,_,_,_,false,rfl,(ha _ _ he),(hda),T.x_l,rfl,T.kit_bl,false,rfl,iteF ?_⟩)⟩
      refine ⟨_,rfl,_,_,rfl,.inr (.inl ⟨e,_,_,_,false,rfl,(ha _ _ he),(hda),T.x_l,rfl,T.kit_b9,false,rfl,iteF ?_⟩)⟩
      refine ⟨_,rfl,_,rfl,e,_,rfl,ErAt.same ha ea0,fun H9 l9 s9 g9=>?_⟩
      refine ⟨l0,l9,_,_,rfl,rfl,s9 _ _ ga,g9,(by show 0 + 2≤sizeLine; decide),fun l8 hl8=>?_⟩
      exact q _ l8 ((ha.trans s9).free hl8) (ha.trans (s9.trans (xo (Same.refl _) hl8))) (by rw [xg]; rfl)
    | noCell v0 v1 =>
      have ea0:=ea
      rcases ea with ⟨z,_⟩ | ⟨_,dx,he,hdx⟩
      · cases z
      refine ⟨(by show 0≤sizeLine; exact Nat.zero_le _),fun l0 hl0=>?_⟩
      have sa:Same H (upd H l0 (.lst [])):=xo (Same.refl _) hl0
      have ga:upd H l0 (.lst []) l0 = some (.lst []):=xg
      revert sa ga
      generalize upd H l0 (.lst []) = Ha
      intro sa ga
      have ha:Same H Ha:=sa
      have hda:∀ d,some dx = some d→∃ fs,Ha d = some (XD d fs):=fun d z=>by cases z; exact ⟨_,ha _ _ hdx⟩
      refine ⟨_,rfl,_,_,rfl,.inr (.inl ⟨e,_,_,_,false,rfl,(ha _ _ he),(hda),T.x_w,rfl,T.kit_da,false,rfl,iteF ?_⟩)⟩
      refine ⟨_,rfl,_,_,rfl,.inr (.inl ⟨e,_,_,_,true,rfl,(ha _ _ he),(hda),T.x_w,rfl,T.kit_db,true,rfl,iteT ?_⟩)⟩
      refine ⟨_,rfl,_,rfl,e,_,dx,_,v0,rfl,ha _ _ he,ha _ _ hdx,T.x_w,T.n_eo,lk_1,_,rfl,e,_,dx,_,v1,rfl,ha _ _ he,ha _ _ hdx,T.x_w,T.n_en,(lk_2 (by decide +kernel)),(by show 3≤sizeLine; decide),fun l1 hl1=>?_⟩
      have sb:Same Ha (upd Ha l1 (.lst [.str "cell",v0,v1])):=xo (Same.refl _) hl1
      have gb:upd Ha l1 (.lst [.str "cell",v0,v1]) l1 = some (.lst [.str "cell",v0,v1]):=xg
      revert sb gb
      generalize upd Ha l1 (.lst [.str "cell",v0,v1]) = Hb
      intro sb gb
      refine ⟨l0,l1,_,_,rfl,rfl,sb _ _ ga,gb,(by show 0 + 3≤sizeLine; decide),fun l2 hl2=>?_⟩
      have sc:Same Hb (upd Hb l2 (.lst ([] ++ [.str "cell",v0,v1]))):=xo (Same.refl _) hl2
      have gc:upd Hb l2 (.lst ([] ++ [.str "cell",v0,v1])) l2 = some (.lst ([] ++ [.str "cell",v0,v1])):=xg
      revert sc gc
      generalize upd Hb l2 (.lst ([] ++ [.str "cell",v0,v1])) = Hc
      intro sc gc
      have hc:Same H Hc:=ha.trans (sb.trans sc)
      have hdc:∀ d,some dx = some d→∃ fs,Hc d = some (XD d fs):=fun d z=>by cases z; exact ⟨_,hc _ _ hdx⟩
      refine ⟨_,rfl,_,_,rfl,.inr (.inl ⟨e,_,_,_,false,rfl,(hc _ _ he),(hdc),T.x_w,rfl,T.kit_cq,false,rfl,iteF ?_⟩)⟩
      refine ⟨_,rfl,_,_,rfl,.inr (.inl ⟨e,_,_,_,false,rfl,(hc _ _ he),(hdc),T.x_w,rfl,T.kit_cc,false,rfl,iteF ?_⟩)⟩
      refine ⟨_,rfl,_,_,rfl,.inr (.inl ⟨e,_,_,_,false,rfl,(hc _ _ he),(hdc),T.x_w,rfl,T.kit_cd,false,rfl,iteF ?_⟩)⟩
      refine ⟨_,rfl,_,_,rfl,.inr (.inl ⟨e,_,_,_,false,rfl,(hc _ _ he),(hdc),T.x_w,rfl,T.kit_cr,false,rfl,iteF ?_⟩)⟩
      refine ⟨_,rfl,_,_,rfl,.inr (.inl ⟨e,_,_,_,false,rfl,(hc _ _ he),(hdc),T.x_w,rfl,T.kit_bt,false,rfl,iteF ?_⟩)⟩
      refine ⟨_,rfl,_,_,rfl,.inr (.inl ⟨e,_,_,_,false,rfl,(hc _ _ he),(hdc),T.x_w,rfl,T.kit_cs,false,rfl,iteF ?_⟩)⟩
      refine ⟨_,rfl,_,rfl,e,_,rfl,ErAt.same hc ea0,fun H9 l9 s9 g9=>?_⟩
      refine ⟨l2,l9,_,_,rfl,rfl,s9 _ _ gc,g9,(by show 3 + 0≤sizeLine; decide),fun l8 hl8=>?_⟩
      exact q _ l8 ((hc.trans s9).free hl8) (hc.trans (s9.trans (xo (Same.refl _) hl8))) (by rw [xg]; rfl)
    | sameColumn v0 =>
      have ea0:=ea
      rcases ea with ⟨z,_⟩ | ⟨_,dx,he,hdx⟩
      · cases z
      refine ⟨(by show 0≤sizeLine; exact Nat.zero_le _),fun l0 hl0=>?_⟩
      have sa:Same H (upd H l0 (.lst [])):=xo (Same.refl _) hl0
      have ga:upd H l0 (.lst []) l0 = some (.lst []):=xg
      revert sa ga
      generalize upd H l0 (.lst []) = Ha
      intro sa ga
      have ha:Same H Ha:=sa
      have hda:∀ d,some dx = some d→∃ fs,Ha d = some (XD d fs):=fun d z=>by cases z; exact ⟨_,ha _ _ hdx⟩
      refine ⟨_,rfl,_,_,rfl,.inr (.inl ⟨e,_,_,_,false,rfl,(ha _ _ he),(hda),T.x_b,rfl,T.kit_bu,false,rfl,iteF ?_⟩)⟩
      refine ⟨_,rfl,_,_,rfl,.inr (.inl ⟨e,_,_,_,false,rfl,(ha _ _ he),(hda),T.x_b,rfl,T.kit_bv,false,rfl,iteF ?_⟩)⟩
      refine ⟨_,rfl,_,_,rfl,.inr (.inl ⟨e,_,_,_,false,rfl,(ha _ _ he),(hda),T.x_b,rfl,T.kit_bm,false,rfl,iteF ?_⟩)⟩
      refine ⟨_,rfl,_,_,rfl,.inr (.inl ⟨e,_,_,_,false,rfl,(ha _ _ he),(hda),T.x_b,rfl,T.kit_bj,false,rfl,iteF ?_⟩)⟩
      refine ⟨_,rfl,_,_,rfl,.inr (.inl ⟨e,_,_,_,false,rfl,(ha _ _ he),(hda),T.x_b,rfl,T.kit_bk,false,rfl,iteF ?_⟩)⟩
      refine ⟨_,rfl,_,_,rfl,.inr (.inl ⟨e,_,_,_,false,rfl,(ha _ _ he),(hda),T.x_b,rfl,T.kit_bn,false,rfl,iteF ?_⟩)⟩
      refine ⟨_,rfl,_,_,rfl,.inr (.inl ⟨e,_,_,_,true,rfl,(ha _ _ he),(hda),T.x_b,rfl,T.kit_bh,true,rfl,iteT ?_⟩)⟩
      refine ⟨_,rfl,_,rfl,e,_,dx,_,v0,rfl,ha _ _ he,ha _ _ hdx,T.x_b,T.n_bs,lk_1,(by show 2≤sizeLine; decide),fun l1 hl1=>?_⟩
      have sb:Same Ha (upd Ha l1 (.lst [.str "column",v0])):=xo (Same.refl _) hl1
      have gb:upd Ha l1 (.lst [.str "column",v0]) l1 = some (.lst [.str "column",v0]):=xg
      revert sb gb
      generalize upd Ha l1 (.lst [.str "column",v0]) = Hb
      intro sb gb
      refine ⟨l0,l1,_,_,rfl,rfl,sb _ _ ga,gb,(by show 0 + 2≤sizeLine; decide),fun l2 hl2=>?_⟩
      have sc:Same Hb (upd Hb l2 (.lst ([] ++ [.str "column",v0]))):=xo (Same.refl _) hl2
      have gc:upd Hb l2 (.lst ([] ++ [.str "column",v0])) l2 = some (.lst ([] ++ [.str "column",v0])):=xg
      revert sc gc
      generalize upd Hb l2 (.lst ([] ++ [.str "column",v0])) = Hc
      intro sc gc
      have hc:Same H Hc:=ha.trans (sb.trans sc)
      have hdc:∀ d,some dx = some d→∃ fs,Hc d = some (XD d fs):=fun d z=>by cases z; exact ⟨_,hc _ _ hdx⟩
      refine ⟨_,rfl,_,_,rfl,.inr (.inl ⟨e,_,_,_,false,rfl,(hc _ _ he),(hdc),T.x_b,rfl,T.kit_bo,false,rfl,iteF ?_⟩)⟩
      refine ⟨_,rfl,_,rfl,e,_,rfl,ErAt.same hc ea0,fun H9 l9 s9 g9=>?_⟩
      refine ⟨l2,l9,_,_,rfl,rfl,s9 _ _ gc,g9,(by show 2 + 0≤sizeLine; decide),fun l8 hl8=>?_⟩
      exact q _ l8 ((hc.trans s9).free hl8) (hc.trans (s9.trans (xo (Same.refl _) hl8))) (by rw [xg]; rfl)
    | sameRow v0 =>
      have ea0:=ea
      rcases ea with ⟨z,_⟩ | ⟨_,dx,he,hdx⟩
      · cases z
      refine ⟨(by show 0≤sizeLine; exact Nat.zero_le _),fun l0 hl0=>?_⟩
      have sa:Same H (upd H l0 (.lst [])):=xo (Same.refl _) hl0
      have ga:upd H l0 (.lst []) l0 = some (.lst []):=xg
      revert sa ga
      generalize upd H l0 (.lst []) = Ha
      intro sa ga
      have ha:Same H Ha:=sa
      have hda:∀ d,some dx = some d→∃ fs,Ha d = some (XD d fs):=fun d z=>by cases z; exact ⟨_,ha _ _ hdx⟩
      refine ⟨_,rfl,_,_,rfl,.inr (.inl ⟨e,_,_,_,false,rfl,(ha _ _ he),(hda),T.x_n,rfl,T.kit_cv,false,rfl,iteF ?_⟩)⟩
      refine ⟨_,rfl,_,_,rfl,.inr (.inl ⟨e,_,_,_,false,rfl,(ha _ _ he),(hda),T.x_n,rfl,T.kit_cw,false,rfl,iteF ?_⟩)⟩
      refine ⟨_,rfl,_,_,rfl,.inr (.inl ⟨e,_,_,_,false,rfl,(ha _ _ he),(hda),T.x_n,rfl,T.kit_ce,false,rfl,iteF ?_⟩)⟩
      refine ⟨_,rfl,_,_,rfl,.inr (.inl ⟨e,_,_,_,false,rfl,(ha _ _ he),(hda),T.x_n,rfl,T.kit_b3,false,rfl,iteF ?_⟩)⟩
      refine ⟨_,rfl,_,_,rfl,.inr (.inl ⟨e,_,_,_,false,rfl,(ha _ _ he),(hda),T.x_n,rfl,T.kit_b4,false,rfl,iteF ?_⟩)⟩
      refine ⟨_,rfl,_,_,rfl,.inr (.inl ⟨e,_,_,_,false,rfl,(ha _ _ he),(hda),T.x_n,rfl,T.kit_cf,false,rfl,iteF ?_⟩)⟩
      refine ⟨_,rfl,_,_,rfl,.inr (.inl ⟨e,_,_,_,false,rfl,(ha _ _ he),(hda),T.x_n,rfl,T.kit_br,false,rfl,iteF ?_⟩)⟩
      refine ⟨_,rfl,_,_,rfl,.inr (.inl ⟨e,_,_,_,true,rfl,(ha _ _ he),(hda),T.x_n,rfl,T.kit_cg,true,rfl,iteT ?_⟩)⟩
      refine ⟨_,rfl,_,rfl,e,_,dx,_,v0,rfl,ha _ _ he,ha _ _ hdx,T.x_n,T.n_c8,lk_1,(by show 2≤sizeLine; decide),fun l1 hl1=>?_⟩
      have sb:Same Ha (upd Ha l1 (.lst [.str "row",v0])):=xo (Same.refl _) hl1
      have gb:upd Ha l1 (.lst [.str "row",v0]) l1 = some (.lst [.str "row",v0]):=xg
      revert sb gb
      generalize upd Ha l1 (.lst [.str "row",v0]) = Hb
      intro sb gb
      refine ⟨l0,l1,_,_,rfl,rfl,sb _ _ ga,gb,(by show 0 + 2≤sizeLine; decide),fun l2 hl2=>?_⟩
      have sc:Same Hb (upd Hb l2 (.lst ([] ++ [.str "row",v0]))):=xo (Same.refl _) hl2
      have gc:upd Hb l2 (.lst ([] ++ [.str "row",v0])) l2 = some (.lst ([] ++ [.str "row",v0])):=xg
      revert sc gc
      generalize upd Hb l2 (.lst ([] ++ [.str "row",v0])) = Hc
      intro sc gc
      have hc:Same H Hc:=ha.trans (sb.trans sc)
      have hdc:∀ d,some dx = some d→∃ fs,Hc d = some (XD d fs):=fun d z=>by cases z; exact ⟨_,hc _ _ hdx⟩
      refine ⟨_,rfl,_,rfl,e,_,rfl,ErAt.same hc ea0,fun H9 l9 s9 g9=>?_⟩
      refine ⟨l2,l9,_,_,rfl,rfl,s9 _ _ gc,g9,(by show 2 + 0≤sizeLine; decide),fun l8 hl8=>?_⟩
      exact q _ l8 ((hc.trans s9).free hl8) (hc.trans (s9.trans (xo (Same.refl _) hl8))) (by rw [xg]; rfl)
    | noSide v0 =>
      have ea0:=ea
      rcases ea with ⟨z,_⟩ | ⟨_,dx,he,hdx⟩
      · cases z
      refine ⟨(by show 0≤sizeLine; exact Nat.zero_le _),fun l0 hl0=>?_⟩
      have sa:Same H (upd H l0 (.lst [])):=xo (Same.refl _) hl0
      have ga:upd H l0 (.lst []) l0 = some (.lst []):=xg
      revert sa ga
      generalize upd H l0 (.lst []) = Ha
      intro sa ga
      have ha:Same H Ha:=sa
      have hda:∀ d,some dx = some d→∃ fs,Ha d = some (XD d fs):=fun d z=>by cases z; exact ⟨_,ha _ _ hdx⟩
      refine ⟨_,rfl,_,_,rfl,.inr (.inl ⟨e,_,_,_,false,rfl,(ha _ _ he),(hda),T.x_t,rfl,T.kit_df,false,rfl,iteF ?_⟩)⟩
      refine ⟨_,rfl,_,_,rfl,.inr (.inl ⟨e,_,_,_,false,rfl,(ha _ _ he),(hda),T.x_t,rfl,T.kit_dg,false,rfl,iteF ?_⟩)⟩
      refine ⟨_,rfl,_,_,rfl,.inr (.inl ⟨e,_,_,_,false,rfl,(ha _ _ he),(hda),T.x_t,rfl,T.kit_cz,false,rfl,iteF ?_⟩)⟩
      refine ⟨_,rfl,_,_,rfl,.inr (.inl ⟨e,_,_,_,false,rfl,(ha _ _ he),(hda),T.x_t,rfl,T.kit_cj,false,rfl,iteF ?_⟩)⟩
      refine ⟨_,rfl,_,_,rfl,.inr (.inl ⟨e,_,_,_,false,rfl,(ha _ _ he),(hda),T.x_t,rfl,T.kit_ck,false,rfl,iteF ?_⟩)⟩
      refine ⟨_,rfl,_,_,rfl,.inr (.inl ⟨e,_,_,_,false,rfl,(ha _ _ he),(hda),T.x_t,rfl,T.kit_c0,false,rfl,iteF ?_⟩)⟩
      refine ⟨_,rfl,_,_,rfl,.inr (.inl ⟨e,_,_,_,false,rfl,(ha _ _ he),(hda),T.x_t,rfl,T.kit_by,false,rfl,iteF ?_⟩)⟩
      refine ⟨_,rfl,_,_,rfl,.inr (.inl ⟨e,_,_,_,false,rfl,(ha _ _ he),(hda),T.x_t,rfl,T.kit_c1,false,rfl,iteF ?_⟩)⟩
      refine ⟨_,rfl,_,rfl,e,_,rfl,ErAt.same ha ea0,fun H9 l9 s9 g9=>?_⟩
      refine ⟨l0,l9,_,_,rfl,rfl,s9 _ _ ga,g9,(by show 0 + 2≤sizeLine; decide),fun l8 hl8=>?_⟩
      exact q _ l8 ((ha.trans s9).free hl8) (ha.trans (s9.trans (xo (Same.refl _) hl8))) (by rw [xg]; rfl)
    | noRow v0 =>
      have ea0:=ea
      rcases ea with ⟨z,_⟩ | ⟨_,dx,he,hdx⟩
      · cases z
      refine ⟨(by show 0≤sizeLine; exact Nat.zero_le _),fun l0 hl0=>?_⟩
      have sa:Same H (upd H l0 (.lst [])):=xo (Same.refl _) hl0
      have ga:upd H l0 (.lst []) l0 = some (.lst []):=xg
      revert sa ga
      generalize upd H l0 (.lst []) = Ha
      intro sa ga
      have ha:Same H Ha:=sa
      have hda:∀ d,some dx = some d→∃ fs,Ha d = some (XD d fs):=fun d z=>by cases z; exact ⟨_,ha _ _ hdx⟩
      refine ⟨_,rfl,_,_,rfl,.inr (.inl ⟨e,_,_,_,false,rfl,(ha _ _ he),(hda),T.x_ai,rfl,T.kit_dv,false,rfl,iteF ?_⟩)⟩
      refine ⟨_,rfl,_,_,rfl,.inr (.inl ⟨e,_,_,_,false,rfl,(ha _ _ he),(hda),T.x_ai,rfl,T.kit_dw,false,rfl,iteF ?_⟩)⟩
      refine ⟨_,rfl,_,_,rfl,.inr (.inl ⟨e,_,_,_,false,rfl,(ha _ _ he),(hda),T.x_ai,rfl,T.kit_dj,false,rfl,iteF ?_⟩)⟩
      refine ⟨_,rfl,_,_,rfl,.inr (.inl ⟨e,_,_,_,false,rfl,(ha _ _ he),(hda),T.x_ai,rfl,T.kit_c4,false,rfl,iteF ?_⟩)⟩
      refine ⟨_,rfl,_,_,rfl,.inr (.inl ⟨e,_,_,_,false,rfl,(ha _ _ he),(hda),T.x_ai,rfl,T.kit_c5,false,rfl,iteF ?_⟩)⟩
      refine ⟨_,rfl,_,_,rfl,.inr (.inl ⟨e,_,_,_,false,rfl,(ha _ _ he),(hda),T.x_ai,rfl,T.kit_dk,false,rfl,iteF ?_⟩)⟩
      refine ⟨_,rfl,_,_,rfl,.inr (.inl ⟨e,_,_,_,false,rfl,(ha _ _ he),(hda),T.x_ai,rfl,T.kit_b5,false,rfl,iteF ?_⟩)⟩
      refine ⟨_,rfl,_,_,rfl,.inr (.inl ⟨e,_,_,_,false,rfl,(ha _ _ he),(hda),T.x_ai,rfl,T.kit_dl,false,rfl,iteF ?_⟩)⟩
      refine ⟨_,rfl,_,rfl,e,_,rfl,ErAt.same ha ea0,fun H9 l9 s9 g9=>?_⟩
      refine ⟨l0,l9,_,_,rfl,rfl,s9 _ _ ga,g9,(by show 0 + 2≤sizeLine; decide),fun l8 hl8=>?_⟩
      exact q _ l8 ((ha.trans s9).free hl8) (ha.trans (s9.trans (xo (Same.refl _) hl8))) (by rw [xg]; rfl)
end
end S06
set_option maxRecDepth 100000
set_option maxHeartbeats 4000000
namespace S06
open PySem L2 XL PyProof.Rows
theorem xjp {x d:Int} (h:0 < d) (h2:d≤4294967296):-(2 ^ 64) < x % d∧x % d < 2 ^ 64:=by
  have a:=Int.emod_nonneg x (show d≠0 by omega)
  have b:=Int.emod_lt_of_pos x h
  exact ⟨by omega,by omega⟩
theorem xaw (x:Int) {d:Int} (h:0 < d):0≤x % d∧x % d < d:=⟨Int.emod_nonneg _ (by omega),Int.emod_lt_of_pos _ h⟩
def xob (K:PySem.W.Frag):Sp:=fun vs H Q _=>∃ (a:Addr) (ns:List Int) (k:Int),vs = [.ref a,.int k]∧SqL K H a (ns.map V.int)∧0≤k∧k < 2 ^ 62∧∀ c:Int,Q (.int c) H
def xp3:Sp:=fun vs H Q _=>∃ c k:Int,vs = [.int c,.int k]∧∀ m:Int,0≤m→m < 2147483587→Q (.int m) H
def abc:Str:="abcdefghijklmnopqrstuvwxyz"
theorem xnp:abc.cps.toList = (List.range 26).map (97 + ·):=by decide +kernel
def ltr (i:Int):Str:=⟨#[97 + i.toNat]⟩
theorem xmu {i:Int} (h0:0≤i) (h1:i < 26):atI abc.cps.toList i = some (97 + i.toNat):=by
  obtain ⟨j,rfl⟩:=Int.eq_ofNat_of_zero_le h0
  have lt:j < 26:=by omega
  refine xda ?_
  rw [xnp,List.getElem?_map,List.getElem?_range lt]
  rfl
theorem xmz {i j:Int} (hi:0≤i) (hj:0≤j) (h:ltr i = ltr j):i = j:=by
  unfold ltr at h
  have:=congrArg (fun s:Str=>s.cps.toList) h
  simp at this
  omega
theorem xl5 {i:Int} (h0:0≤i) (h1:i < 26):isNm (ltr i) = true:=by
  unfold isNm ltr
  have g1:¬ ([97 + i.toNat] < [97]):=by rw [List.cons_lt_cons_iff]; rintro (z | ⟨_,z⟩); omega; cases z
  have g2:¬ ([122] < [97 + i.toNat]):=by rw [List.cons_lt_cons_iff]; rintro (z | ⟨_,z⟩); omega; cases z
  show (decide (1 = 1) && (!decide ([97 + i.toNat] < [97]) && !decide ([122] < [97 + i.toNat]))) = true
  rw [decide_eq_false g1,decide_eq_false g2]
  rfl
def xqd:List Int:=[1,3,5,7,9,11,15,17,19,21,23,25]
section
variable {P:Program} {w:World} {K:PySem.W.Frag} {mg:Str→Option Value} {base:Heap} {t:Adr}
theorem ok_as (T:Txt w K mg t):FnOk true P w K mg base (CXo P w) 1 t.f_as t.d_as ["_law_script", "_law_k"] (xob K):=by
  refine T.F_as.okn (k:=0) sc_as (fun vs H Q E h=>?_) (fun cdv A outer s H vs Q E hr h=>?_)
  · obtain ⟨a,ns,k,rfl,_⟩:=h
    rfl
  · obtain ⟨a,ns,k,rfl,h⟩:=h
    refine ⟨_,xj (xaa (xad xmn (pv 1) (xz xcj rfl T.n_len boot_len (xf (pv 0) (xh))) (xaj _)) (xn (xar (x5 xas (pv 0) (pv 1) (fun _ _=>rfl)))) (xw))
      (xn (xar (xq xax (xq xcx (xi) (pv 1)) (xi)))),?_⟩
    obtain ⟨hs,k0,k1,q⟩:=h
    refine ⟨_,rfl,_,rfl,a,_,rfl,.inl hs,_,_,rfl,rfl,_,rfl,?_⟩
    refine ite2 (fun c=>?_) (fun c=>?_)
    · have c':k < (ns.length:Int):=by simpa using c
      obtain ⟨j,rfl⟩:=Int.eq_ofNat_of_zero_le k0
      have lt:j < ns.length:=by omega
      exact ⟨_,rfl,_,rfl,a,_,_,_,rfl,rfl,hs,xda (by rw [List.getElem?_map,List.getElem?_eq_getElem lt]; rfl),q _⟩
    · exact ⟨_,rfl,_,_,rfl,rfl,.inl ⟨by decide,by decide⟩,_,_,rfl,rfl,q _⟩
theorem ok_x (T:Txt w K mg t):FnOk true P w K mg base (CXo P w) 1 t.f_x t.d_x ["_law_cell_here", "_law_k"] (xp3):=by
  refine T.F_x.okn (k:=0) sc_x (fun vs H Q E h=>?_) (fun cdv A outer s H vs Q E hr h=>?_)
  · obtain ⟨c,k,rfl,_⟩:=h
    rfl
  · obtain ⟨c,k,rfl,h⟩:=h
    refine ⟨_,xj (xx (i:=2) sc_x.nd rfl (Or.inl rfl) (xq xau (xq xax (pv 0) (xq xcx (xi) (pv 1))) (xi)))
      (xj (xx (i:=2) sc_x.nd rfl (Or.inl rfl) (xq xau (xq xax (xq xcx (pv 2) (xi)) (pv 1)) (xi)))
      (xj (xx (i:=2) sc_x.nd rfl (Or.inl rfl) (xq xau (xq xcx (pv 2) (xq xax (pv 2) (xi))) (xi)))
      (xn (xar (xq xau (xq xcx (pv 2) (xq xax (pv 2) (xi))) (xi)))))),?_⟩
    refine ⟨_,rfl,_,rfl,_,_,rfl,rfl,.inl ⟨by decide,by decide⟩,_,_,rfl,rfl,_,_,rfl,rfl,(by show (0:Int) < 2147483647; decide),?_⟩
    refine ⟨_,rfl,_,_,rfl,rfl,.inr ⟨by decide,by decide⟩,_,rfl,_,_,rfl,rfl,_,_,rfl,rfl,(by show (0:Int) < 2147483647; decide),?_⟩
    refine ⟨_,rfl,_,rfl,_,_,rfl,rfl,_,_,rfl,rfl,.inl (xjp (by decide) (by decide)),_,_,rfl,rfl,(by show (0:Int) < 2147483629; decide),?_⟩
    refine ⟨_,rfl,_,rfl,_,_,rfl,rfl,_,_,rfl,rfl,.inl (xjp (by decide) (by decide)),_,_,rfl,rfl,(by show (0:Int) < 2147483587; decide),?_⟩
    exact h _ (xaw _ (by decide)).1 (xaw _ (by decide)).2
end
end S06
set_option maxRecDepth 100000
set_option maxHeartbeats 4000000
namespace S06
open PySem L2 XL PyProof.Rows
def xle (t:Adr):Sp:=fun vs H Q _=>∃ c:Int,vs = [.int c,.int 12]∧∀ (H':Hp) (tp a dp do_ l:Addr) (w h:Int) (ps:List Pt) (qs:List Addr),Same H H'→H' tp = some (.tup [.ref a,.ref l])→Pic t H' a dp do_ w h ps→H' do_ = some (.dT [])→xb8 w h ps→H' l = some (.lst (qs.map V.ref))→PtsL H' ps qs→H a = none→H dp = none→H do_ = none→H l = none→Q (.ref tp) H'
theorem xnx (m:Int):∃ x:Str,atI [V.str "both",V.str "left",V.str "right"] (m % 3) = some (.str x)∧(x = "left"∨x = "right"∨x = "both"):=by
  obtain ⟨h0,h1⟩:=xaw m (show (0:Int) < 3 by decide)
  have:m % 3 = 0∨m % 3 = 1∨m % 3 = 2:=by omega
  rcases this with e | e | e <;> rw [e]
  · exact ⟨"both",rfl,.inr (.inr rfl)⟩
  · exact ⟨"left",rfl,.inl rfl⟩
  · exact ⟨"right",rfl,.inr (.inl rfl)⟩
theorem ltr7 {f:Int} {i k:Nat} (h:k < i) (hi:i < 13):ltr ((f + 7 * (k:Int)) % 26)≠ltr ((f + 7 * (0 + (i:Int))) % 26):=fun e=>by
  have e':=xmz (xaw _ (by decide)).1 (xaw _ (by decide)).1 e
  omega
theorem xf7 {x:Int} {zs:List Int}:inV (.int x) (zs.map V.int) = decide (x ∈ zs):=by
  unfold inV
  rw [Bool.eq_iff_iff,List.any_eq_true,decide_eq_true_iff]
  constructor
  · rintro ⟨y,hy,e⟩
    obtain ⟨z,hz,rfl⟩:=List.mem_map.mp hy
    have:z = x:=by simpa [eqV] using e
    exact this ▸ hz
  · intro h
    exact ⟨.int x,List.mem_map.mpr ⟨x,h,rfl⟩,by simp [eqV]⟩
theorem xfc (zs:List Int):(zs.map V.int).all xc4 = true:=by
  rw [List.all_eq_true]
  intro z hz
  obtain ⟨i,_,rfl⟩:=List.mem_map.mp hz
  rfl
theorem xb8.snoc {w h:Int} {ps:List Pt} (o:xb8 w h ps) {p:Pt} (k:PtOk w h p) (n1:∀ q ∈ ps,q.nm≠p.nm) (n2:p.x ∉ ps.map (·.x)) (n3:p.y ∉ ps.map (·.y)) (l:ps.length < 12):xb8 w h (ps ++ [p]):=by
  refine ⟨fun q hq=>?_,?_,?_,?_,by rw [List.length_append]; exact l⟩
  · rcases List.mem_append.mp hq with z | z
    · exact o.ok q z
    · rw [List.mem_singleton.mp z]; exact k
  · rw [List.map_append,List.nodup_append]
    refine ⟨o.nn,by simp,fun a ha b hb e=>?_⟩
    obtain ⟨q,hq,rfl⟩:=List.mem_map.mp ha
    simp at hb
    subst hb
    exact n1 q hq e
  · rw [List.map_append,List.nodup_append]
    refine ⟨o.nx,by simp,fun a ha b hb e=>?_⟩
    simp at hb
    subst hb
    exact n2 (e ▸ ha)
  · rw [List.map_append,List.nodup_append]
    refine ⟨o.ny,by simp,fun a ha b hb e=>?_⟩
    simp at hb
    subst hb
    exact n3 (e ▸ ha)
section
variable {P:Program} {w:World} {K:PySem.W.Frag} {mg:Str→Option Value} {base:Heap} {t:Adr}
theorem ok_ad (T:Txt w K mg t):FnOk true P w K mg base (CXo P w) 4 t.f_ad t.d_ad ["_law_cell_here", "_law_most"] (xle t):=by
  refine T.F_ad.okn (k:=3) sc_ad (fun vs H Q E h=>?_) (fun cdv A outer s H vs Q E hr h=>?_)
  · obtain ⟨c,rfl,_⟩:=h
    rfl
  · obtain ⟨c,rfl,h⟩:=h
    refine ⟨_,xj (xx (i:=2) sc_ad.nd rfl (Or.inl rfl) (xq xax (xi) (xq xau (xae (ok_x T) (hr.mono (by decide)) rfl T.g_x T.F_x.kp T.b_x .nil xu (xf (pv 0) (xf (xi) (xh)))) (xi))))
      (xj (xx (i:=3) sc_ad.nd rfl (Or.inl rfl) (xq xax (xi) (xq xau (xae (ok_x T) (hr.mono (by decide)) rfl T.g_x T.F_x.kp T.b_x .nil xu (xf (pv 0) (xf (xi) (xh)))) (xi))))
      (xj (xx (i:=4) sc_ad.nd rfl (Or.inl rfl) (xd5 T.k_j (ok_ah T) (hr.mono (by decide)) rfl T.g_j T.b_ah .nil xu (xf (pv 2) (xf (pv 3) (xh)))))
      (xj (xx (i:=5) sc_ad.nd rfl (Or.inl rfl) (xac (xh)))
      (xj (xx (i:=6) sc_ad.nd rfl (Or.inl rfl) (xae (ok_x T) (hr.mono (by decide)) rfl T.g_x T.F_x.kp T.b_x .nil xu (xf (pv 0) (xf (xi) (xh)))))
      (xj (xcz PassesOwn.never rfl (xgs rfl T.n_range (xf (xq xau (xae (ok_x T) (hr.mono (by decide)) rfl T.g_x T.F_x.kp T.b_x .nil xu (xf (pv 0) (xf (xi) (xh)))) (xq xax (pv 1) (xi))) (xh))) (xap (i:=7) sc_ad.nd rfl (Or.inl rfl)) (xj (xx (i:=8) sc_ad.nd rfl (Or.inl rfl) (xq xax (xi) (xq xau (xq xax (pv 6) (xq xcx (xq xax (xi) (xq xau (xq xbi (pv 6) (xi)) (xi))) (pv 7))) (pv 2))))
      (xj (xx (i:=9) sc_ad.nd rfl (Or.inl rfl) (xq xax (xi) (xq xau (xq xax (xq xbi (pv 6) (xi)) (xq xcx (xq xax (xi) (xq xau (xq xbi (pv 6) (xi)) (xi))) (pv 7))) (pv 3))))
      (xj (xx (i:=10) sc_ad.nd rfl (Or.inl rfl) (xae (ok_x T) (hr.mono (by decide)) rfl T.g_x T.F_x.kp T.b_x .nil xu (xf (pv 0) (xf (xq xax (xi) (pv 7)) (xh)))))
      (xj (xx (i:=11) sc_ad.nd rfl (Or.inl rfl) (xq xax (xi) (xq xau (xq xbi (pv 10) (xi)) (pv 3))))
      (xj ((by (with_reducible refine' xx (i:=12) ?n5 ?i6 ?x7 ?e8 ?s9 ?f10); (case n5=>exact sc_ad.nd); (case i6=>rfl); (case x7=>exact Or.inl rfl); (case f10=>exact Or.inl rfl); (case e8=>((exact xa1 (xaq (x5 xnu (x9) (xq xau (xq xax (pv 6) (xq xcx (xi) (pv 7))) (xi)) (fun _ _=>rfl)) (xaq (pv 8) (xaq (pv 9) (xaq (x5 xas (xac (xf (x9) (xf (x9) (xf (x9) (xh))))) (xq xau (pv 10) (xi)) (fun _ _=>rfl)) (xaq (pv 11) (xaq (xq xax (pv 11) (xq xau (xq xbi (pv 10) (xi)) (xq xcv (xq xax (pv 3) (xi)) (pv 11)))) (xh) rfl) rfl) rfl) rfl) rfl) rfl)))); (case s9=>rfl)))
      (xn (xaa (PW.pt (xku (xad xdg (pv 8) (xdm rfl (xby (zs:=["_law_one"]) (ys:=[]) (fr:=[]) (N0:=["_law_cell_here", "_law_most", "_law_width", "_law_height", "_law_picture", "_law_rows", "_law_first", "_law_k", "_law_x", "_law_y", "_law_number", "_law_low", "_law_row"]) (sc0:=xk s_ad) (by decide +kernel) rfl rfl rfl) (xbp (pv 5)) (fun _ _ _ _ _ ow nd=>xap (i:=0) nd rfl (Or.inl (ow _ (by simp))) (Or.inr (ow _ (by simp)))) (xbz (by decide)) (fun _ _ _ _ _=>xd6) (fun _ _ _ _ _=>x5 (r:=rIxT K) xak (pv 0) (xi) (fun _ _=>rfl))) (by rfl)) (xir (xad xdg (pv 9) (xdm rfl (xby (zs:=["_law_one"]) (ys:=[]) (fr:=[]) (N0:=["_law_cell_here", "_law_most", "_law_width", "_law_height", "_law_picture", "_law_rows", "_law_first", "_law_k", "_law_x", "_law_y", "_law_number", "_law_low", "_law_row"]) (sc0:=xk s_ad) (by decide +kernel) rfl rfl rfl) (xbp (pv 5)) (fun _ _ _ _ _ ow nd=>xap (i:=0) nd rfl (Or.inl (ow _ (by simp))) (Or.inr (ow _ (by simp)))) (xbz (by decide)) (fun _ _ _ _ _=>xd6) (fun _ _ _ _ _=>x5 (r:=rIxT K) xak (pv 0) (xi) (fun _ _=>rfl))) (by rfl))))) (xj (xav (xay (pv 4) T.c_j T.m_q (ok_q T) (hr.mono (by decide)) T.b_q .nil xu (xaq (x5 xak (pv 12) (xi) (fun _ _=>rfl)) (xaq (x5 xak (pv 12) (xi) (fun _ _=>rfl)) (xaq (x5 xak (pv 12) (xi) (fun _ _=>rfl)) (xaq (x5 xak (pv 12) (xi) (fun _ _=>rfl)) (xaq (x5 xak (pv 12) (xi) (fun _ _=>rfl)) (xaq (x5 xak (pv 12) (xi) (fun _ _=>rfl)) (xh) rfl) rfl) rfl) rfl) rfl) rfl)))
      (xn (xav (xfm PySem.F.plainAttrs_list PySem.F.slot_list_append PySem.F.type_list_append xcw (pv 5) (xf (pv 12) (xh)))))) (xw)))))))))
      (xn (xar (xa1 (xf (pv 4) (xf (pv 5) (xh))))))))))),?_⟩
    refine ⟨_,rfl,c,900,rfl,fun m1 a1 b1=>⟨_,_,rfl,rfl,(by show (0:Int) < 30; decide),_,_,rfl,rfl,?_⟩⟩
    refine ⟨_,rfl,c,901,rfl,fun m2 a2 b2=>⟨_,_,rfl,rfl,(by show (0:Int) < 16; decide),_,_,rfl,rfl,?_⟩⟩
    have wb:=xaw m1 (show (0:Int) < 30 by decide)
    have hb:=xaw m2 (show (0:Int) < 16 by decide)
    obtain ⟨w,ew⟩:∃ w,w = 1 + m1 % 30:=⟨_,rfl⟩
    obtain ⟨ph,eh⟩:∃ h,h = 1 + m2 % 16:=⟨_,rfl⟩
    dsimp only
    rw [← ew,← eh]
    have w1:1≤w:=by omega
    have w2:w≤30:=by omega
    have h1:1≤ph:=by omega
    have h2:ph≤16:=by omega
    refine ⟨_,rfl,_,rfl,fun a dx hx hdx ne=>⟨a,dx,w,ph,rfl,xg,w1,w2,h1,h2,fun H5 dp do_ hdp5 hdo5 s6 pic5 hdt=>⟨rfl,?_⟩⟩⟩
    have k5:Same H H5:=fun b u e=>s6 b u (xp e hx) (by rw [xm (xp e hx),xm (xp e hdx)]; exact e)
    have up:∀ b,upd (upd H dx (.own a)) a (.ins t.C_j dx []) b = none→H b = none:=fun b z=>by
      cases e:H b with
      | none=>rfl
      | some u=>rw [xm (xp e hx),xm (xp e hdx),e] at z; cases z
    have fdp:=up _ hdp5
    have fdo:=up _ hdo5
    refine ⟨(by show 0≤sizeLine; exact Nat.zero_le _),fun l hl5=>?_⟩
    have fl:=k5.free hl5
    have s5l:Same H5 (upd H5 l (.lst [])):=xo (Same.refl _) hl5
    refine ⟨_,rfl,c,902,rfl,fun f f0 f1=>?_⟩
    refine ⟨_,rfl,c,903,rfl,fun m3 a3 b3=>⟨_,rfl,_,_,rfl,rfl,_,_,rfl,rfl,(by show (0:Int) < 12 + 1; decide),m3 % 13,rfl,?_,?_,?_⟩⟩
    · have:=xaw m3 (show (0:Int) < 13 by decide); omega
    · have:=xaw m3 (show (0:Int) < 13 by decide); omega
    have nb:=xaw m3 (show (0:Int) < 13 by decide)
    refine xes (Pv:=fun i σ H6=>∃ (v7 v8 v9 v10 v11 v12:Option V) (ps:List Pt) (qs:List Addr),σ = [some (.int c),some (.int 12),some (.int w),some (.int ph),some (.ref a),some (.ref l),some (.int f),v7,v8,v9,v10,v11,v12]∧Same H H6∧Pic t H6 a dp do_ w ph ps∧H6 do_ = some (.dT [])∧H6 l = some (.lst (qs.map V.ref))∧PtsL H6 ps qs∧xb8 w ph ps∧ps.length≤i∧∀ p ∈ ps,∃ k:Nat,k < i∧p.nm = ltr ((f + 7 * (k:Int)) % 26)) ?_ ?_ ?_
    · exact ⟨_,_,_,_,_,_,[],[],rfl,k5.trans s5l,Pic.same s5l pic5,s5l _ _ hdt,xg,.nil,⟨fun p hp=>(nomatch hp),List.nodup_nil,List.nodup_nil,List.nodup_nil,Nat.zero_le _⟩,Nat.le_refl _,fun p hp=>(nomatch hp)⟩
    · rintro i σ H6 hi ⟨v7,v8,v9,v10,v11,v12,ps,qs,rfl,s7,pic6,hdt6,hl6,pts6,pok6,ple,pnm⟩
      have hi':i < 13:=by omega
      have ql:=pts6.len
      refine ⟨_,rfl,_,rfl,_,_,rfl,rfl,⟨by decide,by decide⟩,_,_,rfl,rfl,(by show (0:Int) < 7; decide),_,_,rfl,rfl,_,rfl,_,_,rfl,rfl,.inl (by have:=xaw (f / 40) (show (0:Int) < 7 by decide); constructor <;> omega),_,_,rfl,rfl,_,rfl,_,_,rfl,rfl,(by show 0 < w; omega),_,_,rfl,rfl,?_⟩
      refine ⟨_,rfl,_,_,rfl,rfl,⟨by decide,by decide⟩,_,rfl,_,_,rfl,rfl,⟨by decide,by decide⟩,_,_,rfl,rfl,(by show (0:Int) < 5; decide),_,_,rfl,rfl,_,rfl,_,_,rfl,rfl,.inl (by have:=xaw (f / 5000) (show (0:Int) < 5 by decide); constructor <;> omega),_,_,rfl,rfl,_,rfl,_,_,rfl,rfl,(by show 0 < ph; omega),_,_,rfl,rfl,?_⟩
      have bx:=xaw (f + (1 + f / 40 % 7) * (0 + (i:Int))) (show 0 < w by omega)
      have bY:=xaw (f / 300 + (1 + f / 5000 % 5) * (0 + (i:Int))) (show 0 < ph by omega)
      obtain ⟨x,ex⟩:∃ x,x = 1 + (f + (1 + f / 40 % 7) * (0 + (i:Int))) % w:=⟨_,rfl⟩
      obtain ⟨y,ey⟩:∃ y,y = 1 + (f / 300 + (1 + f / 5000 % 5) * (0 + (i:Int))) % ph:=⟨_,rfl⟩
      dsimp only
      rw [← ex,← ey]
      refine ⟨_,rfl,_,rfl,_,_,rfl,rfl,c,_,rfl,fun nr n0 n1=>?_⟩
      refine ⟨_,rfl,_,_,rfl,rfl,⟨by decide,by decide⟩,_,rfl,_,_,rfl,rfl,(by show 0 < ph; omega),_,_,rfl,rfl,?_⟩
      have bl:=xaw (nr / 3) (show 0 < ph by omega)
      obtain ⟨lo,elo⟩:∃ lo,lo = 1 + nr / 3 % ph:=⟨_,rfl⟩
      dsimp only
      rw [← elo]
      obtain ⟨sd,esd,hsd⟩:=xnx nr
      have bh:=xaw (nr / 60) (show 0 < ph + 1 - lo by omega)
      obtain ⟨hi2,ehi⟩:∃ h,h = lo + nr / 60 % (ph + 1 - lo):=⟨_,rfl⟩
      refine ⟨_,rfl,_,rfl,_,_,rfl,rfl,.inl ⟨by decide,by decide⟩,_,_,rfl,rfl,_,_,rfl,rfl,(by show (0:Int) < 26; decide),abc,_,_,rfl,rfl,(by decide +kernel),xmu (xaw _ (by decide)).1 (xaw _ (by decide)).2,_,rfl,_,rfl,(by show 3≤sizeLine; decide),fun q3 hq3=>?_⟩
      have s8:Same H6 (upd H6 q3 (.lst [.str "both",.str "left",.str "right"])):=xo (Same.refl _) hq3
      have g8:upd H6 q3 (.lst [.str "both",.str "left",.str "right"]) q3 = some (.lst [.str "both",.str "left",.str "right"]):=xg
      revert s8 g8
      generalize upd H6 q3 (.lst [.str "both",.str "left",.str "right"]) = H8
      intro s8 g8
      refine ⟨_,rfl,_,_,rfl,rfl,(by show (0:Int) < 3; decide),q3,_,_,.str sd,rfl,rfl,SqL.of g8,esd,_,rfl,_,rfl,_,rfl,_,_,rfl,rfl,⟨by decide,by decide⟩,_,rfl,_,_,rfl,rfl,_,rfl,_,_,rfl,rfl,_,_,rfl,rfl,(by show 0 < ph + 1 - lo; omega),_,_,rfl,rfl,(by show 6≤sizeLine; decide),fun r hr9=>?_⟩
      dsimp only
      rw [← ehi]
      obtain ⟨nm,enm⟩:∃ nm,nm = ltr ((f + 7 * (0 + (i:Int))) % 26):=⟨_,rfl⟩
      rw [show (⟨#[97 + ((f + 7 * (0 + (i:Int))) % 26).toNat]⟩:Str) = nm from enm.symm]
      have isn:isNm nm = true:=by rw [enm]; exact xl5 (xaw _ (by decide)).1 (xaw _ (by decide)).2
      have s9:Same H8 (upd H8 r (.tup [.str nm,.int x,.int y,.str sd,.int lo,.int hi2])):=xo (Same.refl _) hr9
      have g9:upd H8 r (.tup [.str nm,.int x,.int y,.str sd,.int lo,.int hi2]) r = some (.tup [.str nm,.int x,.int y,.str sd,.int lo,.int hi2]):=xg
      revert s9 g9
      generalize upd H8 r (.tup [.str nm,.int x,.int y,.str sd,.int lo,.int hi2]) = H9
      intro s9 g9
      have s69:Same H6 H9:=s8.trans s9
      have hl9:=s69 _ _ hl6
      have pts9:=pts6.keep (Same.tups s69)
      refine ⟨_,rfl,_,rfl,l,rfl,⟨_,SqL.of hl9⟩,fun lx hlx=>?_⟩
      refine xer (SqL.of hl9) (by rw [List.length_map]; exact Nat.lt_trans (by omega:qs.length < 13) (by decide)) hlx (fun i y _=>∃ p,ps[i]? = some p∧y = .int p.x) (fun _ _ _ _ _ z=>z) (fun i z H2 hz s2 N hN=>?_) (fun ys HA sA elA ly fA=>?_)
      · rw [List.getElem?_map] at hz
        obtain ⟨o,ho,rfl⟩:=Option.map_eq_some_iff.mp hz
        obtain ⟨p,hpp,ep⟩:=(PtsL.keep (Same.tups s2) pts9).get ho
        exact ⟨_,rfl,o,_,1,_,rfl,rfl,SqT.of ep,rfl,hN _ _ (Same.refl _) ⟨p,hpp,rfl⟩⟩
      have ey1:ys = (ps.map (·.x)).map V.int:=by
        rw [List.map_map]
        refine xg8 (by rw [ly,List.length_map,ql]) fun i y p hy hp=>?_
        obtain ⟨p',h1,h2⟩:=fA i y hy
        rw [hp] at h1
        cases h1
        exact h2
      subst ey1
      refine ⟨lx,_,rfl,.inl (SqL.of elA),rfl,xfc _,_,rfl,?_⟩
      have pass:∀ HB,Same HA HB→∃ v7 v8 v9 v10 v11 v12 ps qs,[some (V.int c),some (V.int 12),some (V.int w),some (V.int ph),some (V.ref a),some (V.ref l),some (V.int f),some (V.int (0 + (i:Int))),some (.int x),some (.int y),some (.int nr),some (.int lo),some (.ref r)] = [some (V.int c),some (.int 12),some (.int w),some (.int ph),some (.ref a),some (.ref l),some (.int f),v7,v8,v9,v10,v11,v12]∧Same H HB∧Pic t HB a dp do_ w ph ps∧HB do_ = some (.dT [])∧HB l = some (.lst (qs.map V.ref))∧PtsL HB ps qs∧xb8 w ph ps∧ps.length≤i + 1∧∀ p ∈ ps,∃ k:Nat,k < i + 1∧p.nm = ltr ((f + 7 * (k:Int)) % 26):=fun HB sB=>by
        have s6B:=(s69.trans sA).trans sB
        exact ⟨_,_,_,_,_,_,ps,qs,rfl,s7.trans s6B,Pic.same s6B pic6,s6B _ _ hdt6,s6B _ _ hl6,pts6.keep (Same.tups s6B),pok6,by omega,fun p hp=>let ⟨k,h1,h2⟩:=pnm p hp; ⟨k,by omega,h2⟩⟩
      refine ite2 (fun cx=>?_) (fun cx=>?_)
      · rw [if_pos rfl,xf7] at cx
        have nx:x ∉ ps.map (·.x):=by simpa using cx
        have hlA:=sA _ _ hl9
        have ptsA:=pts9.keep (Same.tups sA)
        refine ⟨_,rfl,_,rfl,l,rfl,⟨_,SqL.of hlA⟩,fun ly2 hly=>?_⟩
        refine xer (SqL.of hlA) (by rw [List.length_map]; exact Nat.lt_trans (by omega:qs.length < 13) (by decide)) hly (fun i y _=>∃ p,ps[i]? = some p∧y = .int p.y) (fun _ _ _ _ _ z=>z) (fun i z H2 hz s2 N hN=>?_) (fun ys HB sB elB ly fB=>?_)
        · rw [List.getElem?_map] at hz
          obtain ⟨o,ho,rfl⟩:=Option.map_eq_some_iff.mp hz
          obtain ⟨p,hpp,ep⟩:=(PtsL.keep (Same.tups s2) ptsA).get ho
          exact ⟨_,rfl,o,_,2,_,rfl,rfl,SqT.of ep,rfl,hN _ _ (Same.refl _) ⟨p,hpp,rfl⟩⟩
        have ey1:ys = (ps.map (·.y)).map V.int:=by
          rw [List.map_map]
          refine xg8 (by rw [ly,List.length_map,ql]) fun i y p hy hp=>?_
          obtain ⟨p',h1,h2⟩:=fB i y hy
          rw [hp] at h1
          cases h1
          exact h2
        subst ey1
        refine ⟨ly2,_,rfl,.inl (SqL.of elB),rfl,xfc _,_,rfl,?_⟩
        refine ite2 (fun cy=>?_) (fun cy=>?_)
        · rw [if_pos rfl,xf7] at cy
          have ny:y ∉ ps.map (·.y):=by simpa using cy
          have s6B:=(s69.trans sA).trans sB
          have sA9:=sA.trans sB
          have picB:=Pic.same s6B pic6
          obtain ⟨dxB,hpB⟩:=picB.ins
          have gB:=sA9 _ _ g9
          have nn:∀ q ∈ ps,q.nm≠nm:=fun q hq=>by
            obtain ⟨k,hk,e⟩:=pnm q hq
            rw [e,enm]
            exact ltr7 hk hi'
          have len:ps.length < 12:=by omega
          refine ⟨_,rfl,a,dxB,_,rfl,hpB,xa6 (by decide +kernel),_,rfl,r,_,0,_,rfl,rfl,SqT.of gB,rfl,_,rfl,r,_,1,_,rfl,rfl,SqT.of gB,rfl,_,rfl,r,_,2,_,rfl,rfl,SqT.of gB,rfl,_,rfl,r,_,3,_,rfl,rfl,SqT.of gB,rfl,_,rfl,r,_,4,_,rfl,rfl,SqT.of gB,rfl,_,rfl,r,_,5,_,rfl,rfl,SqT.of gB,rfl,?_⟩
          refine ⟨a,dp,do_,w,ph,ps,nm,x,y,sd,lo,hi2,.int _,rfl,picB,.inr rfl,isn,by omega,by omega,by omega,by omega,hsd,by omega,by omega,by omega,fun p hp=>⟨nn p hp,fun e=>nx (e ▸ List.mem_map.mpr ⟨p,hp,rfl⟩),fun e=>ny (e ▸ List.mem_map.mpr ⟨p,hp,rfl⟩)⟩,len,fun HC kC picC=>?_⟩
          obtain ⟨kvs,hk,_⟩:=picB.pl
          have ndp:∀ b u,H b = some u→b≠dp:=fun b u e=>xp e fdp
          have hlC:=kC _ _ (xab (s6B _ _ hl6) hk (fun z=>nomatch z)) (s6B _ _ hl6)
          have gC:=kC _ _ (xab gB hk (fun z=>nomatch z)) gB
          refine ⟨_,rfl,.inl ⟨rfl,_,SqL.of hlC⟩,_,rfl,l,_,_,rfl,rfl,hlC,?_,?_⟩
          · rw [List.length_map]
            exact Nat.lt_trans (by omega:qs.length < 13) (by decide)
          have bt:∀ b u,b≠l→HC b = some u→upd HC l (.lst (qs.map V.ref ++ [.ref r])) b = some u:=fun b u nb e=>by
            rw [xm nb]
            exact e
          have tC:Tups HB HC:=fun b xs e=>kC _ _ (xab e hk (fun z=>nomatch z)) e
          have tL:Tups HC (upd HC l (.lst (qs.map V.ref ++ [.ref r]))):=fun b xs e=>bt _ _ (xab e hlC (fun z=>nomatch z)) e
          have picL:Pic t (upd HC l (.lst (qs.map V.ref ++ [.ref r]))) a dp do_ w ph (ps ++ [⟨nm,x,y,sd,lo,hi2⟩]) :=
            ⟨let ⟨d,e⟩:=picC.ins; ⟨d,bt _ _ (xab e hlC (fun z=>nomatch z)) e⟩,let ⟨k,e,q⟩:=picC.pl; ⟨k,bt _ _ (xab e hlC (fun z=>nomatch z)) e,q.keep tL⟩,picC.w1,picC.w2,picC.h1,picC.h2,picC.len⟩
          refine ⟨_,_,_,_,_,_,ps ++ [⟨nm,x,y,sd,lo,hi2⟩],qs ++ [r],rfl,fun b u e=>bt _ _ (xp e fl) (kC _ _ (ndp _ _ e) (s6B _ _ (s7 _ _ e))),picL,?_,?_,?_,?_,?_,?_⟩
          · have e:=kC _ _ (xab (s6B _ _ hdt6) hk (fun z=>nomatch z)) (s6B _ _ hdt6)
            exact bt _ _ (xab e hlC (fun z=>nomatch z)) e
          · rw [xg,List.map_append]
            rfl
          · exact PtsL.snoc ((pts6.keep (Same.tups s6B)).keep (fun b xs e=>tL _ _ (tC _ _ e))) (tL _ _ gC)
          · exact xb8.snoc pok6 ⟨isn,by show 1≤x; omega,by show x≤w; omega,by show 1≤y; omega,by show y≤ph; omega,hsd,by show 1≤lo; omega,by show lo≤hi2; omega,by show hi2≤ph; omega⟩ nn nx ny len
          · rw [List.length_append]
            show ps.length + 1≤i + 1
            omega
          · intro p hp
            rcases List.mem_append.mp hp with z | z
            · obtain ⟨k,h1,h2⟩:=pnm p z
              exact ⟨k,by omega,h2⟩
            · rw [List.mem_singleton.mp z]
              exact ⟨i,by omega,by rw [← Int.zero_add (i:Int)]; exact enm⟩
        · exact pass HB sB
      · exact pass HA (Same.refl _)
    · rintro σ H6 ⟨v7,v8,v9,v10,v11,v12,ps,qs,rfl,s7,pic6,hdt6,hl6,pts6,pok6,ple,pnm⟩
      refine ⟨_,rfl,_,rfl,(by show 2≤sizeLine; decide),fun tp htp=>?_⟩
      have s8:Same H6 (upd H6 tp (.tup [.ref a,.ref l])):=xo (Same.refl _) htp
      exact h _ tp a dp do_ l w ph ps qs (s7.trans s8) xg (Pic.same s8 pic6) (s8 _ _ hdt6) pok6 (s8 _ _ hl6) (pts6.keep (Same.tups s8)) hx fdp fdo fl
end
end S06
set_option maxRecDepth 100000
set_option maxHeartbeats 4000000
namespace S06
open PySem L2 XL PyProof.Rows
def Bef (i j:Nat) (s:Seat):Prop:=(if s.1 then 0 else 1) < i∨((if s.1 then 0 else 1) = i∧s.2≤j)
def xlh (t:Adr):Sp:=fun vs H Q _=>∃ (a dp do_:Addr) (pw ph c:Int) (ps:List Pt),vs = [.ref a,.int c]∧Pic t H a dp do_ pw ph ps∧H do_ = some (.dT []) ∧
  ∀ (H':Hp) (l:Addr) (ss:List Seat) (rs:List Addr),(∀ b u,b≠do_→H b = some u→H' b = some u)→H l = none→Pic t H' a dp do_ pw ph ps→Sts H' do_ ss→SsOk ph ss→H' l = some (.lst (rs.map V.ref))→xam H' ss rs→Q (.ref l) H'
theorem xm7 {a b:Int} (x y:Int) (k:Int) (h0:0≤k) (h1:k < 4):∃ z:Int,atI [V.int a,V.int b,V.int x,V.int y] k = some (.int z):=by
  have:k = 0∨k = 1∨k = 2∨k = 3:=by omega
  rcases this with e | e | e | e <;> rw [e]
  · exact ⟨a,rfl⟩
  · exact ⟨b,rfl⟩
  · exact ⟨x,rfl⟩
  · exact ⟨y,rfl⟩
section
variable {P:Program} {w:World} {K:PySem.W.Frag} {mg:Str→Option Value} {base:Heap} {t:Adr}
theorem ok_aj (T:Txt w K mg t):FnOk true P w K mg base (CXo P w) 6 t.f_aj t.d_aj ["_law_picture", "_law_cell_here"] (xlh t):=by
  refine T.F_aj.okn (k:=5) sc_aj (fun vs H Q E h=>?_) (fun cdv A outer s H vs Q E hr h=>?_)
  · obtain ⟨a,dp,do_,pw,ph,c,ps,rfl,_⟩:=h
    rfl
  · obtain ⟨a,dp,do_,pw,ph,c,ps,rfl,h⟩:=h
    refine ⟨_,xj (xx (i:=2) sc_aj.nd rfl (Or.inl rfl) (xac (xh)))
      (xj (xcz PassesOwn.never rfl (xhz rfl T.n_enumerate (xf (xac (xf (x9) (xf (x9) (xh)))) (xh))) (xd1 rfl (xa9 (xap (i:=3) sc_aj.nd rfl (Or.inl rfl)) (xa9 (xap (i:=4) sc_aj.nd rfl (Or.inl rfl)) (xdc)))) (xj (xx (i:=5) sc_aj.nd rfl (Or.inl rfl) (xae (ok_x T) (hr.mono (by decide)) rfl T.g_x T.F_x.kp T.b_x .nil xu (xf (pv 1) (xf (xq xax (xi) (pv 3)) (xh)))))
      (xj (xx (i:=6) sc_aj.nd rfl (Or.inl rfl) (x5 xas (xac (xf (xq xau (xq xbi (pv 5) (xi)) (xi)) (xf (xi) (xf (xi) (xf (xq xor (xi) (xq xau (xq xbi (pv 5) (xi)) (xi))) (xh)))))) (xz (xep rfl) rfl T.n_max boot_max (xf (xi) (xf (xq xcv (xq xau (pv 5) (xi)) (xi)) (xh)))) (fun _ _=>rfl)))
      (xn (xcz PassesOwn.never rfl (xgm rfl T.n_range (xf (xi) (xf (xq xax (xao (pv 0) rfl) (xi)) (xh)))) (xap (i:=7) sc_aj.nd rfl (Or.inl rfl)) (xn (xaa (xad xbt (xq xoc (xq xow (pv 6) (xq xcv (pv 7) (xi))) (xi)) (xi) (xaj _)) (xj (xav (xay (pv 0) T.c_j T.m_f (ok_f T) (hr.mono (by decide)) T.b_f .nil xu (xf (pv 4) (xf (pv 7) (xh)))))
      (xn (xav (xfm PySem.F.plainAttrs_list PySem.F.slot_list_append PySem.F.type_list_append xcw (pv 2) (xf (xa1 (xf (pv 4) (xf (pv 7) (xh)))) (xh)))))) (xw))))))))
      (xn (xar (pv 2)))),?_⟩
    obtain ⟨pic,hdt,q⟩:=h
    obtain ⟨⟨dx,hp⟩,_,w1,w2,h1,h2,_⟩:=id pic
    refine ⟨(by show 0≤sizeLine; exact Nat.zero_le _),fun l hl=>?_⟩
    have sl:Same H (upd H l (.lst [])):=xo (Same.refl _) hl
    refine ⟨(by show 2≤sizeLine; decide),fun e0 he0=>?_⟩
    have se:Same (upd H l (.lst [])) (upd (upd H l (.lst [])) e0 (.lst [.str "left",.str "right"])):=xo (Same.refl _) he0
    have nle:l≠e0:=xp xg he0
    refine ⟨e0,_,rfl,SqL.of xg,?_⟩
    have Q0:=fun (b:Addr) (u:HO) (nb:b≠do_) (e:H b = some u)=>e
    refine xls (xs:=[.str "left",.str "right"]) (Pv:=fun i σ H6=>∃ (v3 v4 v5 v6 v7:Option V) (ss:List Seat) (rs:List Addr),σ = [some (.ref a),some (.int c),some (.ref l),v3,v4,v5,v6,v7]∧(∀ b u,b≠do_→H b = some u→H6 b = some u)∧H6 e0 = some (.lst [.str "left",.str "right"])∧Pic t H6 a dp do_ pw ph ps∧Sts H6 do_ ss∧SsOk ph ss∧ss.length≤i * 16∧(∀ s ∈ ss,Bef i 0 s)∧H6 l = some (.lst (rs.map V.ref))∧xam H6 ss rs) ?_ ?_ ?_ ?_
    · refine ⟨_,_,_,_,_,[],[],rfl,fun b u _ e=>se _ _ (sl _ _ e),xg,Pic.same se (Pic.same sl pic),⟨[],se _ _ (sl _ _ hdt),rfl,List.nodup_nil,Nat.zero_le _⟩,⟨List.nodup_nil,Nat.zero_le _,fun s hs=>(nomatch hs)⟩,Nat.zero_le _,fun s hs=>(nomatch hs),se _ _ xg,.nil⟩
    · rintro i σ H6 hi ⟨v3,v4,v5,v6,v7,ss,rs,rfl,k6,he6,_⟩
      exact SqL.of he6
    · rintro i x p σ H6 hx hp6 ⟨v3,v4,v5,v6,v7,ss,rs,rfl,k6,he6,pic6,st6,sok6,sle,sbef,hl6,sts6⟩
      have hi:i < 2:=by
        have:=(List.getElem?_eq_some_iff.mp hx).1
        simpa using this
      obtain ⟨sb,esb,isb⟩:∃ sb:Bool,x = .str (xv sb)∧(if sb then 0 else 1) = i:=by
        have:i = 0∨i = 1:=by omega
        rcases this with e | e <;> subst e
        · exact ⟨true,(Option.some.inj hx).symm,rfl⟩
        · exact ⟨false,(Option.some.inj hx).symm,rfl⟩
      subst esb
      have s7:Same H6 (upd H6 p (.tup [.int i,.str (xv sb)])):=xo (Same.refl _) hp6
      have g7:upd H6 p (.tup [.int i,.str (xv sb)]) p = some (.tup [.int i,.str (xv sb)]):=xg
      revert s7 g7
      generalize upd H6 p (.tup [.int i,.str (xv sb)]) = H7
      intro s7 g7
      refine ⟨p,_,rfl,SqT.of g7,rfl,_,_,rfl,_,_,rfl,rfl,?_⟩
      refine ⟨_,rfl,_,rfl,_,_,rfl,rfl,c,_,rfl,fun nr n0 n1=>?_⟩
      refine ⟨_,rfl,_,_,rfl,rfl,⟨by decide,by decide⟩,_,_,rfl,rfl,(by show (0:Int) < 65536; decide),_,rfl,_,_,rfl,rfl,⟨by decide,by decide⟩,_,_,rfl,rfl,(by show (0:Int) < 16; decide),_,_,rfl,rfl,?_,(by show 4≤sizeLine; decide),fun q4 hq4=>?_⟩
      · have:=xaw (nr / 8) (show (0:Int) < 16 by decide)
        exact ⟨this.1,Int.le_trans (Int.le_of_lt this.2) (by decide),by decide⟩
      dsimp only
      have s8:Same H7 (upd H7 q4 (.lst [.int (nr / 8 % 65536),.int 65535,.int 0,.int (1 * 2 ^ (nr / 8 % 16).toNat)])):=xo (Same.refl _) hq4
      have g8:upd H7 q4 (.lst [.int (nr / 8 % 65536),.int 65535,.int 0,.int (1 * 2 ^ (nr / 8 % 16).toNat)]) q4 = some (.lst [.int (nr / 8 % 65536),.int 65535,.int 0,.int (1 * 2 ^ (nr / 8 % 16).toNat)]):=xg
      revert s8 g8
      generalize upd H7 q4 (.lst [.int (nr / 8 % 65536),.int 65535,.int 0,.int (1 * 2 ^ (nr / 8 % 16).toNat)]) = H8
      intro s8 g8
      have mb:=xaw nr (show (0:Int) < 8 by decide)
      have ixb:0≤(if nr % 8 - 4 > 0 then nr % 8 - 4 else 0)∧(if nr % 8 - 4 > 0 then nr % 8 - 4 else 0) < 4:=by
        split <;> omega
      obtain ⟨bits,ebits⟩:=xm7 (a:=nr / 8 % 65536) (b:=65535) 0 (1 * 2 ^ (nr / 8 % 16).toNat) _ ixb.1 ixb.2
      refine ⟨_,rfl,_,_,rfl,rfl,(by show (0:Int) < 8; decide),_,_,rfl,rfl,_,_,rfl,q4,_,_,.int bits,rfl,rfl,SqL.of g8,ebits,?_⟩
      have s68:Same H6 H8:=s7.trans s8
      have pic8:=Pic.same s68 pic6
      obtain ⟨dx8,hp8⟩:=pic8.ins
      refine ⟨_,rfl,a,_,_,_,_,rfl,hp8,T.c_j,T.n_bc,lkH,_,_,rfl,rfl,1,ph + 1,rfl,⟨by decide,by decide,by omega,by omega⟩,?_⟩
      refine xes (Pv:=fun j σ H9=>∃ (v7:Option V) (s9:List Seat) (rs9:List Addr),σ = [some (.ref a),some (.int c),some (.ref l),some (.int i),some (.str (xv sb)),some (.int nr),some (.int bits),v7]∧(∀ b u,b≠do_→H b = some u→H9 b = some u)∧H9 e0 = some (.lst [.str "left",.str "right"])∧Pic t H9 a dp do_ pw ph ps∧Sts H9 do_ s9∧SsOk ph s9∧s9.length≤i * 16 + j∧(∀ s ∈ s9,Bef i j s)∧H9 l = some (.lst (rs9.map V.ref))∧xam H9 s9 rs9) ?_ ?_ ?_
      · exact ⟨_,ss,rs,rfl,fun b u nb e=>s68 _ _ (k6 b u nb e),s68 _ _ he6,pic8,st6.same s68,sok6,by omega,sbef,s68 _ _ hl6,sts6.keep (Same.tups s68)⟩
      · rintro j σ H9 hj ⟨v7,s9,rs9,rfl,k9,he9,pic9,st9,sok9,sle9,sbef9,hl9,sts9⟩
        have hj':(j:Int) < ph:=by omega
        obtain ⟨dx9,hp9⟩:=pic9.ins
        refine ⟨_,rfl,_,rfl,_,_,rfl,rfl,_,_,rfl,rfl,(by show (0:Int)≤1 + (j:Int) - 1; omega),_,_,rfl,rfl,rfl,_,rfl,ite2 (fun cb=>?_) (fun cb=>?_)⟩
        · have nin:(sb,1 + (j:Int)) ∉ s9:=fun hm=>by
            rcases sbef9 _ hm with z | ⟨_,z⟩
            · dsimp only at z
              omega
            · dsimp only at z
              omega
          refine ⟨_,rfl,a,dx9,_,rfl,hp9,xa6 (by decide +kernel),_,rfl,_,rfl,?_⟩
          refine ⟨a,dp,do_,pw,ph,ps,s9,sb,1 + (j:Int),rfl,pic9,st9,by omega,by omega,nin,by omega,fun HA kA picA stA=>?_⟩
          obtain ⟨kvs,hk,_⟩:=id st9
          have hlA:=kA _ _ (xab hl9 hk (fun z=>nomatch z)) hl9
          refine ⟨_,rfl,.inl ⟨rfl,_,SqL.of hlA⟩,_,rfl,_,rfl,(by show 2≤sizeLine; decide),fun r hr9=>?_⟩
          dsimp only
          have sB:Same HA (upd HA r (.tup [.str (xv sb),.int (1 + (j:Int))])):=xo (Same.refl _) hr9
          have gB:upd HA r (.tup [.str (xv sb),.int (1 + (j:Int))]) r = some (.tup [.str (xv sb),.int (1 + (j:Int))]):=xg
          revert sB gB
          generalize upd HA r (.tup [.str (xv sb),.int (1 + (j:Int))]) = HB
          intro sB gB
          have hlB:=sB _ _ hlA
          have rl9:=sts9.len
          refine ⟨l,_,_,rfl,rfl,hlB,?_,?_⟩
          · rw [List.length_map]
            exact Nat.lt_trans (by omega:rs9.length < 33) (by decide)
          have bt:∀ b u,b≠l→HB b = some u→upd HB l (.lst (rs9.map V.ref ++ [.ref r])) b = some u:=fun b u nb e=>by
            rw [xm nb]
            exact e
          have tA:Tups H9 HA:=fun b xs e=>kA _ _ (xab e hk (fun z=>nomatch z)) e
          have tL:Tups HB (upd HB l (.lst (rs9.map V.ref ++ [.ref r]))):=fun b xs e=>bt _ _ (xab e hlB (fun z=>nomatch z)) e
          refine ⟨_,s9 ++ [(sb,1 + (j:Int))],rs9 ++ [r],rfl,fun b u nb e=>bt _ _ (xp e hl) (sB _ _ (kA _ _ nb (k9 b u nb e))),?_,?_,?_,?_,?_,?_,?_,?_⟩
          · refine bt _ _ (Ne.symm nle) (sB _ _ (kA _ _ (xab he9 hk (fun z=>nomatch z)) he9))
          · have picB:=Pic.same sB picA
            exact ⟨let ⟨d,e⟩:=picB.ins; ⟨d,bt _ _ (xab e hlB (fun z=>nomatch z)) e⟩,let ⟨k,e,q⟩:=picB.pl; ⟨k,bt _ _ (xab e hlB (fun z=>nomatch z)) e,q.keep tL⟩,picB.w1,picB.w2,picB.h1,picB.h2,picB.len⟩
          · obtain ⟨k2,e2,r2⟩:=stA.same sB
            exact ⟨k2,bt _ _ (xab e2 hlB (fun z=>nomatch z)) e2,r2⟩
          · obtain ⟨nd,le,rw9⟩:=sok9
            refine ⟨?_,?_,fun s hs=>?_⟩
            · rw [List.nodup_append]
              exact ⟨nd,by simp,fun x hx y hy e=>nin (by rw [List.mem_singleton.mp hy] at e; exact e ▸ hx)⟩
            · rw [List.length_append]
              show s9.length + 1≤32
              omega
            · rcases List.mem_append.mp hs with z | z
              · exact rw9 s z
              · rw [List.mem_singleton.mp z]
                exact ⟨by show 1≤1 + (j:Int); omega,by show 1 + (j:Int)≤ph; omega⟩
          · rw [List.length_append]
            show s9.length + 1≤i * 16 + (j + 1)
            omega
          · intro s hs
            rcases List.mem_append.mp hs with z | z
            · rcases sbef9 s z with y | ⟨y1,y2⟩
              · exact .inl y
              · exact .inr ⟨y1,by omega⟩
            · rw [List.mem_singleton.mp z]
              exact .inr ⟨isb,by show 1 + (j:Int)≤((j + 1:Nat):Int); omega⟩
          · rw [xg,List.map_append]
            rfl
          · exact xam.snoc (sts9.keep fun b xs e=>tL _ _ (sB _ _ (tA _ _ e))) (tL _ _ gB)
        · refine ⟨_,s9,rs9,rfl,k9,he9,pic9,st9,sok9,by omega,fun s hs=>?_,hl9,sts9⟩
          rcases sbef9 s hs with y | ⟨y1,y2⟩
          · exact .inl y
          · exact .inr ⟨y1,by omega⟩
      · rintro σ H9 ⟨v7,s9,rs9,rfl,k9,he9,pic9,st9,sok9,sle9,sbef9,hl9,sts9⟩
        refine ⟨_,_,_,_,_,s9,rs9,rfl,k9,he9,pic9,st9,sok9,by omega,fun s hs=>?_,hl9,sts9⟩
        rcases sbef9 s hs with y | ⟨y1,y2⟩
        · exact .inl (by omega)
        · exact .inl (by omega)
    · rintro σ H6 ⟨v3,v4,v5,v6,v7,ss,rs,rfl,k6,he6,pic6,st6,sok6,sle,sbef,hl6,sts6⟩
      exact ⟨_,rfl,q H6 l ss rs k6 hl pic6 st6 sok6 hl6 sts6⟩
end
end S06
set_option maxRecDepth 100000
set_option maxHeartbeats 4000000
namespace S06
open PySem L2 XL PyProof.Rows
theorem xam.keys {H:Hp} {ss:List Seat} {rs:List Addr} (h:xam H ss rs):∃ ts:List (List Key × Addr),ts.map (·.2) = rs∧ts.map (·.1) = ss.map xah∧∀ t ∈ ts,H t.2 = some (.tup (t.1.map kV)):=by
  induction h with
  | nil=>exact ⟨[],rfl,rfl,fun t ht=>(nomatch ht)⟩
  | @cons s q ss qs h _ ih =>
    obtain ⟨ts,h1,h2,h3⟩:=ih
    refine ⟨(xah s,q) :: ts,by simp [h1],by simp [h2],fun t ht=>?_⟩
    rcases List.mem_cons.mp ht with z | z
    · rw [z]; exact h
    · exact h3 t z
structure PS (t:Adr) (H:Hp) (a dp do_:Addr) (w h:Int) (ps:List Pt) (ss:List Seat) (l m:Addr):Prop where
  pic:Pic t H a dp do_ w h ps
  st:Sts H do_ ss
  pok:xb8 w h ps
  sok:SsOk h ss
  rl:∃ qs:List Addr,H l = some (.lst (qs.map V.ref))∧PtsL H ps qs
  sl:∃ (s2:List Seat) (rs:List Addr),s2.Perm ss∧H m = some (.lst (rs.map V.ref))∧xam H s2 rs
theorem PS.same {t:Adr} {H H':Hp} {a dp do_ l m:Addr} {w h:Int} {ps:List Pt} {ss:List Seat} (s:Same H H') (p:PS t H a dp do_ w h ps ss l m):PS t H' a dp do_ w h ps ss l m :=
  ⟨Pic.same s p.pic,p.st.same s,p.pok,p.sok,let ⟨qs,e,r⟩:=p.rl; ⟨qs,s _ _ e,r.keep (Same.tups s)⟩,let ⟨s2,rs,pm,e,r⟩:=p.sl; ⟨s2,rs,pm,s _ _ e,r.keep (Same.tups s)⟩⟩
section
variable {P:Program} {w:World} {K:PySem.W.Frag} {mg:Str→Option Value} {base:Heap} {t:Adr}
end
end S06
set_option maxRecDepth 100000
set_option maxHeartbeats 4000000
namespace S06
open PySem L2 XL PyProof.Rows
theorem xmd (n:Int):∃ b:Bool,atI [V.str "left",V.str "right"] (n % 2) = some (.str (xv b)):=by
  obtain ⟨h0,h1⟩:=xaw n (show (0:Int) < 2 by decide)
  have:n % 2 = 0∨n % 2 = 1:=by omega
  rcases this with e | e <;> rw [e]
  · exact ⟨true,rfl⟩
  · exact ⟨false,rfl⟩
section
variable {P:Program} {w:World} {K:PySem.W.Frag} {mg:Str→Option Value} {base:Heap} {t:Adr}
end
end S06
set_option maxRecDepth 100000
set_option maxHeartbeats 4000000
namespace S06
open PySem L2 XL PyProof.Rows
theorem xe5 {H:Hp} {m:Addr} {s2:List Seat} {rs:List Addr} {Q:VK} (hm:H m = some (.lst (rs.map V.ref))) (sts:xam H s2 rs) (nd:s2.Nodup) (len2:s2.length≤32)
    (q:∀ (l:Addr) (srt:List Seat) (qs:List Addr),H l = none→xam H srt qs→srt.Perm s2→srt.Pairwise xcg→Q (.ref l) (upd H l (.lst (qs.map V.ref)))):xht [.ref m] H Q:=by
  obtain ⟨ts,e1,e2,e3⟩:=sts.keys
  have lts:ts.length = s2.length:=by
    have:=congrArg List.length e2
    simpa using this
  refine ⟨m,ts,[false,true],rfl,?_,by omega,e3,fun t ht=>?_,by decide,?_,fun l4 ts4 fr4 pm4 pw4=>?_⟩
  · rw [hm,← e1,List.map_map]
    rfl
  · obtain ⟨s,_,e⟩:=List.mem_map.mp (show t.1 ∈ s2.map xah by rw [← e2]; exact List.mem_map.mpr ⟨t,ht,rfl⟩)
    rw [← e]
    rfl
  · rw [e2]
    exact xn3 (fun a b e=>xeh e) nd
  · have back:∀ t ∈ ts4,xah (unK t.1) = t.1:=fun t ht=>by
      obtain ⟨s,_,e⟩:=List.mem_map.mp (show t.1 ∈ s2.map xah by rw [← e2]; exact List.mem_map.mpr ⟨t,pm4.mem_iff.mp ht,rfl⟩)
      rw [← e,xd8]
    have ep:((ts4.map (·.1)).map unK).Perm s2:=by
      have z:=(pm4.map (·.1)).map unK
      have e4:(ts.map (·.1)).map unK = s2:=by
        rw [e2,List.map_map,show (unK ∘ xah) = id from funext xd8]
        exact List.map_id _
      rw [e4] at z
      exact z
    have epw:((ts4.map (·.1)).map unK).Pairwise xcg:=by
      rw [List.pairwise_map] at pw4
      rw [List.map_map,List.pairwise_map]
      refine pw4.imp_of_mem fun {x y} hx hy hxy=>xhc ?_
      show lexK (xah (unK x.1)) (xah (unK y.1)) = true
      rw [back x hx,back y hy]
      exact hxy
    have st4:xam H ((ts4.map (·.1)).map unK) (ts4.map (·.2)):=by
      have tm:∀ t ∈ ts4,H t.2 = some (.tup (t.1.map kV)):=fun t ht=>e3 t (pm4.mem_iff.mp ht)
      clear pm4 pw4 ep epw
      induction ts4 with
      | nil=>exact .nil
      | cons t ts ih =>
        refine .cons ?_ (ih (fun x hx=>back x (List.mem_cons_of_mem _ hx)) fun x hx=>tm x (List.mem_cons_of_mem _ hx))
        have e:=tm t List.mem_cons_self
        rw [← back t List.mem_cons_self] at e
        exact e
    have z:=q l4 _ _ fr4 st4 ep epw
    rw [List.map_map] at z
    exact z
def xnf:Sp:=fun vs H Q _=>∃ (q0:Addr) (p:Pt) (b:Bool) (i:Int),vs = [.ref q0,.str (xv b),.int i]∧H q0 = some (.tup (.str p.nm :: ptV p))∧∀ H',Same H H'→Q (.bl (xbe p (b,i))) H'
def out6 (wy ph:Int) (ps:List Pt) (d dx dr:DV) (n x r:V):Option Er:=if wy < 2 then xbr ph ps d dx dr n x r else xb3 ps d n
def Rep6 (H:Hp) (wy pw ph:Int) (ss:List Seat) (dx dr:DV) (pt:Pt) (v:V):Prop :=
  (wy = 0∧∃ b i,dx = .str (xv b)∧dr = .int i∧1≤i∧i≤ph∧v = .bl (decide ((b,i) ∈ ss) && xbe pt (b,i)))∨(wy = 1∧∃ b i,dx = .str (xv b)∧dr = .int i∧1≤i∧i≤ph∧v = .int (lenI pw pt.x pt.y b i)) ∨
  (wy = 2∧∃ (z:Addr) (srt:List Seat) (rs:List Addr),v = .ref z∧srt.Perm ss∧srt.Pairwise xcg∧H z = some (.lst (rs.map V.ref))∧xam H (srt.filter (xbe pt)) rs)∨(wy = 3∧∃ (z:Addr),v = .ref z∧H z = some (.tup [.int pt.x,.int pt.y]))
def AnsV (H:Hp) (wy pw ph:Int) (ps:List Pt) (ss:List Seat) (d dx dr:DV) (n x r:V) (v:V) (lt:Addr):Prop :=
  (∃ er,out6 wy ph ps d dx dr n x r = some er∧v = .non∧H lt = some (.lst er.told))∨(out6 wy ph ps d dx dr n x r = none∧H lt = some (.lst [])∧∃ pt,pt ∈ ps∧d = .str pt.nm∧Rep6 H wy pw ph ss dx dr pt v)
theorem AnsV.off {H H':Hp} {l:Addr} {zs:List V} {wy pw ph:Int} {ps:List Pt} {ss:List Seat} {d dx dr:DV} {n x r v:V} {lt:Addr} (hl:H l = some (.lst zs)) (k:∀ b u,b≠l→H b = some u→H' b = some u) (n1:lt≠l) (n2:v≠.ref l) (h:AnsV H wy pw ph ps ss d dx dr n x r v lt):AnsV H' wy pw ph ps ss d dx dr n x r v lt:=by
  have tp:Tups H H':=fun b xs e=>k _ _ (xab e hl (fun z=>nomatch z)) e
  rcases h with ⟨er,e1,e2,e3⟩ | ⟨e1,e2,pt,m,e3,rp⟩
  · exact Or.inl ⟨er,e1,e2,k _ _ n1 e3⟩
  · refine Or.inr ⟨e1,k _ _ n1 e2,pt,m,e3,?_⟩
    rcases rp with y | y | ⟨y,z,srt,rs,rfl,a1,a2,a3,a4⟩ | ⟨y,z,rfl,a1⟩
    · exact Or.inl y
    · exact Or.inr (Or.inl y)
    · exact Or.inr (Or.inr (Or.inl ⟨y,z,srt,rs,rfl,a1,a2,k _ _ (fun e=>n2 (by rw [e])) a3,a4.keep tp⟩))
    · exact Or.inr (Or.inr (Or.inr ⟨y,z,rfl,tp _ _ a1⟩))
theorem AnsV.same {H H':Hp} {wy pw ph:Int} {ps:List Pt} {ss:List Seat} {d dx dr:DV} {n x r v:V} {lt:Addr} (s:Same H H') (h:AnsV H wy pw ph ps ss d dx dr n x r v lt):AnsV H' wy pw ph ps ss d dx dr n x r v lt:=by
  rcases h with ⟨er,e1,e2,e3⟩ | ⟨e1,e2,pt,m,e3,rp⟩
  · exact Or.inl ⟨er,e1,e2,s _ _ e3⟩
  · refine Or.inr ⟨e1,s _ _ e2,pt,m,e3,?_⟩
    rcases rp with y | y | ⟨y,z,srt,rs,rfl,a1,a2,a3,a4⟩ | ⟨y,z,rfl,a1⟩
    · exact Or.inl y
    · exact Or.inr (Or.inl y)
    · exact Or.inr (Or.inr (Or.inl ⟨y,z,srt,rs,rfl,a1,a2,s _ _ a3,a4.keep (Same.tups s)⟩))
    · exact Or.inr (Or.inr (Or.inr ⟨y,z,rfl,s _ _ a1⟩))
theorem AnsV.at {H:Hp} {wy pw ph:Int} {ps:List Pt} {ss:List Seat} {d dx dr:DV} {n x r v:V} {lt z:Addr} (h:AnsV H wy pw ph ps ss d dx dr n x r v lt) (e:v = .ref z):∃ u,H z = some u:=by
  subst e
  rcases h with ⟨er,e1,e2,e3⟩ | ⟨e1,e2,pt,m,e3,⟨y,b,i,_,_,_,_,a⟩ | ⟨y,b,i,_,_,_,_,a⟩ | ⟨y,z,srt,rs,a0,a1,a2,a3,a4⟩ | ⟨y,z,a0,a1⟩⟩
  · cases e2
  · cases a
  · cases a
  · cases a0; exact ⟨_,a3⟩
  · cases a0; exact ⟨_,a1⟩
def xm9 (t:Adr):Sp:=fun vs H Q _=>∃ (a dp do_:Addr) (pw ph wy:Int) (ps:List Pt) (ss:List Seat) (n x r:V) (d dx dr:DV),vs = [.ref a,.int wy,n,x,r]∧Pic t H a dp do_ pw ph ps∧Sts H do_ ss∧SsOk ph ss∧Thg H n d∧Thg H x dx∧Thg H r dr∧0≤wy∧wy≤3 ∧
  ∀ (H':Hp) (tq lt:Addr) (v:V),Same H H'→H lt = none→(∀ z xs,v = .ref z→H' z = some (.lst xs)→H z = none)→H' tq = some (.tup [v,.ref lt])→AnsV H' wy pw ph ps ss d dx dr n x r v lt→Q (.ref tq) H'
section
variable {P:Program} {w:World} {K:PySem.W.Frag} {mg:Str→Option Value} {base:Heap} {t:Adr}
theorem ok_ap (T:Txt w K mg t):FnOk true P w K mg base (CXo P w) 1 t.f_ap t.d_ap ["_law_point", "_law_side", "_law_row"] (xnf):=by
  refine T.F_ap.okn (k:=0) sc_ap (fun vs H Q E h=>?_) (fun cdv A outer s H vs Q E hr h=>?_)
  · obtain ⟨q0,p,b,i,rfl,_⟩:=h
    rfl
  · obtain ⟨q0,p,b,i,rfl,h⟩:=h
    refine ⟨_,xn (xar (xbl (xbv xgj (x5 xak (pv 0) (xi) (fun _ _=>rfl)) (xa1 (xf (x9) (xf (pv 1) (xh)))) (by rfl)) (xb0 (xb9 xct xct (x5 xak (pv 0) (xi) (fun _ _=>rfl)) (pv 2) (x5 xak (pv 0) (xi) (fun _ _=>rfl)))))),?_⟩
    obtain ⟨hq,q⟩:=h
    refine ⟨_,rfl,q0,_,3,_,rfl,rfl,SqT.of hq,rfl,_,rfl,(by show 2≤sizeLine; decide),fun q1 hq1=>?_⟩
    have s1:Same H (upd H q1 (.tup [.str "both",.str (xv b)])):=xo (Same.refl _) hq1
    have g1:upd H q1 (.tup [.str "both",.str (xv b)]) q1 = some (.tup [.str "both",.str (xv b)]):=xg
    revert s1 g1
    generalize upd H q1 (.tup [.str "both",.str (xv b)]) = H1
    intro s1 g1
    have z:=q H1 s1
    unfold xbe at z
    refine ⟨q1,_,rfl,.inr (SqT.of g1),rfl,rfl,_,rfl,ite2 (fun c=>?_) (fun c=>?_)⟩
    · rw [if_neg (by decide),xfu] at c
      dsimp only at z
      rw [c,Bool.true_and] at z
      refine ⟨_,rfl,q0,_,4,_,rfl,rfl,SqT.of (s1 _ _ hq),rfl,_,rfl,_,_,rfl,rfl,_,rfl,ite2 (fun c2=>?_) (fun c2=>?_)⟩
      · rw [c2,Bool.true_and] at z
        exact ⟨_,rfl,q0,_,5,_,rfl,rfl,SqT.of (s1 _ _ hq),rfl,_,_,rfl,rfl,z⟩
      · rw [Bool.eq_false_iff.mpr c2,Bool.false_and] at z
        exact z
    · rw [if_neg (by decide),xfu] at c
      dsimp only at z
      rw [Bool.eq_false_iff.mpr c,Bool.false_and] at z
      exact z
theorem ok_y (T:Txt w K mg t):FnOk true P w K mg base (CXo P w) 1 t.f_y t.d_y ["_law_thing", "_law_low", "_law_high"] (spWT):=by
  refine T.F_y.okn (k:=0) sc_y (fun vs H Q E h=>?_) (fun cdv A outer s H vs Q E hr h=>?_)
  · obtain ⟨x,d,lo,hi,rfl,_⟩:=h
    rfl
  · obtain ⟨x,d,lo,hi,rfl,h⟩:=h
    refine ⟨_,xn (xar (xbl (xz xaf rfl T.n_isinstance boot_isinstance (xf (pv 0) (xf (xbj (v:=.ty "int") rfl T.n_int boot_int rfl) (xh)))) (xbl (xhy (xz xaf rfl T.n_isinstance boot_isinstance (xf (pv 0) (xf (xbj (v:=.ty "bool") rfl T.n_bool boot_bool rfl) (xh))))) (xb0 (xb9 xct xct (pv 1) (pv 0) (pv 2)))))),?_⟩
    obtain ⟨tx,q⟩:=h
    cases tx with
    | int i =>
      refine ⟨_,rfl,_,_,rfl,.inl ⟨_,_,true,.int i,rfl,xa8,true,rfl,iteT ?_⟩⟩
      refine ⟨_,rfl,_,_,rfl,.inl ⟨_,_,false,.int i,rfl,(by rfl),false,rfl,true,rfl,iteT ?_⟩⟩
      refine ⟨_,rfl,_,rfl,_,_,rfl,rfl,_,rfl,ite2 (fun c=>?_) (fun c=>?_)⟩
      · refine ⟨_,rfl,_,_,rfl,rfl,?_⟩
        change Q (.bl (decide (lo≤i) && decide (i≤hi))) H at q
        rw [c,Bool.true_and] at q
        exact q
      · change Q (.bl (decide (lo≤i) && decide (i≤hi))) H at q
        rw [Bool.eq_false_iff.mpr c,Bool.false_and] at q
        exact q
    | bl b =>
      refine ⟨_,rfl,_,_,rfl,.inl ⟨_,_,true,.bl b,rfl,(by rfl),true,rfl,iteT ?_⟩⟩
      exact ⟨_,rfl,_,_,rfl,.inl ⟨_,_,true,.bl b,rfl,xa8,true,rfl,false,rfl,iteF q⟩⟩
    | str y=>exact ⟨_,rfl,_,_,rfl,.inl ⟨_,_,false,.str y,rfl,(by rfl),false,rfl,iteF q⟩⟩
    | non=>exact ⟨_,rfl,_,_,rfl,.inl ⟨_,_,false,.non,rfl,(by rfl),false,rfl,iteF q⟩⟩
    | lst hq=>exact ⟨_,rfl,_,_,rfl,.inl ⟨_,_,false,.lst hq,rfl,(by rfl),false,rfl,iteF q⟩⟩
    | tup hq=>exact ⟨_,rfl,_,_,rfl,.inl ⟨_,_,false,.tup hq,rfl,(by rfl),false,rfl,iteF q⟩⟩
theorem ok_an (T:Txt w K mg t):FnOk true P w K mg base (CXo P w) 7 t.f_an t.d_an ["_law_picture", "_law_way", "_law_name", "_law_side", "_law_row"] (xm9 t):=by
  refine T.F_an.okn (k:=6) sc_an (fun vs H Q E h=>?_) (fun cdv A outer s H vs Q E hr h=>?_)
  · obtain ⟨a,dp,do_,pw,ph,wy,ps,ss,n,x,r,d,dx,dr,rfl,_⟩:=h
    rfl
  · obtain ⟨a,dp,do_,pw,ph,wy,ps,ss,n,x,r,d,dx,dr,rfl,h⟩:=h
    refine ⟨_,xj (xx (i:=5) sc_an.nd rfl (Or.inl rfl) (xck))
      (xj (xx (i:=6) sc_an.nd rfl (Or.inl rfl) (xac (xh)))
      (xj (xo0 (E:=(fun σ' e C' H'=>∃ (v5:Option V) (er:Er),σ' = [some (.ref a),some (.int wy),some n,some x,some r,some .non,v5,none]∧C' = er.cls t∧out6 wy ph ps d dx dr n x r = some er∧xbm t H H' e er)) rfl T.g_a0 T.mk_a0 sc_an.nd (j:=7) rfl rfl rfl rfl (fun _ _ tk=>xn (xaa (xad xbt (pv 1) (xi) (xaj _)) (xn (xx (i:=5) sc_an.nd rfl (Or.inl rfl) (xay (pv 0) T.c_j T.m_z (okT_z T) (hr.mono (by decide)) T.b_z .nil tk.pass (xf (pv 2) (xf (pv 3) (xf (pv 4) (xh))))))) (xn (xaa (xad xbt (pv 1) (xi) (xaj _)) (xn (xx (i:=5) sc_an.nd rfl (Or.inl rfl) (xay (pv 0) T.c_j T.m_p (okT_p T) (hr.mono (by decide)) T.b_p .nil tk.pass (xf (pv 2) (xf (pv 3) (xf (pv 4) (xh))))))) (xn (xaa (xad xbt (pv 1) (xi) (xaj _)) (xn (xx (i:=5) sc_an.nd rfl (Or.inl rfl) (xay (pv 0) T.c_j T.m_g (okT_g T) (hr.mono (by decide)) T.b_g .nil tk.pass (xf (pv 2) (xh))))) (xn (xx (i:=5) sc_an.nd rfl (Or.inl rfl) (xay (pv 0) T.c_j T.m_i (okT_i T) (hr.mono (by decide)) T.b_i .nil tk.pass (xf (pv 2) (xh))))))))))) (fun _=>xn (xx (i:=6) sc_an.nd rfl (Or.inl rfl) (xae (ok_ar T) (Room.mark hr (by decide)) rfl T.g_ar T.F_ar.kp T.b_ar .nil xu (xf (pv 7) (xh))))))
      (xn (xar (xa1 (xf (pv 5) (xf (pv 6) (xh)))))))),?_⟩
    obtain ⟨pic,st,sok,tn,tx,tr,wy0,wy3,q⟩:=h
    obtain ⟨⟨dx0,hp⟩,_⟩:=id pic
    refine ⟨(by show 0≤sizeLine; exact Nat.zero_le _),fun l0 hl0=>?_⟩
    have s1:Same H (upd H l0 (.lst [])):=xo (Same.refl _) hl0
    have g1:upd H l0 (.lst []) l0 = some (.lst []):=xg
    revert s1 g1
    generalize upd H l0 (.lst []) = H1
    intro s1 g1
    have pic1:=Pic.same s1 pic
    have st1:=st.same s1
    have hp1:=s1 _ _ hp
    have fin:∀ H' v,Same H1 H'→out6 wy ph ps d dx dr n x r = none→(∀ z xs,v = .ref z→H' z = some (.lst xs)→H1 z = none)→(∃ pt,pt ∈ ps∧d = .str pt.nm∧Rep6 H' wy pw ph ss dx dr pt v)→∀ tq,H' tq = none→Q (.ref tq) (upd H' tq (.tup [v,.ref l0])):=fun H' v s e fr rp tq htq=>by
      have s5:Same H' (upd H' tq (.tup [v,.ref l0])):=xo (Same.refl _) htq
      refine q _ tq l0 v (s1.trans (s.trans s5)) hl0 (fun z xs ez e'=>?_) xg ?_
      · have nz:z≠tq:=fun h=>by rw [h,xg] at e'; cases e'
        rw [xm nz] at e'
        exact s1.free (fr z xs ez e')
      · obtain ⟨pt,m,ed,rp⟩:=rp
        exact AnsV.same s5 (Or.inr ⟨e,s _ _ g1,pt,m,ed,rp⟩)
    have rs:∀ er,out6 wy ph ps d dx dr n x r = some er→∀ e H',xbm t H1 H' e er→∃ (v5:Option V) (er':Er),[some (V.ref a),some (.int wy),some n,some x,some r,some .non,some (.ref l0),none] = [some (.ref a),some (.int wy),some n,some x,some r,some .non,v5,none]∧er.cls t = er'.cls t∧out6 wy ph ps d dx dr n x r = some er'∧xbm t H H' e er':=fun er her e H' z=>⟨_,er,rfl,rfl,her,xbm.pre s1 z⟩
    refine ⟨?_,?_⟩
    · refine ⟨_,rfl,rfl,_,rfl,?_⟩
      have hw:wy = 0∨wy = 1∨wy = 2∨wy = 3:=by omega
      rcases hw with rfl | rfl | rfl | rfl
      · refine ifP (by rfl) ⟨_,rfl,a,dx0,_,rfl,hp1,xa6 (by decide +kernel),_,rfl,_,rfl,_,rfl,a,dp,do_,pw,ph,ps,ss,n,x,r,d,dx,dr,rfl,pic1,st1,tn.same s1,tx.same s1,tr.same s1,rs,fun out pt b i H2 hm ed hf ex ei i1 i2 s2=>?_⟩
        exact ⟨_,rfl,_,rfl,(by show 2≤sizeLine; decide),fun tq htq=>fin H2 (.bl _) s2 out (fun z xs e=>nomatch e) ⟨pt,hm,ed,Or.inl ⟨rfl,b,i,ex,ei,i1,i2,rfl⟩⟩ tq htq⟩
      · refine ifN (by rfl) ⟨_,rfl,rfl,_,rfl,ifP (by rfl) ⟨_,rfl,a,dx0,_,rfl,hp1,xa6 (by decide +kernel),_,rfl,_,rfl,_,rfl,a,dp,do_,pw,ph,ps,n,x,r,d,dx,dr,rfl,pic1,tn.same s1,tx.same s1,tr.same s1,rs,fun out pt b i H2 hm ed hf ex ei i1 i2 s2=>?_⟩⟩
        exact ⟨_,rfl,_,rfl,(by show 2≤sizeLine; decide),fun tq htq=>fin H2 (.int _) s2 out (fun z xs e=>nomatch e) ⟨pt,hm,ed,Or.inr (Or.inl ⟨rfl,b,i,ex,ei,i1,i2,rfl⟩)⟩ tq htq⟩
      · refine ifN (by rfl) ⟨_,rfl,rfl,_,rfl,ifN (by rfl) ⟨_,rfl,rfl,_,rfl,ifP (by rfl) ⟨_,rfl,a,dx0,_,rfl,hp1,xa6 (by decide +kernel),_,rfl,a,dp,do_,pw,ph,ps,ss,n,d,rfl,pic1,st1,sok,tn.same s1,rs,fun out pt H2 l srt rs2 hm ed hf s2 fr pm pw2 hl2 sl2=>?_⟩⟩⟩
        exact ⟨_,rfl,_,rfl,(by show 2≤sizeLine; decide),fun tq htq=>fin H2 (.ref _) s2 out (fun z xs e _=>by cases e; exact fr) ⟨pt,hm,ed,Or.inr (Or.inr (Or.inl ⟨rfl,l,srt,rs2,rfl,pm,pw2,hl2,sl2⟩))⟩ tq htq⟩
      · refine ifN (by rfl) ⟨_,rfl,rfl,_,rfl,ifN (by rfl) ⟨_,rfl,rfl,_,rfl,ifN (by rfl) ⟨_,rfl,a,dx0,_,rfl,hp1,xa6 (by decide +kernel),_,rfl,a,dp,do_,pw,ph,ps,n,d,rfl,pic1,tn.same s1,rs,fun out pt H2 l hm ed hf s2 hl2=>?_⟩⟩⟩
        exact ⟨_,rfl,_,rfl,(by show 2≤sizeLine; decide),fun tq htq=>fin H2 (.ref _) s2 out (fun z xs e e'=>by cases e; rw [hl2] at e'; cases e') ⟨pt,hm,ed,Or.inr (Or.inr (Or.inr ⟨rfl,l,rfl,hl2⟩))⟩ tq htq⟩
    · rintro σ' e C' H' ⟨v5,er,rfl,rfl,her,ra⟩
      refine ⟨?_,?_,?_⟩
      · cases er
        · exact T.mk_l
        · exact T.mk_w
        · exact T.mk_b
        · exact T.mk_n
        · exact T.mk_t
        · exact T.mk_ai
      · cases er
        · exact T.mro_l
        · exact T.mro_w
        · exact T.mro_b
        · exact T.mro_n
        · exact T.mro_t
        · exact T.mro_ai
      · refine ⟨_,rfl,e,er,rfl,ra.2,fun H2 l fr s2 hl=>?_⟩
        refine ⟨_,rfl,_,rfl,(by show 2≤sizeLine; decide),fun tq htq=>?_⟩
        have s02:=ra.1.trans s2
        have s5:Same H2 (upd H2 tq (.tup [.non,.ref l])):=xo (Same.refl _) htq
        exact q _ tq l .non (s02.trans s5) (ra.1.free fr) (fun z xs e=>nomatch e) xg (Or.inl ⟨er,her,rfl,s5 _ _ hl⟩)
end
end S06
set_option maxRecDepth 100000
set_option maxHeartbeats 4000000
namespace S06
open PySem L2 XL PyProof.Rows
theorem xam.rm {H:Hp} {ss:List Seat} {qs:List Addr} (h:xam H ss qs) (k:Nat):xam H (ss.eraseIdx k) (qs.eraseIdx k):=by
  induction h generalizing k with
  | nil=>exact .nil
  | cons h r ih=>cases k with
    | zero=>exact r
    | succ k=>exact .cons h (ih k)
theorem xnl {ss:List Seat} (nd:ss.Nodup) {s:Seat} (hs:s ∈ ss):∃ k,xgb (ss.map xbo) (xbo s) k∧ss.eraseIdx k = ss.filter fun t=>decide (t≠s):=by
  induction ss with
  | nil=>simp at hs
  | cons a ss ih =>
    obtain ⟨n1,n2⟩:=List.nodup_cons.mp nd
    by_cases c:a = s
    · subst c
      refine ⟨0,⟨⟨_,rfl,xba _⟩,fun i e h=>absurd h (Nat.not_lt_zero _)⟩,?_⟩
      rw [List.filter_cons_of_neg (by simp)]
      show ss = _
      refine (List.filter_eq_self.mpr fun t ht=>?_).symm
      have:t≠a:=fun z=>n1 (z ▸ ht)
      simpa using this
    · have hs':s ∈ ss:=by
        rcases List.mem_cons.mp hs with z | z
        · exact absurd z.symm c
        · exact z
      obtain ⟨k,⟨⟨e,he,ee⟩,no⟩,f⟩:=ih n2 hs'
      refine ⟨k + 1,⟨⟨e,by simpa using he,ee⟩,fun i e' hi h=>?_⟩,?_⟩
      · cases i with
        | zero =>
          simp at h
          subst h
          rw [xhu]
          exact decide_eq_false c
        | succ i=>exact no i e' (by omega) (by simpa using h)
      · rw [List.filter_cons_of_pos (by simpa using c)]
        show a :: ss.eraseIdx k = _
        rw [f]
theorem xkb {α β:Type} (f:α→β):∀ (l:List α) (k:Nat),(l.map f).eraseIdx k = (l.eraseIdx k).map f
  | [],_=>rfl
  | _ :: _,0=>rfl
  | a :: l,k + 1=>by
    show f a :: (l.map f).eraseIdx k = f a :: (l.eraseIdx k).map f
    rw [xkb f l k]
theorem PtsL.set {H:Hp} {ps:List Pt} {qs:List Addr} (h:PtsL H ps qs) (k:Nat) {p:Pt} {q:Addr} (e:H q = some (.tup (.str p.nm :: ptV p))):PtsL H (ps.set k p) (qs.set k q):=by
  induction h generalizing k with
  | nil=>exact .nil
  | cons h r ih=>cases k with
    | zero=>exact .cons e r
    | succ k=>exact .cons h (ih k)
theorem xk7 {α β:Type} (f:α→β):∀ (l:List α) (k:Nat) (a:α),(l.map f).set k (f a) = (l.set k a).map f
  | [],_,_=>rfl
  | _ :: _,0,_=>rfl
  | b :: l,k + 1,a=>by
    show f b :: (l.map f).set k (f a) = f b :: (l.set k a).map f
    rw [xk7 f l k a]
theorem xn9 {ps:List Pt} (nd:(ps.map (·.nm)).Nodup) {k:Nat} {pt:Pt} {x y:Int} (e:ps[k]? = some pt):ps.map (mvP pt.nm x y) = ps.set k { pt with x:=x,y:=y }:=by
  induction ps generalizing k with
  | nil=>rfl
  | cons a ps ih =>
    rw [List.map_cons,List.nodup_cons] at nd
    cases k with
    | zero =>
      simp at e
      subst e
      rw [List.map_cons,show mvP a.nm x y a = { a with x:=x,y:=y } from if_pos rfl]
      show _ :: _ = _ :: ps
      congr 1
      rw [List.map_congr_left (g:=id),List.map_id]
      intro p hp
      exact if_neg fun z=>nd.1 (List.mem_map.mpr ⟨p,hp,z⟩)
    | succ k =>
      have e':ps[k]? = some pt:=by simpa using e
      have ne:¬ a.nm = pt.nm:=fun z=>nd.1 (z ▸ List.mem_map.mpr ⟨pt,List.mem_of_getElem? e',rfl⟩)
      rw [List.map_cons,show mvP pt.nm x y a = a from if_neg ne,ih nd.2 e']
      rfl
theorem xn8 {nm:Str} {x y:Int} (p:Pt):(mvP nm x y p).nm = p.nm:=by
  unfold mvP
  split <;> rfl
theorem xpp {w h:Int} {ps:List Pt} (o:xb8 w h ps) {nm:Str} {x y:Int} (x1:1≤x) (x2:x≤w) (y1:1≤y) (y2:y≤h) (no:∀ p ∈ ps,p.nm≠nm→p.x≠x∧p.y≠y):xb8 w h (ps.map (mvP nm x y)):=by
  have pwn:ps.Pairwise fun p q=>p.nm≠q.nm:=by have:=o.nn; rw [List.nodup_iff_pairwise_ne,List.pairwise_map] at this; exact this
  have pwx:ps.Pairwise fun p q=>p.x≠q.x:=by have:=o.nx; rw [List.nodup_iff_pairwise_ne,List.pairwise_map] at this; exact this
  have pwy:ps.Pairwise fun p q=>p.y≠q.y:=by have:=o.ny; rw [List.nodup_iff_pairwise_ne,List.pairwise_map] at this; exact this
  refine ⟨fun p hp=>?_,?_,?_,?_,by rw [List.length_map]; exact o.le⟩
  · obtain ⟨p',hp',rfl⟩:=List.mem_map.mp hp
    have k:=o.ok p' hp'
    unfold mvP
    split
    · exact ⟨k.nm,x1,x2,y1,y2,k.sd,k.l1,k.l2,k.l3⟩
    · exact k
  · rw [List.map_map,show ((fun p:Pt=>p.nm) ∘ mvP nm x y) = fun p=>p.nm from funext xn8]
    exact o.nn
  · rw [List.map_map,List.nodup_iff_pairwise_ne,List.pairwise_map]
    refine (pwn.and pwx).imp_of_mem fun {p q} hp hq ⟨n1,n2⟩=>?_
    show (mvP nm x y p).x≠(mvP nm x y q).x
    unfold mvP
    by_cases c:p.nm = nm
    · rw [if_pos c,if_neg (fun z=>n1 (c.trans z.symm))]
      exact fun z=>(no q hq (fun y=>n1 (c.trans y.symm))).1 z.symm
    · rw [if_neg c]
      by_cases c2:q.nm = nm
      · rw [if_pos c2]
        exact (no p hp c).1
      · rw [if_neg c2]
        exact n2
  · rw [List.map_map,List.nodup_iff_pairwise_ne,List.pairwise_map]
    refine (pwn.and pwy).imp_of_mem fun {p q} hp hq ⟨n1,n2⟩=>?_
    show (mvP nm x y p).y≠(mvP nm x y q).y
    unfold mvP
    by_cases c:p.nm = nm
    · rw [if_pos c,if_neg (fun z=>n1 (c.trans z.symm))]
      exact fun z=>(no q hq (fun y=>n1 (c.trans y.symm))).2 z.symm
    · rw [if_neg c]
      by_cases c2:q.nm = nm
      · rw [if_pos c2]
        exact (no p hp c).2
      · rw [if_neg c2]
        exact n2
theorem xmx {n k:Nat} (h:k < n):ixN n (k:Int) = some k:=by
  unfold ixN
  simp
  omega
theorem Pic.atL {t:Adr} {H H':Hp} {a dp do_ m:Addr} {w h:Int} {ps:List Pt} {xs:List V} (e:H m = some (.lst xs)) (s:∀ c u,c≠m→H c = some u→H' c = some u) (p:Pic t H a dp do_ w h ps):Pic t H' a dp do_ w h ps :=
  ⟨let ⟨dx,x⟩:=p.ins; ⟨dx,s _ _ (xab x e (fun z=>nomatch z)) x⟩,let ⟨k,x,q⟩:=p.pl; ⟨k,s _ _ (xab x e (fun z=>nomatch z)) x,q.keep fun b xs x=>s _ _ (xab x e (fun z=>nomatch z)) x⟩,p.w1,p.w2,p.h1,p.h2,p.len⟩
theorem Sts.atL {H H':Hp} {do_ m:Addr} {ss:List Seat} {xs:List V} (e:H m = some (.lst xs)) (s:∀ c u,c≠m→H c = some u→H' c = some u) (p:Sts H do_ ss):Sts H' do_ ss:=let ⟨k,x,r⟩:=p; ⟨k,s _ _ (xab x e (fun z=>nomatch z)) x,r⟩
def xn5 (t:Adr):Sp:=fun vs H Q _=>∃ (a dp do_ l m:Addr) (pw ph n:Int) (ps:List Pt) (ss:List Seat),vs = [.ref a,.ref l,.ref m,.int n]∧PS t H a dp do_ pw ph ps ss l m∧l≠m ∧
  ∀ (H':Hp) (ps':List Pt) (ss':List Seat),(∀ b u,b≠dp→b≠do_→b≠l→b≠m→H b = some u→H' b = some u)→PS t H' a dp do_ pw ph ps' ss' l m→Q .non H'
theorem xmw {ps:List Pt} (nd:(ps.map (·.y)).Nodup) {p q:Pt} (hp:p ∈ ps) (hq:q ∈ ps) (e:p.y = q.y):p = q:=by
  induction ps with
  | nil=>exact (nomatch hp)
  | cons a ps ih =>
    rw [List.map_cons,List.nodup_cons] at nd
    rcases List.mem_cons.mp hp with z | z <;> rcases List.mem_cons.mp hq with z2 | z2
    · rw [z,z2]
    · exact absurd (List.mem_map.mpr ⟨q,z2,by rw [← e,z]⟩) nd.1
    · exact absurd (List.mem_map.mpr ⟨p,z,by rw [e,z2]⟩) nd.1
    · exact ih nd.2 z z2
theorem xhl {s:Str} (h:isNm s = true):s.length = 1:=by
  unfold isNm at h
  rw [Bool.and_eq_true,decide_eq_true_eq] at h
  exact h.1
theorem xgg {ps:List Pt} {f:Pt→Bool} (h:∀ p ∈ ps,f p = false):ps.find? f = none:=List.find?_eq_none.mpr fun p hp=>by rw [h p hp]; decide
section
variable {P:Program} {w:World} {K:PySem.W.Frag} {mg:Str→Option Value} {base:Heap} {t:Adr}
theorem ok_ae (T:Txt w K mg t):FnOk true P w K mg base (CXo P w) 6 t.f_ae t.d_ae ["_law_picture", "_law_rows", "_law_seats", "_law_number"] (xn5 t):=by
  refine T.F_ae.okn (k:=5) sc_ae (fun vs H Q E h=>?_) (fun cdv A outer s H vs Q E hr h=>?_)
  · obtain ⟨a,dp,do_,l,m,pw,ph,n,ps,ss,rfl,_⟩:=h
    rfl
  · obtain ⟨a,dp,do_,l,m,pw,ph,n,ps,ss,rfl,h⟩:=h
    refine ⟨_,xj (xx (i:=4) sc_ae.nd rfl (Or.inl rfl) (xa1 (xf (x5 xas (xac (xf (x9) (xf (x9) (xh)))) (xq xau (pv 3) (xi)) (fun _ _=>rfl)) (xf (xq xax (xi) (xq xau (xq xbi (pv 3) (xi)) (xao (pv 0) rfl))) (xh)))))
      (xj (xbf (xaa (xad (xkm (xa4 hr)) (pv 4) (pv 2) (by rfl)) (xj (xav (xfm PySem.F.plainAttrs_list PySem.F.slot_list_remove PySem.F.type_list_remove (xi0 (xa4 hr)) (pv 2) (xf (pv 4) (xh))))
      (xn (xav (xay (pv 0) T.c_j T.m_h (ok_h T) (hr.mono (by decide)) T.b_h .nil xu (xf (x5 xak (pv 4) (xi) (fun _ _=>rfl)) (xf (x5 xak (pv 4) (xi) (fun _ _=>rfl)) (xh))))))) (xj (xav (xfm PySem.F.plainAttrs_list PySem.F.slot_list_append PySem.F.type_list_append xcw (pv 2) (xf (pv 4) (xh))))
      (xn (xav (xay (pv 0) T.c_j T.m_f (ok_f T) (hr.mono (by decide)) T.b_f .nil xu (xf (x5 xak (pv 4) (xi) (fun _ _=>rfl)) (xf (x5 xak (pv 4) (xi) (fun _ _=>rfl)) (xh)))))))))
      (xn (xbf (xaa (xad (xc2 (xa4 hr)) (pv 1) (xac (xh)) (xaj _)) (xj (xx (i:=5) sc_ae.nd rfl (Or.inl rfl) (xq xau (xq xbi (pv 3) (xi)) (xz xcj rfl T.n_len boot_len (xf (pv 1) (xh)))))
      (xj (xx (i:=6) sc_ae.nd rfl (Or.inl rfl) (xq xax (xi) (xq xau (xq xbi (pv 3) (xi)) (xao (pv 0) rfl))))
      (xn (xbf (xaa (xad xdg (pv 6) (xdm rfl (xby (zs:=["_law_row"]) (ys:=[]) (fr:=[]) (N0:=["_law_picture", "_law_rows", "_law_seats", "_law_number", "_law_seat", "_law_at", "_law_x"]) (sc0:=xk s_ae) (by decide +kernel) rfl rfl rfl) (xbp (pv 1)) (fun _ _ _ _ _ ow nd=>xap (i:=0) nd rfl (Or.inl (ow _ (by simp))) (Or.inr (ow _ (by simp)))) (xbz (by decide)) (fun _ _ _ _ _=>xd6) (fun _ _ _ _ _=>x5 (r:=rIxT K) xak (pv 0) (xi) (fun _ _=>rfl))) (by rfl)) (xj (xav (xay (pv 0) T.c_j T.m_ab (okT_ab T) (hr.mono (by decide)) T.b_ab .nil xu (xf (x5 xak (x5 xas (pv 1) (pv 5) (fun _ _=>rfl)) (xi) (fun _ _=>rfl)) (xf (pv 6) (xf (x5 xak (x5 xas (pv 1) (pv 5) (fun _ _=>rfl)) (xi) (fun _ _=>rfl)) (xh))))))
      (xn (xfl (xq xf5 (xa1 (xf (x5 xak (x5 xas (pv 1) (pv 5) (fun _ _=>rfl)) (xi) (fun _ _=>rfl)) (xf (pv 6) (xh)))) (xfb xhp (x5 xas (pv 1) (pv 5) (fun _ _=>rfl)) (xf2 (xi)) xf6)) (xoq (pv 1) (pv 5) xlv)))) (xw)))))) (xw))))),?_⟩
    obtain ⟨p,nlm,q⟩:=h
    have pic:=p.pic
    obtain ⟨⟨dx,hp⟩,⟨kp,hkp,_⟩,w1,w2,h1,h2,_⟩:=id pic
    obtain ⟨qs,hl,pts⟩:=p.rl
    obtain ⟨sq2,rs,pm2,hm,sts⟩:=p.sl
    obtain ⟨ko,hko,_⟩:=id p.st
    obtain ⟨sb,esb⟩:=xmd n
    refine ⟨(by show 2≤sizeLine; decide),fun q0 hq0=>?_⟩
    have s1:Same H (upd H q0 (.lst [.str "left",.str "right"])):=xo (Same.refl _) hq0
    have g1:upd H q0 (.lst [.str "left",.str "right"]) q0 = some (.lst [.str "left",.str "right"]):=xg
    revert s1 g1
    generalize upd H q0 (.lst [.str "left",.str "right"]) = H1
    intro s1 g1
    have hp1:=s1 _ _ hp
    refine ⟨_,rfl,_,_,rfl,rfl,(by show (0:Int) < 2; decide),q0,_,_,.str (xv sb),rfl,rfl,SqL.of g1,esb,_,rfl,_,_,rfl,rfl,⟨by decide,by decide⟩,_,rfl,a,_,_,_,_,rfl,hp1,T.c_j,T.n_bc,lkH,_,_,rfl,rfl,(by show 0 < ph; omega),_,_,rfl,rfl,(by show 2≤sizeLine; decide),fun z hz=>?_⟩
    have rb:=xaw (n / 2) (show 0 < ph by omega)
    obtain ⟨r,er⟩:∃ r,r = 1 + n / 2 % ph:=⟨_,rfl⟩
    dsimp only
    rw [← er]
    have r1:1≤r:=by omega
    have r2:r≤ph:=by omega
    have s2:Same H1 (upd H1 z (.tup [.str (xv sb),.int r])):=xo (Same.refl _) hz
    have g2:upd H1 z (.tup [.str (xv sb),.int r]) z = some (.tup [.str (xv sb),.int r]):=xg
    revert s2 g2
    generalize upd H1 z (.tup [.str (xv sb),.int r]) = H2
    intro s2 g2
    have s02:=s1.trans s2
    have gz:H2 z = some (.tup (xc5 (sb,r))):=g2
    have len2:sq2.length≤32:=by rw [pm2.length_eq]; exact p.sok.2.1
    have rl2:=sts.len
    have st2:=sts.keep (Same.tups s02)
    have nd2:sq2.Nodup:=pm2.nodup_iff.mpr p.sok.1
    have hm2:=s02 _ _ hm
    have ndm:do_≠m:=xab hko hm (fun z=>nomatch z)
    refine ⟨fun σ H'=>∃ (ss':List Seat),σ = [some (.ref a),some (.ref l),some (.ref m),some (.int n),some (.ref z),none,none]∧(∀ b u,b≠do_→b≠m→H b = some u→H' b = some u)∧PS t H' a dp do_ pw ph ps ss' l m,?_,?_⟩
    · refine ⟨_,rfl,_,rfl,1,2,xbo (sb,r),sq2.map xbo,xez gz,st2.dv hm2,by decide,by decide,_,rfl,ite2 (fun c=>?_) (fun c=>?_)⟩
      · rw [if_neg (by decide),xef,decide_eq_true_iff] at c
        obtain ⟨kk,fa,ef⟩:=xnl nd2 c
        refine ⟨_,rfl,.inl ⟨rfl,_,SqL.of hm2⟩,_,rfl,m,_,_,1,2,xbo (sb,r),sq2.map xbo,kk,rfl,rfl,hm2,xez gz,st2.dv hm2,by decide,by decide,fa,?_⟩
        have bt:∀ c u,c≠m→H2 c = some u→upd H2 m (.lst ((rs.map V.ref).eraseIdx kk)) c = some u:=fun c u nc e=>by
          rw [xm nc]
          exact e
        have gm:upd H2 m (.lst ((rs.map V.ref).eraseIdx kk)) m = some (.lst ((rs.eraseIdx kk).map V.ref)):=by
          rw [xg,xkb]
        revert bt gm
        generalize upd H2 m (.lst ((rs.map V.ref).eraseIdx kk)) = H3
        intro bt gm
        have t23:Tups H2 H3:=fun c xs e=>bt _ _ (xab e hm2 (fun z=>nomatch z)) e
        have hp3:=bt _ _ (xab (s02 _ _ hp) hm2 (fun z=>nomatch z)) (s02 _ _ hp)
        refine ⟨_,rfl,a,dx,_,rfl,hp3,xa6 (by decide +kernel),_,rfl,z,_,0,_,rfl,rfl,SqT.of (t23 _ _ g2),rfl,_,rfl,z,_,1,_,rfl,rfl,SqT.of (t23 _ _ g2),rfl,?_⟩
        refine ⟨a,dp,do_,pw,ph,ps,ss,sb,r,rfl,(Pic.same s02 pic).atL hm2 bt,(p.st.same s02).atL hm2 bt,r1,r2,pm2.mem_iff.mp c,fun H4 k4 pic4 st4=>?_⟩
        have hk3:=bt _ _ ndm (s02 _ _ hko)
        have t34:Tups H3 H4:=fun b xs e=>k4 _ _ (xab e hk3 (fun z=>nomatch z)) e
        have k04:∀ b u,b≠do_→b≠m→H b = some u→H4 b = some u:=fun b u n1 n2 e=>k4 _ _ n1 (bt _ _ n2 (s02 _ _ e))
        have t04:Tups H H4:=fun b xs e=>k04 _ _ (xab e hko (fun z=>nomatch z)) (xab e hm (fun z=>nomatch z)) e
        refine ⟨ss.filter fun s=>decide (s≠(sb,r)),rfl,k04,pic4,st4,p.pok,⟨p.sok.1.filter _,Nat.le_trans (List.length_filter_le _ _) p.sok.2.1,fun s hs=>p.sok.2.2 s (List.mem_filter.mp hs).1⟩,⟨qs,k04 _ _ (xab hl hko (fun z=>nomatch z)) nlm hl,pts.keep t04⟩,⟨sq2.filter fun s=>decide (s≠(sb,r)),rs.eraseIdx kk,pm2.filter _,k4 _ _ (xab gm hk3 (fun z=>nomatch z)) gm,?_⟩⟩
        rw [← ef]
        exact (sts.keep t04).rm kk
      · rw [if_neg (by decide),xef,decide_eq_true_iff] at c
        have nin:(sb,r) ∉ ss:=fun z=>c (pm2.mem_iff.mpr z)
        have hrow:ss.length < 32:=by
          have le:=p.sok.2.1
          by_cases c32:ss.length < 32
          · exact c32
          · exact absurd (xi5 (by omega) p.sok (by omega) (sb,r) r1 r2) nin
        refine ⟨_,rfl,.inl ⟨rfl,_,SqL.of hm2⟩,_,rfl,m,_,_,rfl,rfl,hm2,?_,?_⟩
        · rw [List.length_map]
          exact Nat.lt_trans (by omega:rs.length < 33) (by decide)
        have bt:∀ c u,c≠m→H2 c = some u→upd H2 m (.lst (rs.map V.ref ++ [.ref z])) c = some u:=fun c u nc e=>by
          rw [xm nc]
          exact e
        have gm:upd H2 m (.lst (rs.map V.ref ++ [.ref z])) m = some (.lst ((rs ++ [z]).map V.ref)):=by
          rw [xg,List.map_append]
          rfl
        revert bt gm
        generalize upd H2 m (.lst (rs.map V.ref ++ [.ref z])) = H3
        intro bt gm
        have t23:Tups H2 H3:=fun c xs e=>bt _ _ (xab e hm2 (fun z=>nomatch z)) e
        have hp3:=bt _ _ (xab (s02 _ _ hp) hm2 (fun z=>nomatch z)) (s02 _ _ hp)
        refine ⟨_,rfl,a,dx,_,rfl,hp3,xa6 (by decide +kernel),_,rfl,z,_,0,_,rfl,rfl,SqT.of (t23 _ _ g2),rfl,_,rfl,z,_,1,_,rfl,rfl,SqT.of (t23 _ _ g2),rfl,?_⟩
        refine ⟨a,dp,do_,pw,ph,ps,ss,sb,r,rfl,(Pic.same s02 pic).atL hm2 bt,(p.st.same s02).atL hm2 bt,r1,r2,nin,hrow,fun H4 k4 pic4 st4=>?_⟩
        have hk3:=bt _ _ ndm (s02 _ _ hko)
        have t34:Tups H3 H4:=fun b xs e=>k4 _ _ (xab e hk3 (fun z=>nomatch z)) e
        have k04:∀ b u,b≠do_→b≠m→H b = some u→H4 b = some u:=fun b u n1 n2 e=>k4 _ _ n1 (bt _ _ n2 (s02 _ _ e))
        have t04:Tups H H4:=fun b xs e=>k04 _ _ (xab e hko (fun z=>nomatch z)) (xab e hm (fun z=>nomatch z)) e
        refine ⟨ss ++ [(sb,r)],rfl,k04,pic4,st4,p.pok,⟨?_,?_,fun s hs=>?_⟩,⟨qs,k04 _ _ (xab hl hko (fun z=>nomatch z)) nlm hl,pts.keep t04⟩,⟨sq2 ++ [(sb,r)],rs ++ [z],pm2.append_right _,k4 _ _ (xab gm hk3 (fun z=>nomatch z)) gm,xam.snoc (sts.keep t04) (t34 _ _ (t23 _ _ gz))⟩⟩
        · rw [List.nodup_append]
          exact ⟨p.sok.1,by simp,fun x hx y hy e=>nin (by rw [List.mem_singleton.mp hy] at e; exact e ▸ hx)⟩
        · rw [List.length_append]
          show ss.length + 1≤32
          omega
        · rcases List.mem_append.mp hs with y | y
          · exact p.sok.2.2 s y
          · rw [List.mem_singleton.mp y]
            exact ⟨r1,r2⟩
    · rintro σ H3 ⟨ss',rfl,k3,p3⟩
      obtain ⟨qs3,hl3,pts3⟩:=p3.rl
      have ql3:=pts3.len
      have ple:=p3.pok.le
      refine ⟨fun σ H'=>∃ (ps':List Pt),(∀ b u,b≠dp→b≠do_→b≠l→b≠m→H b = some u→H' b = some u)∧PS t H' a dp do_ pw ph ps' ss' l m,?_,fun σ H' ⟨ps',k',p'⟩=>q H' ps' ss' k' p'⟩
      refine ⟨_,rfl,(by show 0≤sizeLine; exact Nat.zero_le _),fun e0 he0=>?_⟩
      have s4:Same H3 (upd H3 e0 (.lst [])):=xo (Same.refl _) he0
      have g4:upd H3 e0 (.lst []) e0 = some (.lst []):=xg
      revert s4 g4
      generalize upd H3 e0 (.lst []) = H4
      intro s4 g4
      refine ⟨2,1,.lst (ps.map ptD),.lst [],(pts3.keep (Same.tups s4)).dv (s4 _ _ hl3),.lst (SqL.of g4) rfl (fun j x d e _=>by simp at e),by decide,by decide,_,rfl,?_⟩
      have p4:=p3.same s4
      have k4:∀ b u,b≠dp→b≠do_→b≠l→b≠m→H b = some u→H4 b = some u:=fun b u _ n2 _ n4 e=>s4 _ _ (k3 b u n2 n4 e)
      refine ite2 (fun c=>?_) (fun c=>⟨ps,k4,p4⟩)
      have pos:0 < ps.length:=by
        cases ps with
        | nil=>exact absurd c (by decide)
        | cons _ _=>exact Nat.succ_pos _
      have hl4:=s4 _ _ hl3
      refine ⟨_,rfl,_,_,rfl,rfl,⟨by decide,by decide⟩,_,rfl,l,_,rfl,.inl (SqL.of hl4),_,_,rfl,rfl,(by show (0:Int) < ((qs3.map V.ref).length:Nat); rw [List.length_map]; omega),?_⟩
      have ab:=xaw (n / 64) (show (0:Int) < ((qs3.map V.ref).length:Nat) by rw [List.length_map]; omega)
      obtain ⟨k,ek⟩:∃ k:Nat,n / 64 % ((qs3.map V.ref).length:Nat) = (k:Int):=⟨_,(Int.toNat_of_nonneg ab.1).symm⟩
      dsimp only
      rw [ek] at ab ⊢
      rw [List.length_map] at ab
      have klt:k < qs3.length:=by omega
      have pts4:=pts3.keep (Same.tups s4)
      obtain ⟨pk,hpk,epk⟩:=pts4.get (List.getElem?_eq_getElem klt)
      have pkm:=List.mem_of_getElem? hpk
      have pko:=p4.pok.ok pk pkm
      obtain ⟨dx4,hp4⟩:=p4.pic.ins
      refine ⟨_,rfl,_,_,rfl,rfl,⟨by decide,by decide⟩,_,rfl,a,_,_,_,_,rfl,hp4,T.c_j,T.n_bg,lkW,_,_,rfl,rfl,(by show 0 < pw; omega),_,_,rfl,rfl,?_⟩
      have xb:=xaw (n / 800) (show 0 < pw by omega)
      obtain ⟨x,ex⟩:∃ x,x = 1 + n / 800 % pw:=⟨_,rfl⟩
      dsimp only
      rw [← ex]
      refine ⟨fun σ H'=>∃ (ps':List Pt),(∀ b u,b≠dp→b≠do_→b≠l→b≠m→H b = some u→H' b = some u)∧PS t H' a dp do_ pw ph ps' ss' l m,?_,fun σ H' z=>z⟩
      refine ⟨_,rfl,_,rfl,l,rfl,⟨_,SqL.of hl4⟩,fun lx hlx=>?_⟩
      refine xer (SqL.of hl4) (by rw [List.length_map]; exact Nat.lt_trans (by omega:qs3.length < 13) (by decide)) hlx (fun i y _=>∃ p,ps[i]? = some p∧y = .int p.x) (fun _ _ _ _ _ z=>z) (fun i z H2 hz s2 N hN=>?_) (fun ys H5 s5 el5 ly f5=>?_)
      · rw [List.getElem?_map] at hz
        obtain ⟨o,ho,rfl⟩:=Option.map_eq_some_iff.mp hz
        obtain ⟨p,hpp,ep⟩:=(PtsL.keep (Same.tups s2) pts4).get ho
        exact ⟨_,rfl,o,_,1,_,rfl,rfl,SqT.of ep,rfl,hN _ _ (Same.refl _) ⟨p,hpp,rfl⟩⟩
      have ey1:ys = (ps.map (·.x)).map V.int:=by
        rw [List.map_map]
        refine xg8 (by rw [ly,List.length_map,ql3]) fun i y p hy hp=>?_
        obtain ⟨p',h1,h2⟩:=f5 i y hy
        rw [hp] at h1
        cases h1
        exact h2
      subst ey1
      have p5:=p4.same s5
      have k5:∀ b u,b≠dp→b≠do_→b≠l→b≠m→H b = some u→H5 b = some u:=fun b u n1 n2 n3 n4 e=>s5 _ _ (k4 b u n1 n2 n3 n4 e)
      refine ⟨lx,_,rfl,.inl (SqL.of el5),rfl,xfc _,_,rfl,ite2 (fun cx=>?_) (fun cx=>⟨ps,k5,p5⟩)⟩
      rw [if_pos rfl,xf7] at cx
      have nx:x ∉ ps.map (·.x):=by simpa using cx
      have hl5:=s5 _ _ hl4
      have epk5:=s5 _ _ epk
      have at5:atI (qs3.map V.ref) (k:Int) = some (.ref qs3[k]):=xda (by rw [List.getElem?_map,List.getElem?_eq_getElem klt]; rfl)
      obtain ⟨dx5,hp5⟩:=p5.pic.ins
      have yes:hasN ps (.str pk.nm) = true:=by
        show (isNm pk.nm && ps.any fun p=>decide (p.nm = pk.nm)) = true
        rw [pko.nm,Bool.true_and]
        exact List.any_eq_true.mpr ⟨pk,pkm,decide_eq_true rfl⟩
      have far:∀ p ∈ ps,p.nm≠pk.nm→p.x≠x∧p.y≠pk.y:=fun p hp ne=>by
        refine ⟨fun e=>nx (e ▸ List.mem_map.mpr ⟨p,hp,rfl⟩),fun e=>ne ?_⟩
        have:=xmw p5.pok.ny hp pkm e
        rw [this]
      have out:xee pw ph ps (.str pk.nm) (.int x) (.int pk.y) (.str pk.nm) (.int x) (.int pk.y) = none:=by
        unfold xee
        rw [yes,xc8 (show 1≤x by omega) (show x≤pw by omega),xc8 pko.y1 pko.y2]
        show xcr ps pk.nm x pk.y = none
        unfold xcr
        rw [xgg fun p hp=>?_]
        · show (match ps.find? _ with | some p=>_ | none=>none) = none
          rw [xgg fun p hp=>?_]
          by_cases c:p.nm = pk.nm
          · rw [decide_eq_false (fun z=>z c),Bool.false_and]
          · rw [decide_eq_false (far p hp c).2,Bool.and_false]
        · by_cases c:p.nm = pk.nm
          · rw [decide_eq_false (fun z=>z c),Bool.false_and]
          · rw [decide_eq_false (far p hp c).1,Bool.and_false]
      refine ⟨_,rfl,a,dx5,_,rfl,hp5,xa6 (by decide +kernel),_,rfl,_,rfl,l,_,_,.ref qs3[k],rfl,rfl,SqL.of hl5,at5,qs3[k],_,0,_,rfl,rfl,SqT.of epk5,rfl,_,rfl,_,rfl,_,rfl,l,_,_,.ref qs3[k],rfl,rfl,SqL.of hl5,at5,qs3[k],_,2,_,rfl,rfl,SqT.of epk5,rfl,?_⟩
      refine ⟨a,dp,do_,pw,ph,ps,.str pk.nm,.int x,.int pk.y,.str pk.nm,.int x,.int pk.y,rfl,p5.pic,p5.pok.nn,.str _ (by have:=xhl pko.nm; omega),.int _,.int _,fun er her=>(by rw [out] at her; cases her),fun _ nm i j H6 e1 e2 e3 k6 pic6=>?_⟩
      cases e1
      cases e2
      cases e3
      obtain ⟨kp5,hkp5,_⟩:=p5.pic.pl
      have t56:Tups H5 H6:=fun b xs e=>k6 _ _ (xab e hkp5 (fun z=>nomatch z)) e
      have hl6:=k6 _ _ (xab hl5 hkp5 (fun z=>nomatch z)) hl5
      have epk6:=t56 _ _ epk5
      refine ⟨_,rfl,_,rfl,l,_,_,.ref qs3[k],rfl,rfl,SqL.of hl6,at5,qs3[k],_,0,_,rfl,rfl,SqT.of epk6,rfl,_,rfl,(by show 2≤sizeLine; decide),fun q7 hq7=>?_⟩
      have s7:Same H6 (upd H6 q7 (.tup [.str pk.nm,.int x])):=xo (Same.refl _) hq7
      have g7:upd H6 q7 (.tup [.str pk.nm,.int x]) q7 = some (.tup [.str pk.nm,.int x]):=xg
      revert s7 g7
      generalize upd H6 q7 (.tup [.str pk.nm,.int x]) = H7
      intro s7 g7
      have epk7:=s7 _ _ epk6
      have hl7:=s7 _ _ hl6
      refine ⟨_,rfl,_,rfl,l,_,_,.ref qs3[k],rfl,rfl,SqL.of hl7,at5,2,rfl,qs3[k],_,rfl,SqT.of epk7,(fun z=>absurd z.1 (by show ¬ ((2:Nat) = 0); decide)),fun q8 hq8=>?_⟩
      change H7 q8 = none at hq8
      obtain ⟨H8,e8⟩:∃ H8,H8 = upd H7 q8 (.tup [.int pk.y,.str pk.sd,.int pk.lo,.int pk.hi]):=⟨_,rfl⟩
      have s8:Same H7 H8:=by rw [e8]; exact xo (Same.refl _) hq8
      have g8:H8 q8 = some (.tup [.int pk.y,.str pk.sd,.int pk.lo,.int pk.hi]):=by rw [e8]; exact xg
      refine ⟨q7,q8,_,[.int pk.y,.str pk.sd,.int pk.lo,.int pk.hi],rfl,rfl,SqT.of (by have:=s8 _ _ g7; rw [e8] at this; exact this),SqT.of (by have:=g8; rw [e8] at this; exact this),(by simp),(by show 2 + 4≤sizeLine; decide),(fun z=>nomatch z),fun _ q9 hq9=>?_⟩
      have hq9':H8 q9 = none:=by rw [e8]; exact hq9
      obtain ⟨H9,e9⟩:∃ H9,H9 = upd H8 q9 (.tup (.str pk.nm :: ptV { pk with x:=x,y:=pk.y })):=⟨_,rfl⟩
      have s9:Same H8 H9:=by rw [e9]; exact xo (Same.refl _) hq9'
      have g9:H9 q9 = some (.tup (.str pk.nm :: ptV { pk with x:=x,y:=pk.y })):=by rw [e9]; exact xg
      have hl9:=s9 _ _ (s8 _ _ hl7)
      refine ⟨_,rfl,_,rfl,l,_,k,k,rfl,rfl,(by have:=hl9; rw [e9,e8] at this; exact this),xmx (by rw [List.length_map]; exact klt),?_⟩
      obtain ⟨HA,eA⟩:∃ HA,HA = upd H9 l (.lst ((qs3.map V.ref).set k (.ref q9))):=⟨_,rfl⟩
      have s69:=s7.trans (s8.trans s9)
      have kA:∀ b u,b≠l→H6 b = some u→HA b = some u:=fun b u nb e=>by
        rw [eA,xm nb]
        exact s69 _ _ e
      have gl:HA l = some (.lst ((qs3.set k q9).map V.ref)):=by rw [eA,xg,xk7]
      have gq:HA q9 = some (.tup (.str pk.nm :: ptV { pk with x:=x,y:=pk.y })):=by
        rw [eA,xm (xab g9 hl9 (fun z=>nomatch z))]
        exact g9
      have eall:upd (upd (upd H7 q8 (.tup [.int pk.y,.str pk.sd,.int pk.lo,.int pk.hi])) q9 (.tup (.str pk.nm :: ptV { pk with x:=x,y:=pk.y }))) l (.lst ((qs3.map V.ref).set k (.ref q9))) = HA:=by rw [eA,e9,e8]
      show ∃ (ps':List Pt),(∀ b u,b≠dp→b≠do_→b≠l→b≠m→H b = some u→upd (upd (upd H7 q8 (.tup [.int pk.y,.str pk.sd,.int pk.lo,.int pk.hi])) q9 (.tup (.str pk.nm :: ptV { pk with x:=x,y:=pk.y }))) l (.lst ((qs3.map V.ref).set k (.ref q9))) b = some u)∧PS t (upd (upd (upd H7 q8 (.tup [.int pk.y,.str pk.sd,.int pk.lo,.int pk.hi])) q9 (.tup (.str pk.nm :: ptV { pk with x:=x,y:=pk.y }))) l (.lst ((qs3.map V.ref).set k (.ref q9)))) a dp do_ pw ph ps' ss' l m
      rw [eall]
      have kB:∀ b u,b≠dp→b≠l→H5 b = some u→HA b = some u:=fun b u n1 n2 e=>kA _ _ n2 (k6 _ _ n1 e)
      have tB:Tups H5 HA:=fun b xs e=>kB _ _ (xab e hkp5 (fun z=>nomatch z)) (xab e hl5 (fun z=>nomatch z)) e
      have em:ps.map (mvP pk.nm x pk.y) = ps.set k { pk with x:=x,y:=pk.y }:=xn9 p5.pok.nn hpk
      obtain ⟨ko5,hko5,rest5⟩:=id p5.st
      obtain ⟨sq5,rs5,pm5,hm5,sts5⟩:=p5.sl
      refine ⟨ps.map (mvP pk.nm x pk.y),fun b u n1 n2 n3 n4 e=>kB _ _ n1 n3 (k5 b u n1 n2 n3 n4 e),pic6.atL hl6 kA,⟨ko5,kB _ _ (xab hko5 hkp5 (fun z=>nomatch z)) (xab hko5 hl5 (fun z=>nomatch z)) hko5,rest5⟩,xpp p5.pok (by omega) (by omega) pko.y1 pko.y2 far,p5.sok,⟨qs3.set k q9,gl,?_⟩,⟨sq5,rs5,pm5,kB _ _ (xab hm5 hkp5 (fun z=>nomatch z)) (Ne.symm nlm) hm5,sts5.keep tB⟩⟩
      rw [em]
      exact PtsL.set (p:={ pk with x:=x,y:=pk.y }) ((pts4.keep (Same.tups s5)).keep tB) k gq
end
end S06
set_option maxRecDepth 100000
set_option maxHeartbeats 4000000
namespace S06
open PySem L2 XL PyProof.Rows
def xp2:Option Er→List V
  | some er=>er.told
  | none=>[]
theorem xbg {K:PySem.W.Frag} {H:Hp} {n:Nat} {q:Addr} {x y:V} {d e:DV} (h:H q = some (.tup [x,y])) (hx:Dv K H n x d) (hy:Dv K H n y e):Dv K H (n + 1) (.ref q) (.tup [d,e]):=by
  refine .tup (SqT.of h) rfl fun j a b h1 h2=>?_
  match j,h1,h2 with
  | 0,h1,h2=>cases h1; cases h2; exact hx
  | 1,h1,h2=>cases h1; cases h2; exact hy
  | j + 2,h1,h2=>simp at h1
theorem xhb {K:PySem.W.Frag} {H:Hp} {n:Nat} {q:Addr} {x y:V} {d e:DV} (h:H q = some (.lst [x,y])) (hx:Dv K H n x d) (hy:Dv K H n y e):Dv K H (n + 1) (.ref q) (.lst [d,e]):=by
  refine .lst (SqL.of h) rfl fun j a b h1 h2=>?_
  match j,h1,h2 with
  | 0,h1,h2=>cases h1; cases h2; exact hx
  | 1,h1,h2=>cases h1; cases h2; exact hy
  | j + 2,h1,h2=>simp at h1
theorem xbb {K:PySem.W.Frag} {H:Hp} {n:Nat} {e:Addr} (h:H e = some (.lst [])):Dv K H (n + 1) (.ref e) (.lst []):=.lst (SqL.of h) rfl (fun j x d e _=>by simp at e)
theorem xid {a:Str} {d:DV} (h:dEq (.str a) d = true):d = .str a:=by
  cases d with
  | str b =>
    have:a = b:=by simpa [dEq] using h
    rw [this]
  | _=>simp [dEq] at h
def xfn (ps:List Pt) (d:DV) (i:Nat):Bool:=match ps[i]? with | some p=>dEq (.str p.nm) d | none=>false
theorem xff {ps:List Pt} {d:DV} {p:Pt} {i:Nat} (h:ps[i]? = some p):xfn ps d i = dEq (.str p.nm) d:=by
  unfold xfn
  rw [h]
theorem xjt (dx:DV):([.str "left",.str "right"]:List DV).any (fun z=>dEq z dx) = (xbq dx).isSome:=by
  cases dx with
  | str s =>
    show ((("left":Str) == s) || ((("right":Str) == s) || false)) = (if s = "left" then some true else if s = "right" then some false else none).isSome
    by_cases c:s = "left"
    · subst c; decide +kernel
    · by_cases c2:s = "right"
      · subst c2; decide +kernel
      · rw [if_neg c,if_neg c2,beq_false_of_ne (Ne.symm c),beq_false_of_ne (Ne.symm c2)]
        rfl
  | _=>rfl
theorem xme {H:Hp} {ph:Int} {ps:List Pt} {d dx dr:DV} {n x r:V} {er:Er} (tn:Thg H n d) (tx:Thg H x dx) (tr:Thg H r dr) (h:xbr ph ps d dx dr n x r = some er):∃ w v dv,er.told = [.str w,v]∧Thg H v dv:=by
  cases y:hasN ps d with
  | false=>rw [xcc y] at h; cases h; exact ⟨_,_,_,rfl,tn⟩
  | true =>
    rw [xbx y] at h
    cases sd:xbq dx with
    | none=>rw [xgc sd] at h; cases h; exact ⟨_,_,_,rfl,tx⟩
    | some b =>
      cases w:xa7 dr 1 ph with
      | false=>rw [xf3 sd w] at h; cases h; exact ⟨_,_,_,rfl,tr⟩
      | true=>rw [xey sd w] at h; cases h
theorem xll {w h:Int} {ps:List Pt} {d:DV} (o:xb8 w h ps):hasN ps d = !(ps.filter fun p=>dEq (.str p.nm) d).isEmpty:=by
  cases y:hasN ps d with
  | true =>
    obtain ⟨s,pt,rfl,_,_,m,rfl⟩:=xdb y
    have:pt ∈ ps.filter fun p=>dEq (.str p.nm) (.str pt.nm):=List.mem_filter.mpr ⟨m,xba _⟩
    cases z:ps.filter fun p=>dEq (.str p.nm) (.str pt.nm) with
    | nil=>rw [z] at this; cases this
    | cons _ _=>rfl
  | false =>
    cases z:ps.filter fun p=>dEq (.str p.nm) d with
    | nil=>rfl
    | cons p1 pr =>
      have m:p1 ∈ ps.filter fun p=>dEq (.str p.nm) d:=by rw [z]; exact List.mem_cons_self
      obtain ⟨m1,m2⟩:=List.mem_filter.mp m
      have:=xid m2
      subst this
      have:hasN ps (.str p1.nm) = true:=by
        show (isNm p1.nm && ps.any fun p=>decide (p.nm = p1.nm)) = true
        rw [(o.ok p1 m1).nm,Bool.true_and]
        exact List.any_eq_true.mpr ⟨p1,m1,decide_eq_true rfl⟩
      rw [this] at y
      cases y
def Due6 (H:Hp) (a l m lo:Addr) (n x r:V) (old:List Pt) (ors:List Addr) (out:Option Er) (σ:L2.St) (H':Hp):Prop:=∃ du:Addr,σ = [some (.ref a),some (.ref l),some (.ref m),some n,some x,some r,some (.ref lo),some (.ref du),none,none,none,none,none]∧Same H H'∧H' du = some (.lst (xp2 out))
def F6 (H0:Hp) (l:Addr) (pw ph:Int) (ps:List Pt) (ss:List Seat) (d dx dr:DV) (n x r:V) (i:Nat) (ys:List V) (H:Hp):Prop:=∃ (Tq L:Nat→Addr) (v:Nat→V),ys = (List.range i).map (fun j=>V.ref (Tq j)) ∧
  (∀ j,j < i→H (Tq j) = some (.tup [v j,.ref (L j)])∧L j≠l∧v j≠.ref l∧AnsV H (0 + (j:Int)) pw ph ps ss d dx dr n x r (v j) (L j)∧∀ z xs,v j = .ref z→H z = some (.lst xs)→H0 z = none)∧∀ j k,j < k→k < i→v j≠.ref (L k)
theorem F6.off {H0 H H':Hp} {l:Addr} {zs:List V} {pw ph:Int} {ps:List Pt} {ss:List Seat} {d dx dr:DV} {n x r:V} {i:Nat} {ys:List V} (hl:H l = some (.lst zs)) (k:∀ b u,b≠l→H b = some u→H' b = some u) (f:F6 H0 l pw ph ps ss d dx dr n x r i ys H):F6 H0 l pw ph ps ss d dx dr n x r i ys H':=by
  obtain ⟨Tq,L,v,e,all,ne⟩:=f
  refine ⟨Tq,L,v,e,fun j hj=>?_,ne⟩
  obtain ⟨a1,a2,a3,a4,a5⟩:=all j hj
  refine ⟨k _ _ (xab a1 hl (fun z=>nomatch z)) a1,a2,a3,a4.off hl k a2 a3,fun z xs ez e'=>?_⟩
  obtain ⟨u,hu⟩:=a4.at ez
  have:=k _ _ (fun y=>a3 (by rw [ez,y])) hu
  rw [this] at e'
  cases e'
  exact a5 z xs ez hu
theorem F6.push {H0 H H':Hp} {l tq lt:Addr} {pw ph:Int} {ps:List Pt} {ss:List Seat} {d dx dr:DV} {n x r v:V} {i:Nat} {ys:List V} (s0:Same H0 H) (hl:H l = some (.lst ys)) (f:F6 H0 l pw ph ps ss d dx dr n x r i ys H) (s:Same H H') (flt:H lt = none) (fv:∀ z xs,v = .ref z→H' z = some (.lst xs)→H z = none) (htq:H' tq = some (.tup [v,.ref lt])) (av:AnsV H' (0 + (i:Int)) pw ph ps ss d dx dr n x r v lt):F6 H0 l pw ph ps ss d dx dr n x r (i + 1) (ys ++ [.ref tq]) H':=by
  obtain ⟨Tq,L,v',rfl,all,ne⟩:=f
  refine ⟨fun j=>if j = i then tq else Tq j,fun j=>if j = i then lt else L j,fun j=>if j = i then v else v' j,?_,fun j hj=>?_,fun j k hjk hk=>?_⟩
  · rw [List.range_succ,List.map_append]
    congr 1
    · refine List.map_congr_left fun j hj=>?_
      have:=List.mem_range.mp hj
      show V.ref (Tq j) = V.ref (if j = i then tq else Tq j)
      rw [if_neg (by omega)]
    · show [V.ref tq] = [V.ref (if i = i then tq else Tq i)]
      rw [if_pos rfl]
  · by_cases c:j = i
    · subst c
      simp only [if_true]
      refine ⟨htq,Ne.symm (xp hl flt),fun e=>?_,av,fun z xs ez e'=>s0.free (fv z xs ez e')⟩
      have:=fv l _ e (s _ _ hl)
      rw [hl] at this
      cases this
    · simp only [if_neg c]
      obtain ⟨a1,a2,a3,a4,a5⟩:=all j (by omega)
      refine ⟨s _ _ a1,a2,a3,a4.same s,fun z xs ez e'=>?_⟩
      obtain ⟨u,hu⟩:=a4.at ez
      rw [s _ _ hu] at e'
      cases e'
      exact a5 z xs ez hu
  · by_cases c:k = i
    · subst c
      simp only [if_true,if_neg (show ¬ j = k by omega)]
      intro e
      obtain ⟨a1,a2,a3,a4,a5⟩:=all j (by omega)
      obtain ⟨u,hu⟩:=a4.at e
      rw [hu] at flt
      cases flt
    · simp only [if_neg c,if_neg (show ¬ j = i by omega)]
      exact ne j k hjk (by omega)
def xjc (t:Adr):Sp:=fun vs H Q _=>∃ (a dp do_ l m:Addr) (pw ph:Int) (ps:List Pt) (ss:List Seat) (n x r:V) (d dx dr:DV),vs = [.ref a,.ref l,.ref m,n,x,r]∧PS t H a dp do_ pw ph ps ss l m∧Thg H n d∧Thg H x dx∧Thg H r dr∧∀ H',Same H H'→Q (.bl true) H'
theorem xjm {ph:Int} {ps:List Pt} {d dx dr:DV} {n x r:V}:out6 (0 + ((0:Nat):Int)) ph ps d dx dr n x r = xbr ph ps d dx dr n x r:=rfl
theorem xkf {ph:Int} {ps:List Pt} {d dx dr:DV} {n x r:V}:out6 (0 + ((1:Nat):Int)) ph ps d dx dr n x r = xbr ph ps d dx dr n x r:=rfl
theorem xkn {ph:Int} {ps:List Pt} {d dx dr:DV} {n x r:V}:out6 (0 + ((2:Nat):Int)) ph ps d dx dr n x r = xb3 ps d n:=rfl
theorem xjv {ph:Int} {ps:List Pt} {d dx dr:DV} {n x r:V}:out6 (0 + ((3:Nat):Int)) ph ps d dx dr n x r = xb3 ps d n:=rfl
theorem AnsV.er {H:Hp} {wy pw ph:Int} {ps:List Pt} {ss:List Seat} {d dx dr:DV} {n x r v:V} {lt:Addr} {er:Er} (h:AnsV H wy pw ph ps ss d dx dr n x r v lt) (e:out6 wy ph ps d dx dr n x r = some er):v = .non∧H lt = some (.lst er.told):=by
  rcases h with ⟨er',e1,e2,e3⟩ | ⟨e1,_⟩
  · rw [e] at e1
    cases e1
    exact ⟨e2,e3⟩
  · rw [e] at e1
    cases e1
theorem AnsV.ok {H:Hp} {wy pw ph w h:Int} {ps:List Pt} {ss:List Seat} {dx dr:DV} {n x r v:V} {lt:Addr} {p1:Pt} (o:xb8 w h ps) (m:p1 ∈ ps) (a:AnsV H wy pw ph ps ss (.str p1.nm) dx dr n x r v lt) (e:out6 wy ph ps (.str p1.nm) dx dr n x r = none):H lt = some (.lst [])∧Rep6 H wy pw ph ss dx dr p1 v:=by
  rcases a with ⟨er',e1,e2,e3⟩ | ⟨_,e2,pt,m2,e3,rp⟩
  · rw [e] at e1
    cases e1
  · have:pt = p1:=xkr o.nn m2 m (DV.str.inj e3).symm
    subst this
    exact ⟨e2,rp⟩
theorem Rep6.q0 {H:Hp} {pw ph:Int} {ss:List Seat} {dx dr:DV} {pt:Pt} {v:V} (h:Rep6 H (0 + ((0:Nat):Int)) pw ph ss dx dr pt v):∃ b i,dx = .str (xv b)∧dr = .int i∧1≤i∧i≤ph∧v = .bl (decide ((b,i) ∈ ss) && xbe pt (b,i)):=by
  rcases h with ⟨_,y⟩ | ⟨y,_⟩ | ⟨y,_⟩ | ⟨y,_⟩
  · exact y
  all_goals exact absurd y (by decide)
theorem Rep6.q1 {H:Hp} {pw ph:Int} {ss:List Seat} {b:Bool} {i:Int} {pt:Pt} {v:V} (h:Rep6 H (0 + ((1:Nat):Int)) pw ph ss (.str (xv b)) (.int i) pt v):v = .int (lenI pw pt.x pt.y b i):=by
  rcases h with ⟨y,_⟩ | ⟨_,b',i',e1,e2,_,_,e3⟩ | ⟨y,_⟩ | ⟨y,_⟩
  · exact absurd y (by decide)
  · rw [e3,xcu (DV.str.inj e1),DV.int.inj e2]
  all_goals exact absurd y (by decide)
theorem Rep6.q2 {H:Hp} {pw ph:Int} {ss:List Seat} {dx dr:DV} {pt:Pt} {v:V} (h:Rep6 H (0 + ((2:Nat):Int)) pw ph ss dx dr pt v):∃ (z:Addr) (srt:List Seat) (rs:List Addr),v = .ref z∧srt.Perm ss∧srt.Pairwise xcg∧H z = some (.lst (rs.map V.ref))∧xam H (srt.filter (xbe pt)) rs:=by
  rcases h with ⟨y,_⟩ | ⟨y,_⟩ | ⟨_,y⟩ | ⟨y,_⟩
  · exact absurd y (by decide)
  · exact absurd y (by decide)
  · exact y
  · exact absurd y (by decide)
theorem Rep6.q3 {H:Hp} {pw ph:Int} {ss:List Seat} {dx dr:DV} {pt:Pt} {v:V} (h:Rep6 H (0 + ((3:Nat):Int)) pw ph ss dx dr pt v):∃ (z:Addr),v = .ref z∧H z = some (.tup [.int pt.x,.int pt.y]):=by
  rcases h with ⟨y,_⟩ | ⟨y,_⟩ | ⟨y,_⟩ | ⟨_,y⟩
  · exact absurd y (by decide)
  · exact absurd y (by decide)
  · exact absurd y (by decide)
  · exact y
section
variable {P:Program} {w:World} {K:PySem.W.Frag} {mg:Str→Option Value} {base:Heap} {t:Adr}
theorem ok_v (T:Txt w K mg t):FnOk true P w K mg base (CXo P w) 8 t.f_v t.d_v ["_law_picture", "_law_rows", "_law_seats", "_law_name", "_law_side", "_law_row"] (xjc t):=by
  refine T.F_v.okn (k:=7) sc_v (fun vs H Q E h=>?_) (fun cdv A outer s H vs Q E hr h=>?_)
  · obtain ⟨a,dp,do_,l,m,pw,ph,ps,ss,n,x,r,d,dx,dr,rfl,_⟩:=h
    rfl
  · obtain ⟨a,dp,do_,l,m,pw,ph,ps,ss,n,x,r,d,dx,dr,rfl,h⟩:=h
    refine ⟨_,xj (xdl rfl (xby (zs:=["_law_point"]) (ys:=["_law_name"]) (fr:=[3]) (N0:=["_law_picture", "_law_rows", "_law_seats", "_law_name", "_law_side", "_law_row", "_law_old", "_law_due", "_law_answers", "_law_point", "_law_may", "_law_across", "_law_some"]) (sc0:=xk s_v) (by decide +kernel) rfl rfl rfl) (xbp (pv 1)) (fun _ _ _ _ _ ow nd=>xap (i:=0) nd rfl (Or.inl (ow _ (by simp))) (Or.inr (ow _ (by simp)))) (xbz (by decide)) (fun _ _ _ _ _=>xdy (xad (r:=rEqV K) (xb4 (xa4 hr)) (x5 (r:=rIxT K) xak (pv 0) (xi) (fun _ _=>rfl)) (pv 1) (xaj _))) (fun _ _ _ _ _=>pv 0) (j:=6) rfl (Or.inl rfl))
      (xj (xx (i:=7) sc_v.nd rfl (Or.inl rfl) (xac (xh)))
      (xj (xbf (xaa (xad (xb4 (xa4 hr)) (pv 6) (xac (xh)) (xaj _)) (xn (xx (i:=7) sc_v.nd rfl (Or.inl rfl) (xac (xf (x9) (xf (pv 3) (xh)))))) (xn (xbf (xaa (xad (xka (xa4 hr)) (pv 4) (xac (xf (x9) (xf (x9) (xh)))) (by rfl)) (xn (xx (i:=7) sc_v.nd rfl (Or.inl rfl) (xac (xf (x9) (xf (pv 4) (xh)))))) (xn (xbf (xaa (xbd (xan (xae (ok_y T) (hr.mono (by decide)) rfl T.g_y T.F_y.kp T.b_y .nil xu (xf (pv 5) (xf (xi) (xf (xao (pv 0) rfl) (xh))))))) (xn (xx (i:=7) sc_v.nd rfl (Or.inl rfl) (xac (xf (x9) (xf (pv 5) (xh)))))) (xw)))))))))
      (xj (xdl rfl (xby (zs:=["_law_way"]) (ys:=["_law_picture", "_law_name", "_law_side", "_law_row"]) (fr:=[0,3,4,5]) (N0:=["_law_picture", "_law_rows", "_law_seats", "_law_name", "_law_side", "_law_row", "_law_old", "_law_due", "_law_answers", "_law_point", "_law_may", "_law_across", "_law_some"]) (sc0:=xk s_v) (by decide +kernel) rfl rfl rfl) (xgs rfl T.n_range (xf (xi) (xh))) (fun _ _ _ _ _ ow nd=>xap (i:=0) nd rfl (Or.inl (ow _ (by simp))) (Or.inr (ow _ (by simp)))) (xbz (by decide)) (fun _ _ _ _ _=>xd6) (fun _ _ _ _ _=>xae (ok_an T) (hr.mono (by decide)) rfl T.g_an T.F_an.kp T.b_an .nil xu (xf (pv 1) (xf (pv 0) (xf (pv 2) (xf (pv 3) (xf (pv 4) (xh))))))) (j:=8) rfl (Or.inl rfl))
      (xj (xbf (xaa (xad (xc2 (xa4 hr)) (pv 7) (xac (xh)) (xaj _)) (xj (xbf (xaa (PW.pt (xcp (xad (xc2 (xa4 hr)) (x5 xas (pv 8) (xi) (fun _ _=>rfl)) (xa1 (xf (xck) (xf (pv 7) (xh)))) (xaj _)) (xb5 (xad (xc2 (xa4 hr)) (x5 xas (pv 8) (xi) (fun _ _=>rfl)) (xa1 (xf (xck) (xf (pv 7) (xh)))) (xaj _))))) (xn (xar (xeg))) (xw)))
      (xn (xbf (xaa (xad (xb4 (xa4 hr)) (pv 6) (xac (xh)) (xaj _)) (xn (xar (xbl (xbv (xb4 (xa4 hr)) (x5 xas (pv 8) (xi) (fun _ _=>rfl)) (xa1 (xf (xck) (xf (pv 7) (xh)))) (xaj _)) (xb0 (xbv (xb4 (xa4 hr)) (x5 xas (pv 8) (xi) (fun _ _=>rfl)) (xa1 (xf (xck) (xf (pv 7) (xh)))) (xaj _)))))) (xw))))) (xw)))
      (xj (xx (i:=9) sc_v.nd rfl (Or.inr rfl) (x5 xas (pv 6) (xi) (fun _ _=>rfl)))
      (xj (xbf (xaa (xad (xb4 (xa4 hr)) (pv 7) (xac (xh)) (xaj _)) (xj (xbf (xx (i:=10) sc_v.nd rfl (Or.inl rfl) (xbl (xbv (xkm (xa4 hr)) (xa1 (xf (pv 4) (xf (pv 5) (xh)))) (pv 2) (by rfl)) (xb0 (xae (ok_ap T) (hr.mono (by decide)) rfl T.g_ap T.F_ap.kp T.b_ap .nil xu (xf (pv 9) (xf (pv 4) (xf (pv 5) (xh)))))))))
      (xj (xx (i:=11) sc_v.nd rfl (Or.inl rfl) (x5 xas (xac (xf (x5 xak (pv 9) (xi) (fun _ _=>rfl)) (xf (xq xcv (xq xax (xao (pv 0) rfl) (xi)) (x5 xak (pv 9) (xi) (fun _ _=>rfl))) (xh)))) (xks xj5 rfl T.n_int boot_int (xf (xbv (xb4 (xa4 hr)) (pv 4) (x9) (xaj _)) (xh))) (fun _ _=>rfl)))
      (xj (xbf (xaa (PW.pt (xcp (xbd (xan (xz xaf rfl T.n_isinstance boot_isinstance (xf (x5 xak (x5 xas (pv 8) (xi) (fun _ _=>rfl)) (xi) (fun _ _=>rfl)) (xf (xbj (v:=.ty "bool") rfl T.n_bool boot_bool rfl) (xh)))))) (xb5 (xad (xc2 (xa4 hr)) (x5 xas (pv 8) (xi) (fun _ _=>rfl)) (xa1 (xf (pv 10) (xf (xac (xh)) (xh)))) (xaj _))))) (xn (xar (xeg))) (xw)))
      (xn (xbf (xaa (PW.pt (xcp (xbd (xan (xae (ok_y T) (hr.mono (by decide)) rfl T.g_y T.F_y.kp T.b_y .nil xu (xf (x5 xak (x5 xas (pv 8) (xi) (fun _ _=>rfl)) (xi) (fun _ _=>rfl)) (xf (xi) (xf (xi) (xh))))))) (xb5 (xad (xc2 (xa4 hr)) (x5 xas (pv 8) (xi) (fun _ _=>rfl)) (xa1 (xf (xq xax (xz xh2 rfl T.n_abs boot_abs (xf (xq xcv (x5 xak (pv 9) (xi) (fun _ _=>rfl)) (pv 5)) (xh))) (pv 11)) (xf (xac (xh)) (xh)))) (xaj _))))) (xn (xar (xeg))) (xw))))))) (xw)))
      (xj (xdl rfl (xby (zs:=["_law_seat"]) (ys:=["_law_point"]) (fr:=[9]) (N0:=["_law_picture", "_law_rows", "_law_seats", "_law_name", "_law_side", "_law_row", "_law_old", "_law_due", "_law_answers", "_law_point", "_law_may", "_law_across", "_law_some"]) (sc0:=xk s_v) (by decide +kernel) rfl rfl rfl) (xbp (xz (xek rfl) rfl T.n_sorted PyProof.Rows.Boot.«sorted» (xf (pv 2) (xh)))) (fun _ _ _ _ _ ow nd=>xap (i:=0) nd rfl (Or.inl (ow _ (by simp))) (Or.inr (ow _ (by simp)))) (xbz (by decide)) (fun _ _ _ _ _=>xdy (xan (xae (ok_ap T) (hr.mono (by decide)) rfl T.g_ap T.F_ap.kp T.b_ap .nil xu (xf (pv 1) (xf (x5 (r:=rIxT K) xak (pv 0) (xi) (fun _ _=>rfl)) (xf (x5 (r:=rIxT K) xak (pv 0) (xi) (fun _ _=>rfl)) (xh))))))) (fun _ _ _ _ _=>pv 0) (j:=12) rfl (Or.inl rfl))
      (xj (xbf (xaa (PW.pt (xcp (xbd (xan (xz xaf rfl T.n_isinstance boot_isinstance (xf (x5 xak (x5 xas (pv 8) (xi) (fun _ _=>rfl)) (xi) (fun _ _=>rfl)) (xf (xbj (v:=.ty "list") rfl T.n_list boot_list rfl) (xh)))))) (xb5 (xad (xc2 (xa4 hr)) (x5 xas (pv 8) (xi) (fun _ _=>rfl)) (xa1 (xf (pv 12) (xf (xac (xh)) (xh)))) (xaj _))))) (xn (xar (xeg))) (xw)))
      (xj (xav (xfm PySem.F.plainAttrs_list PySem.F.slot_list_append PySem.F.type_list_append xcw (x5 xak (x5 xas (pv 8) (xi) (fun _ _=>rfl)) (xi) (fun _ _=>rfl)) (xf (xi) (xh))))
      (xn (xar (xbl (xz xaf rfl T.n_isinstance boot_isinstance (xf (x5 xak (x5 xas (pv 8) (xi) (fun _ _=>rfl)) (xi) (fun _ _=>rfl)) (xf (xbj (v:=.ty "tuple") rfl T.n_tuple boot_tuple rfl) (xh)))) (xb0 (xbv (xb4 (xa4 hr)) (x5 xas (pv 8) (xi) (fun _ _=>rfl)) (xa1 (xf (xa1 (xf (x5 xak (pv 9) (xi) (fun _ _=>rfl)) (xf (x5 xak (pv 9) (xi) (fun _ _=>rfl)) (xh)))) (xf (xac (xh)) (xh)))) (xaj _))))))))))))))),?_⟩
    obtain ⟨p,tn,tx,tr,q⟩:=h
    have pic:=p.pic
    obtain ⟨⟨dx0,hp⟩,_,w1,w2,h1,h2,_⟩:=id pic
    obtain ⟨qs,hl,pts⟩:=p.rl
    obtain ⟨sq2,rs,pm2,hm,sts⟩:=p.sl
    have ql:=pts.len
    have ple:=p.pok.le
    have len2:sq2.length≤32:=by rw [pm2.length_eq]; exact p.sok.2.1
    have nd2:sq2.Nodup:=pm2.nodup_iff.mpr p.sok.1
    refine ⟨_,rfl,l,rfl,⟨_,SqL.of hl⟩,fun lo hlo=>?_⟩
    refine xci (SqL.of hl) (by rw [List.length_map]; exact Nat.lt_trans (by omega:qs.length < 13) (by decide)) hlo (xfn ps d) (fun i y H=>∃ p q,ps[i]? = some p∧y = .ref q∧H q = some (.tup (.str p.nm :: ptV p))) (fun i y H H' tp ⟨p,q,e1,e2,e3⟩=>⟨p,q,e1,e2,tp _ _ e3⟩) (fun i y H1 hy s1 N M hN hM=>?_) (fun ys H1 s1 el1 ly f1=>?_)
    · rw [List.getElem?_map] at hy
      obtain ⟨o,ho,rfl⟩:=Option.map_eq_some_iff.mp hy
      obtain ⟨p0,hp0,ep⟩:=(pts.keep (Same.tups s1)).get ho
      refine ⟨_,rfl,o,_,0,_,rfl,rfl,SqT.of ep,rfl,_,rfl,0,1,.str p0.nm,d,.str,(tn.same s1).dv,by decide,by decide,_,rfl,ite2 (fun c=>?_) (fun c=>?_)⟩
      · exact ⟨_,rfl,hN _ _ (Same.refl _) (by rw [xff hp0]; exact c) ⟨p0,o,hp0,rfl,ep⟩⟩
      · exact hM _ (Same.refl _) (by rw [xff hp0]; exact Bool.eq_false_iff.mpr c)
    have fi:=xeu (fun p:Pt=>dEq (.str p.nm) d) (as:=ps) (p:=xfn ps d) (fun i s hs=>xff hs)
    rw [List.length_map,ql] at ly f1
    obtain ⟨ors,e1,pto⟩:=PtsL.pick (H:=H1) (ps:=ps.filter fun p:Pt=>dEq (.str p.nm) d) (ys:=ys) (by rw [ly,fi.1]) (fun j y s hy hs=>by
      have hj:j < ((List.range ps.length).filter (xfn ps d)).length:=by
        rw [← ly]
        exact (List.getElem?_eq_some_iff.mp hy).1
      obtain ⟨s',q',h1,h2,h3⟩:=f1 j y _ hy (List.getElem?_eq_getElem hj)
      rw [fi.2 j _ (List.getElem?_eq_getElem hj),hs] at h1
      cases h1
      exact ⟨q',h2,h3⟩)
    subst e1
    have hasE:=xll (d:=d) p.pok
    have oldM:∀ p1 ∈ ps.filter fun p:Pt=>dEq (.str p.nm) d,p1 ∈ ps∧d = .str p1.nm:=fun p1 h=>⟨(List.mem_filter.mp h).1,xid (List.mem_filter.mp h).2⟩
    generalize ps.filter (fun p:Pt=>dEq (.str p.nm) d) = old at pto hasE oldM
    clear f1 fi ly
    refine ⟨(by show 0≤sizeLine; exact Nat.zero_le _),fun d0 hd0=>?_⟩
    have s2:Same H1 (upd H1 d0 (.lst [])):=xo (Same.refl _) hd0
    have g2:upd H1 d0 (.lst []) d0 = some (.lst []):=xg
    revert s2 g2
    generalize upd H1 d0 (.lst []) = H2
    intro s2 g2
    have s02:=s1.trans s2
    refine ⟨Due6 H1 a l m lo n x r old ors (xbr ph ps d dx dr n x r),?_,?_⟩
    · refine ⟨_,rfl,(by show 0≤sizeLine; exact Nat.zero_le _),fun e0 he0=>?_⟩
      have s3:Same H2 (upd H2 e0 (.lst [])):=xo (Same.refl _) he0
      have g3:upd H2 e0 (.lst []) e0 = some (.lst []):=xg
      revert s3 g3
      generalize upd H2 e0 (.lst []) = H3
      intro s3 g3
      have s13:=s2.trans s3
      refine ⟨2,1,.lst (old.map ptD),.lst [],(pto.keep (Same.tups s13)).dv (s13 _ _ el1),xbb g3,by decide,by decide,_,rfl,?_⟩
      cases ho:old with
      | nil =>
        rw [ho] at hasE
        refine ifP (by rfl) ⟨_,rfl,(by show 2≤sizeLine; decide),fun du hdu=>⟨du,rfl,s13.trans (xo (Same.refl _) hdu),?_⟩⟩
        rw [xcc hasE]
        exact xg
      | cons p1 pr =>
        rw [ho] at hasE
        refine ifN (by rfl) ⟨Due6 H1 a l m lo n x r old ors (xbr ph ps d dx dr n x r),?_,fun σ H' z=>by rw [ho] at z; exact z⟩
        rw [xbx hasE]
        refine ⟨_,rfl,(by show 2≤sizeLine; decide),fun q4 hq4=>?_⟩
        have s4:Same H3 (upd H3 q4 (.lst [.str "left",.str "right"])):=xo (Same.refl _) hq4
        have g4:upd H3 q4 (.lst [.str "left",.str "right"]) q4 = some (.lst [.str "left",.str "right"]):=xg
        revert s4 g4
        generalize upd H3 q4 (.lst [.str "left",.str "right"]) = H4
        intro s4 g4
        have s14:=s13.trans s4
        have s04:=s1.trans s14
        refine ⟨1,1,dx,[.str "left",.str "right"],(tx.same s04).dv,xhb (n:=0) g4 .str .str,by decide,by decide,_,rfl,?_⟩
        cases sd:xbq dx with
        | none =>
          refine ifP (by rw [if_pos rfl,xjt,sd]; rfl) ⟨_,rfl,(by show 2≤sizeLine; decide),fun du hdu=>⟨du,rfl,s14.trans (xo (Same.refl _) hdu),?_⟩⟩
          rw [xgc sd]
          exact xg
        | some b =>
          refine ifN (by rw [if_pos rfl,xjt,sd]; rfl) ⟨Due6 H1 a l m lo n x r old ors (xcq ph dx dr x r),?_,fun σ H' z=>z⟩
          refine ⟨_,rfl,_,rfl,a,_,_,_,_,rfl,(s04 _ _ hp),T.c_j,T.n_bc,lkH,r,dr,1,ph,rfl,tr.same s04,_,rfl,?_⟩
          cases wr:xa7 dr 1 ph with
          | true =>
            refine iteF ⟨d0,rfl,s14,?_⟩
            rw [xey sd wr]
            exact s4 _ _ (s3 _ _ g2)
          | false =>
            refine iteT ⟨_,rfl,(by show 2≤sizeLine; decide),fun du hdu=>⟨du,rfl,s14.trans (xo (Same.refl _) hdu),?_⟩⟩
            rw [xf3 sd wr]
            exact xg
    rintro σ H5 ⟨du,rfl,s15,hdu⟩
    clear s2 g2 s02
    have s05:=s1.trans s15
    have p5:=p.same s05
    refine ⟨4,rfl,by decide,by decide,fun an han=>?_⟩
    refine xib (m:=4) (by decide) han (F6 H5 an pw ph ps ss d dx dr n x r) (fun H _=>⟨fun _=>an,fun _=>an,fun _=>.non,rfl,(fun j hj=>absurd hj (by omega)),fun j k _ hk=>absurd hk (by omega)⟩) (fun i ys zs H H' hl k f=>f.off hl k) (fun i ys H6 hi s6 el6 f6 N hN=>?_) (fun ys H6 s6 el6 ly6 f6=>?_)
    · have s06:=s05.trans s6
      refine ⟨_,rfl,_,rfl,_,rfl,_,rfl,_,rfl,a,dp,do_,pw,ph,0 + (i:Int),ps,ss,n,x,r,d,dx,dr,rfl,(p5.same s6).pic,(p5.same s6).st,p.sok,tn.same s06,tx.same s06,tr.same s06,by omega,by omega,fun H7 tq lt v s7 flt fv htq av=>?_⟩
      exact hN _ H7 s7 (f6.push s6 el6 s7 flt fv htq av)
    obtain ⟨Tq,L,v,rfl,all,ne⟩:=f6
    obtain ⟨a00,a01,a02,a03,a04⟩:=all 0 (by decide)
    obtain ⟨a10,a11,a12,a13,a14⟩:=all 1 (by decide)
    obtain ⟨a20,a21,a22,a23,a24⟩:=all 2 (by decide)
    obtain ⟨a30,a31,a32,a33,a34⟩:=all 3 (by decide)
    have ne23:=ne 2 3 (by decide) (by decide)
    clear all ne ly6
    have el6:H6 an = some (.lst [.ref (Tq 0),.ref (Tq 1),.ref (Tq 2),.ref (Tq 3)]):=el6
    have s06:=s05.trans s6
    have du6:=s6 _ _ hdu
    have lo6:=s6 _ _ (s15 _ _ el1)
    have pto6:=(pto.keep (Same.tups s15)).keep (Same.tups s6)
    refine ⟨fun σ H'=>σ = [some (.ref a),some (.ref l),some (.ref m),some n,some x,some r,some (.ref lo),some (.ref du),some (.ref an),none,none,none,none]∧Same H6 H'∧hasN ps d = true,?_,?_⟩
    · refine ⟨_,rfl,(by show 0≤sizeLine; exact Nat.zero_le _),fun e0 he0=>?_⟩
      have s7:Same H6 (upd H6 e0 (.lst [])):=xo (Same.refl _) he0
      have g7:upd H6 e0 (.lst []) e0 = some (.lst []):=xg
      revert s7 g7
      generalize upd H6 e0 (.lst []) = H7
      intro s7 g7
      cases ho:xbr ph ps d dx dr n x r with
      | none =>
        rw [ho] at du6
        refine ⟨1,1,.lst [],.lst [],xbb (s7 _ _ du6),xbb g7,by decide,by decide,_,rfl,ifN (by rfl) ⟨rfl,s7,?_⟩⟩
        cases y:hasN ps d with
        | true=>rfl
        | false=>rw [xcc y] at ho; cases ho
      | some er =>
        obtain ⟨wd,tv,dtv,etold,ttv⟩:=xme (tn.same s06) (tx.same s06) (tr.same s06) ho
        rw [ho] at du6
        have du6':H6 du = some (.lst [.str wd,tv]):=by rw [← etold]; exact du6
        have dvT:∀ (H':Hp) (u:Addr),Same H6 H'→H' u = some (.lst [.str wd,tv])→Dv K H' 2 (.ref u) (.lst [.str wd,dtv]):=fun H' u s hu=>xhb (n:=1) hu .str (ttv.same s).dv
        obtain ⟨v0,l0⟩:=a03.er (xjm.trans ho)
        obtain ⟨v1,l1⟩:=a13.er (xkf.trans ho)
        rw [etold] at l0 l1
        rw [v0] at a00
        rw [v1] at a10
        refine ⟨2,1,.lst [.str wd,dtv],.lst [],dvT _ _ s7 (s7 _ _ du6'),xbb g7,by decide,by decide,_,rfl,ifP (by rfl) ?_⟩
        refine ⟨fun σ H'=>σ = [some (.ref a),some (.ref l),some (.ref m),some n,some x,some r,some (.ref lo),some (.ref du),some (.ref an),none,none,none,none]∧Same H6 H',?_,?_⟩
        · refine ⟨_,rfl,an,_,0,_,rfl,rfl,SqL.of (s7 _ _ el6),rfl,_,rfl,(by show 2≤sizeLine; decide),fun q8 hq8=>?_⟩
          have s8:Same H7 (upd H7 q8 (.tup [.non,.ref du])):=xo (Same.refl _) hq8
          have g8:upd H7 q8 (.tup [.non,.ref du]) q8 = some (.tup [.non,.ref du]):=xg
          revert s8 g8
          generalize upd H7 q8 (.tup [.non,.ref du]) = H8
          intro s8 g8
          have s68:=s7.trans s8
          refine ⟨3,3,.tup [.non,.lst [.str wd,dtv]],.tup [.non,.lst [.str wd,dtv]],xbg (s68 _ _ a00) .non (dvT _ _ s68 (s68 _ _ l0)),xbg g8 .non (dvT _ _ s68 (s68 _ _ du6')),by decide,by decide,_,rfl,ifN (by rw [xba]; rfl) ?_⟩
          refine ⟨_,rfl,an,_,1,_,rfl,rfl,SqL.of (s68 _ _ el6),rfl,_,rfl,(by show 2≤sizeLine; decide),fun q9 hq9=>?_⟩
          have s9:Same H8 (upd H8 q9 (.tup [.non,.ref du])):=xo (Same.refl _) hq9
          have g9:upd H8 q9 (.tup [.non,.ref du]) q9 = some (.tup [.non,.ref du]):=xg
          revert s9 g9
          generalize upd H8 q9 (.tup [.non,.ref du]) = H9
          intro s9 g9
          have s69:=s68.trans s9
          exact ⟨3,3,.tup [.non,.lst [.str wd,dtv]],.tup [.non,.lst [.str wd,dtv]],xbg (s69 _ _ a10) .non (dvT _ _ s69 (s69 _ _ l1)),xbg g9 .non (dvT _ _ s69 (s69 _ _ du6')),by decide,by decide,_,rfl,ifN (by rw [xba]; rfl) ⟨rfl,s69⟩⟩
        rintro σ H8 ⟨rfl,s68⟩
        refine ⟨fun σ H'=>σ = [some (.ref a),some (.ref l),some (.ref m),some n,some x,some r,some (.ref lo),some (.ref du),some (.ref an),none,none,none,none]∧Same H6 H'∧hasN ps d = true,?_,fun σ H' z=>z⟩
        refine ⟨_,rfl,(by show 0≤sizeLine; exact Nat.zero_le _),fun e1 he1=>?_⟩
        have s9:Same H8 (upd H8 e1 (.lst [])):=xo (Same.refl _) he1
        have g9:upd H8 e1 (.lst []) e1 = some (.lst []):=xg
        revert s9 g9
        generalize upd H8 e1 (.lst []) = H9
        intro s9 g9
        have s69:=s68.trans s9
        refine ⟨2,1,.lst (old.map ptD),.lst [],(pto6.keep (Same.tups s69)).dv (s69 _ _ lo6),xbb g9,by decide,by decide,_,rfl,?_⟩
        cases hO:old with
        | cons p1 pr =>
          rw [hO] at hasE
          exact ifN (by rfl) ⟨rfl,s69,hasE⟩
        | nil =>
          rw [hO] at hasE
          have hn:hasN ps d = false:=hasE
          rw [xcc hn] at ho
          cases ho
          obtain ⟨v2,l2⟩:=a23.er (xkn.trans (xb1 hn))
          obtain ⟨v3,l3⟩:=a33.er (xjv.trans (xb1 hn))
          rw [etold] at l2 l3
          rw [v2] at a20
          rw [v3] at a30
          refine ifP (by rfl) ⟨_,rfl,an,_,2,_,rfl,rfl,SqL.of (s69 _ _ el6),rfl,_,rfl,(by show 2≤sizeLine; decide),fun qA hqA=>?_⟩
          have sA:Same H9 (upd H9 qA (.tup [.non,.ref du])):=xo (Same.refl _) hqA
          have gA:upd H9 qA (.tup [.non,.ref du]) qA = some (.tup [.non,.ref du]):=xg
          revert sA gA
          generalize upd H9 qA (.tup [.non,.ref du]) = HA
          intro sA gA
          have s6A:=s69.trans sA
          refine ⟨3,3,.tup [.non,.lst [.str wd,dtv]],.tup [.non,.lst [.str wd,dtv]],xbg (s6A _ _ a20) .non (dvT _ _ s6A (s6A _ _ l2)),xbg gA .non (dvT _ _ s6A (s6A _ _ du6')),by decide,by decide,_,rfl,ifP (by rw [xba]) ?_⟩
          refine ⟨_,rfl,an,_,3,_,rfl,rfl,SqL.of (s6A _ _ el6),rfl,_,rfl,(by show 2≤sizeLine; decide),fun qB hqB=>?_⟩
          have sB:Same HA (upd HA qB (.tup [.non,.ref du])):=xo (Same.refl _) hqB
          have gB:upd HA qB (.tup [.non,.ref du]) qB = some (.tup [.non,.ref du]):=xg
          revert sB gB
          generalize upd HA qB (.tup [.non,.ref du]) = HB
          intro sB gB
          have s6B:=s6A.trans sB
          refine ⟨3,3,.tup [.non,.lst [.str wd,dtv]],.tup [.non,.lst [.str wd,dtv]],xbg (s6B _ _ a30) .non (dvT _ _ s6B (s6B _ _ l3)),xbg gB .non (dvT _ _ s6B (s6B _ _ du6')),by decide,by decide,?_⟩
          rw [xba]
          exact q _ (s06.trans s6B)
    rintro σ H7 ⟨rfl,s7,yes⟩
    obtain ⟨p1,pr,ho⟩:∃ p1 pr,old = p1 :: pr:=by
      cases hO:old with
      | nil=>rw [hO,yes] at hasE; cases hasE
      | cons p1 pr=>exact ⟨p1,pr,rfl⟩
    obtain ⟨pm,rfl⟩:=oldM p1 (by rw [ho]; exact List.mem_cons_self)
    obtain rfl:=tn.str_of
    subst ho
    have pto7:=pto6.keep (Same.tups s7)
    obtain ⟨q1,qr,rfl,hq1⟩:∃ q1 qr,ors = q1 :: qr∧H7 q1 = some (.tup (.str p1.nm :: ptV p1)):=by
      cases pto7 with
      | @cons _ q _ qs h r=>exact ⟨q,qs,rfl,h⟩
    have po:=p.pok.ok p1 pm
    have s07:=s06.trans s7
    have p7:=p.same s07
    have an7:=s7 _ _ el6
    have du7:=s7 _ _ du6
    refine ⟨_,rfl,lo,_,0,.ref q1,rfl,rfl,SqL.of (s7 _ _ lo6),xda (j:=0) rfl,?_⟩
    refine ⟨fun σ H'=>∃ v10 v11:Option V,σ = [some (.ref a),some (.ref l),some (.ref m),some (.str p1.nm),some x,some r,some (.ref lo),some (.ref du),some (.ref an),some (.ref q1),v10,v11,none]∧Same H7 H',?_,?_⟩
    · refine ⟨_,rfl,(by show 0≤sizeLine; exact Nat.zero_le _),fun e0 he0=>?_⟩
      have s8:Same H7 (upd H7 e0 (.lst [])):=xo (Same.refl _) he0
      have g8:upd H7 e0 (.lst []) e0 = some (.lst []):=xg
      revert s8 g8
      generalize upd H7 e0 (.lst []) = H8
      intro s8 g8
      cases hO:xbr ph ps (.str p1.nm) dx dr (.str p1.nm) x r with
      | some er =>
        obtain ⟨wd,tv,dtv,etold,ttv⟩:=xme (tn.same s07) (tx.same s07) (tr.same s07) hO
        rw [hO] at du7
        have du7':H7 du = some (.lst [.str wd,tv]):=by rw [← etold]; exact du7
        exact ⟨2,1,.lst [.str wd,dtv],.lst [],xhb (n:=1) (s8 _ _ du7') .str (ttv.same s8).dv,xbb g8,by decide,by decide,_,rfl,ifN (by rfl) ⟨_,_,rfl,s8⟩⟩
      | none =>
        rw [hO] at du7
        refine ⟨1,1,.lst [],.lst [],xbb (s8 _ _ du7),xbb g8,by decide,by decide,_,rfl,ifP (by rfl) ?_⟩
        obtain ⟨hl0,rp0⟩:=a03.ok p.pok pm (xjm.trans hO)
        obtain ⟨hl1,rp1⟩:=a13.ok p.pok pm (xkf.trans hO)
        obtain ⟨b,i,rfl,rfl,i1,i2,ev0⟩:=rp0.q0
        have ev1:=rp1.q1
        obtain rfl:=tx.str_of
        obtain rfl:=tr.int_of
        rw [ev0] at a00
        rw [ev1] at a10
        refine ⟨fun σ H'=>σ = [some (.ref a),some (.ref l),some (.ref m),some (.str p1.nm),some (.str (xv b)),some (.int i),some (.ref lo),some (.ref du),some (.ref an),some (.ref q1),some (.bl (decide ((b,i) ∈ ss) && xbe p1 (b,i))),none,none]∧Same H7 H',?_,?_⟩
        · refine ⟨_,rfl,_,rfl,(by show 2≤sizeLine; decide),fun q9 hq9=>?_⟩
          have s9:Same H8 (upd H8 q9 (.tup [.str (xv b),.int i])):=xo (Same.refl _) hq9
          have g9:upd H8 q9 (.tup [.str (xv b),.int i]) q9 = some (.tup [.str (xv b),.int i]):=xg
          revert s9 g9
          generalize upd H8 q9 (.tup [.str (xv b),.int i]) = H9
          intro s9 g9
          have s79:=s8.trans s9
          have s09:=s07.trans s79
          refine ⟨_,rfl,1,2,xbo (b,i),sq2.map xbo,xez g9,(sts.keep (Same.tups s09)).dv (s09 _ _ hm),by decide,by decide,_,rfl,ite2 (fun c=>?_) (fun c=>?_)⟩
          · rw [if_neg (by decide),xef,decide_eq_true_iff] at c
            rw [decide_eq_true (pm2.mem_iff.mp c),Bool.true_and]
            exact ⟨_,rfl,_,rfl,_,rfl,q1,p1,b,i,rfl,s79 _ _ hq1,fun HA sA=>⟨rfl,s79.trans sA⟩⟩
          · rw [if_neg (by decide),xef,decide_eq_true_iff] at c
            rw [decide_eq_false (fun z=>c (pm2.mem_iff.mpr z)),Bool.false_and]
            exact ⟨rfl,s79⟩
        rintro σ H9 ⟨rfl,s79⟩
        have s09:=s07.trans s79
        have hp9:=s09 _ _ hp
        have hq19:=s79 _ _ hq1
        obtain ⟨ac,eac,hac⟩:∃ ac,atI [V.int p1.x,.int (pw + 1 - p1.x)] (if dEq (.str (xv b)) (.str "right") then 1 else 0) = some (.int ac)∧ac = if b then p1.x else pw + 1 - p1.x:=by
          cases b with
          | true=>exact ⟨p1.x,by rw [show dEq (.str (xv true)) (.str "right") = false by decide +kernel]; rfl,rfl⟩
          | false=>exact ⟨pw + 1 - p1.x,by rw [show dEq (.str (xv false)) (.str "right") = true by decide +kernel]; rfl,rfl⟩
        refine ⟨_,rfl,q1,_,1,_,rfl,rfl,SqT.of hq19,rfl,_,rfl,a,_,_,_,_,rfl,hp9,T.c_j,T.n_bg,lkW,_,_,rfl,rfl,_,rfl,q1,_,1,_,rfl,rfl,SqT.of hq19,rfl,_,_,rfl,rfl,(by show 2≤sizeLine; decide),fun qa hqa=>?_⟩
        dsimp only
        have sA:Same H9 (upd H9 qa (.lst [.int p1.x,.int (pw + 1 - p1.x)])):=xo (Same.refl _) hqa
        have gA:upd H9 qa (.lst [.int p1.x,.int (pw + 1 - p1.x)]) qa = some (.lst [.int p1.x,.int (pw + 1 - p1.x)]):=xg
        revert sA gA
        generalize upd H9 qa (.lst [.int p1.x,.int (pw + 1 - p1.x)]) = HA
        intro sA gA
        refine ⟨_,rfl,0,0,.str (xv b),.str "right",.str,.str,by decide,by decide,.inr ⟨_,rfl,qa,_,_,.int ac,rfl,rfl,SqL.of gA,eac,?_⟩⟩
        have s7A:=s79.trans sA
        have fA:∀ (H':Hp),Same H7 H'→H' (Tq 0) = some (.tup [.bl (decide ((b,i) ∈ ss) && xbe p1 (b,i)),.ref (L 0)])∧H' (Tq 1) = some (.tup [.int (lenI pw p1.x p1.y b i),.ref (L 1)])∧H' (L 0) = some (.lst [])∧H' (L 1) = some (.lst [])∧H' an = some (.lst [.ref (Tq 0),.ref (Tq 1),.ref (Tq 2),.ref (Tq 3)]):=fun H' s=>⟨s _ _ (s7 _ _ a00),s _ _ (s7 _ _ a10),s _ _ (s7 _ _ hl0),s _ _ (s7 _ _ hl1),s _ _ an7⟩
        refine ⟨fun σ H'=>σ = [some (.ref a),some (.ref l),some (.ref m),some (.str p1.nm),some (.str (xv b)),some (.int i),some (.ref lo),some (.ref du),some (.ref an),some (.ref q1),some (.bl (decide ((b,i) ∈ ss) && xbe p1 (b,i))),some (.int ac),none]∧Same H7 H',?_,?_⟩
        · obtain ⟨f0,f1,f2,f3,f4⟩:=fA _ s7A
          refine ⟨_,rfl,an,_,0,_,rfl,rfl,SqL.of f4,rfl,Tq 0,_,0,_,rfl,rfl,SqT.of f0,rfl,_,_,rfl,.inl ⟨_,_,true,.bl _,rfl,xa8,true,rfl,iteF ?_⟩⟩
          refine ⟨_,rfl,an,_,0,_,rfl,rfl,SqL.of f4,rfl,_,rfl,(by show 0≤sizeLine; exact Nat.zero_le _),fun eb heb=>?_⟩
          have sB:Same HA (upd HA eb (.lst [])):=xo (Same.refl _) heb
          have gB:upd HA eb (.lst []) eb = some (.lst []):=xg
          revert sB gB
          generalize upd HA eb (.lst []) = HB
          intro sB gB
          refine ⟨(by show 2≤sizeLine; decide),fun qc hqc=>?_⟩
          have sC:Same HB (upd HB qc (.tup [.bl (decide ((b,i) ∈ ss) && xbe p1 (b,i)),.ref eb])):=xo (Same.refl _) hqc
          have gC:upd HB qc (.tup [.bl (decide ((b,i) ∈ ss) && xbe p1 (b,i)),.ref eb]) qc = some (.tup [.bl (decide ((b,i) ∈ ss) && xbe p1 (b,i)),.ref eb]):=xg
          revert sC gC
          generalize upd HB qc (.tup [.bl (decide ((b,i) ∈ ss) && xbe p1 (b,i)),.ref eb]) = HC
          intro sC gC
          have sAC:=sB.trans sC
          exact ⟨2,2,_,_,xbg (n:=1) (sAC _ _ f0) .bl (xbb (sAC _ _ f2)),xbg (n:=1) gC .bl (xbb (sC _ _ gB)),by decide,by decide,_,rfl,ifN (by rw [xba]; rfl) ⟨rfl,s7A.trans sAC⟩⟩
        rintro σ HB ⟨rfl,s7B⟩
        obtain ⟨f0,f1,f2,f3,f4⟩:=fA _ s7B
        refine ⟨fun σ H'=>∃ v10 v11:Option V,σ = [some (.ref a),some (.ref l),some (.ref m),some (.str p1.nm),some (.str (xv b)),some (.int i),some (.ref lo),some (.ref du),some (.ref an),some (.ref q1),v10,v11,none]∧Same H7 H',?_,fun σ H' z=>z⟩
        refine ⟨_,rfl,an,_,1,_,rfl,rfl,SqL.of f4,rfl,Tq 1,_,0,_,rfl,rfl,SqT.of f1,rfl,.int (lenI pw p1.x p1.y b i),.int (lenI pw p1.x p1.y b i),0,100,rfl,.int _,_,rfl,?_⟩
        have x1:=po.x1
        have x2:=po.x2
        have y1:=po.y1
        have y2:=po.y2
        have lb:0≤lenI pw p1.x p1.y b i∧lenI pw p1.x p1.y b i≤100:=by
          unfold lenI
          cases b <;> simp only [if_true,Bool.false_eq_true,if_false] <;> (repeat' split) <;> omega
        rw [xc8 lb.1 lb.2]
        refine iteF ?_
        refine ⟨_,rfl,an,_,1,_,rfl,rfl,SqL.of f4,rfl,_,rfl,q1,_,2,_,rfl,rfl,SqT.of (s7B _ _ hq1),rfl,_,rfl,_,_,rfl,rfl,_,rfl,_,rfl,_,_,rfl,rfl,(by show 0≤sizeLine; exact Nat.zero_le _),fun eb heb=>?_⟩
        have sC:Same HB (upd HB eb (.lst [])):=xo (Same.refl _) heb
        have gC:upd HB eb (.lst []) eb = some (.lst []):=xg
        revert sC gC
        generalize upd HB eb (.lst []) = HC
        intro sC gC
        refine ⟨(by show 2≤sizeLine; decide),fun qc hqc=>?_⟩
        dsimp only
        have el:(if p1.y - i < 0 then -(p1.y - i) else p1.y - i) + ac = lenI pw p1.x p1.y b i:=by
          rw [hac,Int.add_comm]
          rfl
        rw [el]
        have sD:Same HC (upd HC qc (.tup [.int (lenI pw p1.x p1.y b i),.ref eb])):=xo (Same.refl _) hqc
        have gD:upd HC qc (.tup [.int (lenI pw p1.x p1.y b i),.ref eb]) qc = some (.tup [.int (lenI pw p1.x p1.y b i),.ref eb]):=xg
        revert sD gD
        generalize upd HC qc (.tup [.int (lenI pw p1.x p1.y b i),.ref eb]) = HD
        intro sD gD
        have sBD:=sC.trans sD
        exact ⟨2,2,_,_,xbg (n:=1) (sBD _ _ f1) .int (xbb (sBD _ _ f3)),xbg (n:=1) gD .int (xbb (sD _ _ gC)),by decide,by decide,_,rfl,ifN (by rw [xba]; rfl) ⟨_,_,rfl,s7B.trans sBD⟩⟩
    rintro σ H8 ⟨v10,v11,rfl,s78⟩
    have s08:=s07.trans s78
    obtain ⟨hl2,rp2⟩:=a23.ok p.pok pm (xkn.trans (xdr yes))
    obtain ⟨hl3,rp3⟩:=a33.ok p.pok pm (xjv.trans (xdr yes))
    obtain ⟨z,srt,rz,ev2,pmz,pwz,hz,slz⟩:=rp2.q2
    obtain ⟨z3,ev3,hz3⟩:=rp3.q3
    rw [ev2] at a20 ne23 a22
    rw [ev3] at a30
    have fz:H z = none:=s05.free (a24 z _ ev2 hz)
    have s68:=s7.trans s78
    refine ⟨_,rfl,?_⟩
    dsimp only [tNil]
    refine xe5 (s08 _ _ hm) (sts.keep (Same.tups s08)) nd2 len2 fun ls srt2 qs2 fls sl2 pms pws=>?_
    obtain rfl:srt2 = srt:=xdv xgq (pms.trans (pm2.trans pmz.symm)) pws pwz
    have s9:Same H8 (upd H8 ls (.lst (qs2.map V.ref))):=xo (Same.refl _) fls
    have g9:upd H8 ls (.lst (qs2.map V.ref)) ls = some (.lst (qs2.map V.ref)):=xg
    revert s9 g9
    generalize upd H8 ls (.lst (qs2.map V.ref)) = H9
    intro s9 g9
    have ql2:=sl2.len
    have sl32:srt2.length≤32:=by rw [pms.length_eq]; exact len2
    have sl9:=sl2.keep (Same.tups s9)
    have s89:=s78.trans s9
    refine ⟨ls,rfl,⟨_,SqL.of g9⟩,fun lz hlz=>?_⟩
    refine xci (SqL.of g9) (by rw [List.length_map]; exact Nat.lt_trans (by omega:qs2.length < 33) (by decide)) hlz (xc1 srt2 p1) (fun i y H=>∃ s q,srt2[i]? = some s∧y = .ref q∧H q = some (.tup (xc5 s))) (fun i y H H' tp ⟨s,q,e1,e2,e3⟩=>⟨s,q,e1,e2,tp _ _ e3⟩) (fun i y HA hy sA N M hN hM=>?_) (fun ys HA sA elA ly fA=>?_)
    · rw [List.getElem?_map] at hy
      obtain ⟨o,ho,rfl⟩:=Option.map_eq_some_iff.mp hy
      obtain ⟨s0,hs0,ep⟩:=(sl9.keep (Same.tups sA)).get ho
      refine ⟨_,rfl,_,rfl,o,_,0,_,rfl,rfl,SqT.of ep,rfl,_,rfl,o,_,1,_,rfl,rfl,SqT.of ep,rfl,q1,p1,s0.1,s0.2,rfl,sA _ _ (s89 _ _ hq1),fun HB sB=>⟨_,rfl,ite2 (fun c=>?_) (fun c=>?_)⟩⟩
      · exact ⟨_,rfl,hN _ _ sB (by rw [xcd hs0]; exact c) ⟨s0,o,hs0,rfl,sB _ _ ep⟩⟩
      · exact hM _ sB (by rw [xcd hs0]; exact Bool.eq_false_iff.mpr c)
    have fi:=xeu (xbe p1) (as:=srt2) (p:=xc1 srt2 p1) (fun i s hs=>xcd hs)
    rw [List.length_map,ql2] at ly fA
    obtain ⟨rsA,eA,stsA⟩:=xam.pick (H:=HA) (ss:=srt2.filter (xbe p1)) (ys:=ys) (by rw [ly,fi.1]) (fun j y s hy hs=>by
      have hj:j < ((List.range srt2.length).filter (xc1 srt2 p1)).length:=by
        rw [← ly]
        exact (List.getElem?_eq_some_iff.mp hy).1
      obtain ⟨s',q',h1,h2,h3⟩:=fA j y _ hy (List.getElem?_eq_getElem hj)
      rw [fi.2 j _ (List.getElem?_eq_getElem hj),hs] at h1
      cases h1
      exact ⟨q',h2,h3⟩)
    subst eA
    have s6A:=s68.trans (s9.trans sA)
    have s0A:=s06.trans s6A
    have anA:=s6A _ _ el6
    have hzA:=s6A _ _ hz
    have slzA:=slz.keep (Same.tups s6A)
    refine ⟨fun σ H'=>∃ v12:Option V,σ = [some (.ref a),some (.ref l),some (.ref m),some (.str p1.nm),some x,some r,some (.ref lo),some (.ref du),some (.ref an),some (.ref q1),v10,v11,v12]∧Same HA H',?_,?_⟩
    · refine ⟨_,rfl,an,_,2,_,rfl,rfl,SqL.of anA,rfl,Tq 2,_,0,_,rfl,rfl,SqT.of (s6A _ _ a20),rfl,_,_,rfl,.inl ⟨_,_,true,.lst hzA,rfl,xa8,true,rfl,iteF ?_⟩⟩
      refine ⟨_,rfl,an,_,2,_,rfl,rfl,SqL.of anA,rfl,_,rfl,(by show 0≤sizeLine; exact Nat.zero_le _),fun eb heb=>?_⟩
      have sB:Same HA (upd HA eb (.lst [])):=xo (Same.refl _) heb
      have gB:upd HA eb (.lst []) eb = some (.lst []):=xg
      revert sB gB
      generalize upd HA eb (.lst []) = HB
      intro sB gB
      refine ⟨(by show 2≤sizeLine; decide),fun qc hqc=>?_⟩
      have sC:Same HB (upd HB qc (.tup [.ref lz,.ref eb])):=xo (Same.refl _) hqc
      have gC:upd HB qc (.tup [.ref lz,.ref eb]) qc = some (.tup [.ref lz,.ref eb]):=xg
      revert sC gC
      generalize upd HB qc (.tup [.ref lz,.ref eb]) = HC
      intro sC gC
      have sAC:=sB.trans sC
      exact ⟨3,3,_,_,xbg (n:=2) (sAC _ _ (s6A _ _ a20)) ((slzA.keep (Same.tups sAC)).dv (sAC _ _ hzA)) (xbb (sAC _ _ (s6A _ _ hl2))),xbg (n:=2) gC ((stsA.keep (Same.tups sAC)).dv (sAC _ _ elA)) (xbb (sC _ _ gB)),by decide,by decide,_,rfl,ifN (by rw [xba]; rfl) ⟨_,rfl,sAC⟩⟩
    rintro σ HB ⟨v12,rfl,sAB⟩
    have s6B:=s6A.trans sAB
    have anB:=s6B _ _ el6
    have hzB:=s6B _ _ hz
    have rzl:=slz.len
    have fzl:(srt2.filter (xbe p1)).length≤32:=Nat.le_trans (List.length_filter_le _ _) sl32
    refine ⟨_,rfl,an,_,2,_,rfl,rfl,SqL.of anB,rfl,Tq 2,_,0,_,rfl,rfl,SqT.of (s6B _ _ a20),rfl,.inl ⟨rfl,_,SqL.of hzB⟩,z,_,_,rfl,rfl,hzB,?_,?_⟩
    · rw [List.length_map]
      exact Nat.lt_trans (by omega:rz.length < 33) (by decide)
    have bt:∀ c u,c≠z→HB c = some u→upd HB z (.lst (rz.map V.ref ++ [.int 0])) c = some u:=fun c u nc e=>by
      rw [xm nc]
      exact e
    revert bt
    generalize upd HB z (.lst (rz.map V.ref ++ [.int 0])) = HC
    intro bt
    have s0C:Same H HC:=fun c u e=>bt _ _ (xp e fz) (s6B _ _ (s06 _ _ e))
    have anC:=bt _ _ (fun e=>a22 (by rw [e])) anB
    have tC:Tups HB HC:=fun c xs e=>bt _ _ (xab e hzB (fun z=>nomatch z)) e
    have t3:=tC _ _ (s6B _ _ a30)
    have z3C:=tC _ _ (s6B _ _ hz3)
    have l3C:=bt _ _ (fun e=>ne23 (by rw [e])) (s6B _ _ hl3)
    have q1C:=tC _ _ (sAB _ _ (sA _ _ (s89 _ _ hq1)))
    refine ⟨_,rfl,an,_,3,_,rfl,rfl,SqL.of anC,rfl,Tq 3,_,0,_,rfl,rfl,SqT.of t3,rfl,_,_,rfl,.inl ⟨_,_,true,.tup z3C,rfl,xa8,true,rfl,iteT ?_⟩⟩
    refine ⟨_,rfl,an,_,3,_,rfl,rfl,SqL.of anC,rfl,_,rfl,q1,_,1,_,rfl,rfl,SqT.of q1C,rfl,_,rfl,q1,_,2,_,rfl,rfl,SqT.of q1C,rfl,(by show 2≤sizeLine; decide),fun qd hqd=>?_⟩
    have sD:Same HC (upd HC qd (.tup [.int p1.x,.int p1.y])):=xo (Same.refl _) hqd
    have gD:upd HC qd (.tup [.int p1.x,.int p1.y]) qd = some (.tup [.int p1.x,.int p1.y]):=xg
    revert sD gD
    generalize upd HC qd (.tup [.int p1.x,.int p1.y]) = HD
    intro sD gD
    refine ⟨(by show 0≤sizeLine; exact Nat.zero_le _),fun ee hee=>?_⟩
    have sE:Same HD (upd HD ee (.lst [])):=xo (Same.refl _) hee
    have gE:upd HD ee (.lst []) ee = some (.lst []):=xg
    revert sE gE
    generalize upd HD ee (.lst []) = HE
    intro sE gE
    refine ⟨(by show 2≤sizeLine; decide),fun qf hqf=>?_⟩
    have sF:Same HE (upd HE qf (.tup [.ref qd,.ref ee])):=xo (Same.refl _) hqf
    have gF:upd HE qf (.tup [.ref qd,.ref ee]) qf = some (.tup [.ref qd,.ref ee]):=xg
    revert sF gF
    generalize upd HE qf (.tup [.ref qd,.ref ee]) = HF
    intro sF gF
    have sCF:=sD.trans (sE.trans sF)
    refine ⟨2,2,_,_,xbg (n:=1) (sCF _ _ t3) (xk0 (sCF _ _ z3C)) (xbb (sCF _ _ l3C)),xbg (n:=1) gF (xk0 (sF _ _ (sE _ _ gD))) (xbb (sF _ _ gE)),by decide,by decide,?_⟩
    rw [xba]
    exact q _ (s0C.trans sCF)
end
end S06
set_option maxRecDepth 100000
set_option maxHeartbeats 4000000
namespace S06
open PySem L2 XL PyProof.Rows
def xg9 (K:PySem.W.Frag):Sp:=fun vs H Q _=>∃ (a:Addr) (ns:List Int),vs = [.ref a]∧SqL K H a (ns.map V.int)∧ns.length≤63∧∀ H',Q (.bl true) H'
theorem xhv {H:Hp} {xs:List V} (all:∀ v ∈ xs,∃ d,Thg H v d) {k:Int} (h0:0≤k) (h1:k < xs.length):∃ v d,atI xs k = some v∧Thg H v d∧v ∈ xs:=by
  obtain ⟨j,rfl⟩:=Int.eq_ofNat_of_zero_le h0
  have lt:j < xs.length:=by omega
  obtain ⟨d,hd⟩:=all xs[j] (List.getElem_mem lt)
  exact ⟨xs[j],d,xda (List.getElem?_eq_getElem lt),hd,List.getElem_mem lt⟩
section
variable {P:Program} {w:World} {K:PySem.W.Frag} {mg:Str→Option Value} {base:Heap} {t:Adr}
theorem xoz (T:Txt w K mg t):FnOk true P w K mg base (CXo P w) 9 t.f_law t.d_law ["_law_script"] (xg9 K):=by
  refine T.F_law.okn (k:=8) xbs (fun vs H Q E h=>?_) (fun cdv A outer s H vs Q E hr h=>?_)
  · obtain ⟨sc,ns,rfl,_⟩:=h
    rfl
  · obtain ⟨sc,ns,rfl,h⟩:=h
    refine ⟨_,xj (xfl (xae (ok_ad T) (hr.mono (by decide)) rfl T.g_ad T.F_ad.kp T.b_ad .nil xu (xf (xae (ok_as T) (hr.mono (by decide)) rfl T.g_as T.F_as.kp T.b_as .nil xu (xf (pv 0) (xf (xi) (xh)))) (xf (xi) (xh)))) (xd1 rfl (xa9 (xap (i:=1) xbs.nd rfl (Or.inl rfl)) (xa9 (xap (i:=2) xbs.nd rfl (Or.inl rfl)) (xdc)))))
      (xj (xx (i:=3) xbs.nd rfl (Or.inl rfl) (xae (ok_aj T) (hr.mono (by decide)) rfl T.g_aj T.F_aj.kp T.b_aj .nil xu (xf (pv 1) (xf (xae (ok_as T) (hr.mono (by decide)) rfl T.g_as T.F_as.kp T.b_as .nil xu (xf (pv 0) (xf (xi) (xh)))) (xh)))))
      (xj (xcz PassesOwn.never rfl (xgm rfl T.n_range (xf (xi) (xf (xz (xep rfl) rfl T.n_max boot_max (xf (xi) (xf (xz (xkp rfl) rfl T.n_min boot_min (xf (xz xcj rfl T.n_len boot_len (xf (pv 0) (xh))) (xf (xi) (xh)))) (xh)))) (xh)))) (xap (i:=4) xbs.nd rfl (Or.inl rfl)) (xj (xx (i:=5) xbs.nd rfl (Or.inl rfl) (xae (ok_as T) (hr.mono (by decide)) rfl T.g_as T.F_as.kp T.b_as .nil xu (xf (pv 0) (xf (pv 4) (xh)))))
      (xj (xx (i:=6) xbs.nd rfl (Or.inl rfl) (xae (ok_x T) (hr.mono (by decide)) rfl T.g_x T.F_x.kp T.b_x .nil xu (xf (pv 5) (xf (pv 4) (xh)))))
      (xj (xx (i:=7) xbs.nd rfl (Or.inl rfl) (xae (ok_x T) (hr.mono (by decide)) rfl T.g_x T.F_x.kp T.b_x .nil xu (xf (pv 5) (xf (xq xax (xi) (pv 4)) (xh)))))
      (xj ((by (with_reducible refine' xx (i:=8) ?n66 ?i67 ?x68 ?e69 ?s70 ?f71); (case n66=>exact xbs.nd); (case i67=>rfl); (case x68=>exact Or.inl rfl); (case f71=>exact Or.inl rfl); (case e69=>((with_reducible refine' x5 (r:=rIxL K) ?r72 ?l73 ?j74 ?p75); (case r72=>exact xas); (case p75=>exact fun _ _=>rfl); (case j74=>exact xq xau (xq xbi (pv 6) (xi)) (xi)); (case l73=>((with_reducible refine' xac ?p76); (case p76=>((with_reducible refine' xf ?e77 ?q78 rfl); (case e77=>exact x9); (case q78=>((with_reducible refine' xf ?e79 ?q80 rfl); (case e79=>exact x9); (case q80=>((with_reducible refine' xf ?e81 ?q82 rfl); (case e81=>exact xck); (case q82=>((with_reducible refine' xf ?e83 ?q84 rfl); (case e83=>exact xi); (case q84=>((with_reducible refine' xf ?e85 ?q86 rfl); (case e85=>exact xac (xf (x9) (xh))); (case q86=>((with_reducible refine' xf ?e87 ?q88 rfl); (case e87=>exact x9); (case q88=>((exact xh))))))))))))))))))); (case s70=>rfl)))
      (xj (xbf (xaa (PW.pt (xku (xad (xc2 (xa4 hr)) (pv 2) (xac (xh)) (xaj _)) (xir (xad xpa (xq xau (pv 6) (xi)) (xi) (xaj _))))) (xn (xx (i:=8) xbs.nd rfl (Or.inl rfl) (x5 xak (x5 xas (pv 2) (xq xau (xq xbi (pv 6) (xi)) (xz xcj rfl T.n_len boot_len (xf (pv 2) (xh)))) (fun _ _=>rfl)) (xi) (fun _ _=>rfl)))) (xw)))
      (xj ((by (with_reducible refine' xx (i:=9) ?n39 ?i40 ?x41 ?e42 ?s43 ?f44); (case n39=>exact xbs.nd); (case i40=>rfl); (case x41=>exact Or.inl rfl); (case f44=>exact Or.inl rfl); (case e42=>((with_reducible refine' x5 (r:=rIxL K) ?r45 ?l46 ?j47 ?p48); (case r45=>exact xas); (case p48=>exact fun _ _=>rfl); (case j47=>exact xz (xep rfl) rfl T.n_max boot_max (xf (xi) (xf (xq xcv (xq xau (pv 7) (xi)) (xi)) (xh)))); (case l46=>((with_reducible refine' xac ?p49); (case p49=>((with_reducible refine' xf ?e50 ?q51 rfl); (case e50=>exact x9); (case q51=>((with_reducible refine' xf ?e52 ?q53 rfl); (case e52=>exact x9); (case q53=>((with_reducible refine' xf ?e54 ?q55 rfl); (case e54=>exact x9); (case q55=>((with_reducible refine' xf ?e56 ?q57 rfl); (case e56=>exact x9); (case q57=>((with_reducible refine' xf ?e58 ?q59 rfl); (case e58=>exact x9); (case q59=>((with_reducible refine' xf ?e60 ?q61 rfl); (case e60=>exact xck); (case q61=>((with_reducible refine' xf ?e62 ?q63 rfl); (case e62=>exact xac (xf (x9) (xh))); (case q63=>((with_reducible refine' xf ?e64 ?q65 rfl); (case e64=>exact xi); (case q65=>((exact xh))))))))))))))))))))))); (case s43=>rfl)))
      (xj (xbf (xaa (xad xmn (xq xau (pv 7) (xi)) (xi) (xaj _)) (xn (xx (i:=9) xbs.nd rfl (Or.inl rfl) (x5 xas (xac (xf (x9) (xf (x9) (xh)))) (xq xau (pv 7) (xi)) (fun _ _=>rfl)))) (xw)))
      (xj (xx (i:=10) xbs.nd rfl (Or.inl rfl) (xq xax (xi) (xq xau (xq xbi (pv 7) (xi)) (xao (pv 1) rfl))))
      (xj ((by (with_reducible refine' xbf ?m38); (case m38=>((with_reducible refine' xaa ?c11 ?a12 ?b13); (case c11=>exact xad xbt (xq xau (xq xbi (pv 7) (xi)) (xi)) (xi) (xaj _)); (case a12=>((with_reducible refine' xn ?c14); (case c14=>((with_reducible refine' xx (i:=10) ?n15 ?i16 ?x17 ?e18 ?s19 ?f20); (case n15=>exact xbs.nd); (case i16=>rfl); (case x17=>exact Or.inl rfl); (case f20=>exact Or.inl rfl); (case e18=>((with_reducible refine' x5 (r:=rIxL K) ?r21 ?l22 ?j23 ?p24); (case r21=>exact xas); (case p24=>exact fun _ _=>rfl); (case j23=>exact xq xau (xq xbi (pv 7) (xi)) (xi)); (case l22=>((with_reducible refine' xac ?p25); (case p25=>((with_reducible refine' xf ?e26 ?q27 rfl); (case e26=>exact xi); (case q27=>((with_reducible refine' xf ?e28 ?q29 rfl); (case e28=>exact xq xax (xao (pv 1) rfl) (xi)); (case q29=>((with_reducible refine' xf ?e30 ?q31 rfl); (case e30=>exact xq xoe (xi) (xi)); (case q31=>((with_reducible refine' xf ?e32 ?q33 rfl); (case e32=>exact xeg); (case q33=>((with_reducible refine' xf ?e34 ?q35 rfl); (case e34=>exact xck); (case q35=>((with_reducible refine' xf ?e36 ?q37 rfl); (case e36=>exact x9); (case q37=>((exact xh))))))))))))))))))); (case s19=>rfl))))); (case b13=>((exact xw)))))))
      (xj (xbf (xaa (xbd (xan (xae (ok_v T) (hr.mono (by decide)) rfl T.g_v T.F_v.kp T.b_v .nil xu (xaq (pv 1) (xaq (pv 2) (xaq (pv 3) (xaq (pv 8) (xaq (pv 9) (xaq (pv 10) (xh) rfl) rfl) rfl) rfl) rfl) rfl)))) (xn (xar (xeg))) (xw)))
      (xn (xbf (xaa (xad xbt (xq xau (xq xbi (pv 6) (xi)) (xi)) (xi) (xaj _)) (xn (xav (xae (ok_ae T) (hr.mono (by decide)) rfl T.g_ae T.F_ae.kp T.b_ae .nil xu (xf (pv 1) (xf (pv 2) (xf (pv 3) (xf (pv 7) (xh)))))))) (xw)))))))))))))))
      (xn (xar (xbl (xbv (xb4 (xa4 hr)) (xde (pv 1) T.c_j T.m_m (ok_m T) (hr.mono (by decide)) T.b_m .nil xu) (pv 2) (xaj _)) (xb0 (xbv (xb4 (xa4 hr)) (xde (pv 1) T.c_j T.m_u (ok_u T) (hr.mono (by decide)) T.b_u .nil xu) (xz (xek rfl) rfl T.n_sorted PyProof.Rows.Boot.«sorted» (xf (pv 3) (xh))) (xaj _)))))))),?_⟩
    obtain ⟨hs,nl,q⟩:=h
    refine ⟨_,rfl,sc,ns,0,rfl,hs,by decide,by decide,fun c0=>⟨c0,rfl,fun H1 tp a dp do_ l w' ph ps qs s1 htp pic hdt pok hl pts fa fp fo fl=>⟨tp,_,rfl,SqT.of htp,rfl,_,_,rfl,_,_,rfl,rfl,?_⟩⟩⟩
    refine ⟨_,rfl,_,rfl,sc,ns,1,rfl,s1.seq hs,by decide,by decide,fun c1=>⟨a,dp,do_,w',ph,c1,ps,rfl,pic,hdt,fun H2 m ss rs k2 fm1 pic2 st2 sok2 hm2 sts2=>?_⟩⟩
    have s2:Same H H2:=fun b u e=>k2 _ _ (xp e fo) (s1 _ _ e)
    have p2:PS t H2 a dp do_ w' ph ps ss l m:=⟨pic2,st2,pok,sok2,⟨qs,k2 _ _ (xab hl hdt (fun z=>nomatch z)) hl,pts.keep fun b xs e=>k2 _ _ (xab e hdt (fun z=>nomatch z)) e⟩,⟨ss,rs,List.Perm.refl _,hm2,sts2⟩⟩
    have fm:=s1.free fm1
    have nlm:l≠m:=xp hl fm1
    clear htp pic hdt hl pts k2 pic2 st2 hm2 sts2 fm1
    refine ⟨_,rfl,sc,_,rfl,.inl (s2.seq hs),_,_,rfl,_,_,rfl,2,_,rfl,?_,?_⟩
    · refine ⟨by decide,by decide,?_,?_⟩ <;> (repeat' split) <;> simp only [List.length_map] at * <;> omega
    refine xes (Pv:=fun i σ H3=>∃ (v4 v5 v6 v7 v8 v9 v10:Option V) (ps:List Pt) (ss:List Seat),σ = [some (.ref sc),some (.ref a),some (.ref l),some (.ref m),v4,v5,v6,v7,v8,v9,v10]∧Same H H3∧PS t H3 a dp do_ w' ph ps ss l m) ⟨_,_,_,_,_,_,_,ps,ss,rfl,s2,p2⟩ ?_ ?_
    · clear p2 s2 pok sok2 s1
      rintro i σ H3 hi ⟨v4,v5,v6,v7,v8,v9,v10,ps,ss,rfl,s3,p3⟩
      have hi':i < 63:=by
        refine Nat.lt_of_lt_of_le hi ?_
        (repeat' split) <;> simp only [List.length_map] at * <;> omega
      have h1:=p3.pic.h1
      refine ⟨_,rfl,_,rfl,sc,ns,_,rfl,s3.seq hs,(by show (0:Int)≤2 + (i:Int); omega),(by show 2 + (i:Int) < 2 ^ 62; omega),fun c=>?_⟩
      refine ⟨_,rfl,_,rfl,c,_,rfl,fun n n0 n1=>?_⟩
      refine ⟨_,rfl,_,rfl,_,_,rfl,rfl,c,_,rfl,fun o o0 o1=>?_⟩
      refine ⟨(by show 1≤sizeLine; decide),fun q5 hq5=>?_⟩
      have s5:Same H3 (upd H3 q5 (.lst [.str "a"])):=xo (Same.refl _) hq5
      have g5:upd H3 q5 (.lst [.str "a"]) q5 = some (.lst [.str "a"]):=xg
      revert s5 g5
      generalize upd H3 q5 (.lst [.str "a"]) = H5
      intro s5 g5
      refine ⟨(by show 6≤sizeLine; decide),fun q6 hq6=>?_⟩
      have s6:Same H5 (upd H5 q6 (.lst [.str "z",.str "",.non,.int 7,.ref q5,.str "A"])):=xo (Same.refl _) hq6
      have g6:upd H5 q6 (.lst [.str "z",.str "",.non,.int 7,.ref q5,.str "A"]) q6 = some (.lst [.str "z",.str "",.non,.int 7,.ref q5,.str "A"]):=xg
      revert s6 g6
      generalize upd H5 q6 (.lst [.str "z",.str "",.non,.int 7,.ref q5,.str "A"]) = H6
      intro s6 g6
      have b6:=xaw (n / 8) (show (0:Int) < 6 by decide)
      obtain ⟨nm0,dn0,en0,tn0,_⟩:=xhv (H:=H6) (xs:=[.str "z",.str "",.non,.int 7,.ref q5,.str "A"]) (fun v hv=>by
        simp only [List.mem_cons,List.not_mem_nil,or_false] at hv
        rcases hv with rfl | rfl | rfl | rfl | rfl | rfl
        · exact ⟨_,.str _ (by decide +kernel)⟩
        · exact ⟨_,.str _ (by decide +kernel)⟩
        · exact ⟨_,.non⟩
        · exact ⟨_,.int _⟩
        · exact ⟨_,.lst (s6 _ _ g5) rfl⟩
        · exact ⟨_,.str _ (by decide +kernel)⟩) b6.1 b6.2
      refine ⟨_,rfl,_,_,rfl,rfl,⟨by decide,by decide⟩,_,_,rfl,rfl,(by show (0:Int) < 6; decide),q6,_,_,nm0,rfl,rfl,SqL.of g6,en0,?_⟩
      have s36:=s5.trans s6
      refine ⟨fun σ H'=>∃ (nm:V) (dn:DV),σ = [some (.ref sc),some (.ref a),some (.ref l),some (.ref m),some (.int (2 + (i:Int))),some (.int c),some (.int n),some (.int o),some nm,v9,v10]∧Same H3 H'∧Thg H' nm dn,?_,?_⟩
      · refine ⟨_,rfl,(by show 0≤sizeLine; exact Nat.zero_le _),fun e0 he0=>?_⟩
        have s7:Same H6 (upd H6 e0 (.lst [])):=xo (Same.refl _) he0
        have g7:upd H6 e0 (.lst []) e0 = some (.lst []):=xg
        revert s7 g7
        generalize upd H6 e0 (.lst []) = H7
        intro s7 g7
        have s37:=s36.trans s7
        have p7:=p3.same s37
        obtain ⟨qs,hl,pts⟩:=p7.rl
        have ql:=pts.len
        refine ⟨2,1,.lst (ps.map ptD),.lst [],pts.dv hl,xbb g7,by decide,by decide,_,rfl,ite2 (fun c=>?_) (fun c=>⟨_,_,rfl,s37,tn0.same s7⟩)⟩
        refine ⟨_,rfl,_,_,rfl,rfl,(by show (0:Int) < 8; decide),_,_,rfl,rfl,_,rfl,ite2 (fun c2=>?_) (fun c2=>⟨_,_,rfl,s37,tn0.same s7⟩)⟩
        have pos:0 < ps.length:=by
          cases ps with
          | nil=>exact absurd c (by decide)
          | cons _ _=>exact Nat.succ_pos _
        have lp:(0:Int) < ((qs.map V.ref).length:Nat):=by rw [List.length_map]; omega
        have ab:=xaw (n / 8) lp
        obtain ⟨k,ek⟩:∃ k:Nat,n / 8 % ((qs.map V.ref).length:Nat) = (k:Int):=⟨_,(Int.toNat_of_nonneg ab.1).symm⟩
        have klt:k < qs.length:=by rw [ek,List.length_map] at ab; omega
        obtain ⟨pk,hpk,epk⟩:=pts.get (List.getElem?_eq_getElem klt)
        have pko:=p7.pok.ok pk (List.mem_of_getElem? hpk)
        refine ⟨_,rfl,_,rfl,_,_,rfl,rfl,⟨by decide,by decide⟩,_,rfl,l,_,rfl,.inl (SqL.of hl),_,_,rfl,rfl,lp,l,_,_,.ref qs[k],rfl,rfl,SqL.of hl,(by rw [ek]; exact xda (by rw [List.getElem?_map,List.getElem?_eq_getElem klt]; rfl)),qs[k],_,0,_,rfl,rfl,SqT.of epk,rfl,?_⟩
        exact ⟨_,_,rfl,s37,.str _ (by have:=xhl pko.nm; omega)⟩
      rintro σ H7 ⟨nm,dn,rfl,s37,tn⟩
      clear s5 g5 s6 g6 s36 tn0
      refine ⟨(by show 1≤sizeLine; decide),fun q8 hq8=>?_⟩
      have s8:Same H7 (upd H7 q8 (.lst [.str "left"])):=xo (Same.refl _) hq8
      have g8:upd H7 q8 (.lst [.str "left"]) q8 = some (.lst [.str "left"]):=xg
      revert s8 g8
      generalize upd H7 q8 (.lst [.str "left"]) = H8
      intro s8 g8
      refine ⟨(by show 8≤sizeLine; decide),fun q9 hq9=>?_⟩
      have s9:Same H8 (upd H8 q9 (.lst [.str "left",.str "right",.str "left",.str "right",.str "both",.non,.ref q8,.int 1])):=xo (Same.refl _) hq9
      have g9:upd H8 q9 (.lst [.str "left",.str "right",.str "left",.str "right",.str "both",.non,.ref q8,.int 1]) q9 = some (.lst [.str "left",.str "right",.str "left",.str "right",.str "both",.non,.ref q8,.int 1]):=xg
      revert s9 g9
      generalize upd H8 q9 (.lst [.str "left",.str "right",.str "left",.str "right",.str "both",.non,.ref q8,.int 1]) = H9
      intro s9 g9
      have b12:=xaw o (show (0:Int) < 12 by decide)
      have ixb:0≤(if o % 12 - 4 > 0 then o % 12 - 4 else 0)∧(if o % 12 - 4 > 0 then o % 12 - 4 else 0) < 8:=by
        split <;> omega
      obtain ⟨x0,dx0,ex0,tx0,_⟩:=xhv (H:=H9) (xs:=[.str "left",.str "right",.str "left",.str "right",.str "both",.non,.ref q8,.int 1]) (fun v hv=>by
        simp only [List.mem_cons,List.not_mem_nil,or_false] at hv
        rcases hv with rfl | rfl | rfl | rfl | rfl | rfl | rfl | rfl
        · exact ⟨_,.str _ (by decide +kernel)⟩
        · exact ⟨_,.str _ (by decide +kernel)⟩
        · exact ⟨_,.str _ (by decide +kernel)⟩
        · exact ⟨_,.str _ (by decide +kernel)⟩
        · exact ⟨_,.str _ (by decide +kernel)⟩
        · exact ⟨_,.non⟩
        · exact ⟨_,.lst (s9 _ _ g8) rfl⟩
        · exact ⟨_,.int _⟩) ixb.1 ixb.2
      refine ⟨_,rfl,_,_,rfl,rfl,(by show (0:Int) < 12; decide),_,_,rfl,rfl,_,_,rfl,q9,_,_,x0,rfl,rfl,SqL.of g9,ex0,?_⟩
      have s79:=s8.trans s9
      refine ⟨fun σ H'=>∃ (x:V) (dx:DV),σ = [some (.ref sc),some (.ref a),some (.ref l),some (.ref m),some (.int (2 + (i:Int))),some (.int c),some (.int n),some (.int o),some nm,some x,v10]∧Same H7 H'∧Thg H' x dx,?_,?_⟩
      · refine ⟨_,rfl,_,_,rfl,rfl,(by show (0:Int) < 12; decide),_,_,rfl,rfl,_,rfl,ite2 (fun c=>?_) (fun c=>⟨_,_,rfl,s79,tx0⟩)⟩
        refine ⟨(by show 2≤sizeLine; decide),fun qa hqa=>?_⟩
        have sA:Same H9 (upd H9 qa (.lst [.str "left",.str "right"])):=xo (Same.refl _) hqa
        have gA:upd H9 qa (.lst [.str "left",.str "right"]) qa = some (.lst [.str "left",.str "right"]):=xg
        revert sA gA
        generalize upd H9 qa (.lst [.str "left",.str "right"]) = HA
        intro sA gA
        obtain ⟨b,eb⟩:=xmd o
        exact ⟨_,rfl,_,_,rfl,rfl,(by show (0:Int) < 2; decide),qa,_,_,.str (xv b),rfl,rfl,SqL.of gA,eb,_,_,rfl,s79.trans sA,.str _ (xdo _)⟩
      rintro σ HA ⟨x,dx,rfl,s7A,tx⟩
      clear s8 g8 s9 g9 s79 tx0
      have s3A:=s37.trans s7A
      obtain ⟨dxA,hpA⟩:=(p3.same s3A).pic.ins
      refine ⟨_,rfl,_,_,rfl,rfl,⟨by decide,by decide⟩,_,rfl,a,_,_,_,_,rfl,hpA,T.c_j,T.n_bc,lkH,_,_,rfl,rfl,(by show 0 < ph; omega),_,_,rfl,rfl,?_⟩
      dsimp only
      generalize 1 + o / 12 % ph = r0
      refine ⟨fun σ H'=>∃ (r:V) (dr:DV),σ = [some (.ref sc),some (.ref a),some (.ref l),some (.ref m),some (.int (2 + (i:Int))),some (.int c),some (.int n),some (.int o),some nm,some x,some r]∧Same HA H'∧Thg H' r dr,?_,?_⟩
      · refine ⟨_,rfl,_,_,rfl,rfl,⟨by decide,by decide⟩,_,_,rfl,rfl,(by show (0:Int) < 7; decide),rfl,_,rfl,ite2 (fun c=>?_) (fun c=>⟨_,_,rfl,Same.refl _,.int _⟩)⟩
        refine ⟨_,rfl,a,_,_,_,_,rfl,hpA,T.c_j,T.n_bc,lkH,_,_,rfl,rfl,_,_,rfl,rfl,⟨by decide,by decide,by decide⟩,(by show 6≤sizeLine; decide),fun qb hqb=>?_⟩
        dsimp only
        have sB:Same HA (upd HA qb (.lst [.int 0,.int (ph + 1),.int (10 ^ (20:Int).toNat),.bl true,.non,.str "1"])):=xo (Same.refl _) hqb
        have gB:upd HA qb (.lst [.int 0,.int (ph + 1),.int (10 ^ (20:Int).toNat),.bl true,.non,.str "1"]) qb = some (.lst [.int 0,.int (ph + 1),.int (10 ^ (20:Int).toNat),.bl true,.non,.str "1"]):=xg
        revert sB gB
        generalize upd HA qb (.lst [.int 0,.int (ph + 1),.int (10 ^ (20:Int).toNat),.bl true,.non,.str "1"]) = HB
        intro sB gB
        have b6:=xaw (o / 1400) (show (0:Int) < 6 by decide)
        obtain ⟨r,dr,er,tr,_⟩:=xhv (H:=HB) (xs:=[.int 0,.int (ph + 1),.int (10 ^ (20:Int).toNat),.bl true,.non,.str "1"]) (fun v hv=>by
          simp only [List.mem_cons,List.not_mem_nil,or_false] at hv
          rcases hv with rfl | rfl | rfl | rfl | rfl | rfl
          · exact ⟨_,.int _⟩
          · exact ⟨_,.int _⟩
          · exact ⟨_,.int _⟩
          · exact ⟨_,.bl _⟩
          · exact ⟨_,.non⟩
          · exact ⟨_,.str _ (by decide +kernel)⟩) b6.1 b6.2
        exact ⟨_,rfl,_,_,rfl,rfl,⟨by decide,by decide⟩,_,_,rfl,rfl,(by show (0:Int) < 6; decide),qb,_,_,r,rfl,rfl,SqL.of gB,er,_,_,rfl,sB,tr⟩
      rintro σ HB ⟨r,dr,rfl,sAB,tr⟩
      have s3B:=s3A.trans sAB
      refine ⟨fun σ H'=>σ = [some (.ref sc),some (.ref a),some (.ref l),some (.ref m),some (.int (2 + (i:Int))),some (.int c),some (.int n),some (.int o),some nm,some x,some r]∧Same HB H',?_,?_⟩
      · exact ⟨_,rfl,_,rfl,_,rfl,_,rfl,_,rfl,_,rfl,a,dp,do_,l,m,w',ph,ps,ss,nm,x,r,dn,dx,dr,rfl,p3.same s3B,tn.same (s7A.trans sAB),tx.same sAB,tr,fun HC sC=>⟨true,rfl,iteF ⟨rfl,sC⟩⟩⟩
      rintro σ HC ⟨rfl,sBC⟩
      have s3C:=s3B.trans sBC
      refine ⟨fun σ H'=>∃ (v4 v5 v6 v7 v8 v9 v10:Option V) (ps:List Pt) (ss:List Seat),σ = [some (.ref sc),some (.ref a),some (.ref l),some (.ref m),v4,v5,v6,v7,v8,v9,v10]∧Same H H'∧PS t H' a dp do_ w' ph ps ss l m,?_,fun σ H' z=>z⟩
      refine ⟨_,rfl,_,_,rfl,rfl,⟨by decide,by decide⟩,_,_,rfl,rfl,(by show (0:Int) < 4; decide),rfl,_,rfl,ite2 (fun c=>?_) (fun c=>⟨_,_,_,_,_,_,_,ps,ss,rfl,s3.trans s3C,p3.same s3C⟩)⟩
      exact ⟨_,rfl,_,rfl,_,rfl,_,rfl,a,dp,do_,l,m,w',ph,o,ps,ss,rfl,p3.same s3C,nlm,fun HD ps' ss' kD pD=>⟨_,_,_,_,_,_,_,ps',ss',rfl,fun b u e=>kD _ _ (xp e fp) (xp e fo) (xp e fl) (xp e fm) (s3C _ _ (s3 _ _ e)),pD⟩⟩
    · rintro σ H3 ⟨v4,v5,v6,v7,v8,v9,v10,ps,ss,rfl,s3,p⟩
      have pic:=p.pic
      obtain ⟨⟨dx,hp⟩,_⟩:=id pic
      obtain ⟨qs,hl,pts⟩:=p.rl
      obtain ⟨sq2,rs,pm2,hm,sts⟩:=p.sl
      refine ⟨_,rfl,a,dx,_,rfl,hp,xa6 (by decide +kernel),a,dp,do_,w',ph,ps,rfl,pic,fun H4 l4 qs4 s4 hl4 pt4=>?_⟩
      refine ⟨_,rfl,2,2,.lst (ps.map ptD),.lst (ps.map ptD),pt4.dv hl4,(pts.keep (Same.tups s4)).dv (s4 _ _ hl),by decide,by decide,_,rfl,ifP (xba _) ?_⟩
      refine ⟨_,rfl,a,dx,_,rfl,s4 _ _ hp,xa6 (by decide +kernel),a,dp,do_,w',ph,ps,ss,rfl,Pic.same s4 pic,p.st.same s4,fun l5 ss5 rs5 fr5 sl5 pm5 pw5=>?_⟩
      have s5:Same H4 (upd H4 l5 (.lst (rs5.map V.ref))):=xo (Same.refl _) fr5
      have g5:upd H4 l5 (.lst (rs5.map V.ref)) l5 = some (.lst (rs5.map V.ref)):=xg
      revert s5 g5
      generalize upd H4 l5 (.lst (rs5.map V.ref)) = H5
      intro s5 g5
      have s45:=s4.trans s5
      refine ⟨_,rfl,?_⟩
      dsimp only [tNil]
      refine xe5 (s45 _ _ hm) (sts.keep (Same.tups s45)) (pm2.nodup_iff.mpr p.sok.1) (by rw [pm2.length_eq]; exact p.sok.2.1) fun l6 ss6 rs6 fr6 sl6 pm6 pw6=>?_
      obtain rfl:ss6 = ss5:=xdv xgq (pm6.trans (pm2.trans pm5.symm)) pw6 pw5
      have s6:Same H5 (upd H5 l6 (.lst (rs6.map V.ref))):=xo (Same.refl _) fr6
      refine ⟨2,2,.lst (ss6.map xbo),.lst (ss6.map xbo),((sl5.keep (Same.tups s5)).keep (Same.tups s6)).dv (s6 _ _ g5),(sl6.keep (Same.tups s6)).dv xg,by decide,by decide,?_⟩
      rw [xba]
      exact q _
end
end S06
namespace PySem.W.Fast
def tw17860662999061624405:=0
def tw13273267956099619780:=0
def tw13792702780868919272:=0
def tw12773638070635269578:=0
def tw12572714332565262009:=0
def tw18229410474488624789:=0
def tw231735370755007007:=0
def tw15194861628101709931:=0
def tw11465831308155521599:=0
def tw6484546152257124496:=0
def tw684822865531749796:=0
def tw6060006426611179309:=0
def tw1741304955370456063:=0
def tw100558500148315384:=0
def tw12597249252297555809:=0
def tw8188181014031052774:=0
def tw4770437875506981522:=0
def tw15623058851451128021:=0
def tw7726592387930081964:=0
def tw8445142009550067638:=0
def tw8820642168390246240:=0
def tw3507844044830867485:=0
def tw15566099930017908975:=0
def tw6500785447393977206:=0
def tw17010906232674187845:=0
def tw16303332376975081283:=0
def tw2397471209461677006:=0
def tw2864453054989187931:=0
def tw14503920809337013787:=0
def tw12063443294190145846:=0
def tw988360256843896162:=0
def tw5938780867663200658:=0
def tw4436326911148788322:=0
def tw14260602515015495416:=0
def tw7639554405868659601:=0
def tw8421439783076268348:=0
def tw11662499433644927193:=0
def tw17331420745584239743:=0
def tw4159406826393244346:=0
def tw677500126929121203:=0
def tw13344447008737472683:=0
def tw1944557467549020336:=0
def tw16771352880691974380:=0
def tw4168780612862774165:=0
def tw8522244938047867660:=0
def tw13886577609692159192:=0
def tw13278770655226471220:=0
def tw1626766617491176863:=0
def tw14362091103270510439:=0
def tw14407908719495205503:=0
def tw13694072269656955039:=0
def tw13888825363665904766:=0
def tw6146088464483020481:=0
def tw9019671467538078121:=0
def tw11686197340519273218:=0
def tw11513255047346738385:=0
def tw16430521443211668698:=0
def tw10550009763626522674:=0
def tw1481594973658791900:=0
def tw1841989070129304116:=0
def tw1089804623677940237:=0
def tw2038277607093660818:=0
def tw2814093191823962217:=0
def tw12590976424935396814:=0
def tw1501401548092544718:=0
def tw5039815762944101058:=0
def tw2148207935625555200:=0
def tw3299163492755196346:=0
def tw9756600621926390835:=0
def tw3254178450247267626:=0
def tw12174230669642179370:=0
def tw2688511295231202032:=0
def tw5795717554090168626:=0
def tw10609981765339965818:=0
def tw8241532672847731796:=0
def tw9300944248776509340:=0
def tw10920952347737635274:=0
def tw12767771086952314992:=0
def tw11202260190445706014:=0
def tw2127277989622453305:=0
def tw11916246581029800562:=0
def tw7594243345882563544:=0
def tw18438085123647379514:=0
def tw7387320112858383925:=0
def tw2968543420911067979:=0
def tw13820439323336261450:=0
def tw15121954251960850472:=0
def tw16965395229190447028:=0
def tw1628793359002674526:=0
def tw6219611447745491624:=0
def tw5154160116486270569:=0
def tw6470255462705038582:=0
def tw5549483385513179998:=0
def tw10625575716389807797:=0
def tw886115221677525523:=0
def tw3240771695839201324:=0
def tw1924683988200047005:=0
def tw6357488337315763731:=0
def tw15262333839850720844:=0
def tw5825413940510156158:=0
def tw16527366881386120683:=0
def tw16967833411884136890:=0
def tw3117660324764725682:=0
def tw1160856850123025864:=0
def tw15042862808705511741:=0
def tw10271869154039446793:=0
def tw192418648218352510:=0
def tw10096948819445776220:=0
def tw12825750958984872774:=0
def tw893773317907894074:=0
def tw15430969693931121853:=0
def tw1975037675355965130:=0
def tw11768302752125188705:=0
def tw14057186250348359477:=0
def tw6754919829435727247:=0
def tw5793647496293699852:=0
def tw1876592641127639056:=0
def tw13263824391840259700:=0
def tw2535184315359768940:=0
def tw17696477259855779991:=0
def tw18124949401283229082:=0
def tw7640645426267351216:=0
def tw14286623022446466736:=0
def tw10811962012294091114:=0
def tw12391928407682948558:=0
def tw17325682462407772477:=0
def tw1826501229208816072:=0
def tw3483615883385687215:=0
def tw8168092567191405291:=0
def tw1403080294343425838:=0
def tw17553025556894348550:=0
def tw7482794471178781065:=0
def tw15669216943801270712:=0
def tw10946958733544342877:=0
def tw9432166425005924193:=0
def tw5410214362243398739:=0
def tw7519508514529486219:=0
def tw15150393242586749699:=0
def tw8931199193342387522:=0
def tw186880364773357446:=0
def tw12895946148982189762:=0
def tw15754572286508466184:=0
def tw16224373639358246463:=0
def tw12312242985788618837:=0
def tw521965363104411782:=0
def tw16691483504730623120:=0
def tw301114303454837995:=0
def tw4558378264884965031:=0
def tw18048294855837211056:=0
def tw15828563610344063038:=0
def tw16960458349326028620:=0
def tw4183216884428306663:=0
def tw7195981258111307840:=0
def tw14952907895863185389:=0
def tw2130161777951637034:=0
def tw4309384271480800486:=0
def tw4158067768689906809:=0
def tw10608985618787423567:=0
def tw7302238257605480030:=0
def tw8056732475030878581:=0
def tw2026706871992547007:=0
def tw1062150555337509657:=0
def tw8703296378297158870:=0
def tw11945315755600474521:=0
def tw8552487299998441919:=0
def tw10833928621416674742:=0
def tw4572371485381073058:=0
def tw11727113209434701386:=0
def tw3865873862161858070:=0
def tw6377924139821901601:=0
def tw7492593250442360161:=0
def tw2774653114394721739:=0
def tw9925075888575478207:=0
def tw6931093919010037239:=0
def tw13339026413193790628:=0
def tw3100773567073238023:=0
def tw15440199199880057098:=0
def tw2738573561074690071:=0
def tw8963607311213980256:=0
def tw1114789208715031674:=0
def tw6997349457431299249:=0
def tw18137453332735825011:=0
def tw123867212020036815:=0
def tw15314120113330800952:=0
def tw1748988105513815305:=0
def tw10238904586078579970:=0
def tw7105410895562240304:=0
def tw6108288649035640687:=0
def tw2732755152930143634:=0
def tw361611483730029492:=0
def tw9037689968739335297:=0
def tw525972767618854043:=0
def tw4452575893339952597:=0
def tw7293914007230726288:=0
def tw319796127839419038:=0
def tw17032694672886307451:=0
def tw13209286075679461664:=0
def tw653364882939882314:=0
def tw16619537262093557772:=0
def tw1908764700825369214:=0
def tw5103048704942159874:=0
def tw225557330059895278:=0
def tw5280861358332002063:=0
def tw10002517671591185971:=0
def tw9364928073694448412:=0
def tw16774421198982036893:=0
def tw11720416572997212664:=0
def tw3159625776394941983:=0
def tw14906158143108458816:=0
def tw2929660695591839276:=0
def tw14510985629720003314:=0
def tw2173655532406488850:=0
def tw18121110730115073162:=0
def tw4555100332890792680:=0
def tw789993061857857380:=0
def tw4295906554189458377:=0
def tw15338730450201201704:=0
def tw6922404638500115240:=0
def tw5459488915907105409:=0
def tw5654738345651545240:=0
def tw17102188901129834993:=0
def tw2324098392466038990:=0
def tw10204040455983384142:=0
def tw3760729140130706874:=0
def tw9896941317994234016:=0
def tw16037226107761733064:=0
def tw1930403950823765572:=0
def tw3016079839037552548:=0
def tw11482076036239830692:=0
def tw6979994885879268761:=0
def tw6556107769669249469:=0
def tw2374908477344270186:=0
def tw16935787800534017328:=0
def tw13592684034006323377:=0
def tw15108177276267974000:=0
def tw15616161989417160003:=0
def tw2096569756050331229:=0
def tw1864115983338965461:=0
def tw8236236484703166293:=0
def tw9930978076680484604:=0
def tw13967681359851687020:=0
def tw16390827750361202924:=0
def tw8558035236070065933:=0
def tw14940566215962371355:=0
def tw8487235620318787569:=0
def tw17890843815016427882:=0
def tw17989694085294943277:=0
def tw9394135380122757313:=0
def tw15597053459351911062:=0
def tw1759431352102807505:=0
def tw4561120328583833422:=0
def tw7153512339447739269:=0
def tw17954167884041869899:=0
def tw6423200404198889098:=0
def tw12975262046289992859:=0
def tw17957642864115378988:=0
def tw13730700409735617425:=0
def tw16207953867931813921:=0
def tw8137725248735069090:=0
def tw8554179817014709618:=0
def tw8835242499528689529:=0
def tw12962708985298229956:=0
def tw11558504622129576405:=0
def tw16685959107803258938:=0
def tw9041230768793631733:=0
def tw17586330505595348070:=0
def tw5253652961169308346:=0
def tw10706313779427321057:=0
def tw4902781756698304879:=0
def tw5646810963427159539:=0
def tw14035721156714493096:=0
def tw6494424587148696548:=0
def tw6828990123746085906:=0
def tw10626951532555890456:=0
def tw2756969703715616518:=0
def tw436388164976273224:=0
def tw5712830788399603487:=0
def tw3152744564968559444:=0
def tw11873975353380803787:=0
def tw5536979278024113184:=0
def tw2480683223713499831:=0
def tw13188759617362389270:=0
def tw15381145909103713205:=0
def tw10067206419873554268:=0
def tw9858595452023071469:=0
def tw8252004162648268676:=0
def tw733818442783845951:=0
def tw9123068125519314176:=0
def tw16422480576286900670:=0
def tw2364285184536939348:=0
def tw7843157046931043839:=0
def tw3382472797735225857:=0
def tw7080051115891084972:=0
def tw8346716331607672770:=0
def tw348035002510362241:=0
def tw15454135483123071779:=0
def tw16849922402243801701:=0
def tw2991707721482167235:=0
def tw9477089280121064961:=0
def tw16816882356120185491:=0
def tw12320953886051438553:=0
def tw3123927673056075585:=0
def tw16833215537391273451:=0
def tw18106960827406499098:=0
def tw4601877951713453161:=0
def tw7646747497493142529:=0
def tw10536117469084195673:=0
def tw246046510963162799:=0
def tw4183275409406123329:=0
def tw6983938462660793717:=0
def tw11915292578079629028:=0
def tw15363858248974554564:=0
def tw13820673239881421290:=0
def tw725697622620195703:=0
def tw2933205428731871128:=0
def tw2573246587903965622:=0
def tw12424479487288312662:=0
def tw17603067212860213606:=0
def tw5827379175997662224:=0
def tw16574886521506378990:=0
def tw12326986314159432818:=0
def tw10097786475272474970:=0
def tw12614559453115315631:=0
def tw2808402686431451775:=0
def tw3794420234774309990:=0
def tw14951303286031035754:=0
def tw6577840773596956155:=0
def tw9121238871029212383:=0
def tw192167375017996831:=0
def tw5139348355183796117:=0
def tw6615540074312620595:=0
def tw2157348180822058:=0
def tw14821539717498281620:=0
def tw1414389774538398573:=0
def tw3855293959090019865:=0
def tw15489400852856159283:=0
def tw15594961782023728079:=0
def tw16940093377290555400:=0
def tw8663698798170201709:=0
def tw10464360263966877135:=0
def tw5703931020283864870:=0
def tw15983501630049341193:=0
def tw3331465463044676950:=0
def tw7719305217572064820:=0
def tw2070066520460273009:=0
def tw5503931788501078985:=0
def tw8528725764273229764:=0
def tw12901171770327457787:=0
def tw3440017720228826661:=0
def tw4860321281125231541:=0
def tw17190593103300707932:=0
def tw13250656728264389877:=0
def tw2392880509921896969:=0
def tw5815382786467907931:=0
def tw4104227982706829901:=0
def tw7195629397599944118:=0
def tw12269739012702716498:=0
def tw7098112487511945563:=0
def tw15054953573702196870:=0
def tw9313374910853144974:=0
def tw3451685924128820583:=0
def tw5820407992669453950:=0
def tw16391067187676706591:=0
def tw946338425352637256:=0
def tw6023034123605788353:=0
def tw902225705842795866:=0
def tw7850233804738900031:=0
def tw11459952741631069625:=0
def tw11707502233206372887:=0
def tw1374868369537749721:=0
def tw7319066848022129521:=0
def tw3212374501345397785:=0
def tw1370622243504784523:=0
def tw18306208078960362506:=0
def tw18081433035581586522:=0
def tw11019636074590995491:=0
def tw12492447819808234970:=0
def tw15942642315642243847:=0
def tw4338536556321679586:=0
def tw8402961022242260422:=0
def tw14479623997512780510:=0
def tw14957632424914939063:=0
def tw17244414678098776918:=0
def tw17649739189465185882:=0
def tw4586235960833618933:=0
def tw11232034472661109394:=0
def tw10335872807127381110:=0
def tw14244949142322762952:=0
def tw11204912414989634640:=0
def tw13425004753295778208:=0
def tw15316330542607125076:=0
def tw15745845457155416397:=0
def tw3864570426890257485:=0
def tw12552900279018217457:=0
def tw16696888746890764078:=0
def tw5849001795895009281:=0
def tw15497615229784793686:=0
def tw8875524187470099626:=0
def tw9915862295001582085:=0
def tw2768194529942823463:=0
def tw5592914146161086765:=0
def tw5297980437026978071:=0
def tw11118075817621725197:=0
def tw12815281585606194947:=0
def tw4100664832040766032:=0
def tw12901130082206135815:=0
def tw9522556034421890134:=0
def tw8612001726840152564:=0
def tw17259217277344351531:=0
def tw5068492421476217665:=0
def tw2589740199358769944:=0
def tw17214418179999645805:=0
def tw4944055732217996504:=0
def tw17108318843987012698:=0
def tw6820002793303953071:=0
def tw10289454884722058194:=0
def tw1763172974766378511:=0
def tw6517658099935776912:=0
def tw5322857366342671734:=0
def tw12085570960958816844:=0
def tw13373257291162289429:=0
def tw10976576249138673064:=0
def tw12825436952687740831:=0
def tw13409369349093433288:=0
def tw3611793400767935498:=0
def tw12203090205695379331:=0
def tw11676664448442319229:=0
def tw13782774699461082784:=0
def tw16090144902466953256:=0
def tw2415386208969005848:=0
def tw13166345121151939512:=0
def tw7372592777781429669:=0
def tw1530994133724854280:=0
def tw10366086184211160537:=0
def tw17240292419623062367:=0
def tw7061654327198599565:=0
def tw5758102224765372051:=0
def tw1677224225374544567:=0
def tw13674717685582455077:=0
def tw11585991450946786325:=0
def tw2098415942512206995:=0
def tw16826198543230376290:=0
def tw1477007929010932631:=0
def tw10365318814370511497:=0
def tw12145312264932359561:=0
def tw6117920036517710721:=0
def tw8665166291896110604:=0
def tw17219136592805272115:=0
def tw3222128247479353737:=0
def tw6174948556024841229:=0
def tw16255391497474284287:=0
def tw6755535532686483137:=0
def tw8506948552026300394:=0
def tw10621993737829176605:=0
def tw9448817696542593921:=0
def tw11788604966325611646:=0
def tw4922479247308371125:=0
def tw10698760828749743505:=0
def tw5311809001369280799:=0
def tw4370707280393877341:=0
def tw12856174218963704777:=0
def tw2217453549263816256:=0
def tw13904577092215543357:=0
def tw16553726476585241556:=0
def tw4612274702109030002:=0
def tw11345636386471959657:=0
def tw65238297918737500:=0
def tw3630910801684438324:=0
def tw11792765706174707338:=0
def tw13391571598460803592:=0
def tw14163133339437443846:=0
def tw17303850076192189514:=0
def tw11726727452601382312:=0
def tw14316064434395783661:=0
def tw15923297792188925:=0
def tw12065037030277435848:=0
def tw543347726165977618:=0
def tw9099954399652740453:=0
def tw17699933216987020441:=0
def tw810083783231177578:=0
def tw6562497173120385214:=0
def tw18154023533455875115:=0
def tw174490511859528850:=0
def tw15224316125199773891:=0
def tw12034854282382038956:=0
def tw16422941857203024106:=0
def tw4999306453613772095:=0
def tw4162883604773394289:=0
def tw14109870222882018022:=0
def tw18284437255459628829:=0
def tw4353805677916592056:=0
def tw12300403122814645833:=0
def tw9421091075167251245:=0
def tw10848244337103600799:=0
def tw8768998239566772631:=0
def tw14532431006430093483:=0
def tw10608053561449970067:=0
def tw10761353468867092888:=0
def tw18199388925602345975:=0
def tw10713489764052009791:=0
def tw9276875358714695991:=0
def tw17658960076246462722:=0
def tw1685643136159158599:=0
def tw1872057211973270877:=0
def tw13315673272035735038:=0
def tw3622464104746027641:=0
def tw6015679619006000244:=0
def tw9389928042132483269:=0
def tw5448115361129446373:=0
def tw7555436704685425866:=0
def tw12407724826311102403:=0
def tw6608878636574268180:=0
def tw8605978557360180675:=0
def tw11081206759881657403:=0
def tw10323307890113115597:=0
def tw2773589489848057118:=0
def tw10791198088286173358:=0
def tw16096325892646891318:=0
def tw1414750499654952284:=0
def tw7344979182238557467:=0
def tw1806332564314406500:=0
def tw1190061197363341383:=0
def tw5752325072184709537:=0
def tw5316358952724549325:=0
def tw14350630039533475904:=0
def tw14174534545375712748:=0
def tw13631765816956718678:=0
def tw4023549947995211054:=0
def tw6655174569849993427:=0
def tw15635976494354617530:=0
def tw12493300655432756886:=0
def tw16692897884646673511:=0
def tw12791515009377299379:=0
def tw302310094970635149:=0
def tw10799252878921158342:=0
def tw10569334031123372638:=0
def tw17370108580902026251:=0
def tw15627371894376987085:=0
def tw14097112784921774495:=0
def tw2719091921649599404:=0
def tw1851317048376836403:=0
def tw17480609271163799822:=0
def tw11742234133712005465:=0
def tw12768882156553660979:=0
def tw2417698509427943062:=0
def tw8213273795508093927:=0
def tw8072603692756475405:=0
def tw17183930091708634903:=0
def tw14090836135199840797:=0
def tw10772234367354137380:=0
def tw2860068292091664555:=0
def tw3553687191963031972:=0
def tw16741615630690740123:=0
def tw7497871715413929981:=0
def tw3932116638073301700:=0
def tw17855792065409904557:=0
def tw9887497920060242602:=0
def tw12771238415881275590:=0
def tw14822062940802229312:=0
def tw935175210679956183:=0
def tw11303632053450485720:=0
def tw11411146849061282986:=0
def tw11505483183372484850:=0
def tw1265729475159562397:=0
def tw4917499401243523676:=0
def tw8289866704281677188:=0
def tw9753333796693604223:=0
def tw12469921799651073623:=0
def tw18256348092416587537:=0
def tw10408768745763524551:=0
def tw1606685178979568169:=0
def tw9632431016366370242:=0
def tw11905778083513541816:=0
def tw16745414126587433523:=0
def tw2689020443677723952:=0
def tw16378557485171132883:=0
def tw5663001357458668871:=0
def tw862020635925406893:=0
def tw12019243477578127715:=0
def tw16432585259398568698:=0
def tw6751311404057769947:=0
def tw4583137816977631599:=0
def tw8736554970208390842:=0
def tw8595133950130008023:=0
def tw12960754440751403786:=0
def tw14880407905663903270:=0
def tw9554910205692294207:=0
def tw7226327349011338727:=0
def tw2741435678372679442:=0
def tw17874105001974102552:=0
def tw16018815704059546306:=0
def tw5077059659384483071:=0
def tw6565423129214218545:=0
def tw417786571822335406:=0
def tw14741108687203457662:=0
def tw8796975655159682943:=0
def tw1652528404176651715:=0
def tw7271591224298495024:=0
def tw2436431000977267656:=0
def tw18101852727663132063:=0
def tw7318701942351680587:=0
def tw4469011553518479775:=0
def tw18429728084275855348:=0
def tw2365888281785852774:=0
def tw11063314916313992491:=0
def tw304723787662637285:=0
def tw8139789896282137519:=0
def tw18101002756621538693:=0
def tw14306522794817560111:=0
def tw4134015613908186285:=0
def tw11717718783481264881:=0
def tw16067508011324367440:=0
def tw13254469239707916311:=0
def tw10914214560415505305:=0
def tw768484396032604524:=0
def tw6941255389235314829:=0
def tw12972346147327668392:=0
def tw7781407525808010815:=0
def tw2348102895753362857:=0
def tw9460194544829809250:=0
def tw10725436863971725339:=0
def tw7555343996585691719:=0
def tw16126123521867879434:=0
def tw17384235626788464480:=0
def tw7877204755275101566:=0
def tw786281543750214865:=0
def tw11331126293134005471:=0
def tw8876383861774154084:=0
def tw14921310534529010353:=0
def tw10145578682000413958:=0
def tw1504750994277879269:=0
def tw17223171234929073048:=0
def tw9084872586382189887:=0
def tw9319039671716650354:=0
def tw1969566988389894147:=0
def tw11756448082732615625:=0
def tw978664390576862644:=0
def tw12079979418491733130:=0
def tw16986987806348170564:=0
def tw3039622023772294935:=0
def tw8898309278149679800:=0
def tw3917430408738092216:=0
def tw808066799382212774:=0
def tw5921721320443803306:=0
def tw6324872710629662726:=0
def tw14983538703914644517:=0
def tw11890759975400601910:=0
def tw12333935199211454719:=0
def tw11359587073813910427:=0
def tw11063763383067245884:=0
def tw16113093599376097644:=0
def tw2419723614749139615:=0
def tw16443435331085624180:=0
def tw6703920713936518609:=0
def tw645388809580193157:=0
def tw16703711393135507219:=0
def tw3249585469704990247:=0
def tw16534634512536639720:=0
def tw5396705536976112909:=0
def tw8421367854744807774:=0
def tw6670926838075149368:=0
def tw16953482642844811728:=0
def tw2509806581418943318:=0
def tw16964296983153563109:=0
def tw2361432480717821198:=0
def tw1572725608110590425:=0
def tw2974255632836531874:=0
def tw9010044105124439896:=0
def tw5336078972090275827:=0
def tw4784311994409695386:=0
def tw1072475221141284331:=0
def tw11286597671744680233:=0
def tw10486057370054374033:=0
def tw11296406019549412564:=0
def tw14609638563484348014:=0
def tw8688369476082720607:=0
def tw14560081808205833296:=0
def tw7010538637413800332:=0
def tw2869874102640025338:=0
def tw10949690531467831086:=0
def tw9748917975195999972:=0
def tw9006379369606114079:=0
def tw5500681294742562701:=0
def tw3289279238601636787:=0
def tw14895283656156413580:=0
def tw5581730929137583751:=0
def tw6444083614411513782:=0
def tw12002664702976369659:=0
def tw16320532313346082112:=0
def tw3382948930096232681:=0
def tw3023308347173991434:=0
def tw3988963170400019538:=0
def tw16748237276312909835:=0
def tw14456471843896629881:=0
def tw4275339648299462233:=0
def tw14424083821364656468:=0
def tw1253223600121904713:=0
def tw17068254914176312810:=0
def tw4175703231944639695:=0
def tw1929545295297050612:=0
def tw7716141832593399672:=0
def tw617904734044290878:=0
def tw4143964878929076912:=0
def tw7852999631515540100:=0
def tw12092754305949224744:=0
def tw12546183740140469406:=0
def tw191692142656874859:=0
def tw18302116561647795142:=0
def tw3991222010298574407:=0
def tw10481803460574276809:=0
def tw7507893146168519279:=0
def tw15171618813457922416:=0
def tw430851749696491022:=0
def tw15874339600238728200:=0
def tw12086249337941158707:=0
def tw3671492400923984596:=0
def tw8625011382820502548:=0
def tw4843668711641524589:=0
def tw17657705668618097939:=0
def tw14644007508754412818:=0
def tw18064426659213157310:=0
def tw13477519613162151066:=0
def tw6818501107979168719:=0
def tw10467460115078733087:=0
def tw8120930157542244968:=0
def tw3551294855226417065:=0
def tw17881082735858379075:=0
def tw12044675849953418683:=0
def tw531138411079489546:=0
def tw17684270718878995155:=0
def tw6008850696382573407:=0
def tw10067458875048418609:=0
def tw16246534998928687957:=0
def tw14492850709701833731:=0
def tw8217092952350685134:=0
def tw14239904793433785479:=0
def tw10438390690592258513:=0
def tw2201968835888164823:=0
def tw6683404145333555637:=0
def tw15893641926063677801:=0
def tw13012307973616652263:=0
def tw5749380933446053809:=0
def tw15445656802639396521:=0
def tw16957795489189662572:=0
def tw6402938916351312888:=0
def tw16224753118594553167:=0
def tw13521113328741417433:=0
def tw4120784296093383960:=0
def tw5078429406429903988:=0
def tw10608232448230109377:=0
def tw2740257208166126704:=0
def tw16974939901768959706:=0
def tw4680117226459277068:=0
def tw14107503388724822382:=0
def tw364352387210680526:=0
def tw6810226245560361461:=0
def tw4126233931427118502:=0
def tw10437487604546177272:=0
def tw5649401189727390014:=0
def tw12239511971242975141:=0
def tw15428498268688696078:=0
def tw11939522306057343373:=0
def tw3070949297864240449:=0
def tw6043505206176376430:=0
def tw1766081612807778597:=0
def tw10573858598724697273:=0
def tw4550316120221658300:=0
def tw819912838040418416:=0
def tw2863045389724600587:=0
def tw16540315541710505595:=0
def tw11344176569866076522:=0
def tw13674762618499072823:=0
def tw18446380066493602468:=0
def tw15404793498807892942:=0
def tw11997986581933568686:=0
def tw14029942565618629389:=0
def tw18083191600746206:=0
def tw13411290392845330152:=0
def tw8681093403347358153:=0
def tw10926685546820730227:=0
def tw10217572313089564456:=0
def tw2653533109571363313:=0
def tw10754178044367317537:=0
def tw1271012158247649247:=0
def tw11344813090255099407:=0
def tw7191690494555721712:=0
def tw9242202126839797351:=0
def tw6061691520969192021:=0
def tw14313815207439174551:=0
def tw12516024275297304683:=0
def tw5424965572320874663:=0
def tw6065033695338874287:=0
def tw10673043005682155238:=0
def tw11935635430834088920:=0
def tw2480390141106384073:=0
def tw2611925709719751768:=0
def tw14628105534126479549:=0
def tw1005146768970879131:=0
def tw5262735838339016872:=0
def tw7941594888595129051:=0
def tw7679012472856342445:=0
def tw13993961462493358031:=0
def tw4818492409072391182:=0
def tw12704449296466190199:=0
def tw4521643556748785714:=0
end PySem.W.Fast
namespace S06
open PySem L2 XL
theorem walk {l:PySem.W.OpenLaw} {q:Program} {loose:List Str} {XP:(Str→Option Value)→Heap→Prop} {YP:World→Heap→Prop} {d:DefRec} {K:Params→PySem.W.Frag} (hn:l.most = some 63) (hdf:d.params.defaults = [])
    (hY:∀ (w:World) (h:Heap),YP w h→(K w.params).In h)
    (F:∀ (w:World) (mg:Str→Option Value) (fa:Addr) (h:Heap),(K w.params).In h→h.Ns mainGlobals mg→mg d.name = some (.ref fa) →
      ∃ fd:FuncData,(∀ (s:Shared) (u:Value),BindsTo s fd ⟨[u],[]⟩ [("_law_script",u)])∧∀ base:Heap,(K w.params).In base→base.Ns mainGlobals mg→FnOk true l.prog w (K w.params) mg base (CXo l.prog w) 9 fa fd ["_law_script"] (xg9 (K w.params))) :
    PySem.W.WalkO q loose XP YP l.row.toRowW d [] (fun f vs=>PySem.call f vs) :=
  L2.walk_of (q0:=true) (n:=63) (k:=9) (x:="_law_script") (CX:=fun w=>CXo l.prog w) (sp:=fun w=>xg9 (K w.params)) hn (by decide) hdf ⟨fun _=>rfl,by decide,by decide⟩ hY F (fun _ _ a ns hl _ hS=>⟨a,ns,rfl,hS,hl,fun _=>rfl⟩)
    fun w H s e s' z=>by obtain ⟨_,_,_,_,_,_,_,_,_,_,_,_,_,_,q⟩:=z; exact q
theorem all_mk {l:PySem.W.OpenLaw} {w:World} {K:PySem.W.Frag} {h:Heap} {mg:Str→Option Value} {fa:Addr} (hfa:mg "law" = some (.ref fa)) (TT:∃ t,Txt w K mg t) :
    ∃ fd:FuncData,(∀ (s:Shared) (v:Value),BindsTo s fd ⟨[v],[]⟩ [("_law_script",v)])∧∀ base:Heap,K.In base→base.Ns mainGlobals mg→FnOk true l.prog w K mg base (CXo l.prog w) 9 fa fd ["_law_script"] (xg9 K):=by
  obtain ⟨t,T⟩:=TT
  have e:=hfa.symm.trans T.g_law
  cases e
  refine ⟨t.d_law,fun s v=>?_,fun base _ _=>xoz T⟩
  obtain ⟨oc,od,kV,doc,pm,an,cdv,ct,osl,e,lk,hcd⟩:=T.F_law.ex
  rw [e]
  exact .of_eq rfl
end S06
open PySem PySem.W PyProof.Rows
set_option maxRecDepth 100000 in
set_option maxHeartbeats 0 in
theorem PySem.Challenge.cw_rimnotes_k06_what_a_point_may_have_holds : PySem.Challenge.rw_rimnotes_k06_what_a_point_may_have.Holds := by
  w_on; o_law; k_head; (case hw=>w_witness2)
  k_fill
  refine S06.walk (l:=PySem.Challenge.rw_rimnotes_k06_what_a_point_may_have) rfl rfl (fun w h Y=>PySem.W.kIn_of Y) ?F
  case F =>
    intro w mg fa h KX G hmg
    refine S06.all_mk (h:=h) hmg ?TT
    refine' S06.txt_mk (w:=w) KX G ?g_a0 ?g_a2 ?g_ba ?g_w ?g_a7 ?g_a5 ?g_a6 ?g_l ?g_a8 ?g_b ?g_n ?g_t ?g_ai ?g_a9 ?g_bb ?g_a3 ?g_au ?g_av ?g_aw ?g_ax ?g_ac ?g_a4 ?g_be ?g_ay ?g_aq ?g_j ?a_ak ?l_ak ?c_ak ?k_ak ?i_ak ?a_af ?l_af ?c_af ?k_af ?i_af ?a_r ?l_r ?c_r ?k_r ?i_r ?a_ag ?l_ag ?c_ag ?k_ag ?i_ag ?a_al ?l_al ?c_al ?k_al ?i_al ?a_ao ?l_ao ?c_ao ?k_ao ?i_ao ?a_am ?l_am ?c_am ?k_am ?i_am ?a_o ?l_o ?c_o ?k_o ?i_o ?a_k ?l_k ?c_k ?k_k ?i_k ?a_at ?l_at ?c_at ?k_at ?i_at ?a_aa ?l_aa ?c_aa ?k_aa ?i_aa ?a_az ?l_az ?c_az ?k_az ?i_az ?a_ah ?l_ah ?c_ah ?k_ah ?i_ah ?a_q ?l_q ?c_q ?k_q ?i_q ?t_q ?a_ab ?l_ab ?c_ab ?k_ab ?i_ab ?a_f ?l_f ?c_f ?k_f ?i_f ?a_h ?l_h ?c_h ?k_h ?i_h ?a_m ?l_m ?c_m ?k_m ?i_m ?a_u ?l_u ?c_u ?k_u ?i_u ?a_i ?l_i ?c_i ?k_i ?i_i ?a_z ?l_z ?c_z ?k_z ?i_z ?a_p ?l_p ?c_p ?k_p ?i_p ?a_g ?l_g ?c_g ?k_g ?i_g ?a_d ?l_d ?c_d ?k_d ?i_d ?a_e ?l_e ?c_e ?k_e ?i_e ?a_a ?l_a ?c_a ?k_a ?i_a ?a_c ?l_c ?c_c ?k_c ?i_c ?a_as ?l_as ?c_as ?k_as ?i_as ?a_x ?l_x ?c_x ?k_x ?i_x ?a_ar ?l_ar ?c_ar ?k_ar ?i_ar ?a_s ?l_s ?c_s ?k_s ?i_s ?a_ad ?l_ad ?c_ad ?k_ad ?i_ad ?a_aj ?l_aj ?c_aj ?k_aj ?i_aj ?a_y ?l_y ?c_y ?k_y ?i_y ?a_an ?l_an ?c_an ?k_an ?i_an ?a_ap ?l_ap ?c_ap ?k_ap ?i_ap ?a_v ?l_v ?c_v ?k_v ?i_v ?a_ae ?l_ae ?c_ae ?k_ae ?i_ae ?a_law ?l_law ?c_law ?k_law ?i_law ?kc_a0 ?ov_a0 ?hd_a0 ?sa_a0 ?ga_a0 ?gh_a0 ?ca_a0 ?mk_a0 ?kc_a2 ?ov_a2 ?hd_a2 ?sa_a2 ?ga_a2 ?gh_a2 ?ca_a2 ?mk_a2 ?kc_ba ?ov_ba ?hd_ba ?sa_ba ?ga_ba ?gh_ba ?ca_ba ?mk_ba ?kc_w ?ov_w ?hd_w ?sa_w ?ga_w ?gh_w ?ca_w ?mk_w ?kc_a7 ?ov_a7 ?hd_a7 ?sa_a7 ?ga_a7 ?gh_a7 ?ca_a7 ?mk_a7 ?kc_a5 ?ov_a5 ?hd_a5 ?sa_a5 ?ga_a5 ?gh_a5 ?ca_a5 ?mk_a5 ?kc_a6 ?ov_a6 ?hd_a6 ?sa_a6 ?ga_a6 ?gh_a6 ?ca_a6 ?mk_a6 ?kc_l ?ov_l ?hd_l ?sa_l ?ga_l ?gh_l ?ca_l ?mk_l ?kc_a8 ?ov_a8 ?hd_a8 ?sa_a8 ?ga_a8 ?gh_a8 ?ca_a8 ?mk_a8 ?kc_b ?ov_b ?hd_b ?sa_b ?ga_b ?gh_b ?ca_b ?mk_b ?kc_n ?ov_n ?hd_n ?sa_n ?ga_n ?gh_n ?ca_n ?mk_n ?kc_t ?ov_t ?hd_t ?sa_t ?ga_t ?gh_t ?ca_t ?mk_t ?kc_ai ?ov_ai ?hd_ai ?sa_ai ?ga_ai ?gh_ai ?ca_ai ?mk_ai ?kc_a9 ?ov_a9 ?hd_a9 ?sa_a9 ?ga_a9 ?gh_a9 ?ca_a9 ?mk_a9 ?kc_bb ?ov_bb ?hd_bb ?sa_bb ?ga_bb ?gh_bb ?ca_bb ?mk_bb ?kc_a3 ?ov_a3 ?hd_a3 ?sa_a3 ?ga_a3 ?gh_a3 ?ca_a3 ?mk_a3 ?kc_au ?ov_au ?hd_au ?sa_au ?ga_au ?gh_au ?ca_au ?mk_au ?kc_av ?ov_av ?hd_av ?sa_av ?ga_av ?gh_av ?ca_av ?mk_av ?kc_aw ?ov_aw ?hd_aw ?sa_aw ?ga_aw ?gh_aw ?ca_aw ?mk_aw ?kc_ax ?ov_ax ?hd_ax ?sa_ax ?ga_ax ?gh_ax ?ca_ax ?mk_ax ?kc_ac ?ov_ac ?hd_ac ?sa_ac ?ga_ac ?gh_ac ?ca_ac ?mk_ac ?kc_a4 ?ov_a4 ?hd_a4 ?sa_a4 ?ga_a4 ?gh_a4 ?ca_a4 ?mk_a4 ?kc_be ?pg_be ?hd_be ?po_be ?sa_be ?mk_be ?ca_be ?mo_be ?kc_ay ?pg_ay ?hd_ay ?po_ay ?sa_ay ?mk_ay ?ca_ay ?mo_ay ?a_LeftSide_init ?kc_aq ?pg_aq ?hd_aq ?po_aq ?sa_aq ?mk_aq ?ca_aq ?mo_aq ?a_RightSide_init ?kc_j ?pg_j ?hd_j ?po_j ?sa_j ?mk_j ?ca_j ?mo_j ?cg ?ct ?n_bi ?n_bd ?n_bc ?n_bg ?n_bf ?n_ed ?n_d3 ?n_c6 ?n_d4 ?n_ee ?n_d0 ?n_ex ?n_ey ?n_ep ?n_ef ?n_eg ?n_eh ?n_eq ?n_d5 ?n_en ?n_eo ?n_dr ?n_do ?n_bs ?n_dp ?n_ds ?n_c7 ?n_d6 ?n_d7 ?n_ei ?n_d8 ?n_c8 ?n_d9 ?n_ej ?n_d1 ?n_ez ?n_e0 ?n_er ?n_dq ?n_ek ?n_el ?n_es ?n_ea ?n_e2 ?n_e3 ?n_eb ?n_et ?n_eu ?n_ev ?n_e1 ?n_em ?n_e4 ?n_e5 ?n_ew ?n_bz ?n_ec ?n_abs ?n_bool ?n_enumerate ?n_int ?n_isinstance ?n_len ?n_list ?n_max ?n_min ?n_range ?n_sorted ?n_str ?n_tuple ?kit_cm ?kit_cn ?kit_b7 ?kit_b0 ?kit_b1 ?kit_b8 ?kit_bl ?kit_b9 ?kit_ca ?kit_co ?kit_c9 ?kit_cb ?kit_cp ?kany_l ?kitv_l ?mro_l ?kit_da ?kit_db ?kit_cq ?kit_cc ?kit_cd ?kit_cr ?kit_bt ?kit_cs ?kit_ct ?kit_dc ?kit_dt ?kit_cu ?kit_dd ?kany_w ?kitv_w ?mro_w ?kit_bu ?kit_bv ?kit_bm ?kit_bj ?kit_bk ?kit_bn ?kit_bh ?kit_bo ?kit_bp ?kit_bw ?kit_b2 ?kit_bq ?kit_bx ?kany_b ?kitv_b ?mro_b ?kit_cv ?kit_cw ?kit_ce ?kit_b3 ?kit_b4 ?kit_cf ?kit_br ?kit_cg ?kit_ch ?kit_cx ?kit_de ?kit_ci ?kit_cy ?kany_n ?kitv_n ?mro_n ?kit_df ?kit_dg ?kit_cz ?kit_cj ?kit_ck ?kit_c0 ?kit_by ?kit_c1 ?kit_c2 ?kit_dh ?kit_du ?kit_c3 ?kit_di ?kany_t ?kitv_t ?mro_t ?kit_dv ?kit_dw ?kit_dj ?kit_c4 ?kit_c5 ?kit_dk ?kit_b5 ?kit_dl ?kit_dm ?kit_dx ?kit_d2 ?kit_dn ?kit_dy ?kany_ai ?kitv_ai ?mro_ai ?v_dz ?v_b6 ?v_cl ?g_a1 ?l_a1 ?ns_a1
    (case g_a0=>k_is)
    (case g_a2=>k_is)
    (case g_ba=>k_is)
    (case g_w=>k_is)
    (case g_a7=>k_is)
    (case g_a5=>k_is)
    (case g_a6=>k_is)
    (case g_l=>k_is)
    (case g_a8=>k_is)
    (case g_b=>k_is)
    (case g_n=>k_is)
    (case g_t=>k_is)
    (case g_ai=>k_is)
    (case g_a9=>k_is)
    (case g_bb=>k_is)
    (case g_a3=>k_is)
    (case g_au=>k_is)
    (case g_av=>k_is)
    (case g_aw=>k_is)
    (case g_ax=>k_is)
    (case g_ac=>k_is)
    (case g_a4=>k_is)
    (case g_be=>k_is)
    (case g_ay=>k_is)
    (case g_aq=>k_is)
    (case g_j=>k_is)
    (case a_ak=>k_is)
    (case l_ak=>k_is)
    (case c_ak=>k_is)
    (case k_ak=>k_is)
    (case i_ak=>k_is)
    (case a_af=>k_is)
    (case l_af=>k_is)
    (case c_af=>k_is)
    (case k_af=>k_is)
    (case i_af=>k_is)
    (case a_r=>k_is)
    (case l_r=>k_is)
    (case c_r=>k_is)
    (case k_r=>k_is)
    (case i_r=>k_is)
    (case a_ag=>k_is)
    (case l_ag=>k_is)
    (case c_ag=>k_is)
    (case k_ag=>k_is)
    (case i_ag=>k_is)
    (case a_al=>k_is)
    (case l_al=>k_is)
    (case c_al=>k_is)
    (case k_al=>k_is)
    (case i_al=>k_is)
    (case a_ao=>k_is)
    (case l_ao=>k_is)
    (case c_ao=>k_is)
    (case k_ao=>k_is)
    (case i_ao=>k_is)
    (case a_am=>k_is)
    (case l_am=>k_is)
    (case c_am=>k_is)
    (case k_am=>k_is)
    (case i_am=>k_is)
    (case a_o=>k_is)
    (case l_o=>k_is)
    (case c_o=>k_is)
    (case k_o=>k_is)
    (case i_o=>k_is)
    (case a_k=>k_is)
    (case l_k=>k_is)
    (case c_k=>k_is)
    (case k_k=>k_is)
    (case i_k=>k_is)
    (case a_at=>k_is)
    (case l_at=>k_is)
    (case c_at=>k_is)
    (case k_at=>k_is)
    (case i_at=>k_is)
    (case a_aa=>k_is)
    (case l_aa=>k_is)
    (case c_aa=>k_is)
    (case k_aa=>k_is)
    (case i_aa=>k_is)
    (case a_az=>k_is)
    (case l_az=>k_is)
    (case c_az=>k_is)
    (case k_az=>k_is)
    (case i_az=>k_is)
    (case a_ah=>k_is)
    (case l_ah=>k_is)
    (case c_ah=>k_is)
    (case k_ah=>k_is)
    (case i_ah=>k_is)
    (case a_q=>k_is)
    (case l_q=>k_is)
    (case c_q=>k_is)
    (case k_q=>k_is)
    (case i_q=>k_is)
    (case t_q=>k_is)
    (case a_ab=>k_is)
    (case l_ab=>k_is)
    (case c_ab=>k_is)
    (case k_ab=>k_is)
    (case i_ab=>k_is)
    (case a_f=>k_is)
    (case l_f=>k_is)
    (case c_f=>k_is)
    (case k_f=>k_is)
    (case i_f=>k_is)
    (case a_h=>k_is)
    (case l_h=>k_is)
    (case c_h=>k_is)
    (case k_h=>k_is)
    (case i_h=>k_is)
    (case a_m=>k_is)
    (case l_m=>k_is)
    (case c_m=>k_is)
    (case k_m=>k_is)
    (case i_m=>k_is)
    (case a_u=>k_is)
    (case l_u=>k_is)
    (case c_u=>k_is)
    (case k_u=>k_is)
    (case i_u=>k_is)
    (case a_i=>k_is)
    (case l_i=>k_is)
    (case c_i=>k_is)
    (case k_i=>k_is)
    (case i_i=>k_is)
    (case a_z=>k_is)
    (case l_z=>k_is)
    (case c_z=>k_is)
    (case k_z=>k_is)
    (case i_z=>k_is)
    (case a_p=>k_is)
    (case l_p=>k_is)
    (case c_p=>k_is)
    (case k_p=>k_is)
    (case i_p=>k_is)
    (case a_g=>k_is)
    (case l_g=>k_is)
    (case c_g=>k_is)
    (case k_g=>k_is)
    (case i_g=>k_is)
    (case a_d=>k_is)
    (case l_d=>k_is)
    (case c_d=>k_is)
    (case k_d=>k_is)
    (case i_d=>k_is)
    (case a_e=>k_is)
    (case l_e=>k_is)
    (case c_e=>k_is)
    (case k_e=>k_is)
    (case i_e=>k_is)
    (case a_a=>k_is)
    (case l_a=>k_is)
    (case c_a=>k_is)
    (case k_a=>k_is)
    (case i_a=>k_is)
    (case a_c=>k_is)
    (case l_c=>k_is)
    (case c_c=>k_is)
    (case k_c=>k_is)
    (case i_c=>k_is)
    (case a_as=>k_is)
    (case l_as=>k_is)
    (case c_as=>k_is)
    (case k_as=>k_is)
    (case i_as=>k_is)
    (case a_x=>k_is)
    (case l_x=>k_is)
    (case c_x=>k_is)
    (case k_x=>k_is)
    (case i_x=>k_is)
    (case a_ar=>k_is)
    (case l_ar=>k_is)
    (case c_ar=>k_is)
    (case k_ar=>k_is)
    (case i_ar=>k_is)
    (case a_s=>k_is)
    (case l_s=>k_is)
    (case c_s=>k_is)
    (case k_s=>k_is)
    (case i_s=>k_is)
    (case a_ad=>k_is)
    (case l_ad=>k_is)
    (case c_ad=>k_is)
    (case k_ad=>k_is)
    (case i_ad=>k_is)
    (case a_aj=>k_is)
    (case l_aj=>k_is)
    (case c_aj=>k_is)
    (case k_aj=>k_is)
    (case i_aj=>k_is)
    (case a_y=>k_is)
    (case l_y=>k_is)
    (case c_y=>k_is)
    (case k_y=>k_is)
    (case i_y=>k_is)
    (case a_an=>k_is)
    (case l_an=>k_is)
    (case c_an=>k_is)
    (case k_an=>k_is)
    (case i_an=>k_is)
    (case a_ap=>k_is)
    (case l_ap=>k_is)
    (case c_ap=>k_is)
    (case k_ap=>k_is)
    (case i_ap=>k_is)
    (case a_v=>k_is)
    (case l_v=>k_is)
    (case c_v=>k_is)
    (case k_v=>k_is)
    (case i_v=>k_is)
    (case a_ae=>k_is)
    (case l_ae=>k_is)
    (case c_ae=>k_is)
    (case k_ae=>k_is)
    (case i_ae=>k_is)
    (case a_law=>k_is)
    (case l_law=>k_is)
    (case c_law=>k_is)
    (case k_law=>k_is)
    (case i_law=>k_is)
    (case kc_a0=>k_is)
    (case ov_a0=>kernel_rfl)
    (case hd_a0=>k_is)
    (case sa_a0=>k_is)
    (case ga_a0=>k_is)
    (case gh_a0=>k_is)
    (case ca_a0=>k_is)
    (case mk_a0=>first | k_is | kernel_rfl)
    (case kc_a2=>k_is)
    (case ov_a2=>kernel_rfl)
    (case hd_a2=>k_is)
    (case sa_a2=>k_is)
    (case ga_a2=>k_is)
    (case gh_a2=>k_is)
    (case ca_a2=>k_is)
    (case mk_a2=>first | k_is | kernel_rfl)
    (case kc_ba=>k_is)
    (case ov_ba=>kernel_rfl)
    (case hd_ba=>k_is)
    (case sa_ba=>k_is)
    (case ga_ba=>k_is)
    (case gh_ba=>k_is)
    (case ca_ba=>k_is)
    (case mk_ba=>first | k_is | kernel_rfl)
    (case kc_w=>k_is)
    (case ov_w=>kernel_rfl)
    (case hd_w=>k_is)
    (case sa_w=>k_is)
    (case ga_w=>k_is)
    (case gh_w=>k_is)
    (case ca_w=>k_is)
    (case mk_w=>first | k_is | kernel_rfl)
    (case kc_a7=>k_is)
    (case ov_a7=>kernel_rfl)
    (case hd_a7=>k_is)
    (case sa_a7=>k_is)
    (case ga_a7=>k_is)
    (case gh_a7=>k_is)
    (case ca_a7=>k_is)
    (case mk_a7=>first | k_is | kernel_rfl)
    (case kc_a5=>k_is)
    (case ov_a5=>kernel_rfl)
    (case hd_a5=>k_is)
    (case sa_a5=>k_is)
    (case ga_a5=>k_is)
    (case gh_a5=>k_is)
    (case ca_a5=>k_is)
    (case mk_a5=>first | k_is | kernel_rfl)
    (case kc_a6=>k_is)
    (case ov_a6=>kernel_rfl)
    (case hd_a6=>k_is)
    (case sa_a6=>k_is)
    (case ga_a6=>k_is)
    (case gh_a6=>k_is)
    (case ca_a6=>k_is)
    (case mk_a6=>first | k_is | kernel_rfl)
    (case kc_l=>k_is)
    (case ov_l=>kernel_rfl)
    (case hd_l=>k_is)
    (case sa_l=>k_is)
    (case ga_l=>k_is)
    (case gh_l=>k_is)
    (case ca_l=>k_is)
    (case mk_l=>first | k_is | kernel_rfl)
    (case kc_a8=>k_is)
    (case ov_a8=>kernel_rfl)
    (case hd_a8=>k_is)
    (case sa_a8=>k_is)
    (case ga_a8=>k_is)
    (case gh_a8=>k_is)
    (case ca_a8=>k_is)
    (case mk_a8=>first | k_is | kernel_rfl)
    (case kc_b=>k_is)
    (case ov_b=>kernel_rfl)
    (case hd_b=>k_is)
    (case sa_b=>k_is)
    (case ga_b=>k_is)
    (case gh_b=>k_is)
    (case ca_b=>k_is)
    (case mk_b=>first | k_is | kernel_rfl)
    (case kc_n=>k_is)
    (case ov_n=>kernel_rfl)
    (case hd_n=>k_is)
    (case sa_n=>k_is)
    (case ga_n=>k_is)
    (case gh_n=>k_is)
    (case ca_n=>k_is)
    (case mk_n=>first | k_is | kernel_rfl)
    (case kc_t=>k_is)
    (case ov_t=>kernel_rfl)
    (case hd_t=>k_is)
    (case sa_t=>k_is)
    (case ga_t=>k_is)
    (case gh_t=>k_is)
    (case ca_t=>k_is)
    (case mk_t=>first | k_is | kernel_rfl)
    (case kc_ai=>k_is)
    (case ov_ai=>kernel_rfl)
    (case hd_ai=>k_is)
    (case sa_ai=>k_is)
    (case ga_ai=>k_is)
    (case gh_ai=>k_is)
    (case ca_ai=>k_is)
    (case mk_ai=>first | k_is | kernel_rfl)
    (case kc_a9=>k_is)
    (case ov_a9=>kernel_rfl)
    (case hd_a9=>k_is)
    (case sa_a9=>k_is)
    (case ga_a9=>k_is)
    (case gh_a9=>k_is)
    (case ca_a9=>k_is)
    (case mk_a9=>first | k_is | kernel_rfl)
    (case kc_bb=>k_is)
    (case ov_bb=>kernel_rfl)
    (case hd_bb=>k_is)
    (case sa_bb=>k_is)
    (case ga_bb=>k_is)
    (case gh_bb=>k_is)
    (case ca_bb=>k_is)
    (case mk_bb=>first | k_is | kernel_rfl)
    (case kc_a3=>k_is)
    (case ov_a3=>kernel_rfl)
    (case hd_a3=>k_is)
    (case sa_a3=>k_is)
    (case ga_a3=>k_is)
    (case gh_a3=>k_is)
    (case ca_a3=>k_is)
    (case mk_a3=>first | k_is | kernel_rfl)
    (case kc_au=>k_is)
    (case ov_au=>kernel_rfl)
    (case hd_au=>k_is)
    (case sa_au=>k_is)
    (case ga_au=>k_is)
    (case gh_au=>k_is)
    (case ca_au=>k_is)
    (case mk_au=>first | k_is | kernel_rfl)
    (case kc_av=>k_is)
    (case ov_av=>kernel_rfl)
    (case hd_av=>k_is)
    (case sa_av=>k_is)
    (case ga_av=>k_is)
    (case gh_av=>k_is)
    (case ca_av=>k_is)
    (case mk_av=>first | k_is | kernel_rfl)
    (case kc_aw=>k_is)
    (case ov_aw=>kernel_rfl)
    (case hd_aw=>k_is)
    (case sa_aw=>k_is)
    (case ga_aw=>k_is)
    (case gh_aw=>k_is)
    (case ca_aw=>k_is)
    (case mk_aw=>first | k_is | kernel_rfl)
    (case kc_ax=>k_is)
    (case ov_ax=>kernel_rfl)
    (case hd_ax=>k_is)
    (case sa_ax=>k_is)
    (case ga_ax=>k_is)
    (case gh_ax=>k_is)
    (case ca_ax=>k_is)
    (case mk_ax=>first | k_is | kernel_rfl)
    (case kc_ac=>k_is)
    (case ov_ac=>kernel_rfl)
    (case hd_ac=>k_is)
    (case sa_ac=>k_is)
    (case ga_ac=>k_is)
    (case gh_ac=>k_is)
    (case ca_ac=>k_is)
    (case mk_ac=>first | k_is | kernel_rfl)
    (case kc_a4=>k_is)
    (case ov_a4=>kernel_rfl)
    (case hd_a4=>k_is)
    (case sa_a4=>k_is)
    (case ga_a4=>k_is)
    (case gh_a4=>k_is)
    (case ca_a4=>k_is)
    (case mk_a4=>first | k_is | kernel_rfl)
    (case kc_be=>k_is)
    (case pg_be=>k_is)
    (case hd_be=>k_is)
    (case po_be=>k_is)
    (case sa_be=>k_is)
    (case mk_be=>first | k_is | kernel_rfl)
    (case ca_be=>k_is)
    (case mo_be=>k_is)
    (case kc_ay=>k_is)
    (case pg_ay=>k_is)
    (case hd_ay=>k_is)
    (case po_ay=>k_is)
    (case sa_ay=>k_is)
    (case mk_ay=>first | k_is | kernel_rfl)
    (case ca_ay=>k_is)
    (case mo_ay=>k_is)
    (case a_LeftSide_init=>k_is)
    (case kc_aq=>k_is)
    (case pg_aq=>k_is)
    (case hd_aq=>k_is)
    (case po_aq=>k_is)
    (case sa_aq=>k_is)
    (case mk_aq=>first | k_is | kernel_rfl)
    (case ca_aq=>k_is)
    (case mo_aq=>k_is)
    (case a_RightSide_init=>k_is)
    (case kc_j=>k_is)
    (case pg_j=>k_is)
    (case hd_j=>k_is)
    (case po_j=>k_is)
    (case sa_j=>k_is)
    (case mk_j=>first | k_is | kernel_rfl)
    (case ca_j=>k_is)
    (case mo_j=>k_is)
    (case cg=>k_is)
    (case ct=>k_is)
    (case n_bi=>k_is)
    (case n_bd=>k_is)
    (case n_bc=>k_is)
    (case n_bg=>k_is)
    (case n_bf=>k_is)
    (case n_ed=>k_is)
    (case n_d3=>k_is)
    (case n_c6=>k_is)
    (case n_d4=>k_is)
    (case n_ee=>k_is)
    (case n_d0=>k_is)
    (case n_ex=>k_is)
    (case n_ey=>k_is)
    (case n_ep=>k_is)
    (case n_ef=>k_is)
    (case n_eg=>k_is)
    (case n_eh=>k_is)
    (case n_eq=>k_is)
    (case n_d5=>k_is)
    (case n_en=>k_is)
    (case n_eo=>k_is)
    (case n_dr=>k_is)
    (case n_do=>k_is)
    (case n_bs=>k_is)
    (case n_dp=>k_is)
    (case n_ds=>k_is)
    (case n_c7=>k_is)
    (case n_d6=>k_is)
    (case n_d7=>k_is)
    (case n_ei=>k_is)
    (case n_d8=>k_is)
    (case n_c8=>k_is)
    (case n_d9=>k_is)
    (case n_ej=>k_is)
    (case n_d1=>k_is)
    (case n_ez=>k_is)
    (case n_e0=>k_is)
    (case n_er=>k_is)
    (case n_dq=>k_is)
    (case n_ek=>k_is)
    (case n_el=>k_is)
    (case n_es=>k_is)
    (case n_ea=>k_is)
    (case n_e2=>k_is)
    (case n_e3=>k_is)
    (case n_eb=>k_is)
    (case n_et=>k_is)
    (case n_eu=>k_is)
    (case n_ev=>k_is)
    (case n_e1=>k_is)
    (case n_em=>k_is)
    (case n_e4=>k_is)
    (case n_e5=>k_is)
    (case n_ew=>k_is)
    (case n_bz=>k_is)
    (case n_ec=>k_is)
    (case n_abs=>k_is)
    (case n_bool=>k_is)
    (case n_enumerate=>k_is)
    (case n_int=>k_is)
    (case n_isinstance=>k_is)
    (case n_len=>k_is)
    (case n_list=>k_is)
    (case n_max=>k_is)
    (case n_min=>k_is)
    (case n_range=>k_is)
    (case n_sorted=>k_is)
    (case n_str=>k_is)
    (case n_tuple=>k_is)
    (case kit_cm=>kernel_rfl)
    (case kit_cn=>kernel_rfl)
    (case kit_b7=>kernel_rfl)
    (case kit_b0=>kernel_rfl)
    (case kit_b1=>kernel_rfl)
    (case kit_b8=>kernel_rfl)
    (case kit_bl=>kernel_rfl)
    (case kit_b9=>kernel_rfl)
    (case kit_ca=>kernel_rfl)
    (case kit_co=>kernel_rfl)
    (case kit_c9=>kernel_rfl)
    (case kit_cb=>kernel_rfl)
    (case kit_cp=>kernel_rfl)
    (case kany_l=>kernel_rfl)
    (case kitv_l=>kernel_rfl)
    (case mro_l=>k_is)
    (case kit_da=>kernel_rfl)
    (case kit_db=>kernel_rfl)
    (case kit_cq=>kernel_rfl)
    (case kit_cc=>kernel_rfl)
    (case kit_cd=>kernel_rfl)
    (case kit_cr=>kernel_rfl)
    (case kit_bt=>kernel_rfl)
    (case kit_cs=>kernel_rfl)
    (case kit_ct=>kernel_rfl)
    (case kit_dc=>kernel_rfl)
    (case kit_dt=>kernel_rfl)
    (case kit_cu=>kernel_rfl)
    (case kit_dd=>kernel_rfl)
    (case kany_w=>kernel_rfl)
    (case kitv_w=>kernel_rfl)
    (case mro_w=>k_is)
    (case kit_bu=>kernel_rfl)
    (case kit_bv=>kernel_rfl)
    (case kit_bm=>kernel_rfl)
    (case kit_bj=>kernel_rfl)
    (case kit_bk=>kernel_rfl)
    (case kit_bn=>kernel_rfl)
    (case kit_bh=>kernel_rfl)
    (case kit_bo=>kernel_rfl)
    (case kit_bp=>kernel_rfl)
    (case kit_bw=>kernel_rfl)
    (case kit_b2=>kernel_rfl)
    (case kit_bq=>kernel_rfl)
    (case kit_bx=>kernel_rfl)
    (case kany_b=>kernel_rfl)
    (case kitv_b=>kernel_rfl)
    (case mro_b=>k_is)
    (case kit_cv=>kernel_rfl)
    (case kit_cw=>kernel_rfl)
    (case kit_ce=>kernel_rfl)
    (case kit_b3=>kernel_rfl)
    (case kit_b4=>kernel_rfl)
    (case kit_cf=>kernel_rfl)
    (case kit_br=>kernel_rfl)
    (case kit_cg=>kernel_rfl)
    (case kit_ch=>kernel_rfl)
    (case kit_cx=>kernel_rfl)
    (case kit_de=>kernel_rfl)
    (case kit_ci=>kernel_rfl)
    (case kit_cy=>kernel_rfl)
    (case kany_n=>kernel_rfl)
    (case kitv_n=>kernel_rfl)
    (case mro_n=>k_is)
    (case kit_df=>kernel_rfl)
    (case kit_dg=>kernel_rfl)
    (case kit_cz=>kernel_rfl)
    (case kit_cj=>kernel_rfl)
    (case kit_ck=>kernel_rfl)
    (case kit_c0=>kernel_rfl)
    (case kit_by=>kernel_rfl)
    (case kit_c1=>kernel_rfl)
    (case kit_c2=>kernel_rfl)
    (case kit_dh=>kernel_rfl)
    (case kit_du=>kernel_rfl)
    (case kit_c3=>kernel_rfl)
    (case kit_di=>kernel_rfl)
    (case kany_t=>kernel_rfl)
    (case kitv_t=>kernel_rfl)
    (case mro_t=>k_is)
    (case kit_dv=>kernel_rfl)
    (case kit_dw=>kernel_rfl)
    (case kit_dj=>kernel_rfl)
    (case kit_c4=>kernel_rfl)
    (case kit_c5=>kernel_rfl)
    (case kit_dk=>kernel_rfl)
    (case kit_b5=>kernel_rfl)
    (case kit_dl=>kernel_rfl)
    (case kit_dm=>kernel_rfl)
    (case kit_dx=>kernel_rfl)
    (case kit_d2=>kernel_rfl)
    (case kit_dn=>kernel_rfl)
    (case kit_dy=>kernel_rfl)
    (case kany_ai=>kernel_rfl)
    (case kitv_ai=>kernel_rfl)
    (case mro_ai=>k_is)
    (case v_dz=>k_is)
    (case v_b6=>k_is)
    (case v_cl=>k_is)
    (case g_a1=>k_is)
    (case l_a1=>first | k_is | kernel_rfl)
    (case ns_a1=>kernel_rfl)
