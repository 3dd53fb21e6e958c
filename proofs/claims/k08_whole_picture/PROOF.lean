import PyProof.Rows.All
import Wide.All
import OpenK.AllK
import Wide.FinOn
import Lean
import PyProof.EqAt
import PyProof.EqKinds
import PyProof.TupleCall
import PyProof.StationsW
import PyProof.ExcClass2
import PyProof.RulesAs
import PyProof.ExcBaseAll.ValueError
import OpenK.KDescr
import OpenK.KWalk
import PyProof.ExcAttrAll.ValueError
import PyProof.Comp
import PyProof.ListRange
import PyProof.DictItems
import KE.KPairComp
import KE.KDictOf
import PyProof.AttrMissHeap
import PyProof.Rows.Range3
import KE.KRevIter
import PyProof.ZipIter
import OpenK.KEqL
import PyProof.AutoListH
import PyProof.EnumMake
import PyProof.WalksEnum
import PyProof.NeKinds
import PyProof.MaxThree
import KE.KSortTup
import PyProof.StrLawsIn
import PySem.Challenge.RW_rimnotes_k08_whole_picture
set_option Elab.async false
set_option linter.all false
set_option maxRecDepth 100000
set_option maxHeartbeats 4000000
set_option maxRecDepth 100000
namespace L2
open PySem PySem.Spec PyProof.Rows
variable {q0:Bool}
abbrev Key:=Sum Int Str
def xeh:Key→Value→Bool
 | .inl k,v=>Value.isInt k v
 | .inr x,v=>Value.isStrOf x v
def keyH (w:World):Key→Int
 | .inl k=>hashInt k
 | .inr x=>hashStr w x
theorem xbc:∀ {k:Key} {v:Value},xeh k v=true→(∃ i t,k=Sum.inl i∧v=Value.int i t)∨(∃ x t,k=Sum.inr x∧v=Value.str x t)
 | .inl i,v,h=>by
  obtain ⟨t,e⟩:=Value.isInt_shape (k:=i) (v:=v) h
  exact .inl ⟨i,t,rfl,e⟩
 | .inr x,v,h=>by
  obtain ⟨t,e⟩:=Value.isStrOf_shape (x:=x) (v:=v) h
  exact .inr ⟨x,t,rfl,e⟩
theorem xld (i:Int) (t:Tok):xeh (.inl i) (.int i t)=true:=by simp [xeh,Value.isInt]
theorem xk3 (x:Str) (t:Tok):xeh (.inr x) (.str x t)=true:=by simp [xeh,Value.isStrOf]
theorem xow (a b:Int):decide ((Sum.inl a:Key)=Sum.inl b)=(a == b):=by
 by_cases e:a=b
 ·subst e; simp
 ·have h:¬ (Sum.inl a:Key)=Sum.inl b:=fun q=>e (Sum.inl.inj q)
  rw [decide_eq_false h]
  exact (beq_eq_false_iff_ne.mpr e).symm
theorem xpb (a b:Str):decide ((Sum.inr a:Key)=Sum.inr b)=decide (a=b):=by
 by_cases e:a=b
 ·subst e; simp
 ·have h:¬ (Sum.inr a:Key)=Sum.inr b:=fun q=>e (Sum.inr.inj q)
  rw [decide_eq_false h,decide_eq_false e]
theorem xpf (a:Int) (b:Str):decide ((Sum.inl a:Key)=Sum.inr b)=false:=decide_eq_false (fun q=>nomatch q)
theorem xoz (a:Str) (b:Int):decide ((Sum.inr a:Key)=Sum.inl b)=false:=decide_eq_false (fun q=>nomatch q)
def xaz (prog:Program) (w:World):PySem.KeyKind prog w Key where
 is:=xeh
 hash:=keyH w
 inj:=fun v a b ha hb=>by
  rcases xbc ha with ⟨i,t,rfl,rfl⟩ | ⟨x,t,rfl,rfl⟩
  ·rcases xbc hb with ⟨j,u,rfl,e⟩ | ⟨y,u,rfl,e⟩
   ·injection e with e1 _; rw [e1]
   ·exact nomatch e
  ·rcases xbc hb with ⟨j,u,rfl,e⟩ | ⟨y,u,rfl,e⟩
   ·exact nomatch e
   ·injection e with e1 _; rw [e1]
 byValue:=fun k v h=>by
  rcases xbc h with ⟨i,t,rfl,rfl⟩ | ⟨x,t,rfl,rfl⟩ <;> rfl
 pyHash:=fun hv h=>by
  rcases xbc hv with ⟨i,t,rfl,rfl⟩ | ⟨x,t,rfl,rfl⟩
  ·exact wpAny_pyHash_int h
  ·exact wpAny_pyHash_str h
 eqBool:=fun hu hv h=>by
  rcases xbc hu with ⟨i,t,rfl,rfl⟩ | ⟨x,t,rfl,rfl⟩
  ·rcases xbc hv with ⟨j,u,rfl,rfl⟩ | ⟨y,u,rfl,rfl⟩
   ·rw [xow] at h; exact wpAny_eqBool_int h
   ·rw [xpf] at h; exact SeqAt.EqAt.int_str i t y u _ _ _ _ h
  ·rcases xbc hv with ⟨j,u,rfl,rfl⟩ | ⟨y,u,rfl,rfl⟩
   ·rw [xoz] at h; exact SeqAt.EqAt.str_int x t j u _ _ _ _ h
   ·rw [xpb] at h; exact wpAny_eqBool_str h
 «strs»:=fun k x t v h=>by
  rcases xbc h with ⟨i,u,rfl,e⟩ | ⟨y,u,rfl,e⟩
  ·exact nomatch e
  ·injection e with e1 _
   subst e1
   cases v <;> rfl
theorem xiv (prog:Program) (w:World) (i:Int) (t:Tok):(xaz prog w).is (.inl i) (.int i t)=true:=xld i t
theorem xiw (prog:Program) (w:World) (x:Str) (t:Tok):(xaz prog w).is (.inr x) (.str x t)=true:=xk3 x t
end L2
namespace L2
open PySem PySem.Spec PyProof.Rows
variable {q0:Bool}
inductive V where
 | non | bl (b:Bool) | int (i:Int) | str (x:Str) | byt (b:Array UInt8) | flt (b:UInt64) | ref (a:Addr) | ty (n:String)
 deriving DecidableEq
def RelV:V→Value→Prop
 | .non,u=>u=Value.none
 | .bl b,u=>u=Value.bool b
 | .int i,u=>∃ t,u=Value.int i t
 | .str x,u=>∃ t,u=Value.str x t
 | .byt b,u=>∃ t,u=Value.bytes b t
 | .flt b,u=>∃ t,u=Value.float b t
 | .ref a,u=>u=Value.ref a
 | .ty n,u=>u=Value.type n
abbrev Vals:List V→List Value→Prop:=Paired RelV
theorem Vals.length {xs:List V} {us:List Value} (r:Vals xs us):xs.length=us.length:=Paired.length r
theorem Vals.get:∀ {xs:List V} {us:List Value} {i:Nat} {x:V},Vals xs us→xs[i]?=some x→∃ u,us[i]?=some u∧RelV x u
 | _,_,_,_,.nil,e=>by simp at e
 | _,_,0,_,.cons r _,e=>by simp at e; subst e; exact ⟨_,rfl,r⟩
 | _,_,i + 1,x,.cons _ t,e=>by
  obtain ⟨u,h1,h2⟩:=Vals.get (i:=i) (x:=x) t (by simpa using e)
  exact ⟨u,by simpa using h1,h2⟩
theorem Vals.set {x:V} {u:Value} (r:RelV x u):∀ {xs:List V} {us:List Value} (i:Nat),Vals xs us→Vals (xs.set i x) (us.set i u)
 | _,_,_,.nil=>.nil
 | _,_,0,.cons _ t=>.cons r t
 | _,_,i + 1,.cons q t=>.cons q (Vals.set r i t)
theorem Vals.append:∀ {xs ys:List V} {us ws:List Value},Vals xs us→Vals ys ws→Vals (xs ++ ys) (us ++ ws)
 | _,_,_,_,.nil,s=>s
 | _,_,_,_,.cons r t,s=>.cons r (Vals.append t s)
theorem Vals.take:∀ {xs:List V} {us:List Value} (n:Nat),Vals xs us→Vals (xs.take n) (us.take n)
 | _,_,0,_=>.nil
 | _,_,_ + 1,.nil=>.nil
 | _,_,n + 1,.cons r t=>.cons r (Vals.take n t)
theorem Vals.drop:∀ {xs:List V} {us:List Value} (n:Nat),Vals xs us→Vals (xs.drop n) (us.drop n)
 | _,_,0,r=>r
 | _,_,_ + 1,.nil=>.nil
 | _,_,n + 1,.cons _ t=>Vals.drop n t
def RelO:Option V→Option Value→Prop
 | some v,some u=>RelV v u
 | none,none=>True
 | _,_=>False
def KV {κ:Type}:List (κ × V)→List (κ × Value)→Prop:=Paired fun (p:κ × V) (q:κ × Value)=>p.1=q.1∧RelV p.2 q.2
def kV:Key→V
 | .inl i=>.int i
 | .inr x=>.str x
inductive HO where
 /-- a list -/
 | lst (xs:List V)
 /-- a tuple (never changes) -/
 | tup (xs:List V)
 /-- a dict whose keys are ints and texts; one whose keys are tuples of ints and texts (the empty one is both) -/
 | dK (kvs:List (Key × V)) | dT (kvs:List (List Key × V))
 /-- a set of ints: its members,its size -/
 | set (S:Int→Bool) (n:Nat)
 /-- an instance of the class at C,its dict at dx,its attributes -/
 | ins (C dx:Addr) (fs:List (Str × V))
 /-- the dict of the instance at x -/
 | own (x:Addr)
 /-- the dict of an exception -/
 | xd (fs:List (Str × V))
 /-- a bound method,f of x -/
 | met (f x:Addr)
 /-- a range object lo,lo + 1,.. below hi -/
 | rng (lo hi:Int)
 /-- a thing that is known to the object (the script; a dict while a loop walks it): read,never written while it is so -/
 | frz (o:Obj) (u:HO)
 /-- a code object's table -/
 | tbl (ps:Array Value)
 /-- any other thing,by what is true of its one object (a def of one's own: SetO a S n:=HO.ext fun h=>..) -/
 | ext (φ:Heap→Prop)
abbrev Hp:=Addr→Option HO
def upd (H:Hp) (a:Addr) (o:HO):Hp:=fun b=>if b=a then some o else H b
theorem xg {H:Hp} {a:Addr} {o:HO}:upd H a o a=some o:=by unfold upd; rw [if_pos rfl]
theorem xl {H:Hp} {a b:Addr} {o:HO} (h:b≠a):upd H a o b=H b:=by unfold upd; rw [if_neg h]
theorem xcz {H:Hp} {a:Addr} {o u:HO}:upd (upd H a o) a u=upd H a u:=by
 funext b; unfold upd; split <;> rfl
theorem xac {H:Hp} {a b:Addr} {o u:HO} (h:H a=some o) (h':H b=some u) (d:o≠u):a≠b:=by
 intro e; subst e; rw [h] at h'; exact d (Option.some.inj h')
theorem xn {H:Hp} {a b:Addr} {o:HO} (h:H a=some o) (h':H b=none):a≠b:=by
 intro e; subst e; rw [h] at h'; cases h'
section
variable (P:Program) (w:World)
def xa4 (H:Hp) (h:Heap) (a:Addr):HO→Prop
  | .lst xs=>xs.length≤sizeLine∧∃ (its:List Value) (n:Nat),Vals xs its∧h.get? a=some { cls:=.type "list",data:=.seq its.toArray n }
  | .tup xs=>xs.length≤sizeLine∧∃ its:List Value,Vals xs its∧IsTup h a its.toArray
  | .dK kvs=>kvs.length≤sizeLine∧(a == sysModules)=false∧∃ vs,KV kvs vs∧h.DictOf (xaz P w) a vs
  | .dT kvs=>kvs.length≤sizeLine∧(a == sysModules)=false∧∃ xs:List (List Key × Addr × Value),
      Paired (fun (p:List Key × V) (q:List Key × Addr × Value)=>p.1=q.1∧H q.2.1=some (.tup (p.1.map kV))∧RelV p.2 q.2.2) kvs xs ∧
      ∃ o es ep,h.get? a=some o∧o.ExactDict∧o.data=.dict es ep∧es.toList=xs.map (entryOfKey (tupleKind (xaz P w)))∧(xs.map (·.1)).Nodup
  | .set S n=>h.SetOf (intKind P w) a S n
  | .ins C dx fs=>H dx=some (.own a)∧fs.length≤1000∧dx≠a∧h.get? a=some (PySem.W.instObj C dx) ∧
      ∃ mA,h.Ns1 dx mA∧(∀ f,RelO (fs.lookup f) (mA f))∧PySem.Within mA (fs.map (·.1))
  | .own _=>∃ o,h.get? a=some o
  | .xd fs=>∃ mA,h.Ns1 a mA∧∀ f,RelO (fs.lookup f) (mA f)
  | .rng lo hi=>∃ t u v,h.get? a=some { cls:=.type "range",data:=.fields #[.int lo t,.int hi u,.int 1 v] }
  | .frz o u=>h.get? a=some o∧xa4 H h a u
  | .tbl ps=>h.get? a=some { cls:=.none,data:=.fields ps }
  | .met f x=>h.get? a=some (PySem.W.methodObj (.ref f) (.ref x))
  | .ext φ=>φ h∧(∃ o,h.get? a=some o)∧∀ h1 h2:Heap,φ h1→(∀ o,h1.get? a=some o→h2.get? a=some o)→φ h2
def HOk (H:Hp) (h:Heap):Prop:=∀ a o,H a=some o→xa4 P w H h a o
end
section
variable {P:Program} {w:World} {H H':Hp} {h h':Heap} {a:Addr} {o:HO}
theorem xa4.lt (x:xa4 P w H h a o):a < h.objs.size:=by
 cases o with
 | lst xs=>obtain ⟨_,_,_,_,e⟩:=x; exact Heap.lt_size e
 | tup xs=>obtain ⟨_,_,_,p⟩:=x; exact p.lt
 | dK kvs=>obtain ⟨_,_,_,_,o,_,_,e,_⟩:=x; exact Heap.lt_size e
 | dT kvs=>obtain ⟨_,_,_,_,o,_,_,e,_⟩:=x; exact Heap.lt_size e
 | set S n=>obtain ⟨o,_,_,_,e,_⟩:=x; exact Heap.lt_size e
 | ins C dx fs=>obtain ⟨_,_,_,e,_⟩:=x; exact Heap.lt_size e
 | own y=>obtain ⟨_,e⟩:=x; exact Heap.lt_size e
 | xd fs=>obtain ⟨_,⟨_,_,_,e,_⟩,_⟩:=x; exact Heap.lt_size e
 | rng lo hi=>obtain ⟨_,_,_,e⟩:=x; exact Heap.lt_size e
 | frz ob u=>obtain ⟨e,_⟩:=x; exact Heap.lt_size e
 | tbl ps=>exact Heap.lt_size (show h.get? a=some _ from x)
 | met f y=>exact Heap.lt_size (show h.get? a=some _ from x)
 | ext φ=>obtain ⟨_,⟨_,e⟩,_⟩:=x; exact Heap.lt_size e
theorem Paired.mapP {α β:Type} {F G:α→β→Prop}:∀ {l₁:List α} {l₂:List β},Paired F l₁ l₂→(∀ a b,F a b→G a b)→Paired G l₁ l₂
 | _,_,.nil,_=>.nil
 | _,_,.cons r t,f=>.cons (f _ _ r) (Paired.mapP t f)
theorem xa4.stay (x:xa4 P w H h a o) (k:∀ b u,(b=a∨H b=some (.own a))→h.get? b=some u→h'.get? b=some u)
    (ho:∀ b,H b=some (.own a)→H' b=some (.own a)) (ht:∀ b xs,H b=some (.tup xs)→H' b=some (.tup xs)):xa4 P w H' h' a o:=by
  induction o with
  | lst xs=>obtain ⟨z,its,n,r,e⟩:=x; exact ⟨z,its,n,r,k _ _ (.inl rfl) e⟩
  | tup xs=>obtain ⟨z,its,r,ob,e,c⟩:=x; exact ⟨z,its,r,ob,k _ _ (.inl rfl) e,c⟩
  | dK kvs=>obtain ⟨z,y,vs,r,ob,es,ep,e,c⟩:=x; exact ⟨z,y,vs,r,ob,es,ep,k _ _ (.inl rfl) e,c⟩
  | dT kvs =>
    obtain ⟨z,y,xs,r,ob,es,ep,e,c⟩:=x
    exact ⟨z,y,xs,Paired.mapP r fun p q z=>⟨z.1,ht _ _ z.2.1,z.2.2⟩,ob,es,ep,k _ _ (.inl rfl) e,c⟩
  | set S n=>obtain ⟨ob,es,ep,t,e,c⟩:=x; exact ⟨ob,es,ep,t,k _ _ (.inl rfl) e,c⟩
  | ins C dx fs =>
    obtain ⟨d,z,ne,e,mA,⟨od,es,ep,e2,c⟩,r⟩:=x
    exact ⟨ho _ d,z,ne,k _ _ (.inl rfl) e,mA,⟨od,es,ep,k _ _ (.inr d) e2,c⟩,r⟩
  | own y=>obtain ⟨ob,e⟩:=x; exact ⟨ob,k _ _ (.inl rfl) e⟩
  | xd fs=>obtain ⟨mA,⟨od,es,ep,e,c⟩,r⟩:=x; exact ⟨mA,⟨od,es,ep,k _ _ (.inl rfl) e,c⟩,r⟩
  | rng lo hi=>obtain ⟨t,u,v,e⟩:=x; exact ⟨t,u,v,k _ _ (.inl rfl) e⟩
  | frz ob u ih=>obtain ⟨e,q⟩:=x; exact ⟨k _ _ (.inl rfl) e,ih q⟩
  | tbl ps =>
    have e:h.get? a=some { cls:=.none,data:=.fields ps }:=x
    show h'.get? a=some { cls:=.none,data:=.fields ps }
    exact k a _ (.inl rfl) e
  | met f y =>
    have e:h.get? a=some (PySem.W.methodObj (.ref f) (.ref y)):=x
    show h'.get? a=some (PySem.W.methodObj (.ref f) (.ref y))
    exact k a _ (.inl rfl) e
  | ext φ=>obtain ⟨p,⟨o,e⟩,st⟩:=x; exact ⟨st _ _ p fun o q=>k _ _ (.inl rfl) q,⟨o,k _ _ (.inl rfl) e⟩,st⟩
theorem HOk.lt (x:HOk P w H h) (e:H a=some o):a < h.objs.size:=(x a o e).lt
theorem HOk.fresh (x:HOk P w H h) (e:h.objs.size≤a):H a=none:=by
 cases q:H a with
 | none=>rfl
 | some u=>exact absurd (Nat.lt_of_lt_of_le (x.lt q) e) (Nat.lt_irrefl _)
theorem HOk.kept (x:HOk P w H h) (k:∀ b u,h.get? b=some u→h'.get? b=some u):HOk P w H h':=fun a o e =>
 (x a o e).stay (fun b u _ q=>k b u q) (fun _ q=>q) fun _ _ q=>q
theorem HOk.laid (x:HOk P w H h) (k:∀ b u,h.get? b=some u→h'.get? b=some u) (hp:h.objs.size≤a) (new:xa4 P w (upd H a o) h' a o):HOk P w (upd H a o) h':=fun b u e=>by
 have hn:=x.fresh hp
 by_cases hb:b=a
 ·subst hb; rw [xg] at e; cases e; exact new
 ·rw [xl hb] at e
  exact (x b u e).stay (fun c v _ q=>k c v q) (fun c q=>by rw [xl (xn q hn)]; exact q) fun c xs q=>by rw [xl (xn q hn)]; exact q
end
def Rd (H:Hp) (a:Addr) (u:HO):Prop:=H a=some u∨∃ o,H a=some (.frz o u)
theorem Rd.ok {P:Program} {w:World} {H:Hp} {h:Heap} {a:Addr} {u:HO} (r:Rd H a u) (x:HOk P w H h):xa4 P w H h a u:=by
 rcases r with r | ⟨o,r⟩
 ·exact x a u r
 ·obtain ⟨_,q⟩:=x a _ r
  exact q
def Mut:Option HO→Prop
 | some (.lst _)=>True
 | some (.dK _)=>True
 | some (.dT _)=>True
 | some (.set _ _)=>True
 | some (.ins _ _ _)=>True
 | some (.ext _)=>True
 | _=>False
section
variable {P:Program} {w:World} {H:Hp} {h h':Heap} {x e:Addr} {o':HO}
theorem HOk.write (ok:HOk P w H h) (mu:Mut (H x)) (he:e=x∨H e=some (.own x)) (k:∀ b u,b≠e→h.get? b=some u→h'.get? b=some u) (heo:∃ u,h'.get? e=some u)
    (new:xa4 P w (upd H x o') h' x o'):HOk P w (upd H x o') h':=fun b u q=>by
  have nown:∀ c y,H c=some (.own y)→c≠x:=fun c y r z=>by subst z; rw [r] at mu; exact mu
  have ntup:∀ c xs,H c=some (.tup xs)→c≠x:=fun c xs r z=>by subst z; rw [r] at mu; exact mu
  by_cases hb:b=x
  · subst hb; rw [xg] at q; cases q; exact new
  · rw [xl hb] at q
    by_cases hbe:b=e
    · have q':H b=some (.own x):=by
        rcases he with z | z
        · exact absurd (hbe.trans z) hb
        · rw [hbe]; exact z
      rw [q] at q'; cases q'
      obtain ⟨v,hv⟩:=heo
      exact ⟨v,by rw [hbe]; exact hv⟩
    · refine (ok b u q).stay (fun c v hc r=>k c v ?_ r) (fun c r=>by rw [xl (nown c b r)]; exact r) fun c xs r=>by rw [xl (ntup c xs r)]; exact r
      rcases hc with rfl | hc
      · exact hbe
      · rintro rfl
        rcases he with z | z
        · exact nown c b hc z
        · rw [hc] at z; cases z; exact hb rfl
end
structure Un (fs ex:List Addr) (H H':Hp) (h h':Heap):Prop where
 keep:∀ b o,h.get? b=some o→H b=none→b ∉ fs→b ∉ ex→h'.get? b=some o
 slot:∀ b o,h.get? b=some o→H b=none→b ∈ fs→b ∉ ex→∃ sl,h'.get? b=some { o with slots:=sl }
 free:∀ b o,h.get? b=some o→H b=none→b ∉ ex→H' b=none
 there:∀ b o,h.get? b=some o→b ∉ ex→∃ o',h'.get? b=some o'
 tups:∀ b xs,H b=some (.tup xs)→H' b=some (.tup xs)
 frzs:∀ b o u,H b=some (.frz o u)→H' b=some (.frz o u)
 tbls:∀ b ps,H b=some (.tbl ps)→∃ more,H' b=some (.tbl (ps ++ more))
section
variable {fs fs' ex ex':List Addr} {H H1 H2:Hp} {h h1 h2 h':Heap} {a x e:Addr} {o:HO}
theorem Un.any (u:Un fs ex H H1 h h1) {b:Addr} {ob:Obj} (q:h.get? b=some ob) (n:H b=none) (hx:b ∉ ex):∃ sl,h1.get? b=some { ob with slots:=sl }:=by
 by_cases hb:b ∈ fs
 ·exact u.slot b ob q n hb hx
 ·exact ⟨ob.slots,u.keep b ob q n hb hx⟩
theorem Un.kept (k:∀ b u,h.get? b=some u→h'.get? b=some u):Un fs ex H H h h' :=
 ⟨fun b ob q _ _ _=>k b ob q,fun b ob q _ _ _=>⟨ob.slots,k b ob q⟩,fun _ _ _ n _=>n,fun b ob q _=>⟨ob,k b ob q⟩,fun _ _ q=>q,fun _ _ _ q=>q,fun _ ps q=>⟨#[],by rw [q]; simp⟩⟩
theorem Un.refl:Un fs ex H H h h:=Un.kept fun _ _ q=>q
theorem Un.laid (k:∀ b u,h.get? b=some u→h'.get? b=some u) (hp:h.objs.size≤a) (hn:H a=none):Un fs ex H (upd H a o) h h' where
 keep:=fun b u q _ _ _=>k b u q
 slot:=fun b u q _ _ _=>⟨u.slots,k b u q⟩
 free:=fun b u q n _=>by rw [xl (Nat.ne_of_lt (Nat.lt_of_lt_of_le (Heap.lt_size q) hp))]; exact n
 there:=fun b u q _=>⟨u,k b u q⟩
 tups:=fun b xs q=>by rw [xl (xn q hn)]; exact q
 frzs:=fun b u xs q=>by rw [xl (xn q hn)]; exact q
 tbls:=fun b ps q=>⟨#[],by rw [xl (xn q hn),q]; simp⟩
theorem Un.write (mu:Mut (H x)) (he:e=x∨H e=some (.own x)) (k:∀ b u,b≠e→h.get? b=some u→h'.get? b=some u) (heo:∃ u,h'.get? e=some u):Un fs ex H (upd H x o) h h':=by
 have hx:∀ b,H b=none→b≠x:=fun b n z=>by subst z; rw [n] at mu; exact mu
 have hb:∀ b,H b=none→b≠e:=fun b n z=>by
  subst z
  rcases he with r | r
  ·exact hx b n r
  ·rw [n] at r; cases r
 have hm:∀ b u,H b=some u→¬ Mut (some u)→b≠x:=fun b u q nm z=>by subst z; rw [q] at mu; exact nm mu
 refine ⟨fun b u q n _ _=>k b u (hb b n) q,fun b u q n _ _=>⟨u.slots,k b u (hb b n) q⟩,fun b u q n _=>by rw [xl (hx b n)]; exact n,fun b u q _=>?_,
  fun b xs q=>by rw [xl (hm b _ q fun z=>z)]; exact q,fun b u xs q=>by rw [xl (hm b _ q fun z=>z)]; exact q,fun b ps q=>⟨#[],by rw [xl (hm b _ q fun z=>z),q]; simp⟩⟩
 by_cases hbe:b=e
 ·subst hbe; exact heo
 ·exact ⟨u,k b u hbe q⟩
end
def trk (h:Heap) (H:Hp):List Addr:=(List.range h.objs.size).filter fun a=>(H a).isSome
def hidT (h:Heap) (H:Hp):Heap:=PySem.W.hideAll h (trk h H)
theorem xkj (h:Heap) (H:Hp):(hidT h H).objs.size=h.objs.size:=PySem.W.hideAll_size _ _
theorem xmg {h:Heap} {H:Hp} {b:Addr} {o:Obj} (e:h.get? b=some o) (n:H b=none):(hidT h H).get? b=some o :=
 PySem.W.hideAll_get _ e fun hm=>by
  have q:(H b).isSome=true:=(List.mem_filter.mp hm).2
  rw [n] at q; simp at q
theorem xnq {h:Heap} {H:Hp} {b:Addr} {o:Obj} (e:(hidT h H).get? b=some o):h.get? b=some o∧H b=none:=by
 have e':h.get? b=some o:=PySem.W.of_hideAll (trk h H) e
 refine ⟨e',?_⟩
 cases q:H b with
 | none=>rfl
 | some x =>
  have hm:b ∈ trk h H:=List.mem_filter.mpr ⟨List.mem_range.mpr (Heap.lt_size e'),by simp [q]⟩
  have z:(hidT h H).get? b=none:=PySem.W.hideAll_none (trk h H) hm
  rw [z] at e; cases e
def xne (g h:Heap) (L:Addr):List (Addr × Obj):=(List.range h.objs.size).filterMap fun a=>if a=L∨(g.get? a).isSome=true then none else (h.get? a).map fun o=>(a,o)
def rest (g h:Heap) (L d:Addr):List (Addr × Obj):=(xne g h L).filter fun p=>decide (p.1≠d)
end L2
namespace L2
open PySem PySem.Spec PyProof.Rows
variable {q0:Bool}
structure Mod (K:PySem.W.Frag) (mg:Str→Option Value) (base:Heap):Prop where
 kin:K.In base
 glob:base.Ns mainGlobals mg
 blt:∃ mb,base.Ns builtinsNs mb∧∀ x:Str,x≠"__name__"→mb x=bootBuiltins x
 nolimit:base.NoLimit
structure Cx where
 prog:Program
 w:World
 K:PySem.W.Frag
 mg:Str→Option Value
 base:Heap
 A:Around
 N:List Str
 s₀:Shared
 H₀:Hp
 env:Env
 outer:List Env
 stack:List Env
 ex:List Addr
 fn:Str→Bool
 calm:Bool
 pn:List (Addr × Obj)
 xe:Value→Shared→Prop
def frs (l:List Env):List Addr:=l.filterMap (·.frame)
abbrev Cx.fs (X:Cx):List Addr:=frs X.outer
def Vis (sc:Scope) (x:Str):Prop:=sc.names.lookup x=some .local∨sc.names.lookup x=some .cell∨sc.names.lookup x=some .free
def Loc (sc:Scope) (x:Str):Prop:=sc.names.lookup x=some .local∨sc.names.lookup x=some .cell
def Look (env:Env) (h:Heap) (m:Str→Option Value) (x:Str) (u:Value):Prop :=
 (env.kindOf x=some .local∧m x=some u)∨((env.kindOf x=some .cell∨env.kindOf x=some .free)∧∃ c,env.cells.lookup x=some c∧h.IsCell c (some u))
structure Cx.Ok (X:Cx):Prop where
 mod:Mod X.K X.mg X.base
 kind:X.env.scope.kind=.function
 glob:X.env.globals=mainGlobals
 blt:X.env.builtins=builtinsNs
 above:X.s₀.heap.objs.size≤X.env.locals
 inj:∀ x y c,X.env.cells.lookup x=some c→X.env.cells.lookup y=some c→x=y
 has:∀ x,(X.env.kindOf x=some .cell∨X.env.kindOf x=some .free)→∃ c,X.env.cells.lookup x=some c
 cab:∀ x c,X.fn x=true→X.env.cells.lookup x=some c→X.s₀.heap.objs.size≤c
 hd:X.calm=true→X.A.handled=none
 frames:X.A.frames=some X.stack
 stk:X.stack=X.outer∨(X.stack=X.env :: X.outer∧X.env.frame=some X.env.locals)
 exf:∀ b ∈ X.ex,b≠X.env.locals∧∀ x c,X.env.cells.lookup x=some c→c≠b
 bs:∀ b o,X.base.get? b=some o→X.s₀.heap.get? b=some o∧X.H₀ b=none
 bsz:X.base.objs.size≤X.s₀.heap.objs.size
 noex:∀ b o,X.base.get? b=some o→b ∉ X.ex
 exfs:∀ b ∈ X.ex,b ∉ X.fs
 funs:X.s₀.heap.FunFrames X.base X.outer
 frf:∀ b ∈ X.fs,X.H₀ b=none
structure Inv (X:Cx) (pins:List (Addr × Obj)) (σ:List (Option V)) (H:Hp) (s:Shared):Prop where
 ok:X.Ok
 os:s.os=X.s₀.os
 bare:AllBare s.gens
 base:Un X.fs X.ex X.H₀ H X.s₀.heap s.heap
 loc:∃ m,s.heap.Ns X.env.locals m∧∀ (i:Nat) (x:Str) (v:V),X.N[i]?=some x→σ[i]?=some (some v)→Vis X.env.scope x→∃ u,RelV v u∧Look X.env s.heap m x u
 cell:∀ x c,X.env.cells.lookup x=some c→∃ v,s.heap.IsCell c v
 free:H X.env.locals=none
 freeC:∀ x c,X.env.cells.lookup x=some c→H c=none
 pin:∀ p ∈ X.pn ++ pins,s.heap.get? p.1=some p.2∧H p.1=none∧p.1≠X.env.locals∧p.1 ∉ X.fs∧∀ v,p.2.data≠.cell v
 hok:HOk X.prog X.w H s.heap
 len:σ.length=X.N.length
section
variable {X:Cx} {pins:List (Addr × Obj)} {σ:List (Option V)} {H H':Hp} {s:Shared} {h':Heap}
theorem Cx.Ok.nofr (ok:X.Ok) {b:Addr} {o:Obj} (e:X.base.get? b=some o):b ∉ X.fs:=fun hb=>by
 have:=(ok.funs.mem hb).1
 rw [e] at this; cases this
theorem Inv.bs (I:Inv X pins σ H s):∀ b o,X.base.get? b=some o→s.heap.get? b=some o∧H b=none:=fun b o e =>
 ⟨I.base.keep b o (I.ok.bs b o e).1 (I.ok.bs b o e).2 (I.ok.nofr e) (I.ok.noex b o e),I.base.free b o (I.ok.bs b o e).1 (I.ok.bs b o e).2 (I.ok.noex b o e)⟩
theorem Inv.bk (I:Inv X pins σ H s):∀ b o,X.base.get? b=some o→s.heap.get? b=some o:=fun b o e=>(I.bs b o e).1
theorem Inv.mod (I:Inv X pins σ H s):Mod X.K X.mg X.base:=I.ok.mod
theorem Inv.kIn (I:Inv X pins σ H s):X.K.In s.heap:=I.ok.mod.kin.keeps I.bk
theorem Inv.fr (I:Inv X pins σ H s):∃ m,Fr X.base X.env.locals s.heap m :=
 let ⟨m,hn,_⟩:=I.loc
 ⟨m,hn,I.bk,Nat.le_trans I.ok.bsz I.ok.above⟩
theorem Inv.lt (I:Inv X pins σ H s):X.env.locals < s.heap.objs.size:=let ⟨_,hn,_⟩:=I.loc; hn.lt
theorem Inv.sz (I:Inv X pins σ H s):X.s₀.heap.objs.size≤s.heap.objs.size:=Nat.le_trans I.ok.above (Nat.le_of_lt I.lt)
theorem Inv.nofs (I:Inv X pins σ H s) {a:Addr} (h:s.heap.objs.size≤a):a ∉ X.fs:=fun hb=>by
 obtain ⟨_,o,ho,_⟩:=I.ok.funs.mem hb
 exact absurd (Nat.lt_of_lt_of_le (Heap.lt_size ho) (Nat.le_trans I.sz h)) (Nat.lt_irrefl _)
theorem Inv.cne (I:Inv X pins σ H s):∀ x c,X.env.cells.lookup x=some c→c≠X.env.locals:=fun x c e z=>by
 obtain ⟨v,o,ho,hd⟩:=I.cell x c e
 obtain ⟨m,⟨o',es,ep,ho',hd',_⟩,_⟩:=I.loc
 rw [z,ho'] at ho; cases ho; rw [hd'] at hd; cases hd
theorem Inv.funs (I:Inv X pins σ H s):s.heap.FunFrames X.base X.outer:=by
 have all:∀ (l:List Env),(∀ b ∈ frs l,b ∈ X.fs)→X.s₀.heap.FunFrames X.base l→s.heap.FunFrames X.base l:=by
  intro l
  induction l with
  | nil=>intro _ _; trivial
  | cons env r ih =>
   intro hs hl
   obtain ⟨hk,⟨L,o,hf,hn,ho,hd⟩,hr⟩:=hl
   have hL:L ∈ X.fs:=hs L (by unfold frs; rw [List.filterMap_cons,hf]; exact List.mem_cons_self)
   obtain ⟨sl,e⟩:=I.base.slot L o ho (I.ok.frf L hL) hL fun z=>I.ok.exfs L z hL
   exact ⟨hk,⟨L,_,hf,hn,e,hd⟩,ih (fun b hb=>hs b (by unfold frs; rw [List.filterMap_cons,hf]; exact List.mem_cons_of_mem _ hb)) hr⟩
 exact all X.outer (fun _ hb=>hb) I.ok.funs
theorem Inv.stack (I:Inv X pins σ H s):s.heap.FunFrames X.base X.stack:=by
 rcases I.ok.stk with e | ⟨e,hf⟩
 ·rw [e]; exact I.funs
 ·rw [e]
  obtain ⟨m,hn,_⟩:=I.loc
  refine .cons (by rw [I.ok.kind]; decide) hf hn ?_ I.funs
  exact Heap.get?_none_of_le (Nat.le_trans I.ok.bsz I.ok.above)
theorem Inv.stkSub (I:Inv X pins σ H s):∀ b ∈ frs X.stack,b ∈ X.env.locals :: X.fs:=fun b hb=>by
 rcases I.ok.stk with e | ⟨e,hf⟩
 ·rw [e] at hb; exact List.mem_cons_of_mem _ hb
 ·rw [e] at hb
  unfold frs at hb
  rw [List.filterMap_cons,hf] at hb
  exact hb
theorem Inv.stkFree (I:Inv X pins σ H s):∀ b ∈ frs X.stack,H b=none:=fun b hb=>by
 rcases List.mem_cons.mp (I.stkSub b hb) with e | hb
 ·rw [e]; exact I.free
 ·obtain ⟨_,o,ho,_⟩:=I.ok.funs.mem hb
  exact I.base.free b o ho (I.ok.frf b hb) fun z=>I.ok.exfs b z hb
theorem Inv.step {g':Array GenState} {t':Nat} {d':Drawn} {ch:List Addr} (I:Inv X pins σ H s)
    (hch:∀ b ∈ ch,(b ∈ X.ex∨X.s₀.heap.objs.size≤b)∧b≠X.env.locals∧(∀ x c,X.env.cells.lookup x=some c→c≠b)∧∀ p ∈ X.pn ++ pins,p.1≠b)
    (keep:∀ b o,b≠X.env.locals→b ∉ X.fs→b ∉ ch→s.heap.get? b=some o→H b=none→h'.get? b=some o)
    (slot:∀ b o,b≠X.env.locals→b ∈ X.fs→b ∉ ch→s.heap.get? b=some o→H b=none→∃ sl,h'.get? b=some { o with slots:=sl }) (free:∀ b o,b ∉ ch→s.heap.get? b=some o→H b=none→H' b=none)
    (there:∀ b o,b ∉ ch→s.heap.get? b=some o→∃ o',h'.get? b=some o')
    (tups:∀ b xs,H b=some (.tup xs)→H' b=some (.tup xs)) (frzs:∀ b o u,H b=some (.frz o u)→H' b=some (.frz o u)) (tbls:∀ b ps,H b=some (.tbl ps)→∃ more,H' b=some (.tbl (ps ++ more)))
    (ns:∀ m,s.heap.Ns X.env.locals m→h'.Ns X.env.locals m) (hok:HOk X.prog X.w H' h') (hg:AllBare g') :
    Inv X pins σ H' { s with heap:=h',gens:=g',drawn:=d',toks:=t' }:=by
  have neL:∀ b o,X.s₀.heap.get? b=some o→b≠X.env.locals:=fun b o e=>Nat.ne_of_lt (Nat.lt_of_lt_of_le (Heap.lt_size e) I.ok.above)
  have neC:∀ b o,X.s₀.heap.get? b=some o→b ∉ X.ex→b ∉ ch:=fun b o e hx hb=>by
    rcases (hch b hb).1 with z | z
    · exact hx z
    · exact absurd (Nat.lt_of_lt_of_le (Heap.lt_size e) z) (Nat.lt_irrefl _)
  have cellK:∀ x c,X.env.cells.lookup x=some c→∀ v,s.heap.IsCell c v→h'.IsCell c v:=fun x c e v ⟨o,ho,hd⟩=>by
    have nch:c ∉ ch:=fun z=>(hch c z).2.2.1 x c e rfl
    by_cases hc:c ∈ X.fs
    · obtain ⟨sl,q⟩:=slot c o (I.cne x c e) hc nch ho (I.freeC x c e)
      exact ⟨_,q,hd⟩
    · exact ⟨o,keep c o (I.cne x c e) hc nch ho (I.freeC x c e),hd⟩
  refine ⟨I.ok,I.os,hg,⟨fun b o e n hb hx=>?_,fun b o e n hb hx=>?_,fun b o e n hx=>?_,fun b o e hx=>?_,fun b xs e=>tups b xs (I.base.tups b xs e),fun b o xs e=>frzs b o xs (I.base.frzs b o xs e),fun b ps e=>?_⟩,?_,fun x c e=>?_,?_,fun x c e=>?_,fun p hp=>?_,hok,I.len⟩
  · exact keep b o (neL b o e) hb (neC b o e hx) (I.base.keep b o e n hb hx) (I.base.free b o e n hx)
  · obtain ⟨sl,e1⟩:=I.base.slot b o e n hb hx
    obtain ⟨sl',e2⟩:=slot b _ (neL b o e) hb (neC b o e hx) e1 (I.base.free b o e n hx)
    exact ⟨sl',e2⟩
  · obtain ⟨o',e1⟩:=I.base.there b o e hx
    exact free b o' (neC b o e hx) e1 (I.base.free b o e n hx)
  · obtain ⟨o',e1⟩:=I.base.there b o e hx
    exact there b o' (neC b o e hx) e1
  · obtain ⟨m1,e1⟩:=I.base.tbls b ps e
    obtain ⟨m2,e2⟩:=tbls b _ e1
    exact ⟨m1 ++ m2,by rw [e2,Array.append_assoc]⟩
  · obtain ⟨m,hn,hl⟩:=I.loc
    refine ⟨m,ns m hn,fun i x v e1 e2 e3=>?_⟩
    obtain ⟨u,r,l⟩:=hl i x v e1 e2 e3
    refine ⟨u,r,?_⟩
    rcases l with l | ⟨k,c,e,z⟩
    · exact .inl l
    · exact .inr ⟨k,c,e,cellK x c e _ z⟩
  · obtain ⟨v,z⟩:=I.cell x c e
    exact ⟨v,cellK x c e v z⟩
  · obtain ⟨m,⟨o,_,_,ho,_⟩,_⟩:=I.loc
    exact free _ o (fun z=>(hch _ z).2.1 rfl) ho I.free
  · obtain ⟨v,o,ho,hd⟩:=I.cell x c e
    exact free c o (fun z=>(hch c z).2.2.1 x c e rfl) ho (I.freeC x c e)
  · obtain ⟨e,n,ne,nf,d⟩:=I.pin p hp
    have nch:p.1 ∉ ch:=fun z=>(hch p.1 z).2.2.2 p hp rfl
    exact ⟨keep p.1 p.2 ne nf nch e n,free p.1 p.2 nch e n,ne,nf,d⟩
theorem Inv.un {t':Nat} (I:Inv X pins σ H s) (u:Un X.fs [] H H' s.heap h') (hok:HOk X.prog X.w H' h'):Inv X pins σ H' { s with heap:=h',toks:=t' }:=by
 obtain ⟨m,⟨o,es,ep,ho,r⟩,_⟩:=id I.loc
 obtain ⟨sl,hL⟩:=u.any ho I.free (by simp)
 exact I.step (g':=s.gens) (d':=s.drawn) (ch:=[]) (fun _ z=>nomatch z) (fun b o _ hb _ e n=>u.keep b o e n hb (by simp)) (fun b o _ hb _ e n=>u.slot b o e n hb (by simp)) (fun b o _ e n=>u.free b o e n (by simp)) (fun b o _ e=>u.there b o e (by simp)) u.tups u.frzs u.tbls (fun m' hm=>by
  obtain ⟨o',es',ep',ho',r'⟩:=hm
  rw [ho] at ho'; cases ho'
  exact ⟨_,es',ep',hL,r'⟩) hok I.bare
theorem Inv.call {g':Array GenState} {t':Nat} {d':Drawn} {ch:List Addr} (I:Inv X pins σ H s) (u:Un (frs X.stack) ch H H' s.heap h') (hok:HOk X.prog X.w H' h') (hg:AllBare g')
    (hch:∀ b ∈ ch,(b ∈ X.ex∨X.s₀.heap.objs.size≤b)∧b≠X.env.locals∧(∀ x c,X.env.cells.lookup x=some c→c≠b)∧∀ p ∈ X.pn ++ pins,p.1≠b) :
    Inv X pins σ H' { s with heap:=h',gens:=g',drawn:=d',toks:=t' }:=by
  obtain ⟨m,⟨o,es,ep,ho,r⟩,_⟩:=id I.loc
  obtain ⟨sl,hL⟩:=u.any ho I.free fun z=>(hch _ z).2.1 rfl
  exact I.step (ch:=ch) hch (fun b o hL hb hc e n=>u.keep b o e n (fun z=>(List.mem_cons.mp (I.stkSub b z)).elim hL hb) hc) (fun b o _ _ hc e n=>u.any e n hc) (fun b o hc e n=>u.free b o e n hc) (fun b o hc e=>u.there b o e hc) u.tups u.frzs u.tbls (fun m' hm=>by
    obtain ⟨o',es',ep',ho',r'⟩:=hm
    rw [ho] at ho'; cases ho'
    exact ⟨_,es',ep',hL,r'⟩) hok hg
theorem Inv.turned {t':Nat} {it:Addr} (I:Inv X pins σ H s) (k:∀ b o,b≠it→s.heap.get? b=some o→h'.get? b=some o) (hn:H it=none) (hL:it≠X.env.locals)
    (h1:it ∈ X.ex∨X.s₀.heap.objs.size≤it) (h2:∀ x c,X.env.cells.lookup x=some c→c≠it) (h3:∀ p ∈ X.pn ++ pins,p.1≠it):Inv X pins σ H { s with heap:=h',toks:=t' }:=by
  have nit:∀ b u,H b=some u→b≠it:=fun b u e z=>by rw [z,hn] at e; cases e
  refine I.step (g':=s.gens) (d':=s.drawn) (ch:=[it]) (fun b hb=>?_) (fun b o _ _ hc e _=>k b o (fun z=>hc (by simp [z])) e) (fun b o _ _ hc e _=>⟨o.slots,k b o (fun z=>hc (by simp [z])) e⟩) (fun _ _ _ _ n=>n)
    (fun b o hc e=>⟨o,k b o (fun z=>hc (by simp [z])) e⟩) (fun _ _ e=>e) (fun _ _ _ e=>e) (fun b ps e=>⟨#[],by rw [e]; simp⟩) (fun m hm=>?_) (fun b u e=>?_) I.bare
  · have e:b=it:=by simpa using hb
    subst e
    exact ⟨h1,hL,h2,h3⟩
  · obtain ⟨o,es,ep,ho,r⟩:=hm
    exact ⟨o,es,ep,k _ o (Ne.symm hL) ho,r⟩
  · refine (I.hok b u e).stay (fun c v hc q=>k c v ?_ q) (fun _ q=>q) fun _ _ q=>q
    rcases hc with z | z
    · rw [z]; exact nit b u e
    · exact nit c _ z
theorem Inv.tok (I:Inv X pins σ H s) (t:Nat):Inv X pins σ H { s with toks:=t }:=I.un (h':=s.heap) (t':=t) Un.refl I.hok
theorem Inv.kept {t':Nat} (I:Inv X pins σ H s) (k:∀ b u,s.heap.get? b=some u→h'.get? b=some u):Inv X pins σ H { s with heap:=h',toks:=t' }:=I.un (Un.kept k) (I.hok.kept k)
theorem Inv.laid {a:Addr} {o:HO} {t':Nat} (I:Inv X pins σ H s) (k:∀ b u,s.heap.get? b=some u→h'.get? b=some u) (hp:s.heap.objs.size≤a) (new:xa4 X.prog X.w (upd H a o) h' a o) :
    Inv X pins σ (upd H a o) { s with heap:=h',toks:=t' }:=I.un (Un.laid k hp (I.hok.fresh hp)) (I.hok.laid k hp new)
theorem Inv.write {x e:Addr} {o:HO} {t':Nat} (I:Inv X pins σ H s) (mu:Mut (H x)) (he:e=x∨H e=some (.own x)) (k:∀ b u,b≠e→s.heap.get? b=some u→h'.get? b=some u) (heo:∃ u,h'.get? e=some u)
    (new:xa4 X.prog X.w (upd H x o) h' x o):Inv X pins σ (upd H x o) { s with heap:=h',toks:=t' }:=I.un (Un.write mu he k heo) (I.hok.write mu he k heo new)
theorem Inv.weak {σ':List (Option V)} (I:Inv X pins σ H s) (hl:σ'.length=σ.length) (w:∀ (i:Nat) v,σ'[i]?=some (some v)→σ[i]?=some (some v)):Inv X pins σ' H s :=
 ⟨I.ok,I.os,I.bare,I.base,let ⟨m,hn,hl'⟩:=I.loc; ⟨m,hn,fun i x v e1 e2 e3=>hl' i x v e1 (w i v e2) e3⟩,I.cell,I.free,I.freeC,I.pin,I.hok,hl.trans I.len⟩
theorem Inv.pins_of {pins':List (Addr × Obj)} (I:Inv X pins σ H s) (h:∀ p ∈ pins',s.heap.get? p.1=some p.2∧H p.1=none∧p.1≠X.env.locals∧p.1 ∉ X.fs∧∀ v,p.2.data≠.cell v):Inv X pins' σ H s :=
 ⟨I.ok,I.os,I.bare,I.base,I.loc,I.cell,I.free,I.freeC,fun p hp=>(List.mem_append.mp hp).elim (fun z=>I.pin p (List.mem_append_left _ z)) (h p),I.hok,I.len⟩
theorem xfu {N:List Str} (hN:N.Nodup) {i j:Nat} {x:Str} (a:N[i]?=some x) (b:N[j]?=some x):i=j:=by
 obtain ⟨h1,e1⟩:=List.getElem?_eq_some_iff.mp a
 obtain ⟨h2,e2⟩:=List.getElem?_eq_some_iff.mp b
 exact (List.getElem_inj hN).mp (e1.trans e2.symm)
theorem xg6 {M:Model} {A:Around} {E:Value→Shared→Prop} {i:Nat} {x:Str} {v:V} {u:Value} {Q:Unit→Shared→Prop} (I:Inv X pins σ H s) (hN:X.N.Nodup) (hi:X.N[i]?=some x) (hx:Loc X.env.scope x) (r:RelV v u)
    (h:∀ s',Inv X pins (σ.set i (some v)) H s'→(∃ a,Heap.SameBut a s.heap s'.heap∧(a=X.env.locals∨X.env.cells.lookup x=some a))→Q () s') (hf:X.fn x=true∨X.env.scope.names.lookup x=some .local:=by first | exact .inl rfl | exact .inr rfl | assumption):wpAny M A (storeName X.env x u) Q E s:=by
  obtain ⟨m,hn,hl⟩:=id I.loc
  have hcls:(X.env.scope.kind == .class || (X.env.scope.kind == .module && X.env.locals != X.env.globals))=false:=by rw [I.ok.kind]; rfl
  have hiσ:i < σ.length:=by rw [I.len]; exact (List.getElem?_eq_some_iff.mp hi).1
  have cne:=I.cne
  have tracked:∀ {a:Addr} {h':Heap},(∃ o,s.heap.get? a=some o∧H a=none)→Heap.SameBut a s.heap h'→HOk X.prog X.w H h':=fun {a h'} ha hs b ob e=>by
    obtain ⟨_,_,hfree⟩:=ha
    refine (I.hok b ob e).stay (fun c w' hc q=>(hs.2 c ?_).trans q) (fun _ q=>q) fun _ _ q=>q
    rintro rfl
    rcases hc with rfl | hc
    · rw [hfree] at e; cases e
    · rw [hfree] at hc; cases hc
  rcases hx with hk | hk
  · refine wpAny_storeName_local hk hn (fun h' hn' hs=>?_) hcls
    obtain ⟨oL,_,_,hoL,_⟩:=id hn
    refine h _ ⟨I.ok,I.os,I.bare,⟨fun b o e n hb hx=>?_,fun b o e n hb hx=>?_,I.base.free,fun b o e hx=>?_,I.base.tups,I.base.frzs,I.base.tbls⟩,⟨_,hn',fun j y v' e1 e2 e3=>?_⟩,fun y c e=>?_,I.free,I.freeC,fun p hp=>?_,tracked ⟨oL,hoL,I.free⟩ hs,by simpa using I.len⟩ ⟨_,hs,.inl rfl⟩
    · exact (hs.2 b (Nat.ne_of_lt (Nat.lt_of_lt_of_le (Heap.lt_size e) I.ok.above))).trans (I.base.keep b o e n hb hx)
    · obtain ⟨sl,e1⟩:=I.base.slot b o e n hb hx
      exact ⟨sl,(hs.2 b (Nat.ne_of_lt (Nat.lt_of_lt_of_le (Heap.lt_size e) I.ok.above))).trans e1⟩
    · obtain ⟨o',e1⟩:=I.base.there b o e hx
      exact ⟨o',(hs.2 b (Nat.ne_of_lt (Nat.lt_of_lt_of_le (Heap.lt_size e) I.ok.above))).trans e1⟩
    · by_cases hj:j=i
      · subst hj
        rw [hi] at e1; cases e1
        rw [List.getElem?_set_self hiσ] at e2
        cases e2
        exact ⟨u,r,.inl ⟨hk,by simp⟩⟩
      · rw [List.getElem?_set_ne (Ne.symm hj)] at e2
        obtain ⟨u',r',q⟩:=hl j y v' e1 e2 e3
        refine ⟨u',r',?_⟩
        rcases q with ⟨k,e⟩ | ⟨k,c,e,z⟩
        · refine .inl ⟨k,?_⟩
          have:y≠x:=fun e=>hj (xfu hN e1 (e ▸ hi))
          simp [this,e]
        · exact .inr ⟨k,c,e,z.sameBut hs (cne y c e)⟩
    · obtain ⟨w',z⟩:=I.cell y c e
      exact ⟨w',z.sameBut hs (cne y c e)⟩
    · obtain ⟨e,n,ne,nf,d⟩:=I.pin p hp
      exact ⟨(hs.2 p.1 ne).trans e,n,ne,nf,d⟩
  · have hfn:X.fn x=true:=by
      rcases hf with z | z
      · exact z
      · rw [z] at hk; cases hk
    obtain ⟨c,hc⟩:=I.ok.has x (.inl hk)
    obtain ⟨w',z⟩:=I.cell x c hc
    refine wpAny_storeName_cell I.ok.kind hk hc z (fun h' hc' hs=>?_)
    obtain ⟨oc,hoc,hocd⟩:=id z
    refine h { s with heap:=h' } ⟨I.ok,I.os,I.bare,⟨fun b o e n hb hx=>?_,fun b o e n hb hx=>?_,I.base.free,fun b o e hx=>?_,I.base.tups,I.base.frzs,I.base.tbls⟩,⟨m,hn.sameBut hs (Ne.symm (cne x c hc)),fun j y v' e1 e2 e3=>?_⟩,fun y c' e=>?_,I.free,I.freeC,fun p hp=>?_,tracked ⟨oc,hoc,I.freeC x c hc⟩ hs,by simpa using I.len⟩ ⟨c,hs,.inr hc⟩
    · exact (hs.2 b (Nat.ne_of_lt (Nat.lt_of_lt_of_le (Heap.lt_size e) (I.ok.cab x c hfn hc)))).trans (I.base.keep b o e n hb hx)
    · obtain ⟨sl,e1⟩:=I.base.slot b o e n hb hx
      exact ⟨sl,(hs.2 b (Nat.ne_of_lt (Nat.lt_of_lt_of_le (Heap.lt_size e) (I.ok.cab x c hfn hc)))).trans e1⟩
    · obtain ⟨o',e1⟩:=I.base.there b o e hx
      exact ⟨o',(hs.2 b (Nat.ne_of_lt (Nat.lt_of_lt_of_le (Heap.lt_size e) (I.ok.cab x c hfn hc)))).trans e1⟩
    · by_cases hj:j=i
      · subst hj
        rw [hi] at e1; cases e1
        rw [List.getElem?_set_self hiσ] at e2
        cases e2
        exact ⟨u,r,.inr ⟨.inl hk,c,hc,hc'⟩⟩
      · rw [List.getElem?_set_ne (Ne.symm hj)] at e2
        obtain ⟨u',r',q⟩:=hl j y v' e1 e2 e3
        refine ⟨u',r',?_⟩
        rcases q with q | ⟨k,c',e,z'⟩
        · exact .inl q
        · refine .inr ⟨k,c',e,z'.sameBut hs ?_⟩
          rintro rfl
          exact hj (xfu hN e1 (I.ok.inj _ _ _ e hc ▸ hi))
    · by_cases hcc:c'=c
      · subst hcc; exact ⟨_,hc'⟩
      · obtain ⟨w2,z2⟩:=I.cell y c' e
        exact ⟨w2,z2.sameBut hs hcc⟩
    · obtain ⟨e,n,ne,nf,d⟩:=I.pin p hp
      refine ⟨(hs.2 p.1 ?_).trans e,n,ne,nf,d⟩
      intro q
      rw [q,hoc] at e
      have q':oc=p.2:=Option.some.inj e
      exact d w' (by rw [← q']; exact hocd)
theorem xfw {M:Model} {A:Around} {E:Value→Shared→Prop} {i:Nat} {x:Str} {v:V} {u:Value} {Q:Unit→Shared→Prop} (I:Inv X pins σ H s) (hN:X.N.Nodup) (hi:X.N[i]?=some x) (hx:Loc X.env.scope x) (r:RelV v u)
    (h:∀ s',Inv X pins (σ.set i (some v)) H s'→Q () s') (hf:X.fn x=true∨X.env.scope.names.lookup x=some .local:=by first | exact .inl rfl | exact .inr rfl | assumption):wpAny M A (storeName X.env x u) Q E s :=
  xg6 I hN hi hx r (fun s' I' _=>h s' I') hf
theorem Inv.call' {s':Shared} {ch:List Addr} (I:Inv X pins σ H s) (ho:s'.os=s.os) (u:Un (frs X.stack) ch H H' s.heap s'.heap) (hok:HOk X.prog X.w H' s'.heap) (hg:AllBare s'.gens)
    (hch:∀ b ∈ ch,(b ∈ X.ex∨X.s₀.heap.objs.size≤b)∧b≠X.env.locals∧(∀ x c,X.env.cells.lookup x=some c→c≠b)∧∀ p ∈ X.pn ++ pins,p.1≠b):Inv X pins σ H' s':=by
  obtain ⟨h',g',d',t',o'⟩:=s'
  have e:o'=s.os:=ho
  subst e
  exact I.call (g':=g') (t':=t') (d':=d') u hok hg hch
end
abbrev XK:=Addr→Addr→Hp→Prop
abbrev St:=List (Option V)
abbrev VK:=V→Hp→Prop
abbrev TE:=St→Hp→VK→Prop
abbrev TT:=St→Hp→(Bool→Hp→Prop)→Prop
abbrev TA:=St→Hp→(List V→Hp→Prop)→Prop
structure Ends where
 nx:St→Hp→Prop
 rt:VK
 bk:St→Hp→Prop:=fun _ _=>False
 ct:St→Hp→Prop:=fun _ _=>False
abbrev TS:=Ends→St→Hp→Prop
def EP (X:Cx) (pins:List (Addr × Obj)) (σ:St) (Q:VK) (u:Value) (s':Shared):Prop:=∃ v H',Inv X pins σ H' s'∧RelV v u∧Q v H'
def TP (X:Cx) (pins:List (Addr × Obj)) (σ:St) (Q:Bool→Hp→Prop) (b:Bool) (s':Shared):Prop:=∃ H',Inv X pins σ H' s'∧Q b H'
def AP (X:Cx) (pins:List (Addr × Obj)) (σ:St) (Q:List V→Hp→Prop) (us:List Value) (s':Shared):Prop:=∃ vs H',Inv X pins σ H' s'∧Vals vs us∧Q vs H'
def SP (X:Cx) (pins:List (Addr × Obj)) (D:Ends) (f:Flow) (s':Shared):Prop :=
 match f with
 | .next=>∃ σ' H',Inv X pins σ' H' s'∧D.nx σ' H'
 | .brk=>∃ σ' H',Inv X pins σ' H' s'∧D.bk σ' H'
 | .cont=>∃ σ' H',Inv X pins σ' H' s'∧D.ct σ' H'
 | .ret u=>∃ v σ' H',Inv X pins σ' H' s'∧RelV v u∧D.rt v H'
def PE (X:Cx) (e:Expr) (t:TE):Prop :=
 ∀ (pins:List (Addr × Obj)) (s:Shared) (σ:St) (H:Hp) (Q:VK),Inv X pins σ H s→t σ H Q→wpAny (model X.prog X.w) X.A (eval e X.env) (EP X pins σ Q) X.xe s
def PT (X:Cx) (e:Expr) (t:TT):Prop :=
 ∀ (pins:List (Addr × Obj)) (s:Shared) (σ:St) (H:Hp) (Q:Bool→Hp→Prop),Inv X pins σ H s→t σ H Q→wpAny (model X.prog X.w) X.A (isTrue e X.env (eval e X.env)) (TP X pins σ Q) X.xe s
def PW (X:Cx) (e:Expr) (t:TT):Prop :=
 ∀ (whole:Sem Value) (pins:List (Addr × Obj)) (s:Shared) (σ:St) (H:Hp) (Q:Bool→Hp→Prop),Inv X pins σ H s→t σ H Q→wpAny (model X.prog X.w) X.A (isTrue e X.env whole) (TP X pins σ Q) X.xe s
theorem PW.pt {X:Cx} {e:Expr} {t:TT} (h:PW X e t):PT X e t:=h _
def PA (X:Cx) (es:List Expr) (t:TA):Prop :=
 ∀ (pos:Pos) (pins:List (Addr × Obj)) (s:Shared) (σ:St) (H:Hp) (Q:List V→Hp→Prop),Inv X pins σ H s→t σ H Q→wpAny (model X.prog X.w) X.A (spliced (backTo pos (starEach es X.env))) (AP X pins σ Q) X.xe s
def PS (X:Cx) (st:Stmt) (t:TS):Prop :=
 ∀ (pins:List (Addr × Obj)) (s:Shared) (σ:St) (H:Hp) (D:Ends),Inv X pins σ H s→t D σ H→wpAny (model X.prog X.w) X.A (exec st X.env) (SP X pins D) X.xe s
def PSs (X:Cx) (st:List Stmt) (t:TS):Prop :=
 ∀ (pins:List (Addr × Obj)) (s:Shared) (σ:St) (H:Hp) (D:Ends),Inv X pins σ H s→t D σ H→wpAny (model X.prog X.w) X.A (execs st X.env) (SP X pins D) X.xe s
theorem thn {α:Type} {t:Sem α} {Q Q':α→Shared→Prop} {M:Model} {A:Around} {E:Value→Shared→Prop} {s:Shared} (h:wpAny M A t Q E s) (hQ:∀ a s,Q a s→Q' a s):wpAny M A t Q' E s:=wpAny_mono h hQ fun _ _ x=>x
end L2
namespace L2
open PySem PySem.Spec PyProof.Rows
variable {q0:Bool}
section
variable {X:Cx}
def tVar (i:Nat):TE:=fun σ H Q=>∃ v,σ[i]?=some (some v)∧Q v H
def tC (v:V):TE:=fun _ H Q=>Q v H
theorem xou {i:Nat} {x:Str} {pos:Pos} (hN:X.N[i]?=some x) (hv:Vis X.env.scope x) (hd:(x == ("__debug__":Str))=false:=by decide) (hcd:(x == ("__classdict__":Str))=false:=by decide):PE X (.Name x pos) (tVar i):=by
 intro pins s σ H Q I h
 obtain ⟨v,e,h⟩:=h
 obtain ⟨m,hn,hl⟩:=I.loc
 obtain ⟨u,r,l⟩:=hl i x v hN e hv
 have fin:EP X pins σ Q u s:=⟨v,H,I,r,h⟩
 rcases l with ⟨hk,hm⟩ | ⟨hk,c,hc,hcell⟩
 ·exact wpAny_Name (wpAny_loadName_local I.ok.kind hk hn hm fin) hd
 ·rcases hk with hk | hk
  ·exact wpAny_Name (wpAny_loadName_cell I.ok.kind hk hc hcell fin) hd
  ·exact wpAny_Name (wpAny_loadName_free I.ok.kind hk hc hcell fin hcd) hd
theorem xo {i j pos}:PE X (.Constant (.int i) j pos) (tC (.int i)):=fun _ _ _ H _ I h=>wpAny_Constant_int ⟨.int i,H,I.tok _,⟨_,rfl⟩,h⟩
theorem xdv {b j pos}:PE X (.Constant (.bool b) j pos) (tC (.bl b)):=fun _ _ _ H _ I h=>Constant_bool ⟨.bl b,H,I,rfl,h⟩
theorem xk8 {j pos}:PE X (.Constant .none j pos) (tC .non):=fun _ _ _ H _ I h=>Constant_none ⟨.non,H,I,rfl,h⟩
theorem x4 {x j pos}:PE X (.Constant (.str x) j pos) (tC (.str x)):=fun _ _ _ H _ I h=>Calls.Constant_str ⟨.str x,H,I.tok _,⟨_,rfl⟩,h⟩
def Gl (X:Cx) (x:Str):Prop:=X.env.kindOf x=some .globalImplicit
theorem xdj {E:Value→Shared→Prop} {pins:List (Addr × Obj)} {s:Shared} {σ:St} {H:Hp} {x:Str} {u:Value} {pos:Pos} {Q:Value→Shared→Prop} (I:Inv X pins σ H s) (hg:Gl X x) (hm:X.mg x=some u) (h:Q u s)
    (hd:(x == ("__debug__":Str))=false:=by decide):wpAny (model X.prog X.w) X.A (eval (.Name x pos) X.env) Q E s :=
  Calls.Name_function_global I.ok.kind hg (Calls.loadGlobal_global (by rw [I.ok.glob]; exact I.mod.glob.keeps I.bk) hm h) hd
theorem xen {E:Value→Shared→Prop} {pins:List (Addr × Obj)} {s:Shared} {σ:St} {H:Hp} {x:Str} {u:Value} {pos:Pos} {Q:Value→Shared→Prop} (I:Inv X pins σ H s) (hg:Gl X x) (hm:X.mg x=none) (hv:bootBuiltins x=some u) (h:Q u s)
    (hn:x≠"__name__":=by decide) (hd:(x == ("__debug__":Str))=false:=by decide):wpAny (model X.prog X.w) X.A (eval (.Name x pos) X.env) Q E s:=by
  obtain ⟨mb,h1,h2⟩:=I.mod.blt
  exact Calls.Name_function_global I.ok.kind hg (Calls.loadGlobal_builtin (by rw [I.ok.glob]; exact I.mod.glob.keeps I.bk) hm (by rw [I.ok.blt]; exact h1.keeps I.bk) ((h2 x hn).trans hv) h) hd
theorem xay {x:Str} {v:V} {u:Value} {pos:Pos} (hg:Gl X x) (hm:X.mg x=some u) (r:RelV v u) (hd:(x == ("__debug__":Str))=false:=by decide):PE X (.Name x pos) (tC v) :=
 fun _ _ _ H _ I h=>xdj I hg hm ⟨v,H,I,r,h⟩ hd
theorem xc0 {x:Str} {v:V} {u:Value} {pos:Pos} (hg:Gl X x) (hm:X.mg x=none) (hv:bootBuiltins x=some u) (r:RelV v u) (hn:x≠"__name__":=by decide) (hd:(x == ("__debug__":Str))=false:=by decide):PE X (.Name x pos) (tC v) :=
 fun _ _ _ H _ I h=>xen I hg hm hv ⟨v,H,I,r,h⟩ hn hd
variable {a b:Expr} {ta tb:TE} {pos:Pos}
def PC (X:Cx) (op:CmpOp) (a b:Expr) (t:TE):Prop :=
 ∀ (pins:List (Addr × Obj)) (s:Shared) (σ:St) (H:Hp) (Q:VK),Inv X pins σ H s→t σ H Q →
  wpAny (model X.prog X.w) X.A (eval a X.env) (fun v s₁=>wpAny (model X.prog X.w) X.A (eval b X.env) (fun u s₂=>wpAny (model X.prog X.w) X.A (compareOp op v u) (EP X pins σ Q) X.xe s₂) X.xe s₁) X.xe s
theorem xh6 (b:Expr) {op:CmpOp} (h:op≠.In) (h2:op≠.NotIn):behindInMarks op b=false:=by
 have e1:(op == CmpOp.In)=false:=by cases op <;> first | rfl | exact absurd rfl h
 have e2:(op == CmpOp.NotIn)=false:=by cases op <;> first | rfl | exact absurd rfl h2
 cases b <;> simp [behindInMarks,e1,e2]
def tB (t:TE):TT:=fun σ H Q=>t σ H fun x H1=>∃ c,x=.bl c∧Q c H1
theorem xn3 {op:CmpOp} {t:TE} (h:PC X op a b t) (h1:behindInMarks op b=false:=by first | exact xh6 _ (by decide) (by decide) | rfl):PE X (.Compare a [op] [b] pos) t:=fun pins s σ H Q I hw=>wpAny_Compare1 (h pins s σ H Q I hw) h1
theorem xcv {op:CmpOp} {t:TE} (h:PC X op a b t) (h1:behindInMarks op b=false:=by first | exact xh6 _ (by decide) (by decide) | rfl):PT X (.Compare a [op] [b] pos) (tB t):=by
 intro pins s σ H Q I hw
 refine wpAny_isTrue_Compare1 (thn (h pins s σ H _ I hw) fun v s1 h1=>thn h1 fun u s2 h2=>thn h2 fun c s3 ⟨x,H1,I1,r1,q1⟩=>?_) h1
 obtain ⟨d,rfl,q⟩:=q1
 cases r1
 exact wpAny_truthy_bool ⟨H1,I1,q⟩
theorem xau {e:Expr} {t:TE} (h:PE X e t) (he:∀ whole,isTrue e X.env whole=(do let v ← whole; standAt e.pos; holding [v] (truthy v)):=by intro _; rfl):PT X e (tB t):=by
 intro pins s σ H Q I hw
 refine isTrue_plain (thn (h pins s σ H _ I hw) fun v s1 ⟨x,H1,I1,r1,q1⟩=>?_) (he _)
 obtain ⟨d,rfl,q⟩:=q1
 cases r1
 exact wpAny_truthy_bool ⟨H1,I1,q⟩
variable {tA tB':TT} {rest:List Expr}
def tAnd (t u:TT):TT:=fun σ H Q=>t σ H fun c H1=>if c=true then u σ H1 Q else Q false H1
def tOr (t u:TT):TT:=fun σ H Q=>t σ H fun c H1=>if c=true then Q true H1 else u σ H1 Q
def tNot (t:TT):TT:=fun σ H Q=>t σ H fun c H1=>Q (!c) H1
theorem xdf (ha:PT X a tA):PW X (.BoolOp .And [a] pos) tA:=by
 intro wh pins s σ H Q I h
 refine isTrue_and (thn (ha pins s σ H Q I h) fun c s1 e=>?_)
 cases c with
 | true=>exact isTrue_and_nil e
 | false=>exact e
theorem xbw (ha:PT X a tA):PW X (.BoolOp .Or [a] pos) tA:=by
 intro wh pins s σ H Q I h
 refine isTrue_or (thn (ha pins s σ H Q I h) fun c s1 e=>?_)
 cases c with
 | false=>exact isTrue_or_nil e
 | true=>exact e
theorem xd9 (ha:PT X a tA) (hb:PW X (.BoolOp .And (b :: rest) pos) tB'):PW X (.BoolOp .And (a :: b :: rest) pos) (tAnd tA tB'):=by
 intro wh pins s σ H Q I h
 refine isTrue_and (thn (ha pins s σ H _ I h) fun c s1 ⟨H1,I1,q1⟩=>?_)
 cases c with
 | true=>exact hb wh pins s1 σ H1 Q I1 q1
 | false=>exact ⟨H1,I1,q1⟩
theorem xb7 (ha:PT X a tA) (hb:PW X (.BoolOp .Or (b :: rest) pos) tB'):PW X (.BoolOp .Or (a :: b :: rest) pos) (tOr tA tB'):=by
 intro wh pins s σ H Q I h
 refine isTrue_or (thn (ha pins s σ H _ I h) fun c s1 ⟨H1,I1,q1⟩=>?_)
 cases c with
 | true=>exact ⟨H1,I1,q1⟩
 | false=>exact hb wh pins s1 σ H1 Q I1 q1
theorem xbi (ha:PT X a tA):PT X (.UnaryOp .Not a pos) (tNot tA):=by
 intro pins s σ H Q I h
 exact isTrue_not (ha pins s σ H (fun c H1=>Q (!c) H1) I h)
def xpu (ta tb:TE):TE:=fun σ H Q=>ta σ H fun x H1=>∃ c,x=.bl c∧if c=true then tb σ H1 Q else Q (.bl false) H1
def xqd (ta:TE):TE:=fun σ H Q=>ta σ H fun x H1=>∃ c,x=.bl c∧Q (.bl (!c)) H1
theorem xgd {op} {t:TE} (h:PE X a t):PE X (.BoolOp op [a] pos) t:=fun pins s σ H Q I hw=>BoolOp_one (h pins s σ H Q I hw)
theorem xdn (ha:PE X a ta) (hb:PE X (.BoolOp .And (b :: rest) pos) tb):PE X (.BoolOp .And (a :: b :: rest) pos) (xpu ta tb):=by
 intro pins s σ H Q I h
 refine BoolOp_and (thn (ha pins s σ H _ I h) fun v s1 ⟨x,H1,I1,r1,q1⟩=>?_)
 obtain ⟨c,rfl,q1⟩:=q1
 cases r1
 refine wpAny_truthy_bool ?_
 cases c with
 | true=>exact hb pins s1 σ H1 Q I1 q1
 | false=>exact ⟨.bl false,H1,I1,rfl,q1⟩
theorem xoo (ha:PE X a ta):PE X (.UnaryOp .Not a pos) (xqd ta):=by
 intro pins s σ H Q I h
 refine UnaryOp_ (thn (ha pins s σ H _ I h) fun v s1 ⟨x,H1,I1,r1,q1⟩=>?_)
 obtain ⟨c,rfl,q1⟩:=q1
 cases r1
 exact not_of (wpAny_truthy_bool ⟨.bl (!c),H1,I1,rfl,q1⟩)
def tIf (t:TT) (ta tb:TE):TE:=fun σ H Q=>t σ H fun c H1=>if c=true then ta σ H1 Q else tb σ H1 Q
theorem xh5 {c:Expr} (hc:PT X c tA) (ha:PE X a ta) (hb:PE X b tb):PE X (.IfExp c a b pos) (tIf tA ta tb):=by
 intro pins s σ H Q I h
 refine wpAny_IfExp (thn (hc pins s σ H _ I h) fun d s1 ⟨H1,I1,q1⟩=>?_)
 cases d with
 | true=>exact ha pins s1 σ H1 Q I1 q1
 | false=>exact hb pins s1 σ H1 Q I1 q1
end
end L2
namespace L2
open PySem PySem.Spec PyProof.Rows
variable {q0:Bool}
def SqL (K:PySem.W.Frag) (H:Hp) (a:Addr) (xs:List V):Prop :=
 Rd H a (.lst xs) ∨
  ∃ (o:Obj) (its:Array Value) (n:Nat),K.lookup a=some o∧o.cls=.type "list"∧o.dict=none∧o.data=.seq its n∧its.size≤sizeLine∧Vals xs its.toList
def SqT (K:PySem.W.Frag) (H:Hp) (a:Addr) (xs:List V):Prop :=
 Rd H a (.tup xs) ∨
  ∃ (o:Obj) (its:Array Value) (n:Nat),K.lookup a=some o∧o.cls=.type "tuple"∧o.data=.seq its n∧its.size≤sizeLine∧Vals xs its.toList
def absV:Value→Option V
 | .none=>some .non
 | .bool b=>some (.bl b)
 | .int i _=>some (.int i)
 | .str x _=>some (.str x)
 | .bytes b _=>some (.byt b)
 | .float b _=>some (.flt b)
 | .ref a=>some (.ref a)
 | .type n=>some (.ty n)
 | _=>none
theorem RelV.abs {x:V} {u:Value} (r:RelV x u):absV u=some x:=by
 cases x with
 | non=>cases r; rfl
 | bl _=>cases r; rfl
 | int _=>obtain ⟨t,rfl⟩:=r; rfl
 | str _=>obtain ⟨t,rfl⟩:=r; rfl
 | byt _=>obtain ⟨t,rfl⟩:=r; rfl
 | flt _=>obtain ⟨t,rfl⟩:=r; rfl
 | ref _=>cases r; rfl
 | ty _=>cases r; rfl
theorem RelV.inj {x y:V} {u:Value} (r:RelV x u) (q:RelV y u):x=y:=Option.some.inj (r.abs.symm.trans q.abs)
theorem Vals.inj:∀ {xs ys:List V} {us:List Value},Vals xs us→Vals ys us→xs=ys
 | _,_,_,.nil,.nil=>rfl
 | _,_,_,.cons r t,.cons r' t'=>by rw [r.inj r',Vals.inj t t']
section
variable {X:Cx} {pins:List (Addr × Obj)} {σ:St} {H:Hp} {s:Shared} {a:Addr} {xs ys:List V}
theorem SqL.of {K:PySem.W.Frag} (h:H a=some (.lst xs)):SqL K H a xs:=.inl (.inl h)
theorem SqT.of {K:PySem.W.Frag} (h:H a=some (.tup xs)):SqT K H a xs:=.inl (.inl h)
theorem Inv.list (I:Inv X pins σ H s) (h:SqL X.K H a xs):∃ its:List Value,Vals xs its∧PlainL s.heap a its.toArray∧xs.length≤sizeLine:=by
 rcases h with h | ⟨o,its,n,hk,hc,hd,hs,hz,r⟩
 ·obtain ⟨z,its,n,r,e⟩:=h.ok I.hok
  exact ⟨its,r,⟨_,n,e,rfl,rfl,rfl⟩,z⟩
 ·refine ⟨its.toList,r,⟨o,n,I.kIn a o hk,hc,hd,by simpa using hs⟩,?_⟩
  have e:=r.length
  simp only [Array.length_toList] at e
  omega
theorem Inv.tuple (I:Inv X pins σ H s) (h:SqT X.K H a xs):∃ its:List Value,Vals xs its∧IsTup s.heap a its.toArray∧xs.length≤sizeLine:=by
 rcases h with h | ⟨o,its,n,hk,hc,hs,hz,r⟩
 ·obtain ⟨z,its,r,p⟩:=h.ok I.hok
  exact ⟨its,r,p,z⟩
 ·refine ⟨its.toList,r,⟨o,I.kIn a o hk,hc,n,by simpa using hs⟩,?_⟩
  have e:=r.length
  simp only [Array.length_toList] at e
  omega
theorem Inv.list_inj (I:Inv X pins σ H s) (h:SqL X.K H a xs) (h':SqL X.K H a ys):xs=ys:=by
 obtain ⟨its,r,⟨o,n,e,_,_,d⟩,_⟩:=I.list h
 obtain ⟨its',r',⟨o',n',e',_,_,d'⟩,_⟩:=I.list h'
 rw [e] at e'; cases e'
 rw [d] at d'
 injection d' with d1 _
 have:its=its':=by simpa using congrArg Array.toList d1
 subst this
 exact r.inj r'
theorem Inv.tuple_inj (I:Inv X pins σ H s) (h:SqT X.K H a xs) (h':SqT X.K H a ys):xs=ys:=by
 obtain ⟨its,r,⟨o,e,_,n,d⟩,_⟩:=I.tuple h
 obtain ⟨its',r',⟨o',e',_,n',d'⟩,_⟩:=I.tuple h'
 rw [e] at e'; cases e'
 rw [d] at d'
 injection d' with d1 _
 have:its=its':=by simpa using congrArg Array.toList d1
 subst this
 exact r.inj r'
end
abbrev Cx.wish (X:Cx) (E:Value→Shared→Prop):Cx:={ X with xe:=E }
abbrev Cx.nox (X:Cx):Cx:=X.wish fun _ _=>False
theorem Cx.Ok.wish {X:Cx} (ok:X.Ok) (E:Value→Shared→Prop):(X.wish E).Ok :=
 ⟨ok.mod,ok.kind,ok.glob,ok.blt,ok.above,ok.inj,ok.has,ok.cab,ok.hd,ok.frames,ok.stk,ok.exf,ok.bs,ok.bsz,ok.noex,ok.exfs,ok.funs,ok.frf⟩
theorem Cx.Ok.unwish {X:Cx} {E:Value→Shared→Prop} (ok:(X.wish E).Ok):X.Ok :=
 ⟨ok.mod,ok.kind,ok.glob,ok.blt,ok.above,ok.inj,ok.has,ok.cab,ok.hd,ok.frames,ok.stk,ok.exf,ok.bs,ok.bsz,ok.noex,ok.exfs,ok.funs,ok.frf⟩
section
variable {X:Cx} {pins:List (Addr × Obj)} {σ:St} {H:Hp} {s:Shared} {E:Value→Shared→Prop}
theorem Inv.wish (I:Inv X pins σ H s) (E:Value→Shared→Prop):Inv (X.wish E) pins σ H s:=⟨I.ok.wish E,I.os,I.bare,I.base,I.loc,I.cell,I.free,I.freeC,I.pin,I.hok,I.len⟩
theorem Inv.unwish (I:Inv (X.wish E) pins σ H s):Inv X pins σ H s:=⟨I.ok.unwish,I.os,I.bare,I.base,I.loc,I.cell,I.free,I.freeC,I.pin,I.hok,I.len⟩
theorem SP.unwish {D:Ends} {f:Flow} {s':Shared} (h:SP (X.wish E) pins D f s'):SP X pins D f s':=by
 cases f with
 | next=>obtain ⟨σ',H',I,q⟩:=h; exact ⟨σ',H',I.unwish,q⟩
 | brk=>obtain ⟨σ',H',I,q⟩:=h; exact ⟨σ',H',I.unwish,q⟩
 | cont=>obtain ⟨σ',H',I,q⟩:=h; exact ⟨σ',H',I.unwish,q⟩
 | ret u=>obtain ⟨v,σ',H',I,r,q⟩:=h; exact ⟨v,σ',H',I.unwish,r,q⟩
theorem PSs.nox {st:List Stmt} {t:TS} (h:PSs X.nox st t):PSs X st t:=fun pins s σ H D I hw =>
 wpAny_mono (h pins s σ H D (I.wish _) hw) (fun _ _ q=>q.unwish) fun _ _ z=>False.elim z
end
section
variable {X:Cx} {st:Stmt} {rest:List Stmt} {t u:TS} {e:Expr} {te:TE} {pos:Pos}
def xpn:TS:=fun D σ H=>D.nx σ H
def tSeq (t u:TS):TS:=fun D σ H=>t { D with nx:=u D } σ H
theorem xx:PSs X [] xpn:=fun _ _ σ H _ I h=>wpAny_execs_nil ⟨σ,H,I,h⟩
theorem xi (h1:PS X st t) (h2:PSs X rest u):PSs X (st :: rest) (tSeq t u):=by
 intro pins s σ H D I h
 refine wpAny_execs_cons (thn (h1 pins s σ H { D with nx:=u D } I h) fun f s1 q=>?_)
 cases f with
 | next =>
  obtain ⟨σ',H',I',q⟩:=q
  exact h2 pins s1 σ' H' D I' q
 | ret v=>exact q
 | brk=>exact q
 | cont=>exact q
theorem xk (h1:PS X st t):PSs X [st] t:=by
 intro pins s σ H D I h
 refine wpAny_execs_cons (thn (h1 pins s σ H D I h) fun f s1 q=>?_)
 cases f with
 | next=>exact wpAny_execs_nil q
 | ret v=>exact q
 | brk=>exact q
 | cont=>exact q
theorem Inv.quiet {pins:List (Addr × Obj)} {σ:St} {H:Hp} {s:Shared} (I:Inv X pins σ H s):interactive X.env=false:=by simp [interactive,I.ok.kind]
def xqi (te:TE):TS:=fun D σ H=>te σ H fun _ H1=>D.nx σ H1
theorem xaq (he:PE X e te) (hs:swapsWith e none pos.line X.env=pure false:=by rfl):PS X (.Expr e pos) (xqi te):=by
 intro pins s σ H D I h
 exact wpAny_Expr_any (thn (he pins s σ H _ I h) fun v s1 ⟨x,H1,I1,r1,q1⟩=>⟨σ,H1,I1,q1⟩) I.quiet hs
def tRet (te:TE):TS:=fun D σ H=>te σ H D.rt
theorem xaf (he:PE X e te):PS X (.Return (some e) pos) (tRet te):=by
 intro pins s σ H D I h
 exact wpAny_Return_some (thn (he pins s σ H _ I h) fun v s1 ⟨x,H1,I1,r1,q1⟩=>⟨x,σ,H1,I1,r1,q1⟩)
def tIfS (c:TT) (t u:TS):TS:=fun D σ H=>c σ H fun b H1=>if b=true then t D σ H1 else u D σ H1
theorem xaa {c:Expr} {a b:List Stmt} {tc:TT} (hc:PT X c tc) (ha:PSs X a t) (hb:PSs X b u):PS X (.If c a b pos) (tIfS tc t u):=by
 intro pins s σ H D I h
 refine wpAny_If (thn (hc pins s σ H _ I h) fun d s1 ⟨H1,I1,q1⟩=>?_)
 cases d with
 | true=>exact ha pins s1 σ H1 D I1 q1
 | false=>exact hb pins s1 σ H1 D I1 q1
def xo5:TS:=fun _ _ _=>False
theorem xa9:PS X st xo5:=fun _ _ _ _ _ _ h=>h.elim
end
abbrev TG:=V→St→Hp→(St→Hp→Prop)→Prop
abbrev TGs:=List V→St→Hp→(St→Hp→Prop)→Prop
def PG (X:Cx) (target:Expr) (t:TG):Prop :=
 ∀ (pins:List (Addr × Obj)) (s:Shared) (σ:St) (H:Hp) (v:V) (u:Value) (Q:St→Hp→Prop),Inv X pins σ H s→RelV v u→t v σ H Q →
  wpAny (model X.prog X.w) X.A (assign target X.env u) (fun _ s'=>∃ σ' H',Inv X pins σ' H' s'∧Q σ' H') X.xe s
def PGs (X:Cx) (ts:List Expr) (t:TGs):Prop :=
 ∀ (pins:List (Addr × Obj)) (s:Shared) (σ:St) (H:Hp) (vs:List V) (us:List Value) (Q:St→Hp→Prop),Inv X pins σ H s→Vals vs us→t vs σ H Q →
  wpAny (model X.prog X.w) X.A (assignInOrder ((assignEach ts X.env).map (·.2)) us) (fun _ s'=>∃ σ' H',Inv X pins σ' H' s'∧Q σ' H') X.xe s
abbrev TSet:=V→V→V→Hp→(Hp→Prop)→Prop
def PSet (X:Cx) (t:TSet):Prop :=
 ∀ (pins:List (Addr × Obj)) (s:Shared) (σ:St) (H:Hp) (o i v:V) (ov iv u:Value) (Q:Hp→Prop),Inv X pins σ H s→RelV o ov→RelV i iv→RelV v u→t o i v H Q →
  wpAny (model X.prog X.w) X.A (setItem ov iv u) (fun _ s'=>∃ H',Inv X pins σ H' s'∧Q H') X.xe s
section
variable {X:Cx} {pos:Pos}
def xfh (i:Nat):TG:=fun v σ H Q=>Q (σ.set i (some v)) H
theorem xq {i:Nat} {x:Str} (hN:X.N.Nodup) (hi:X.N[i]?=some x) (hx:Loc X.env.scope x) (hf:X.fn x=true∨X.env.scope.names.lookup x=some .local:=by first | exact .inl rfl | exact .inr rfl | assumption):PG X (.Name x pos) (xfh i):=by
 intro pins s σ H v u Q I r h
 exact wpAny_assign_Name (xfw I hN hi hx r (fun s' I'=>⟨_,H,I',h⟩) hf)
def gNil:TGs:=fun vs σ H Q=>vs=[]∧Q σ H
def xjx (t:TG) (u:TGs):TGs:=fun vs σ H Q=>∃ v r,vs=v :: r∧t v σ H fun σ' H'=>u r σ' H' Q
theorem xa7:PGs X [] gNil:=by
 intro pins s σ H vs us Q I r h
 obtain ⟨e,h⟩:=h
 subst e
 cases r
 exact assignInOrder_nil ⟨σ,H,I,h⟩
theorem xv {e:Expr} {es:List Expr} {t:TG} {u:TGs} (h1:PG X e t) (h2:PGs X es u)
    (hs:(assignEach (e :: es) X.env).map (·.2)=assign e X.env :: (assignEach es X.env).map (·.2):=by rfl):PGs X (e :: es) (xjx t u):=by
  intro pins s σ H vs us Q I r h
  obtain ⟨v,vr,e1,h⟩:=h
  subst e1
  cases r with
  | cons r rr =>
    rw [hs]
    refine assignInOrder_cons (thn (h1 pins s σ H _ _ _ I r h) fun _ s1 ⟨σ1,H1,I1,q1⟩=>?_)
    exact h2 pins s1 σ1 H1 _ _ Q I1 rr q1
def gTup (K:PySem.W.Frag) (n:Nat) (t:TGs):TG:=fun v σ H Q=>∃ a xs,v=.ref a∧SqT K H a xs∧xs.length=n∧t xs σ H Q
theorem xbn {es:List Expr} {k:Nat} {t:TGs} {n:Nat} (hc:X.calm=true) (h:PGs X es t)
    (hn:(assignEach es X.env).length=n:=by rfl) (hst:(assignEach es X.env).findIdx? (·.1)=none:=by rfl):PG X (.Tuple es k pos) (gTup X.K n t):=by
  intro pins s σ H v u Q I r hw
  obtain ⟨a,xs,e1,hq,hl,hw⟩:=hw
  subst e1
  cases r
  obtain ⟨its,rv,ht,hz⟩:=I.tuple hq
  refine assign_Tuple_tuple (I.ok.hd hc) ht (by simp [hn,← hl,rv.length]) hst fun h' hx=>?_
  have I1:Inv X pins σ H { s with heap:=h' }:=I.kept (t':=s.toks) fun b o e=>hx b o (Nat.ne_of_lt (Heap.lt_size e)) e
  exact h pins _ σ H xs _ Q I1 (by simpa using rv) hw
def gSub (to ti:TE) (t:TSet):TG:=fun v σ H Q=>to σ H fun o H1=>ti σ H1 fun i H2=>t o i v H2 fun H3=>Q σ H3
theorem xd8 {o i:Expr} {to ti:TE} {t:TSet} (ho:PE X o to) (hi:PE X i ti) (hs:PSet X t)
    (ha:∀ v,assign (.Subscript o i pos) X.env v=(do
      let ov ← holding [v] (eval o X.env)
      let iv ← holding [v,ov] (eval i X.env)
      standAt pos
      holding [v,ov,iv] (setItem ov iv v)
      release [v,ov,iv] []):=by intro _; rfl):PG X (.Subscript o i pos) (gSub to ti t):=by
  intro pins s σ H v u Q I r h
  rw [ha]
  refine wpAny_bind (wpAny_holding (thn (ho pins s σ H _ I h) fun ov s1 ⟨x,H1,I1,r1,q1⟩=>?_))
  refine wpAny_bind (wpAny_holding (thn (hi pins s1 σ H1 _ I1 q1) fun iv s2 ⟨y,H2,I2,r2,q2⟩=>?_))
  refine wpAny_bind (wpAny_standAt (wpAny_bind (wpAny_holding (thn (hs pins s2 σ H2 x y v ov iv u _ I2 r1 r2 r q2) fun _ s3 ⟨H3,I3,q3⟩=>?_))))
  exact wpAny_release ⟨σ,H3,I3,q3⟩
def tAsg (te:TE) (g:TG):TS:=fun D σ H=>te σ H fun x H1=>g x σ H1 D.nx
theorem xbx {tg e:Expr} {te:TE} {g:TG} (he:PE X e te) (hg:PG X tg g) (hs:swapsWithSole [tg] e pos.line X.env=pure false:=by rfl) (hw:swappedStores [tg] e X.env=pure none:=by rfl)
    (h1:(assignEach [tg] X.env).map (·.2)=[assign tg X.env]:=by rfl):PS X (.Assign [tg] e pos) (tAsg te g):=by
  intro pins s σ H D I h
  refine wpAny_Assign_stores (thn (he pins s σ H _ I h) fun v s1 ⟨x,H1,I1,r1,q1⟩=>?_) hs hw
  rw [h1]
  exact thn (hg pins s1 σ H1 x v _ I1 r1 q1) fun _ s2 q=>q
theorem xae {i:Nat} {x:Str} {e:Expr} {te:TE} {pos':Pos} (hN:X.N.Nodup) (hi:X.N[i]?=some x) (hx:Loc X.env.scope x) (he:PE X e te) (hs:swapsWith e (some (.Name x pos')) pos.line X.env=pure false:=by rfl) (hf:X.fn x=true∨X.env.scope.names.lookup x=some .local:=by first | exact .inl rfl | exact .inr rfl | assumption) :
    PS X (.Assign [.Name x pos'] e pos) (tAsg te (xfh i)):=by
  intro pins s σ H D I h
  refine wpAny_Assign_Name (thn (he pins s σ H _ I h) fun v s1 ⟨y,H1,I1,r1,q1⟩=>?_) hs
  exact xfw I1 hN hi hx r1 (fun s2 I2=>⟨_,H1,I2,q1⟩) hf
end
section
variable {X:Cx} {pos:Pos}
end
structure It where
 go:Nat→Hp→Prop
 yld:Nat→Hp→V→Hp→Prop
 stop:Nat→Hp→Prop
def FpOk (X:Cx) (pins:List (Addr × Obj)) (H:Hp) (b:Addr):Prop :=
 H b=none∧b≠X.env.locals∧b ∉ X.fs∧(b ∈ X.ex∨X.s₀.heap.objs.size≤b)∧(∀ x c,X.env.cells.lookup x=some c→c≠b)∧∀ p ∈ X.pn ++ pins,p.1≠b
theorem Inv.fpOk {X:Cx} {pins:List (Addr × Obj)} {σ:St} {H H':Hp} {s:Shared} {b:Addr} (I:Inv X pins σ H s) (hb:s.heap.objs.size≤b) (hn:H' b=none):FpOk X pins H' b:=by
 refine ⟨hn,Nat.ne_of_gt (Nat.lt_of_lt_of_le I.lt hb),I.nofs hb,.inr (Nat.le_trans I.sz hb),fun x c e z=>?_,fun p hp z=>?_⟩
 ·obtain ⟨v,q⟩:=I.cell x c e
  exact absurd (Nat.lt_of_lt_of_le q.lt (by rw [z]; exact hb)) (Nat.lt_irrefl _)
 ·exact absurd (Nat.lt_of_lt_of_le (Heap.lt_size (I.pin p hp).1) (by rw [z]; exact hb)) (Nat.lt_irrefl _)
structure Turn (P:Program) (w:World) (K:PySem.W.Frag) (tg:Expr) (J:It) (fp:List Addr) (it:Addr) (tn:Nat→Heap→Prop):Prop where
 mem:it ∈ fp
 obj:∀ i h,tn i h→∀ b ∈ fp,∃ o,h.get? b=some o∧∀ v,o.data≠.cell v
 keep:∀ i h h',tn i h→(∀ b ∈ fp,∀ o,h.get? b=some o→h'.get? b=some o)→tn i h'
 item:∀ (X:Cx),X.prog=P→X.w=w→X.K=K→X.calm=true→∀ (i:Nat) (pins:List (Addr × Obj)) (s:Shared) (σ:St) (H:Hp) (E:Value→Shared→Prop),Inv X pins σ H s→(∀ b ∈ fp,FpOk X pins H b)→tn i s.heap→J.go i H →
  wpAny (model P w) X.A (pyNext (.ref it)) (fun r s1=>∃ u,r=some u ∧
   wpAny (model P w) X.A (letOwnedTupleGo tg (.ref it) u) (fun _ s2=>∃ x H',Inv X pins σ H' s2∧RelV x u∧J.yld i H x H'∧tn (i + 1) s2.heap∧∀ b ∈ fp,H' b=none) E s1) E s
 done:∀ (X:Cx),X.prog=P→X.w=w→X.K=K→X.calm=true→∀ (i:Nat) (pins:List (Addr × Obj)) (s:Shared) (σ:St) (H:Hp) (E:Value→Shared→Prop),Inv X pins σ H s→(∀ b ∈ fp,FpOk X pins H b)→tn i s.heap→J.stop i H →
  wpAny (model P w) X.A (pyNext (.ref it)) (fun r s1=>r=none∧Inv X pins σ H s1) E s
 self:∀ (A:Around) (i:Nat) (s:Shared) (Q:Value→Shared→Prop) (E:Value→Shared→Prop),tn i s.heap→Q (.ref it) s→wpAny (model P w) A (pyIter (.ref it)) Q E s
abbrev TI:=St→Hp→(It→Hp→Prop)→Prop
def PIE (X:Cx) (pins:List (Addr × Obj)) (σ:St) (tg:Expr) (R:It→Hp→Prop) (itv:Value) (s2:Shared):Prop :=
 ∃ (it:Addr) (fp:List Addr) (tn:Nat→Heap→Prop) (J:It) (H':Hp),itv=.ref it∧Inv X pins σ H' s2∧Turn X.prog X.w X.K tg J fp it tn∧tn 0 s2.heap∧(∀ b ∈ fp,FpOk X pins H' b)∧R J H'
def PI (X:Cx) (tg iter:Expr) (wi:TI):Prop :=
 ∀ (pins:List (Addr × Obj)) (s:Shared) (σ:St) (H:Hp) (R:It→Hp→Prop),Inv X pins σ H s→wi σ H R →
  wpAny (model X.prog X.w) X.A (eval iter X.env) (fun v s1=>wpAny (model X.prog X.w) X.A (pyIter v) (PIE X pins σ tg R) X.xe s1) X.xe s
theorem xmo {M:Model} {A:Around} {E:Value→Shared→Prop} {s:Shared} {tg:Expr} {it:Addr} {u:Value} {o:Obj} {n:String} {vs:Array Value} {Q:Unit→Shared→Prop} (ho:s.heap.get? it=some o) (hc:o.cls=.type n) (hd:o.data=.fields vs)
    (hn:["enumerate", "zip", "dict_itemiterator", "dict_reverseitemiterator", "odict_iterator", "itertools.zip_longest", "itertools.pairwise"].contains n=false) (hQ:Q () s):wpAny M A (letOwnedTupleGo tg (.ref it) u) Q E s:=by
  unfold letOwnedTupleGo
  cases tg <;> first
    | exact wpAny_pure hQ
    | (cases u <;> first
        | exact wpAny_pure hQ
        | (refine wpAny_bind (wpAny_load ho ?_)
           rw [hc,hd]
           show wpAny M A (if (["enumerate", "zip", "dict_itemiterator", "dict_reverseitemiterator", "odict_iterator", "itertools.zip_longest", "itertools.pairwise"].contains n && vs[0]? == some (rawInt _))=true then _ else _) Q E s
           rw [if_neg (by intro h; rw [hn,Bool.false_and] at h; cases h)]
           exact wpAny_pure hQ))
def Itl (K:PySem.W.Frag) (a:Addr):It :=
 ⟨fun i H=>∃ xs x,SqL K H a xs∧xs[i]?=some x,fun i H x H'=>H'=H∧∀ xs,SqL K H a xs→xs[i]?=some x,fun i H=>∃ xs,SqL K H a xs∧xs.length≤i⟩
def Itr (lo:Int) (n:Nat):It:=⟨fun i _=>i < n,fun i H x H'=>H'=H∧x=.int (lo + i),fun i _=>n≤i⟩
theorem xlj {P:Program} {w:World} {K:PySem.W.Frag} {tg:Expr} (a it:Addr):Turn P w K tg (Itl K a) [it] it (fun i h=>h.IsListIter it a i) where
 mem:=by simp
 obj:=fun i h st b hb=>by
  have e:b=it:=by simpa using hb
  subst e
  obtain ⟨o,e,c,d⟩:=st
  exact ⟨o,e,fun v z=>by rw [d] at z; cases z⟩
 keep:=fun i h h' st k=>st.at fun o e=>k it (by simp) o e
 item:=by
  intro X hP hw hK hc i pins s σ H E I hf st hg
  subst hP hw hK
  obtain ⟨xs,x,hq,hx⟩:=hg
  obtain ⟨its,rv,p,hz⟩:=I.list hq
  obtain ⟨u,hu,ru⟩:=rv.get hx
  obtain ⟨f0,f1,f2,f3,f4,f5⟩:=hf it (by simp)
  refine wpAny_pyNext_list_item st p.isList (x:=u) (by simpa using hu) fun h' st' sb=>?_
  have I1:Inv X pins σ H { s with heap:=h' }:=I.turned (t':=s.toks) (fun b o hb e=>(sb.2 b hb).trans e) f0 f1 f3 f4 f5
  obtain ⟨o,e,c,d⟩:=id st'
  exact ⟨u,rfl,xmo (s:={ s with heap:=h' }) e c d (by decide) ⟨x,H,I1,ru,⟨rfl,fun ys hy=>by rw [I.list_inj hy hq]; exact hx⟩,st',fun b hb=>(hf b hb).1⟩⟩
 done:=by
  intro X hP hw hK hc i pins s σ H E I hf st hg
  subst hP hw hK
  obtain ⟨xs,hq,hx⟩:=hg
  obtain ⟨its,rv,p,hz⟩:=I.list hq
  obtain ⟨f0,f1,f2,f3,f4,f5⟩:=hf it (by simp)
  have hl:=rv.length
  exact wpAny_pyNext_list_end (I.ok.hd hc) st p.isList (by simp; omega) fun h' eb=>⟨rfl,I.turned (t':=s.toks) (fun b o hb e=>eb b o hb e) f0 f1 f3 f4 f5⟩
 self:=fun _ _ _ _ _ st h=>wpAny_pyIter_listiter st h
theorem xjy {P:Program} {w:World} {K:PySem.W.Frag} {tg:Expr} (it:Addr) (lo:Int) (n:Nat):Turn P w K tg (Itr lo n) [it] it (fun i h=>IsRangeIter h it (lo + (i:Nat) * 1) ((n:Int) - (i:Nat)) 1) where
 mem:=by simp
 obj:=fun i h st b hb=>by
  have e:b=it:=by simpa using hb
  subst e
  exact ⟨_,st,fun v z=>by
   have z':Data.fields _=Data.cell v:=z
   cases z'⟩
 keep:=fun i h h' st k=>k it (by simp) _ st
 item:=by
  intro X hP hw hK hc i pins s σ H E I hf st hg
  subst hP hw hK
  obtain ⟨f0,f1,f2,f3,f4,f5⟩:=hf it (by simp)
  have W:=Walks.range (prog:=X.prog) (w:=X.w) (I.ok.hd hc) it lo 1 n
  refine W.item i s _ _ hg st fun v h' tk hv st' kk=>?_
  obtain ⟨t,rfl⟩:=hv
  have I1:Inv X pins σ H { s with heap:=h',toks:=tk }:=I.turned (fun b o hb e=>kk b o (by simpa using hb) e) f0 f1 f3 f4 f5
  refine ⟨_,rfl,xmo (s:={ s with heap:=h',toks:=tk }) (n:="range_iterator") st' rfl rfl (by decide) ⟨.int (lo + i),H,I1,⟨t,?_⟩,⟨rfl,rfl⟩,st',fun b hb=>(hf b hb).1⟩⟩
  rw [Int.mul_one]
 done:=by
  intro X hP hw hK hc i pins s σ H E I hf st hg
  subst hP hw hK
  obtain ⟨f0,f1,f2,f3,f4,f5⟩:=hf it (by simp)
  exact wpAny_pyNext_range_end (I.ok.hd hc) st (by have:n≤i:=hg; omega) fun h' eb=>⟨rfl,I.turned (t':=s.toks) (fun b o hb e=>eb b o hb e) f0 f1 f3 f4 f5⟩
 self:=fun _ _ _ _ _ st h=>wpAny_pyIter_rangeiter st h
end L2
namespace L2
open PySem PySem.Spec PyProof.Rows
variable {q0:Bool}
section
variable {X:Cx} {tg:Expr}
def xp8 (K:PySem.W.Frag) (tl:TE):TI:=fun σ H R=>tl σ H fun x H1=>∃ a,x=.ref a∧(∃ xs,SqL K H1 a xs)∧R (Itl K a) H1
theorem xa0 {l:Expr} {tl:TE} (hl:PE X l tl):PI X tg l (xp8 X.K tl):=by
 intro pins s σ H R I h
 refine thn (hl pins s σ H _ I h) fun v s1 ⟨x,H1,I1,r1,q1⟩=>?_
 obtain ⟨a,e,⟨xs,hq⟩,q⟩:=q1
 subst e
 cases r1
 obtain ⟨its,rv,p,hz⟩:=I1.list hq
 refine wpAny_pyIter_list p.isList ?_
 refine ⟨s1.heap.objs.size,[s1.heap.objs.size],_,_,H1,rfl,I1.kept (t':=s1.toks) fun b o e=>Heap.get?_push_of_some _ e,xlj a _,⟨_,Heap.get?_push_size _ rfl,rfl,rfl⟩,fun b hb=>?_,q⟩
 have e:b=s1.heap.objs.size:=by simpa using hb
 subst e
 exact I1.fpOk (Nat.le_refl _) (I1.hok.fresh (Nat.le_refl _))
theorem xin {pins:List (Addr × Obj)} {σ:St} {H:Hp} {s:Shared} {R:It→Hp→Prop} {E:Value→Shared→Prop} {lo hi:Int} {t u v:Tok} {tk:Nat} (I:Inv X pins σ H s) (h1:-(2 ^ 62)≤lo) (h2:lo < 2 ^ 62) (h3:-(2 ^ 62)≤hi) (h4:hi < 2 ^ 62)
    (q:R (Itr lo (hi - lo).toNat) H):wpAny (model X.prog X.w) X.A (pyIter (.ref s.heap.objs.size)) (PIE X pins σ tg R) E { s with heap:=s.heap.push { cls:=.type "range",data:=.fields #[.int lo t,.int hi u,.int 1 v] },toks:=tk }:=by
  refine wpAny_pyIter_range (IsRange.new ..) (small_one h1 h2 h3 h4) ?_
  have I1:Inv X pins σ H { s with heap:=s.heap.push { cls:=.type "range",data:=.fields #[.int lo t,.int hi u,.int 1 v] },toks:=tk }:=I.kept fun b o e=>Heap.get?_push_of_some _ e
  refine ⟨(s.heap.push { cls:=.type "range",data:=.fields #[.int lo t,.int hi u,.int 1 v] }).objs.size,[(s.heap.push { cls:=.type "range",data:=.fields #[.int lo t,.int hi u,.int 1 v] }).objs.size],_,_,H,rfl,
    I1.kept (t':=tk) fun b o e=>Heap.get?_push_of_some _ e,xjy _ lo (hi - lo).toNat,?_,fun b hb=>?_,q⟩
  · have e1:lo + ((0:Nat):Int) * 1=lo:=by simp
    have e2:(((hi - lo).toNat:Nat):Int) - ((0:Nat):Int)=Builtin.Range.rangeSize lo hi 1:=by rw [rangeSize_one]; split <;> omega
    show IsRangeIter _ _ (lo + ((0:Nat):Int) * 1) ((((hi - lo).toNat:Nat):Int) - ((0:Nat):Int)) 1
    rw [e1,e2]
    exact Heap.get?_push_size _ rfl
  · have e:b=(s.heap.push { cls:=.type "range",data:=.fields #[.int lo t,.int hi u,.int 1 v] }).objs.size:=by simpa using hb
    subst e
    exact I1.fpOk (Nat.le_refl _) (I1.hok.fresh (Nat.le_refl _))
def xpy (ta:TA):TI:=fun σ H R=>ta σ H fun vs H1=>∃ j:Int,vs=[.int j]∧-(2 ^ 62)≤j∧j < 2 ^ 62∧R (Itr 0 j.toNat) H1
def xqj (ta:TA):TI:=fun σ H R=>ta σ H fun vs H1=>∃ i j:Int,vs=[.int i,.int j]∧(-(2 ^ 62)≤i∧i < 2 ^ 62∧-(2 ^ 62)≤j∧j < 2 ^ 62)∧R (Itr i (j - i).toNat) H1
theorem xe2 {a:Expr} {ta:TA} {p pos:Pos} (hg:Gl X "range") (hm:X.mg "range"=none) (ha:PA X [a] ta) (hs:starEach [a] X.env=[(false,eval a X.env)]:=by rfl):PI X tg (.Call (.Name "range" p) [a] [] pos) (xpy ta):=by
 intro pins s σ H R I h
 refine Call_ (xen I hg hm boot_range (PyProof.Rows.callWith_type1 (thn (ha pos pins s σ H _ I h) fun us s1 ⟨vs,H1,I1,r1,q1⟩=>?_) hs rfl))
 obtain ⟨j,e,q1,q2,q⟩:=q1
 subst e
 cases r1 with
 | cons r rr =>
  cases rr
  obtain ⟨t,rfl⟩:=r
  exact call_range_1 (xin I1 (by omega) (by omega) q1 q2 (by simpa using q))
theorem xkq {a b:Expr} {ta:TA} {p pos:Pos} (hg:Gl X "range") (hm:X.mg "range"=none) (ha:PA X [a,b] ta) (hs:starEach [a,b] X.env=[(false,eval a X.env),(false,eval b X.env)]:=by rfl) (hs2:starEach [b] X.env=[(false,eval b X.env)]:=by rfl) :
    PI X tg (.Call (.Name "range" p) [a,b] [] pos) (xqj ta):=by
  intro pins s σ H R I h
  refine Call_ (xen I hg hm boot_range (PyProof.Rows.callWith_type1 (thn (ha pos pins s σ H _ I h) fun us s1 ⟨vs,H1,I1,r1,q1⟩=>?_) (by rw [hs,hs2]) (by rw [hs2]; rfl)))
  obtain ⟨i,j,e,⟨q1,q2,q3,q4⟩,q⟩:=q1
  subst e
  cases r1 with
  | cons r rr =>
    cases rr with
    | cons r' rr =>
      cases rr
      obtain ⟨t,rfl⟩:=r
      obtain ⟨t',rfl⟩:=r'
      exact call_range_2 (xin I1 q1 q2 q3 q4 q)
def tFor (wi:TI) (g:TG) (tb:TS):TS:=fun D σ H=>wi σ H fun J H1=>∃ W:Nat→Nat→St→Hp→Prop,(∃ m,W 0 m σ H1)∧∀ i m σ H,W i m σ H →
 (J.stop i H∧D.nx σ H)∨(J.go i H∧∃ N:St→Hp→Prop,(∀ σ' H',N σ' H'→∃ m',m' < m∧W (i + 1) m' σ' H')∧∀ x H',J.yld i H x H'→g x σ H' fun σ2 H2=>tb { D with nx:=N,ct:=N,bk:=D.nx } σ2 H2)
def xey (fp:List Addr) (h:Heap):List (Addr × Obj):=fp.filterMap fun b=>(h.get? b).map fun o=>(b,o)
theorem xdd {fp:List Addr} {h:Heap} {b:Addr} {o:Obj} (hb:b ∈ fp) (e:h.get? b=some o):(b,o) ∈ xey fp h:=List.mem_filterMap.mpr ⟨b,hb,by rw [e]; rfl⟩
theorem xli {fp:List Addr} {h:Heap} {p:Addr × Obj} (hp:p ∈ xey fp h):p.1 ∈ fp∧h.get? p.1=some p.2:=by
 obtain ⟨b,hb,e⟩:=List.mem_filterMap.mp hp
 cases q:h.get? b with
 | none=>rw [q] at e; cases e
 | some o =>
  rw [q] at e
  have e':(b,o)=p:=Option.some.inj e
  subst e'
  exact ⟨hb,q⟩
theorem Inv.pinned {pins:List (Addr × Obj)} {σ:St} {H:Hp} {s:Shared} {fp:List Addr} (I:Inv X pins σ H s) (hf:∀ b ∈ fp,FpOk X pins H b) (ho:∀ b ∈ fp,∃ o,s.heap.get? b=some o∧∀ v,o.data≠.cell v):Inv X (pins ++ xey fp s.heap) σ H s :=
 I.pins_of fun p hp=>(List.mem_append.mp hp).elim (fun z=>I.pin p (List.mem_append_right _ z)) fun z=>by
  obtain ⟨hb,e⟩:=xli z
  obtain ⟨f0,f1,f2,_⟩:=hf p.1 hb
  obtain ⟨o,e',d⟩:=ho p.1 hb
  rw [e] at e'; cases e'
  exact ⟨e,f0,f1,f2,d⟩
theorem Inv.unpinned {pins pl:List (Addr × Obj)} {σ:St} {H:Hp} {s:Shared} (I:Inv X (pins ++ pl) σ H s):Inv X pins σ H s:=I.pins_of fun p hp=>I.pin p (List.mem_append_right _ (List.mem_append_left _ hp))
theorem xbr {iter:Expr} {body:List Stmt} {wi:TI} {g:TG} {tb:TS} {pos:Pos} (hp:PassesOwn (model X.prog X.w) X.A X.env X.xe) (hc:X.calm=true) (hi:PI X tg iter wi) (hg:PG X tg g) (hb:PSs X body tb)
    (hs:∀ x,foldedSetIterable iter X.env x=pure x:=by intro _; rfl):PS X (.For tg iter body [] pos) (tFor wi g tb):=by
  intro pins s σ H D I h
  refine wpAny_For (thn (hi pins s σ H _ I h) fun v s1 h1=>thn h1 fun itv s2 h2=>?_) hs
  obtain ⟨it,fp,tn,J,H2,e,I2,T,st2,f2,W,⟨m0,w0⟩,turn⟩:=h2
  subst e
  -- what stays true of the iterator's objects through the loop
  have stat:∀ {H':Hp},(∀ b ∈ fp,H' b=none)→∀ b ∈ fp,FpOk X pins H' b:=fun hn b hb=>⟨hn b hb,(f2 b hb).2⟩
  refine codeAny_forLoop_any (fun n s'=>∃ i σ' H',Inv X pins σ' H' s'∧tn i s'.heap∧(∀ b ∈ fp,H' b=none)∧W i n σ' H') ?_ m0 ⟨0,σ,H2,I2,st2,fun b hb=>(f2 b hb).1,w0⟩
  rintro n s3 ⟨i,σ3,H3,I3,st3,fr3,w3⟩
  rcases turn i n σ3 H3 w3 with ⟨stop,qn⟩ | ⟨go,N,hN,step⟩
  · refine wpAny_passesOwn hp (thn (T.done X rfl rfl rfl hc i pins s3 σ3 H3 X.xe I3 (stat fr3) st3 stop) fun r s4 ⟨hr,I4⟩=>?_)
    subst hr
    exact wpAny_execs_nil ⟨σ3,H3,I4,qn⟩
  · refine wpAny_passesOwn hp (thn (T.item X rfl rfl rfl hc i pins s3 σ3 H3 X.xe I3 (stat fr3) st3 go) fun r s4 ⟨u,hr,h4⟩=>?_)
    subst hr
    refine wpAny_passesOwn hp (thn h4 fun _ s5 ⟨x,H5,I5,r5,y5,st5,fr5⟩=>?_)
    have I5':=I5.pinned (stat fr5) (T.obj _ _ st5)
    refine wpAny_passesOwn hp (thn (hg _ s5 σ3 H5 x u _ I5' r5 (step x H5 y5)) fun _ s6 ⟨σ6,H6,I6,q6⟩=>?_)
    refine wpAny_passesOwn hp (thn (hb _ s6 σ6 H6 _ I6 q6) fun f s7 q7=>?_)
    have again:∀ {σ7:St} {H7:Hp},Inv X (pins ++ xey fp s5.heap) σ7 H7 s7→N σ7 H7→∃ m,m < n∧∃ i σ' H',Inv X pins σ' H' s7∧tn i s7.heap∧(∀ b ∈ fp,H' b=none)∧W i m σ' H':=fun {σ7 H7} I7 n7=>by
      obtain ⟨m',hm,w7⟩:=hN σ7 H7 n7
      refine ⟨m',hm,i + 1,σ7,H7,I7.unpinned,T.keep _ _ _ st5 fun b hb o e=>(I7.pin (b,o) (List.mem_append_right _ (List.mem_append_right _ (xdd hb e)))).1,fun b hb=>?_,w7⟩
      obtain ⟨o,e,d⟩:=T.obj _ _ st5 b hb
      exact (I7.pin (b,o) (List.mem_append_right _ (List.mem_append_right _ (xdd hb e)))).2.1
    cases f with
    | next=>obtain ⟨σ7,H7,I7,n7⟩:=q7; exact again I7 n7
    | cont=>obtain ⟨σ7,H7,I7,n7⟩:=q7; exact again I7 n7
    | brk=>obtain ⟨σ7,H7,I7,q7⟩:=q7; exact ⟨σ7,H7,I7.unpinned,q7⟩
    | ret v=>obtain ⟨x7,σ7,H7,I7,r7,q7⟩:=q7; exact ⟨x7,σ7,H7,I7.unpinned,r7,q7⟩
end
theorem xbo {K:PySem.W.Frag} {a:Addr} {xs:List V} {g:TG} {tb:TS} {D:Ends} {σ:St} {H:Hp} (Pv:Nat→St→Hp→Prop) (h0:Pv 0 σ H) (hl:∀ i σ H,i≤xs.length→Pv i σ H→SqL K H a xs)
    (hs:∀ i x σ H,xs[i]?=some x→Pv i σ H→g x σ H fun σ2 H2=>tb { D with nx:=Pv (i + 1),ct:=Pv (i + 1),bk:=D.nx } σ2 H2) (hd:∀ σ H,Pv xs.length σ H→D.nx σ H) :
    ∃ W:Nat→Nat→St→Hp→Prop,(∃ m,W 0 m σ H)∧∀ i m σ H,W i m σ H →
      ((Itl K a).stop i H∧D.nx σ H)∨((Itl K a).go i H∧∃ N:St→Hp→Prop,(∀ σ' H',N σ' H'→∃ m',m' < m∧W (i + 1) m' σ' H')∧∀ x H',(Itl K a).yld i H x H'→g x σ H' fun σ2 H2=>tb { D with nx:=N,ct:=N,bk:=D.nx } σ2 H2):=by
  refine ⟨fun i m σ H=>m=xs.length - i∧i≤xs.length∧Pv i σ H,⟨xs.length,by simp,Nat.zero_le _,h0⟩,?_⟩
  rintro i m σ H ⟨rfl,hi,p⟩
  have q:=hl i σ H hi p
  by_cases hlt:i < xs.length
  · refine .inr ⟨⟨xs,xs[i],q,by simp [hlt]⟩,Pv (i + 1),fun σ' H' p'=>⟨xs.length - (i + 1),by omega,rfl,hlt,p'⟩,fun x H' y=>?_⟩
    obtain ⟨e,y⟩:=y
    subst e
    exact hs i x σ _ (y xs q) p
  · have e:i=xs.length:=by omega
    subst e
    exact .inl ⟨⟨xs,q,Nat.le_refl _⟩,hd σ H p⟩
theorem xg1 {lo:Int} {n:Nat} {g:TG} {tb:TS} {D:Ends} {σ:St} {H:Hp} (Pv:Nat→St→Hp→Prop) (h0:Pv 0 σ H)
    (hs:∀ i σ H,i < n→Pv i σ H→g (.int (lo + i)) σ H fun σ2 H2=>tb { D with nx:=Pv (i + 1),ct:=Pv (i + 1),bk:=D.nx } σ2 H2) (hd:∀ σ H,Pv n σ H→D.nx σ H) :
    ∃ W:Nat→Nat→St→Hp→Prop,(∃ m,W 0 m σ H)∧∀ i m σ H,W i m σ H →
      ((Itr lo n).stop i H∧D.nx σ H)∨((Itr lo n).go i H∧∃ N:St→Hp→Prop,(∀ σ' H',N σ' H'→∃ m',m' < m∧W (i + 1) m' σ' H')∧∀ x H',(Itr lo n).yld i H x H'→g x σ H' fun σ2 H2=>tb { D with nx:=N,ct:=N,bk:=D.nx } σ2 H2):=by
  refine ⟨fun i m σ H=>m=n - i∧i≤n∧Pv i σ H,⟨n,by simp,Nat.zero_le _,h0⟩,?_⟩
  rintro i m σ H ⟨rfl,hi,p⟩
  by_cases hlt:i < n
  · refine .inr ⟨hlt,Pv (i + 1),fun σ' H' p'=>⟨n - (i + 1),by omega,rfl,hlt,p'⟩,fun x H' y=>?_⟩
    obtain ⟨e,y⟩:=y
    subst e y
    exact hs i σ _ hlt p
  · have e:i=n:=by omega
    subst e
    exact .inl ⟨Nat.le_refl _,hd σ H p⟩
end L2
namespace L2
open PySem PySem.Spec PyProof.Rows
variable {q0:Bool}
abbrev R2:=V→V→Hp→VK→Prop
def OpR (X:Cx) (f:Value→Value→Sem Value) (r:R2):Prop :=
 ∀ (pins:List (Addr × Obj)) (s:Shared) (σ:St) (H:Hp) (x y:V) (v u:Value) (Q:VK),Inv X pins σ H s→RelV x v→RelV y u→r x y H Q →
  wpAny (model X.prog X.w) X.A (f v u) (EP X pins σ Q) X.xe s
def xct (X:Cx) (f:Value) (r:List V→Hp→VK→Prop):Prop :=
 ∀ (pins:List (Addr × Obj)) (s:Shared) (σ:St) (H:Hp) (xs:List V) (us:List Value) (Q:VK),Inv X pins σ H s→Vals xs us→r xs H Q →
  wpAny (model X.prog X.w) X.A (call f us) (EP X pins σ Q) X.xe s
def tOp (r:R2) (ta tb:TE):TE:=fun σ H Q=>ta σ H fun x H1=>tb σ H1 fun y H2=>r x y H2 Q
def rI (C:Int→Int→Prop) (g:Int→Int→V):R2:=fun x y H Q=>∃ i j,x=.int i∧y=.int j∧C i j∧Q (g i j) H
def rI0 (g:Int→Int→V):R2:=fun x y H Q=>∃ i j,x=.int i∧y=.int j∧Q (g i j) H
section
variable {X:Cx} {a b c:Expr} {ta tb tc:TE} {pos:Pos}
theorem binT (ha:PE X a ta) (hb:PE X b tb) {pins:List (Addr × Obj)} {s:Shared} {σ:St} {H:Hp} {R:V→V→Hp→Prop} (I:Inv X pins σ H s)
    (h:ta σ H fun x H1=>tb σ H1 fun y H2=>R x y H2) {Q:Value→Shared→Prop} {f:Value→Value→Sem Value}
    (hf:∀ v u s2 x y H2,Inv X pins σ H2 s2→RelV x v→RelV y u→R x y H2→wpAny (model X.prog X.w) X.A (f v u) Q X.xe s2) :
    wpAny (model X.prog X.w) X.A (eval a X.env) (fun v s₁=>wpAny (model X.prog X.w) X.A (eval b X.env) (fun u s₂=>wpAny (model X.prog X.w) X.A (f v u) Q X.xe s₂) X.xe s₁) X.xe s:=by
  refine thn (ha pins s σ H _ I h) fun v s1 ⟨x,H1,I1,r1,q1⟩=>?_
  refine thn (hb pins s1 σ H1 _ I1 q1) fun u s2 ⟨y,H2,I2,r2,q2⟩=>?_
  exact hf v u s2 x y H2 I2 r1 r2 q2
theorem xu {op:Operator} {r:R2} (ho:OpR X (binaryOp op) r) (ha:PE X a ta) (hb:PE X b tb):PE X (.BinOp a op b pos) (tOp r ta tb):=by
 intro pins s σ H Q I h
 exact wpAny_BinOp (binT ha hb I h fun v u s2 x y H2 I2 rx ry q=>ho pins s2 σ H2 x y v u Q I2 rx ry q)
theorem opI {f:Value→Value→Sem Value} {C:Int→Int→Prop} {g:Int→Int→Int}
    (rule:∀ (i j:Int) (t u:Tok) (s:Shared) (Q:Value→Shared→Prop) (E:Value→Shared→Prop),C i j→Q (.int (g i j) s.toks) { s with toks:=s.toks + 1 }→wpAny (model X.prog X.w) X.A (f (.int i t) (.int j u)) Q E s) :
    OpR X f (rI C fun i j=>.int (g i j)):=by
  intro pins s σ H x y v u Q I rx ry h
  obtain ⟨i,j,rfl,rfl,hc,q⟩:=h
  obtain ⟨t,rfl⟩:=rx
  obtain ⟨t',rfl⟩:=ry
  exact rule i j t t' s _ _ hc ⟨.int (g i j),H,I.tok _,⟨_,rfl⟩,q⟩
theorem opI0 {f:Value→Value→Sem Value} {g:Int→Int→Int}
    (rule:∀ (i j:Int) (t u:Tok) (s:Shared) (Q:Value→Shared→Prop) (E:Value→Shared→Prop),Q (.int (g i j) s.toks) { s with toks:=s.toks + 1 }→wpAny (model X.prog X.w) X.A (f (.int i t) (.int j u)) Q E s) :
    OpR X f (rI0 fun i j=>.int (g i j)):=by
  intro pins s σ H x y v u Q I rx ry h
  obtain ⟨i,j,rfl,rfl,q⟩:=h
  obtain ⟨t,rfl⟩:=rx
  obtain ⟨t',rfl⟩:=ry
  exact rule i j t t' s _ _ ⟨.int (g i j),H,I.tok _,⟨_,rfl⟩,q⟩
theorem opB0 {f:Value→Value→Sem Value} {g:Int→Int→Bool}
    (rule:∀ (i j:Int) (t u:Tok) (s:Shared) (Q:Value→Shared→Prop) (E:Value→Shared→Prop),Q (.bool (g i j)) s→wpAny (model X.prog X.w) X.A (f (.int i t) (.int j u)) Q E s) :
    OpR X f (rI0 fun i j=>.bl (g i j)):=by
  intro pins s σ H x y v u Q I rx ry h
  obtain ⟨i,j,rfl,rfl,q⟩:=h
  obtain ⟨t,rfl⟩:=rx
  obtain ⟨t',rfl⟩:=ry
  exact rule i j t t' s _ _ ⟨.bl (g i j),H,I,rfl,q⟩
def CDiv (i j:Int):Prop:=0 < j∧j < 1073741824
def CPow (i j:Int):Prop:=0≤j∧j≤1000000∧i.natAbs < 2 ^ 64
def CMul (i j:Int):Prop:=(-(2 ^ 64) < i∧i < 2 ^ 64)∨(-(2 ^ 64) < j∧j < 2 ^ 64)
theorem CMul.ok {i j:Int} (h:CMul i j):IntMulOk i j:=by
 rcases h with ⟨h1,h2⟩ | ⟨h1,h2⟩
 ·exact .of_left (intBits_le_64 h1 h2)
 ·exact .of_right (intBits_le_64 h1 h2)
theorem xj6 (k:Nat):(0:Int)≤2 ^ k:=by
 rw [two_pow_cast]
 exact Int.natCast_nonneg _
theorem xa3:OpR X (binaryOp .Add) (rI0 fun i j=>.int (i + j)):=opI0 fun _ _ _ _ _ _ _ q=>add_int q
theorem xbm:OpR X (binaryOp .Sub) (rI0 fun i j=>.int (i - j)):=opI0 fun _ _ _ _ _ _ _ q=>sub_int q
theorem xdo:OpR X (binaryOp .Mult) (rI CMul fun i j=>.int (i * j)):=opI fun _ _ _ _ _ _ _ hc q=>mul_int q hc.ok
theorem xb6:OpR X (binaryOp .FloorDiv) (rI CDiv fun i j=>.int (i / j)):=opI fun i j _ _ _ _ _ hc q=>by
 have h1:(0:Int) < j:=hc.1
 have h2:j < 1073741824:=hc.2
 exact floordiv_int (by omega) (by rw [Int.fdiv_eq_ediv_of_nonneg i (by omega)]; exact q) (.inl (PyProof.noPylong_small (by omega)))
theorem xa5:OpR X (binaryOp .Mod) (rI (fun _ j=>0 < j) fun i j=>.int (i % j)):=opI fun i j _ _ _ _ _ hc q=>by
 have h1:(0:Int) < j:=hc
 exact mod_int' (by omega) (by rw [Int.fmod_eq_emod_of_nonneg i (by omega)]; exact q)
theorem xn9:OpR X (binaryOp .Pow) (rI CPow fun i j=>.int (i ^ j.toNat)):=opI fun _ _ _ _ _ _ _ hc q=>pow_int_small hc.1 hc.2.1 hc.2.2 q
theorem xo7:OpR X (binaryOp .RShift) (rI (fun _ j=>0≤j) fun i j=>.int (i / 2 ^ j.toNat)):=opI fun i j _ _ _ _ _ hc q =>
 rshift_int hc (by rw [Int.fdiv_eq_ediv_of_nonneg i (xj6 _)]; exact q)
end
def scal:V→V→Bool
 | .non,.non=>true | .non,.int _=>true | .int _,.non=>true | .non,.bl _=>true | .bl _,.non=>true | .non,.str _=>true | .str _,.non=>true
 | .int _,.int _=>true | .bl _,.bl _=>true | .str _,.str _=>true | .byt _,.byt _=>true
 | .int _,.str _=>true | .str _,.int _=>true | .bl _,.str _=>true | .str _,.bl _=>true
 | _,_=>false
def rEq:R2:=fun x y H Q=>scal x y=true∧Q (.bl (decide (x=y))) H
def rNe:R2:=fun x y H Q=>scal x y=true∧Q (.bl (!decide (x=y))) H
theorem xjk {i j:Int}:decide (V.int i=V.int j)=(i == j):=by
 rw [Bool.eq_iff_iff]
 simp
theorem xk1 {i j:Bool}:decide (V.bl i=V.bl j)=(i == j):=by
 rw [Bool.eq_iff_iff]
 simp
theorem xi6 {i j:Str}:decide (V.str i=V.str j)=(i == j):=by
 rw [Bool.eq_iff_iff]
 simp
theorem xi8 {i j:Array UInt8}:decide (V.byt i=V.byt j)=(i.toList == j.toList):=by
 rw [Bool.eq_iff_iff]
 cases i
 cases j
 simp
section
variable {X:Cx} {a b c:Expr} {ta tb tc:TE} {pos:Pos}
theorem xaw {pins:List (Addr × Obj)} {σ:St} {H:Hp} {s:Shared} {Q:VK} {k k':Bool} (I:Inv X pins σ H s) (q:Q (.bl k) H) (e:k=k'):EP X pins σ Q (.bool k') s:=by
 subst e
 exact ⟨.bl k,H,I,rfl,q⟩
theorem xa6:OpR X (compareOp .Eq) rEq:=by
 intro pins s σ H x y v u Q I rx ry h
 obtain ⟨hs,q⟩:=h
 cases x with
 | non =>
  cases rx
  cases y with
  | non=>cases ry; exact PySem.EqNone.eq_none_none (xaw I q (by simp))
  | bl j=>cases ry; exact PySem.EqNone.eq_none_bool (xaw I q (by simp))
  | int j=>obtain ⟨t',rfl⟩:=ry; exact PySem.EqNone.eq_none_int (xaw I q (by simp))
  | str j=>obtain ⟨t',rfl⟩:=ry; exact PySem.EqNone.eq_none_str (xaw I q (by simp))
  | _=>exact absurd (show false=true from hs) Bool.false_ne_true
 | bl i =>
  cases rx
  cases y with
  | non=>cases ry; exact PySem.EqNone.eq_bool_none (xaw I q (by simp))
  | bl j=>cases ry; exact eq_bool (xaw I q xk1)
  | str j=>obtain ⟨t',rfl⟩:=ry; exact PySem.EqMixed.eq_bool_str (xaw I q (by simp))
  | _=>exact absurd (show false=true from hs) Bool.false_ne_true
 | int i =>
  obtain ⟨t,rfl⟩:=rx
  cases y with
  | non=>cases ry; exact PySem.EqNone.eq_int_none (xaw I q (by simp))
  | int j=>obtain ⟨t',rfl⟩:=ry; exact eq_int (xaw I q xjk)
  | str j=>obtain ⟨t',rfl⟩:=ry; exact PySem.EqMixed.eq_int_str (xaw I q (by simp))
  | _=>exact absurd (show false=true from hs) Bool.false_ne_true
 | str i =>
  obtain ⟨t,rfl⟩:=rx
  cases y with
  | non=>cases ry; exact PySem.EqNone.eq_str_none (xaw I q (by simp))
  | bl j=>cases ry; exact PySem.EqMixed.eq_str_bool (xaw I q (by simp))
  | int j=>obtain ⟨t',rfl⟩:=ry; exact PySem.EqMixed.eq_str_int (xaw I q (by simp))
  | str j=>obtain ⟨t',rfl⟩:=ry; exact eq_str (xaw I q xi6)
  | _=>exact absurd (show false=true from hs) Bool.false_ne_true
 | byt i =>
  obtain ⟨t,rfl⟩:=rx
  cases y with
  | byt j=>obtain ⟨t',rfl⟩:=ry; exact PySem.W.eq_bytes (xaw I q xi8)
  | _=>exact absurd (show false=true from hs) Bool.false_ne_true
 | _=>cases y <;> exact absurd (show false=true from hs) Bool.false_ne_true
theorem xhr:OpR X (compareOp .NotEq) rNe:=by
 intro pins s σ H x y v u Q I rx ry h
 obtain ⟨hs,q⟩:=h
 cases x with
 | non =>
  cases rx
  cases y with
  | non=>cases ry; exact PySem.EqNone.ne_none_none (xaw I q (by simp))
  | bl j=>cases ry; exact PySem.EqNone.ne_none_bool (xaw I q (by simp))
  | int j=>obtain ⟨t',rfl⟩:=ry; exact PySem.EqNone.ne_none_int (xaw I q (by simp))
  | str j=>obtain ⟨t',rfl⟩:=ry; exact PySem.EqNone.ne_none_str (xaw I q (by simp))
  | _=>exact absurd (show false=true from hs) Bool.false_ne_true
 | bl i =>
  cases rx
  cases y with
  | non=>cases ry; exact PySem.EqNone.ne_bool_none (xaw I q (by simp))
  | bl j=>cases ry; exact ne_bool (xaw I q (congrArg not xk1))
  | str j=>obtain ⟨t',rfl⟩:=ry; exact PySem.EqMixed.ne_bool_str (xaw I q (by simp))
  | _=>exact absurd (show false=true from hs) Bool.false_ne_true
 | int i =>
  obtain ⟨t,rfl⟩:=rx
  cases y with
  | non=>cases ry; exact PySem.EqNone.ne_int_none (xaw I q (by simp))
  | int j=>obtain ⟨t',rfl⟩:=ry; exact ne_int (xaw I q (congrArg not xjk))
  | str j=>obtain ⟨t',rfl⟩:=ry; exact PySem.EqMixed.ne_int_str (xaw I q (by simp))
  | _=>exact absurd (show false=true from hs) Bool.false_ne_true
 | str i =>
  obtain ⟨t,rfl⟩:=rx
  cases y with
  | non=>cases ry; exact PySem.EqNone.ne_str_none (xaw I q (by simp))
  | bl j=>cases ry; exact PySem.EqMixed.ne_str_bool (xaw I q (by simp))
  | int j=>obtain ⟨t',rfl⟩:=ry; exact PySem.EqMixed.ne_str_int (xaw I q (by simp))
  | str j=>obtain ⟨t',rfl⟩:=ry; exact ne_str (xaw I q (congrArg not xi6))
  | _=>exact absurd (show false=true from hs) Bool.false_ne_true
 | byt i =>
  obtain ⟨t,rfl⟩:=rx
  cases y with
  | byt j=>obtain ⟨t',rfl⟩:=ry; exact PySem.W.ne_bytes (xaw I q (congrArg not xi8))
  | _=>exact absurd (show false=true from hs) Bool.false_ne_true
 | _=>cases y <;> exact absurd (show false=true from hs) Bool.false_ne_true
theorem xpm:OpR X (compareOp .Lt) (rI0 fun i j=>.bl (decide (i < j))):=opB0 fun _ _ _ _ _ _ _ q=>lt_int q
theorem xff:OpR X (compareOp .LtE) (rI0 fun i j=>.bl (decide (i≤j))):=opB0 fun _ _ _ _ _ _ _ q=>le_int q
theorem xj8:OpR X (compareOp .Gt) (rI0 fun i j=>.bl (decide (j < i))):=opB0 fun _ _ _ _ _ _ _ q=>gt_int q
theorem xmn:OpR X (compareOp .GtE) (rI0 fun i j=>.bl (decide (j≤i))):=opB0 fun _ _ _ _ _ _ _ q=>ge_int q
theorem xkd:OpR X (compareOp .Is) (fun x y H Q=>y=.non∧Q (.bl (decide (x=.non))) H):=by
 intro pins s σ H x y v u Q I rx ry h
 obtain ⟨rfl,q⟩:=h
 cases ry
 refine is_none_gen (xaw I q ?_)
 cases x <;> first
  | (cases rx; rfl)
  | (obtain ⟨t,rfl⟩:=rx; rfl)
def isObj:HO→Bool
 | .lst _=>true
 | .ins _ _ _=>true
 | _=>false
theorem xab (b:Expr) {op:CmpOp} (h:op≠.In:=by decide) (h2:op≠.NotIn:=by decide):behindInMarks op b=false:=by
 have e1:(op == CmpOp.In)=false:=by cases op <;> first | rfl | exact absurd rfl h
 have e2:(op == CmpOp.NotIn)=false:=by cases op <;> first | rfl | exact absurd rfl h2
 cases b <;> simp [behindInMarks,e1,e2]
theorem xdg {op:CmpOp} {r:R2} (ho:OpR X (compareOp op) r) (ha:PE X a ta) (hb:PE X b tb) (hm:behindInMarks op b=false):PE X (.Compare a [op] [b] pos) (tOp r ta tb):=by
 intro pins s σ H Q I h
 exact wpAny_Compare1 (binT ha hb I h fun v u s2 x y H2 I2 rx ry q=>ho pins s2 σ H2 x y v u Q I2 rx ry q) hm
def xmq (t:TE):TT:=fun σ H Q=>t σ H fun x H'=>∃ k,x=.bl k∧Q k H'
theorem x8 {op:CmpOp} {r:R2} (ho:OpR X (compareOp op) r) (ha:PE X a ta) (hb:PE X b tb) (hm:behindInMarks op b=false):PT X (.Compare a [op] [b] pos) (xmq (tOp r ta tb)):=by
 intro pins s σ H Q I h
 refine wpAny_isTrue_Compare1 (thn (ha pins s σ H _ I h) fun v s1 ⟨x,H1,I1,r1,q1⟩=>thn (hb pins s1 σ H1 _ I1 q1) fun u s2 ⟨y,H2,I2,r2,q2⟩ =>
  thn (ho pins s2 σ H2 x y v u _ I2 r1 r2 q2) fun c s3 ⟨z,H3,I3,r3,k,e,q3⟩=>?_) hm
 subst e
 cases r3
 exact wpAny_truthy_bool ⟨H3,I3,q3⟩
def xlh (r r':R2) (ta tb tc:TE):TE:=fun σ H Q=>ta σ H fun x H1=>tb σ H1 fun y H2=>r x y H2 fun z H3=>∃ k,z=.bl k ∧
 (if k=true then tc σ H3 fun w' H4=>r' y w' H4 Q else Q (.bl false) H3)
theorem xft {op op':CmpOp} {r r':R2} (ho:OpR X (compareOp op) r) (ho':OpR X (compareOp op') r') (ha:PE X a ta) (hb:PE X b tb) (hc:PE X c tc)
    (hm:lastMarks [op,op'] [b,c]=false:=by with_unfolding_all rfl):PE X (.Compare a [op,op'] [b,c] pos) (xlh r r' ta tb tc):=by
  intro pins s σ H Q I h
  refine Compare_chain (thn (ha pins s σ H _ I h) fun v s1 ⟨x,H1,I1,r1,q1⟩=>chain_link (thn (hb pins s1 σ H1 _ I1 q1) fun u s2 ⟨y,H2,I2,r2,q2⟩ =>
    thn (ho pins s2 σ H2 x y v u _ I2 r1 r2 q2) fun d s3 ⟨z,H3,I3,r3,k,e,q3⟩=>?_)) hm
  subst e
  cases r3
  refine wpAny_truthy_bool ?_
  cases k with
  | false=>exact ite_ff ⟨.bl false,H3,I3,rfl,q3⟩
  | true=>exact ite_tt (chain_last (thn (hc pins s3 σ H3 _ I3 q3) fun w' s4 ⟨z',H4,I4,r4,q4⟩=>ho' pins s4 σ H4 y z' u w' Q I4 r2 r4 q4))
theorem xlt {op op':CmpOp} {r r':R2} (ho:OpR X (compareOp op) r) (ho':OpR X (compareOp op') r') (ha:PE X a ta) (hb:PE X b tb) (hc:PE X c tc)
    (hm:lastMarks [op,op'] [b,c]=false:=by with_unfolding_all rfl):PT X (.Compare a [op,op'] [b,c] pos) (xmq (xlh r r' ta tb tc)):=by
  intro pins s σ H Q I h
  refine isTrue_chain (thn (ha pins s σ H _ I h) fun v s1 ⟨x,H1,I1,r1,q1⟩=>test_link (thn (hb pins s1 σ H1 _ I1 q1) fun u s2 ⟨y,H2,I2,r2,q2⟩ =>
    thn (ho pins s2 σ H2 x y v u _ I2 r1 r2 q2) fun d s3 ⟨z,H3,I3,r3,k,e,q3⟩=>?_)) hm
  subst e
  cases r3
  refine wpAny_truthy_bool ?_
  cases k with
  | false =>
    obtain ⟨k',e',q'⟩:=q3
    cases e'
    exact ite_ff ⟨H3,I3,q'⟩
  | true =>
    refine ite_tt (test_last (thn (hc pins s3 σ H3 _ I3 q3) fun w' s4 ⟨z',H4,I4,r4,q4⟩=>thn (ho' pins s4 σ H4 y z' u w' _ I4 r2 r4 q4) fun d' s5 ⟨z2,H5,I5,r5,k2,e2,q5⟩=>?_))
    subst e2
    cases r5
    exact wpAny_truthy_bool ⟨H5,I5,q5⟩
theorem xd7:(sizeLine:Nat) < 2 ^ 63:=by rw [sizeLine_eq]; decide
theorem xdt {x:V} {us:List Value} (r:Vals [x] us):∃ u,us=[u]∧RelV x u:=by
 cases r with
 | cons r1 r2=>cases r2; exact ⟨_,rfl,r1⟩
theorem xml {x y:V} {us:List Value} (r:Vals [x,y] us):∃ u w',us=[u,w']∧RelV x u∧RelV y w':=by
 cases r with
 | cons r1 r2 =>
  cases r2 with
  | cons r3 r4=>cases r4; exact ⟨_,_,rfl,r1,r3⟩
theorem xh7:xct X (.builtin "abs") (fun xs H Q=>∃ i,xs=[.int i]∧Q (.int (if i < 0 then -i else i)) H):=by
 intro pins s σ H xs us Q I r h
 obtain ⟨i,rfl,q⟩:=h
 obtain ⟨u,rfl,t,rfl⟩:=xdt r
 exact call_abs_int fun u tk=>⟨.int (if i < 0 then -i else i),H,I.tok _,⟨_,rfl⟩,q⟩
theorem xkf (hc:X.calm=true):xct X (.builtin "min") (fun xs H Q=>∃ i j,xs=[.int i,.int j]∧Q (.int (if j < i then j else i)) H):=by
 intro pins s σ H xs us Q I r h
 obtain ⟨i,j,rfl,q⟩:=h
 obtain ⟨u,w',rfl,⟨t,rfl⟩,⟨t',rfl⟩⟩:=xml r
 refine min_two_ints (I.ok.hd hc) fun h' tk k=>⟨_,H,I.kept k,?_,q⟩
 by_cases hj:j < i
 ·rw [if_pos hj,if_pos hj]; exact ⟨_,rfl⟩
 ·rw [if_neg hj,if_neg hj]; exact ⟨_,rfl⟩
theorem xki:xct X (.type "int") (fun xs H Q=>(∃ i,xs=[.int i]∧Q (.int i) H)∨∃ k,xs=[.bl k]∧Q (.int (if k then 1 else 0)) H):=by
 intro pins s σ H xs us Q I r h
 rcases h with ⟨i,rfl,q⟩ | ⟨k,rfl,q⟩
 ·obtain ⟨u,rfl,t,rfl⟩:=xdt r
  exact call_int_int ⟨.int i,H,I,⟨_,rfl⟩,q⟩
 ·obtain ⟨u,rfl,r1⟩:=xdt r
  cases r1
  exact call_int_bool ⟨.int (if k then 1 else 0),H,I.tok _,⟨_,rfl⟩,q⟩
end
end L2
namespace L2
open PySem PySem.Spec PyProof.Rows
variable {q0:Bool}
structure ObjM (h:Heap) (x dx C:Addr) (mA:Str→Option Value):Prop where
 obj:h.get? x=some (PySem.W.instObj C dx)
 ns:h.Ns1 dx mA
 ne:dx≠x
theorem xhe {h:Heap} {dx:Addr} {mA:Str→Option Value} (n:h.Ns1 dx mA):∃ od,h.get? dx=some od∧∀ name,PySem.W.lookIn name od=some (mA name):=by
 obtain ⟨o,es,ep,ho,hd,hk,_,hm⟩:=n
 refine ⟨o,ho,fun name=>?_⟩
 have e:=hm name
 unfold nsFind findBy at e
 rw [← Array.find?_toList] at e
 unfold PySem.W.lookIn
 rw [hd]
 dsimp only
 split
 ·rename_i y q
  rw [q] at e
  exact congrArg some e
 ·rename_i q
  rw [q] at e
  have a:es.toList.any (·.refKey)=false:=by
   rw [List.any_eq_false]
   intro y hy
   obtain ⟨z,t,hkey⟩:=hk y (Array.mem_toList_iff.mp hy)
   simp [DictEntry.refKey,hkey]
  have a':¬ es.toList.any (·.refKey)=true:=by rw [a]; exact Bool.false_ne_true
  rw [if_neg a']
  exact congrArg some e
theorem ObjM.look {h:Heap} {x dx C:Addr} {mA:Str→Option Value} (I:ObjM h x dx C mA):∃ od,PySem.W.InstAt h x (PySem.W.instObj C dx) C (some od)∧∀ name,PySem.W.lookIn name od=some (mA name) :=
 let ⟨od,ho,hl⟩:=xhe I.ns
 ⟨od,⟨I.obj,rfl,rfl,ho⟩,hl⟩
section
variable {prog:Program} {w:World} {A:Around} {E:Value→Shared→Prop} {s:Shared} {K:PySem.W.Frag} {x dx C f:Addr} {mA:Str→Option Value} {name:Str} {v:Value}
theorem xnc {expr:Bool} {Q:Value→Shared→Prop} (X:K.In s.heap) (I:ObjM s.heap x dx C mA) (hg:PySem.W.plainGet K C name=true) (hh:PySem.W.hasDictIn K C=true)
    (ha:PySem.W.findIn K (.ref C) name=some none) (hv:mA name=some v) (hv':PySem.W.handedIn v=true) (h:Q v { s with toks:=s.toks + 1 }) :
    wpAny (model prog w) A (getAttr (.ref x) name expr) Q E s:=by
  obtain ⟨od,J,hl⟩:=I.look
  exact PySem.W.get_value X J (PySem.W.plainGet_of hg).1 (PySem.W.findObj_own hh ha rfl (by rw [hl,hv])) hv' h
theorem xmk {pl:Sem Bool} {Q:Value × List Value→Shared→Prop} (X:K.In s.heap) (I:ObjM s.heap x dx C mA) (hg:PySem.W.plainGet K C name=true)
    (hf:PySem.W.findIn K (.ref C) name=some (some (.ref f))) (ht:PySem.W.isFn K (.ref f)=true) (hv:mA name=none) (h:Q (.ref f,[.ref x]) s) :
    wpAny (model prog w) A (getMethod (.ref x) name pl) Q E s:=by
  obtain ⟨od,J,hl⟩:=I.look
  exact PySem.W.method_fn X J (PySem.W.plainGet_of hg).1 (PySem.W.plainGet_of hg).2 hf (beq_iff_eq.mp ht) (by show (PySem.W.lookIn name od).map (·.isSome)=some false; rw [hl,hv]; rfl) h
theorem xnm {ns:List Str} {Q:Unit→Shared→Prop} (X:K.In s.heap) (I:ObjM s.heap x dx C mA)
    (hs:PySem.W.findIn K (.ref C) "__setattr__"=some (some (.builtin "object.__setattr__"))) (hp:PySem.W.plainOver K C=true) (ht:PySem.W.takerIn K C name=some none) (hh:PySem.W.hasDictIn K C=true)
    (hw:PySem.Within mA ns) (hsz:ns.length≤sizeLine)
    (h:∀ h',ObjM h' x dx C (fun y=>if y=name then some v else mA y)→Heap.SameBut dx s.heap h'→Q () { s with heap:=h',toks:=s.toks + 2 }) :
    wpAny (model prog w) A (setAttr (.ref x) name v) Q E s:=by
  obtain ⟨od,J,hl⟩:=I.look
  refine PySem.W.set_plain X J hs (PySem.W.osa_open (s:={ s with toks:=s.toks + 1 }) (r:=none) X J hp ht fun b=>?_)
  obtain ⟨cd,hc,hd'⟩:=PySem.W.any_some hh
  have hx:s.heap.get? x=some ⟨.ref C,some dx,.plain,#[]⟩:=I.obj
  refine wpAny_bind (wpAny_pure (wpAny_bind (wpAny_bind (wpAny_loadPart hx (wpAny_bind (PySem.W.Looks.here (s:={ s with toks:=s.toks + 1 }) (PySem.W.looks_clsIn X hc) ?_))))))
  rw [hd']
  refine wpAny_pure (a:=some dx) (wpAny_bind (wpAny_pure (wpAny_bind ?_)))
  refine wpAny_nsSet1 (s:={ s with toks:=s.toks + 1 }) I.ns fun h' hn2 hs2=>?_
  obtain ⟨oD,esD,epD,hoD,hdD,hcD⟩:=hn2.count (PySem.Within.cons name v hw)
  refine wpAny_bind (wpAny_lookBehind hoD (by rw [hdD]; exact pastItsLine_dict (Nat.le_trans hcD (by rw [List.length_cons]; omega))) ?_)
  exact wpAny_pure (h _ ⟨(hs2.2 _ (Ne.symm I.ne)).trans I.obj,hn2,I.ne⟩ hs2)
theorem xlz {R:Result→Shared→Prop} {vs:List Value} {kw:List (Str × Value)} (X:K.In s.heap) (hm:PySem.W.makesIn K C=true)
    (hi:PySem.W.findIn K (.ref C) "__init__"=some (some (.ref f))) (hf:PySem.W.typeIn K (.ref f)=some (.type "function"))
    (h:codeAny (model prog w) (A.under (.builtin "type.__call__" ⟨.ref C :: vs,kw⟩)) (.call (.ref f) ⟨.ref (s.heap.objs.size + 1) :: vs,kw⟩) (PySem.W.InitBack (s.heap.objs.size + 1) R)
      { s with heap:=(s.heap.push PySem.W.emptyDict).push (PySem.W.instObj C s.heap.objs.size) }) :
    codeAny (model prog w) A (.call (.ref C) ⟨vs,kw⟩) R s:=by
  obtain ⟨hh,g,d,t,os⟩:=s
  exact PySem.W.make_core (PySem.W.makes_of X hm) (PySem.W.looks_findIn X hi) (fun self=>PySem.W.bind_fn X self hf) (.inl rfl) h
end
def putF (f:Str) (v:V):List (Str × V)→List (Str × V)
 | []=>[(f,v)]
 | (g,x) :: r=>if g=f then (g,v) :: r else (g,x) :: putF f v r
theorem xdy (f g:Str) (v:V):∀ fs:List (Str × V),(putF f v fs).lookup g=if g=f then some v else fs.lookup g
 | []=>by
  show List.lookup g [(f,v)]=_
  by_cases h:g=f
  ·have hb:(g == f)=true:=beq_iff_eq.mpr h
   simp only [List.lookup,hb,if_pos h]
  ·have hb:(g == f)=false:=beq_eq_false_iff_ne.mpr h
   simp only [List.lookup,hb,if_neg h]
 | (k,x) :: r=>by
  have ih:=xdy f g v r
  rw [show putF f v ((k,x) :: r)=(if k=f then (k,v) :: r else (k,x) :: putF f v r) from rfl]
  by_cases hk:k=f
  ·rw [if_pos hk]
   by_cases h:g=k
   ·have hb:(g == k)=true:=beq_iff_eq.mpr h
    simp only [List.lookup,hb,if_pos (h.trans hk)]
   ·have hb:(g == k)=false:=beq_eq_false_iff_ne.mpr h
    simp only [List.lookup,hb,if_neg (fun e:g=f=>h (e.trans hk.symm))]
  ·rw [if_neg hk]
   by_cases h:g=k
   ·have hb:(g == k)=true:=beq_iff_eq.mpr h
    simp only [List.lookup,hb,if_neg (fun e:g=f=>hk (h.symm.trans e))]
   ·have hb:(g == k)=false:=beq_eq_false_iff_ne.mpr h
    simp only [List.lookup,hb]
    exact ih
theorem xdb (f:Str) (v:V):∀ fs:List (Str × V),f ∈ (putF f v fs).map (·.1)∧∀ g,g ∈ fs.map (·.1)→g ∈ (putF f v fs).map (·.1)
 | []=>⟨by simp [putF],fun g h=>by simp at h⟩
 | (k,x) :: r=>by
  obtain ⟨i1,i2⟩:=xdb f v r
  rw [show putF f v ((k,x) :: r)=(if k=f then (k,v) :: r else (k,x) :: putF f v r) from rfl]
  by_cases hk:k=f
  ·rw [if_pos hk]
   subst hk
   exact ⟨by simp,fun g h=>by simpa using h⟩
  ·rw [if_neg hk]
   refine ⟨?_,fun g h=>?_⟩
   ·rw [List.map_cons]
    exact List.mem_cons_of_mem _ i1
   ·rw [List.map_cons] at h ⊢
    rcases List.mem_cons.mp h with e | e
    ·exact List.mem_cons.mpr (.inl e)
    ·exact List.mem_cons_of_mem _ (i2 g e)
theorem xd1 (f:Str) (v:V):∀ fs:List (Str × V),(putF f v fs).length≤fs.length + 1
 | []=>by simp [putF]
 | (k,x) :: r=>by
  have ih:=xd1 f v r
  rw [show putF f v ((k,x) :: r)=(if k=f then (k,v) :: r else (k,x) :: putF f v r) from rfl]
  by_cases hk:k=f
  ·rw [if_pos hk,List.length_cons,List.length_cons]; omega
  ·rw [if_neg hk,List.length_cons,List.length_cons]; omega
theorem RelO.some_of {v:V} {o:Option Value} (r:RelO (some v) o):∃ u,o=some u∧RelV v u:=by
 cases o with
 | none=>exact (show False from r).elim
 | some u=>exact ⟨u,rfl,r⟩
theorem RelO.none_of {o:Option Value} (r:RelO none o):o=none:=by
 cases o with
 | none=>rfl
 | some u=>exact (show False from r).elim
theorem xhd {v:V} {u:Value} (r:RelV v u):PySem.W.handedIn u=true:=by
 cases v with
 | non=>cases (show u=Value.none from r); rfl
 | bl b=>cases (show u=Value.bool b from r); rfl
 | int i=>obtain ⟨t,e⟩:=(show ∃ t,u=Value.int i t from r); cases e; rfl
 | str x=>obtain ⟨t,e⟩:=(show ∃ t,u=Value.str x t from r); cases e; rfl
 | byt b=>obtain ⟨t,e⟩:=(show ∃ t,u=Value.bytes b t from r); cases e; rfl
 | flt b=>obtain ⟨t,e⟩:=(show ∃ t,u=Value.float b t from r); cases e; rfl
 | ref a=>cases (show u=Value.ref a from r); rfl
 | ty n=>cases (show u=Value.type n from r); rfl
section
variable {P:Program} {w:World} {H H':Hp} {h h':Heap} {a C dx:Addr} {fs fs':List (Str × V)}
theorem xe8 (hok:HOk P w H h) (e:H a=some (.ins C dx fs)):∃ mA,ObjM h a dx C mA∧(∀ f,RelO (fs.lookup f) (mA f))∧PySem.Within mA (fs.map (·.1))∧fs.length≤1000∧H dx=some (.own a):=by
 obtain ⟨d,z,ne,ob,mA,n,r,q⟩:=(show xa4 P w H h a (.ins C dx fs) from hok a _ e)
 exact ⟨mA,⟨ob,n,ne⟩,r,q,z,d⟩
end
structure Cls (K:PySem.W.Frag) (C:Addr):Prop where
 pg:PySem.W.plainGet K C Str.empty=true
 hd:PySem.W.hasDictIn K C=true
 po:PySem.W.plainOver K C=true
 sa:PySem.W.findIn K (.ref C) "__setattr__"=some (some (.builtin "object.__setattr__"))
theorem Cls.get {K:PySem.W.Frag} {C:Addr} (c:Cls K C) (f:Str):PySem.W.plainGet K C f=true:=c.pg
def xdm (K:PySem.W.Frag) (C:Addr) (f:Str):Prop:=PySem.W.findIn K (.ref C) f=some none
theorem xdm.taker {K:PySem.W.Frag} {C:Addr} {f:Str} (n:xdm K C f):PySem.W.takerIn K C f=some none:=by
 unfold PySem.W.takerIn
 rw [show PySem.W.findIn K (.ref C) f=some none from n]
 rfl
structure Meth (K:PySem.W.Frag) (C:Addr) (m:Str) (f:Addr):Prop where
 at_:PySem.W.findIn K (.ref C) m=some (some (.ref f))
 fn:PySem.W.isFn K (.ref f)=true
 kp:PySem.W.keepIn K (.ref f)=true
section
variable {X:Cx} {pins:List (Addr × Obj)} {σ:St} {H:Hp} {s:Shared} {a C dx:Addr} {fs:List (Str × V)} {f:Str} {v:V} {A:Around} {E:Value→Shared→Prop}
theorem xjw {b:Bool} {Q:Value→Shared→Prop} (I:Inv X pins σ H s) (e:H a=some (.ins C dx fs)) (c:Cls X.K C) (n:xdm X.K C f) (l:fs.lookup f=some v)
    (h:∀ u s',Inv X pins σ H s'→RelV v u→Q u s'):wpAny (model X.prog X.w) A (getAttr (.ref a) f b) Q E s:=by
  obtain ⟨mA,O,r,_,_,_⟩:=xe8 I.hok e
  obtain ⟨u,hu,ru⟩:=RelO.some_of (v:=v) (o:=mA f) (by rw [← l]; exact r f)
  exact xnc I.kIn O (c.get f) c.hd n hu (xhd ru) (h u _ (I.tok _) ru)
theorem xf9 {m:Str} {g:Addr} {pl:Sem Bool} {Q:Value × List Value→Shared→Prop} (I:Inv X pins σ H s) (e:H a=some (.ins C dx fs)) (c:Cls X.K C) (k:Meth X.K C m g) (l:fs.lookup m=none)
    (h:Q (.ref g,[.ref a]) s):wpAny (model X.prog X.w) A (getMethod (.ref a) m pl) Q E s:=by
  obtain ⟨mA,O,r,_,_,_⟩:=xe8 I.hok e
  have hn:mA m=none:=RelO.none_of (by rw [← l]; exact r m)
  exact xmk I.kIn O (c.get m) k.at_ k.fn hn h
theorem xj1 {y:V} {u:Value} {Q:Unit→Shared→Prop} (I:Inv X pins σ H s) (e:H a=some (.ins C dx fs)) (c:Cls X.K C) (n:xdm X.K C f) (hl:fs.length < 1000) (ry:RelV y u)
    (h:∀ s',Inv X pins σ (upd H a (.ins C dx (putF f y fs))) s'→Q () s'):wpAny (model X.prog X.w) A (setAttr (.ref a) f u) Q E s:=by
  obtain ⟨mA,O,r,wi,_,ho⟩:=xe8 I.hok e
  have hz:(fs.map (·.1)).length≤sizeLine:=by rw [List.length_map,sizeLine_eq]; omega
  refine xnm I.kIn O c.sa c.po n.taker c.hd wi hz fun h' O' sb=>h _ ?_
  have hd:∃ o,h'.get? dx=some o:=let ⟨o,_,_,e',_⟩:=O'.ns; ⟨o,e'⟩
  refine I.write (x:=a) (e:=dx) (by rw [e]; exact True.intro) (.inr ho) (fun b q hb z=>(sb.2 b hb).trans z) hd ?_
  refine ⟨by rw [xl O.ne]; exact ho,?_,O.ne,O'.obj,_,O'.ns,fun g=>?_,fun g hg=>?_⟩
  · have:=xd1 f y fs; omega
  · show RelO ((putF f y fs).lookup g) (if g=f then some u else mA g)
    rw [xdy]
    by_cases q:g=f
    · rw [if_pos q,if_pos q]; exact ry
    · rw [if_neg q,if_neg q]; exact r g
  · by_cases q:g=f
    · rw [q]; exact (xdb f y fs).1
    · refine (xdb f y fs).2 g (wi g fun z=>hg ?_)
      show (if g=f then some u else mA g)=none
      rw [if_neg q]; exact z
theorem Inv.made (I:Inv X pins σ H s):Inv X pins σ (upd (upd H s.heap.objs.size (.own (s.heap.objs.size + 1))) (s.heap.objs.size + 1) (.ins C s.heap.objs.size []))
    { s with heap:=(s.heap.push PySem.W.emptyDict).push (PySem.W.instObj C s.heap.objs.size) }:=by
  have e1:(s.heap.push PySem.W.emptyDict).get? s.heap.objs.size=some PySem.W.emptyDict:=Heap.get?_push_size s.heap rfl
  have e2:((s.heap.push PySem.W.emptyDict).push (PySem.W.instObj C s.heap.objs.size)).get? (s.heap.objs.size + 1)=some (PySem.W.instObj C s.heap.objs.size):=by
    have:=Heap.get?_push_size (s.heap.push PySem.W.emptyDict) (o:=PySem.W.instObj C s.heap.objs.size) rfl
    rwa [Heap.size_push] at this
  have e3:(s.heap.push PySem.W.emptyDict).Ns s.heap.objs.size (fun _=>none):=⟨PySem.W.emptyDict,#[],_,e1,rfl,(fun e he=>absurd he (by simp)),fun _=>rfl⟩
  have I1:=I.laid (a:=s.heap.objs.size) (o:=.own (s.heap.objs.size + 1)) (h':=s.heap.push PySem.W.emptyDict) (t':=s.toks) (fun b u q=>Heap.get?_push_of_some _ q) (Nat.le_refl _) ⟨_,e1⟩
  refine I1.laid (a:=s.heap.objs.size + 1) (o:=.ins C s.heap.objs.size []) (t':=s.toks) (fun b u q=>Heap.get?_push_of_some _ q) (Nat.le_of_eq (Heap.size_push _ _)) ?_
  have ne:s.heap.objs.size≠s.heap.objs.size + 1:=Nat.ne_of_lt (Nat.lt_succ_self _)
  refine ⟨by rw [xl ne,xg],Nat.zero_le _,ne,e2,fun _=>none,(Heap.Ns1.of_empty e3).at fun o q=>Heap.get?_push_of_some _ q,fun _=>True.intro,fun y hy=>absurd rfl hy⟩
theorem xjj {prog:Program} {w:World} {env:Env} {e:Expr} {f:Str} {pos:Pos} {s:Shared} {Q:Value→Shared→Prop} (hb:attributeBase e f env (eval e env)=eval e env)
    (h:wpAny (model prog w) A (eval e env) (fun o s₁=>wpAny (model prog w) A (getAttr o f true) Q E s₁) E s):wpAny (model prog w) A (eval (.Attribute e f pos) env) Q E s :=
  Attribute_any_ h (by rw [arm_eval_Attribute,hb])
end
def tFld (K:PySem.W.Frag) (ta:TE) (f:Str):TE:=fun σ H Q=>ta σ H fun x H1=>∃ a C dx fs v,x=.ref a∧H1 a=some (.ins C dx fs)∧Cls K C∧xdm K C f∧fs.lookup f=some v∧Q v H1
def sFld (K:PySem.W.Frag) (ta tv:TE) (f:Str):TS:=fun D σ H=>tv σ H fun y H1=>ta σ H1 fun x H2=>∃ a C dx fs,x=.ref a∧H2 a=some (.ins C dx fs)∧Cls K C∧xdm K C f∧fs.length < 1000 ∧
 D.nx σ (upd H2 a (.ins C dx (putF f y fs)))
section
variable {X:Cx} {o e value:Expr} {f:Str} {pos pos' tpos:Pos} {ta tv:TE}
theorem xah (he:PE X e ta) (hb:attributeBase e f X.env (eval e X.env)=eval e X.env):PE X (.Attribute e f pos) (tFld X.K ta f):=by
 intro pins s σ H Q I h
 refine xjj hb (thn (he pins s σ H _ I h) fun u s1 ⟨x,H1,I1,rx,a,C,dx,fs,v,ex,ea,c,n,l,q⟩=>?_)
 subst ex
 obtain rfl:u=Value.ref a:=rx
 exact xjw I1 ea c n l fun u' s2 I2 ru=>⟨v,H1,I2,ru,q⟩
theorem xem (ha:PE X o ta) (hv:PE X value tv) (hs:swapsWith value (some (.Attribute o f pos')) pos.line X.env=pure false):PS X (.Assign [.Attribute o f pos'] value pos) (sFld X.K ta tv f):=by
 intro pins s σ H D I h
 refine plainObj_wpAny_Assign_Attribute (thn (hv pins s σ H _ I h) fun u s1 ⟨y,H1,I1,ry,q⟩=>thn (ha pins s1 σ H1 _ I1 q) fun ov s2 ⟨x,H2,I2,rx,a,C,dx,fs,ex,ea,c,n,l,q2⟩=>?_) hs
 subst ex
 obtain rfl:ov=Value.ref a:=rx
 exact xj1 I2 ea c n l ry fun s3 I3=>⟨σ,_,I3,q2⟩
end
section
variable {X:Cx} {pins:List (Addr × Obj)} {σ:St} {H:Hp} {s:Shared} {A:Around} {E:Value→Shared→Prop} {Q:Value→Shared→Prop} {c:Value} {b:Bool}
inductive TyOf (K:PySem.W.Frag) (H:Hp):V→Value→Prop where
  | non:TyOf K H .non (.type "NoneType")
  | bl (x:Bool):TyOf K H (.bl x) (.type "bool")
  | int (i:Int):TyOf K H (.int i) (.type "int")
  | str (x:Str):TyOf K H (.str x) (.type "str")
  | flt (x:UInt64):TyOf K H (.flt x) (.type "float")
  | lst {a:Addr} {xs:List V} (e:H a=some (.lst xs)):TyOf K H (.ref a) (.type "list")
  | frz {a:Addr} {o:Obj} {xs:List V} (e:H a=some (.frz o (.lst xs))):TyOf K H (.ref a) (.type "list")
  | tup {a:Addr} {xs:List V} (e:H a=some (.tup xs)):TyOf K H (.ref a) (.type "tuple")
  | dK {a:Addr} {kvs:List (Key × V)} (e:H a=some (.dK kvs)):TyOf K H (.ref a) (.type "dict")
  | dT {a:Addr} {kvs:List (List Key × V)} (e:H a=some (.dT kvs)):TyOf K H (.ref a) (.type "dict")
  | ins {a C dx:Addr} {fs:List (Str × V)} (e:H a=some (.ins C dx fs)) (cl:Cls K C) (ha:PySem.W.findIn K (.ref C) "__class__"=some (some (.builtin "object.__class__")))
      (hn:PySem.W.specialIn K (.builtin "object.__class__") "__get__"=some (some (.builtin "getset_descriptor.__get__"))) (htk:PySem.W.takesIn K (.builtin "object.__class__")=some true)
      (hm:PySem.W.mroIn K C (.type "object")=some true):TyOf K H (.ref a) (.ref C)
theorem xk2 {x:V} {u t:Value} (I:Inv X pins σ H s) (rx:RelV x u) (ty:TyOf X.K H x t) (e:PySem.W.kitOne X.K t c=some b) (h:∀ tk,Q (.bool b) { s with toks:=tk }) :
    wpAny (model X.prog X.w) A (call (.builtin "isinstance") [u,c]) Q E s:=by
  cases ty with
  | non=>cases (show u=Value.none from rx); exact PySem.W.kia_one PySem.W.kitx_none I.kIn True.intro e (fun z=>nomatch z) h
  | bl y=>cases (show u=Value.bool y from rx); exact PySem.W.kia_one PySem.W.kitx_bool I.kIn True.intro e (fun z=>nomatch z) h
  | int i=>obtain ⟨t,q⟩:=(show ∃ t,u=Value.int i t from rx); cases q; exact PySem.W.kia_one PySem.W.kitx_int I.kIn True.intro e (fun z=>nomatch z) h
  | str y=>obtain ⟨t,q⟩:=(show ∃ t,u=Value.str y t from rx); cases q; exact PySem.W.kia_one PySem.W.kitx_str I.kIn True.intro e (fun z=>nomatch z) h
  | flt y=>obtain ⟨t,q⟩:=(show ∃ t,u=Value.float y t from rx); cases q; exact PySem.W.kia_one PySem.W.kitx_float I.kIn True.intro e (fun z=>nomatch z) h
  | @lst a xs ea =>
    cases (show u=Value.ref a from rx)
    obtain ⟨_,_,n,_,h1⟩:=(show xa4 X.prog X.w H s.heap a (.lst xs) from I.hok a _ ea)
    exact PySem.W.kia_one PySem.W.kitx_list I.kIn ⟨_,h1,rfl⟩ e (fun z=>nomatch z) h
  | @frz a ob xs ea =>
    cases (show u=Value.ref a from rx)
    obtain ⟨_,_,_,n,_,h1⟩:=(show xa4 X.prog X.w H s.heap a (.frz ob (.lst xs)) from I.hok a _ ea)
    exact PySem.W.kia_one PySem.W.kitx_list I.kIn ⟨_,h1,rfl⟩ e (fun z=>nomatch z) h
  | @tup a xs ea =>
    cases (show u=Value.ref a from rx)
    obtain ⟨_,_,_,p⟩:=(show xa4 X.prog X.w H s.heap a (.tup xs) from I.hok a _ ea)
    obtain ⟨o,h1,h2,_⟩:=p
    exact PySem.W.kia_one PySem.W.kitx_tuple I.kIn ⟨o,h1,h2⟩ e (fun z=>nomatch z) h
  | @dK a kvs ea =>
    cases (show u=Value.ref a from rx)
    obtain ⟨_,_,vs,_,p⟩:=(show xa4 X.prog X.w H s.heap a (.dK kvs) from I.hok a _ ea)
    obtain ⟨o,es,ep,h1,h2,_⟩:=p
    exact PySem.W.kia_one PySem.W.kitx_dict I.kIn ⟨o,h1,h2.1⟩ e (fun z=>nomatch z) h
  | @dT a kvs ea =>
    cases (show u=Value.ref a from rx)
    obtain ⟨_,_,xs,_,o,es,ep,h1,h2,_⟩:=(show xa4 X.prog X.w H s.heap a (.dT kvs) from I.hok a _ ea)
    exact PySem.W.kia_one PySem.W.kitx_dict I.kIn ⟨o,h1,h2.1⟩ e (fun z=>nomatch z) h
  | @ins a C dx fs ea cl ha hn htk hm =>
    cases (show u=Value.ref a from rx)
    obtain ⟨mA,O,_⟩:=xe8 I.hok ea
    obtain ⟨od,J,_⟩:=O.look
    exact PySem.W.kia_one (PySem.W.kitx_own (cl.get _) cl.hd ha hn htk hm) I.kIn J e (fun z=>nomatch z) h
end
end L2
namespace L2
open PySem PySem.Spec PyProof.Rows
variable {q0:Bool}
structure Room (q0:Bool) (k:Nat) (A:Around):Prop where
 hd:q0=true→A.handled=none
 dp:A.depth + 3 * k + 5 < recursionLimit
 un:A.units + 16 * k + 200 < cLine
theorem Room.mono {j k:Nat} {A:Around} (r:Room q0 k A) (h:j≤k):Room q0 j A:=⟨r.hd,by have:=r.dp; omega,by have:=r.un; omega⟩
theorem Room.deeper {k:Nat} {A:Around} (r:Room q0 (k + 1) A) (env:Env):Room q0 k (A.deeper env) :=
 ⟨r.hd,by have:=r.dp; show A.depth + 1 + 3 * k + 5 < _; omega,by have:=r.un; show A.units + 3 + 16 * k + 200 < _; omega⟩
theorem xj4 {A:Around} {C:Addr} {us:List Value} {kw:List (Str × Value)}:(A.under (.builtin "type.__call__" ⟨.ref C :: us,kw⟩)).depth=A.depth + 1:=by
 first | rfl | simp [Around.under,Code.weight,Code.isCreation,Code.isGuard,Code.isCaller,Code.frames,Code.isFrame,guardIds]
theorem xka {A:Around} {C:Addr} {us:List Value} {kw:List (Str × Value)}:(A.under (.builtin "type.__call__" ⟨.ref C :: us,kw⟩)).units=A.units + 1:=by
 first | rfl | simp [Around.under,Code.cUnits,Code.frames,Code.isFrame]
theorem Room.make {k:Nat} {A:Around} (r:Room q0 (k + 1) A) (C:Addr) (us:List Value) (kw:List (Str × Value)):Room q0 k (A.under (.builtin "type.__call__" ⟨.ref C :: us,kw⟩)) :=
 ⟨r.hd,by have:=r.dp; rw [xj4]; omega,by have:=r.un; rw [xka]; omega⟩
theorem Room.depth {k:Nat} {A:Around} (r:Room q0 k A):A.depth < recursionLimit:=by have:=r.dp; omega
theorem Room.units {k:Nat} {A:Around} (r:Room q0 k A):A.units + 64 < cLine:=by have:=r.un; omega
def tNil:TA:=fun _ H Q=>Q [] H
def xmp (ta:TE) (tr:TA):TA:=fun σ H Q=>ta σ H fun x H1=>tr σ H1 fun xs H2=>Q (x :: xs) H2
section
variable {X:Cx} {e:Expr} {es:List Expr} {te:TE} {t:TA} {pos:Pos}
theorem xh:PA X [] tNil:=fun _ _ _ _ H Q I h=>Calls.spliced_nil ⟨[],H,I,.nil,h⟩
theorem xf (ha:PE X e te) (hr:PA X es t) (hs:starEach (e :: es) X.env=(false,eval e X.env) :: starEach es X.env:=by rfl):PA X (e :: es) (xmp te t):=by
 intro pos pins s σ H Q I h
 rw [hs]
 show wpAny _ _ (spliced ((false,eval e X.env) :: backTo pos (starEach es X.env))) _ _ s
 refine Calls.spliced_cons (thn (ha pins s σ H _ I h) fun u s1 ⟨x,H1,I1,r1,q1⟩=>?_)
 exact thn (hr pos pins s1 σ H1 _ I1 q1) fun us s2 ⟨xs,H2,I2,r2,q2⟩=>⟨x :: xs,H2,I2,.cons r1 r2,q2⟩
def tTup (t:TA):TE:=fun σ H Q=>t σ H fun xs H1=>xs.length≤sizeLine∧∀ p,H1 p=none→Q (.ref p) (upd H1 p (.tup xs))
def tLst (t:TA):TE:=fun σ H Q=>t σ H fun xs H1=>xs.length≤sizeLine∧∀ p,H1 p=none→Q (.ref p) (upd H1 p (.lst xs))
theorem xat {x1} (h:PA X es t):PE X (.Tuple es x1 pos) (tTup t):=by
 intro pins s σ H Q I hq
 refine wpAny_Tuple_spliced (thn (h pos pins s σ H _ I hq) fun us s1 ⟨xs,H1,I1,r,z,q⟩=>⟨by rw [← r.length]; exact z,?_⟩)
 have hf:H1 s1.heap.objs.size=none:=I1.hok.fresh (Nat.le_refl _)
 refine ⟨.ref s1.heap.objs.size,upd H1 s1.heap.objs.size (.tup xs),I1.laid (t':=s1.toks) (fun b u e=>Heap.get?_push_of_some _ e) (Nat.le_refl _) ?_,rfl,q _ hf⟩
 exact ⟨z,us,r,⟨_,Heap.get?_push_size _ rfl,rfl,_,rfl⟩⟩
theorem xal (h:PA X es t):PE X (.List es pos) (tLst t):=by
 intro pins s σ H Q I hq
 refine wpAny_List_spliced (thn (h pos pins s σ H _ I hq) fun us s1 ⟨xs,H1,I1,r,z,q⟩=>⟨by rw [← r.length]; exact z,?_⟩)
 have hf:H1 s1.heap.objs.size=none:=I1.hok.fresh (Nat.le_refl _)
 refine ⟨.ref s1.heap.objs.size,upd H1 s1.heap.objs.size (.lst xs),I1.laid (t':=s1.toks) (fun b u e=>Heap.get?_push_of_some _ e) (Nat.le_refl _) ?_,rfl,q _ hf⟩
 exact ⟨z,us,0,r,Heap.get?_push_size _ rfl⟩
end
abbrev Sp:=List V→Hp→VK→XK→Prop
abbrev CXT:=List Env→Hp→Shared→XK→Value→Shared→Prop
structure Env0 (P:Program) (w:World) (K:PySem.W.Frag) (mg:Str→Option Value) (base:Heap) (A:Around) (outer:List Env) (s:Shared) (H:Hp):Prop where
 frames:A.frames=some outer
 mod:Mod K mg base
 bs:∀ b o,base.get? b=some o→s.heap.get? b=some o∧H b=none
 bsz:base.objs.size≤s.heap.objs.size
 funs:s.heap.FunFrames base outer
 frf:∀ b ∈ frs outer,H b=none
 hok:HOk P w H s.heap
 bare:AllBare s.gens
def CE (outer:List Env) (P:Program) (w:World) (H:Hp) (s:Shared) (Q:VK) (u:Value) (s':Shared):Prop :=
 ∃ v H',s'.os=s.os∧AllBare s'.gens∧Un (frs outer) [] H H' s.heap s'.heap∧HOk P w H' s'.heap∧RelV v u∧Q v H'
def CR (CX:CXT) (outer:List Env) (P:Program) (w:World) (H:Hp) (s:Shared) (Q:VK) (E:XK) (r:Result) (s':Shared):Prop :=
 match r with
 | .ok (.ret u)=>CE outer P w H s Q u s'
 | .ok _=>False
 | .error e=>CX outer H s E e s'
structure FnOk (q0:Bool) (P:Program) (w:World) (K:PySem.W.Frag) (mg:Str→Option Value) (base:Heap) (CX:CXT) (k:Nat) (f:Addr) (fd:FuncData) (ps:List Str) (sp:Sp):Prop where
 len:∀ vs H Q E,sp vs H Q E→vs.length=ps.length
 run:∀ (A:Around) (outer:List Env) (s:Shared) (H:Hp) (args:Args) (us:List Value) (vs:List V) (Q:VK) (E:XK),Room q0 k A→Env0 P w K mg base A outer s H→BindsTo s fd args (ps.zip us)→Vals vs us→sp vs H Q E →
  codeAny (model P w) A (.call (.ref f) args) (CR CX outer P w H s Q E) s
theorem Env0.make {P:Program} {w:World} {K:PySem.W.Frag} {mg:Str→Option Value} {base:Heap} {A:Around} {outer:List Env} {s:Shared} {H:Hp} (e:Env0 P w K mg base A outer s H) (C:Addr) (us:List Value) (kw:List (Str × Value)) :
    Env0 P w K mg base (A.under (.builtin "type.__call__" ⟨.ref C :: us,kw⟩)) outer s H:=⟨by first | exact e.frames | (simpa [Around.under,Code.envs,Code.isFrame,pushEnvs] using e.frames),e.mod,e.bs,e.bsz,e.funs,e.frf,e.hok,e.bare⟩
section
variable {X:Cx} {pins:List (Addr × Obj)} {σ:St} {H:Hp} {s s':Shared}
theorem Inv.env0 (I:Inv X pins σ H s):Env0 X.prog X.w X.K X.mg X.base X.A X.stack s H :=
 ⟨I.ok.frames,I.ok.mod,I.bs,Nat.le_trans I.ok.bsz I.sz,I.stack,I.stkFree,I.hok,I.bare⟩
theorem Inv.after {Q:VK} {u:Value} (I:Inv X pins σ H s) (h:CE X.stack X.prog X.w H s Q u s'):EP X pins σ Q u s':=by
 obtain ⟨v,H',os,bare,un,hok,r,q⟩:=h
 obtain ⟨hh,g,d,t,os'⟩:=s'
 obtain rfl:os'=s.os:=os
 exact ⟨v,H',I.call (h':=hh) (g':=g) (d':=d) (t':=t) (ch:=[]) un hok bare (fun b z=>absurd z (by simp)),r,q⟩
end
def xqo (sp:Sp) (dvs:List V) (E:St→XK) (t:TA):TE:=fun σ H Q=>t σ H fun vs H1=>sp (vs ++ dvs) H1 Q (E σ)
def xms (C:Addr) (m:Str) (sp:Sp) (dvs:List V) (E:St→XK) (ta:TE) (t:TA):TE:=fun σ H Q=>ta σ H fun x H1=>∃ a dx fs,x=.ref a∧H1 a=some (.ins C dx fs)∧fs.lookup m=none ∧
 t σ H1 fun vs H2=>sp (x :: (vs ++ dvs)) H2 Q (E σ)
def xp3 (C:Addr) (sp:Sp) (dvs:List V) (E:St→XK) (t:TA):TE:=fun σ H Q=>t σ H fun vs H1=>∀ x dx,H1 x=none→H1 dx=none→dx≠x →
 sp (.ref x :: (vs ++ dvs)) (upd (upd H1 dx (.own x)) x (.ins C dx [])) (fun v H2=>v=.non∧Q (.ref x) H2) (E σ)
def xag (K:PySem.W.Frag) (fd:FuncData) (ps:List Str) (ds:List Value):Prop :=
 ∀ (s:Shared) (us:List Value),K.In s.heap→(us ++ ds).length=ps.length→BindsTo s fd ⟨us,[]⟩ (ps.zip (us ++ ds))
theorem xag.all {K:PySem.W.Frag} {fd:FuncData} {ps:List Str} (h:∀ us:List Value,us.length=ps.length→bindArgs fd ⟨us,[]⟩=pure (ps.zip us)):xag K fd ps []:=fun s us _ hl=>by
 rw [List.append_nil] at hl ⊢
 exact .of_eq (h us hl)
def xc8 (CX:CXT) (X:Cx) (E:St→XK):Prop:=∀ (pins:List (Addr × Obj)) (σ:St) (H:Hp) (s:Shared) (e:Value) (s':Shared),Inv X pins σ H s→CX X.stack H s (E σ) e s'→X.xe e s'
section
variable {X:Cx} {CX:CXT} {k:Nat} {f C:Addr} {fd:FuncData} {ps:List Str} {sp:Sp} {dvs:List V} {ds:List Value} {E:St→XK} {x m:Str} {p pos apos:Pos} {e o:Expr} {es:List Expr} {ta:TE} {t:TA}
theorem xhw {pins:List (Addr × Obj)} {σ:St} {H:Hp} {s:Shared} {Q:VK} {us:List Value} {vs:List V} (F:FnOk q0 X.prog X.w X.K X.mg X.base CX k f fd ps sp) (hr:Room q0 k X.A) (hb:xag X.K fd ps ds) (hd:Vals dvs ds) (hx:xc8 CX X E)
    (I:Inv X pins σ H s) (r:Vals vs us) (h:sp (vs ++ dvs) H Q (E σ)):wpAny (model X.prog X.w) X.A (call (.ref f) us) (EP X pins σ Q) X.xe s:=by
  have r2:Vals (vs ++ dvs) (us ++ ds):=r.append hd
  have hl:(us ++ ds).length=ps.length:=by rw [← r2.length]; exact F.len _ _ _ _ h
  refine wpAny_call (codeAny_mono (F.run X.A X.stack s H ⟨us,[]⟩ (us ++ ds) (vs ++ dvs) Q (E σ) hr I.env0 (hb s us I.kIn hl) r2 h) fun r s' hq=>?_)
  cases r with
  | error e=>exact hx pins σ H s e s' I hq
  | ok fl =>
    cases fl with
    | ret u=>exact I.after hq
    | next=>exact False.elim hq
    | brk=>exact False.elim hq
    | cont=>exact False.elim hq
theorem xao (F:FnOk q0 X.prog X.w X.K X.mg X.base CX k f fd ps sp) (hr:Room q0 k X.A) (hg:Gl X x) (hm:X.mg x=some (.ref f)) (hk:PySem.W.keepIn X.K (.ref f)=true) (hb:xag X.K fd ps ds) (hd:Vals dvs ds) (hx:xc8 CX X E)
    (ha:PA X (e :: es) t) (hdb:(x == ("__debug__":Str))=false:=by decide) (he:starEach (e :: es) X.env=(false,eval e X.env) :: starEach es X.env:=by rfl) (hpl:(backTo pos (starEach es X.env)).any (·.1)=false:=by rfl) :
    PE X (.Call (.Name x p) (e :: es) [] pos) (xqo sp dvs E t):=by
  intro pins s σ H Q I h
  refine wpAny_Call_Name_kw (xdj I hg hm ?_ hdb)
  refine PySem.W.callWith_K (h₀:=X.base) I.ok.mod.kin hk (thn (ha pos pins s σ H _ I h) fun us s1 ⟨vs,H1,I1,r,q⟩=>⟨I1.kIn,?_⟩) he hpl
  exact xhw F hr hb hd hx I1 r q
theorem xas {pl:Sem Bool} (he:PE X o ta) (c:Cls X.K C) (hm:Meth X.K C m f) (F:FnOk q0 X.prog X.w X.K X.mg X.base CX k f fd ps sp) (hr:Room q0 k X.A) (hb:xag X.K fd ps ds) (hd:Vals dvs ds) (hx:xc8 CX X E) (ha:PA X (e :: es) t)
    (hst:starEach (e :: es) X.env=(false,eval e X.env) :: starEach es X.env:=by rfl) (hpl:(backTo pos (starEach es X.env)).any (·.1)=false:=by rfl)
    (ht:eval (.Call (.Attribute o m apos) (e :: es) [] pos) X.env=(do
      let ov ← eval o X.env
      standAt apos.atName
      let (f,first) ← holding [ov] (getMethod ov m pl)
      callWith pos f first (backTo pos (starEach (e :: es) X.env)) (backToKw pos (keywordEach [] X.env))):=by rfl) :
    PE X (.Call (.Attribute o m apos) (e :: es) [] pos) (xms C m sp dvs E ta t):=by
  intro pins s σ H Q I h
  refine PySem.W.methodCall_KW (pl:=pl) (thn (he pins s σ H _ I h) fun u s1 ⟨x,H1,I1,rx,a,dx,fs,ex,ea,l,q⟩=>?_) ht
  subst ex
  obtain rfl:u=Value.ref a:=rx
  refine xf9 I1 ea c hm l ?_
  refine PySem.W.callWith_K (first:=[.ref a]) (h₀:=X.base) I.ok.mod.kin hm.kp (thn (ha pos pins s1 σ H1 _ I1 q) fun us s2 ⟨vs,H2,I2,r,q2⟩=>⟨I2.kIn,?_⟩) hst hpl
  exact xhw (us:=.ref a :: us) (vs:=.ref a :: vs) F hr hb hd hx I2 (.cons rfl r) q2
theorem xa8 {pl:Sem Bool} (he:PE X o ta) (c:Cls X.K C) (hm:Meth X.K C m f) (F:FnOk q0 X.prog X.w X.K X.mg X.base CX k f fd ps sp) (hr:Room q0 k X.A) (hb:xag X.K fd ps ds) (hd:Vals dvs ds) (hx:xc8 CX X E)
    (ht:eval (.Call (.Attribute o m apos) [] [] pos) X.env=(do
      let ov ← eval o X.env
      standAt apos.atName
      let (f,first) ← holding [ov] (getMethod ov m pl)
      callWith pos f first (backTo pos (starEach [] X.env)) (backToKw pos (keywordEach [] X.env))):=by rfl) :
    PE X (.Call (.Attribute o m apos) [] [] pos) (xms C m sp dvs E ta tNil):=by
  intro pins s σ H Q I h
  refine PySem.W.methodCall_KW (pl:=pl) (thn (he pins s σ H _ I h) fun u s1 ⟨x,H1,I1,rx,a,dx,fs,ex,ea,l,q⟩=>?_) ht
  subst ex
  obtain rfl:u=Value.ref a:=rx
  refine xf9 I1 ea c hm l ?_
  exact PySem.W.callWith_K0 (first:=[.ref a]) I1.kIn hm.kp (xhw (us:=[.ref a]) (vs:=[.ref a]) F hr hb hd hx I1 (.cons rfl .nil) q)
structure Mk (K:PySem.W.Frag) (C f:Addr):Prop where
 makes:PySem.W.makesIn K C=true
 init:PySem.W.findIn K (.ref C) "__init__"=some (some (.ref f))
 fn:PySem.W.isFn K (.ref f)=true
 kp:PySem.W.keepIn K (.ref C)=true
theorem xly {pins:List (Addr × Obj)} {σ:St} {H:Hp} {s:Shared} {Q:VK} {us:List Value} {vs:List V} (M:Mk X.K C f) (F:FnOk q0 X.prog X.w X.K X.mg X.base CX k f fd ps sp) (hr:Room q0 (k + 1) X.A) (hb:xag X.K fd ps ds) (hd:Vals dvs ds)
    (hx:xc8 CX X E) (I:Inv X pins σ H s) (r:Vals vs us)
    (h:∀ x dx,H x=none→H dx=none→dx≠x→sp (.ref x :: (vs ++ dvs)) (upd (upd H dx (.own x)) x (.ins C dx [])) (fun v H2=>v=.non∧Q (.ref x) H2) (E σ)) :
    wpAny (model X.prog X.w) X.A (call (.ref C) us) (EP X pins σ Q) X.xe s:=by
  have hq:=h (s.heap.objs.size + 1) s.heap.objs.size (I.hok.fresh (Nat.le_succ _)) (I.hok.fresh (Nat.le_refl _)) (Nat.ne_of_lt (Nat.lt_succ_self _))
  have I2:=Inv.made (C:=C) I
  have r2:Vals (V.ref (s.heap.objs.size + 1) :: (vs ++ dvs)) (Value.ref (s.heap.objs.size + 1) :: (us ++ ds)):=.cons rfl (r.append hd)
  have hl:(Value.ref (s.heap.objs.size + 1) :: us ++ ds).length=ps.length:=by
    have e:=r2.length
    rw [F.len _ _ _ _ hq] at e
    exact e.symm
  refine wpAny_call (xlz (f:=f) I.kIn M.makes M.init (beq_iff_eq.mp M.fn) (codeAny_mono (F.run _ X.stack _ _ ⟨Value.ref (s.heap.objs.size + 1) :: us,[]⟩ (Value.ref (s.heap.objs.size + 1) :: (us ++ ds)) _ _ (E σ) (hr.make C us [])
    (I2.env0.make C us []) (hb _ (Value.ref (s.heap.objs.size + 1) :: us) I2.kIn hl) r2 hq) fun r s' hq'=>?_))
  cases r with
  | error e=>exact hx pins σ _ _ e s' I2 hq'
  | ok fl =>
    cases fl with
    | ret u =>
      obtain ⟨v,H',I3,rv,ev,q3⟩:=I2.after hq'
      subst ev
      exact ⟨rv,⟨V.ref (s.heap.objs.size + 1),H',I3,rfl,q3⟩⟩
    | next=>exact False.elim hq'
    | brk=>exact False.elim hq'
    | cont=>exact False.elim hq'
theorem xe9 (M:Mk X.K C f) (F:FnOk q0 X.prog X.w X.K X.mg X.base CX k f fd ps sp) (hr:Room q0 (k + 1) X.A) (hg:Gl X x) (hm:X.mg x=some (.ref C)) (hb:xag X.K fd ps ds) (hd:Vals dvs ds) (hx:xc8 CX X E)
    (ha:PA X (e :: es) t) (hdb:(x == ("__debug__":Str))=false:=by decide) (he:starEach (e :: es) X.env=(false,eval e X.env) :: starEach es X.env:=by rfl) (hpl:(backTo pos (starEach es X.env)).any (·.1)=false:=by rfl) :
    PE X (.Call (.Name x p) (e :: es) [] pos) (xp3 C sp dvs E t):=by
  intro pins s σ H Q I h
  refine wpAny_Call_Name_kw (xdj I hg hm ?_ hdb)
  refine PySem.W.callWith_K (h₀:=X.base) I.ok.mod.kin M.kp (thn (ha pos pins s σ H _ I h) fun us s1 ⟨vs,H1,I1,r,q⟩=>⟨I1.kIn,?_⟩) he hpl
  exact xly M F hr hb hd hx I1 r q
end
section
variable {X:Cx} {CX:CXT} {k:Nat} {f C:Addr} {fd:FuncData} {ps ks:List Str} {sp:Sp} {E:St→XK} {x m:Str} {p pos apos kpos:Pos} {e o:Expr} {es:List Expr} {kws:List Keyword} {te ta:TE} {t tk:TA} {nm:Option Str}
variable {g:List Value→List Value→List Value} {gV:List V→List V→List V}
end
structure x9 (N P:List Str) (sc:Scope):Prop where
 kind:sc.kind=.function
 co:sc.isCoroutine=false
 gen:sc.isGenerator=false
 nd:N.Nodup
 pre:N.take P.length=P
 par:∀ x ∈ P,sc.names.lookup x=some .local∨sc.names.lookup x=some .cell
 nofree:∀ y ∈ sc.names,y.2≠.free
theorem xhb {kindOf:Str→Option NameKind} {x:Str}:∀ {binds:List (Str × Value)} {m:Str→Option Value},(∀ v,(x,v) ∉ binds)→bindL kindOf binds m x=m x
 | [],_,_=>rfl
 | (n,v) :: r,m,h=>by
  unfold bindL
  rw [xhb fun w hw=>h w (List.mem_cons_of_mem _ hw)]
  split
  ·have:x≠n:=by rintro rfl; exact h v List.mem_cons_self
   simp [this]
  ·rfl
theorem xg9 {kindOf:Str→Option NameKind} {x:Str}:∀ {binds:List (Str × Value)} {m:Str→Option Value},(∀ v,(x,v) ∉ binds)→bindC kindOf binds m x=m x
 | [],_,_=>rfl
 | (n,v) :: r,m,h=>by
  unfold bindC
  rw [xg9 fun w hw=>h w (List.mem_cons_of_mem _ hw)]
  split
  ·rfl
  ·have:x≠n:=by rintro rfl; exact h v List.mem_cons_self
   simp [this]
theorem xhc {kindOf:Str→Option NameKind} {x:Str} {v:Value}:∀ {P:List Str} {vs:List Value} {i:Nat} {m:Str→Option Value},P.Nodup→P[i]?=some x→vs[i]?=some v→kindOf x=some .local →
    bindL kindOf (P.zip vs) m x=some v
  | [],_,_,_,_,h,_,_=>by simp at h
  | _ :: _,[],_,_,_,_,h,_=>by simp at h
  | p :: P,w :: vs,0,m,nd,h1,h2,hk=>by
    simp at h1 h2; subst h1; subst h2
    show bindL kindOf ((p,w) :: P.zip vs) m p=_
    unfold bindL
    rw [xhb fun v hv=>(List.nodup_cons.mp nd).1 (List.of_mem_zip hv).1,if_pos hk]
    simp
  | p :: P,w :: vs,i + 1,m,nd,h1,h2,hk=>by
    show bindL kindOf ((p,w) :: P.zip vs) m x=_
    unfold bindL
    exact xhc (i:=i) (List.nodup_cons.mp nd).2 (by simpa using h1) (by simpa using h2) hk
theorem xhg {kindOf:Str→Option NameKind} {x:Str} {v:Value}:∀ {P:List Str} {vs:List Value} {i:Nat} {m:Str→Option Value},P.Nodup→P[i]?=some x→vs[i]?=some v→kindOf x≠some .local →
    bindC kindOf (P.zip vs) m x=some v
  | [],_,_,_,_,h,_,_=>by simp at h
  | _ :: _,[],_,_,_,_,h,_=>by simp at h
  | p :: P,w :: vs,0,m,nd,h1,h2,hk=>by
    simp at h1 h2; subst h1; subst h2
    show bindC kindOf ((p,w) :: P.zip vs) m p=_
    unfold bindC
    rw [xg9 fun v hv=>(List.nodup_cons.mp nd).1 (List.of_mem_zip hv).1,if_neg hk]
    simp
  | p :: P,w :: vs,i + 1,m,nd,h1,h2,hk=>by
    show bindC kindOf ((p,w) :: P.zip vs) m x=_
    unfold bindC
    exact xhg (i:=i) (List.nodup_cons.mp nd).2 (by simpa using h1) (by simpa using h2) hk
def xce (N:List Str) (vs:List V):St:=vs.map some ++ List.replicate (N.length - vs.length) none
def cxOf (q0:Bool) (CX:CXT) (P:Program) (w:World) (K:PySem.W.Frag) (mg:Str→Option Value) (base:Heap) (N:List Str) (qual:Str) (scope:Scope) (f:Addr) (cd:Value) (A:Around) (outer:List Env) (s:Shared) (H:Hp) (E:XK):Cx where
 prog:=P
 w:=w
 K:=K
 mg:=mg
 base:=base
 A:=A.deeper (envOfC qual scope s.heap.objs.size f cd)
 N:=N
 s₀:=s
 H₀:=H
 env:=envOfC qual scope s.heap.objs.size f cd
 outer:=outer
 stack:=envOfC qual scope s.heap.objs.size f cd :: outer
 ex:=[]
 calm:=q0
 fn:=fun _=>true
 pn:=[]
 xe:=fun e s'=>wpAny (model P w) (A.deeper (envOfC qual scope s.heap.objs.size f cd)) (leaving (envOfC qual scope s.heap.objs.size f cd) e) (fun _ s''=>CX outer H s E e s'') (fun e' s''=>CX outer H s E e' s'') s'
theorem xhy {sc:Scope} {n:Nat} {x:Str} (h:sc.names.lookup x=some .cell):∃ c,(cellsFrom n sc.names []).lookup x=some c:=by
 have q:=PySem.W.cellsFrom_some sc.names n [] (.inl h)
 exact Option.isSome_iff_exists.mp q
theorem xln {CX:CXT} {P:Program} {w:World} {K:PySem.W.Frag} {mg:Str→Option Value} {base:Heap} {N ps:List Str} {qual:Str} {scope:Scope} {f:Addr} {cd:Value} {A:Around} {outer:List Env} {s s1:Shared} {H:Hp} {E:XK} {us:List Value} {vs:List V}
    (S:x9 N ps scope) (hd:q0=true→A.handled=none) (e0:Env0 P w K mg base A outer s H) (hl:vs.length=ps.length) (r:Vals vs us)
    (x:InCallC s s.heap.objs.size (bindL (envOfC qual scope s.heap.objs.size f cd).kindOf (ps.zip us) fun _=>none) (cellsFrom (s.heap.objs.size + 1) scope.names []) (bindC (envOfC qual scope s.heap.objs.size f cd).kindOf (ps.zip us) fun _=>none) s1) :
    Inv (cxOf q0 CX P w K mg base N qual scope f cd A outer s H E) [] (xce N vs) H s1:=by
  have hpl:ps.length≤N.length:=by have:=congrArg List.length S.pre; rw [List.length_take] at this; omega
  obtain ⟨h1,tk,rfl,hk⟩:=x.done
  have noA:∀ b:Addr,b ∉ (cxOf q0 CX P w K mg base N qual scope f cd A outer s H E).ex:=fun b z=>absurd (show b ∈ ([]:List Addr) from z) (by simp)
  refine ⟨⟨e0.mod,S.kind,rfl,rfl,Nat.le_refl _,fun y z c h1 h2=>?_,fun y hy=>?_,fun y c _ h=>?_,hd,Around.frames_deeper e0.frames,.inr ⟨rfl,rfl⟩,fun b z=>absurd z (noA b),e0.bs,e0.bsz,fun b _ _=>noA b,fun b z=>absurd z (noA b),e0.funs,e0.frf⟩,
    rfl,e0.bare,Un.kept hk,⟨_,x.toInCall.ns,fun i y v h1 h2 h3=>?_⟩,fun y c h=>⟨_,x.cell y c h⟩,e0.hok.fresh (Nat.le_refl _),fun y c h=>?_,fun p hp=>absurd (show p ∈ ([]:List (Addr × Obj)) from hp) (by simp),e0.hok.kept hk,?_⟩
  · exact name_of_addr x.apart (PySem.mem_of_lookup h1) (PySem.mem_of_lookup h2)
  · have hy:scope.names.lookup y=some .cell∨scope.names.lookup y=some .free:=hy
    rcases hy with hy | hy
    · exact xhy hy
    · exact absurd rfl (S.nofree _ (PySem.mem_of_lookup hy))
  · exact Nat.le_of_lt (x.above y c (PySem.mem_of_lookup h))
  · have hi:i < vs.length:=by
      unfold xce at h2
      by_cases hi:i < vs.length
      · exact hi
      · rw [List.getElem?_append_right (by simpa using hi)] at h2
        rw [List.getElem?_replicate] at h2
        split at h2 <;> cases h2
    have ha:vs[i]?=some v:=by
      unfold xce at h2
      rw [List.getElem?_append_left (by simpa using hi),List.getElem?_map] at h2
      cases e:vs[i]? with
      | none=>rw [e] at h2; cases h2
      | some a=>rw [e] at h2; cases h2; rfl
    obtain ⟨u,hu,rv⟩:=r.get ha
    have hp:ps[i]?=some y:=by
      rw [← S.pre,List.getElem?_take_of_lt (by omega)]; exact h1
    have ndP:ps.Nodup:=by rw [← S.pre]; exact S.nd.sublist (List.take_sublist _ _)
    refine ⟨u,rv,?_⟩
    rcases S.par y (List.mem_of_getElem? hp) with k | k
    · exact .inl ⟨k,xhc ndP hp hu k⟩
    · obtain ⟨c,e⟩:=xhy (n:=s.heap.objs.size + 1) k
      refine .inr ⟨.inl k,c,e,?_⟩
      have q:=x.cell y c e
      rw [xhg ndP hp hu (by show scope.names.lookup y≠_; rw [k]; decide)] at q
      exact q
  · exact e0.hok.fresh (Nat.le_of_lt (x.above y c (PySem.mem_of_lookup h)))
  · unfold xce
    show _=N.length
    rw [List.length_append,List.length_map,List.length_replicate]
    omega
theorem xf5 {CX:CXT} {P:Program} {w:World} {K:PySem.W.Frag} {mg:Str→Option Value} {base:Heap} {k:Nat} {f:Addr} {name qual:Str} {params:Arguments} {body:List Stmt} {scope:Scope} {dV kV doc pm cdv ct oc:Value} {an od:Option Addr}
    {osl:Array (Option Value)} {N ps:List Str} {sp:Sp} (lk:K.lookup f=some ⟨oc,od,.func (PySem.W.fnOf name qual params body scope dV kV doc pm an cdv ct),osl⟩) (hcd:PySem.W.codeIn K cdv qual=true) (S:x9 N ps scope)
    (len:∀ vs H Q E,sp vs H Q E→vs.length=ps.length)
    (hbody:∀ (A:Around) (outer:List Env) (s:Shared) (H:Hp) (vs:List V) (Q:VK) (E:XK),Room q0 k (A.deeper (envOfC qual scope s.heap.objs.size f cdv))→sp vs H Q E →
      ∃ t,PSs (cxOf q0 CX P w K mg base N qual scope f cdv A outer s H E) body t∧t { nx:=fun _ H'=>Q .non H',rt:=Q } (xce N vs) H) :
    FnOk q0 P w K mg base CX (k + 1) f (PySem.W.fnOf name qual params body scope dV kV doc pm an cdv ct) ps sp:=by
  refine ⟨len,fun A outer s H args us vs Q E hr e0 hb r hsp=>?_⟩
  have hl:=len _ _ _ _ hsp
  have KX:K.In s.heap:=e0.mod.kin.keeps fun b o e=>(e0.bs b o e).1
  have lim:s.heap.NoLimit:=e0.mod.nolimit.keeps fun b o e=>(e0.bs b o e).1
  have hkind:∀ y ∈ ps.zip us,scope.names.lookup y.1=some .local∨(scope.names.lookup y.1=some .cell∧((cellsFrom (s.heap.objs.size + 1) scope.names []).lookup y.1).isSome=true):=fun ⟨n,v⟩ hy=>by
    rcases S.par n (List.of_mem_zip hy).1 with q | q
    · exact .inl q
    · exact .inr ⟨q,PySem.W.cellsFrom_some _ _ _ (.inl q)⟩
  refine codeAny_call_function hr.depth (KX _ _ lk) rfl S.co S.gen rfl (PySem.W.codeRec_of KX hcd) (hb _ _ _ _ ?_)
  refine wpAny_newFunctionEnv_cells S.kind hkind fun env he s1 x=>?_
  subst he
  refine ⟨lim.keeps x.toInCall.keep,codeAny_func ?_⟩
  obtain ⟨t,ht,hq⟩:=hbody A outer s H vs Q E (hr.deeper _) hsp
  have I:Inv (cxOf q0 CX P w K mg base N qual scope f cdv A outer s H E) [] (xce N vs) H s1:=xln S hr.hd e0 hl r x
  refine wpAny_mono (ht [] s1 (xce N vs) H _ I hq) (fun fl s' hs=>?_) fun e s' hs=>hs
  have fin:∀ {σ':St} {H':Hp} {v:V} {u:Value},Inv (cxOf q0 CX P w K mg base N qual scope f cdv A outer s H E) [] σ' H' s'→RelV v u→Q v H'→CE outer P w H s Q u s' :=
    fun {σ' H' v u} J rv q=>⟨v,H',J.os,J.bare,J.base,J.hok,rv,q⟩
  cases fl with
  | ret u =>
    obtain ⟨v,σ',H',J,rv,q⟩:=hs
    exact fin J rv q
  | next =>
    obtain ⟨σ',H',J,q⟩:=hs
    exact fin (v:=V.non) (u:=Value.none) J rfl q
  | brk =>
    obtain ⟨_,_,_,q⟩:=hs
    exact False.elim q
  | cont =>
    obtain ⟨_,_,_,q⟩:=hs
    exact False.elim q
end L2
namespace L2
open PySem PySem.Spec PyProof.Rows
variable {q0:Bool}
section
variable {X:Cx} {x:Str} {p pos:Pos} {e:Expr} {es:List Expr} {t:TA} {id T:String} {r:List V→Hp→VK→Prop}
def tCB (r:List V→Hp→VK→Prop) (t:TA):TE:=fun σ H Q=>t σ H fun vs H1=>r vs H1 Q
theorem xaj (hc:xct X (.builtin id) r) (hg:Gl X x) (hm:X.mg x=none) (hv:bootBuiltins x=some (.builtin id)) (ha:PA X (e :: es) t) (hn:x≠"__name__":=by decide) (hdb:(x == ("__debug__":Str))=false:=by decide)
    (he:starEach (e :: es) X.env=(false,eval e X.env) :: starEach es X.env:=by rfl) (hpl:(backTo pos (starEach es X.env)).any (·.1)=false:=by rfl):PE X (.Call (.Name x p) (e :: es) [] pos) (tCB r t):=by
  intro pins s σ H Q I h
  refine wpAny_Call_Name_kw (xen I hg hm hv ?_ hn hdb)
  exact PyProof.Rows.callWith_builtin1 (thn (ha pos pins s σ H _ I h) fun us s1 ⟨vs,H1,I1,r1,q1⟩=>hc pins s1 σ H1 vs us Q I1 r1 q1) he hpl
theorem xlg (hc:xct X (.type T) r) (hg:Gl X x) (hm:X.mg x=none) (hv:bootBuiltins x=some (.type T)) (ha:PA X (e :: es) t) (hn:x≠"__name__":=by decide) (hdb:(x == ("__debug__":Str))=false:=by decide)
    (he:starEach (e :: es) X.env=(false,eval e X.env) :: starEach es X.env:=by rfl) (hpl:(backTo pos (starEach es X.env)).any (·.1)=false:=by rfl):PE X (.Call (.Name x p) (e :: es) [] pos) (tCB r t):=by
  intro pins s σ H Q I h
  refine wpAny_Call_Name_kw (xen I hg hm hv ?_ hn hdb)
  exact PyProof.Rows.callWith_type1 (thn (ha pos pins s σ H _ I h) fun us s1 ⟨vs,H1,I1,r1,q1⟩=>hc pins s1 σ H1 vs us Q I1 r1 q1) he hpl
end
end L2
namespace HT
open PySem PyProof.Rows
section
open PySem.SeqAt
open PySem.AutoSeq1 (wpAny_loadPart')
open PySem.MeetsSeq PySem.MeetsSeq2 PySem.MeetsSeq3
end
section
variable {prog:Program} {w:World} {A:Around} {E:Value→Shared→Prop} {s:Shared}
theorem cat_tup {t b:Addr} {vs ws:List Value} {Q:Value→Shared→Prop} (ht:IsTup s.heap t vs.toArray) (hb:IsTup s.heap b ws.toArray) (hv:vs≠[])
    (h1:ws=[]→Q (.ref t) s) (h2:ws≠[]→Q (.ref s.heap.objs.size) { s with heap:=s.heap.push { cls:=.type "tuple",data:=.seq (vs ++ ws).toArray } })
    (hsz:vs.length + ws.length≤sizeLine):wpAny (model prog w) A (binaryOp .Add (.ref t) (.ref b)) Q E s:=by
  obtain ⟨⟨cls,dd,data,sl⟩,ho,hc,n,hd⟩:=id ht
  obtain ⟨⟨cls2,dd2,data2,sl2⟩,ho2,hc2,n2,hd2⟩:=id hb
  simp only at hc hd hc2 hd2
  subst hc hd hc2 hd2
  have e:vs.toArray ++ ws.toArray=(vs ++ ws).toArray:=by simp
  by_cases hw:ws=[]
  · exact concat_meets ⟨_,ho,rfl⟩ ⟨_,ho2,rfl⟩ noFill_tuple_add seq_tuple_add PySem.F.slot_tuple_add PySem.F.entry_tuple_add (PySem.F.args_tuple_add_2 _ _)
      (tuple_addW1 t b vs.toArray ws.toArray n n2 dd dd2 sl sl2 (by simpa using hv) (by simp [hw])) ⟨ho,ho2,h1 hw⟩
  · refine concat_meets ⟨_,ho,rfl⟩ ⟨_,ho2,rfl⟩ noFill_tuple_add seq_tuple_add PySem.F.slot_tuple_add PySem.F.entry_tuple_add (PySem.F.args_tuple_add_2 _ _)
      (tuple_addW2 t b vs.toArray ws.toArray n n2 dd dd2 sl sl2 (by simpa using hv) (by simpa using hw) (by rw [List.size_toArray,List.size_toArray]; exact hsz)) ⟨ho,ho2,?_⟩
    rw [e]
    exact h2 hw
def sIx (n d:Nat):Option Int→Nat
 | none=>d
 | some v=>if v < 0 then (v + (n:Int)).toNat else min v.toNat n
theorem xor (n d:Nat) (hd:d≤n) (o:Option Int):sIx n d o≤n:=by
 cases o with
 | none=>exact hd
 | some v =>
  show (if v < 0 then (v + (n:Int)).toNat else min v.toNat n)≤n
  by_cases hv:v < 0
  ·rw [if_pos hv]; omega
  ·rw [if_neg hv]; exact Nat.min_le_right _ _
theorem xjh (v:Int) (n d:Nat):(if v < 0 then max (v + (n:Int)) 0 else min v (n:Int))=((sIx n d (some v):Nat):Int):=by
 show (if v < 0 then max (v + (n:Int)) 0 else min v (n:Int))=(((if v < 0 then (v + (n:Int)).toNat else min v.toNat n):Nat):Int)
 by_cases hv:v < 0
 ·simp only [if_pos hv]; omega
 ·simp only [if_neg hv]; omega
theorem xjt (lo hi:Option Int) (n:Nat):Builtin.Slice.sliceAdjust lo hi 1 (n:Int)=(((sIx n 0 lo:Nat):Int),((sIx n n hi:Nat):Int)):=by
 have h1:¬ ((1:Int) < 0):=by omega
 unfold Builtin.Slice.sliceAdjust
 simp only [h1,if_false]
 refine Prod.ext ?_ ?_
 ·cases lo with
  | none=>rfl
  | some v=>exact xjh v n 0
 ·cases hi with
  | none=>rfl
  | some v=>exact xjh v n n
theorem xj0 (i j:Nat):Builtin.Slice.slicePlaces (i:Int) (j:Int) 1=j - i:=by
 unfold Builtin.Slice.slicePlaces
 have h1:(1:Int) > 0:=by omega
 simp only [h1,if_true,Int.ediv_one]
 split <;> omega
theorem xgl {v:Value} {o:Option Int} {Q:Option Int→Shared→Prop} (p:IsPart v o) (h:Q o s):wpAny (model prog w) A (Builtin.Slice.slicePartIndex v) Q E s:=by
 cases p with
 | none=>exact slicePart_none h
 | int i t=>exact slicePart_int h
theorem xfr {sl:Addr} {vl vu:Value} {lo hi:Option Int} {n:Nat} {Q:Int × Int × Nat→Shared→Prop} (hs:s.heap.IsSliceOf sl vl vu .none) (pl:IsPart vl lo) (pu:IsPart vu hi)
    (h:Q (((sIx n 0 lo:Nat):Int),1,sIx n n hi - sIx n 0 lo) s):wpAny (model prog w) A (Builtin.Slice.sliceApplied (.ref sl) (pure (n:Int))) Q E s:=by
  obtain ⟨os,hos,hcs,hds⟩:=id hs
  unfold Builtin.Slice.sliceApplied Builtin.Slice.sliceFields
  refine wpAny_bind (wpAny_bind (wpAny_field hos hds (x:=vl) rfl (wpAny_bind (wpAny_field hos hds (x:=vu) rfl (wpAny_bind (wpAny_field hos hds (x:=.none) rfl (wpAny_pure ?_)))))))
  refine wpAny_bind (slicePart_none ?_)
  show wpAny _ _ (if ((1:Int) == 0)=true then _ else _) _ _ s
  rw [if_neg (by decide)]
  refine wpAny_bind (xgl pl (wpAny_bind (xgl pu (wpAny_bind (wpAny_pure ?_)))))
  show wpAny _ _ (match Builtin.Slice.sliceAdjust lo hi 1 (n:Int) with | (lo,hi)=>pure (lo,(1:Int),Builtin.Slice.slicePlaces lo hi 1)) _ _ s
  rw [xjt lo hi n]
  show wpAny _ _ (pure (((sIx n 0 lo:Nat):Int),(1:Int),Builtin.Slice.slicePlaces ((sIx n 0 lo:Nat):Int) ((sIx n n hi:Nat):Int) 1)) _ _ s
  rw [xj0]
  exact wpAny_pure h
theorem xlx (xs:Array Value) (i k:Nat):((List.range k).filterMap fun (m:Nat)=>xs[((i:Int) + (m:Int) * 1).toNat]?).toArray=((xs.toList.drop i).take k).toArray:=by
 have e:(fun (m:Nat)=>xs[((i:Int) + (m:Int) * 1).toNat]?)=fun m=>xs[i + m]?:=by
  funext m
  have:((i:Int) + (m:Int) * 1).toNat=i + m:=by omega
  rw [this]
 rw [e]
 have:=pick_run xs i k
 rw [List.filterMap_map] at this
 have e2:((fun x=>xs[x]?) ∘ fun x=>i + x)=fun m=>xs[i + m]?:=rfl
 rw [e2] at this
 rw [this]
theorem getItem_tuple_cut {t sl:Addr} {items:Array Value} {vl vu:Value} {lo hi:Option Int} {Q:Value→Shared→Prop} (ht:IsTup s.heap t items) (hs:s.heap.IsSliceOf sl vl vu .none) (pl:IsPart vl lo) (pu:IsPart vu hi)
    (hw:¬ (sIx items.size 0 lo=0∧sIx items.size items.size hi=items.size))
    (h:Q (.ref s.heap.objs.size) { s with heap:=s.heap.push { cls:=.type "tuple",data:=.seq ((items.toList.drop (sIx items.size 0 lo)).take (sIx items.size items.size hi - sIx items.size 0 lo)).toArray } })
    (hsz:items.size≤sizeLine):wpAny (model prog w) A (getItem (.ref t) (.ref sl)) Q E s:=by
  have htake:sizeOk (.seq ((items.toList.drop (sIx items.size 0 lo)).take (sIx items.size items.size hi - sIx items.size 0 lo)).toArray):=by
    show ((items.toList.drop (sIx items.size 0 lo)).take (sIx items.size items.size hi - sIx items.size 0 lo)).toArray.size≤sizeLine
    rw [List.size_toArray,List.length_take,List.length_drop,Array.length_toList]
    omega
  have hj:sIx items.size items.size hi≤items.size:=xor _ _ (Nat.le_refl _) hi
  obtain ⟨os,hos,hcs,hds⟩:=id hs
  have hTs:s.TypeIs (.ref sl) "slice":=⟨os,hos,hcs⟩
  unfold getItem
  try with_reducible refine wpAny_holding ?_
  first | refine wpAny_bind (wpAny_pure ?_) | skip
  refine wpAny_bind (wpAny_sequenceKey ht.typeIs (by decide) ?_)
  refine wpAny_bind (wpAny_callSpecial?_slot (name:=Str.ofString "__getitem__") ht.typeIs PyProof.Rows.slot_tuple_getitem
    (wpAny_call_entry PyProof.Rows.slot_tuple_getitem ht.typeIs entry_tuple_getitem ?_ (args_tuple_getitem _ _)))
  show wpAny _ _ (Builtin.Tuple.tupleItemsOf (.ref t) >>= _) _ _ s
  refine wpAny_bind (tupleItemsOf_ ht ?_)
  refine wpAny_bind (wpAny_typeOf hTs ?_)
  rw [if_pos (by decide)]
  refine wpAny_bind (xfr hs pl pu ?_)
  have hno:¬ ((((sIx items.size 0 lo:Nat):Int) == 0 && (1:Int) == 1 && (sIx items.size items.size hi - sIx items.size 0 lo) == items.size)=true):=by
    intro q
    rw [Bool.and_eq_true,Bool.and_eq_true] at q
    have q1:((sIx items.size 0 lo:Nat):Int)=0:=eq_of_beq q.1.1
    have q2:sIx items.size items.size hi - sIx items.size 0 lo=items.size:=eq_of_beq q.2
    exact hw ⟨by omega,by omega⟩
  show wpAny _ _ (if (((sIx items.size 0 lo:Nat):Int) == 0 && (1:Int) == 1 && (sIx items.size items.size hi - sIx items.size 0 lo) == items.size)=true then _ else _) _ _ s
  rw [if_neg hno,xlx]
  first
    | exact wpAny_bind (m:=Builtin.Tuple.tupleExact _) (wpAny_newObj_type (wpAny_pure ⟨_,rfl,wpAny_pure h⟩) htake)
    | exact wpAny_bind (m:=Builtin.Tuple.tupleExact _) (wpAny_newObj_type (wpAny_bind (wpAny_pure (wpAny_pure ⟨_,rfl,wpAny_pure h⟩))) htake)
    | exact wpAny_bind (wpAny_bind (m:=Builtin.Tuple.tupleExact _) (wpAny_newObj_type (wpAny_pure (wpAny_pure ⟨_,rfl,wpAny_pure h⟩)) htake))
    | exact wpAny_bind (wpAny_bind (m:=Builtin.Tuple.tupleExact _) (wpAny_newObj_type (wpAny_pure ⟨_,rfl,wpAny_pure h⟩) htake))
end
end HT
namespace L2
open PySem PySem.Spec PyProof.Rows
variable {q0:Bool}
abbrev TO:=St→Hp→(Option Int→Hp→Prop)→Prop
def PO (X:Cx) (e:Option Expr) (t:TO):Prop :=
 ∀ (pins:List (Addr × Obj)) (s:Shared) (σ:St) (H:Hp) (Q:Option Int→Hp→Prop),Inv X pins σ H s→t σ H Q →
  wpAny (model X.prog X.w) X.A (evalPart e X.env) (fun u s'=>∃ o H',Inv X pins σ H' s'∧IsPart u o∧Q o H') X.xe s
def xnt:TO:=fun _ H Q=>Q none H
def xp0 (t:TE):TO:=fun σ H Q=>t σ H fun x H1=>∃ i,x=.int i∧Q (some i) H1
section
variable {X:Cx} {e:Expr} {te:TE} {lo hi:Option Expr} {tl th:TO} {pos p2:Pos}
theorem xfj:PO X none xnt:=by
 intro pins s σ H Q I h
 rw [evalPart_none]
 exact wpAny_pure ⟨none,H,I,.none,h⟩
theorem xfg (h:PE X e te):PO X (some e) (xp0 te):=by
 intro pins s σ H Q I hw
 rw [evalPart_some]
 refine thn (h pins s σ H _ I hw) fun u s1 ⟨x,H1,I1,r1,q1⟩=>?_
 obtain ⟨i,rfl,q⟩:=q1
 obtain ⟨t,rfl⟩:=r1
 exact ⟨some i,H1,I1,.int i t,q⟩
def SlR (X:Cx) (r:V→Option Int→Option Int→Hp→VK→Prop):Prop :=
 ∀ (pins:List (Addr × Obj)) (s:Shared) (σ:St) (H:Hp) (x:V) (v vl vu:Value) (lo hi:Option Int) (sl:Addr) (Q:VK),Inv X pins σ H s→RelV x v→s.heap.IsSliceOf sl vl vu .none→IsPart vl lo→IsPart vu hi→r x lo hi H Q →
  ∃ T id,typeLookup (.type T) "__getitem__"=pure (some (.builtin id))∧s.TypeIs v T∧wpAny (model X.prog X.w) X.A (getItem v (.ref sl)) (EP X pins σ Q) X.xe s
def tSl (r:V→Option Int→Option Int→Hp→VK→Prop) (te:TE) (tl th:TO):TE:=fun σ H Q=>te σ H fun x H1=>tl σ H1 fun l H2=>th σ H2 fun u H3=>r x l u H3 Q
theorem xef {r:V→Option Int→Option Int→Hp→VK→Prop} (hr:SlR X r) (he:PE X e te) (hl:PO X lo tl) (hu:PO X hi th):PE X (.Subscript e (.Slice lo hi none p2) pos) (tSl r te tl th):=by
 intro pins s σ H Q I h
 refine Subscript_ (thn (he pins s σ H _ I h) fun v s1 ⟨x,H1,I1,r1,q1⟩=>?_)
 refine wpAny_Slice (thn (hl pins s1 σ H1 _ I1 q1) fun vl s2 ⟨l,H2,I2,pl,q2⟩=>thn (hu pins s2 σ H2 _ I2 q2) fun vu s3 ⟨u,H3,I3,pu,q3⟩=>?_)
 rw [evalPart_none]
 refine wpAny_pure ?_
 have I4:Inv X pins σ H3 { s3 with heap:=s3.heap.push { cls:=.type "slice",data:=.fields #[vl,vu,.none] } }:=I3.kept (t':=s3.toks) fun b ob q=>Heap.get?_push_of_some _ q
 obtain ⟨T,id,hT,ht,hg⟩:=hr pins { s3 with heap:=s3.heap.push { cls:=.type "slice",data:=.fields #[vl,vu,.none] } } σ H3 x v vl vu l u s3.heap.objs.size Q I4 r1 (Heap.IsSliceOf.new ..) pl pu q3
 show wpAny (model X.prog X.w) X.A (subscriptTail e (.Slice lo hi none p2) v (.ref s3.heap.objs.size)) (EP X pins σ Q) X.xe { s3 with heap:=s3.heap.push { cls:=.type "slice",data:=.fields #[vl,vu,.none] } }
 exact tail_any (ops:=[.ref s3.heap.objs.size,v]) ht hT hg (by with_unfolding_all rfl)
def cutV (xs:List V) (lo hi:Option Int):List V:=(xs.drop (HT.sIx xs.length 0 lo)).take (HT.sIx xs.length xs.length hi - HT.sIx xs.length 0 lo)
theorem xis (xs:List V) (lo hi:Option Int):(cutV xs lo hi).length≤xs.length:=by
 unfold cutV
 rw [List.length_take,List.length_drop]
 omega
def rSlT (K:PySem.W.Frag):V→Option Int→Option Int→Hp→VK→Prop:=fun x lo hi H Q=>∃ a xs,x=.ref a∧SqT K H a xs ∧
 ¬ (HT.sIx xs.length 0 lo=0∧HT.sIx xs.length xs.length hi=xs.length)∧∀ p,H p=none→Q (.ref p) (upd H p (.tup (cutV xs lo hi)))
theorem xgh:SlR X (rSlT X.K):=by
 intro pins s σ H x v vl vu lo hi sl Q I rx hs pl pu h
 obtain ⟨a,xs,rfl,hx,hw,q⟩:=h
 cases rx
 obtain ⟨its,r,ht,hz⟩:=I.tuple hx
 have hlen:its.toArray.size=xs.length:=by rw [List.size_toArray]; exact r.length.symm
 refine ⟨"tuple",_,PyProof.Rows.slot_tuple_getitem.lookup,ht.typeIs,?_⟩
 refine HT.getItem_tuple_cut ht hs pl pu (by rw [hlen]; exact hw) ?_ (by rw [hlen]; exact hz)
 rw [hlen]
 refine ⟨.ref s.heap.objs.size,_,I.laid (t':=s.toks) (o:=.tup (cutV xs lo hi)) (fun b ob q=>Heap.get?_push_of_some _ q) (Nat.le_refl _) ?_,rfl,q _ (I.hok.fresh (Nat.le_refl _))⟩
 exact ⟨Nat.le_trans (xis xs lo hi) hz,_,(r.drop (HT.sIx xs.length 0 lo)).take (HT.sIx xs.length xs.length hi - HT.sIx xs.length 0 lo),IsTup.new _ _⟩
def xm0 (K:PySem.W.Frag):R2:=fun x y H Q=>∃ a b xs ys,x=.ref a∧y=.ref b∧SqT K H a xs∧SqT K H b ys∧xs≠[]∧xs.length + ys.length≤sizeLine ∧
 (ys=[]→Q (.ref a) H)∧(ys≠[]→∀ p,H p=none→Q (.ref p) (upd H p (.tup (xs ++ ys))))
theorem Vals.nil_iff {xs:List V} {us:List Value} (r:Vals xs us):us=[] ↔ xs=[]:=by
 cases r with
 | nil=>simp
 | cons _ _=>simp
theorem xgo:OpR X (binaryOp .Add) (xm0 X.K):=by
 intro pins s σ H x y v u Q I rx ry h
 obtain ⟨a,b,xs,ys,rfl,rfl,ha,hb,hx,hz,q1,q2⟩:=h
 cases rx
 cases ry
 obtain ⟨its,r1,p1,_⟩:=I.tuple ha
 obtain ⟨its2,r2,p2,_⟩:=I.tuple hb
 refine HT.cat_tup p1 p2 (fun z=>hx (r1.nil_iff.mp z)) (fun z=>⟨.ref a,H,I,rfl,q1 (r2.nil_iff.mp z)⟩) (fun z=>?_) (by rw [← r1.length,← r2.length]; exact hz)
 refine ⟨.ref s.heap.objs.size,_,I.laid (t':=s.toks) (o:=.tup (xs ++ ys)) (fun b ob q=>Heap.get?_push_of_some _ q) (Nat.le_refl _) ?_,rfl,q2 (fun w=>z (r2.nil_iff.mpr w)) _ (I.hok.fresh (Nat.le_refl _))⟩
 exact ⟨by rw [List.length_append]; exact hz,_,r1.append r2,IsTup.new _ _⟩
end
end L2
namespace L2
open PySem PySem.Spec PyProof.Rows
variable {q0:Bool}
def ixN (n:Nat) (i:Int):Option Nat:=if 0≤i then (if i < n then some i.toNat else none) else if -(n:Int)≤i then some (i + n).toNat else none
def atI {α:Type} (xs:List α) (i:Int):Option α:=(ixN xs.length i).bind fun j=>xs[j]?
theorem xjc {n:Nat} {i:Int} {j:Nat} (h:ixN n i=some j):seqIndex? i n=some j∧j < n∧-(n:Int)≤i∧i < n:=by
 unfold ixN at h
 by_cases h0:0≤i
 ·rw [if_pos h0] at h
  by_cases h1:i < n
  ·rw [if_pos h1] at h
   have e:i.toNat=j:=Option.some.inj h
   exact ⟨by rw [seqIndex_of h0 h1,e],by omega,by omega,h1⟩
  ·rw [if_neg h1] at h; cases h
 ·rw [if_neg h0] at h
  by_cases h1:-(n:Int)≤i
  ·rw [if_pos h1] at h
   have e:(i + n).toNat=j:=Option.some.inj h
   exact ⟨by rw [seqIndex_neg (by omega) h1,e],by omega,h1,by omega⟩
  ·rw [if_neg h1] at h; cases h
theorem xgn {α:Type} {xs:List α} {i:Int} {v:α} (h:atI xs i=some v):∃ j,seqIndex? i xs.length=some j∧xs[j]?=some v∧j < xs.length∧-(xs.length:Int)≤i∧i < xs.length:=by
 unfold atI at h
 cases e:ixN xs.length i with
 | none=>rw [e] at h; cases h
 | some j =>
  rw [e] at h
  obtain ⟨h1,h2,h3,h4⟩:=xjc e
  exact ⟨j,h1,h,h2,h3,h4⟩
theorem xfa {α:Type} {xs:List α} {j:Nat} {v:α} (h:xs[j]?=some v):atI xs (j:Int)=some v:=by
 have hj:j < xs.length:=(List.getElem?_eq_some_iff.mp h).1
 have e:ixN xs.length (j:Int)=some j:=by
  unfold ixN
  rw [if_pos (by omega),if_pos (by omega)]; simp
 unfold atI; rw [e]; exact h
def xnk (b:Expr):Prop:=∀ o i,subscripted b false o i=operate [o,i] (getItem o i)
def IxR (X:Cx) (r:R2):Prop :=
 ∀ (value slice:Expr) (pins:List (Addr × Obj)) (s:Shared) (σ:St) (H:Hp) (x y:V) (v u:Value) (Q:VK),Inv X pins σ H s→RelV x v→RelV y u→r x y H Q →
  subscripted slice false v u=operate [v,u] (getItem v u)→wpAny (model X.prog X.w) X.A (subscriptTail value slice v u) (EP X pins σ Q) X.xe s
def MtR (X:Cx) (id:String) (r:V→List V→Hp→VK→Prop):Prop :=
 ∀ (pins:List (Addr × Obj)) (s:Shared) (σ:St) (H:Hp) (x:V) (xs:List V) (v:Value) (us:List Value) (Q:VK),Inv X pins σ H s→RelV x v→Vals xs us→r x xs H Q →
  wpAny (model X.prog X.w) X.A (call (.builtin id) (v :: us)) (EP X pins σ Q) X.xe s
section
variable {X:Cx} {a b:Expr} {ta tb:TE} {pos:Pos}
theorem xw {r:R2} (hr:IxR X r) (ha:PE X a ta) (hb:PE X b tb) (hs:xnk b):PE X (.Subscript a b pos) (tOp r ta tb):=by
 intro pins s σ H Q I h
 exact Subscript_ (binT ha hb I h fun v u s2 x y H2 I2 rx ry q=>hr a b pins s2 σ H2 x y v u Q I2 rx ry q (hs _ _))
def rIxL (K:PySem.W.Frag):R2:=fun x y H Q=>∃ p xs i v,x=.ref p∧y=.int i∧SqL K H p xs∧atI xs i=some v∧Q v H
def rIxT (K:PySem.W.Frag):R2:=fun x y H Q=>∃ p xs i v,x=.ref p∧y=.int i∧SqT K H p xs∧atI xs i=some v∧Q v H
def rIxS:R2:=fun x y H Q=>∃ z i c,x=.str z∧y=.int i∧z.length≤sizeLine∧atI z.cps.toList i=some c∧Q (.str ⟨#[c]⟩) H
theorem xak:IxR X (rIxL X.K):=by
 intro value slice pins s σ H x y v u Q I rx ry h hs
 obtain ⟨p,xs,i,z,rfl,rfl,hq,he,q⟩:=h
 cases rx
 obtain ⟨t,rfl⟩:=ry
 obtain ⟨its,r,pl,hz⟩:=I.list hq
 obtain ⟨j,h1,h2,h3,h4,h5⟩:=xgn he
 obtain ⟨w,ew,rw'⟩:=r.get h2
 have hl:=r.length
 have hn:=xd7
 have fin:EP X pins σ Q w s:=⟨z,H,I,rw',q⟩
 by_cases h0:0≤i
 ·have hj:i.toNat=j:=by
   rw [seqIndex_of h0 h5] at h1
   exact Option.some.inj h1
  exact item_listR pl.isList h0 (by omega) (by rw [hj]; simpa using ew) fin hs
 ·have hj:(i + (its.toArray.size:Int)).toNat=j:=by
   rw [seqIndex_neg (by omega) h4] at h1
   rw [List.size_toArray,← hl]
   exact Option.some.inj h1
  exact subscriptTail_builtinR (x:=w) pl.isList.typeIs slot_list_getitem.lookup
   (wpAny_getItem_list_neg (Q:=fun r s'=>r=w∧EP X pins σ Q r s') pl.isList (by omega) (by rw [List.size_toArray] <;> omega) (by omega) (by rw [hj]; simpa using ew) ⟨rfl,fin⟩) hs
theorem xad:IxR X (rIxT X.K):=by
 intro value slice pins s σ H x y v u Q I rx ry h hs
 obtain ⟨p,xs,i,z,rfl,rfl,hq,he,q⟩:=h
 cases rx
 obtain ⟨t,rfl⟩:=ry
 obtain ⟨its,r,pl,hz⟩:=I.tuple hq
 obtain ⟨j,h1,h2,h3,h4,h5⟩:=xgn he
 obtain ⟨w,ew,rw'⟩:=r.get h2
 have hl:=r.length
 have hn:=xd7
 have fin:EP X pins σ Q w s:=⟨z,H,I,rw',q⟩
 exact subscriptTail_builtinR (x:=w) pl.typeIs slot_tuple_getitem.lookup
  (getItem_tuple (j:=j) (Q:=fun r s'=>r=w∧EP X pins σ Q r s') pl (by omega) (by omega) (by rw [List.size_toArray,← hl]; exact h1) (by simpa using ew) ⟨rfl,fin⟩) hs
theorem xo0:IxR X rIxS:=by
 intro value slice pins s σ H x y v u Q I rx ry h hs
 obtain ⟨z,i,c,rfl,rfl,hz,he,q⟩:=h
 obtain ⟨t,rfl⟩:=rx
 obtain ⟨t',rfl⟩:=ry
 obtain ⟨j,h1,h2,h3,h4,h5⟩:=xgn he
 have hl:z.cps.toList.length=z.length:=by simp [Str.length]
 rw [hl] at h1 h4 h5
 have hn:=xd7
 exact tail_any (typeIs_str s z t) slot_str_getitem.lookup (getItem_str (c:=c) (by
  have e1:decide (i < -(2 ^ 63:Int))=false:=decide_eq_false (by omega)
  have e2:decide (i ≥ 2 ^ 63)=false:=decide_eq_false (by omega)
  rw [e1,e2,Bool.or_false]) (by rw [h1]; simpa using h2) ⟨.str ⟨#[c]⟩,H,I.tok _,⟨_,rfl⟩,q⟩) hs
theorem xj2 (its:List Value) (n j:Nat) (u:Value):Obj.mapSeq (·.setIfInBounds j u) { cls:=.type "list",data:=.seq its.toArray n }={ cls:=.type "list",data:=.seq (its.set j u).toArray n }:=by
 simp [Obj.mapSeq]
theorem Inv.lst {pins:List (Addr × Obj)} {σ:St} {H:Hp} {s:Shared} {p:Addr} {xs:List V} (I:Inv X pins σ H s) (h:H p=some (.lst xs)) :
    ∃ (its:List Value) (n:Nat),Vals xs its∧s.heap.get? p=some { cls:=.type "list",data:=.seq its.toArray n }∧xs.length≤sizeLine:=by
  obtain ⟨z,its,n,r,e⟩:=I.hok p _ h
  exact ⟨its,n,r,e,z⟩
theorem Inv.lstUpd {pins:List (Addr × Obj)} {σ:St} {H:Hp} {s:Shared} {p:Addr} {xs ys:List V} {its its':List Value} {n n':Nat} {f:Obj→Obj} (I:Inv X pins σ H s) (h:H p=some (.lst xs))
    (ho:s.heap.get? p=some { cls:=.type "list",data:=.seq its.toArray n }) (hf:f { cls:=.type "list",data:=.seq its.toArray n }={ cls:=.type "list",data:=.seq its'.toArray n' }) (r:Vals ys its') (hz:ys.length≤sizeLine) (t:Nat) :
    Inv X pins σ (upd H p (.lst ys)) { s with heap:=s.heap.update p f,toks:=t }:=by
  have e:(s.heap.update p f).get? p=some { cls:=.type "list",data:=.seq its'.toArray n' }:=by
    rw [Heap.get?_update_self f ho (by rw [hf] <;> rfl),hf]
  refine I.write (x:=p) (e:=p) (by rw [h]; trivial) (.inl rfl) (fun b u hb q=>(Heap.get?_update_other _ _ (Ne.symm hb)).trans q) ⟨_,e⟩ ?_
  exact ⟨hz,its',n',r,e⟩
def xpr:V→V→V→Hp→(Hp→Prop)→Prop:=fun o i v H Q=>∃ p xs k j,o=.ref p∧i=.int k∧H p=some (.lst xs)∧ixN xs.length k=some j∧Q (upd H p (.lst (xs.set j v)))
theorem xcw:PSet X xpr:=by
 intro pins s σ H o i v ov iv u Q I ro ri rv h
 obtain ⟨p,xs,k,j,rfl,rfl,hp,hj,q⟩:=h
 cases ro
 obtain ⟨t,rfl⟩:=ri
 obtain ⟨its,n,r,ho,hz⟩:=I.lst hp
 obtain ⟨h1,h2,h3,h4⟩:=xjc hj
 have hl:=r.length
 have hn:=xd7
 have I':Inv X pins σ (upd H p (.lst (xs.set j v))) { s with heap:=s.heap.update p (Obj.mapSeq (·.setIfInBounds j u)) } :=
  I.lstUpd hp ho (xj2 its n j u) (r.set rv j) (by rw [List.length_set]; exact hz) s.toks
 by_cases h0:0≤k
 ·have hk:k.toNat=j:=by
   rw [seqIndex_of h0 h4] at h1
   exact Option.some.inj h1
  exact PySem.W.ki_setAt ho h0 (by omega) (by rw [List.size_toArray,← hl]; exact h4) (by rw [hk]; exact ⟨_,I',q⟩)
 ·have hk:(k + (its.toArray.size:Int)).toNat=j:=by
   rw [seqIndex_neg (by omega) h3] at h1
   rw [List.size_toArray,← hl]
   exact Option.some.inj h1
  exact PySem.W.ki_setBack ho (by omega) (by rw [List.size_toArray,← hl]; exact h3) (by omega) (by rw [hk]; exact ⟨_,I',q⟩)
def xdx:V→Bool
 | .non=>true
 | .bl _=>true
 | .int _=>true
 | .str _=>true
 | _=>false
def eqV:V→V→Bool
 | .non,.non=>true
 | .bl a,.bl b=>a == b
 | .bl a,.int b=>(if a then 1 else 0) == b
 | .int a,.bl b=>a == (if b then 1 else 0)
 | .int a,.int b=>a == b
 | .str a,.str b=>a == b
 | _,_=>false
theorem xn6 {A:Around} {s:Shared} {y x:V} {u v:Value} (ry:RelV y u) (rx:RelV x v) (fy:xdx y=true) (fx:xdx x=true):SeqAt.EqAt A s u v (eqV y x):=by
 cases y with
 | non =>
  cases ry
  cases x with
  | non=>cases rx; exact SeqAt.EqAt.same _
  | bl b=>cases rx; exact SeqAt.EqAt.none_bool b
  | int b=>obtain ⟨t,rfl⟩:=rx; exact SeqAt.EqAt.none_int b t
  | str b=>obtain ⟨t,rfl⟩:=rx; exact SeqAt.EqAt.none_str b t
  | _=>exact absurd (show false=true from fx) Bool.false_ne_true
 | bl a =>
  cases ry
  cases x with
  | non=>cases rx; exact SeqAt.EqAt.bool_none a
  | bl b=>cases rx; exact SeqAt.EqAt.bool_bool a b
  | int b=>obtain ⟨t,rfl⟩:=rx; exact SeqAt.EqAt.bool_int a b t
  | str b=>obtain ⟨t,rfl⟩:=rx; exact SeqAt.EqAt.bool_str a b t
  | _=>exact absurd (show false=true from fx) Bool.false_ne_true
 | int a =>
  obtain ⟨t',rfl⟩:=ry
  cases x with
  | non=>cases rx; exact SeqAt.EqAt.int_none a t'
  | bl b=>cases rx; exact SeqAt.EqAt.int_bool a t' b
  | int b=>obtain ⟨t,rfl⟩:=rx; exact SeqAt.EqAt.int_int a t' b t
  | str b=>obtain ⟨t,rfl⟩:=rx; exact SeqAt.EqAt.int_str a t' b t
  | _=>exact absurd (show false=true from fx) Bool.false_ne_true
 | str a =>
  obtain ⟨t',rfl⟩:=ry
  cases x with
  | non=>cases rx; exact SeqAt.EqAt.str_none a t'
  | bl b=>cases rx; exact SeqAt.EqAt.str_bool a t' b
  | int b=>obtain ⟨t,rfl⟩:=rx; exact SeqAt.EqAt.str_int a t' b t
  | str b=>obtain ⟨t,rfl⟩:=rx; exact SeqAt.EqAt.str_str a t' b t
  | _=>exact absurd (show false=true from fx) Bool.false_ne_true
 | _=>exact absurd (show false=true from fy) Bool.false_ne_true
def eqU (x:V) (u:Value):Bool:=match u with
 | .none=>eqV .non x
 | .bool b=>eqV (.bl b) x
 | .int i _=>eqV (.int i) x
 | .str z _=>eqV (.str z) x
 | _=>false
theorem xkw {x y:V} {u:Value} (r:RelV y u) (f:xdx y=true):eqU x u=eqV y x:=by
 cases y with
 | non=>cases r; rfl
 | bl b=>cases r; rfl
 | int i=>obtain ⟨t,rfl⟩:=r; rfl
 | str z=>obtain ⟨t,rfl⟩:=r; rfl
 | _=>exact absurd (show false=true from f) Bool.false_ne_true
theorem xgr {x:V}:∀ {xs:List V} {us:List Value},Vals xs us→xs.all xdx=true→us.any (eqU x)=xs.any fun y=>eqV y x
 | _,_,.nil,_=>rfl
 | y :: xs,u :: us,.cons r t,f=>by
  rw [List.all_cons,Bool.and_eq_true] at f
  rw [List.any_cons,List.any_cons,xkw r f.1,xgr t f.2]
theorem xfq {A:Around} {s:Shared} {x:V} {v:Value} (rx:RelV x v) (fx:xdx x=true):∀ {xs:List V} {us:List Value},Vals xs us→xs.all xdx=true→∀ u ∈ us,SeqAt.EqAt A s u v (eqU x u)
 | _,_,.nil,_=>fun u hu=>by cases hu
 | y :: xs,u :: us,.cons r t,f=>fun u' hu=>by
  rw [List.all_cons,Bool.and_eq_true] at f
  rcases List.mem_cons.mp hu with rfl | hu
  ·rw [xkw r f.1]; exact xn6 r rx f.1 fx
  ·exact xfq rx fx t f.2 u' hu
def inV (x:V) (xs:List V):Bool:=xs.any fun y=>eqV y x
def rIn (K:PySem.W.Frag) (neg:Bool):R2:=fun x y H Q=>∃ p xs,y=.ref p∧(SqL K H p xs∨SqT K H p xs)∧xdx x=true∧xs.all xdx=true∧Q (.bl (if neg then !inV x xs else inV x xs)) H
theorem xg0:OpR X (compareOp .In) (rIn X.K false):=by
 intro pins s σ H x y v u Q I rx ry h
 obtain ⟨p,xs,rfl,hq,fx,fs,q⟩:=h
 cases ry
 rcases hq with hq | hq
 ·obtain ⟨its,r,pl,hz⟩:=I.list hq
  refine SeqAt.in_listAt (eqU x) pl.isList (fun w hw=>xfq rx fx r fs w (by simpa using hw)) ⟨.bl _,H,I,rfl,?_⟩
  rw [show its.toArray.any (eqU x)=its.any (eqU x) by simp,xgr r fs]
  exact q
 ·obtain ⟨its,r,pl,hz⟩:=I.tuple hq
  refine SeqAt.in_tupleAt (eqU x) pl (fun w hw=>xfq rx fx r fs w (by simpa using hw)) ⟨.bl _,H,I,rfl,?_⟩
  rw [show its.toArray.any (eqU x)=its.any (eqU x) by simp,xgr r fs]
  exact q
theorem xco:xct X (.builtin "len") (fun xs H Q=>∃ p ys,xs=[.ref p]∧(SqL X.K H p ys∨SqT X.K H p ys)∧Q (.int ys.length) H):=by
 intro pins s σ H xs us Q I r h
 obtain ⟨p,ys,rfl,hq,q⟩:=h
 obtain ⟨u,rfl,rx⟩:=xdt r
 cases rx
 have hn:=xd7
 rcases hq with hq | hq
 ·obtain ⟨its,r',pl,hz⟩:=I.list hq
  have hlen:=r'.length
  exact Calls.call_len_list pl.isList (by simp only [List.size_toArray] <;> omega) ⟨.int ys.length,H,I.tok _,⟨s.toks + 1,by rw [List.size_toArray,hlen]⟩,q⟩
 ·obtain ⟨its,r',pl,hz⟩:=I.tuple hq
  have hlen:=r'.length
  exact len_tuple pl (by simp only [List.size_toArray] <;> omega) ⟨.int ys.length,H,I.tok _,⟨s.toks + 1,by rw [List.size_toArray,hlen]⟩,q⟩
theorem xh4:xct X (.builtin "len") (fun xs H Q=>∃ z,xs=[.str z]∧z.length≤sizeLine∧Q (.int z.length) H):=by
 intro pins s σ H xs us Q I r h
 obtain ⟨z,rfl,hz,q⟩:=h
 obtain ⟨u,rfl,t,rfl⟩:=xdt r
 have hn:=xd7
 exact len_str (by omega) ⟨.int z.length,H,I.tok _,⟨_,rfl⟩,q⟩
def tyV (K:PySem.W.Frag) (T:String) (x:V) (H:Hp):Prop:=match x with
  | .str _=>T="str"
  | .int _=>T="int"
  | .ref p=>(T="list"∧∃ xs,SqL K H p xs)∨(T="tuple"∧∃ o,K.lookup p=some o∧o.cls=.type "tuple"∧o.dict=none) ∨
      (T="dict"∧((∃ kvs,H p=some (.dK kvs))∨∃ kvs,H p=some (.dT kvs)))∨(T="set"∧∃ S n,H p=some (.set S n))
  | _=>False
theorem xn8 {pins:List (Addr × Obj)} {σ:St} {H:Hp} {s:Shared} {T:String} {x:V} {v:Value} (I:Inv X pins σ H s) (r:RelV x v) (ty:tyV X.K T x H) :
    s.TypeIs v T∧∀ a,v=.ref a→∃ ob,s.heap.get? a=some ob∧ob.dict=none:=by
  cases x with
  | str z =>
    obtain ⟨t,rfl⟩:=r
    cases (show T="str" from ty)
    exact ⟨typeIs_str s z t,fun _ e=>nomatch e⟩
  | int i =>
    obtain ⟨t,rfl⟩:=r
    cases (show T="int" from ty)
    exact ⟨typeIs_int s i t,fun _ e=>nomatch e⟩
  | ref p =>
    cases r
    rcases ty with ⟨rfl,xs,hq⟩ | ⟨rfl,o,hk,hc,hd⟩ | ⟨rfl,hk⟩ | ⟨rfl,S,n,hk⟩
    · obtain ⟨its,_,pl,_⟩:=I.list hq
      refine ⟨pl.isList.typeIs,fun a e=>?_⟩
      cases e
      obtain ⟨o,n,e,c,hd,_⟩:=pl
      exact ⟨o,e,hd⟩
    · refine ⟨⟨o,I.kIn p o hk,hc⟩,fun a e=>?_⟩
      cases e
      exact ⟨o,I.kIn _ o hk,hd⟩
    · have z:∃ o,s.heap.get? p=some o∧o.ExactDict:=by
        rcases hk with ⟨kvs,hk⟩ | ⟨kvs,hk⟩
        · obtain ⟨_,_,_,_,o,_,_,e,ex,_⟩:=I.hok p _ hk
          exact ⟨o,e,ex⟩
        · obtain ⟨_,_,_,_,o,_,_,e,ex,_⟩:=I.hok p _ hk
          exact ⟨o,e,ex⟩
      obtain ⟨o,e,ex⟩:=z
      refine ⟨⟨o,e,ex.1⟩,fun a e2=>?_⟩
      cases e2
      exact ⟨o,e,ex.2.1⟩
    · obtain ⟨o,_,_,_,e,ex,_⟩:=I.hok p _ hk
      refine ⟨⟨o,e,ex.1⟩,fun a e2=>?_⟩
      cases e2
      exact ⟨o,e,ex.2.1⟩
  | _=>exact False.elim ty
def tBM (K:PySem.W.Frag) (T:String) (r:V→List V→Hp→VK→Prop) (to:TE) (t:TA):TE:=fun σ H Q=>to σ H fun x H1=>tyV K T x H1∧t σ H1 fun xs H2=>r x xs H2 Q
variable {o e:Expr} {es:List Expr} {to:TE} {t:TA} {name:Str} {apos cpos:Pos} {T id:String} {r:V→List V→Hp→VK→Prop}
theorem xf2 (pa:PlainAttrs T) (slot:Slot T name id) (hty:typeOf (.builtin id)=pure (.type "method_descriptor")) (hm:MtR X id r) (ho:PE X o to) (ha:PA X (e :: es) t)
    (hbase:attributeBase o name X.env (eval o X.env)=eval o X.env:=by rfl)
    (hfew:((backTo cpos (starEach (e :: es) X.env)).all (fun x=>!x.1) && (backToKw cpos (keywordEach [] X.env)).all (fun x=>x.1.isSome)
      && decide ((e :: es).length + ([]:List Keyword).length + (if ([]:List Keyword).isEmpty then 0 else 1) < 30))=true:=by rfl)
    (hline:(apos.endLine == cpos.line)=true:=by rfl) (hs:starEach (e :: es) X.env=(false,eval e X.env) :: starEach es X.env:=by rfl) (hplain:(backTo cpos (starEach es X.env)).any (·.1)=false:=by rfl) :
    PE X (.Call (.Attribute o name apos) (e :: es) [] cpos) (tBM X.K T r to t):=by
  intro pins s σ H Q I h
  refine wpAny_Call_method_late hbase hfew hline rfl (thn (ho pins s σ H _ I h) fun v s1 ⟨x,H1,I1,r1,ty,q1⟩=>?_)
  obtain ⟨h1,h2⟩:=xn8 I1 r1 ty
  refine ⟨T,id,pa,slot,hty,h1,h2,?_⟩
  have hA:=ha cpos pins s1 σ H1 _ I1 q1
  rw [hs] at hA ⊢
  refine Calls.callWith_builtin (by show (false || (backTo cpos (starEach es X.env)).any (·.1))=false; rw [hplain] <;> rfl) (Calls.evalArgs_plain ?_)
  exact thn hA fun us s2 ⟨vs,H2,I2,r2,q2⟩=>hm pins s2 σ H2 x vs v us Q I2 r1 r2 q2
end
end L2
namespace L2
open PySem PySem.Spec PyProof.Rows
variable {q0:Bool}
def MtM (X:Cx) (id:String) (r:V→List V→Hp→VK→Prop):Prop :=
 ∀ (pins:List (Addr × Obj)) (s:Shared) (σ:St) (H:Hp) (x:V) (xs:List V) (v:Value) (us:List Value) (Q:VK),Inv X pins σ H s→RelV x v→Vals xs us→r x xs H Q →
  wpAny (model X.prog X.w) X.A (call (.builtin id) (v :: us)) (EP X pins σ Q) X.xe s
theorem Vals.one:∀ {x:V} {us:List Value},Vals [x] us→∃ u,us=[u]∧RelV x u
 | _,_,.cons r .nil=>⟨_,rfl,r⟩
section
variable {X:Cx} {pins:List (Addr × Obj)} {σ:St} {H:Hp} {s:Shared} {l b:Addr} {xs ys zs:List V}
theorem Inv.lset {its its':List Value} {n:Nat} {f:Array Value→Array Value} {t':Nat} (I:Inv X pins σ H s) (hH:H l=some (.lst xs))
    (e:s.heap.get? l=some { cls:=.type "list",data:=.seq its.toArray n }) (hf:f its.toArray=its'.toArray) (hv:Vals ys its') (hz:ys.length≤sizeLine) :
    Inv X pins σ (upd H l (.lst ys)) { s with heap:=s.heap.update l (Obj.mapSeq f),toks:=t' }:=by
  have q:=PySem.IsL.update e f
  rw [hf] at q
  refine I.write (x:=l) (e:=l) (by rw [hH]; exact trivial) (.inl rfl) (fun b' u hb hu=>(Heap.get?_update_other s.heap (Obj.mapSeq f) (Ne.symm hb)).trans hu) ⟨_,q⟩ ?_
  exact ⟨hz,its',_,hv,q⟩
theorem Inv.lnew {its:List Value} {t':Nat} (I:Inv X pins σ H s) (hv:Vals ys its) (hz:ys.length≤sizeLine) :
    Inv X pins σ (upd H s.heap.objs.size (.lst ys)) { s with heap:=s.heap.push { cls:=.type "list",data:=.seq its.toArray },toks:=t' } :=
  I.laid (fun _ _ q=>Heap.get?_push_of_some _ q) (Nat.le_refl _) ⟨hz,its,0,hv,Heap.get?_push_size _ rfl⟩
theorem Inv.fresh (I:Inv X pins σ H s):H s.heap.objs.size=none:=I.hok.fresh (Nat.le_refl _)
theorem Inv.lstM (I:Inv X pins σ H s) (hH:H l=some (.lst xs)):xs.length≤sizeLine∧∃ (its:List Value) (n:Nat),Vals xs its∧xs.length=its.length∧s.heap.get? l=some { cls:=.type "list",data:=.seq its.toArray n }:=by
 obtain ⟨z,its,n,r,e⟩:=I.hok l _ hH
 exact ⟨z,its,n,r,r.length,e⟩
end
section
variable {X:Cx}
def xnw:V→List V→Hp→VK→Prop:=fun x vs H Q=>∃ l xs y,x=.ref l∧vs=[y]∧H l=some (.lst xs)∧xs.length < sizeLine∧Q .non (upd H l (.lst (xs ++ [y])))
theorem xck:MtM X "list.append" xnw:=by
 intro pins s σ H x vs v us Q I rx rv h
 obtain ⟨l,xs,y,rfl,rfl,hH,hz,q⟩:=h
 cases rx
 obtain ⟨u,rfl,ru⟩:=rv.one
 obtain ⟨z,its,n,r,hl,e⟩:=I.lstM hH
 refine call_meets F.slot_list_append ⟨_,e,rfl⟩ F.entry_list_append (F.args_list_append_2 _ _) (PySem.list_append l its.toArray n u (by rw [List.size_toArray]; omega)) ⟨e,?_⟩
 refine ⟨.non,_,I.lset (its':=its ++ [u]) hH e (by simp) (r.append (.cons ru .nil)) ?_,rfl,q⟩
 rw [List.length_append,List.length_singleton]
 omega
def rCat:R2:=fun x y H Q=>∃ l b xs zs,x=.ref l∧y=.ref b∧H l=some (.lst xs)∧H b=some (.lst zs)∧xs.length + zs.length≤sizeLine∧∀ p,H p=none→Q (.ref p) (upd H p (.lst (xs ++ zs)))
theorem xbh:OpR X (binaryOp .Add) rCat:=by
 intro pins s σ H x y v u Q I rx ry h
 obtain ⟨l,b,xs,zs,rfl,rfl,hH,hB,hz,q⟩:=h
 cases rx
 cases ry
 obtain ⟨z,its,n,r,hl,e⟩:=I.lstM hH
 obtain ⟨z2,its2,n2,r2,hl2,e2⟩:=I.lstM hB
 refine PySem.P.add_list e e2 ?_ (by rw [List.size_toArray,List.size_toArray]; omega)
 have ea:its.toArray ++ its2.toArray=(its ++ its2).toArray:=by simp
 rw [ea]
 exact ⟨.ref _,_,I.lnew (t':=s.toks) (r.append r2) (by rw [List.length_append]; omega),rfl,q _ I.fresh⟩
end
section
variable {prog:Program} {w:World} {A:Around} {E:Value→Shared→Prop} {s:Shared}
end
section
variable {X:Cx}
end
end L2
namespace L2
open PySem PySem.Spec PyProof.Rows
variable {q0:Bool}
section
variable {κ:Type} [DecidableEq κ]
def valV (kvs:List (κ × V)) (k:κ):Option V:=(kvs.find? fun kv=>decide (kv.1=k)).map (·.2)
def putK (kvs:List (κ × V)) (k:κ) (v:V):List (κ × V) :=
 if (kvs.any fun kv=>decide (kv.1=k))=true then kvs.map (fun kv=>if kv.1=k then (kv.1,v) else kv) else kvs ++ [(k,v)]
def xbv (kvs:List (κ × V)) (k:κ):List (κ × V):=kvs.filter fun kv=>decide (kv.1≠k)
theorem xdl {p:κ × V} {r:List (κ × V)} {k:κ} (e:p.1=k):valV (p :: r) k=some p.2:=by simp [valV,List.find?_cons,e]
theorem xcy {p:κ × V} {r:List (κ × V)} {k:κ} (e:¬ p.1=k):valV (p :: r) k=valV r k:=by simp [valV,List.find?_cons,e]
theorem xds (k:κ):∀ kvs:List (κ × V),(kvs.any fun kv=>decide (kv.1=k))=(valV kvs k).isSome
 | []=>rfl
 | p :: r=>by
  rw [List.any_cons]
  by_cases e:p.1=k
  ·simp only [xdl e,decide_eq_true e,Bool.true_or,Option.isSome_some]
  ·rw [xcy e,decide_eq_false e,Bool.false_or]; exact xds k r
theorem xdz (kvs:List (κ × V)) (k:κ) (v:V):(putK kvs k v).length≤kvs.length + 1:=by
 unfold putK
 split
 ·rw [List.length_map]; omega
 ·rw [List.length_append,List.length_cons,List.length_nil]; omega
theorem xdp {kvs:List (κ × V)} {k:κ} (v:V) (h:valV kvs k=none):putK kvs k v=kvs ++ [(k,v)]:=by
 unfold putK
 rw [xds,h]
 exact if_neg (by decide)
theorem RelO.isSome_eq {o:Option V} {u:Option Value} (r:RelO o u):o.isSome=u.isSome:=by
 cases o with
 | none=>cases u with
  | none=>rfl
  | some _=>exact (show False from r).elim
 | some _=>cases u with
  | none=>exact (show False from r).elim
  | some _=>rfl
theorem RelO.getD {o:Option V} {u:Option Value} {d:V} {d':Value} (r:RelO o u) (rd:RelV d d'):RelV (o.getD d) (u.getD d'):=by
 cases o with
 | none=>cases u with
  | none=>exact rd
  | some _=>exact (show False from r).elim
 | some _=>cases u with
  | none=>exact (show False from r).elim
  | some _=>exact r
theorem KV.val {kvs:List (κ × V)} {vs:List (κ × Value)} (r:KV kvs vs) (k:κ):RelO (valV kvs k) (valueAt vs k):=by
 unfold KV at r
 induction r with
 | nil=>exact True.intro
 | @cons p q ps qs h t ih =>
  obtain ⟨h1,h2⟩:=h
  by_cases e:p.1=k
  ·have e':q.1=k:=h1.symm.trans e
   have b:valueAt (q :: qs) k=some q.2:=by simp [valueAt,List.find?_cons,e']
   rw [xdl e,b]; exact h2
  ·have e':¬ q.1=k:=fun z=>e (h1.trans z)
   have b:valueAt (q :: qs) k=valueAt qs k:=by simp [valueAt,List.find?_cons,e']
   rw [xcy e,b]; exact ih
theorem KV.any {kvs:List (κ × V)} {vs:List (κ × Value)} (r:KV kvs vs) (k:κ):(kvs.any fun kv=>decide (kv.1=k))=vs.any fun kv=>decide (kv.1=k):=by
 unfold KV at r
 induction r with
 | nil=>rfl
 | cons h t ih=>rw [List.any_cons,List.any_cons,ih,h.1]
theorem KV.repl {kvs:List (κ × V)} {vs:List (κ × Value)} (r:KV kvs vs) (k:κ) {y:V} {u:Value} (ry:RelV y u) :
    KV (kvs.map fun kv=>if kv.1=k then (kv.1,y) else kv) (vs.map fun kv=>if kv.1=k then (kv.1,u) else kv):=by
  unfold KV at r ⊢
  induction r with
  | nil=>exact .nil
  | @cons p q ps qs h t ih =>
    rw [List.map_cons,List.map_cons]
    refine .cons ?_ ih
    obtain ⟨h1,h2⟩:=h
    by_cases e:p.1=k
    · rw [if_pos e,if_pos (h1.symm.trans e)]; exact ⟨h1,ry⟩
    · rw [if_neg e,if_neg (fun z=>e (h1.trans z))]; exact ⟨h1,h2⟩
theorem KV.put {kvs:List (κ × V)} {vs:List (κ × Value)} (r:KV kvs vs) (k:κ) {y:V} {u:Value} (ry:RelV y u):KV (putK kvs k y) (stored vs k u):=by
 unfold putK stored
 rw [r.any k]
 by_cases e:(vs.any fun kv=>decide (kv.1=k))=true
 ·rw [if_pos e,if_pos e]; exact r.repl k ry
 ·rw [if_neg e,if_neg e]; exact Paired.snoc r ⟨rfl,ry⟩
theorem KV.drop {kvs:List (κ × V)} {vs:List (κ × Value)} (r:KV kvs vs) (k:κ):KV (xbv kvs k) (without vs k):=by
 unfold KV at r ⊢
 unfold xbv without
 induction r with
 | nil=>exact .nil
 | @cons p q ps qs h t ih =>
  obtain ⟨h1,h2⟩:=h
  rw [List.filter_cons,List.filter_cons]
  by_cases e:p.1=k
  ·have a:¬ decide (p.1≠k)=true:=by simp [e]
   have b:¬ decide (q.1≠k)=true:=by simp [h1.symm.trans e]
   rw [if_neg a,if_neg b]; exact ih
  ·have e':¬ q.1=k:=fun z=>e (h1.trans z)
   have a:decide (p.1≠k)=true:=by simp [e]
   have b:decide (q.1≠k)=true:=by simp [e']
   rw [if_pos a,if_pos b]; exact .cons ⟨h1,h2⟩ ih
theorem KV.keys {kvs:List (κ × V)} {vs:List (κ × Value)} (r:KV kvs vs):kvs.map (·.1)=vs.map (·.1):=by
 unfold KV at r
 induction r with
 | nil=>rfl
 | cons h t ih=>rw [List.map_cons,List.map_cons,ih,h.1]
theorem KV.length {kvs:List (κ × V)} {vs:List (κ × Value)} (r:KV kvs vs):kvs.length=vs.length:=Paired.length r
theorem xik (kvs:List (κ × V)) (k:κ):(xbv kvs k).length≤kvs.length:=List.length_filter_le _ _
end
theorem xcd {P:Program} {w:World} {k:Key} {u:Value} (r:RelV (kV k) u):(xaz P w).is k u=true:=by
 cases k with
 | inl i=>obtain ⟨t,e⟩:=(show ∃ t,u=Value.int i t from r); subst e; exact xiv P w i t
 | inr x=>obtain ⟨t,e⟩:=(show ∃ t,u=Value.str x t from r); subst e; exact xiw P w x t
theorem xg5 {P:Program} {w:World}:∀ {ks:List Key} {us:List Value},Vals (ks.map kV) us→ItemsAre (xaz P w) ks us
 | [],_,r=>by rw [List.map_nil] at r; cases r; exact .nil
 | k :: ks,_,r=>by
  rw [List.map_cons] at r
  cases r with
  | cons h t=>exact .cons (xcd h) (xg5 t)
abbrev KT (H:Hp):List (List Key × V)→List (List Key × Addr × Value)→Prop:=Paired fun p q=>p.1=q.1∧H q.2.1=some (.tup (p.1.map kV))∧RelV p.2 q.2.2
theorem KT.val {H:Hp} {kvs:List (List Key × V)} {xs:List (List Key × Addr × Value)} (r:KT H kvs xs) (k:List Key):RelO (valV kvs k) ((atKey xs k).map (·.2)):=by
 induction r with
 | nil=>exact True.intro
 | @cons p q ps qs h t ih =>
  obtain ⟨h1,_,h2⟩:=h
  by_cases e:p.1=k
  ·have e':q.1=k:=h1.symm.trans e
   have b:atKey (q :: qs) k=some q.2:=by simp [atKey,List.find?_cons,e']
   rw [xdl e,b]; exact h2
  ·have e':¬ q.1=k:=fun z=>e (h1.trans z)
   have b:atKey (q :: qs) k=atKey qs k:=by simp [atKey,List.find?_cons,e']
   rw [xcy e,b]; exact ih
theorem KT.repl {H:Hp} {kvs:List (List Key × V)} {xs:List (List Key × Addr × Value)} (r:KT H kvs xs) (k:List Key) {y:V} {u:Value} (ry:RelV y u) :
    KT H (kvs.map fun kv=>if kv.1=k then (kv.1,y) else kv) (xs.map (putAt k u)):=by
  induction r with
  | nil=>exact .nil
  | @cons p q ps qs h t ih =>
    rw [List.map_cons,List.map_cons]
    refine .cons ?_ ih
    obtain ⟨h1,h2,h3⟩:=h
    unfold putAt
    by_cases e:p.1=k
    · rw [if_pos e,if_pos (h1.symm.trans e)]; exact ⟨h1,h2,ry⟩
    · rw [if_neg e,if_neg (fun z=>e (h1.trans z))]; exact ⟨h1,h2,h3⟩
theorem KT.put {H:Hp} {kvs:List (List Key × V)} {xs:List (List Key × Addr × Value)} (r:KT H kvs xs) (k:List Key) {b:Addr} {y:V} {u:Value} (hb:H b=some (.tup (k.map kV))) (ry:RelV y u) :
    KT H (putK kvs k y) (storedH xs k b u):=by
  have e:(kvs.any fun kv=>decide (kv.1=k))=(atKey xs k).isSome:=by
    rw [xds,(r.val k).isSome_eq,Option.isSome_map]
  unfold putK storedH
  rw [e]
  by_cases q:(atKey xs k).isSome=true
  · rw [if_pos q,if_pos q]; exact r.repl k ry
  · rw [if_neg q,if_neg q]; exact Paired.snoc r ⟨rfl,hb,ry⟩
theorem KT.keeps {H H':Hp} {kvs:List (List Key × V)} {xs:List (List Key × Addr × Value)} (r:KT H kvs xs) (ht:∀ b ys,H b=some (.tup ys)→H' b=some (.tup ys)):KT H' kvs xs :=
 Paired.mapP r fun _ _ z=>⟨z.1,ht _ _ z.2.1,z.2.2⟩
section
variable {P:Program} {w:World} {H:Hp} {h:Heap} {a:Addr}
theorem xmv {u:HO} (ok:HOk P w H h) (e:Rd H a u):xa4 P w H h a u:=e.ok ok
theorem xdw {kvs:List (Key × V)} (ok:HOk P w H h) (e:Rd H a (.dK kvs)):kvs.length≤sizeLine∧(a == sysModules)=false∧∃ vs,KV kvs vs∧h.DictOf (xaz P w) a vs :=
 show xa4 P w H h a (.dK kvs) from xmv ok e
theorem xhq {kvs:List (Key × V)} (ok:HOk P w H h) (e:H a=some (.dK kvs)):kvs.length≤sizeLine∧(a == sysModules)=false∧∃ vs,KV kvs vs∧h.DictOf (xaz P w) a vs:=xdw ok (.inl e)
theorem xdr {ks:List Key} (ok:HOk P w H h) (e:H a=some (.tup (ks.map kV))):(tupleKind (xaz P w)).is h ks a:=by
 obtain ⟨_,its,r,o,h1,h2,n,h3⟩:=(show xa4 P w H h a (.tup (ks.map kV)) from ok a _ e)
 exact ⟨o,its.toArray,n,h1,h2,h3,by simpa using xg5 r⟩
theorem xec {kvs:List (List Key × V)} (ok:HOk P w H h) (e:Rd H a (.dT kvs)):kvs.length≤sizeLine∧(a == sysModules)=false ∧
    ∃ xs,KT H kvs xs∧h.DictOfH (tupleKind (xaz P w)) a xs:=by
  obtain ⟨z,y,xs,r,o,es,ep,h1,h2,h3,h4,h5⟩:=(show xa4 P w H h a (.dT kvs) from xmv ok e)
  refine ⟨z,y,xs,r,o,es,ep,h1,h2,h3,h4,fun x hx=>?_,h5⟩
  have all:∀ {l:List (List Key × V)} {m:List (List Key × Addr × Value)},KT H l m→∀ x ∈ m,(tupleKind (xaz P w)).is h x.1 x.2.1:=by
    intro l m q
    induction q with
    | nil=>intro x hx; exact nomatch hx
    | @cons p q ps qs hq t ih =>
      intro x hx
      rcases List.mem_cons.mp hx with e | hx
      · subst e
        exact xdr ok (by rw [← hq.1]; exact hq.2.1)
      · exact ih x hx
  exact all r x hx
theorem xj3 {kvs:List (List Key × V)} (ok:HOk P w H h) (e:H a=some (.dT kvs)):kvs.length≤sizeLine∧(a == sysModules)=false ∧
    ∃ xs,KT H kvs xs∧h.DictOfH (tupleKind (xaz P w)) a xs:=xec ok (.inl e)
end
def DGet (H:Hp) (a:Addr) (y:V) (r:Option V):Prop :=
 (∃ kvs k,Rd H a (.dK kvs)∧y=kV k∧r=valV kvs k)∨∃ kvs k b,Rd H a (.dT kvs)∧y=.ref b∧H b=some (.tup (k.map kV))∧r=valV kvs k
def DPut (H:Hp) (a:Addr) (y v:V) (H':Hp):Prop :=
 (∃ kvs k,H a=some (.dK kvs)∧y=kV k∧kvs.length < sizeLine∧H'=upd H a (.dK (putK kvs k v))) ∨
 ∃ kvs k b,H a=some (.dT kvs)∧y=.ref b∧H b=some (.tup (k.map kV))∧kvs.length < sizeLine∧H'=upd H a (.dT (putK kvs k v))
theorem DGet.k {H:Hp} {a:Addr} {kvs:List (Key × V)} {k:Key} (e:H a=some (.dK kvs)):DGet H a (kV k) (valV kvs k):=.inl ⟨kvs,k,.inl e,rfl,rfl⟩
theorem DGet.t {H:Hp} {a b:Addr} {kvs:List (List Key × V)} {k:List Key} (e:H a=some (.dT kvs)) (eb:H b=some (.tup (k.map kV))):DGet H a (.ref b) (valV kvs k):=.inr ⟨kvs,k,b,.inl e,rfl,eb,rfl⟩
theorem DPut.k {H:Hp} {a:Addr} {kvs:List (Key × V)} {k:Key} {v:V} (e:H a=some (.dK kvs)) (hl:kvs.length < sizeLine):DPut H a (kV k) v (upd H a (.dK (putK kvs k v))):=.inl ⟨kvs,k,e,rfl,hl,rfl⟩
theorem DPut.t {H:Hp} {a b:Addr} {kvs:List (List Key × V)} {k:List Key} {v:V} (e:H a=some (.dT kvs)) (eb:H b=some (.tup (k.map kV))) (hl:kvs.length < sizeLine) :
    DPut H a (.ref b) v (upd H a (.dT (putK kvs k v))):=.inr ⟨kvs,k,b,e,rfl,eb,hl,rfl⟩
section
variable {X:Cx} {pins:List (Addr × Obj)} {σ:St} {H:Hp} {s:Shared} {a:Addr} {y v:V} {u r:Value} {o:Option V} {A:Around} {E:Value→Shared→Prop}
theorem Inv.big (I:Inv X pins σ H s):sysModules < s.heap.objs.size:=by
 have h:mainGlobals < s.heap.objs.size:=(I.mod.glob.keeps I.bk).lt
 exact Nat.lt_trans (by decide) h
theorem xku {Q:Value→Shared→Prop} (hu:A.units + 1 < cLine) (I:Inv X pins σ H s) (g:DGet H a y (some v)) (ry:RelV y u) (h:∀ w' s',Inv X pins σ H s'→RelV v w'→Q w' s') :
    wpAny (model X.prog X.w) A (getItem (.ref a) u) Q E s:=by
  rcases g with ⟨kvs,k,e,ey,l⟩ | ⟨kvs,k,b,e,ey,eb,l⟩
  · subst ey
    obtain ⟨z,hd,vs,rel,dd⟩:=xdw I.hok e
    obtain ⟨w',hw,rw'⟩:=RelO.some_of (v:=v) (o:=valueAt vs k) (by rw [l]; exact rel.val k)
    exact wpAny_getItem_of (xcd ry) dd.mapOf hw (h w' _ (I.tok _) rw')
  · subst ey
    cases (show u=Value.ref b from ry)
    obtain ⟨z,hd,xs,rel,dd⟩:=xec I.hok e
    obtain ⟨w',hw,rw'⟩:=RelO.some_of (v:=v) (o:=(atKey xs k).map (·.2)) (by rw [l]; exact rel.val k)
    obtain ⟨p,hp,hp2⟩:=Option.map_eq_some_iff.mp hw
    refine wpAny_getItem_heap (tupleKind_room_in1 hu) (xdr I.hok eb) dd hp ?_
    rw [hp2]
    exact h w' _ (I.tok _) rw'
theorem d_in {Q:Value→Shared→Prop} (hu:A.units + 1 < cLine) (I:Inv X pins σ H s) (g:DGet H a y o) (ry:RelV y u) (h:∀ s',Inv X pins σ H s'→Q (.bool o.isSome) s') :
    wpAny (model X.prog X.w) A (compareOp .In u (.ref a)) Q E s:=by
  rcases g with ⟨kvs,k,e,ey,l⟩ | ⟨kvs,k,b,e,ey,eb,l⟩
  · subst ey
    obtain ⟨z,hd,vs,rel,dd⟩:=xdw I.hok e
    refine wpAny_in_of (xcd ry) hd dd.mapOf ?_
    rw [← (rel.val k).isSome_eq,← l]
    exact h _ (I.tok _)
  · subst ey
    cases (show u=Value.ref b from ry)
    obtain ⟨z,hd,xs,rel,dd⟩:=xec I.hok e
    refine wpAny_in_heap (tupleKind_room_in1 hu) (xdr I.hok eb) hd dd ?_
    have q:=(rel.val k).isSome_eq
    rw [Option.isSome_map] at q
    rw [← q,← l]
    exact h _ (I.tok _)
theorem xm8 {Q:Value→Shared→Prop} (hu:A.units + 1 < cLine) (I:Inv X pins σ H s) (g:DGet H a y o) (ry:RelV y u) (h:∀ s',Inv X pins σ H s'→Q (.bool (!o.isSome)) s') :
    wpAny (model X.prog X.w) A (compareOp .NotIn u (.ref a)) Q E s:=by
  rcases g with ⟨kvs,k,e,ey,l⟩ | ⟨kvs,k,b,e,ey,eb,l⟩
  · subst ey
    obtain ⟨z,hd,vs,rel,dd⟩:=xdw I.hok e
    refine wpAny_notIn_of (xcd ry) hd dd.mapOf ?_
    rw [← (rel.val k).isSome_eq,← l]
    exact h _ (I.tok _)
  · subst ey
    cases (show u=Value.ref b from ry)
    obtain ⟨z,hd,xs,rel,dd⟩:=xec I.hok e
    refine wpAny_notIn_heap (tupleKind_room_in1 hu) (xdr I.hok eb) hd dd ?_
    have q:=(rel.val k).isSome_eq
    rw [Option.isSome_map] at q
    rw [← q,← l]
    exact h _ (I.tok _)
theorem xd4 {h':Heap} {t':Nat} {ob:HO} (I:Inv X pins σ H s) (mu:Mut (H a)) (hs:Heap.SameBut a s.heap h') (he:∃ q,h'.get? a=some q) (new:xa4 X.prog X.w (upd H a ob) h' a ob) :
    Inv X pins σ (upd H a ob) { s with heap:=h',toks:=t' } :=
  I.write (x:=a) (e:=a) mu (.inl rfl) (fun b q hb z=>(hs.2 b hb).trans z) he new
theorem xig {P:Program} {w:World} {H':Hp} {h':Heap} {kvs:List (Key × V)} {vs:List (Key × Value)} (z:kvs.length≤sizeLine) (hd:(a == sysModules)=false) (rel:KV kvs vs) (dd:h'.DictOf (xaz P w) a vs) :
    xa4 P w H' h' a (.dK kvs):=⟨z,hd,vs,rel,dd⟩
theorem xlk {H':Hp} {Q:Unit→Shared→Prop} (hu:A.units + 1 < cLine) (I:Inv X pins σ H s) (g:DPut H a y v H') (ry:RelV y u) (rv:RelV v r) (h:∀ s',Inv X pins σ H' s'→Q () s') :
    wpAny (model X.prog X.w) A (setItem (.ref a) u r) Q E s:=by
  rcases g with ⟨kvs,k,e,ey,l,eH⟩ | ⟨kvs,k,b,e,ey,eb,l,eH⟩
  · subst ey eH
    obtain ⟨z,hd,vs,rel,dd⟩:=xhq I.hok e
    have hz:vs.length≤sizeLine:=by rw [← rel.length]; exact z
    have hl:(putK kvs k v).length≤sizeLine:=by have:=xdz kvs k v; omega
    refine wpAny_setItem_pairs (hsz:=hz) (xcd ry) dd fun h' dd' hs=>h _ ?_
    have he:∃ q,h'.get? a=some q:=let ⟨q,_,_,hq,_⟩:=dd'; ⟨q,hq⟩
    exact xd4 I (by rw [e]; exact True.intro) hs he (xig hl hd (rel.put k rv) dd')
  · subst ey eH
    cases (show u=Value.ref b from ry)
    obtain ⟨z,hd,xs,rel,dd⟩:=xj3 I.hok e
    have hz:xs.length≤sizeLine:=by rw [← Paired.length rel]; exact z
    have hl:(putK kvs k v).length≤sizeLine:=by have:=xdz kvs k v; omega
    refine wpAny_setItem_heap (hsz:=hz) (tupleKind_room_in1 hu) (xdr I.hok eb) dd fun h' dd' hs=>h _ ?_
    obtain ⟨q,es,ep,hq,h2,h3,h4,_,h5⟩:=dd'
    refine xd4 I (by rw [e]; exact True.intro) hs ⟨q,hq⟩ ⟨hl,hd,_,(rel.put k eb rv).keeps fun c ys ec=>?_,q,es,ep,hq,h2,h3,h4,h5⟩
    rw [xl (xac ec e (fun z=>nomatch z))]
    exact ec
end
section
variable {X:Cx} {pins:List (Addr × Obj)} {σ:St} {H:Hp} {s:Shared} {a:Addr} {kvs:List (Key × V)} {k:Key} {u:Value} {A:Around} {E:Value→Shared→Prop}
theorem xqp {v:V} {more:List Value} {Q:Value→Shared→Prop} (I:Inv X pins σ H s) (e:H a=some (.dK kvs)) (ry:RelV (kV k) u) (l:valV kvs k=some v) (hm:more=[]∨∃ x,more=[x])
    (h:∀ w' s',Inv X pins σ (upd H a (.dK (xbv kvs k))) s'→RelV v w'→Q w' s'):wpAny (model X.prog X.w) A (call (.builtin "dict.pop") (.ref a :: u :: more)) Q E s:=by
  obtain ⟨z,hd,vs,rel,dd⟩:=xhq I.hok e
  obtain ⟨w',hw,rw'⟩:=RelO.some_of (v:=v) (o:=valueAt vs k) (by rw [← l]; exact rel.val k)
  have hp:(keyPart u).isSome=true:=by
    cases k with
    | inl i=>obtain ⟨t,q⟩:=(show ∃ t,u=Value.int i t from ry); subst q; rfl
    | inr x=>obtain ⟨t,q⟩:=(show ∃ t,u=Value.str x t from ry); subst q; rfl
  have ha:argsOk "dict.pop" ⟨.ref a :: u :: more,[]⟩:=by
    rcases hm with q | ⟨x,q⟩
    · subst q; exact PySem.F.args_dict_pop_2 _ _
    · subst q; exact PySem.F.args_dict_pop_3 _ _ _
  refine call_meetsIn PySem.F.slot_dict_pop dd.typeIs PySem.F.entry_dict_pop ha (meets_dict_pop_there (xaz X.prog X.w) a (xcd ry) more hm hp)
    ⟨vs,w',dd,by rw [← rel.length]; exact z,hw,fun h' dd' hs=>h w' _ ?_ rw'⟩
  have he:∃ q,h'.get? a=some q:=let ⟨q,_,_,hq,_⟩:=dd'; ⟨q,hq⟩
  exact xd4 I (by rw [e]; exact True.intro) hs he (xig (Nat.le_trans (xik kvs k) z) hd (rel.drop k) dd')
theorem xqq {Q:Value→Shared→Prop} (I:Inv X pins σ H s) (e:Rd H a (.dK kvs)) (h:∀ t s',Inv X pins σ H s'→Q (.int kvs.length t) s'):wpAny (model X.prog X.w) A (call (.builtin "len") [.ref a]) Q E s:=by
 obtain ⟨z,hd,vs,rel,dd⟩:=xdw I.hok e
 refine call_len_dict hd dd (by rw [← rel.length]; rw [sizeLine_eq] at z; omega) ?_
 rw [← rel.length]
 exact h _ _ (I.tok _)
end
def NoSl (i:Expr):Prop:=∀ ov iv,subscripted i false ov iv=operate [ov,iv] (getItem ov iv)
theorem xi4 {prog:Program} {w:World} {A:Around} {E:Value→Shared→Prop} {s:Shared} {env:Env} {value slice:Expr} {pos:Pos} {T id:String} {Q:Value→Shared→Prop}
    (hl:typeLookup (.type T) "__getitem__"=pure (some (.builtin id))) (hs:NoSl slice)
    (h:wpAny (model prog w) A (eval value env) (fun o s₁=>wpAny (model prog w) A (eval slice env) (fun i s₂=>s₂.TypeIs o T∧wpAny (model prog w) A (getItem o i) Q E s₂) E s₁) E s) :
    wpAny (model prog w) A (eval (.Subscript value slice pos) env) Q E s:=by
  refine Subscript_ (wpAny_mono h (fun o s₁ h₁=>wpAny_mono h₁ (fun i s₂ h₂=>?_) fun _ _ x=>x) fun _ _ x=>x)
  obtain ⟨hT,h₂⟩:=h₂
  unfold subscriptTail
  refine wpAny_bind ?_
  rw [getitemInPython_of_ne hT.not_modules]
  refine wpAny_bind (wpAny_specialOf hT hl ?_)
  have fin:wpAny (model prog w) A (subscripted slice false o i) (fun r s₃=>wpAny (model prog w) A (letTemporaryGo value o r >>= fun _=>pure r) Q E s₃) E s₂:=by
    rw [hs o i]
    exact wpAny_operating (wpAny_mono h₂ (fun r s₃ h₃=>wpAny_bind (wpAny_letTemporaryGo (wpAny_pure h₃))) fun _ _ x=>x)
  first
    | exact wpAny_pure (wpAny_bind fin)
    | exact wpAny_bind (wpAny_pure (wpAny_bind fin))
    | exact wpAny_bind fin
theorem xiu {X:Cx} {pins:List (Addr × Obj)} {σ:St} {H:Hp} {s:Shared} {a:Addr} {y:V} {o:Option V} (I:Inv X pins σ H s) (g:DGet H a y o):s.TypeIs (.ref a) "dict":=by
 rcases g with ⟨kvs,k,e,_,_⟩ | ⟨kvs,k,b,e,_,_,_⟩
 ·obtain ⟨_,_,vs,_,dd⟩:=xdw I.hok e
  exact dd.typeIs
 ·obtain ⟨_,_,xs,_,dd⟩:=xec I.hok e
  exact dd.typeIs
def xpp (td ty:TE):TE:=fun σ H Q=>td σ H fun x H1=>ty σ H1 fun y H2=>∃ a v,x=.ref a∧DGet H2 a y (some v)∧Q v H2
def tDIn (ty td:TE):TE:=fun σ H Q=>ty σ H fun y H1=>td σ H1 fun x H2=>∃ a o,x=.ref a∧DGet H2 a y o∧Q (.bl o.isSome) H2
def xnd (ty td:TE):TE:=fun σ H Q=>ty σ H fun y H1=>td σ H1 fun x H2=>∃ a o,x=.ref a∧DGet H2 a y o∧Q (.bl (!o.isSome)) H2
def xpx (td ty tv:TE):TS:=fun D σ H=>tv σ H fun v H1=>td σ H1 fun x H2=>ty σ H2 fun y H3=>∃ a H4,x=.ref a∧DPut H3 a y v H4∧D.nx σ H4
section
variable {X:Cx} {o i e value:Expr} {pos pos' tpos:Pos} {td ty tv:TE}
theorem xgw (hu:X.A.units + 1 < cLine) (ho:PE X o td) (hi:PE X i ty) (hs:NoSl i):PE X (.Subscript o i pos) (xpp td ty):=by
 intro pins s σ H Q I h
 refine xi4 PySem.F.slot_dict_getitem.lookup hs (thn (ho pins s σ H _ I h) fun u s1 ⟨x,H1,I1,rx,q1⟩=>thn (hi pins s1 σ H1 _ I1 q1) fun iv s2 ⟨y,H2,I2,ry,a,v,ex,g,q2⟩=>?_)
 subst ex
 obtain rfl:u=Value.ref a:=rx
 exact ⟨xiu I2 g,xku hu I2 g ry fun w' s3 I3 rw'=>⟨v,H2,I3,rw',q2⟩⟩
theorem xe4 (hu:X.A.units + 1 < cLine) (hi:PE X i ty) (ho:PE X o td):PC X .In i o (tDIn ty td):=by
 intro pins s σ H Q I h
 refine thn (hi pins s σ H _ I h) fun iv s1 ⟨y,H1,I1,ry,q1⟩=>thn (ho pins s1 σ H1 _ I1 q1) fun u s2 ⟨x,H2,I2,rx,a,ov,ex,g,q2⟩=>?_
 subst ex
 obtain rfl:u=Value.ref a:=rx
 exact d_in hu I2 g ry fun s3 I3=>⟨.bl ov.isSome,H2,I3,rfl,q2⟩
theorem xe5 (hu:X.A.units + 1 < cLine) (hi:PE X i ty) (ho:PE X o td):PC X .NotIn i o (xnd ty td):=by
 intro pins s σ H Q I h
 refine thn (hi pins s σ H _ I h) fun iv s1 ⟨y,H1,I1,ry,q1⟩=>thn (ho pins s1 σ H1 _ I1 q1) fun u s2 ⟨x,H2,I2,rx,a,ov,ex,g,q2⟩=>?_
 subst ex
 obtain rfl:u=Value.ref a:=rx
 exact xm8 hu I2 g ry fun s3 I3=>⟨.bl (!ov.isSome),H2,I3,rfl,q2⟩
theorem xd2 (hu:X.A.units + 1 < cLine) (ho:PE X o td) (hi:PE X i ty) (hv:PE X value tv) (hs:swapsWith value (some (.Subscript o i pos')) pos.line X.env=pure false) :
    PS X (.Assign [.Subscript o i pos'] value pos) (xpx td ty tv):=by
  intro pins s σ H D I h
  refine wpAny_Assign_Subscript (thn (hv pins s σ H _ I h) fun r s1 ⟨v,H1,I1,rv,q1⟩=>thn (ho pins s1 σ H1 _ I1 q1) fun u s2 ⟨x,H2,I2,rx,q2⟩=>thn (hi pins s2 σ H2 _ I2 q2) fun iv s3 ⟨y,H3,I3,ry,a,H4,ex,g,q3⟩=>?_) hs
  subst ex
  obtain rfl:u=Value.ref a:=rx
  exact xlk hu I3 g ry rv fun s4 I4=>⟨σ,H4,I4,q3⟩
end
theorem xij {P:Program} {w:World} {H:Hp} (h:Heap) (hb:sysModules < h.objs.size):xa4 P w H (h.push { cls:=.type "dict",data:=.dict #[] }) h.objs.size (.dK []) :=
 ⟨Nat.zero_le _,beq_eq_false_iff_ne.mpr (Ne.symm (Nat.ne_of_lt hb)),[],.nil,Heap.DictOf.new h⟩
theorem xmh {P:Program} {w:World} {H:Hp} (h:Heap) (hb:sysModules < h.objs.size):xa4 P w H (h.push { cls:=.type "dict",data:=.dict #[] }) h.objs.size (.dT []) :=
 ⟨Nat.zero_le _,beq_eq_false_iff_ne.mpr (Ne.symm (Nat.ne_of_lt hb)),[],.nil,_,#[],0,Heap.get?_push_size _ rfl,⟨rfl,rfl,rfl⟩,rfl,rfl,List.nodup_nil⟩
def xoj:TE:=fun _ H Q=>∀ p,H p=none→Q (.ref p) (upd H p (.dK []))
def xoc:TE:=fun _ H Q=>∀ p,H p=none→Q (.ref p) (upd H p (.dT []))
section
variable {X:Cx} {pos:Pos}
theorem xlw:PE X (.Dict [] [] pos) xoj:=fun pins s σ H Q I h =>
 wpAny_Dict_empty ⟨.ref s.heap.objs.size,_,I.laid (a:=s.heap.objs.size) (o:=.dK []) (t':=s.toks) (fun _ _ q=>Heap.get?_push_of_some _ q) (Nat.le_refl _) (xij s.heap I.big),rfl,h _ (I.hok.fresh (Nat.le_refl _))⟩
theorem xl9:PE X (.Dict [] [] pos) xoc:=fun pins s σ H Q I h =>
 wpAny_Dict_empty ⟨.ref s.heap.objs.size,_,I.laid (a:=s.heap.objs.size) (o:=.dT []) (t':=s.toks) (fun _ _ q=>Heap.get?_push_of_some _ q) (Nat.le_refl _) (xmh s.heap I.big),rfl,h _ (I.hok.fresh (Nat.le_refl _))⟩
end
def xip:List (TE × TE)→St→Hp→(List (V × V)→Hp→Prop)→Prop
 | [],_,H,Q=>Q [] H
 | (tk,tv) :: r,σ,H,Q=>tk σ H fun x H1=>tv σ H1 fun y H2=>xip r σ H2 fun ps H3=>Q ((x,y) :: ps) H3
abbrev VV:List (V × V)→List (Value × Value)→Prop:=Paired fun p q=>RelV p.1 q.1∧RelV p.2 q.2
def PPs (X:Cx) (pos:Pos) (keys:List (Option Expr)) (values:List Expr) (trs:List (TE × TE)):Prop :=
 ∀ (pins:List (Addr × Obj)) (s:Shared) (σ:St) (H:Hp) (Q:List (V × V)→Hp→Prop),Inv X pins σ H s→xip trs σ H Q →
  wpAny (model X.prog X.w) X.A (evalPairs (pairTrees keys values X.env pos)) (fun vs s'=>∃ ps H',Inv X pins σ H' s'∧VV ps vs∧Q ps H') X.xe s
theorem xi0 {X:Cx} {pos:Pos}:PPs X pos [] [] []:=fun pins s σ H Q I h=>pairTrees_nil_walk ⟨[],H,I,.nil,h⟩
theorem xfs {X:Cx} {pos:Pos} {k v:Expr} {ks:List (Option Expr)} {vs:List Expr} {tk tv:TE} {trs:List (TE × TE)} (hk:PE X k tk) (hv:PE X v tv) (hr:PPs X pos ks vs trs) :
    PPs X pos (some k :: ks) (v :: vs) ((tk,tv) :: trs):=fun pins s σ H Q I h =>
  pairTrees_cons_walk (thn (hk pins s σ H _ I h) fun u s1 ⟨x,H1,I1,rx,q1⟩=>thn (hv pins s1 σ H1 _ I1 q1) fun w2 s2 ⟨y,H2,I2,ry,q2⟩ =>
    thn (hr pins s2 σ H2 _ I2 q2) fun ws s3 ⟨ps,H3,I3,rel,q3⟩=>⟨(x,y) :: ps,H3,I3,.cons ⟨rx,ry⟩ rel,q3⟩)
def xb9 (kvs more:List (Key × V)):List (Key × V):=more.foldl (fun acc kv=>putK acc kv.1 kv.2) kvs
theorem KV.merge:∀ {more:List (Key × V)} {rs:List (Key × Value)} {kvs:List (Key × V)} {vs:List (Key × Value)},KV more rs→KV kvs vs→KV (xb9 kvs more) (merged vs rs):=by
 intro more rs kvs vs r
 unfold KV at r
 induction r generalizing kvs vs with
 | nil=>intro q; exact q
 | @cons p q ps qs h t ih =>
  intro r0
  have e:KV (putK kvs p.1 p.2) (stored vs q.1 q.2):=by
   have:=r0.put p.1 h.2
   rw [← h.1]; exact this
  exact ih e
theorem xej:∀ (more kvs:List (Key × V)),(xb9 kvs more).length≤kvs.length + more.length
 | [],kvs=>by show kvs.length≤kvs.length + 0; omega
 | p :: r,kvs=>by
  have h1:=xej r (putK kvs p.1 p.2)
  have h2:=xdz kvs p.1 p.2
  show (xb9 (putK kvs p.1 p.2) r).length≤_
  rw [List.length_cons]; omega
theorem xgc {P:Program} {w:World}:∀ {kvs:List (Key × V)} {ws:List (Value × Value)},VV (kvs.map fun kv=>(kV kv.1,kv.2)) ws→∃ rs,Carries (xaz P w) ws rs∧KV kvs rs
 | [],_,r=>by rw [List.map_nil] at r; cases r; exact ⟨[],True.intro,.nil⟩
 | p :: kvs,_,r=>by
  rw [List.map_cons] at r
  cases r with
  | @cons a b as bs h t =>
   obtain ⟨rs,c,q⟩:=xgc (P:=P) (w:=w) t
   obtain ⟨b1,b2⟩:=b
   exact ⟨(p.1,b2) :: rs,⟨xcd h.1,rfl,c⟩,.cons ⟨rfl,h.2⟩ q⟩
def xps (trs:List (TE × TE)):TE:=fun σ H Q=>∀ p,H p=none→xip trs σ (upd H p (.dK [])) fun ps H2=>H2 p=some (.dK [])∧∃ kvs:List (Key × V),ps=kvs.map (fun kv=>(kV kv.1,kv.2))∧kvs.length≤15∧Q (.ref p) (upd H2 p (.dK (xb9 [] kvs)))
theorem xiz {X:Cx} {pos:Pos} {keys:List (Option Expr)} {values:List Expr} {trs:List (TE × TE)} (h:PPs X pos keys values trs) (hall:keys.all (·.isSome)=true) (hl:keys.length=values.length) (h0:keys≠[])
    (h15:keys.length≤15):PE X (.Dict keys values pos) (xps trs):=by
  intro pins s σ H Q I q
  have hn:=I.hok.fresh (Nat.le_refl s.heap.objs.size)
  have I1:=I.laid (a:=s.heap.objs.size) (o:=.dK []) (h':=s.heap.push { cls:=.type "dict",data:=.dict #[] }) (t':=s.toks) (fun _ _ q=>Heap.get?_push_of_some _ q) (Nat.le_refl _) (xij s.heap I.big)
  refine wpAny_Dict_walk (knd:=xaz X.prog X.w) hall hl h0 h15 (thn (h pins _ σ _ _ I1 (q _ hn)) fun ws s2 ⟨ps,H2,I2,rel,e,kvs,ep,lk,q2⟩=>?_)
  subst ep
  obtain ⟨rs,c,rk⟩:=xgc (P:=X.prog) (w:=X.w) rel
  obtain ⟨z,hd,vs0,r0,dd⟩:=xhq I2.hok e
  cases r0
  refine ⟨rs,c,dd,fun h' dd' hs=>⟨.ref s.heap.objs.size,_,?_,rfl,q2⟩⟩
  have hz:(xb9 [] kvs).length≤sizeLine:=by
    have h1:=xej kvs []
    rw [List.length_nil] at h1
    rw [sizeLine_eq]; omega
  have he:∃ q,h'.get? s.heap.objs.size=some q:=let ⟨q,_,_,hq,_⟩:=dd'; ⟨q,hq⟩
  exact xd4 I2 (by rw [e]; exact True.intro) hs he (xig hz hd (rk.merge .nil) dd')
structure M1 (X:Cx) (o:Expr) (m:Str) (apos:Pos) (e:Expr) (cpos:Pos):Prop where
 base:attributeBase o m X.env (eval o X.env)=eval o X.env
 few:((backTo cpos (starEach [e] X.env)).all (fun x=>!x.1) && (backToKw cpos (keywordEach [] X.env)).all (fun x=>x.1.isSome)
  && decide (([e]:List Expr).length + ([]:List Keyword).length + (if ([]:List Keyword).isEmpty then 0 else 1) < 30))=true
 line:(apos.endLine == cpos.line)=true
 trees:backTo cpos (starEach [e] X.env)=[(false,eval e X.env)]
structure M2 (X:Cx) (o:Expr) (m:Str) (apos:Pos) (e f:Expr) (cpos:Pos):Prop where
 base:attributeBase o m X.env (eval o X.env)=eval o X.env
 few:((backTo cpos (starEach [e,f] X.env)).all (fun x=>!x.1) && (backToKw cpos (keywordEach [] X.env)).all (fun x=>x.1.isSome)
  && decide (([e,f]:List Expr).length + ([]:List Keyword).length + (if ([]:List Keyword).isEmpty then 0 else 1) < 30))=true
 line:(apos.endLine == cpos.line)=true
 trees:backTo cpos (starEach [e,f] X.env)=[(false,eval e X.env),(false,eval f X.env)]
def IsD (H:Hp) (a:Addr):Prop:=(∃ kvs,Rd H a (.dK kvs))∨∃ kvs,Rd H a (.dT kvs)
theorem xih {X:Cx} {pins:List (Addr × Obj)} {σ:St} {H:Hp} {s:Shared} {a:Addr} (I:Inv X pins σ H s) (d:IsD H a) :
    s.TypeIs (.ref a) "dict"∧(∀ b,Value.ref a=.ref b→∃ ob,s.heap.get? b=some ob∧ob.dict=none)∧(a == sysModules)=false:=by
  rcases d with ⟨kvs,e⟩ | ⟨kvs,e⟩
  · obtain ⟨_,hd,vs,_,dd⟩:=xdw I.hok e
    refine ⟨dd.typeIs,fun b q=>?_,hd⟩
    cases q
    obtain ⟨ob,_,_,h1,h2,_⟩:=dd
    exact ⟨ob,h1,h2.2.1⟩
  · obtain ⟨_,hd,xs,_,dd⟩:=xec I.hok e
    refine ⟨dd.typeIs,fun b q=>?_,hd⟩
    cases q
    obtain ⟨ob,_,_,h1,h2,_⟩:=dd
    exact ⟨ob,h1,h2.2.1⟩
section
variable {X:Cx} {pins:List (Addr × Obj)} {σ:St} {H:Hp} {s:Shared} {a:Addr} {y d:V} {u r:Value} {o:Option V} {A:Around} {E:Value→Shared→Prop}
theorem xn5 {Q:Value→Shared→Prop} (hu:A.units + 1 < cLine) (I:Inv X pins σ H s) (g:DGet H a y o) (ry:RelV y u) (rd:RelV d r) (h:∀ w' s',Inv X pins σ H s'→RelV (o.getD d) w'→Q w' s') :
    wpAny (model X.prog X.w) A (call (.builtin "dict.get") [.ref a,u,r]) Q E s:=by
  rcases g with ⟨kvs,k,e,ey,l⟩ | ⟨kvs,k,b,e,ey,eb,l⟩
  · subst ey
    obtain ⟨z,hd,vs,rel,dd⟩:=xdw I.hok e
    refine call_meetsIn PySem.F.slot_dict_get dd.typeIs PySem.F.entry_dict_get (PySem.F.args_dict_get_3 _ _ _) (meets_dict_get_default (xaz X.prog X.w) a (xcd ry) hd r) ⟨_,dd.mapOf,h _ _ (I.tok _) ?_⟩
    rw [l]
    exact (rel.val k).getD rd
  · subst ey
    cases (show u=Value.ref b from ry)
    obtain ⟨z,hd,xs,rel,dd⟩:=xec I.hok e
    refine call_meetsIn PySem.F.slot_dict_get dd.typeIs PySem.F.entry_dict_get (PySem.F.args_dict_get_3 _ _ _) (meetsH_dict_get_default (tupleKind (xaz X.prog X.w)) a b hd r) ⟨tupleKind_room_in1 hu,k,xs,xdr I.hok eb,dd,h _ _ (I.tok _) ?_⟩
    rw [l]
    exact (rel.val k).getD rd
end
def xox (td ty tx:TE):TE:=fun σ H Q=>td σ H fun x H1=>∃ a,x=.ref a∧IsD H1 a∧ty σ H1 fun y H2=>tx σ H2 fun z H3=>∃ o,DGet H3 a y o∧Q (o.getD z) H3
def xom (td ty:TE):TE:=fun σ H Q=>td σ H fun x H1=>∃ a,x=.ref a∧IsD H1 a∧ty σ H1 fun y H2=>∃ kvs k v,H2 a=some (.dK kvs)∧y=kV k∧valV kvs k=some v∧Q v (upd H2 a (.dK (xbv kvs k)))
section
variable {X:Cx} {o e f:Expr} {apos cpos:Pos} {td ty tx:TE}
theorem xhx (hu:X.A.units + 1 < cLine) (ho:PE X o td) (he:PE X e ty) (hf:PE X f tx) (m:M2 X o "get" apos e f cpos):PE X (.Call (.Attribute o "get" apos) [e,f] [] cpos) (xox td ty tx):=by
 intro pins s σ H Q I h
 refine wpAny_Call_method m.base m.few m.line PySem.F.plainAttrs_dict PySem.F.slot_dict_get PySem.F.type_dict_get (thn (ho pins s σ H _ I h) fun u s1 ⟨x,H1,I1,rx,a,ex,d,q1⟩=>?_)
 subst ex
 obtain rfl:u=Value.ref a:=rx
 obtain ⟨t1,t2,_⟩:=xih I1 d
 refine ⟨t1,t2,?_⟩
 rw [m.trees]
 refine Calls.callWith_builtin rfl (Calls.evalArgs_plain (Calls.spliced_cons (thn (he pins s1 σ H1 _ I1 q1) fun iv s2 ⟨y,H2,I2,ry,q2⟩ =>
  Calls.spliced_cons (thn (hf pins s2 σ H2 _ I2 q2) fun fv s3 ⟨z,H3,I3,rz,ov,g,q3⟩=>Calls.spliced_nil ?_))))
 exact xn5 hu I3 g ry rz fun w' s4 I4 rw'=>⟨_,H3,I4,rw',q3⟩
theorem xl6 (ho:PE X o td) (he:PE X e ty) (m:M1 X o "pop" apos e cpos):PE X (.Call (.Attribute o "pop" apos) [e] [] cpos) (xom td ty):=by
 intro pins s σ H Q I h
 refine wpAny_Call_method m.base m.few m.line PySem.F.plainAttrs_dict PySem.F.slot_dict_pop PySem.F.type_dict_pop (thn (ho pins s σ H _ I h) fun u s1 ⟨x,H1,I1,rx,a,ex,d,q1⟩=>?_)
 subst ex
 obtain rfl:u=Value.ref a:=rx
 obtain ⟨t1,t2,_⟩:=xih I1 d
 refine ⟨t1,t2,?_⟩
 rw [m.trees]
 refine Calls.callWith_builtin rfl (Calls.evalArgs_plain (Calls.spliced_cons (thn (he pins s1 σ H1 _ I1 q1) fun iv s2 ⟨y,H2,I2,ry,kvs,k,v,ea,ey,l,q2⟩=>Calls.spliced_nil ?_)))
 subst ey
 exact xqp I2 ea ry l (.inl rfl) fun w' s3 I3 rw'=>⟨v,_,I3,rw',q2⟩
end
section
variable {X:Cx} {pins:List (Addr × Obj)} {σ:St} {H:Hp} {s:Shared} {a:Addr} {kvs:List (Key × V)} {A:Around} {E:Value→Shared→Prop}
end
section
variable {X:Cx} {pins:List (Addr × Obj)} {σ:St} {H:Hp} {s:Shared} {a:Addr} {y:V} {u:Value} {A:Around} {E:Value→Shared→Prop}
end
end L2
namespace Att
open PySem PySem.W PySem.Calls PyProof.Rows
theorem xgg {P:Params} {h:Heap}:∀ (ns:List Int) (vs:List Value),WellAll P h vs (ns.map WData.int)→IntsAre vs ns:=by
 intro ns
 induction ns with
 | nil =>
  intro vs w
  rw [List.map_nil] at w
  cases w
  exact .nil
 | cons n ns ih =>
  intro vs w
  rw [List.map_cons] at w
  cases w with
  | cons a b =>
   cases a
   exact .cons _ _ (ih _ b)
theorem xkv {l:OpenLaw} {n:Nat} (hn:l.most=some n) {P:Params} {h:Heap} {args:List WData} {vals:List Value}
    (hpre:l.row.toRowW.claim.pre args=true) (hwl:WellAll P h vals args) :
    ∃ a vs ns,vals=[Value.ref a]∧args=[WData.list (ns.map WData.int)]∧h.get? a=some { cls:=.type "list",data:=.seq vs.toArray }∧IntsAre vs ns∧ns.length≤n:=by
  have hsh:WShape.hasAll [] args [.list .int]=true:=(pre_splitW hpre).1
  have hc:l.pre.holds [] { args:=args }=true:=(pre_splitW hpre).2
  obtain ⟨d,r,rfl,h1,h2⟩:=hasAllW_cons hsh
  obtain rfl:=hasAllW_nil h2
  obtain ⟨xs,rfl,h3⟩:=hasW_list h1
  obtain ⟨ns,rfl⟩:=items_int h3
  have hlen:ns.length≤n:=by
    unfold OpenLaw.pre at hc
    have h4:(WTm.not (.lt (.lit (.int (n:Int))) (.len (.arg 0)))).holds [] { args:=[.list (ns.map .int)] }=true:=by
      have h4:=(holds_andW hc).1
      rw [hn] at h4
      exact h4
    have h5:=condW_of h4 (w_not (w_lt w_lit (w_len_list (w_arg rfl))))
    rw [List.length_map] at h5
    refine Nat.le_of_not_lt fun q=>?_
    have q':(n:Int) < ((ns.length:Nat):Int):=by omega
    first
      | (rw [decide_eq_true q'] at h5; exact absurd h5 (by decide))
      | (simp at h5; omega)
  cases hwl with
  | cons w1 w2 =>
    cases w2
    cases w1 with
    | list ho hall=>exact ⟨_,_,ns,rfl,rfl,ho,xgg ns _ hall,hlen⟩
theorem xk9 (l:OpenLaw) (args:List WData):l.row.toRowW.claim.post args (.bool true) args=true :=
 postW_of (r:=l.row.toRowW) (X:=(true == true))
  (show WShape.has [] (.bool true) .bool=true by first | rfl | decide | simp [WShape.has,WShape.arms,WShape.armsAll])
  (show (WTm.eq .res (.lit (.bool true))).value [] { args:=args,res:=some (.bool true),after:=args }=some (.bool (true == true)) from w_eq_bool (w_res rfl) w_lit) rfl
theorem attach_call {l:OpenLaw} {n:Nat} {q:Program} {loose:List Str} {XP:(Str→Option Value)→Heap→Prop} {YP:World→Heap→Prop} {d:DefRec}
    (hn:l.most=some n) (hdf:d.params.defaults=[])
    (call:∀ (w:World) (s₀ s₁:Shared) (mg mb:Str→Option Value) (fa:Addr) (o:Obj) (pm cd doc:Value) (a:Addr) (vs:List Value) (ns:List Int),
      Ground q loose [] XP w s₀ mg mb s₁.heap→YP w s₁.heap →
      s₁.heap.get? fa=some o→o.data=.func (docDef d.name d.params d.body d.scope pm cd doc)→s₁.heap.CodeRec cd d.name→mg d.name=some (.ref fa) →
      s₁.heap.get? a=some { cls:=.type "list",data:=.seq vs.toArray }→IntsAre vs ns→ns.length≤n→s₁.gens=#[] →
      codeAny (model l.prog w) callerA (.call (.ref fa) ⟨[.ref a],[]⟩) (fun r s'=>r=.ok (.ret (.bool true))∧OldK s₁.heap s'.heap∧s'.os=s₁.os∧AllBare s'.gens) s₁) :
    WalkO q loose XP YP l.row.toRowW d [] (fun f vs=>PySem.call f vs):=by
  intro w s₀ s₁ mg mb G Y fa o pm cd doc dV kV ho hd hcd hD hmg hg args vals as hpre hlay hrd hwl hlo
  obtain rfl:dV=.none:=Dflts.none hD hdf
  obtain rfl:kV=.none:=Dflts.noKw hD
  obtain ⟨a,vs,ns,rfl,rfl,hobj,hints,hlen⟩:=xkv hn hpre hwl
  refine enter_call (codeAny_mono (call w s₀ s₁ mg mb fa o pm cd doc a vs ns G Y ho (fd_plain hd) hcd hmg hobj hints hlen hg) fun r s' hq=>?_)
  obtain ⟨rfl,h2,h3,h4⟩:=hq
  exact ⟨.inl ⟨.bool true,.bool true,[],rfl,fun _=>rfl,.bool true,xk9 l _,fun _=>⟨List.Pairwise.nil,fun _ hm=>(nomatch hm)⟩⟩,h2,h3,h4⟩
section
variable {prog:Program} {w:World} {A:Around} {E:Value→Shared→Prop} {s:Shared} {K:Frag}
def xqs (h:Heap) (L d:Addr):List (Addr × Obj):=(List.range h.objs.size).filterMap fun a=>if a=L∨a=d then none else (h.get? a).map fun o=>(a,o)
end
end Att
namespace L2
open PySem PySem.Spec PyProof.Rows
variable {q0:Bool}
theorem xg4:∀ {vs:List Value} {ns:List Int},IntsAre vs ns→Vals (ns.map V.int) vs
 | _,_,.nil=>.nil
 | _,_,.cons n t h=>.cons ⟨t,rfl⟩ (xg4 h)
def Only (H:Hp):Prop:=∀ b,H b=none∨∃ o xs,H b=some (.frz o (.lst xs))
theorem xmj {P:Program} {w:World} {K:PySem.W.Frag} {mg mb:Str→Option Value} {CX:CXT} {k:Nat} {fa a:Addr} {fd:FuncData} {x:Str} {sp:Sp} {s₁:Shared} {vs:List Value} {ns:List Int}
    (KX:K.In s₁.heap) (hns:s₁.heap.Ns mainGlobals mg) (hb:s₁.heap.Ns builtinsNs mb) (hbb:∀ x:Str,x≠"__name__"→mb x=bootBuiltins x) (hlim:s₁.heap.NoLimit) (hg:s₁.gens=#[])
    (ha:s₁.heap.get? a=some { cls:=.type "list",data:=.seq vs.toArray }) (hi:IntsAre vs ns) (hl:ns.length≤sizeLine) (hr:Room q0 k callerA)
    (F:∀ base:Heap,K.In base→base.Ns mainGlobals mg→FnOk q0 P w K mg base CX k fa fd [x] sp) (hbind:∀ (s:Shared) (u:Value),BindsTo s fd ⟨[u],[]⟩ [(x,u)])
    (hsp:∀ H:Hp,Only H→SqL K H a (ns.map V.int)→sp [.ref a] H (fun v _=>v=.bl true) fun _ _ _=>False)
    (hCX:∀ H e s',CX [] H s₁ (fun _ _ _=>False) e s'→False) :
    codeAny (model P w) callerA (.call (.ref fa) ⟨[.ref a],[]⟩) (fun r s'=>r=.ok (.ret (.bool true))∧OldK s₁.heap s'.heap∧s'.os=s₁.os∧AllBare s'.gens) s₁:=by
  have rv:=xg4 hi
  have lenV:=hi.length
  -- from an abstract heap in which nothing but the script may be tracked
  have core:∀ H:Hp,Only H→SqL K H a (ns.map V.int)→HOk P w H s₁.heap→(∀ b,H b≠none→b=a)→(H a≠none→K.lookup a=none) →
      codeAny (model P w) callerA (.call (.ref fa) ⟨[.ref a],[]⟩) (fun r s'=>r=.ok (.ret (.bool true))∧OldK s₁.heap s'.heap∧s'.os=s₁.os∧AllBare s'.gens) s₁:=by
    intro H hO hS hok hA hK
    have base_of:∀ {b:Addr} {o:Obj},s₁.heap.get? b=some o→H b=none→(hidT s₁.heap H).get? b=some o:=fun e n=>xmg e n
    have noA:∀ {b:Addr} {o:Obj} {es:Array DictEntry} {ep:Nat},s₁.heap.get? b=some o→o.data=.dict es ep→H b=none:=fun {b o es ep} e d=>by
      cases q:H b with
      | none=>rfl
      | some u =>
        have e':b=a:=hA b (by rw [q]; simp)
        subst e'
        rw [ha] at e; cases e
        have d':Data.seq vs.toArray _=Data.dict es ep:=d
        cases d'
    have nsK:∀ {b:Addr} {m:Str→Option Value},s₁.heap.Ns b m→(hidT s₁.heap H).Ns b m:=fun {b m} ⟨o,es,ep,e,d,r⟩=>⟨o,es,ep,base_of e (noA e d),d,r⟩
    have hKb:K.In (hidT s₁.heap H):=fun b o e=>base_of (KX b o e) (by
      cases q:H b with
      | none=>rfl
      | some u =>
        have e':b=a:=hA b (by rw [q]; simp)
        subst e'
        rw [hK (by rw [q]; simp)] at e; cases e)
    have hM:Mod K mg (hidT s₁.heap H):=⟨hKb,nsK hns,⟨mb,nsK hb,hbb⟩,let ⟨mc,h1,h2⟩:=hlim; ⟨mc,nsK h1,h2⟩⟩
    have e0:Env0 P w K mg (hidT s₁.heap H) callerA [] s₁ H:=⟨rfl,hM,fun b o e=>xnq e,Nat.le_of_eq (xkj _ _),trivial,fun b hb=>absurd (show b ∈ ([]:List Addr) from hb) (by simp),hok,.of_eq hg⟩
    refine codeAny_mono ((F _ hKb (nsK hns)).run callerA [] s₁ H ⟨[.ref a],[]⟩ [.ref a] [.ref a] _ _ hr e0 (hbind s₁ (.ref a)) (.cons rfl .nil) (hsp H hO hS)) fun r s' h=>?_
    cases r with
    | error e=>exact (hCX H e s' h).elim
    | ok fl =>
      cases fl with
      | next=>exact False.elim h
      | brk=>exact False.elim h
      | cont=>exact False.elim h
      | ret u =>
        obtain ⟨v,H',os,bare,un,hok',r',q⟩:=h
        have q':v=.bl true:=q
        subst q'
        obtain rfl:u=Value.bool true:=r'
        refine ⟨rfl,OldK.of_keep fun b o e=>?_,os,bare⟩
        cases q:H b with
        | none=>exact un.keep b o e q (by intro z; exact absurd (show b ∈ ([]:List Addr) from z) (by simp)) (by simp)
        | some u =>
          rcases hO b with z | ⟨ob,xs,z⟩
          · rw [q] at z; cases z
          · have z2:=un.frzs b ob _ z
            obtain ⟨e1,_⟩:=hok b _ z
            obtain ⟨e2,_⟩:=hok' b _ z2
            rw [e] at e1; cases e1
            exact e2
  cases hk:K.lookup a with
  | some o =>
    -- the script is one of the module's own objects
    have e:=KX a o hk
    rw [ha] at e
    cases e
    refine core (fun _=>none) (fun _=>.inl rfl) (.inr ⟨_,vs.toArray,_,hk,rfl,rfl,rfl,by rw [List.size_toArray,lenV]; exact hl,by simpa using rv⟩) (fun b u z=>by have z':(none:Option HO)=some u:=z; cases z') (fun b z=>absurd rfl z) fun z=>absurd rfl z
  | none =>
    refine core (fun b=>if b=a then some (.frz { cls:=.type "list",data:=.seq vs.toArray } (.lst (ns.map V.int))) else none) (fun b=>?_) (.inl (.inr ⟨{ cls:=.type "list",data:=.seq vs.toArray },if_pos rfl⟩)) (fun b u z=>?_) (fun b z=>?_) fun _=>hk
    · by_cases hb:b=a
      · exact .inr ⟨_,_,if_pos hb⟩
      · exact .inl (if_neg hb)
    · by_cases hb:b=a
      · have z':=(if_pos hb).symm.trans z
        cases z'
        subst hb
        exact ⟨ha,by rw [List.length_map]; exact hl,vs,_,rv,ha⟩
      · have z':=(if_neg hb).symm.trans z
        cases z'
    · by_cases hb:b=a
      · exact hb
      · exact absurd (if_neg hb) z
end L2
namespace L2
open PySem PySem.Spec PyProof.Rows
variable {q0:Bool}
abbrev KOf {K:PySem.W.Frag} {h:Heap} (_:K.In h):PySem.W.Frag:=K
theorem walk_of {l:PySem.W.OpenLaw} {n k:Nat} {q:Program} {loose:List Str} {XP:(Str→Option Value)→Heap→Prop} {YP:World→Heap→Prop} {d:DefRec} {K:Params→PySem.W.Frag} {CX:World→CXT} {sp:World→Sp} {x:Str}
    (hn:l.most=some n) (hn2:n≤sizeLine) (hdf:d.params.defaults=[]) (hr:Room q0 k callerA)
    (hY:∀ (w:World) (h:Heap),YP w h→(K w.params).In h)
    (F:∀ (w:World) (mg:Str→Option Value) (fa:Addr) (h:Heap),(K w.params).In h→h.Ns mainGlobals mg→mg d.name=some (.ref fa) →
      ∃ fd:FuncData,(∀ (s:Shared) (u:Value),BindsTo s fd ⟨[u],[]⟩ [(x,u)]) ∧
        ∀ base:Heap,(K w.params).In base→base.Ns mainGlobals mg→FnOk q0 l.prog w (K w.params) mg base (CX w) k fa fd [x] (sp w))
    (hsp:∀ (w:World) (H:Hp) (a:Addr) (ns:List Int),ns.length≤n→Only H→SqL (K w.params) H a (ns.map V.int)→sp w [.ref a] H (fun v _=>v=.bl true) fun _ _ _=>False)
    (hCX:∀ (w:World) (H:Hp) (s:Shared) (e:Value) (s':Shared),CX w [] H s (fun _ _ _=>False) e s'→False) :
    PySem.W.WalkO q loose XP YP l.row.toRowW d [] (fun f vs=>PySem.call f vs):=by
  refine Att.attach_call hn hdf fun w s₀ s₁ mg mb fa o pm cd doc a vs ns G Y ho hd hcd hmg hobj hints hlen hg=>?_
  have KX:=hY w _ Y
  obtain ⟨fd,hb,hF⟩:=F w mg fa _ KX G.T.g hmg
  exact xmj KX G.T.g G.T.b G.T.builtins G.T.nolimit hg hobj hints (Nat.le_trans hlen hn2) hr hF hb (fun H hO hS=>hsp w H a ns hlen hO hS) fun H e s'=>hCX w H s₁ e s'
end L2
namespace L2
open PySem PySem.Spec PyProof.Rows
variable {q0:Bool}
def xav (s:Stmt) (j:Nat):Stmt:=match s with
 | .ClassDef _ _ _ body _ _ _ _ _ _ _=>body.getD j (.Pass ⟨0,0,0,0⟩)
 | _=>.Pass ⟨0,0,0,0⟩
def x5 (s:Stmt):Arguments:=match s with
 | .FunctionDef _ a _ _ _ _ _ _ _ _=>a
 | _=>{ posonlyargs:=[],args:=[],vararg:=none,kwonlyargs:=[],kw_defaults:=[],kwarg:=none,defaults:=[] }
def xz (s:Stmt):List Stmt:=match s with
 | .FunctionDef _ _ b _ _ _ _ _ _ _=>b
 | _=>[]
def xj (s:Stmt):Scope:=match s with
 | .FunctionDef _ _ _ _ _ _ sc _ _ _=>sc
 | _=>{ kind:=.function,names:=[],isGenerator:=false,isCoroutine:=false }
abbrev CX0:CXT:=fun _ _ _ _ _ _=>False
structure Fun (K:PySem.W.Frag) (x qual:Str) (st:Stmt) (f:Addr) (fd:FuncData):Prop where
 ex:∃ (oc:Value) (od:Option Addr) (kV doc pm:Value) (an:Option Addr) (cdv ct:Value) (osl:Array (Option Value)),
  fd=PySem.W.fnOf x qual (x5 st) (xz st) (xj st) .none kV doc pm an cdv ct∧K.lookup f=some ⟨oc,od,.func fd,osl⟩∧PySem.W.codeIn K cdv qual=true
 kp:PySem.W.keepIn K (.ref f)=true
section
variable {P:Program} {w:World} {K:PySem.W.Frag} {mg:Str→Option Value} {base:Heap}
theorem Fun.ok {x qual:Str} {st:Stmt} {f:Addr} {fd:FuncData} {N ps:List Str} {k:Nat} {sp:Sp} (F:Fun K x qual st f fd) (S:x9 N ps (xj st)) (len:∀ vs H Q E,sp vs H Q E→vs.length=ps.length)
    (hbody:∀ (cdv:Value) (A:Around) (outer:List Env) (s:Shared) (H:Hp) (vs:List V) (Q:VK) (E:XK),Room q0 k (A.deeper (envOfC qual (xj st) s.heap.objs.size f cdv))→sp vs H Q E →
      ∃ t,PSs (cxOf q0 CX0 P w K mg base N qual (xj st) f cdv A outer s H E).nox (xz st) t∧t { nx:=fun _ H'=>Q .non H',rt:=Q } (xce N vs) H):FnOk q0 P w K mg base CX0 (k + 1) f fd ps sp:=by
  obtain ⟨oc,od,kV,doc,pm,an,cdv,ct,osl,rfl,lk,hcd⟩:=F.ex
  refine xf5 lk hcd S len fun A outer s H vs Q E hr hsp=>?_
  obtain ⟨t,h,q⟩:=hbody cdv A outer s H vs Q E hr hsp
  exact ⟨t,h.nox,q⟩
theorem Fun.binds {x qual:Str} {st:Stmt} {f:Addr} {fd:FuncData} {ps:List Str} (F:Fun K x qual st f fd)
    (h:∀ (kV doc pm:Value) (an:Option Addr) (cdv ct:Value) (us:List Value),us.length=ps.length→bindArgs (PySem.W.fnOf x qual (x5 st) (xz st) (xj st) .none kV doc pm an cdv ct) ⟨us,[]⟩=pure (ps.zip us)):xag K fd ps []:=by
  obtain ⟨oc,od,kV,doc,pm,an,cdv,ct,osl,rfl,lk,hcd⟩:=F.ex
  exact .all (h kV doc pm an cdv ct)
theorem xt {x qual:Str} {st:Stmt} {f:Addr} {oc:Value} {od an:Option Addr} {osl:Array (Option Value)} {kV doc pm cdv ct:Value} (l:K.lookup f=some ⟨oc,od,.func (PySem.W.fnOf x qual (x5 st) (xz st) (xj st) .none kV doc pm an cdv ct),osl⟩)
    (c:PySem.W.codeIn K cdv qual=true) (k:PySem.W.keepIn K (.ref f)=true):Fun K x qual st f (PySem.W.fnOf x qual (x5 st) (xz st) (xj st) .none kV doc pm an cdv ct):=⟨⟨oc,od,kV,doc,pm,an,cdv,ct,osl,rfl,l,c⟩,k⟩
end
theorem xbp {A:Around} {k:Nat} (hr:Room q0 k A):A.units + 1 < cLine:=Nat.lt_of_le_of_lt (Nat.add_le_add_left (by decide:1≤64) _) hr.units
section
variable {X:Cx}
theorem pv (i:Nat) {x:Str} {pos:Pos} (hN:X.N[i]?=some x:=by rfl) (hv:Vis X.env.scope x:=by first | exact Or.inl rfl | exact Or.inr (Or.inl rfl) | exact Or.inr (Or.inr rfl)) (hd:(x == ("__debug__":Str))=false:=by decide)
    (hcd:(x == ("__classdict__":Str))=false:=by decide):PE X (.Name x pos) (tVar i):=xou hN hv hd hcd
end
theorem iteF {A B:Prop} (h:B):if false=true then A else B:=by
 rw [if_neg Bool.false_ne_true]
 exact h
theorem iteT {A B:Prop} (h:A):if true=true then A else B:=by
 rw [if_pos rfl]
 exact h
theorem ite2 {c A B:Prop} [Decidable c] (h1:c→A) (h2:¬ c→B):if c then A else B:=by
 by_cases h:c
 ·rw [if_pos h]
  exact h1 h
 ·rw [if_neg h]
  exact h2 h
def Same (H H':Hp):Prop:=∀ b o,H b=some o→H' b=some o
theorem Same.refl (H:Hp):Same H H:=fun _ _ h=>h
theorem Same.trans {H H1 H2:Hp} (a:Same H H1) (b:Same H1 H2):Same H H2:=fun c o h=>b c o (a c o h)
theorem Same.free {H H':Hp} (e:Same H H') {l:Addr} (h:H' l=Option.none):H l=Option.none:=by
 cases q:H l with
 | none=>rfl
 | some o =>
  rw [e l o q] at h
  cases h
theorem Same.seq {K:PySem.W.Frag} {H H':Hp} {a:Addr} {xs:List V} (e:Same H H') (h:SqL K H a xs):SqL K H' a xs:=by
 rcases h with (h | ⟨o,h⟩) | h
 ·exact .inl (.inl (e _ _ h))
 ·exact .inl (.inr ⟨o,e _ _ h⟩)
 ·exact .inr h
end L2
namespace Srt
open PySem PySem.W PyProof.Rows
abbrev CM:=Nat→Nat→(Bool→Shared→Prop)→Shared→Prop
abbrev g (p:Array Nat) (i:Nat):Nat:=p.getD i 0
structure Ord (n:Nat) (lt:Nat→Nat→Bool):Prop where
 irr:∀ i,i < n→lt i i=false
 tr:∀ i j k,i < n→j < n→k < n→lt i j=true→lt j k=true→lt i k=true
 tot:∀ i j,i < n→j < n→i≠j→lt i j=false→lt j i=true
def Cmp (n:Nat) (lt:Nat→Nat→Bool) (cmp:CM) (s:Shared):Prop:=∀ i j,i < n→j < n→∀ Q:Bool→Shared→Prop,Q (lt i j) s→cmp i j Q s
theorem xb3 {α:Type} {cmp:CM} {a:α} {Q:α→Shared→Prop} {s:Shared} (h:Q a s):KasT.kasWp cmp (.ret a) Q s:=h
theorem xeo {α:Type} {cmp:CM} {i j:Nat} {k:Bool→KasT α} {Q:α→Shared→Prop} {s:Shared} (h:cmp i j (fun c s'=>KasT.kasWp cmp (k c) Q s') s):KasT.kasWp cmp (.ask i j k) Q s:=h
theorem xqh {p:Array Nat} {n:Nat}:kas_asc p 0 n=.ret n:=by unfold kas_asc; rfl
theorem xp4 {p:Array Nat} {f n:Nat}:kas_asc p (f + 1) n=.ask (p.getD n 0) (p.getD (n - 1) 0) fun c=>if c=true then .ret n else kas_asc p f (n + 1):=by rw [kas_asc]
theorem xp1 {p:Array Nat} {k:Nat}:kas_bin 0 p k=.ret p:=by unfold kas_bin; rfl
theorem xpw {f:Nat} {p:Array Nat} {k:Nat}:kas_bin (f + 1) p k=(kas_place p k k 0 k).bind fun l=>kas_bin f (bubble p k (k - l)) (k + 1):=by rw [kas_bin]
theorem xnl {p:Array Nat} {k l r:Nat}:kas_place p k 0 l r=.ret l:=by unfold kas_place; rfl
theorem xnv {p:Array Nat} {k f l r:Nat}:kas_place p k (f + 1) l r=if l ≥ r then .ret l else .ask (p.getD k 0) (p.getD ((l + r) / 2) 0) fun c=>if c=true then kas_place p k f l ((l + r) / 2) else kas_place p k f ((l + r) / 2 + 1) r:=by rw [kas_place]
theorem xoa {p:Array Nat} {k l:Nat}:kas_desc 0 p k l=.ret (p,k,l):=by unfold kas_desc; rfl
theorem xn7 {f:Nat} {p:Array Nat} {k l:Nat}:kas_desc (f + 1) p k l=.ask (p.getD k 0) (p.getD (k - 1) 0) fun c=>if c=true then (if l > 0 then kas_desc f (kas_rev p (k - (l + 1)) k) (k + 1) 0 else kas_desc f p (k + 1) 0) else .ask (p.getD (k - 1) 0) (p.getD k 0) fun d=>if d=true then .ret (p,k,l) else kas_desc f p (k + 1) (l + 1):=by rw [kas_desc]
section
variable {n:Nat} {lt:Nat→Nat→Bool} {cmp:CM} {s:Shared}
structure Arr (n:Nat) (p:Array Nat):Prop where
 sz:p.size=n
 lt:∀ i,i < n→g p i < n
 inj:∀ i j,i < n→j < n→g p i=g p j→i=j
 pm:p.Perm (List.range n).toArray
theorem g_at {p:Array Nat} {i:Nat} {v:Nat} (h:p[i]?=some v):g p i=v:=by
 show p.getD i 0=v
 rw [Array.getD_eq_getD_getElem?,h]
 rfl
theorem Arr.at {p:Array Nat} (a:Arr n p) {i:Nat} (h:i < n):p[i]?=some (g p i):=by
 have z:i < p.size:=by rw [a.sz]; exact h
 have e:p[i]?=some p[i]:=Array.getElem?_eq_getElem z
 rw [e,g_at e]
def Srtd (lt:Nat→Nat→Bool) (p:Array Nat) (m:Nat):Prop:=∀ i j,i < j→j < m→lt (g p i) (g p j)=true
theorem xi5 (o:Ord n lt) {p:Array Nat} (a:Arr n p) {m:Nat} (hm:m≤n) (h:∀ i,1≤i→i < m→lt (g p (i - 1)) (g p i)=true):Srtd lt p m:=by
 intro i j hij hj
 obtain ⟨d,rfl⟩:∃ d,j=i + 1 + d:=⟨j - (i + 1),by omega⟩
 induction d with
 | zero=>exact h (i + 1) (by omega) hj
 | succ d ih =>
  have h1:=ih (by omega) (by omega)
  have h2:=h (i + 1 + (d + 1)) (by omega) hj
  exact o.tr _ _ _ (a.lt _ (by omega)) (a.lt _ (by omega)) (a.lt _ (by omega)) h1 h2
theorem xh2 (c:Cmp n lt cmp s) {p:Array Nat} (a:Arr n p) {G:Nat→Shared→Prop}:∀ (f k:Nat),1≤k→k + f≤n →
    (∀ m,k≤m→m≤k + f→(∀ i,k≤i→i < m→lt (g p i) (g p (i - 1))=false)→(m < k + f→lt (g p m) (g p (m - 1))=true)→G m s)→KasT.kasWp cmp (kas_asc p f k) G s
  | 0,k,h1,hf,hG=>by
    rw [xqh]
    exact xb3 (hG k (Nat.le_refl _) (by omega) (fun i h h'=>by omega) (fun h=>by omega))
  | f + 1,k,h1,hf,hG=>by
    rw [xp4]
    refine xeo (c _ _ (a.lt k (by omega)) (a.lt (k - 1) (by omega)) _ ?_)
    cases e:lt (g p k) (g p (k - 1)) with
    | true =>
      exact xb3 (hG k (Nat.le_refl _) (by omega) (fun i h h'=>by omega) (fun _=>e))
    | false =>
      show KasT.kasWp cmp (kas_asc p f (k + 1)) G s
      refine xh2 c a f (k + 1) (by omega) (by omega) fun m hm hm2 h3 h4=>hG m (by omega) (by omega) (fun i hi hi2=>?_) (fun h=>h4 (by omega))
      by_cases z:i=k
      · rw [z]; exact e
      · exact h3 i (by omega) hi2
theorem xjr (o:Ord n lt) (c:Cmp n lt cmp s) {p:Array Nat} (a:Arr n p) {G:Array Nat × Nat × Nat→Shared→Prop}:∀ (f k:Nat),1≤k→k + f≤n →
    (∀ m,k≤m→m≤k + f→(∀ i,k≤i→i < m→lt (g p i) (g p (i - 1))=true)→G (p,m,0) s)→KasT.kasWp cmp (kas_desc f p k 0) G s
  | 0,k,h1,hf,hG=>by
    rw [xoa]
    exact xb3 (hG k (Nat.le_refl _) (by omega) (fun i h h'=>by omega))
  | f + 1,k,h1,hf,hG=>by
    rw [xn7]
    refine xeo (c _ _ (a.lt k (by omega)) (a.lt (k - 1) (by omega)) _ ?_)
    cases e:lt (g p k) (g p (k - 1)) with
    | true =>
      show KasT.kasWp cmp (kas_desc f p (k + 1) 0) G s
      refine xjr o c a f (k + 1) (by omega) (by omega) fun m hm hm2 h3=>hG m (by omega) (by omega) fun i hi hi2=>?_
      by_cases z:i=k
      · rw [z]; exact e
      · exact h3 i (by omega) hi2
    | false =>
      refine xeo (c _ _ (a.lt (k - 1) (by omega)) (a.lt k (by omega)) _ ?_)
      have ne:g p k≠g p (k - 1):=fun z=>by have:=a.inj _ _ (by omega) (by omega) z; omega
      rw [show lt (p.getD (k - 1) 0) (p.getD k 0)=true from o.tot _ _ (a.lt k (by omega)) (a.lt (k - 1) (by omega)) ne e]
      exact xb3 (hG k (Nat.le_refl _) (by omega) (fun i h h'=>by omega))
theorem Arr.rev {p:Array Nat} (a:Arr n p) {k:Nat} (hk:k≤n):Arr n (kas_rev p 0 k)∧∀ i,i < n→g (kas_rev p 0 k) i=if i < k then g p (k - 1 - i) else g p i:=by
 have ge:∀ i,i < n→g (kas_rev p 0 k) i=if i < k then g p (k - 1 - i) else g p i:=fun i hi=>by
  have z:=getElem?_mirror_all (xs:=p) (i:=0) (j:=k) (by rw [a.sz]; exact hk) i
  by_cases c:i < k
  ·rw [if_pos c]
   rw [if_pos ⟨Nat.zero_le _,c⟩,show 0 + k - 1 - i=k - 1 - i by omega,a.at (show k - 1 - i < n by omega)] at z
   exact g_at z
  ·rw [if_neg c]
   rw [if_neg (fun w=>c w.2),a.at hi] at z
   exact g_at z
 refine ⟨⟨by rw [kas_rev_size,a.sz],fun i hi=>?_,fun i j hi hj e=>?_,(mirror_perm _ _ _ _).trans a.pm⟩,ge⟩
 ·rw [ge i hi]
  split <;> exact a.lt _ (by omega)
 ·rw [ge i hi,ge j hj] at e
  split at e <;> split at e <;> have:=a.inj _ _ (by omega) (by omega) e <;> omega
theorem xl5 (o:Ord n lt) (c:Cmp n lt cmp s) {p:Array Nat} (a:Arr n p) (h2:2≤n) {G:Nat × Array Nat→Shared→Prop}
    (hG:∀ m p',1≤m→m≤n→Arr n p'→Srtd lt p' m→G (m,p') s):KasT.kasWp cmp (kas_count n p) G s:=by
  unfold kas_count
  rw [KasT.kasWp_bind]
  have up:∀ q,Arr n q→∀ i,1≤i→i < n→lt (g q i) (g q (i - 1))=false→lt (g q (i - 1)) (g q i)=true:=fun q b i h1 hi e =>
    o.tot _ _ (b.lt i hi) (b.lt (i - 1) (by omega)) (fun z=>by have:=b.inj _ _ hi (by omega) z; omega) e
  refine xh2 c a (n - 1) 1 (Nat.le_refl _) (by omega) fun m hm hm2 h3 h4=>?_
  have sm:Srtd lt p m:=xi5 o a (by omega) fun i hi hi2=>up p a i hi (by omega) (h3 i hi hi2)
  show KasT.kasWp cmp (if (m == n)=true then _ else _) G s
  by_cases e1:m=n
  · rw [if_pos (by simpa using e1)]
    exact xb3 (hG m p hm (by omega) a sm)
  · rw [if_neg (by simpa using e1)]
    by_cases e2:m > 1
    · rw [if_pos e2]
      refine xeo (c _ _ (a.lt 0 (by omega)) (a.lt (m - 1) (by omega)) _ ?_)
      rw [show lt (p.getD 0 0) (p.getD (m - 1) 0)=true from sm 0 (m - 1) (by omega) (by omega)]
      exact xb3 (hG m p hm (by omega) a sm)
    · rw [if_neg e2]
      have m1:m=1:=by omega
      subst m1
      have d1:=h4 (by omega)
      unfold kas_descPart
      rw [KasT.kasWp_bind]
      refine xjr o c a (n - (1 + 1)) (1 + 1) (by omega) (by omega) fun k hk hk2 h5=>?_
      show KasT.kasWp cmp (if (0:Nat) > 0 then _ else kas_tail3 k n p) G s
      rw [if_neg (Nat.lt_irrefl 0)]
      unfold kas_tail3
      rw [KasT.kasWp_bind]
      obtain ⟨b,ge⟩:=a.rev (k:=k) (by omega)
      refine xh2 c b (n - k) k (by omega) (by omega) fun m' hm' hm2' h6 _=>?_
      refine xb3 (hG m' _ (by omega) (by omega) b (xi5 o b (by omega) fun i hi hi2=>?_))
      by_cases ik:i < k
      · rw [ge i (by omega),ge (i - 1) (by omega),if_pos ik,if_pos (by omega)]
        have e3:k - 1 - (i - 1) - 1=k - 1 - i:=by omega
        by_cases z:k - 1 - (i - 1)=1
        · have z':k - 1 - i=0:=by omega
          rw [z,z']
          exact d1
        · have:=h5 (k - 1 - (i - 1)) (by omega) (by omega)
          rw [e3] at this
          exact this
      · exact up _ b i hi (by omega) (h6 i (by omega) hi2)
theorem xfx (o:Ord n lt) (c:Cmp n lt cmp s) {p:Array Nat} (a:Arr n p) {k:Nat} (hk:k < n) (sk:Srtd lt p k) {G:Nat→Shared→Prop}:∀ (f l r:Nat),l≤r→r≤k→r - l≤f →
    (∀ j,j < l→lt (g p k) (g p j)=false)→(∀ j,r≤j→j < k→lt (g p k) (g p j)=true) →
    (∀ m,m≤k→(∀ j,j < m→lt (g p k) (g p j)=false)→(∀ j,m≤j→j < k→lt (g p k) (g p j)=true)→G m s)→KasT.kasWp cmp (kas_place p k f l r) G s
  | 0,l,r,h1,h2,h3,lo,hi,hG=>by
    rw [xnl]
    exact xb3 (hG l (by omega) lo fun j hj hj2=>hi j (by omega) hj2)
  | f + 1,l,r,h1,h2,h3,lo,hi,hG=>by
    rw [xnv]
    by_cases e:l ≥ r
    · rw [if_pos e]
      exact xb3 (hG l (by omega) lo fun j hj hj2=>hi j (by omega) hj2)
    · rw [if_neg e]
      have m1:(l + r) / 2 < r:=by omega
      have m2:l≤(l + r) / 2:=by omega
      refine xeo (c _ _ (a.lt k hk) (a.lt _ (by omega)) _ ?_)
      cases e2:lt (g p k) (g p ((l + r) / 2)) with
      | true =>
        show KasT.kasWp cmp (kas_place p k f l ((l + r) / 2)) G s
        refine xfx o c a hk sk f l _ m2 (by omega) (by omega) lo (fun j hj hj2=>?_) hG
        by_cases z:j=(l + r) / 2
        · rw [z]; exact e2
        · exact o.tr _ _ _ (a.lt k hk) (a.lt _ (by omega)) (a.lt _ (by omega)) e2 (sk _ _ (by omega) hj2)
      | false =>
        show KasT.kasWp cmp (kas_place p k f ((l + r) / 2 + 1) r) G s
        refine xfx o c a hk sk f _ r (by omega) h2 (by omega) (fun j hj=>?_) hi hG
        by_cases z:j=(l + r) / 2
        · rw [z]; exact e2
        · cases e3:lt (g p k) (g p j) with
          | false=>rfl
          | true =>
            have:=o.tr _ _ _ (a.lt k hk) (a.lt _ (by omega)) (a.lt _ (by omega)) e3 (sk j ((l + r) / 2) (by omega) (by omega))
            rw [e2] at this
            cases this
theorem Arr.bub {p:Array Nat} (a:Arr n p) {k m:Nat} (hk:k < n) (hm:m≤k):Arr n (bubble p k (k - m))∧∀ i,i < n→g (bubble p k (k - m)) i=if i=m then g p k else if m < i∧i≤k then g p (i - 1) else g p i:=by
 have ge:∀ i,i < n→g (bubble p k (k - m)) i=if i=m then g p k else if m < i∧i≤k then g p (i - 1) else g p i:=fun i hi=>by
  have z:=getElem?_bubble (xs:=p) (src:=k) (by rw [a.sz]; exact hk) (k - m) (by omega) i
  rw [show k - (k - m)=m by omega] at z
  by_cases c:i=m
  ·rw [if_pos c]
   rw [if_pos c,a.at hk] at z
   exact g_at z
  ·rw [if_neg c]
   rw [if_neg c] at z
   by_cases d:m < i∧i≤k
   ·rw [if_pos d]
    rw [if_pos d,a.at (show i - 1 < n by omega)] at z
    exact g_at z
   ·rw [if_neg d]
    rw [if_neg d,a.at hi] at z
    exact g_at z
 refine ⟨⟨by rw [bubble_size,a.sz],fun i hi=>?_,fun i j hi hj e=>?_,(bubble_perm _ _ _).trans a.pm⟩,ge⟩
 ·rw [ge i hi]
  split
  ·exact a.lt _ hk
  ·split <;> exact a.lt _ (by omega)
 ·rw [ge i hi,ge j hj] at e
  split at e <;> (try split at e) <;> (try split at e) <;> (try split at e) <;> first | omega | (have:=a.inj _ _ (by omega) (by omega) e; omega)
theorem xkc (o:Ord n lt) (c:Cmp n lt cmp s) {G:Array Nat→Shared→Prop}:∀ (f k:Nat) (p:Array Nat),k + f=n→Arr n p→Srtd lt p k→(∀ p',Arr n p'→Srtd lt p' n→G p' s)→KasT.kasWp cmp (kas_bin f p k) G s
 | 0,k,p,h,a,sk,hG=>by
  rw [xp1]
  have:k=n:=by omega
  subst this
  exact xb3 (hG p a sk)
 | f + 1,k,p,h,a,sk,hG=>by
  have hk:k < n:=by omega
  rw [xpw,KasT.kasWp_bind]
  refine xfx o c a hk sk k 0 k (Nat.zero_le _) (Nat.le_refl _) (by omega) (fun j hj=>by omega) (fun j hj hj2=>by omega) fun m hm lo hi=>?_
  obtain ⟨b,ge⟩:=a.bub hk hm
  refine xkc o c f (k + 1) _ (by omega) b (fun i j hij hj=>?_) hG
  have inS:∀ i,i < m→lt (g p i) (g p k)=true:=fun i hi'=>o.tot _ _ (a.lt k hk) (a.lt i (by omega)) (fun z=>by have:=a.inj _ _ hk (by omega) z; omega) (lo i hi')
  have g1:∀ i,i < n→i=m→g (bubble p k (k - m)) i=g p k:=fun i hi z=>by rw [ge i hi,if_pos z]
  have g2:∀ i,i < n→m < i→i≤k→g (bubble p k (k - m)) i=g p (i - 1):=fun i hi z z2=>by rw [ge i hi,if_neg (by omega),if_pos ⟨z,z2⟩]
  have g3:∀ i,i < n→i < m→g (bubble p k (k - m)) i=g p i:=fun i hi z=>by rw [ge i hi,if_neg (by omega),if_neg (by omega)]
  by_cases j1:j=m
  ·rw [g1 j (by omega) j1,g3 i (by omega) (by omega)]
   exact inS i (by omega)
  ·by_cases i1:i=m
   ·rw [g1 i (by omega) i1,g2 j (by omega) (by omega) (by omega)]
    exact hi (j - 1) (by omega) (by omega)
   ·by_cases j2:m < j
    ·rw [g2 j (by omega) j2 (by omega)]
     by_cases i2:m < i
     ·rw [g2 i (by omega) i2 (by omega)]
      exact sk _ _ (by omega) (by omega)
     ·rw [g3 i (by omega) (by omega)]
      by_cases z:i=j - 1
      ·omega
      ·exact sk _ _ (by omega) (by omega)
    ·rw [g3 j (by omega) (by omega),g3 i (by omega) (by omega)]
     exact sk _ _ hij (by omega)
theorem xlf:Arr n (List.range n).toArray:=by
 have e:∀ i,i < n→g (List.range n).toArray i=i:=fun i hi=>g_at (by rw [List.getElem?_toArray,List.getElem?_range hi])
 exact ⟨by simp,fun i hi=>by rw [e i hi]; exact hi,fun i j hi hj z=>by rw [e i hi,e j hj] at z; exact z,Array.Perm.refl _⟩
theorem sort_wp (o:Ord n lt) (c:Cmp n lt cmp s) (h2:2≤n) {G:Array Nat→Shared→Prop} (hG:∀ p,Arr n p→Srtd lt p n→G p s):KasT.kasWp cmp (kas_sort n) G s:=by
 unfold kas_sort
 rw [KasT.kasWp_bind]
 refine xl5 o c xlf h2 fun m p hm hm2 a sm=>?_
 show KasT.kasWp cmp (if m < n then _ else _) G s
 by_cases e:m < n
 ·rw [if_pos e]
  show KasT.kasWp cmp (kas_bin (n - max m 1) p (max m 1)) G s
  rw [Nat.max_eq_left hm]
  exact xkc o c (n - m) m p (by omega) a sm hG
 ·rw [if_neg e]
  have:m=n:=by omega
  subst this
  exact xb3 (hG p a sm)
end
end Srt
set_option maxRecDepth 100000
namespace XL
open PySem
def Xat (h:Heap) (e:Addr) (cls:Value) (od tb:Option Addr):Prop :=
 ∃ oe vs,h.get? e=some oe∧oe.cls=cls∧oe.dict=od∧oe.data=.fields vs∧1 < vs.size ∧
  ((tb=none∧vs[1]?=some Value.none)∨∃ T oT ts,tb=some T∧vs[1]?=some (.ref T)∧T≠e∧h.get? T=some oT∧oT.data=.fields ts∧ts[3]?=some Value.none)
structure Stp (fs:List Addr) (e:Addr) (tb:Option Addr) (h h':Heap):Prop where
 keep:∀ b o,h.get? b=some o→b≠e→tb≠some b→b ∉ fs→h'.get? b=some o
 slot:∀ b o,h.get? b=some o→b ∈ fs→∃ sl,h'.get? b=some { o with slots:=sl }
abbrev xhl (l:List Env):List Addr:=l.filterMap (·.frame)
theorem xlm (o:Obj) (f:Array Value→Array Value):(o.mapFields f).dict=o.dict:=by
 obtain ⟨c,d,dt,sl⟩:=o
 cases dt <;> rfl
section
variable {M:Model} {A:Around} {E:Value→Shared→Prop} {s:Shared}
theorem xjn {base:Heap} {env:Env} {outer:List Env} {L e:Addr} {oe:Obj} {vs:Array Value} {hd:Value} {nx:Bool} {cls:Value} {od tb:Option Addr} {g:Heap} {Q:Unit→Shared→Prop}
    (fr:A.frames=some (env :: outer)) (ff:s.heap.FunFrames base (env :: outer)) (fL:env.frame=some L)
    (ge:s.heap.get? e=some oe) (de:oe.data=.fields vs) (se:1 < vs.size) (ce:oe.cls=cls) (oo:oe.dict=od)
    (st:Stp (xhl (env :: outer)) e tb g s.heap) (sz:g.objs.size≤s.heap.objs.size)
    (k:∀ h' T,Stp (xhl (env :: outer)) e tb g h'→g.objs.size≤T→Xat h' e cls od (some T)→Q () { s with heap:=h' }) :
    wpAny M A (do let a ← frameOf env; let pl ← entryPlaceOf L nx; let b ← EntryCells.newEntry hd a .none (rawInt L) .none pl; setField (.ref e) 1 b) (fun _ s'=>wpAny M A (setFlight (.ref e) none) Q E s') E s:=by
  have nef:e ∉ xhl (env :: outer):=fun hm=>by
    obtain ⟨_,o,ho,hnf⟩:=ff.mem hm
    have z:=ge.symm.trans ho
    cases z
    exact hnf vs de
  refine wpAny_bind (wpAny_frameOf_fun fr ff fL fun h1 so=>?_)
  refine wpAny_bind (wpAny_entryPlaceOf fun pl ip=>?_)
  unfold EntryCells.newEntry newFields
  refine wpAny_bind (wpAny_newObj_type ?_ (ip.sizeOk5 _ _ _ _ _))
  have e1:h1.get? e=some oe:=(so.2.1 e nef).trans ge
  generalize eT:({ cls:=.type "traceback",dict:=none,data:=.fields ([hd,.ref L,.none,rawInt L,.none] ++ (if pl.isEmpty then List.replicate 6 Value.none else pl)).toArray }:Obj)=oT
  have dT:oT.data=.fields ([hd,.ref L,.none,rawInt L,.none] ++ (if pl.isEmpty then List.replicate 6 Value.none else pl)).toArray:=by rw [← eT]
  have fT:oT.isFreed=false:=by rw [← eT]; rfl
  have e2:(h1.push oT).get? e=some oe:=Heap.get?_push_of_some oT e1
  refine wpAny_setField e2 de se ?_
  have nTe:h1.objs.size≠e:=Nat.ne_of_gt (Heap.lt_size e1)
  have d3:=Obj.data_mapFields de (·.setIfInBounds 1 (Value.ref h1.objs.size))
  have e3:=Heap.get?_update_self (Obj.mapFields (·.setIfInBounds 1 (Value.ref h1.objs.size))) e2 (Obj.isFreed_of_fields d3)
  have T3:((h1.push oT).update e (Obj.mapFields (·.setIfInBounds 1 (Value.ref h1.objs.size)))).get? h1.objs.size=some oT :=
    (Heap.get?_update_other (h1.push oT) _ (Ne.symm nTe)).trans (Heap.get?_push_size h1 fT)
  unfold setFlight
  refine wpAny_bind (wpAny_field e3 d3 (x:=.ref h1.objs.size) (by simp [se]) ?_)
  rw [if_pos (show (Value.ref h1.objs.size != Value.none)=true from by simp)]
  refine wpAny_setField T3 dT (by simp only [List.size_toArray,List.length_append,List.length_cons,List.length_nil] <;> omega) (k _ h1.objs.size ?_ ?_ ?_)
  · have go:∀ b o,b≠e→h1.get? b=some o→(((h1.push oT).update e (Obj.mapFields (·.setIfInBounds 1 (Value.ref h1.objs.size)))).update h1.objs.size
        (Obj.mapFields (·.setIfInBounds 3 ((none:Option Addr).elim Value.none fun f=>rawInt f)))).get? b=some o:=fun b o be hb=>by
      have bT:h1.objs.size≠b:=Nat.ne_of_gt (Heap.lt_size hb)
      rw [Heap.get?_update_other _ _ bT,Heap.get?_update_other _ _ (Ne.symm be)]
      exact Heap.get?_push_of_some oT hb
    refine ⟨fun b o hb be bt bf=>go b o be ((so.2.1 b bf).trans (st.keep b o hb be bt bf)),fun b o hb bf=>?_⟩
    obtain ⟨sl,h2⟩:=st.slot b o hb bf
    obtain ⟨sl2,h3⟩:=so.2.2 b _ h2
    exact ⟨sl2,go b _ (fun z=>nef (z ▸ bf)) h3⟩
  · rw [so.1]; exact sz
  · refine ⟨_,_,?_,(Obj.cls_mapFields _ _).trans ce,(xlm _ _).trans oo,d3,by simp [se],.inr ⟨h1.objs.size,_,_,rfl,by simp [se],nTe,Heap.get?_update_self _ T3 (Obj.isFreed_of_fields (Obj.data_mapFields dT _)),Obj.data_mapFields dT _,?_⟩⟩
    · rw [Heap.get?_update_other _ _ nTe]
      exact e3
    · first | (simp; done) | (rcases ip with rfl | ⟨_,_,_,_,_,_,_,rfl⟩ <;> simp)
theorem xkk {base:Heap} {env:Env} {outer:List Env} {L e:Addr} {cls:Value} {od tb:Option Addr} {Q:Unit→Shared→Prop}
    (fr:A.frames=some (env :: outer)) (ff:s.heap.FunFrames base (env :: outer)) (fL:env.frame=some L) (x:Xat s.heap e cls od tb)
    (k:∀ h' T,Stp (xhl (env :: outer)) e tb s.heap h'→s.heap.objs.size≤T→Xat h' e cls od (some T)→Q () { s with heap:=h' }) :
    wpAny M A (noteFrame (.ref e) env) (fun _ s'=>wpAny M A (setFlight (.ref e) none) Q E s') E s:=by
  obtain ⟨oe,vs,ge,ce,oo,de,se,y⟩:=x
  unfold noteFrame
  simp only [fL]
  rcases y with ⟨rfl,h1⟩ | ⟨T,oT,ts,rfl,h1,nTe,gT,dT,h3⟩
  · refine wpAny_bind (wpAny_field ge de h1 ?_)
    rw [if_neg (by decide)]
    exact xjn fr ff fL ge de se ce oo ⟨fun b o hb _ _ _=>hb,fun b o hb _=>⟨o.slots,hb⟩⟩ (Nat.le_refl _) k
  · refine wpAny_bind (wpAny_field ge de h1 ?_)
    rw [if_pos (show (Value.ref T != Value.none)=true from by simp)]
    refine wpAny_bind (wpAny_field gT dT h3 ?_)
    rw [if_neg (show ¬ ((Value.none == rawInt L)=true) from by simp [rawInt])]
    refine wpAny_bind (wpAny_setField gT dT (Array.getElem?_eq_some_iff.mp h3).1 ?_)
    have ot:∀ b,b≠T→(s.heap.update T (Obj.mapFields (·.setIfInBounds 3 Value.none))).get? b=s.heap.get? b:=fun b hb=>Heap.get?_update_other _ _ (Ne.symm hb)
    have nr:∀ b o,s.heap.get? b=some o→(∀ vs,o.data≠.fields vs)→b≠T:=fun b o hb hn q=>by
      rw [q] at hb
      have z:=gT.symm.trans hb
      cases z
      exact hn ts dT
    refine xjn (g:=s.heap) fr (ff.of_keeps fun b o hb hn=>⟨o,(ot b (nr b o hb hn)).trans hb,rfl⟩) fL ((ot e (Ne.symm nTe)).trans ge) de se ce oo
      ⟨fun b o hb _ bt _=>(ot b fun z=>bt (congrArg some z.symm)).trans hb,fun b o hb bf=>⟨o.slots,?_⟩⟩ (Nat.le_of_eq (Heap.size_after_update ..).symm) k
    · obtain ⟨_,o',ho',hn⟩:=ff.mem bf
      have z:=hb.symm.trans ho'
      cases z
      exact (ot b (nr b _ hb hn)).trans hb
end
end XL
set_option maxRecDepth 100000
namespace XL
open PySem
section
variable {prog:Program} {w:World} {A:Around} {E:Value→Shared→Prop} {h:Heap} {g:Array GenState} {d:Drawn} {t:Nat} {os:OsState}
variable {nm qn:Str} {C N:Addr} {bs bm bmB:List Value} {hz:Bool} {sn:List Str} {sub:List Value} {ab:Bool} {col:Option Bool} {dd:Option Addr} {k0 k1 k2 k3 k5:Option Value} {B ni ii:String}
theorem xiy (F:ExcBaseFacts B ni ii bmB) (T:OwnTail h bmB bm) {us:List Value} {fI:Addr} {oI:Obj} {Q:Fin→Shared→Prop}
    (gC:h.get? C=some (excClassObj nm qn C N bs bm hz sn sub ab col dd k0 k1 k2 k3 k5 ni))
    (hi:∀ (A':Around) (Q':Option Value→Shared→Prop) (E':Value→Shared→Prop) (s':Shared),(∀ b o,h.get? b=some o→s'.heap.get? b=some o)→Q' (some (.ref fI)) s'→wpAny (model prog w) A' (typeLookup (.ref C) "__init__") Q' E' s')
    (gI:h.get? fI=some oI) (cI:oI.cls=.type "function") (lu:us.length≤sizeLine)
    (k:∀ h' e,Heap.MadeExcOf h h' e (.ref C) us→h.objs.size≤e →
      wpAny (model prog w) A (call (.ref fI) (.ref e :: us)) (fun r s'=>r=.none∧Q (.done (.ret (.ref e))) s') E ⟨h',g,d,t,os⟩) :
    wpAny (model prog w) A (Builtin.«type.__call__» ⟨.ref C :: us,[]⟩) Q E ⟨h,g,d,t,os⟩:=by
  repeat (first | with_reducible refine wpAny_loadPart_at gC ?_ | with_reducible refine wpAny_madeBy_exc gC ?_ | wp_step)
  refine codeAny_call_builtin_code (Code.quiet_builtin _ F.quiet) (wpAny_check_new_subT F T gC ?_)
  refine codeAny_exc_new_subT F T gC ?_ lu
  show wpAny _ _ _ _ _ _
  generalize e1:({ cls:=.type "tuple",data:=.seq us.toArray }:Obj)=oT
  have fT:oT.isFreed=false:=by rw [← e1]; rfl
  generalize e2:({ cls:=.ref C,data:=.fields #[.ref h.objs.size,.none,.none,.none,.bool false,.none] }:Obj)=oE
  have fE:oE.isFreed=false:=by rw [← e2]; rfl
  have up:∀ b o,h.get? b=some o→((h.push oT).push oE).get? b=some o:=fun b o q=>Heap.get?_push_of_some oE (Heap.get?_push_of_some oT q)
  have gC':=up _ _ gC
  have gI':=up _ _ gI
  have gE:((h.push oT).push oE).get? (h.objs.size + 1)=some oE:=by
    have z:=Heap.get?_push_size (h.push oT) fE
    rwa [Heap.size_push] at z
  have cE:oE.cls=.ref C:=by rw [← e2]
  have me:(Value.ref C :: bm).contains (.ref C)=true:=by simp
  unfold isInstance
  repeat (first | (with_reducible refine wpAny_loadPart_at gE ?_; rw [cE]) | (with_reducible refine wpAny_isSubtype_exc gC' ?_; rw [me]) | wp_step)
  show wpAny _ _ (typeLookup (.ref C) _) _ _ _
  refine hi _ _ _ _ up ?_
  refine wpAny_holding (wpAny_bind ?_)
  unfold bindSpecial
  refine wpAny_bind (wpAny_typeOf (T:="function") ⟨_,gI',cI⟩ ?_)
  rw [if_pos (by decide)]
  refine wpAny_pure (wpAny_bind (wpAny_mono (k _ (h.objs.size + 1) ⟨up,Heap.get?_none_of_le (Nat.le_succ _),h.objs.size,?_,Heap.get?_none_of_le (Nat.le_refl _),?_⟩ (Nat.le_succ _)) (fun r s' z=>?_) fun _ _ x=>x))
  · rw [e2]; exact gE
  · rw [e1]; exact Heap.get?_push_of_some oE (Heap.get?_push_size h fT)
  · obtain ⟨rfl,z⟩:=z
    wp_walk
    exact z
theorem xj9 (F:ExcBaseFacts B ni ii bmB) (T:OwnTail h bmB bm) {us:List Value} {fI:Addr} {oI:Obj} {Q:Value→Shared→Prop}
    (gC:h.get? C=some (excClassObj nm qn C N bs bm hz sn sub ab col dd k0 k1 k2 k3 k5 ni))
    (hi:∀ (A':Around) (Q':Option Value→Shared→Prop) (E':Value→Shared→Prop) (s':Shared),(∀ b o,h.get? b=some o→s'.heap.get? b=some o)→Q' (some (.ref fI)) s'→wpAny (model prog w) A' (typeLookup (.ref C) "__init__") Q' E' s')
    (gI:h.get? fI=some oI) (cI:oI.cls=.type "function") (lu:us.length≤sizeLine)
    (k:∀ h' e,Heap.MadeExcOf h h' e (.ref C) us→h.objs.size≤e →
      wpAny (model prog w) (A.under (.builtin "type.__call__" ⟨.ref C :: us,[]⟩)) (call (.ref fI) (.ref e :: us)) (fun r s'=>r=.none∧Q (.ref e) s') E ⟨h',g,d,t,os⟩) :
    wpAny (model prog w) A (call (.ref C) us) Q E ⟨h,g,d,t,os⟩:=by
  have a1:=tc_lookup
  have a2:=tc_bind (.ref C)
  have ty:(⟨h,g,d,t,os⟩:Shared).TypeIs (.ref C) "type":=⟨_,gC,rfl⟩
  refine wpAny_call (codeAny_of_tree ?_)
  show wpAny _ _ (callAny (.ref C) _) _ _ _
  repeat (any_goals (first | assumption | with_reducible refine wpAny_loadPart_at gC ?_ | wp_step))
  refine ⟨rfl,?_⟩
  refine codeAny_call_builtin_at (Code.quiet_builtin _ (by decide +kernel)) entry_typeCall (wpAny_check_type_call_sub gC (xiy F T gC hi gI cI lu fun h' e hm hs=>?_))
  exact k h' e hm hs
theorem xm4 {M:Model} {s:Shared} {env:Env} {x:Sem Value} {Q:Flow→Shared→Prop} (hh:A.handled=none)
    (k:wpAny M A x (fun v s1=>∃ e od C nm qn N bs bm hz sn sub ab col dd k0 k1 k2 k3 k5 ni,v=.ref e∧bm.contains (.type "BaseException")=true∧s1.heap.get? C=some (excClassObj nm qn C N bs bm hz sn sub ab col dd k0 k1 k2 k3 k5 ni)∧Xat s1.heap e (.ref C) od none∧E (.ref e) s1) E s) :
    wpAny M A (raiseStmt env (some x) none) Q E s:=by
  unfold raiseStmt
  refine wpAny_bind (wpAny_mono k (fun v s1 z=>?_) fun _ _ x=>x)
  obtain ⟨e,od,C,nm,qn,N,bs,bm,hz,sn,sub,ab,col,dd,k0,k1,k2,k3,k5,ni,rfl,bB,gC,⟨oe,vs,ge,ce,oo,de,se,y⟩,zE⟩:=z
  have me:(Value.ref C :: bm).contains (.type "BaseException")=true:=by rw [List.contains_cons,bB,Bool.or_true]
  obtain ⟨hp,g,d,tk,os⟩:=s1
  rcases y with ⟨_,y1⟩ | ⟨T,_,_,z,_⟩
  · repeat (first | (with_reducible refine wpAny_loadPart_at ge ?_; rw [ce]) | with_reducible refine wpAny_loadPart_at gC ?_ | (with_reducible refine wpAny_isSubtype_exc gC ?_; rw [me]) | wp_step)
    rw [de]
    refine wpAny_pure ?_
    rw [y1]
    refine wpAny_pure ?_
    rw [if_neg (by decide)]
    exact wpAny_pure (wpAny_raiseNew_none hh zE)
  · cases z
end
end XL
set_option maxRecDepth 100000
namespace XL
open PySem PySem.W PySem.Calls PyProof.Rows Builtin Builtin.ObjectAttr
def vErr:List Value:=[.type "ValueError",.type "Exception",.type "BaseException",.type "object"]
def xd5:List Value→Bool
 | []=>false
 | .ref c :: r=>xd5 r || ((.ref c :: r:List Value) == vErr)
 | v :: r=>(v :: r) == vErr
def xa2 (K:Frag) (C:Addr):Bool:=(clsIn K C).any fun cd=>xd5 cd.mro
theorem xgz (self:Value):∀ {l:List Value},xd5 l=true→refuseLoop self "__setattr__" l=pure ()
 | [],e=>by cases e
 | v :: r,e=>by
  have last:((v :: r:List Value) == vErr)=true→refuseLoop self "__setattr__" (v :: r)=pure ():=fun z=>by
   rw [eq_of_beq z]
   exact PySem.F.store_ValueError.passes self
  cases v with
  | ref c =>
   rcases Bool.or_eq_true_iff.mp e with z | z
   ·rw [refuseLoop_ref]
    exact xgz self z
   ·exact last z
  | _=>exact last e
theorem xfy:∀ {l:List Value},xd5 l=true→l.contains (.type "object")=true∧l.contains (.type "BaseException")=true∧l.isEmpty=false
 | [],e=>by cases e
 | v :: r,e=>by
  have last:((v :: r:List Value) == vErr)=true→(v :: r).contains (.type "object")=true∧(v :: r).contains (.type "BaseException")=true∧(v :: r).isEmpty=false:=fun z=>by
   rw [eq_of_beq z]
   exact ⟨by decide +kernel,by decide +kernel,rfl⟩
  cases v with
  | ref c =>
   rcases Bool.or_eq_true_iff.mp e with z | z
   ·obtain ⟨a,b,_⟩:=xfy z
    exact ⟨by rw [List.contains_cons,a,Bool.or_true],by rw [List.contains_cons,b,Bool.or_true],rfl⟩
   ·exact last z
  | _=>exact last e
structure XC (K:Frag) (C:Addr):Prop where
 over:xa2 K C=true
 hd:hasDictIn K C=true
 sa:findIn K (.ref C) "__setattr__"=some (some (.builtin "object.__setattr__"))
 ga:findIn K (.ref C) "__getattribute__"=some (some (.builtin "BaseException.__getattribute__"))
 gh:findIn K (.ref C) "__getattr__"=some none
 ca:findIn K (.ref C) "__class__"=some (some (.builtin "object.__class__"))
 cg:specialIn K (.builtin "object.__class__") "__get__"=some (some (.builtin "getset_descriptor.__get__"))
 ct:takesIn K (.builtin "object.__class__")=some true
section
variable {prog:Program} {w:World} {A:Around} {E:Value→Shared→Prop} {s:Shared} {K:Frag} {x C dx:Addr} {ox:Obj} {od:Option Obj} {name:Str} {v:Value} {R:Result→Shared→Prop}
theorem XC.mro (c:XC K C):∃ cd,clsIn K C=some cd∧xd5 cd.mro=true∧cd.hasDict=true:=by
 obtain ⟨cd,h1,h2⟩:=any_some c.over
 obtain ⟨cd',h3,h4⟩:=any_some c.hd
 rw [h1] at h3
 cases h3
 exact ⟨cd,h1,h2,h4⟩
theorem XC.isObj (c:XC K C):mroIn K C (.type "object")=some true:=by
 obtain ⟨cd,h1,h2,_⟩:=c.mro
 obtain ⟨a,_,b⟩:=xfy h2
 unfold mroIn
 rw [h1,Option.bind_some,if_neg (by rw [b]; decide),a]
theorem XC.isExc (c:XC K C):mroIn K C (.type "BaseException")=some true:=by
 obtain ⟨cd,h1,h2,_⟩:=c.mro
 obtain ⟨_,a,b⟩:=xfy h2
 unfold mroIn
 rw [h1,Option.bind_some,if_neg (by rw [b]; decide),a]
theorem xmw {tk:Tok} (X:K.In s.heap) (c:XC K C) (I:InstAt s.heap x ox C od) (ha:findIn K (.ref C) name=some none)
    (h:wpAny (model prog w) A.in1 (storeInOwnDict (.ref x) (.ref C) (.str name tk) name v false)
      (fun fin s'=>match fin with | .done f=>R (.ok f) s' | .again c'=>c'.quiet=true∧codeAny (model prog w) A c' R s') (fun e s'=>R (.error e) s') s) :
    codeAny (model prog w) A (.call (.builtin "object.__setattr__") ⟨[.ref x,.str name tk,v],[]⟩) R s:=by
  have SF:=PySem.F.store_object
  obtain ⟨cd,hc,hl,_⟩:=c.mro
  have sub:Looks (model prog w) s.heap (isInstance (.ref x) (.type "object")) true:=I.type.andThen (looks_mroIn X c.isObj)
  refine codeAny_call_builtin SF.slot.plain SF.entry (@check_slot (model prog w) _ _ s "object.__setattr__" "object" "__setattr__" (.ref x) [.str name tk,v] [] _ SF.kind SF.split sub (SF.args (.ref x) (.str name tk) v) ?_)
  have hm:Looks (model prog w) s.heap (mroOf (.ref C)) cd.mro:=(looks_clsIn X hc).andThen .now
  rw [osa_eq,refuse_eq]
  refine wpAny_bind (wpAny_bind (I.type.here (wpAny_bind (hm.here ?_))))
  rw [xgz _ hl]
  refine wpAny_pure (wpAny_bind (I.type.here (wpAny_bind ((looks_findIn X ha).here (wpAny_bind ((Looks.now (a:=(none:Option Value))).here ?_))))))
  exact h
theorem xqn (X:K.In s.heap) (c:XC K C) (hx:s.heap.get? x=some ox) (hc:ox.cls=.ref C) (ho:ox.dict=some dx) {Q:Option Addr→Shared→Prop} (h:Q (some dx) s) :
    wpAny (model prog w) A (ownDictForStores (.ref x)) Q E s:=by
  obtain ⟨cd,h1,_,h2⟩:=c.mro
  unfold ownDictForStores instanceDict
  refine wpAny_bind (wpAny_loadPart hx ?_)
  rw [hc]
  refine wpAny_bind ((looks_clsIn X h1).here ?_)
  rw [h2,ho]
  exact wpAny_pure h
theorem xod {ns:List Str} {mA:Str→Option Value} {Q:Unit→Shared→Prop} (X:K.In s.heap) (c:XC K C) (hx:s.heap.get? x=some ox) (hc:ox.cls=.ref C) (hn:notCls ox=true) (ho:ox.dict=some dx) (hm:s.heap.Ns1 dx mA)
    (ha:findIn K (.ref C) name=some none) (hw:PySem.Within mA ns) (hz:ns.length≤sizeLine)
    (h:∀ h',h'.Ns1 dx (fun y=>if y=name then some v else mA y)→Heap.SameBut dx s.heap h'→Q () { s with heap:=h',toks:=s.toks + 2 }) :
    wpAny (model prog w) A (setAttr (.ref x) name v) Q E s:=by
  obtain ⟨o1,_,_,g1,_⟩:=id hm
  have I:InstAt s.heap x ox C (some o1):=⟨hx,hc,hn,by rw [ho]; exact g1⟩
  refine set_plain X I c.sa (xmw (s:={ s with toks:=s.toks + 1 }) X c I ha ?_)
  refine wpAny_bind (wpAny_pure (wpAny_bind (xqn (s:={ s with toks:=s.toks + 1 }) X c hx hc ho ?_)))
  refine wpAny_bind (wpAny_pure (wpAny_bind ?_))
  refine wpAny_nsSet1 (s:={ s with toks:=s.toks + 1 }) hm fun h' n2 s2=>?_
  obtain ⟨oD,eD,pD,gD,dD,cD⟩:=n2.count (PySem.Within.cons name v hw)
  refine wpAny_bind (wpAny_lookBehind gD (by rw [dD]; exact pastItsLine_dict (Nat.le_trans cD (by rw [List.length_cons]; omega))) ?_)
  exact wpAny_pure (h _ n2 s2)
theorem xo4 {Q:Unit→Shared→Prop} (X:K.In s.heap) (c:XC K C) (hx:s.heap.get? x=some ox) (hc:ox.cls=.ref C) (hn:notCls ox=true) (ho:ox.dict=none) (hf:ox.isFreed=false)
    (ha:findIn K (.ref C) name=some none)
    (h:∀ h',h'.get? x=some { ox with dict:=some s.heap.objs.size }→h'.Ns1 s.heap.objs.size (fun y=>if y=name then some v else none) →
      (∀ b o,b≠x→s.heap.get? b=some o→h'.get? b=some o)→s.heap.objs.size≤h'.objs.size→Q () { s with heap:=h',toks:=s.toks + 2 }) :
    wpAny (model prog w) A (setAttr (.ref x) name v) Q E s:=by
  obtain ⟨cd,h1,_,h2⟩:=c.mro
  have I:InstAt s.heap x ox C none:=⟨hx,hc,hn,by rw [ho]; trivial⟩
  refine set_plain X I c.sa (xmw (s:={ s with toks:=s.toks + 1 }) X c I ha ?_)
  refine wpAny_bind (wpAny_pure (wpAny_bind ?_))
  unfold ownDictForStores instanceDict
  refine wpAny_bind (wpAny_loadPart (s:={ s with toks:=s.toks + 1 }) hx ?_)
  rw [hc]
  refine wpAny_bind ((looks_clsIn X h1).here (s:={ s with toks:=s.toks + 1 }) ?_)
  rw [h2,ho,if_neg (by simp)]
  obtain ⟨oc,odi,oda,osl⟩:=ox
  dsimp only at hc ho
  subst hc ho
  have hx1:(s.heap.push { cls:=.type "dict",data:=.dict #[] }).get? x=some ⟨.ref C,none,oda,osl⟩:=Heap.get?_push_of_some _ hx
  have nx:x≠s.heap.objs.size:=Nat.ne_of_lt (Heap.lt_size hx)
  have key:wpAny (model prog w) A.in1 (do let d ← alloc { cls:=.type "dict",data:=.dict #[] }; update x (fun o=>{ o with dict:=some d }); dictMade (.ref C) x d)
      (fun a s'=>wpAny (model prog w) A.in1 (match a with | some d=>storeInDict d (.str name s.toks) name v | none=>noDictFor (.ref x) (.ref C) name false)
        (fun fin s'=>match fin with
          | .done f=>(match (Except.ok f:Result) with | .ok (.ret _)=>Q () s' | .ok _=>False | .error e=>E e s')
          | .again c'=>c'.quiet=true∧codeAny (model prog w) A c' (fun r s'=>match r with | .ok (.ret _)=>Q () s' | .ok _=>False | .error e=>E e s') s')
        (fun e s'=>E e s') s') (fun e s'=>E e s') { s with toks:=s.toks + 1 }:=by
    refine wpAny_bind (wpAny_alloc' ?_)
    refine wpAny_bind (wpAny_update' hx1 ?_)
    refine wpAny_pure ?_
    dsimp only
    have g2:((s.heap.push { cls:=.type "dict",data:=.dict #[] }).update x fun o=>{ o with dict:=some s.heap.objs.size }).get? s.heap.objs.size=some { cls:=.type "dict",data:=.dict #[] } :=
      (Heap.get?_update_ne _ _ _ _ nx.symm).trans (Heap.get?_push_at rfl rfl)
    have n2:((s.heap.push { cls:=.type "dict",data:=.dict #[] }).update x fun o=>{ o with dict:=some s.heap.objs.size }).Ns s.heap.objs.size (fun _=>none) :=
      ⟨_,#[],_,g2,rfl,fun e he=>absurd he (by simp),fun _=>rfl⟩
    unfold storeInDict newKeyGuard
    refine wpAny_bind (wpAny_pure (wpAny_bind (wpAny_nsSet1 (Heap.Ns1.of_empty n2) fun h' n3 s3=>?_)))
    obtain ⟨oD,eD,pD,gD,dD,cD⟩:=n3.count (Within.cons name v Within.nil)
    refine wpAny_bind (wpAny_lookBehind gD (by rw [dD]; exact pastItsLine_dict (Nat.le_trans cD (by rw [List.length_cons,List.length_nil,sizeLine_eq]; omega))) ?_)
    refine wpAny_pure (h h' ?_ n3 (fun b o bx hb=>?_) ?_)
    · refine (s3.2 x nx).trans (Heap.get?_update_self _ hx1 ?_)
      cases oda <;> first | rfl | exact hf
    · exact (s3.2 b (Nat.ne_of_lt (Heap.lt_size hb))).trans ((Heap.get?_update_ne _ _ _ _ bx).trans (Heap.get?_push_of_some _ hb))
    · rw [s3.1,Heap.size_after_update,Heap.size_push]
      exact Nat.le_succ _
  cases oda <;> first | exact key | cases hn
theorem xng (v:Value):bindSpecial (.builtin "BaseException.__getattribute__") v=pure (.builtin "BaseException.__getattribute__",[v]):=by
 have f:=PySem.F.attr_ValueError.ga.bind v
 exact f
theorem xl1:plainId "BaseException.__getattribute__"=true:=PySem.F.attr_ValueError.ga.plain
theorem xkt {Q:Value→Shared→Prop} {expr fill:Bool} {tk:Tok} (X:K.In s.heap) (c:XC K C) (I:InstAt s.heap x ox C od)
    (h:wpAny (model prog w) A.in1 (Builtin.«object.__getattribute__» ⟨[.ref x,.str name tk],[]⟩)
      (fun fin s'=>match fin with | .done (.ret v)=>wpAny (model prog w) A (handedOut v) Q E s' | _=>False) (fun _ _=>False) s) :
    wpAny (model prog w) A (getAttrBy (.ref x) (.str name tk) fill expr) Q E s:=by
  obtain ⟨hh,g,d,t,os⟩:=s
  have L0:=I.type (M:=model prog w)
  have L1:=looks_findIn (M:=model prog w) X c.ga
  have L2:=looks_findIn (M:=model prog w) X c.gh
  have sub:Looks (model prog w) hh (isInstance (.ref x) (.type "BaseException")) true:=I.type.andThen (looks_mroIn X c.isExc)
  have f2:(onTheHeap (Value.ref C) && Value.builtin "BaseException.__getattribute__" == Value.builtin "object.__getattribute__")=false:=by
    rw [show (Value.builtin "BaseException.__getattribute__" == Value.builtin "object.__getattribute__")=false from by decide +kernel]; rfl
  have f3:(expr && onTheHeap (Value.builtin "BaseException.__getattribute__"))=false:=by cases expr <;> rfl
  unfold getAttrBy
  refine wpAny_holding (wpAny_bind (L0.at (wpAny_bind (L1.at ?_))))
  dsimp only
  rw [f2]
  simp only [Bool.false_eq_true,if_false]
  unfold getAttrByItsOwn hookBefore
  refine wpAny_bind (L2.at (wpAny_bind (wpAny_attempt (wpAny_holding ?_))))
  unfold callGetattribute
  rw [f3]
  simp only [Bool.false_eq_true,if_false]
  unfold boundAndCalled
  rw [xng]
  refine wpAny_bind (wpAny_pure (wpAny_call (codeAny_call_builtin xl1 PySem.F.entry_bexc_ga
    (@check_slot (model prog w) _ _ ⟨hh,g,d,t,os⟩ "BaseException.__getattribute__" "BaseException" "__getattribute__" (.ref x) [.str name tk] [] _ (by decide +kernel) (by decide +kernel) sub (PySem.F.args_bexc_ga _ _) ?_))))
  refine wpAny_mono h (fun fin s' z=>?_) fun e s' z=>z.elim
  rcases fin with (_ | _ | _ | _) | _ <;> first | exact z | exact z.elim
theorem xqf {Q:Value→Shared→Prop} {expr:Bool} (X:K.In s.heap) (c:XC K C) (hx:s.heap.get? x=some ox) (hc:ox.cls=.ref C) (hn:notCls ox=true) (ho:ox.dict=some dx) {o1:Obj} (g1:s.heap.get? dx=some o1) (hl:lookIn name o1=some (some v))
    (ha:findIn K (.ref C) name=some none) (hv:handedIn v=true) (h:Q v { s with toks:=s.toks + 1 }) :
    wpAny (model prog w) A (getAttr (.ref x) name expr) Q E s:=by
  have I:InstAt s.heap x ox C (some o1):=⟨hx,hc,hn,by rw [ho]; exact g1⟩
  have hf:findObj K C (some o1) name=some (.value v):=findObj_own c.hd ha rfl hl
  unfold getAttr
  refine wpAny_bind (wpAny_mkText ?_)
  refine xkt (s:={ s with toks:=s.toks + 1 }) X c I ?_
  have L0:=I.type (M:=model prog w)
  have L1:=looks_find (M:=model prog w) X I hf
  obtain ⟨hh,g,d,t,os⟩:=s
  refine wpAny_bind (wpAny_pure (wpAny_bind (wpAny_pure (wpAny_bind (L0.at (wpAny_bind (L1.at ?_)))))))
  refine wpAny_pure ?_
  show wpAny _ _ (handedOut v) _ _ _
  rw [handedOut_of hv]
  exact wpAny_pure h
theorem xma {Q:Option Value→Shared→Prop} (X:K.In s.heap) (c:XC K C) (I:InstAt s.heap x ox C od) (h:Q (some (.ref C)) { s with toks:=s.toks + 1 }) :
    wpAny (model prog w) A (getAttr? (.ref x) "__class__") Q E s:=by
  obtain ⟨cd,h1,_,h2⟩:=c.mro
  have hf:findObj K C od "__class__"=some (.bind (.builtin "getset_descriptor.__get__") (.builtin "object.__class__")):=by
    unfold findObj
    rw [h1,Option.bind_some,c.ca,Option.bind_some]
    simp [c.cg,c.ct]
  unfold getAttr? getAttrBy?
  refine wpAny_bind (wpAny_mkText (wpAny_bind (wpAny_attempt ?_)))
  refine xkt (s:={ s with toks:=s.toks + 1 }) X c I ?_
  have L0:=I.type (M:=model prog w)
  have L1:=looks_find (M:=model prog w) X I hf
  refine wpAny_bind (wpAny_pure (wpAny_bind (wpAny_pure (wpAny_bind (L0.here (s:={ s with toks:=s.toks + 1 }) (wpAny_bind (L1.here (s:={ s with toks:=s.toks + 1 }) ?_)))))))
  show wpAny _ _ (holding [_] (call _ [_,.ref x,.ref C]) >>= ret) _ _ _
  refine wpAny_bind (wpAny_holding (wpAny_call (class_get (s:={ s with toks:=s.toks + 1 }) (ox:=ox) (od:=od) X I c.isObj ?_)))
  refine wpAny_pure ?_
  show wpAny _ _ (handedOut (.ref C)) _ _ _
  exact wpAny_pure (wpAny_pure h)
end
end XL
set_option maxRecDepth 100000
namespace XL
open PySem
theorem xmf {x y:Str} {v:Value} (hx:v.isStr x=true) (n:y≠x):v.isStr y=false:=by
 cases v <;> simp_all [Value.isStr]
 exact fun z=>n z.symm
theorem xgj {name y:Str} (n:y≠name):∀ (l:List DictEntry) (i:Nat),l.findIdx? (·.key.isStr name)=some i→(l.eraseIdx i).find? (·.key.isStr y)=l.find? (·.key.isStr y)
 | [],i,h=>by simp at h
 | e :: r,i,h=>by
  rw [List.findIdx?_cons] at h
  by_cases q:e.key.isStr name=true
  ·rw [if_pos q] at h
   cases h
   have z:=xmf q n
   simp [z]
  ·rw [if_neg q] at h
   cases hi:r.findIdx? (·.key.isStr name) with
   | none=>rw [hi] at h; cases h
   | some j =>
    rw [hi] at h
    cases h
    have ih:=xgj n r j hi
    simp only [List.eraseIdx_cons_succ,List.find?_cons]
    split
    ·rfl
    ·exact ih
section
variable {M:Model} {A:Around} {E:Value→Shared→Prop} {s:Shared} {env:Env}
theorem xm1 {a:Addr} {m:Str→Option Value} {name:Str} {Q:Bool→Shared→Prop} (hn:s.heap.Ns a m)
    (k:∀ h' m',h'.Ns a m'→(∀ y,y≠name→m' y=m y)→Heap.SameBut a s.heap h'→Q (m name).isSome { s with heap:=h' }):wpAny M A (nsDel a name) Q E s:=by
  obtain ⟨o,es,ep,ho,hd,hk,hm⟩:=id hn
  have nor:es.any (·.refKey)=false:=by
    rw [Array.any_eq_false']
    intro e he
    obtain ⟨n,t,h⟩:=hk e he
    simp [DictEntry.refKey,h]
  have some_eq:(m name).isSome=es.any (·.key.isStr name):=by
    rw [← hm name]
    simp only [nsFind,findBy,Option.isSome_map]
    rw [Bool.eq_iff_iff]
    simp only [Array.find?_isSome,Array.any_eq_true]
    constructor
    · rintro ⟨z,hz,hp⟩
      obtain ⟨i,hi,rfl⟩:=Array.mem_iff_getElem.mp hz
      exact ⟨i,hi,hp⟩
    · rintro ⟨i,hi,hp⟩
      exact ⟨_,Array.getElem_mem hi,hp⟩
  have has:nsHas name o=pure (es.any (·.key.isStr name)):=by
    rw [nsHas_eq]
    unfold nsHasByArray
    rw [hd]
    show (if (es.any fun z=>z.key.isStr name)=true then _ else _)=_
    generalize (es.any fun z=>z.key.isStr name)=b
    cases b <;> simp [nor]
  unfold nsDel
  refine wpAny_bind (wpAny_loadPart ho ?_)
  rw [has]
  refine wpAny_bind (wpAny_pure ?_)
  rw [← some_eq]
  cases q:(m name).isSome
  · have z:=k s.heap m hn (fun _ _=>rfl) (.refl ..)
    rw [q] at z
    exact wpAny_pure z
  · refine wpAny_bind (wpAny_updatePart ho (wpAny_pure ?_))
    have key:∃ m',(s.heap.update a (Obj.dropName name)).Ns a m'∧∀ y,y≠name→m' y=m y:=by
      obtain ⟨cl,d,dt,sl⟩:=o
      subst hd
      cases hi:es.findIdx? (·.key.isStr name) with
      | none =>
        exact ⟨m,⟨_,_,ep,Heap.get?_update_self _ ho (by simp only [Obj.dropName_eq,Obj.dropNameByArray,hi] <;> rfl),(by simp only [Obj.dropName_eq,Obj.dropNameByArray,hi] <;> rfl),hk,hm⟩,fun _ _=>rfl⟩
      | some i =>
        refine ⟨_,⟨_,_,ep + 1,Heap.get?_update_self _ ho (by simp only [Obj.dropName_eq,Obj.dropNameByArray,hi] <;> rfl),(by simp only [Obj.dropName_eq,Obj.dropNameByArray,hi] <;> rfl),hk.erase i,fun _=>rfl⟩,fun y hy=>?_⟩
        rw [← hm y]
        obtain ⟨l⟩:=es
        have hi':l.findIdx? (·.key.isStr name)=some i:=by simpa using hi
        have z:=xgj hy l i hi'
        simp only [nsFind,findBy]
        have il:i < l.length:=by
          have:=List.findIdx?_eq_some_iff_findIdx_eq.mp hi'
          exact this.1
        have e1:(Array.mk l).eraseIdxIfInBounds i=Array.mk (l.eraseIdx i):=by
          simp [Array.eraseIdxIfInBounds,il]
        rw [e1]
        simp only [List.find?_toArray]
        rw [z]
    obtain ⟨m',n',e'⟩:=key
    have z:=k _ m' n' e' (Heap.SameBut.update ..)
    rw [q] at z
    exact z
theorem xk6 {n:Str} {pos:Pos} {m:Str→Option Value} {Q:Unit→Shared→Prop} (hl:env.kindOf n=some .local) (hn:s.heap.Ns env.locals m)
    (hp:(env.scope.kind == .class || (env.scope.kind == .module && env.locals != env.globals))=false)
    (h:∀ h' m',h'.Ns env.locals m'→(∀ y,y≠n→m' y=m y)→Heap.SameBut env.locals s.heap h'→Q () { s with heap:=h',toks:=s.toks + 1 }) :
    wpAny M A (do bindName env n .none; unbindBehindTheSuite env n pos) Q E s:=by
  refine wpAny_bind (wpAny_bindName (wpAny_storeName_local hl hn (fun h1 n1 s1=>?_) hp))
  unfold unbindBehindTheSuite
  refine wpAny_onRaise ?_
  unfold unbindName
  refine wpAny_bind (wpAny_point (wpAny_bind ?_))
  unfold deleteName
  simp only [hl,hp]
  rw [if_neg (by decide)]
  refine wpAny_bind (xm1 n1 fun h2 m2 n2 e2 s2=>?_)
  simp only [if_true,Option.isSome_some,Bool.not_true,Bool.false_eq_true,if_false]
  refine wpAny_pure (wpAny_point (h h2 m2 n2 (fun y hy=>?_) (s1.trans s2)))
  rw [e2 y hy,if_neg hy]
end
end XL
set_option maxRecDepth 100000
namespace L2
open PySem PySem.Spec PyProof.Rows XL
variable {q0:Bool}
def XN (e C:Addr) (od:Option Addr):HO:=.ext fun h=>Xat h e (.ref C) od none
def XO (e C:Addr) (od:Option Addr):HO:=.ext fun h=>∃ ox vs,h.get? e=some ox∧ox.cls=.ref C∧ox.dict=od∧ox.data=.fields vs
def XD (dx:Addr) (fs:List (Str × V)):HO:=.ext fun h=>fs.length≤1000∧∃ mA,h.Ns1 dx mA∧(∀ f,RelO (fs.lookup f) (mA f))∧PySem.Within mA (fs.map (·.1))
section
variable {P:Program} {w:World} {H:Hp} {h:Heap} {e C dx:Addr} {od:Option Addr} {fs:List (Str × V)}
theorem xju (x:Xat h e (.ref C) od none):xa4 P w H h e (XN e C od):=by
 refine ⟨x,?_,fun h1 h2 z k=>?_⟩
 ·obtain ⟨oe,_,g,_⟩:=x
  exact ⟨oe,g⟩
 ·obtain ⟨oe,vs,g,c,o,d,sz,y⟩:=z
  rcases y with y | ⟨T,_,_,z,_⟩
  ·exact ⟨oe,vs,k oe g,c,o,d,sz,.inl y⟩
  ·cases z
theorem xmy (x:∃ ox vs,h.get? e=some ox∧ox.cls=.ref C∧ox.dict=od∧ox.data=.fields vs):xa4 P w H h e (XO e C od):=by
 refine ⟨x,?_,fun h1 h2 z k=>?_⟩
 ·obtain ⟨oe,_,g,_⟩:=x
  exact ⟨oe,g⟩
 ·obtain ⟨oe,vs,g,c,o,d⟩:=z
  exact ⟨oe,vs,k oe g,c,o,d⟩
theorem xkz {tb:Option Addr} (x:Xat h e (.ref C) od tb):∃ ox vs,h.get? e=some ox∧ox.cls=.ref C∧ox.dict=od∧ox.data=.fields vs:=by
 obtain ⟨oe,vs,g,c,o,d,_⟩:=x
 exact ⟨oe,vs,g,c,o,d⟩
theorem xn2 {h1 h2:Heap} {m:Str→Option Value} (n:h1.Ns1 dx m) (k:∀ o,h1.get? dx=some o→h2.get? dx=some o):h2.Ns1 dx m:=by
 obtain ⟨o,es,ep,g,r⟩:=n
 exact ⟨o,es,ep,k o g,r⟩
theorem xmx (hl:fs.length≤1000) {mA:Str→Option Value} (n:h.Ns1 dx mA) (r:∀ f,RelO (fs.lookup f) (mA f)) (wi:PySem.Within mA (fs.map (·.1))):xa4 P w H h dx (XD dx fs):=by
 refine ⟨⟨hl,mA,n,r,wi⟩,?_,fun h1 h2 z k=>?_⟩
 ·obtain ⟨o,es,ep,g,_⟩:=n
  exact ⟨o,g⟩
 ·obtain ⟨hl,mA,n,r,wi⟩:=z
  exact ⟨hl,mA,xn2 n k,r,wi⟩
end
def CXo (P:Program) (w:World):CXT:=fun outer H s E u s'=>∃ e C od H' T,u=.ref e∧s'.os=s.os∧AllBare s'.gens∧Un (frs outer) [] H H' s.heap s'.heap∧HOk P w H' s'.heap ∧
 Xat s'.heap e (.ref C) od (some T)∧H' e=some (XO e C od)∧s.heap.objs.size≤T∧H' T=none∧E e C H'
def Tbs (X:Cx) (pins:List (Addr × Obj)) (H:Hp) (tb:Option Addr):Prop:=∀ T,tb=some T→X.s₀.heap.objs.size≤T∧H T=none∧T≠X.env.locals∧(∀ x c,X.env.cells.lookup x=some c→c≠T)∧∀ p ∈ X.pn ++ pins,p.1≠T
def xfi (X:Cx) (E:St→XK):Prop:=∀ (pins:List (Addr × Obj)) (σ:St) (H:Hp) (s:Shared) (e C:Addr) (od tb:Option Addr),Inv X pins σ H s→Xat s.heap e (.ref C) od tb→H e=some (XO e C od) →
 Tbs X pins H tb→E σ e C H→X.xe (.ref e) s
section
variable {X:Cx} {pins:List (Addr × Obj)} {σ:St} {H:Hp} {s:Shared} {e C:Addr} {od tb:Option Addr}
theorem Inv.size_lt (I:Inv X pins σ H s) {b:Addr} (h:s.heap.objs.size≤b):H b=none∧b≠X.env.locals∧(∀ x c,X.env.cells.lookup x=some c→c≠b)∧∀ p ∈ X.pn ++ pins,p.1≠b:=by
 refine ⟨I.hok.fresh h,fun z=>?_,fun x c hc z=>?_,fun p hp z=>?_⟩
 ·rw [z] at h
  exact absurd I.lt (Nat.not_lt.mpr h)
 ·obtain ⟨v,o,ho,_⟩:=I.cell x c hc
  rw [z] at ho
  exact absurd (Heap.lt_size ho) (Nat.not_lt.mpr h)
 ·have g:=(I.pin p hp).1
  rw [z] at g
  exact absurd (Heap.lt_size g) (Nat.not_lt.mpr h)
theorem Inv.noted {h':Heap} {T:Addr} (I:Inv X pins σ H s) (he:H e=some (XO e C od)) (tbs:Tbs X pins H tb) (st:Stp (frs X.stack) e tb s.heap h') (x:Xat h' e (.ref C) od (some T)) :
    Inv X pins σ H { s with heap:=h' }:=by
  have neE:∀ b,H b=none→b≠e:=fun b n z=>by rw [z,he] at n; cases n
  have neT:∀ b u,H b=some u→tb≠some b:=fun b u hb z=>by rw [(tbs b z).2.1] at hb; cases hb
  have nfr:∀ b u,H b=some u→b ∉ frs X.stack:=fun b u hb z=>by rw [I.stkFree b z] at hb; cases hb
  have kp:∀ b u o,H b=some u→b≠e→s.heap.get? b=some o→h'.get? b=some o:=fun b u o hb ne g=>st.keep b o g ne (neT b u hb) (nfr b u hb)
  have un:Un (frs X.stack) tb.toList H H s.heap h':=by
    refine ⟨fun b o g n hb hx=>st.keep b o g (neE b n) (fun z=>hx (by rw [z]; simp)) hb,fun b o g n hb hx=>st.slot b o g hb,fun b o g n hx=>n,fun b o g hx=>?_,fun b xs z=>z,fun b o u z=>z,fun b ps z=>⟨#[],by rw [z]; simp⟩⟩
    by_cases b1:b=e
    · subst b1
      obtain ⟨oe,_,ge,_⟩:=x
      exact ⟨oe,ge⟩
    · by_cases b2:b ∈ frs X.stack
      · obtain ⟨sl,q⟩:=st.slot b o g b2
        exact ⟨_,q⟩
      · exact ⟨o,st.keep b o g b1 (fun z=>hx (by rw [z]; simp)) b2⟩
  have hok:HOk X.prog X.w H h':=fun b u hb=>by
    by_cases b1:b=e
    · subst b1
      rw [he] at hb
      cases hb
      exact xmy (xkz x)
    · refine (I.hok b u hb).stay (fun c v hc q=>?_) (fun c q=>q) fun c xs q=>q
      rcases hc with rfl | hc
      · exact kp c u v hb b1 q
      · exact kp c _ v hc (fun z=>by rw [z,he] at hc; cases hc) q
  refine I.call (g':=s.gens) (d':=s.drawn) (t':=s.toks) (ch:=tb.toList) un hok I.bare fun b hb=>?_
  have z:tb=some b:=by
    cases tb with
    | none=>simp at hb
    | some T'=>simp at hb; rw [hb]
  obtain ⟨a1,_,a3,a4,a5⟩:=tbs b z
  exact ⟨.inr a1,a3,a4,a5⟩
theorem xfi.pass {E:St→XK} (t:xfi X E):xc8 (CXo X.prog X.w) X E:=fun pins σ H s u s' I h=>by
 obtain ⟨e,C,od,H',T,rfl,os,bare,un,hok,x,he,sT,hT,q⟩:=h
 have J:Inv X pins σ H' s':=I.call' os un hok bare (ch:=[]) fun b z=>absurd z (by simp)
 refine t pins σ H' s' e C od (some T) J x he (fun T' z=>?_) q
 cases z
 obtain ⟨_,a,b,c⟩:=I.size_lt sT
 exact ⟨Nat.le_trans I.sz sT,hT,a,b,c⟩
theorem xp:xc8 (CXo X.prog X.w) X (fun _ _ _ _=>False):=fun pins σ H s u s' I h=>by
 obtain ⟨e,C,od,H',T,_,_,_,_,_,_,_,_,_,q⟩:=h
 exact q.elim
theorem xa1 {P:Program} {w:World} {K:PySem.W.Frag} {mg:Str→Option Value} {base:Heap} {N:List Str} {qual:Str} {scope:Scope} {f:Addr} {cd:Value} {A:Around} {outer:List Env} {s₀:Shared} {H₀:Hp} {E:XK} :
    xfi (cxOf q0 (CXo P w) P w K mg base N qual scope f cd A outer s₀ H₀ E) (fun _=>E):=fun pins σ H s e C od tb I x he tbs q=>by
  show wpAny (model P w) _ (leaving _ (.ref e)) _ _ s
  unfold leaving
  refine wpAny_bind (xkk (L:=s₀.heap.objs.size) I.ok.frames I.stack rfl x fun h' T st sT x'=>?_)
  have J:=I.noted he tbs st x'
  exact ⟨e,C,od,H,T,rfl,J.os,J.bare,J.base,J.hok,x',he,Nat.le_trans I.sz sT,I.hok.fresh sT,q⟩
end
end L2
set_option maxRecDepth 100000
namespace XL
open PySem PySem.W
def xls (e:DictEntry):Bool:=match e.key with | .str _ _=>true | _=>false
def xee (K:Frag) (ns:Addr):Bool:=match K.lookup ns with
 | some ⟨_,_,.dict es _,_⟩=>es.toList.all xls && !(es.toList.any (·.key.isStr "__init__"))
 | _=>false
def xge (K:Frag):List Value→Bool
  | []=>false
  | .ref a :: r=>(match K.lookup a with
      | some ⟨_,_,.cls cd,_⟩=>xee K cd.ns && xge K r
      | _=>false)
  | v :: r=>(v :: r) == vErr
theorem xmu {K:Frag} {h:Heap} {ns:Addr} (X:K.In h) (e:xee K ns=true):∃ mA,h.Ns ns mA∧mA "__init__"=none:=by
 unfold xee at e
 split at e
 ·rename_i es n sl ho
  obtain ⟨e1,e2⟩:=Bool.and_eq_true_iff.mp e
  refine ⟨_,⟨_,es,_,X _ _ ho,rfl,fun z hz=>?_,fun _=>rfl⟩,?_⟩
  ·have q:=List.all_eq_true.mp e1 z (Array.mem_toList_iff.mpr hz)
   unfold xls at q
   split at q
   ·rename_i a b c
    exact ⟨a,b,c⟩
   ·cases q
  ·unfold nsFind findBy
   rw [← Array.find?_toList]
   have z:es.toList.find? (fun e=>e.key.isStr "__init__")=none:=by
    rw [List.find?_eq_none]
    intro y hy q
    rw [Bool.not_eq_true',List.any_eq_false] at e2
    exact e2 y hy q
   rw [z]
   rfl
 ·cases e
theorem xi9 {K:Frag} {h:Heap} (X:K.In h):∀ {l:List Value},xge K l=true→OwnTail h vErr l
 | [],e=>by cases e
 | v :: r,e=>by
  have last:((v :: r:List Value) == vErr)=true→OwnTail h vErr (v :: r):=fun z=>by
   rw [eq_of_beq z]
   exact .base
  cases v with
  | ref a =>
   unfold xge at e
   split at e
   ·rename_i c d cd sl ho
    obtain ⟨e1,e2⟩:=Bool.and_eq_true_iff.mp e
    obtain ⟨mA,n,z⟩:=xmu X e1
    exact .own (X _ _ ho) n z (xi9 X e2)
   ·cases e
  | _=>exact last e
def xan (K:Frag) (C:Addr):Bool:=match K.lookup C with
 | some ⟨.type "type",_,.cls cd,sl⟩=>(match cd.mro,sl.toList with
  | .ref C' :: bm,[_,_,_,_,some (.builtin i),_]=>C' == C && !cd.hasDel && i == "ValueError.__new__" && xge K bm
  | _,_=>false)
 | _=>false
theorem xe7 {K:Frag} {h:Heap} {C:Addr} (X:K.In h) (q:xan K C=true):∃ nm qn N bs bm hz sn sub ab col dd k0 k1 k2 k3 k5,
    h.get? C=some (excClassObj nm qn C N bs bm hz sn sub ab col dd k0 k1 k2 k3 k5 "ValueError.__new__")∧OwnTail h vErr bm:=by
  unfold xan at q
  split at q
  · rename_i dd cd sl ho
    split at q
    · rename_i C' bm k0 k1 k2 k3 n k5 hm hs
      simp only [Bool.and_eq_true,beq_iff_eq,Bool.not_eq_true'] at q
      obtain ⟨⟨⟨rfl,hdel⟩,rfl⟩,ht⟩:=q
      obtain ⟨nm,bs,mro,ns,qn,hd,sn,sub,ab,col,del⟩:=cd
      dsimp only at hm hdel
      subst hm hdel
      have hsl:sl=#[k0,k1,k2,k3,some (.builtin "ValueError.__new__"),k5]:=by
        obtain ⟨l⟩:=sl
        simp only at hs
        rw [hs]
      subst hsl
      exact ⟨nm,qn,ns,bs,bm,hd,sn,sub,ab,col,dd,k0,k1,k2,k3,k5,X _ _ ho,xi9 X ht⟩
    · cases q
  · cases q
end XL
namespace L2
open PySem PySem.Spec PyProof.Rows XL
variable {q0:Bool}
section
variable {X:Cx} {pins:List (Addr × Obj)} {σ:St} {H:Hp} {s:Shared} {a C dx:Addr} {od:Option Addr} {fs:List (Str × V)} {f:Str} {v y:V} {u:Value} {A:Around} {E:Value→Shared→Prop}
theorem xhs (I:Inv X pins σ H s) (e:H a=some (XN a C od)):Xat s.heap a (.ref C) od none:=(I.hok a _ e).1
theorem xmt (I:Inv X pins σ H s) (e:H a=some (XO a C od)):∃ ox vs,s.heap.get? a=some ox∧ox.cls=.ref C∧ox.dict=od∧ox.data=.fields vs:=(I.hok a _ e).1
theorem xhk (I:Inv X pins σ H s) (e:H dx=some (XD dx fs)):fs.length≤1000∧∃ mA,s.heap.Ns1 dx mA∧(∀ f,RelO (fs.lookup f) (mA f))∧PySem.Within mA (fs.map (·.1)):=(I.hok dx _ e).1
theorem xdk {o:Obj} {vs:Array Value} (d:o.data=.fields vs):PySem.W.notCls o=true:=by
 unfold PySem.W.notCls
 rw [d]
theorem xl3 {Q:Unit→Shared→Prop} (I:Inv X pins σ H s) (e:H a=some (XN a C none)) (c:XC X.K C) (n:PySem.W.findIn X.K (.ref C) f=some none) (ry:RelV y u)
    (h:∀ dx s',H dx=none→Inv X pins σ (upd (upd H dx (XD dx [(f,y)])) a (XN a C (some dx))) s'→Q () s'):wpAny (model X.prog X.w) A (setAttr (.ref a) f u) Q E s:=by
  obtain ⟨oe,vs,g,ce,oo,de,sz,tb⟩:=xhs I e
  refine xo4 I.kIn c g ce (xdk de) oo (Obj.isFreed_of_fields de) n fun h' g' n' k sz'=>h s.heap.objs.size _ (I.hok.fresh (Nat.le_refl _)) ?_
  have hN:H s.heap.objs.size=none:=I.hok.fresh (Nat.le_refl _)
  have nad:a≠s.heap.objs.size:=fun z=>by rw [z,hN] at e; cases e
  have na:∀ b,H b=none→b≠a:=fun b nb z=>by rw [z,e] at nb; cases nb
  have nd:∀ b o,s.heap.get? b=some o→b≠s.heap.objs.size:=fun b o gb=>Nat.ne_of_lt (Heap.lt_size gb)
  have nd':∀ b u,H b=some u→b≠s.heap.objs.size:=fun b u hb z=>by rw [z,hN] at hb; cases hb
  have at1:∀ b,b≠a→b≠s.heap.objs.size→upd (upd H s.heap.objs.size (XD s.heap.objs.size [(f,y)])) a (XN a C (some s.heap.objs.size)) b=H b:=fun b b1 b2=>by rw [xl b1,xl b2]
  have xnew:Xat h' a (.ref C) (some s.heap.objs.size) none:=⟨_,vs,g',ce,rfl,de,sz,by
    rcases tb with t | ⟨T,_,_,z,_⟩
    · exact .inl t
    · cases z⟩
  have own1:∀ b c,H c=some (.own b)→c≠a:=fun b c hc z=>by rw [z,e] at hc; cases hc
  have tup1:∀ c xs,H c=some (.tup xs)→c≠a:=fun c xs hc z=>by rw [z,e] at hc; cases hc
  refine I.un ⟨fun b o gb nb _ _=>k b o (na b nb) gb,fun b o gb nb _ _=>⟨o.slots,k b o (na b nb) gb⟩,fun b o gb nb _=>?_,fun b o gb _=>?_,fun b xs z=>?_,fun b o w z=>?_,fun b ps z=>⟨#[],?_⟩⟩ fun b w hb=>?_
  · rw [at1 b (na b nb) (nd b o gb)]; exact nb
  · by_cases b1:b=a
    · exact ⟨_,by rw [b1]; exact g'⟩
    · exact ⟨o,k b o b1 gb⟩
  · rw [at1 b (tup1 b xs z) (nd' b _ z)]; exact z
  · rw [at1 b (fun q=>by rw [q,e] at z; cases z) (nd' b _ z)]; exact z
  · rw [at1 b (fun q=>by rw [q,e] at z; cases z) (nd' b _ z),z]; simp
  · by_cases b1:b=a
    · subst b1
      rw [xg] at hb
      cases hb
      exact xju xnew
    · rw [xl b1] at hb
      by_cases b2:b=s.heap.objs.size
      · subst b2
        rw [xg] at hb
        cases hb
        refine xmx (by show 1≤1000; decide) n' (fun g=>?_) fun g hg=>?_
        · show RelO (List.lookup g [(f,y)]) (if g=f then some u else none)
          by_cases q:g=f
          · rw [if_pos q,q]
            simp only [List.lookup_cons,beq_self_eq_true]
            exact ry
          · rw [if_neg q]
            simp only [List.lookup_cons,beq_eq_false_iff_ne.mpr q]
            exact trivial
        · by_cases q:g=f
          · simp [q]
          · exact absurd (show (if g=f then some u else none)=none from if_neg q) hg
      · rw [xl b2] at hb
        refine (I.hok b w hb).stay (fun c v hc q=>?_) (fun c q=>?_) fun c xs q=>?_
        · rcases hc with rfl | hc
          · exact k c v b1 q
          · exact k c v (own1 b c hc) q
        · rw [at1 c (own1 b c q) (nd' c _ q)]; exact q
        · rw [at1 c (tup1 c xs q) (nd' c _ q)]; exact q
theorem xl2 {Q:Unit→Shared→Prop} (I:Inv X pins σ H s) (e:H a=some (XN a C (some dx))) (ed:H dx=some (XD dx fs)) (hl:fs.length < 1000) (c:XC X.K C) (n:PySem.W.findIn X.K (.ref C) f=some none) (ry:RelV y u)
    (h:∀ s',Inv X pins σ (upd H dx (XD dx (putF f y fs))) s'→Q () s'):wpAny (model X.prog X.w) A (setAttr (.ref a) f u) Q E s:=by
  obtain ⟨oe,vs,g,ce,oo,de,sz,tb⟩:=xhs I e
  obtain ⟨_,mA,nm,r,wi⟩:=xhk I ed
  have hz:(fs.map (·.1)).length≤sizeLine:=by rw [List.length_map,sizeLine_eq]; omega
  refine xod I.kIn c g ce (xdk de) oo nm n wi hz fun h' n' sb=>h _ ?_
  have hd:∃ o,h'.get? dx=some o:=let ⟨o,_,_,e',_⟩:=n'; ⟨o,e'⟩
  refine I.write (x:=dx) (e:=dx) (by rw [ed]; exact True.intro) (.inl rfl) (fun b q hb z=>(sb.2 b hb).trans z) hd ?_
  refine xmx (Nat.le_trans (xd1 f y fs) hl) n' (fun g=>?_) fun g hg=>?_
  · show RelO ((putF f y fs).lookup g) (if g=f then some u else mA g)
    rw [xdy]
    by_cases q:g=f
    · rw [if_pos q,if_pos q]; exact ry
    · rw [if_neg q,if_neg q]; exact r g
  · by_cases q:g=f
    · rw [q]; exact (xdb f y fs).1
    · refine (xdb f y fs).2 g (wi g fun z=>hg ?_)
      show (if g=f then some u else mA g)=none
      rw [if_neg q]; exact z
theorem xnf {b:Bool} {Q:Value→Shared→Prop} (I:Inv X pins σ H s) (e:H a=some (XO a C (some dx))) (ed:H dx=some (XD dx fs)) (c:XC X.K C) (n:PySem.W.findIn X.K (.ref C) f=some none) (l:fs.lookup f=some v)
    (h:∀ u s',Inv X pins σ H s'→RelV v u→Q u s'):wpAny (model X.prog X.w) A (getAttr (.ref a) f b) Q E s:=by
  obtain ⟨ox,vs,g,ce,oo,de⟩:=xmt I e
  obtain ⟨_,mA,nm,r,wi⟩:=xhk I ed
  obtain ⟨u,hu,ru⟩:=RelO.some_of (v:=v) (o:=mA f) (by rw [← l]; exact r f)
  obtain ⟨o1,g1,hl⟩:=xhe nm
  exact xqf I.kIn c g ce (xdk de) oo g1 (by rw [hl,hu]) n (xhd ru) (h u _ (I.tok _) ru)
end
def sXF (K:PySem.W.Frag) (ta tv:TE) (f:Str):TS:=fun D σ H=>tv σ H fun y H1=>ta σ H1 fun x H2=>∃ a C,x=.ref a∧XC K C∧PySem.W.findIn K (.ref C) f=some none ∧
  ((H2 a=some (XN a C none)∧∀ dx,H2 dx=none→D.nx σ (upd (upd H2 dx (XD dx [(f,y)])) a (XN a C (some dx)))) ∨
   ∃ dx fs,H2 a=some (XN a C (some dx))∧H2 dx=some (XD dx fs)∧fs.length < 1000∧D.nx σ (upd H2 dx (XD dx (putF f y fs))))
def tXF (K:PySem.W.Frag) (ta:TE) (f:Str):TE:=fun σ H Q=>ta σ H fun x H1=>∃ a C dx fs v,x=.ref a∧H1 a=some (XO a C (some dx))∧H1 dx=some (XD dx fs)∧XC K C∧PySem.W.findIn K (.ref C) f=some none∧fs.lookup f=some v∧Q v H1
section
variable {X:Cx} {o e value:Expr} {f:Str} {pos pos' tpos:Pos} {ta tv te:TE}
theorem xcl (ha:PE X o ta) (hv:PE X value tv) (hs:swapsWith value (some (.Attribute o f pos')) pos.line X.env=pure false):PS X (.Assign [.Attribute o f pos'] value pos) (sXF X.K ta tv f):=by
 intro pins s σ H D I h
 refine plainObj_wpAny_Assign_Attribute (thn (hv pins s σ H _ I h) fun u s1 ⟨y,H1,I1,ry,q⟩=>thn (ha pins s1 σ H1 _ I1 q) fun ov s2 ⟨x,H2,I2,rx,a,C,ex,c,n,q2⟩=>?_) hs
 subst ex
 obtain rfl:ov=Value.ref a:=rx
 rcases q2 with ⟨ea,q2⟩ | ⟨dx,fs,ea,ed,hl,q2⟩
 ·exact xl3 I2 ea c n ry fun dx s3 nd I3=>⟨σ,_,I3,q2 dx nd⟩
 ·exact xl2 I2 ea ed hl c n ry fun s3 I3=>⟨σ,_,I3,q2⟩
theorem xbe (he:PE X e te) (hb:attributeBase e f X.env (eval e X.env)=eval e X.env):PE X (.Attribute e f pos) (tXF X.K te f):=by
 intro pins s σ H Q I h
 refine xjj hb (thn (he pins s σ H _ I h) fun u s1 ⟨x,H1,I1,rx,a,C,dx,fs,v,ex,ea,ed,c,n,l,q⟩=>?_)
 subst ex
 obtain rfl:u=Value.ref a:=rx
 exact xnf I1 ea ed c n l fun u' s2 I2 ru=>⟨v,H1,I2,ru,q⟩
end
structure XMk (K:PySem.W.Frag) (C f:Addr):Prop where
 makes:xan K C=true
 init:PySem.W.findIn K (.ref C) "__init__"=some (some (.ref f))
 fn:PySem.W.isFn K (.ref f)=true
 kp:PySem.W.keepIn K (.ref C)=true
def xpc (C:Addr) (sp:Sp) (dvs:List V) (t:TA):TE:=fun σ H Q=>t σ H fun vs H1=>vs.length≤1000∧∀ e,H1 e=none →
 sp (.ref e :: (vs ++ dvs)) (upd H1 e (XN e C none)) (fun v H2=>v=.non∧Q (.ref e) H2) (fun _ _ _=>False)
def xoq (K:PySem.W.Frag) (te:TE) (E:St→XK):TS:=fun D σ H=>te σ H fun v H1=>∃ e C od,v=.ref e∧H1 e=some (XN e C od)∧xan K C=true∧E σ e C (upd H1 e (XO e C od))
section
variable {X:Cx} {k:Nat} {f C:Addr} {fd:FuncData} {ps:List Str} {sp:Sp} {dvs:List V} {ds:List Value} {E:St→XK} {x m:Str} {p pos apos:Pos} {e o:Expr} {es:List Expr} {ta te:TE} {t:TA}
theorem xkg {pins:List (Addr × Obj)} {σ:St} {H:Hp} {s:Shared} {Q:VK} {us:List Value} {vs:List V} (M:XMk X.K C f) (F:FnOk q0 X.prog X.w X.K X.mg X.base (CXo X.prog X.w) k f fd ps sp) (hr:Room q0 (k + 1) X.A) (hb:xag X.K fd ps ds) (hd:Vals dvs ds)
    (I:Inv X pins σ H s) (r:Vals vs us) (hl:vs.length≤1000)
    (h:∀ e,H e=none→sp (.ref e :: (vs ++ dvs)) (upd H e (XN e C none)) (fun v H2=>v=.non∧Q (.ref e) H2) (fun _ _ _=>False)) :
    wpAny (model X.prog X.w) X.A (call (.ref C) us) (EP X pins σ Q) X.xe s:=by
  obtain ⟨nm,qn,N,bs,bm,hz,sn,sub,ab,col,dd,k0,k1,k2,k3,k5,gC,T⟩:=xe7 I.kIn M.makes
  have ty:PySem.W.typeIn X.K (.ref f)=some (.type "function"):=beq_iff_eq.mp M.fn
  obtain ⟨oI,gI,cI⟩:=Option.map_eq_some_iff.mp (show (X.K.lookup f).map (·.cls)=some (.type "function") from ty)
  have lu:us.length≤sizeLine:=by
    have:=r.length
    rw [← this,sizeLine_eq]
    omega
  obtain ⟨hh,gg,d,tk,os⟩:=s
  refine xj9 PySem.F.excBase_ValueError T gC (fun A' Q' E' s' kk q=>PySem.W.looks_findIn I.kIn M.init A' Q' E' s' kk q) (I.kIn _ _ gI) cI lu fun h' e hm se=>?_
  have hn:H e=none:=I.hok.fresh se
  obtain ⟨t0,ge,_,_⟩:=hm.there
  have xa:Xat h' e (.ref C) none none:=⟨_,_,ge,rfl,rfl,rfl,by simp,.inl ⟨rfl,rfl⟩⟩
  have I2:Inv X pins σ (upd H e (XN e C none)) ⟨h',gg,d,tk,os⟩:=I.laid (t':=tk) hm.keeps se (xju xa)
  have hq:=h e hn
  have r2:Vals (V.ref e :: (vs ++ dvs)) (Value.ref e :: (us ++ ds)):=.cons rfl (r.append hd)
  have hl2:(Value.ref e :: us ++ ds).length=ps.length:=by
    have z:=r2.length
    rw [F.len _ _ _ _ hq] at z
    exact z.symm
  refine wpAny_call (codeAny_mono (F.run _ X.stack _ _ ⟨Value.ref e :: us,[]⟩ (Value.ref e :: (us ++ ds)) _ _ (fun _ _ _=>False) (hr.make C us [])
    (I2.env0.make C us []) (hb _ (Value.ref e :: us) I2.kIn hl2) r2 hq) fun r s' hq'=>?_)
  cases r with
  | error e'=>exact (xp pins σ _ _ e' s' I2 hq')
  | ok fl =>
    cases fl with
    | ret u =>
      obtain ⟨v,H',I3,rv,ev,q3⟩:=I2.after hq'
      subst ev
      exact ⟨rv,⟨V.ref e,H',I3,rfl,q3⟩⟩
    | next=>exact False.elim hq'
    | brk=>exact False.elim hq'
    | cont=>exact False.elim hq'
theorem xc1 (M:XMk X.K C f) (F:FnOk q0 X.prog X.w X.K X.mg X.base (CXo X.prog X.w) k f fd ps sp) (hr:Room q0 (k + 1) X.A) (hg:Gl X x) (hm:X.mg x=some (.ref C)) (hb:xag X.K fd ps ds) (hd:Vals dvs ds)
    (ha:PA X (e :: es) t) (hdb:(x == ("__debug__":Str))=false:=by decide) (he:starEach (e :: es) X.env=(false,eval e X.env) :: starEach es X.env:=by rfl) (hpl:(backTo pos (starEach es X.env)).any (·.1)=false:=by rfl) :
    PE X (.Call (.Name x p) (e :: es) [] pos) (xpc C sp dvs t):=by
  intro pins s σ H Q I h
  refine wpAny_Call_Name_kw (xdj I hg hm ?_ hdb)
  refine PySem.W.callWith_K (h₀:=X.base) I.ok.mod.kin M.kp (thn (ha pos pins s σ H _ I h) fun us s1 ⟨vs,H1,I1,r,hl,q⟩=>⟨I1.kIn,?_⟩) he hpl
  exact xkg M F hr hb hd I1 r hl q
theorem Inv.toXO {pins:List (Addr × Obj)} {σ:St} {H:Hp} {s:Shared} {e:Addr} {od:Option Addr} (I:Inv X pins σ H s) (h:H e=some (XN e C od)):Inv X pins σ (upd H e (XO e C od)) s:=by
 have x:=xhs I h
 obtain ⟨oe,_,ge,_⟩:=id x
 exact I.write (x:=e) (e:=e) (t':=s.toks) (by rw [h]; exact True.intro) (.inl rfl) (fun b u _ z=>z) ⟨oe,ge⟩ (xmy (xkz x))
theorem xha {h:Heap} {bm:List Value} (T:OwnTail h vErr bm):bm.contains (.type "BaseException")=true:=T.hasType (by decide +kernel)
theorem xcg (hh:X.A.handled=none) (tk:xfi X E) (he:PE X e te):PS X (.Raise (some e) none pos) (xoq X.K te E):=by
 intro pins s σ H D I h
 rw [arm_exec_Raise]
 refine wpAny_bind (wpAny_standAt ?_)
 show wpAny _ _ (raiseStmt X.env (some (do let v ← eval e X.env; standAt pos; pure v)) none) _ _ s
 refine xm4 hh (wpAny_bind (thn (he pins s σ H _ I h) fun v s1 ⟨x,H1,I1,rx,a,C,od,ex,ea,mk,q⟩=>wpAny_bind (wpAny_standAt (wpAny_pure ?_))))
 subst ex
 obtain rfl:v=Value.ref a:=rx
 obtain ⟨nm,qn,N,bs,bm,hz,sn,sub,ab,col,dd,k0,k1,k2,k3,k5,gC,T⟩:=xe7 I1.kIn mk
 have x:=xhs I1 ea
 exact ⟨a,od,C,nm,qn,N,bs,bm,hz,sn,sub,ab,col,dd,k0,k1,k2,k3,k5,_,rfl,xha T,gC,x,tk pins σ _ s1 a C od none (I1.toXO ea) x xg (fun T' z=>by cases z) q⟩
end
end L2
set_option maxRecDepth 100000
namespace XL
open PySem PySem.W
section
variable {M:Model} {A:Around} {E:Value→Shared→Prop} {s:Shared}
theorem xl7 {fs:List Addr} {e T:Addr} {cls:Value} {od:Option Addr} {Q:Unit→Shared→Prop} (x:Xat s.heap e cls od (some T)) (nf:∀ b ∈ fs,b≠T)
    (k:∀ h',Stp fs e (some T) s.heap h'→Xat h' e cls od (some T)→Q () { s with heap:=h' }):wpAny M A (setFlight (.ref e) none) Q E s:=by
  obtain ⟨oe,vs,ge,ce,oo,de,se,y⟩:=x
  rcases y with ⟨z,_⟩ | ⟨T',oT,ts,z,h1,nTe,gT,dT,h3⟩
  · cases z
  · cases z
    unfold setFlight
    refine wpAny_bind (wpAny_field ge de h1 ?_)
    rw [if_pos (show (Value.ref T != Value.none)=true from by simp)]
    have z3:3 < ts.size:=(Array.getElem?_eq_some_iff.mp h3).1
    have ot:∀ b,b≠T→(s.heap.update T (Obj.mapFields (·.setIfInBounds 3 ((none:Option Addr).elim Value.none fun f=>rawInt f)))).get? b=s.heap.get? b:=fun b hb=>Heap.get?_update_other _ _ (Ne.symm hb)
    refine wpAny_setField gT dT z3 (k _ ⟨fun b o hb _ bt _=>(ot b fun q=>bt (congrArg some q.symm)).trans hb,fun b o hb bf=>⟨o.slots,(ot b (nf b bf)).trans hb⟩⟩ ?_)
    exact ⟨oe,vs,(ot e (Ne.symm nTe)).trans ge,ce,oo,de,se,.inr ⟨T,_,_,rfl,h1,nTe,Heap.get?_update_self _ gT (Obj.isFreed_of_fields (Obj.data_mapFields dT _)),Obj.data_mapFields dT _,by simp [z3]⟩⟩
variable {nm qn nm' qn':Str} {C N C' N':Addr} {bs bm bs' bm':List Value} {hz hz':Bool} {sn sn':List Str} {sub sub':List Value} {ab ab':Bool} {col col':Option Bool} {dd dd':Option Addr} {k0 k1 k2 k3 k5 j0 j1 j2 j3 j5:Option Value} {ni ni':String}
theorem xir {h:Heap} {g:Array GenState} {d:Drawn} {t:Nat} {os:OsState} {e:Addr} {oe:Obj} {b:Bool} {Q:Bool→Shared→Prop}
    (gC:h.get? C=some (excClassObj nm qn C N bs bm hz sn sub ab col dd k0 k1 k2 k3 k5 ni)) (gC':h.get? C'=some (excClassObj nm' qn' C' N' bs' bm' hz' sn' sub' ab' col' dd' j0 j1 j2 j3 j5 ni'))
    (ge:h.get? e=some oe) (ce:oe.cls=.ref C) (bB:bm'.contains (.type "BaseException")=true) (hm:(Value.ref C :: bm).contains (.ref C')=b)
    (k:Q b ⟨h,g,d,t,os⟩):wpAny M A (excMatches (.ref e) (.ref C')) Q E ⟨h,g,d,t,os⟩:=by
  have mB:(Value.ref C' :: bm').contains (.type "BaseException")=true:=by rw [List.contains_cons,bB,Bool.or_true]
  have nt:=tc_notTuple
  unfold excMatches
  repeat (first | (with_reducible refine wpAny_loadPart_at ge ?_; rw [ce]) | with_reducible refine wpAny_loadPart_at gC' ?_ | (with_reducible refine wpAny_isSubtype_exc gC' ?_; rw [mB]) | (with_reducible refine wpAny_isSubtype_exc gC ?_; rw [hm]) | wp_step)
  cases b <;> (wp_walk; exact k)
end
end XL
namespace L2
open PySem PySem.Spec PyProof.Rows XL
variable {q0:Bool}
abbrev Cx.tryc (X:Cx) (pins:List (Addr × Obj)) (xe:Value→Shared→Prop):Cx:={ X with xe:=xe,pn:=X.pn ++ pins }
abbrev Cx.hand (X:Cx) (e:Addr):Cx:={ X with A:=X.A.mark (some (.ref e)),calm:=false,xe:=fun _ _=>False }
section
variable {X:Cx} {pins:List (Addr × Obj)} {σ:St} {H:Hp} {s:Shared}
theorem Cx.Ok.tryc (ok:X.Ok) (pins:List (Addr × Obj)) (xe:Value→Shared→Prop):(X.tryc pins xe).Ok :=
 ⟨ok.mod,ok.kind,ok.glob,ok.blt,ok.above,ok.inj,ok.has,ok.cab,ok.hd,ok.frames,ok.stk,ok.exf,ok.bs,ok.bsz,ok.noex,ok.exfs,ok.funs,ok.frf⟩
theorem Cx.Ok.untryc {xe:Value→Shared→Prop} (ok:(X.tryc pins xe).Ok):X.Ok :=
 ⟨ok.mod,ok.kind,ok.glob,ok.blt,ok.above,ok.inj,ok.has,ok.cab,ok.hd,ok.frames,ok.stk,ok.exf,ok.bs,ok.bsz,ok.noex,ok.exfs,ok.funs,ok.frf⟩
theorem Cx.Ok.hand (ok:X.Ok) (e:Addr):(X.hand e).Ok :=
 ⟨ok.mod,ok.kind,ok.glob,ok.blt,ok.above,ok.inj,ok.has,ok.cab,(fun z=>nomatch z),ok.frames,ok.stk,ok.exf,ok.bs,ok.bsz,ok.noex,ok.exfs,ok.funs,ok.frf⟩
theorem Inv.tryc (I:Inv X pins σ H s) (xe:Value→Shared→Prop):Inv (X.tryc pins xe) [] σ H s :=
 ⟨I.ok.tryc pins xe,I.os,I.bare,I.base,I.loc,I.cell,I.free,I.freeC,fun p hp=>I.pin p (by simpa using hp),I.hok,I.len⟩
theorem Inv.untryc {xe:Value→Shared→Prop} {pl:List (Addr × Obj)} (I:Inv (X.tryc pins xe) pl σ H s):Inv X pins σ H s :=
 ⟨I.ok.untryc,I.os,I.bare,I.base,I.loc,I.cell,I.free,I.freeC,fun p hp=>I.pin p (List.mem_append_left _ hp),I.hok,I.len⟩
theorem Inv.hand (I:Inv X pins σ H s) (e:Addr):Inv (X.hand e) pins σ H s :=
 ⟨I.ok.hand e,I.os,I.bare,I.base,I.loc,I.cell,I.free,I.freeC,I.pin,I.hok,I.len⟩
theorem Inv.unhand {e:Addr} (ok:X.Ok) (I:Inv (X.hand e) pins σ H s):Inv X pins σ H s :=
 ⟨ok,I.os,I.bare,I.base,I.loc,I.cell,I.free,I.freeC,I.pin,I.hok,I.len⟩
theorem Inv.gone {h':Heap} {m m':Str→Option Value} {n:Str} {j t':Nat} (I:Inv X pins σ H s) (hN:X.N.Nodup) (hj:X.N[j]?=some n) (hl:X.env.scope.names.lookup n=some .local)
    (hm:s.heap.Ns X.env.locals m) (hv:∀ (i:Nat) (x:Str) (v:V),X.N[i]?=some x→σ[i]?=some (some v)→Vis X.env.scope x→∃ u,RelV v u∧Look X.env s.heap m x u)
    (n':h'.Ns X.env.locals m') (e':∀ y,y≠n→m' y=m y) (sb:Heap.SameBut X.env.locals s.heap h'):Inv X pins (σ.set j none) H { s with heap:=h',toks:=t' }:=by
  have kp:∀ b o,b≠X.env.locals→s.heap.get? b=some o→h'.get? b=some o:=fun b o nb g=>(sb.2 b nb).trans g
  have neL:∀ b o,X.s₀.heap.get? b=some o→b≠X.env.locals:=fun b o e=>Nat.ne_of_lt (Nat.lt_of_lt_of_le (Heap.lt_size e) I.ok.above)
  have trk:∀ b u,H b=some u→b≠X.env.locals:=fun b u hb z=>by rw [z,I.free] at hb; cases hb
  refine ⟨I.ok,I.os,I.bare,⟨fun b o e n hb hx=>kp b o (neL b o e) (I.base.keep b o e n hb hx),fun b o e n hb hx=>?_,fun b o e n hx=>I.base.free b o e n hx,fun b o e hx=>?_,I.base.tups,I.base.frzs,I.base.tbls⟩,
    ⟨m',n',fun i x v e1 e2 e3=>?_⟩,fun x c e=>?_,I.free,I.freeC,fun p hp=>?_,fun b u hb=>?_,by rw [List.length_set]; exact I.len⟩
  · obtain ⟨sl,q⟩:=I.base.slot b o e n hb hx
    exact ⟨sl,kp b _ (neL b o e) q⟩
  · obtain ⟨o',q⟩:=I.base.there b o e hx
    exact ⟨o',kp b o' (neL b o e) q⟩
  · have nij:i≠j:=fun z=>by
      subst z
      have hl2:i < σ.length:=by rw [I.len]; exact (List.getElem?_eq_some_iff.mp hj).1
      rw [List.getElem?_set_self hl2] at e2
      cases e2
    rw [List.getElem?_set_ne (Ne.symm nij)] at e2
    have nx:x≠n:=fun z=>nij (xfu hN e1 (by rw [z]; exact hj))
    obtain ⟨u,r,l⟩:=hv i x v e1 e2 e3
    refine ⟨u,r,?_⟩
    rcases l with ⟨k,z⟩ | ⟨k,c,e,o,ho,hd⟩
    · exact .inl ⟨k,by rw [e' x nx]; exact z⟩
    · exact .inr ⟨k,c,e,o,kp c o (I.cne x c e) ho,hd⟩
  · obtain ⟨v,o,ho,hd⟩:=I.cell x c e
    exact ⟨v,o,kp c o (I.cne x c e) ho,hd⟩
  · obtain ⟨e,a,ne,nf,d⟩:=I.pin p hp
    exact ⟨kp p.1 p.2 ne e,a,ne,nf,d⟩
  · refine (I.hok b u hb).stay (fun c v hc q=>?_) (fun c q=>q) fun c xs q=>q
    rcases hc with rfl | hc
    · exact kp c v (trk c u hb) q
    · exact kp c v (trk c _ hc) q
end
def endH (D:Ends) (j:Nat):Ends:={ nx:=fun σ H=>D.nx (σ.set j none) H,rt:=D.rt,bk:=fun σ H=>D.bk (σ.set j none) H,ct:=fun σ H=>D.ct (σ.set j none) H }
def tTry (K:PySem.W.Frag) (C0:Addr) (j:Nat) (E:St→XK) (tb th:TS):TS:=fun D σ H=>tb D σ H∧∀ σ' e C H',E σ' e C H'→xan K C=true∧PySem.W.mroIn K C (.ref C0)=some true∧th (endH D j) (σ'.set j (some (.ref e))) H'
section
variable {X:Cx} {pos np hpos:Pos} {body hbody:List Stmt} {b0:Stmt} {cx n:Str} {C0:Addr} {j:Nat} {E:St→XK} {tb th:TS}
theorem xog (hg:Gl X cx) (hm:X.mg cx=some (.ref C0)) (mk0:xan X.K C0=true) (hN:X.N.Nodup) (hj:X.N[j]?=some n) (hl:X.env.scope.names.lookup n=some .local) (hf:X.env.frame=some X.env.locals) (hst:X.stack=X.env :: X.outer)
    (hb:∀ pins xe,xfi (X.tryc pins xe) E→PSs (X.tryc pins xe) body tb) (hh:∀ e,PSs (X.hand e) (b0 :: hbody) th) (hdb:(cx == ("__debug__":Str))=false:=by decide) :
    PS X (.Try body [.ExceptHandler (some (.Name cx np)) (some n) (b0 :: hbody) hpos] [] [] pos) (tTry X.K C0 j E tb th):=by
  intro pins s σ H D I ⟨h1,h2⟩
  refine wpAny_Try_except ?_
  have ok:=I.ok
  have T:xfi (X.tryc pins (fun e s₁=>wpAny (model X.prog X.w) X.A (noteFrame e X.env) (fun _ s₂=>wpAny (model X.prog X.w) X.A (setFlight e none) (fun _ s₃=>wpAny (model X.prog X.w) X.A (handleBy e X.env [.ExceptHandler (some (.Name cx np)) (some n) (b0 :: hbody) hpos]) (SP X pins D) X.xe s₃) X.xe s₂) X.xe s₁)) E:=by
    intro pl σ' H' s' e C od tb' I' x he tbs q
    have J:=I'.untryc
    have tbs':Tbs X pins H' tb':=fun T z=>by
      obtain ⟨a1,a2,a3,a4,a5⟩:=tbs T z
      exact ⟨a1,a2,a3,a4,fun p hp=>a5 p (List.mem_append_left _ hp)⟩
    obtain ⟨mkC,mro,hth⟩:=h2 σ' e C H' q
    have fr:X.A.frames=some (X.env :: X.outer):=by rw [← hst]; exact J.ok.frames
    have ff:s'.heap.FunFrames X.base (X.env :: X.outer):=by rw [← hst]; exact J.stack
    refine xkk (L:=X.env.locals) fr ff hf x fun h' T st sT x'=>?_
    rw [← hst] at st
    have J2:=J.noted he tbs' st x'
    have fr2:X.base.objs.size≤s'.heap.objs.size:=Nat.le_trans J.ok.bsz J.sz
    have ff2:h'.FunFrames X.base X.stack:=J2.stack
    have nT:∀ b ∈ frs X.stack,b≠T:=fun b hb z=>by
      obtain ⟨_,o,ho,hnf⟩:=J.stack.mem hb
      rw [z] at ho
      exact absurd (Heap.lt_size ho) (Nat.not_lt.mpr sT)
    have fresh:=J.size_lt sT
    have tbs2:Tbs X pins H' (some T):=fun T' z=>by
      cases z
      exact ⟨Nat.le_trans J.sz sT,fresh.1,fresh.2.1,fresh.2.2.1,fresh.2.2.2⟩
    obtain ⟨nm,qn,N,bs,bm,hz,sn,sub,ab,col,dd,k0,k1,k2,k3,k5,gC,TC⟩:=xe7 J2.kIn mkC
    obtain ⟨nm',qn',N',bs',bm',hz',sn',sub',ab',col',dd',j0,j1,j2,j3,j5,gC0,TC0⟩:=xe7 J2.kIn mk0
    refine wpAny_handleBy_cons (codeAny_handlers_test (xdj (X:=X.hand e) (J2.hand e) hg hm ?_ hdb)) (by intro z; cases z)
    obtain ⟨oe,_,ge,ce,_⟩:=id x'
    have hmr:(Value.ref C :: bm).contains (.ref C0)=true:=by
      obtain ⟨cd,e1,e2⟩:=Option.bind_eq_some_iff.mp mro
      have e3:(Value.ref C :: bm)=cd.mro:=by
        unfold PySem.W.clsIn at e1
        split at e1
        · rename_i c1 d1 cd1 sl1 ho
          cases e1
          have z:=(J2.kIn _ _ ho).symm.trans gC
          injection z with z
          injection z with _ _ z _
          injection z with z
          rw [z]
        · cases e1
      rw [e3]
      split at e2
      · cases e2
      · exact Option.some.inj e2
    refine xir (M:=model X.prog X.w) gC gC0 ge ce (xha TC0) hmr ?_
    show codeAny _ _ _ _ _
    refine codeAny_handlers_suite_as (xl7 (fs:=frs X.stack) x' nT fun h3 st3 x3=>?_)
    have J3:Inv X pins σ' H' { s' with heap:=h3 }:=J2.noted he tbs2 st3 x3
    refine xfw (v:=V.ref e) J3 hN hj (.inl hl) rfl (fun s4 J4=>?_) (.inr hl)
    refine wpAny_mono (hh e pins s4 _ H' _ (J4.hand e) hth) (fun f s5 q5=>?_) fun _ _ z=>z.elim
    have fin:∀ {σ5:St} {H5:Hp} {Q:Unit→Shared→Prop},Inv (X.hand e) pins σ5 H5 s5→(∀ s6,Inv X pins (σ5.set j none) H5 s6→Q () s6) →
        wpAny (model X.prog X.w) X.A (do bindName X.env n Value.none; unbindBehindTheSuite X.env n hpos) Q X.xe s5:=fun {σ5 H5 Q} K5 kq=>by
      have K6:Inv X pins σ5 H5 s5:=Inv.unhand ok K5
      obtain ⟨m,hm5,hv5⟩:=K6.loc
      refine xk6 (show X.env.kindOf n=some .local from hl) hm5 (by simp [ok.kind]) fun h6 m6 n6 e6 s6=>kq _ (K6.gone hN hj hl hm5 hv5 n6 e6 s6)
    cases f with
    | next =>
      obtain ⟨σ5,H5,K5,z⟩:=q5
      exact fin K5 fun s6 K6=>⟨_,H5,K6,z⟩
    | brk =>
      obtain ⟨σ5,H5,K5,z⟩:=q5
      exact fin K5 fun s6 K6=>⟨_,H5,K6,z⟩
    | cont =>
      obtain ⟨σ5,H5,K5,z⟩:=q5
      exact fin K5 fun s6 K6=>⟨_,H5,K6,z⟩
    | ret u =>
      obtain ⟨v,σ5,H5,K5,r,z⟩:=q5
      exact fin K5 fun s6 K6=>⟨v,_,H5,K6,r,z⟩
  refine wpAny_mono (hb pins _ T [] s σ H D (I.tryc _) h1) (fun f s1 q=>?_) fun u s1 q=>q
  cases f with
  | next =>
    obtain ⟨σ',H',J,z⟩:=q
    exact wpAny_execs_nil ⟨σ',H',J.untryc,z⟩
  | brk =>
    obtain ⟨σ',H',J,z⟩:=q
    exact ⟨σ',H',J.untryc,z⟩
  | cont =>
    obtain ⟨σ',H',J,z⟩:=q
    exact ⟨σ',H',J.untryc,z⟩
  | ret u =>
    obtain ⟨v,σ',H',J,r,z⟩:=q
    exact ⟨v,σ',H',J.untryc,r,z⟩
end
end L2
set_option maxRecDepth 100000
namespace XL
open PySem PySem.W
theorem xks {K:Frag} {x C:Addr} (c:XC K C):KitX K (.ref x) (.ref C) (fun h=>∃ ox od,InstAt h x ox C od) where
 ty:=fun _ _ _ ⟨_,_,I⟩=>I.type
 it:=fun _ _ X _=>by
  obtain ⟨cd,hc,_,_⟩:=c.mro
  unfold clsIn at hc
  split at hc
  ·rename_i c' d' cd' sl' ho
   intro A' Q' E' s' k q
   unfold isType loadHead
   exact wpAny_bind (wpAny_loadPart (k _ _ (X _ _ ho)) (wpAny_pure q))
  ·cases hc
 ne:=fun h tp dd its n sl X htp=>by
  obtain ⟨cd,hc,_,_⟩:=c.mro
  refine Bool.eq_false_iff.mpr fun q=>?_
  have e:C=tp:=Value.ref.inj (beq_iff_eq.mp q)
  subst e
  unfold clsIn at hc
  split at hc
  ·rename_i c' d' cd' sl' ho
   have z:=(X _ _ ho).symm.trans htp
   cases z
  ·cases hc
 ca:=fun X ⟨ox,od,I⟩ k=>xma X c I k
end XL
namespace L2
open PySem PySem.Spec PyProof.Rows XL
variable {q0:Bool}
def clsV:V→Option Value
 | .ty n=>some (.type n)
 | .ref a=>some (.ref a)
 | _=>none
theorem xfp {c:V} {u cv:Value} (e:clsV c=some cv) (r:RelV c u):u=cv:=by
 cases c <;> first | (cases e; exact r) | cases e
def xj7:List V→Option (List Value)
 | []=>some []
 | c :: r=>(clsV c).bind fun a=>(xj7 r).map (a :: ·)
theorem xg7:∀ {cs:List V} {us cv:List Value},xj7 cs=some cv→Vals cs us→us=cv
 | [],_,_,e,.nil=>by cases e; rfl
 | c :: r,_,_,e,.cons rc rr=>by
  obtain ⟨a,e1,e2⟩:=Option.bind_eq_some_iff.mp e
  obtain ⟨b,e3,rfl⟩:=Option.map_eq_some_iff.mp e2
  rw [xfp e1 rc,xg7 e3 rr]
section
variable {X:Cx} {pins:List (Addr × Obj)} {σ:St} {H:Hp} {s:Shared} {A:Around} {E:Value→Shared→Prop} {Q:Value→Shared→Prop}
theorem xjb {a C:Addr} {od:Option Addr} (I:Inv X pins σ H s) (h:H a=some (XO a C od)) (hd:∀ d,od=some d→∃ o,s.heap.get? d=some o):∃ ox odx,PySem.W.InstAt s.heap a ox C odx:=by
 obtain ⟨ox,vs,g,ce,oo,de⟩:=xmt I h
 cases e:od with
 | none=>exact ⟨ox,none,g,ce,xdk de,by rw [oo,e]; trivial⟩
 | some d =>
  obtain ⟨o,go⟩:=hd d e
  exact ⟨ox,some o,g,ce,xdk de,by rw [oo,e]; exact go⟩
end
def xp7 (K:PySem.W.Frag):List V→Hp→VK→Prop:=fun xs H Q=>∃ x c,xs=[x,c]∧((∃ t cv b,TyOf K H x t∧clsV c=some cv∧PySem.W.kitOne K t cv=some b∧Q (.bl b) H) ∨
 (∃ a C od cv b,x=.ref a∧H a=some (XO a C od)∧(∀ d,od=some d→∃ fs,H d=some (XD d fs))∧XC K C∧clsV c=some cv∧PySem.W.kitOne K (.ref C) cv=some b∧Q (.bl b) H) ∨
 (∃ a C od p cs cv b,x=.ref a∧H a=some (XO a C od)∧(∀ d,od=some d→∃ fs,H d=some (XD d fs))∧XC K C∧c=.ref p∧SqT K H p cs∧xj7 cs=some cv∧PySem.W.kitAny K (.ref C) cv=some b∧Q (.bl b) H))
section
variable {X:Cx}
theorem xax:xct X (.builtin "isinstance") (xp7 X.K):=by
 intro pins s σ H us xs Q I r h
 obtain ⟨x,c,rfl,h⟩:=h
 obtain ⟨u,v,rfl,ru,rv⟩:=xml r
 rcases h with ⟨t,cv,b,ty,ec,ek,q⟩ | ⟨a,C,od,cv,b,rfl,ha,hd,xc,ec,ek,q⟩ | ⟨a,C,od,p,cs,cv,b,rfl,ha,hd,xc,rfl,hp,ec,ek,q⟩
 ·obtain rfl:=xfp ec rv
  exact xk2 I ru ty ek fun tk=>⟨.bl b,H,I.tok tk,rfl,q⟩
 ·obtain rfl:=xfp ec rv
  obtain rfl:u=Value.ref a:=ru
  refine PySem.W.kia_one (xks xc) I.kIn (xjb I ha fun d e=>?_) ek (fun z=>nomatch z) fun tk=>⟨.bl b,H,I.tok tk,rfl,q⟩
  obtain ⟨fs,hw⟩:=hd d e
  obtain ⟨_,_,⟨o,_,_,go,_⟩,_⟩:=xhk I hw
  exact ⟨o,go⟩
 ·obtain rfl:u=Value.ref a:=ru
  obtain rfl:v=Value.ref p:=rv
  obtain ⟨its,vi,it,_⟩:=I.tuple hp
  obtain rfl:=xg7 ec vi
  obtain ⟨o,g,oc,n,od'⟩:=it
  obtain ⟨c1,d1,dt1,sl1⟩:=o
  dsimp only at oc od'
  subst oc od'
  refine PySem.W.kia_tup (xks xc) I.kIn (xjb I ha fun d e=>?_) g ek (fun z=>nomatch z) fun tk=>⟨.bl b,H,I.tok tk,rfl,q⟩
  obtain ⟨fs,hw⟩:=hd d e
  obtain ⟨_,_,⟨o,_,_,go,_⟩,_⟩:=xhk I hw
  exact ⟨o,go⟩
end
end L2
set_option maxRecDepth 100000
namespace L2
open PySem PySem.Spec PyProof.Rows XL
variable {q0:Bool}
def xcn (scope:Scope):List Str:=(scope.names.filter fun x=>x.2 == .free).map (·.1)
def Cx.clo (X:Cx) (scope:Scope):List (Str × Addr):=(xcn scope).reverse.map fun n=>(n,(X.env.cells.lookup n).getD 0)
theorem xgk {env:Env} {f:Str→Addr}:∀ (l:List (Str × NameKind)) (acc:List (Str × Addr)),(∀ x ∈ l,x.2=.free→env.cells.lookup x.1=some (f x.1)) →
    (forIn l acc fun x cs=>(if x.2 == .free then do let c ← cellOf env x.1; pure (ForInStep.yield ((x.1,c) :: cs)) else pure (ForInStep.yield cs):Sem (ForInStep (List (Str × Addr))))) =
      pure ((((l.filter fun x=>x.2 == .free).map (·.1)).reverse.map fun n=>(n,f n)) ++ acc)
  | [],acc,_=>rfl
  | x :: r,acc,h=>by
    have ih:=fun a=>xgk r a fun y hy=>h y (List.mem_cons_of_mem _ hy)
    rw [List.forIn_cons]
    by_cases q:x.2=.free
    · have e:=h x List.mem_cons_self q
      have qb:(x.2 == NameKind.free)=true:=by rw [q]; rfl
      rw [if_pos qb,List.filter_cons,if_pos qb]
      have ec:cellOf env x.1=pure (f x.1):=by unfold cellOf; rw [e]
      rw [ec]
      simp only [pure_bind]
      rw [ih]
      simp
    · have qb:(x.2 == NameKind.free)=false:=by simpa using q
      rw [if_neg (by rw [qb]; decide),List.filter_cons,if_neg (by rw [qb]; decide)]
      simp only [pure_bind]
      rw [ih]
theorem xle {X:Cx} {scope:Scope} (h:∀ n ∈ xcn scope,∃ c,X.env.cells.lookup n=some c):closureFor scope X.env=pure (X.clo scope):=by
 unfold closureFor
 have z:=xgk (env:=X.env) (f:=fun n=>(X.env.cells.lookup n).getD 0) scope.names [] fun x hx hf=>by
  obtain ⟨c,e⟩:=h x.1 (List.mem_map.mpr ⟨x,List.mem_filter.mpr ⟨hx,by simp [hf]⟩,rfl⟩)
  rw [e]
  rfl
 rw [List.append_nil] at z
 refine (bind_pure (m:=Sem) _).trans ?_
 exact z
theorem xnh {X:Cx} {scope:Scope} {n:Str} {c:Addr} (h:(X.clo scope).lookup n=some c):n ∈ xcn scope∧c=(X.env.cells.lookup n).getD 0:=by
 have z:=PySem.mem_of_lookup h
 unfold Cx.clo at z
 obtain ⟨y,hy,e⟩:=List.mem_map.mp z
 injection e with e1 e2
 subst e1
 exact ⟨List.mem_reverse.mp hy,e2.symm⟩
theorem xdu {f:Str→Addr} {n:Str}:∀ {l:List Str},n ∈ l→(l.map fun y=>(y,f y)).lookup n=some (f n)
 | [],h=>by simp at h
 | y :: r,h=>by
  rw [List.map_cons,List.lookup_cons]
  by_cases q:n=y
  ·subst q
   simp
  ·rw [show (n == y)=false from by simpa using q]
   exact xdu ((List.mem_cons.mp h).resolve_left q)
theorem xjq {X:Cx} {scope:Scope} {n:Str} {c:Addr} (hn:n ∈ xcn scope) (h:X.env.cells.lookup n=some c):(X.clo scope).lookup n=some c:=by
 have z:=xdu (f:=fun n=>(X.env.cells.lookup n).getD 0) (List.mem_reverse.mpr hn)
 unfold Cx.clo
 rw [z,h]
 rfl
section
variable {X:Cx} {pins:List (Addr × Obj)} {σ:St} {H:Hp} {s:Shared} {scope:Scope} {x:Str} {ys:List Str} {fr:List Nat} {fp:List Addr}
end
section
variable {X:Cx} {pins:List (Addr × Obj)} {σ:St} {H:Hp} {s:Shared} {scope:Scope} {x:Str} {ys:List Str} {fr:List Nat} {fp:List Addr}
end
def xfl:TT:=fun _ H Q=>Q true H
def PIf (X:Cx) (ifs:List Expr) (t:TT):Prop :=
 ∀ (pins:List (Addr × Obj)) (s:Shared) (σ:St) (H:Hp) (Q:Bool→Hp→Prop),Inv X pins σ H s→t σ H Q →
  wpAny (model X.prog X.w) X.A (forIn ifs true fun c r=>if r=true then do let ok ← isTrue c X.env (eval c X.env); pure (ForInStep.yield ok) else pure (ForInStep.yield r)) (TP X pins σ Q) X.xe s
theorem xbz {X:Cx}:PIf X [] xfl:=fun pins s σ H Q I h=>wpAny_pure ⟨H,I,h⟩
theorem xdi {X:Cx} {c:Expr} {t:TT} (hc:PT X c t):PIf X [c] t:=fun pins s σ H Q I h=>by
 rw [List.forIn_cons]
 refine wpAny_bind ?_
 rw [if_pos rfl]
 refine wpAny_bind (wpAny_mono (hc pins s σ H Q I h) (fun b s1 q=>wpAny_pure ?_) fun _ _ z=>z)
 exact wpAny_pure q
section
variable {X:Cx} {scope:Scope} {x:Str} {ys:List Str} {fr:List Nat} {elt iter:Expr} {ifs:List Expr} {px pos:Pos} {wi:TI} {tc:TT} {te:TE}
end
end L2
set_option maxRecDepth 100000
namespace L2
open PySem PySem.Spec PyProof.Rows XL
variable {q0:Bool}
theorem xkx {env:Env} {scope:Scope} (nc:∀ y ∈ scope.names,y.2≠.cell) (n:Str) (h:(relabel scope env).names.lookup n=some .cell∨(relabel scope env).names.lookup n=some .free):n ∈ xcn scope:=by
 have key:∀ k,(relabel scope env).names.lookup n=some k→(k=.cell∨k=.free)→n ∈ xcn scope:=fun k e hk=>by
  obtain ⟨y,hy,ey⟩:=List.mem_map.mp (PySem.mem_of_lookup e)
  obtain ⟨m,j⟩:=y
  dsimp only at ey
  split at ey
  ·rename_i q
   injection ey with e1 e2
   subst e1
   have:j=.free:=by
    simp only [Bool.and_eq_true,beq_iff_eq] at q
    exact q.1.1
   subst this
   exact List.mem_map.mpr ⟨_,List.mem_filter.mpr ⟨hy,by simp⟩,rfl⟩
  ·injection ey with e1 e2
   subst e1 e2
   rcases hk with z | z
   ·exact absurd z (nc _ hy)
   ·subst z
    exact List.mem_map.mpr ⟨_,List.mem_filter.mpr ⟨hy,by simp⟩,rfl⟩
 rcases h with h | h
 ·exact key _ h (.inl rfl)
 ·exact key _ h (.inr rfl)
theorem xjv {env:Env} {scope:Scope} {n:Str} (h:scope.names.lookup n=some .free):(relabel scope env).names.lookup n=some .cell∨(relabel scope env).names.lookup n=some .free:=by
  have key:∀ (l:List (Str × NameKind)),l.lookup n=some .free→(l.map fun (m,k)=>if (k == NameKind.free && env.scope.kind == .function && env.kindOf m == some .cell) then (m,NameKind.cell) else (m,k)).lookup n=some .cell ∨
      (l.map fun (m,k)=>if (k == NameKind.free && env.scope.kind == .function && env.kindOf m == some .cell) then (m,NameKind.cell) else (m,k)).lookup n=some .free:=fun l=>by
    induction l with
    | nil=>intro e; simp at e
    | cons y r ih =>
      intro e
      obtain ⟨m,k⟩:=y
      rw [List.map_cons]
      rw [List.lookup_cons] at e
      cases q:n == m with
      | true =>
        rw [q] at e
        cases e
        dsimp only
        split
        · left; rw [List.lookup_cons,q]
        · right; rw [List.lookup_cons,q]
      | false =>
        rw [q] at e
        have z:=ih e
        dsimp only
        split <;> (rw [List.lookup_cons,q]; exact z)
  exact key _ h
section
variable {P:Program} {w:World} {K:PySem.W.Frag} {mg:Str→Option Value} {base:Heap}
theorem Fun.okx {x qual:Str} {st:Stmt} {f:Addr} {fd:FuncData} {N ps:List Str} {k:Nat} {sp:Sp} (F:Fun K x qual st f fd) (S:x9 N ps (xj st)) (len:∀ vs H Q E,sp vs H Q E→vs.length=ps.length)
    (hbody:∀ (cdv:Value) (A:Around) (outer:List Env) (s:Shared) (H:Hp) (vs:List V) (Q:VK) (E:XK),Room q0 k (A.deeper (envOfC qual (xj st) s.heap.objs.size f cdv))→sp vs H Q E →
      ∃ t,PSs (cxOf q0 (CXo P w) P w K mg base N qual (xj st) f cdv A outer s H E) (xz st) t∧t { nx:=fun _ H'=>Q .non H',rt:=Q } (xce N vs) H):FnOk q0 P w K mg base (CXo P w) (k + 1) f fd ps sp:=by
  obtain ⟨oc,od,kV,doc,pm,an,cdv,ct,osl,rfl,lk,hcd⟩:=F.ex
  exact xf5 lk hcd S len fun A outer s H vs Q E hr hsp=>hbody cdv A outer s H vs Q E hr hsp
theorem Fun.okn {x qual:Str} {st:Stmt} {f:Addr} {fd:FuncData} {N ps:List Str} {k:Nat} {sp:Sp} (F:Fun K x qual st f fd) (S:x9 N ps (xj st)) (len:∀ vs H Q E,sp vs H Q E→vs.length=ps.length)
    (hbody:∀ (cdv:Value) (A:Around) (outer:List Env) (s:Shared) (H:Hp) (vs:List V) (Q:VK) (E:XK),Room q0 k (A.deeper (envOfC qual (xj st) s.heap.objs.size f cdv))→sp vs H Q E →
      ∃ t,PSs (cxOf q0 (CXo P w) P w K mg base N qual (xj st) f cdv A outer s H E).nox (xz st) t∧t { nx:=fun _ H'=>Q .non H',rt:=Q } (xce N vs) H):FnOk q0 P w K mg base (CXo P w) (k + 1) f fd ps sp:=by
  obtain ⟨oc,od,kV,doc,pm,an,cdv,ct,osl,rfl,lk,hcd⟩:=F.ex
  refine xf5 lk hcd S len fun A outer s H vs Q E hr hsp=>?_
  obtain ⟨t,h,q⟩:=hbody cdv A outer s H vs Q E hr hsp
  exact ⟨t,h.nox,q⟩
end
end L2
set_option maxRecDepth 100000
namespace L2
open PySem PySem.Spec PyProof.Rows XL
theorem ifP {b:Bool} {A B:Prop} (h:b=true) (q:A):if b=true then A else B:=by
 rw [if_pos h]
 exact q
theorem ifN {b:Bool} {A B:Prop} (h:b=false) (q:B):if b=true then A else B:=by
 rw [if_neg (by rw [h]; decide)]
 exact q
end L2
set_option maxRecDepth 100000
namespace L2
open PySem PySem.Spec PyProof.Rows XL
section
variable {X:Cx}
theorem xhh:OpR X (compareOp .LtE) (fun x y H Q=>∃ i j,x=.str i∧y=.str j∧Q (.bl (!decide (j.cps.toList < i.cps.toList))) H):=by
 intro pins s σ H x y v u Q I rx ry h
 obtain ⟨i,j,rfl,rfl,q⟩:=h
 obtain ⟨t,rfl⟩:=rx
 obtain ⟨t',rfl⟩:=ry
 exact PySem.P.le_str (xaw I q rfl)
end
end L2
set_option maxRecDepth 100000
namespace L2
open PySem PySem.Spec PyProof.Rows
variable {q0:Bool}
section
variable {X:Cx}
end
end L2
set_option maxRecDepth 100000
namespace L2
open PySem PySem.Spec PyProof.Rows
variable {q0:Bool}
structure FunD (K:PySem.W.Frag) (x qual:Str) (st:Stmt) (T f:Addr) (fd:FuncData):Prop where
 ex:∃ (oc:Value) (od:Option Addr) (kV doc pm:Value) (an:Option Addr) (cdv ct:Value) (osl:Array (Option Value)),
  fd=PySem.W.fnOf x qual (x5 st) (xz st) (xj st) (.ref T) kV doc pm an cdv ct∧K.lookup f=some ⟨oc,od,.func fd,osl⟩∧PySem.W.codeIn K cdv qual=true
 kp:PySem.W.keepIn K (.ref f)=true
section
variable {P:Program} {w:World} {K:PySem.W.Frag} {mg:Str→Option Value} {base:Heap}
theorem FunD.okx {x qual:Str} {st:Stmt} {T f:Addr} {fd:FuncData} {N ps:List Str} {k:Nat} {sp:Sp} (F:FunD K x qual st T f fd) (S:x9 N ps (xj st)) (len:∀ vs H Q E,sp vs H Q E→vs.length=ps.length)
    (hbody:∀ (cdv:Value) (A:Around) (outer:List Env) (s:Shared) (H:Hp) (vs:List V) (Q:VK) (E:XK),Room q0 k (A.deeper (envOfC qual (xj st) s.heap.objs.size f cdv))→sp vs H Q E →
      ∃ t,PSs (cxOf q0 (CXo P w) P w K mg base N qual (xj st) f cdv A outer s H E) (xz st) t∧t { nx:=fun _ H'=>Q .non H',rt:=Q } (xce N vs) H):FnOk q0 P w K mg base (CXo P w) (k + 1) f fd ps sp:=by
  obtain ⟨oc,od,kV,doc,pm,an,cdv,ct,osl,rfl,lk,hcd⟩:=F.ex
  exact xf5 lk hcd S len fun A outer s H vs Q E hr hsp=>hbody cdv A outer s H vs Q E hr hsp
theorem FunD.okn {x qual:Str} {st:Stmt} {T f:Addr} {fd:FuncData} {N ps:List Str} {k:Nat} {sp:Sp} (F:FunD K x qual st T f fd) (S:x9 N ps (xj st)) (len:∀ vs H Q E,sp vs H Q E→vs.length=ps.length)
    (hbody:∀ (cdv:Value) (A:Around) (outer:List Env) (s:Shared) (H:Hp) (vs:List V) (Q:VK) (E:XK),Room q0 k (A.deeper (envOfC qual (xj st) s.heap.objs.size f cdv))→sp vs H Q E →
      ∃ t,PSs (cxOf q0 (CXo P w) P w K mg base N qual (xj st) f cdv A outer s H E).nox (xz st) t∧t { nx:=fun _ H'=>Q .non H',rt:=Q } (xce N vs) H):FnOk q0 P w K mg base (CXo P w) (k + 1) f fd ps sp:=by
  obtain ⟨oc,od,kV,doc,pm,an,cdv,ct,osl,rfl,lk,hcd⟩:=F.ex
  refine xf5 lk hcd S len fun A outer s H vs Q E hr hsp=>?_
  obtain ⟨t,h,q⟩:=hbody cdv A outer s H vs Q E hr hsp
  exact ⟨t,h.nox,q⟩
theorem FunD.binds {x qual:Str} {st:Stmt} {T f:Addr} {fd:FuncData} {ps:List Str} {o:Obj} {items:Array Value} {n:Nat} {ds:List Value} (F:FunD K x qual st T f fd) (ho:K.lookup T=some o) (hs:o.data=.seq items n) (m:Nat) (hm:m + ds.length=ps.length)
    (h:∀ (kV doc pm:Value) (an:Option Addr) (cdv ct:Value) (us:List Value),us.length=m →
      ∃ k,bindArgs (PySem.W.fnOf x qual (x5 st) (xz st) (xj st) (.ref T) kV doc pm an cdv ct) ⟨us,[]⟩=seqItems? (.ref T) >>= k∧k (some items)=pure (ps.zip (us ++ ds))):xag K fd ps ds:=by
  obtain ⟨oc,od,kV,doc,pm,an,cdv,ct,osl,rfl,lk,hcd⟩:=F.ex
  intro s us hK hl
  rw [List.length_append] at hl
  obtain ⟨k,h1,h2⟩:=h kV doc pm an cdv ct us (by omega)
  exact BindsTo.of_defaults rfl (hK _ _ ho) hs h1 h2
theorem xjm {x qual:Str} {st:Stmt} {T f:Addr} {oc:Value} {od an:Option Addr} {osl:Array (Option Value)} {kV doc pm cdv ct:Value} (l:K.lookup f=some ⟨oc,od,.func (PySem.W.fnOf x qual (x5 st) (xz st) (xj st) (.ref T) kV doc pm an cdv ct),osl⟩)
    (c:PySem.W.codeIn K cdv qual=true) (k:PySem.W.keepIn K (.ref f)=true):FunD K x qual st T f (PySem.W.fnOf x qual (x5 st) (xz st) (xj st) (.ref T) kV doc pm an cdv ct):=⟨⟨oc,od,kV,doc,pm,an,cdv,ct,osl,rfl,l,c⟩,k⟩
end
end L2
set_option maxRecDepth 100000
namespace L2
open PySem PySem.Spec PyProof.Rows XL
variable {q0:Bool}
abbrev Cx.blkG (X:Cx) (scope:Scope) (zs:List Str) (ys:List Str) (C:Addr) (ex:List Addr) (s:Shared) (H:Hp) (pn:List (Addr × Obj)):Cx where
 prog:=X.prog
 w:=X.w
 K:=X.K
 mg:=X.mg
 base:=X.base
 A:=X.A
 N:=zs ++ ys
 s₀:=s
 H₀:=H
 env:=compEnvC scope (X.clo scope) C X.env
 outer:=X.stack
 stack:=X.stack
 ex:=ex
 fn:=fun _=>false
 calm:=X.calm
 pn:=pn
 xe:=fun _ _=>False
theorem xgi {prog:Program} {w:World} {A:Around} {R:Result→Shared→Prop} {s:Shared} {elt target iter:Expr} {ifs:List Expr} {scope:Scope} {pos:Pos} {it acc:Value} {env:Env} (I:Nat→Shared→Prop)
    (turn:∀ n s,I n s→wpAny (model prog w) A (pyNext it) (fun r s₁=>match r with
      | none=>R (.ok .next) s₁
      | some v=>wpAny (model prog w) A (letOwnedTupleGo target it v) (fun _ s₀=>wpAny (model prog w) A (assign target env v) (fun _ s₂ =>
          wpAny (model prog w) A (forIn ifs true fun c r=>if r=true then do let ok ← isTrue c env (eval c env); pure (ForInStep.yield ok) else pure (ForInStep.yield r)) (fun ok s₃ =>
            if ok=true then wpAny (model prog w) A (eval elt env) (fun x s₄ =>
              wpAny (model prog w) A (call (.builtin "list.append") [acc,x]) (fun _ s₅=>∃ m,m < n∧I m s₅) (notedBy (model prog w) A env fun e s'=>R (.error e) s') s₄) (notedBy (model prog w) A env fun e s'=>R (.error e) s') s₃
            else ∃ m,m < n∧I m s₃) (notedBy (model prog w) A env fun e s'=>R (.error e) s') s₂) (notedBy (model prog w) A env fun e s'=>R (.error e) s') s₀) (notedBy (model prog w) A env fun e s'=>R (.error e) s') s₁) (notedBy (model prog w) A env fun e s'=>R (.error e) s') s)
    (n:Nat) (h:I n s):codeAny (model prog w) A (.compLoop (.ListComp elt [⟨target,iter,ifs,0⟩] scope pos) 0 it acc env) R s:=by
  refine codeAny_loop rfl I (fun n s hI=>?_) n h
  show wpAny _ A ((compTurn (.ListComp elt [⟨target,iter,ifs,0⟩] scope pos) 0 it acc env).onRaise (fun x=>do noteFrame x env; theTreesLotGoes x)) _ _ s
  refine wpAny_noted ?_
  rw [compTurn_list]
  refine wpAny_bind (wpAny_standAt (wpAny_bind (wpAny_mono (turn n s hI) (fun r s₁ h₁=>?_) fun _ _ h'=>h')))
  cases r with
  | none=>exact wpAny_pure h₁
  | some v =>
    refine wpAny_bind (wpAny_mono h₁ (fun _ s₀ h₀=>wpAny_bind (wpAny_mono h₀ (fun _ s₂ h₂=>wpAny_bind (wpAny_mono h₂ (fun ok s₃ h₃=>?_) fun _ _ h'=>h')) fun _ _ h'=>h')) fun _ _ h'=>h')
    cases ok with
    | false=>exact wpAny_pure ⟨rfl,h₃⟩
    | true =>
      exact wpAny_bind (wpAny_bind (wpAny_mono h₃ (fun x s₄ h₄=>wpAny_bind (wpAny_mono h₄ (fun _ s₅ h₅=>wpAny_pure (wpAny_pure ⟨rfl,h₅⟩)) fun _ _ h'=>h')) fun _ _ h'=>h'))
structure BlkG (X:Cx) (scope:Scope) (zs:List Str) (ys:List Str) (fr:List Nat):Prop where
 kind:scope.kind=.function
 own:∀ x ∈ zs,scope.names.lookup x=some .local
 ncell:∀ y ∈ scope.names,y.2≠.cell
 names:∀ y ∈ scope.names,y.2=.local→scope.names.lookup y.1=some .local
 free:∀ n ∈ xcn scope,X.env.scope.names.lookup n=some .cell
 has:∀ n,((relabel scope X.env).names.lookup n=some .cell∨(relabel scope X.env).names.lookup n=some .free)→n ∈ xcn scope
 slots:fr.map (fun i=>X.N[i]?)=ys.map some
 ysf:∀ y ∈ ys,y ∈ xcn scope
 ysc:∀ y ∈ ys,(relabel scope X.env).names.lookup y=some .cell∨(relabel scope X.env).names.lookup y=some .free
 st:X.stack=X.env :: X.outer
 nd:X.N.Nodup
 ndb:(zs ++ ys).Nodup
def blk0 (σ:St) (fr:List Nat) (n:Nat):St:=List.replicate n none ++ fr.map fun i=>(σ[i]?).join
section
variable {X:Cx} {pins:List (Addr × Obj)} {σ:St} {H:Hp} {s:Shared} {scope:Scope} {zs:List Str} {ys:List Str} {fr:List Nat} {fp:List Addr}
theorem BlkG.cells (B:BlkG X scope zs ys fr) (I:Inv X pins σ H s):∀ n ∈ xcn scope,∃ c,X.env.cells.lookup n=some c:=fun n hn=>I.ok.has n (.inl (B.free n hn))
theorem BlkG.sub (B:BlkG X scope zs ys fr) (I:Inv X pins σ H s) {n:Str} {c:Addr} (h:(X.clo scope).lookup n=some c):X.env.cells.lookup n=some c:=by
 obtain ⟨a,b⟩:=xnh h
 obtain ⟨d,e⟩:=B.cells I n a
 rw [e] at b
 rw [b,e]
 rfl
theorem Inv.blkG {h1:Heap} {m1:Str→Option Value} {t':Nat} (B:BlkG X scope zs ys fr) (I:Inv X pins σ H s) (hf:∀ b ∈ fp,FpOk X pins H b) (hz:∀ b ∈ fp,b < s.heap.objs.size) (n1:h1.Ns s.heap.objs.size m1) (k1:∀ b o,s.heap.get? b=some o→h1.get? b=some o) :
    Inv (X.blkG scope zs ys s.heap.objs.size fp s H (X.pn ++ pins)) [] (blk0 σ fr zs.length) H { s with heap:=h1,toks:=t' }:=by
  have sub:∀ n c,(X.clo scope).lookup n=some c→X.env.cells.lookup n=some c:=fun n c h=>B.sub I h
  have cz:∀ n c,X.env.cells.lookup n=some c→c < s.heap.objs.size:=fun n c e=>by
    obtain ⟨v,o,ho,_⟩:=I.cell n c e
    exact Heap.lt_size ho
  have nfs:∀ b ∈ fp,b ∉ frs X.stack:=fun b hb z=>(List.mem_cons.mp (I.stkSub b z)).elim (hf b hb).2.1 (hf b hb).2.2.1
  have fz:∀ b,b ∈ frs X.stack→b < s.heap.objs.size:=fun b hb=>by
    obtain ⟨_,o,ho,_⟩:=I.stack.mem hb
    exact Heap.lt_size ho
  refine ⟨⟨I.ok.mod,B.kind,I.ok.glob,I.ok.blt,Nat.le_refl _,fun y z c h1 h2=>I.ok.inj y z c (sub y c h1) (sub z c h2),fun y hy=>?_,(fun y c hy _=>nomatch hy),I.ok.hd,I.ok.frames,.inl rfl,fun b hb=>⟨?_,fun y c h=>(hf b hb).2.2.2.2.1 y c (sub y c h)⟩,
      I.bs,Nat.le_trans I.ok.bsz I.sz,fun b o e hb=>?_,fun b hb=>nfs b hb,I.stack,I.stkFree⟩,
    rfl,I.bare,Un.kept k1,⟨m1,n1,fun i y v e1 e2 e3=>?_⟩,fun y c h=>?_,I.hok.fresh (Nat.le_refl _),fun y c h=>I.freeC y c (sub y c h),fun p hp=>?_,I.hok.kept k1,?_⟩
  · obtain ⟨c,e⟩:=B.cells I y (B.has y hy)
    exact ⟨c,xjq (B.has y hy) e⟩
  · exact Nat.ne_of_lt (hz b hb)
  · rcases (hf b hb).2.2.2.1 with z | z
    · exact I.ok.noex b o e z
    · exact absurd (Nat.lt_of_lt_of_le (Heap.lt_size (I.ok.bs b o e).1) z) (Nat.lt_irrefl _)
  · have ln:(List.replicate zs.length (none:Option V)).length=zs.length:=List.length_replicate
    by_cases lt:i < zs.length
    · have e2':(blk0 σ fr zs.length)[i]?=some (some v):=e2
      unfold blk0 at e2'
      rw [List.getElem?_append_left (by rw [ln]; exact lt),List.getElem?_replicate] at e2'
      split at e2' <;> cases e2'
    · obtain ⟨k,rfl⟩:∃ k,i=zs.length + k:=⟨i - zs.length,by omega⟩
      have e2':(fr.map fun i=>(σ[i]?).join)[k]?=some (some v):=by
        have z:(blk0 σ fr zs.length)[zs.length + k]?=some (some v):=e2
        unfold blk0 at z
        rw [List.getElem?_append_right (by rw [ln]; omega),ln] at z
        simpa using z
      have e1':ys[k]?=some y:=by
        have z:(zs ++ ys)[zs.length + k]?=some y:=e1
        rw [List.getElem?_append_right (by omega)] at z
        simpa using z
      rw [List.getElem?_map] at e2'
      obtain ⟨j,hj,ej⟩:=Option.map_eq_some_iff.mp e2'
      have ev:σ[j]?=some (some v):=by
        cases q:σ[j]? with
        | none=>rw [q] at ej; cases ej
        | some w=>rw [q] at ej; exact congrArg some ej
      have eN:X.N[j]?=some y:=by
        have z:=congrArg (fun l=>l[k]?) B.slots
        simp only [List.getElem?_map,hj,e1',Option.map_some] at z
        exact Option.some.inj z
      have my:y ∈ ys:=List.mem_of_getElem? e1'
      obtain ⟨m,_,lk⟩:=I.loc
      obtain ⟨u,r,l⟩:=lk j y v eN ev (.inr (.inl (B.free y (B.ysf y my))))
      refine ⟨u,r,.inr ⟨B.ysc y my,?_⟩⟩
      rcases l with ⟨kk,_⟩ | ⟨_,c,e,o,ho,hd⟩
      · have z:=B.free y (B.ysf y my)
        rw [show X.env.scope.names.lookup y=some .local from kk] at z
        cases z
      · exact ⟨c,xjq (B.ysf y my) e,o,k1 c o ho,hd⟩
  · obtain ⟨v,o,ho,hd⟩:=I.cell y c (sub y c h)
    exact ⟨v,o,k1 c o ho,hd⟩
  · have hp':p ∈ X.pn ++ pins:=by simpa using hp
    obtain ⟨a1,a2,a3,a4,a5⟩:=I.pin p hp'
    exact ⟨k1 _ _ a1,a2,Nat.ne_of_lt (Heap.lt_size a1),fun z=>(List.mem_cons.mp (I.stkSub _ z)).elim a3 a4,a5⟩
  · have z:=congrArg List.length B.slots
    simp only [List.length_map] at z
    simp [blk0,z]
end
section
variable {X:Cx} {pins:List (Addr × Obj)} {σ:St} {H:Hp} {s:Shared} {scope:Scope} {zs:List Str} {ys:List Str} {fr:List Nat} {fp:List Addr}
theorem Inv.unblkG {C:Addr} {s':Shared} {h2:Heap} {σ':St} {H':Hp} {pl:List (Addr × Obj)} (I:Inv X pins σ H s) (hf:∀ b ∈ fp,FpOk X pins H b) (hC:s.heap.objs.size≤C) (J:Inv (X.blkG scope zs ys C fp s H (X.pn ++ pins)) pl σ' H' s') (sb:Heap.SameBut C s'.heap h2) :
    Inv X pins σ H' { s' with heap:=h2 }:=by
  have kp:∀ b o,b≠C→s'.heap.get? b=some o→h2.get? b=some o:=fun b o nb g=>(sb.2 b nb).trans g
  have old:∀ b o,s.heap.get? b=some o→b≠C:=fun b o g=>Nat.ne_of_lt (Nat.lt_of_lt_of_le (Heap.lt_size g) hC)
  have trk:∀ b u,H' b=some u→b≠C:=fun b u hb z=>by
    have f:H' C=none:=J.free
    rw [z,f] at hb
    cases hb
  refine I.call' (s':={ s' with heap:=h2 }) J.os (ch:=fp) ⟨fun b o e n hb hx=>kp b o (old b o e) (J.base.keep b o e n hb hx),fun b o e n hb hx=>?_,fun b o e n hx=>J.base.free b o e n hx,fun b o e hx=>?_,J.base.tups,J.base.frzs,J.base.tbls⟩ (fun b u hb=>?_) J.bare fun b hb=>?_
  · obtain ⟨sl,q⟩:=J.base.slot b o e n hb hx
    exact ⟨sl,kp b _ (old b o e) q⟩
  · obtain ⟨o',q⟩:=J.base.there b o e hx
    exact ⟨o',kp b o' (old b o e) q⟩
  · refine (J.hok b u hb).stay (fun c v hc q=>?_) (fun c q=>q) fun c xs q=>q
    rcases hc with rfl | hc
    · exact kp c v (trk c u hb) q
    · exact kp c v (trk c _ hc) q
  · obtain ⟨_,a1,_,a3,a4,a5⟩:=hf b hb
    exact ⟨a3,a1,a4,a5⟩
end
def GOk (n:Nat) (g:TG):Prop:=∀ v σ H Q,g v σ H Q→g v σ H (fun σ' H'=>Q σ' H'∧σ'.length=σ.length∧∀ i,n≤i→σ'[i]?=σ[i]?)
theorem xb5 {i n:Nat} (h:i < n):GOk n (xfh i):=fun v σ H Q q=>⟨q,by simp,fun j hj=>by rw [List.getElem?_set_ne (by omega)]⟩
def xed (J:It) (n:Nat) (g:TG) (σ:St) (fr:List Nat) (tc:TT) (te:TE) (l:Addr) (H1:Hp) (Q:VK):Prop:=∃ W:Nat→Nat→List V→Hp→Prop,(∃ m,W 0 m [] (upd H1 l (.lst [])))∧∀ i m xs H2,W i m xs H2 →
 (J.stop i H2∧Q (.ref l) H2)∨(J.go i H2∧∀ v H3,J.yld i H2 v H3→g v (blk0 σ fr n) H3 fun σ' H3'=>tc σ' H3' fun b H4=>if b=true then
  (te σ' H4 fun y H5=>H5 l=some (.lst xs)∧xs.length < sizeLine∧∃ m',m' < m∧W (i + 1) m' (xs ++ [y]) (upd H5 l (.lst (xs ++ [y])))) else ∃ m',m' < m∧W (i + 1) m' xs H4)
def xim (wi:TI) (n:Nat) (g:TG) (fr:List Nat) (tc:TT) (te:TE):TE:=fun σ H Q=>wi σ H fun J H1=>∀ l,H1 l=none→xed J n g σ fr tc te l H1 Q
section
variable {X:Cx} {scope:Scope} {zs:List Str} {ys:List Str} {fr:List Nat} {elt iter tg:Expr} {g:TG} {ifs:List Expr} {px pos:Pos} {wi:TI} {tc:TT} {te:TE}
theorem xf6 {pins:List (Addr × Obj)} {s:Shared} {σ:St} {H:Hp} {Q:VK} {U:Option (Value→Sem Unit)} {R:Value→Shared→Prop} (hc:X.calm=true) (B:BlkG X scope zs ys fr) (hi:PI X tg iter wi) (hg:∀ C ex s H pn,(∀ x ∈ zs,(relabel scope X.env).names.lookup x=some .local)→(zs ++ ys).Nodup→PG (X.blkG scope zs ys C ex s H pn) tg g) (gok:GOk zs.length g)
    (hif:∀ C ex s H pn,PIf (X.blkG scope zs ys C ex s H pn) ifs tc) (he:∀ C ex s H pn,PE (X.blkG scope zs ys C ex s H pn) elt te) (I:Inv X pins σ H s) (h:xim wi zs.length g fr tc te σ H Q)
    (fin:∀ C l H' s' m,(X.s₀.heap.objs.size≤C∧C≠X.env.locals∧(∀ x c,X.env.cells.lookup x=some c→c≠C)∧∀ p ∈ X.pn ++ pins,p.1≠C)→H' C=none→s'.heap.Ns C m→(∀ h2,Heap.SameBut C s'.heap h2→Inv X pins σ H' { s' with heap:=h2 })→Q (.ref l) H'→compPost (model X.prog X.w) X.A X.xe U R (.ref l) C (.ok .next) s') :
    wpAny (model X.prog X.w) X.A (eval iter X.env) (fun v s1=>wpAny (model X.prog X.w) X.A (pyIter v) (fun it s2=>wpAny (model X.prog X.w) X.A (newList []) (fun acc s3 =>
      wpAny (model X.prog X.w) X.A (newFunctionEnv scope X.env.globals (X.clo scope) [] X.env.qual none .none (some X.env)) (fun cenv s4 =>
        codeAny (model X.prog X.w) X.A (.compStart (.ListComp elt [⟨tg,iter,ifs,0⟩] scope pos) 0 it acc { cenv with scope:=relabel scope X.env }) (compPost (model X.prog X.w) X.A X.xe U R acc cenv.locals) s4) X.xe s3) X.xe s2) X.xe s1) X.xe s:=by
  refine thn (hi pins s σ H _ I h) fun v s1 h1=>thn h1 fun itv s2 h2=>?_
  obtain ⟨it,fp,tn,J,H2,rfl,I2,T,st2,f2,body⟩:=h2
  have hN:H2 s2.heap.objs.size=none:=I2.hok.fresh (Nat.le_refl _)
  obtain ⟨W,⟨m0,w0⟩,turn⟩:=body s2.heap.objs.size hN
  refine wpAny_newObj_type ?_
  generalize hs3:({ s2 with heap:=s2.heap.push { cls:=.type "list",data:=.seq ([]:List Value).toArray } }:Shared)=s3
  have k3:∀ b o,s2.heap.get? b=some o→s3.heap.get? b=some o:=fun b o g=>by rw [← hs3]; exact Heap.get?_push_of_some _ g
  have I3:Inv X pins σ (upd H2 s2.heap.objs.size (.lst [])) s3:=by
    rw [← hs3]
    exact I2.laid (t':=s2.toks) (fun b u e=>Heap.get?_push_of_some _ e) (Nat.le_refl _) ⟨Nat.zero_le _,[],0,.nil,Heap.get?_push_size _ rfl⟩
  have z2:∀ b ∈ fp,b < s2.heap.objs.size:=fun b hb=>by
    obtain ⟨o,g,_⟩:=T.obj 0 _ st2 b hb
    exact Heap.lt_size g
  have z3:∀ b ∈ fp,b < s3.heap.objs.size:=fun b hb=>by
    obtain ⟨o,g,_⟩:=T.obj 0 _ st2 b hb
    exact Heap.lt_size (k3 b o g)
  have f3:∀ b ∈ fp,FpOk X pins (upd H2 s2.heap.objs.size (.lst [])) b:=fun b hb=>⟨by rw [xl (Nat.ne_of_lt (z2 b hb))]; exact (f2 b hb).1,(f2 b hb).2⟩
  have st3:tn 0 s3.heap:=T.keep _ _ _ st2 fun b _ o g=>k3 b o g
  refine wpAny_newFunctionEnv B.ncell (by intro y hy; simp at hy) (fun h1 n1 sb1=>?_) B.kind
  have k4:∀ b o,s3.heap.get? b=some o→h1.get? b=some o:=fun b o g=>sb1.extBut b o (Nat.ne_of_lt (Heap.lt_size g)) (Heap.get?_push_of_some _ g)
  have I4:=I3.blkG (t':=s3.toks + ([]:List (Str × Value)).length) B f3 z3 n1 k4
  have st4:tn 0 h1:=T.keep _ _ _ st3 fun b _ o g=>k4 b o g
  have own':∀ x ∈ zs,(relabel scope X.env).names.lookup x=some .local:=fun x hx=>lookup_relabel_local (B.own x hx)
  -- the iterator's objects,through the loop
  have stat:∀ {H':Hp},(∀ b ∈ fp,H' b=none)→∀ b ∈ fp,FpOk (X.blkG scope zs ys s3.heap.objs.size fp s3 (upd H2 s2.heap.objs.size (.lst [])) (X.pn ++ pins)) [] H' b:=fun hn b hb=>by
    obtain ⟨_,a1,a2,a3,a4,a5⟩:=f3 b hb
    exact ⟨hn b hb,Nat.ne_of_lt (z3 b hb),fun z=>(List.mem_cons.mp (I3.stkSub b z)).elim a1 a2,.inl hb,fun y c h=>a4 y c (B.sub I3 h),fun p hp=>a5 p (by simpa using hp)⟩
  have loop:∀ s4:Shared,s4={ s3 with heap:=h1,toks:=s3.toks + ([]:List (Str × Value)).length } →
      codeAny (model X.prog X.w) X.A (.compLoop (.ListComp elt [⟨tg,iter,ifs,0⟩] scope pos) 0 (.ref it) (.ref s2.heap.objs.size) (compEnvC scope (X.clo scope) s3.heap.objs.size X.env))
        (compPost (model X.prog X.w) X.A X.xe U R (.ref s2.heap.objs.size) s3.heap.objs.size) s4:=by
    rintro s4 rfl
    refine xgi (fun n s'=>∃ i xs H',Inv (X.blkG scope zs ys s3.heap.objs.size fp s3 (upd H2 s2.heap.objs.size (.lst [])) (X.pn ++ pins)) [] (blk0 σ fr zs.length) H' s'∧tn i s'.heap∧(∀ b ∈ fp,H' b=none)∧W i n xs H') ?_ m0
      ⟨0,[],_,I4,st4,fun b hb=>(f3 b hb).1,w0⟩
    rintro n s5 ⟨i,xs,H5,I5,st5,fr5,w5⟩
    rcases turn i n xs H5 w5 with ⟨stop,q⟩ | ⟨go,step⟩
    · refine wpAny_mono (T.done (X.blkG scope zs ys s3.heap.objs.size fp s3 (upd H2 s2.heap.objs.size (.lst [])) (X.pn ++ pins)) rfl rfl rfl hc i [] s5 _ H5 (fun _ _=>False) I5 (stat fr5) st5 stop) (fun r s6 ⟨hr,I6⟩=>?_) fun _ _ z=>z.elim
      subst hr
      obtain ⟨m,hm,_⟩:=I6.loc
      exact fin _ _ H5 s6 m ⟨I3.sz,(I3.size_lt (Nat.le_refl _)).2⟩ I6.free hm (fun h2 sb=>I3.unblkG f3 (Nat.le_refl _) I6 sb) q
    · refine wpAny_mono (T.item (X.blkG scope zs ys s3.heap.objs.size fp s3 (upd H2 s2.heap.objs.size (.lst [])) (X.pn ++ pins)) rfl rfl rfl hc i [] s5 _ H5 (fun _ _=>False) I5 (stat fr5) st5 go) (fun r s6 ⟨u,hr,h6⟩=>?_) fun _ _ z=>z.elim
      subst hr
      refine wpAny_mono h6 (fun _ s7 ⟨y,H7,I7,r7,y7,st7,fr7⟩=>?_) fun _ _ z=>z.elim
      have I7':=I7.pinned (stat fr7) (T.obj _ _ st7)
      refine wpAny_mono (hg _ _ _ _ _ own' B.ndb _ s7 _ H7 y u _ I7' r7 (gok _ _ _ _ (step y H7 y7))) (fun _ s8 ⟨σ8,H8,I8,q8,l8,k8⟩=>?_) fun _ _ z=>z.elim
      have back:∀ {s9:Shared} {H9:Hp} {xs':List V},Inv (X.blkG scope zs ys s3.heap.objs.size fp s3 (upd H2 s2.heap.objs.size (.lst [])) (X.pn ++ pins)) ([] ++ xey fp s7.heap) σ8 H9 s9→(∃ m',m' < n∧W (i + 1) m' xs' H9) →
          ∃ m,m < n∧∃ i xs H',Inv (X.blkG scope zs ys s3.heap.objs.size fp s3 (upd H2 s2.heap.objs.size (.lst [])) (X.pn ++ pins)) [] (blk0 σ fr zs.length) H' s9∧tn i s9.heap∧(∀ b ∈ fp,H' b=none)∧W i m xs H':=fun {s9 H9 xs'} I9 ⟨m',lt,w9⟩=>by
        refine ⟨m',lt,i + 1,xs',H9,I9.unpinned.weak l8.symm (fun j v e=>?_),T.keep _ _ _ st7 fun b hb o e=>(I9.pin (b,o) (List.mem_append_right _ (List.mem_append_right _ (xdd hb e)))).1,fun b hb=>?_,w9⟩
        · by_cases lj:j < zs.length
          · unfold blk0 at e
            rw [List.getElem?_append_left (by rw [List.length_replicate]; exact lj),List.getElem?_replicate] at e
            split at e <;> cases e
          · rw [k8 j (by omega)]
            exact e
        obtain ⟨o,e,d⟩:=T.obj _ _ st7 b hb
        exact (I9.pin (b,o) (List.mem_append_right _ (List.mem_append_right _ (xdd hb e)))).2.1
      refine wpAny_mono (hif _ _ _ _ _ _ s8 _ H8 _ I8 q8) (fun ok s9 ⟨H9,I9,q9⟩=>?_) fun _ _ z=>z.elim
      cases ok with
      | false =>
        rw [if_neg (by decide)] at q9 ⊢
        exact back I9 q9
      | true =>
        rw [if_pos rfl] at q9 ⊢
        refine wpAny_mono (he _ _ _ _ _ _ s9 _ H9 _ I9 q9) (fun ev s10 ⟨yv,H10,I10,r10,hl,len,w10⟩=>?_) fun _ _ z=>z.elim
        refine wpAny_mono (xck (X:=X.blkG scope zs ys s3.heap.objs.size fp s3 (upd H2 s2.heap.objs.size (.lst [])) (X.pn ++ pins)) _ s10 _ H10 (.ref s2.heap.objs.size) [yv] (.ref s2.heap.objs.size) [ev] (fun v H'=>H'=upd H10 s2.heap.objs.size (.lst (xs ++ [yv]))) I10 rfl (.cons r10 .nil) ⟨_,xs,yv,rfl,rfl,hl,len,rfl⟩)
          (fun _ s11 ⟨_,H11,I11,_,e11⟩=>?_) fun _ _ z=>z.elim
        subst e11
        exact back I11 w10
  exact codeAny_compStart_list (loop _ rfl) (T.self _ 0 _ _ _ st4 (loop _ rfl))
theorem xby (hc:X.calm=true) (B:BlkG X scope zs ys fr) (hi:PI X tg iter wi) (hg:∀ C ex s H pn,(∀ x ∈ zs,(relabel scope X.env).names.lookup x=some .local)→(zs ++ ys).Nodup→PG (X.blkG scope zs ys C ex s H pn) tg g) (gok:GOk zs.length g) (hif:∀ C ex s H pn,PIf (X.blkG scope zs ys C ex s H pn) ifs tc) (he:∀ C ex s H pn,PE (X.blkG scope zs ys C ex s H pn) elt te)
    (hs:∀ x,foldedSetIterable iter X.env x=pure x:=by intro _; rfl):PE X (.ListComp elt [⟨tg,iter,ifs,0⟩] scope pos) (xim wi zs.length g fr tc te):=by
  intro pins s σ H Q I h
  rw [eval_ListComp]
  refine wpAny_comprehension_free (use:=none) rfl hs (xle (B.cells I)) B.kind B.names (xf6 hc B hi hg gok hif he I h fun C l H' s' m _ _ hm iv q=>?_)
  exact ⟨m,hm,fun h2 sb=>⟨.ref l,H',iv h2 sb,rfl,q⟩⟩
theorem xch {j:Nat} {y:Str} {py spos:Pos} (hc:X.calm=true) (B:BlkG X scope zs ys fr) (hi:PI X tg iter wi) (hg:∀ C ex s H pn,(∀ x ∈ zs,(relabel scope X.env).names.lookup x=some .local)→(zs ++ ys).Nodup→PG (X.blkG scope zs ys C ex s H pn) tg g) (gok:GOk zs.length g) (hif:∀ C ex s H pn,PIf (X.blkG scope zs ys C ex s H pn) ifs tc) (he:∀ C ex s H pn,PE (X.blkG scope zs ys C ex s H pn) elt te)
    (hj:X.N[j]?=some y) (hy:Loc X.env.scope y) (hf:X.fn y=true∨X.env.scope.names.lookup y=some .local:=by first | exact .inl rfl | exact .inr rfl | assumption)
    (hsw:swapsWith (.ListComp elt [⟨tg,iter,ifs,0⟩] scope pos) (some (.Name y py)) spos.line X.env=pure true:=by rfl)
    (hs:∀ x,foldedSetIterable iter X.env x=pure x:=by intro _; rfl):PS X (.Assign [.Name y py] (.ListComp elt [⟨tg,iter,ifs,0⟩] scope pos) spos) (tAsg (xim wi zs.length g fr tc te) (xfh j)):=by
  intro pins s σ H D I h
  rw [exec_Assign_Name_used _ _ _ _ hsw]
  refine wpAny_bind (wpAny_standAt (wpAny_bind ?_))
  show wpAny _ _ (do let _ ← comprehension (.ListComp elt [⟨tg,iter,ifs,0⟩] scope pos) scope X.env _ (newList []) false (eval iter X.env) (some (assign (.Name y py) X.env))) _ _ s
  refine wpAny_bind (wpAny_mono (wpAny_comprehension_free (use:=some (assign (.Name y py) X.env)) (Q:=fun _ s'=>SP X pins D .next s') rfl hs (xle (B.cells I)) B.kind B.names
    (xf6 hc B hi hg gok hif he I h fun C l H' s' m hC hn hm iv q=>?_)) (fun _ s' z=>wpAny_pure (wpAny_pure z)) fun _ _ e=>e)
  show wpAny _ _ (assign (.Name y py) X.env (.ref l)) _ _ _
  have J:Inv X pins σ H' s':=iv s'.heap (.refl ..)
  refine wpAny_assign_Name (xg6 (v:=V.ref l) J B.nd hj hy rfl (fun s2 J2 ⟨a,sb,ha⟩=>?_) hf)
  have na:a≠C:=by
    rcases ha with z | z
    · rw [z]; exact Ne.symm hC.2.1
    · exact hC.2.2.1 _ _ z
  refine ⟨m,?_,fun h2 s3=>?_⟩
  · obtain ⟨o,es,ep,g,r⟩:=hm
    exact ⟨o,es,ep,(sb.2 C (Ne.symm na)).trans g,r⟩
  · exact ⟨_,H',J2.turned (t':=s2.toks) (fun b o nb g=>(s3.2 b nb).trans g) hn (hC.2.1) (.inr hC.1) hC.2.2.1 hC.2.2.2,q⟩
end
def xke (scope sc0:Scope) (N0:List Str) (zs:List Str) (ys:List Str) (fr:List Nat):Bool :=
 scope.kind == .function && zs.all (fun x=>scope.names.lookup x == some .local) && scope.names.all (fun y=>y.2 != .cell) && scope.names.all (fun y=>y.2 != .local || scope.names.lookup y.1 == some .local) &&
 (xcn scope).all (fun n=>sc0.names.lookup n == some .cell) && fr.map (fun i=>N0[i]?) == ys.map some && ys.all (fun y=>scope.names.lookup y == some .free) && decide N0.Nodup && decide (zs ++ ys).Nodup
theorem xbf {X:Cx} {scope sc0:Scope} {N0:List Str} {zs:List Str} {ys:List Str} {fr:List Nat} (chk:xke scope sc0 N0 zs ys fr=true) (es:X.env.scope=sc0) (eN:X.N=N0) (st:X.stack=X.env :: X.outer):BlkG X scope zs ys fr:=by
 unfold xke at chk
 simp only [Bool.and_eq_true,beq_iff_eq,List.all_eq_true,decide_eq_true_eq] at chk
 obtain ⟨⟨⟨⟨⟨⟨⟨⟨a1,a2⟩,a3⟩,a4⟩,a5⟩,a6⟩,a7⟩,a8⟩,a9⟩:=chk
 have nc:∀ y ∈ scope.names,y.2≠.cell:=fun y hy=>by simpa using a3 y hy
 refine ⟨a1,a2,nc,fun y hy hl=>?_,fun n hn=>by rw [es]; exact a5 n hn,fun n h=>xkx nc n h,by rw [eN]; exact a6,fun y hy=>?_,fun y hy=>xjv (a7 y hy),st,by rw [eN]; exact a8,a9⟩
 ·have z:=a4 y hy
  rw [hl] at z
  simpa using z
 ·exact List.mem_map.mpr ⟨(y,.free),List.mem_filter.mpr ⟨PySem.mem_of_lookup (a7 y hy),by simp⟩,rfl⟩
theorem xcm {K:PySem.W.Frag} {m n:Nat} {t:TGs} (h:∀ vs σ H Q,t vs σ H Q→t vs σ H (fun σ' H'=>Q σ' H'∧σ'.length=σ.length∧∀ i,n≤i→σ'[i]?=σ[i]?)):GOk n (gTup K m t):=fun v σ H Q q=>by
 obtain ⟨a,xs,e,hs,hl,q⟩:=q
 exact ⟨a,xs,e,hs,hl,h _ _ _ _ q⟩
theorem xb4 {n:Nat}:∀ vs σ H Q,gNil vs σ H Q→gNil vs σ H (fun σ' H'=>Q σ' H'∧σ'.length=σ.length∧∀ i,n≤i→σ'[i]?=σ[i]?):=fun vs σ H Q q=>⟨q.1,q.2,rfl,fun _ _=>rfl⟩
theorem xar {i n:Nat} (hi:i < n) {t:TGs} (h:∀ vs σ H Q,t vs σ H Q→t vs σ H (fun σ' H'=>Q σ' H'∧σ'.length=σ.length∧∀ i,n≤i→σ'[i]?=σ[i]?)) :
    ∀ vs σ H Q,xjx (xfh i) t vs σ H Q→xjx (xfh i) t vs σ H (fun σ' H'=>Q σ' H'∧σ'.length=σ.length∧∀ i,n≤i→σ'[i]?=σ[i]?):=fun vs σ H Q q=>by
  obtain ⟨v,r,e,q⟩:=q
  refine ⟨v,r,e,?_⟩
  have z:=h _ _ _ _ q
  have e2:∀ (j:Nat),n≤j→(σ.set i (some v))[j]?=σ[j]?:=fun j hj=>by rw [List.getElem?_set_ne (by omega)]
  have e1:(σ.set i (some v)).length=σ.length:=by simp
  have key:(fun σ' H'=>Q σ' H'∧σ'.length=(σ.set i (some v)).length∧∀ j,n≤j→σ'[j]?=(σ.set i (some v))[j]?)=(fun σ' (H':Hp)=>Q σ' H'∧σ'.length=σ.length∧∀ j,n≤j→σ'[j]?=σ[j]?):=by
    funext σ' H'
    rw [e1]
    refine propext ⟨fun ⟨a,b,c⟩=>⟨a,b,fun j hj=>(c j hj).trans (e2 j hj)⟩,fun ⟨a,b,c⟩=>⟨a,b,fun j hj=>(c j hj).trans (e2 j hj).symm⟩⟩
  rw [key] at z
  exact z
theorem xcf {J:It} {n:Nat} {g:TG} {σ:St} {fr:List Nat} {tc:TT} {te:TE} {l:Addr} {H1:Hp} {Q:VK} (len:Nat) (Pv:Nat→List V→Hp→Prop) (h0:Pv 0 [] (upd H1 l (.lst []))) (hgo:∀ i xs H,i < len→Pv i xs H→J.go i H)
    (step:∀ i xs H2 v H3,i < len→Pv i xs H2→J.yld i H2 v H3→∀ N:List V→Hp→Prop,(∀ xs' H',Pv (i + 1) xs' H'→N xs' H')→g v (blk0 σ fr n) H3 fun σ' H3'=>tc σ' H3' fun b H4=>if b=true then
      (te σ' H4 fun y H5=>H5 l=some (.lst xs)∧xs.length < sizeLine∧N (xs ++ [y]) (upd H5 l (.lst (xs ++ [y])))) else N xs H4)
    (fin:∀ xs H2,Pv len xs H2→J.stop len H2∧Q (.ref l) H2):xed J n g σ fr tc te l H1 Q:=by
  refine ⟨fun i m xs H=>m=len - i∧i≤len∧Pv i xs H,⟨len,by simp,Nat.zero_le _,h0⟩,?_⟩
  rintro i m xs H2 ⟨rfl,hi,p⟩
  by_cases lt:i < len
  · exact .inr ⟨hgo i xs H2 lt p,fun v H3 y=>step i xs H2 v H3 lt p y (fun xs' H'=>∃ m',m' < len - i∧m'=len - (i + 1)∧i + 1≤len∧Pv (i + 1) xs' H') fun xs' H' q=>⟨_,by omega,rfl,lt,q⟩⟩
  · have e:i=len:=by omega
    subst e
    exact .inl (fin xs H2 p)
end L2
set_option maxRecDepth 100000
namespace L2
open PySem PySem.Spec PyProof.Rows XL
variable {q0:Bool}
section
variable {X:Cx} {pins:List (Addr × Obj)} {σ:St} {H:Hp} {s:Shared}
theorem Inv.adopt {p:Addr} {o:HO} (I:Inv X pins σ H s) (n:H p=none) (h0:X.s₀.heap.objs.size≤p) (hL:p≠X.env.locals) (hC:∀ x c,X.env.cells.lookup x=some c→c≠p) (hp:∀ q ∈ X.pn ++ pins,q.1≠p)
    (new:xa4 X.prog X.w (upd H p o) s.heap p o):Inv X pins σ (upd H p o) s:=by
  have ne:∀ b u,H b=some u→b≠p:=fun b u e=>xn e n
  refine ⟨I.ok,I.os,I.bare,⟨I.base.keep,I.base.slot,fun b ob e hn hx=>?_,I.base.there,fun b xs e=>?_,fun b ob u e=>?_,fun b ps e=>?_⟩,I.loc,I.cell,?_,fun x c e=>?_,fun q hq=>?_,fun b u e=>?_,I.len⟩
  · rw [xl (Nat.ne_of_lt (Nat.lt_of_lt_of_le (Heap.lt_size e) h0))]
    exact I.base.free b ob e hn hx
  · have z:=I.base.tups b xs e
    rw [xl (ne b _ z)]
    exact z
  · have z:=I.base.frzs b ob u e
    rw [xl (ne b _ z)]
    exact z
  · obtain ⟨m,z⟩:=I.base.tbls b ps e
    exact ⟨m,by rw [xl (ne b _ z)]; exact z⟩
  · rw [xl (Ne.symm hL)]
    exact I.free
  · rw [xl (hC x c e)]
    exact I.freeC x c e
  · obtain ⟨a1,a2,a3⟩:=I.pin q hq
    exact ⟨a1,by rw [xl (hp q hq)]; exact a2,a3⟩
  · by_cases hb:b=p
    · subst hb
      rw [xg] at e
      cases e
      exact new
    · rw [xl hb] at e
      exact (I.hok b u e).stay (fun c v _ q=>q) (fun c q=>by rw [xl (ne c _ q)]; exact q) fun c xs q=>by rw [xl (ne c _ q)]; exact q
theorem Inv.thaw {d:Addr} {o:Obj} {u:HO} (I:Inv X pins σ H s) (e:H d=some (.frz o u)) (nf:∀ o' u',X.H₀ d≠some (.frz o' u')):Inv X pins σ (upd H d u) s:=by
 have ne:∀ b v,H b=some v→(∀ o' u',v≠.frz o' u')→b≠d:=fun b v h1 h2 z=>by
  subst z
  rw [e] at h1
  cases h1
  exact h2 _ _ rfl
 have ne0:∀ b,H b=none→b≠d:=fun b h1 z=>by
  subst z
  rw [e] at h1
  cases h1
 refine ⟨I.ok,I.os,I.bare,⟨I.base.keep,I.base.slot,fun b ob q hn hx=>?_,I.base.there,fun b xs q=>?_,fun b ob v q=>?_,fun b ps q=>?_⟩,I.loc,I.cell,?_,fun x c q=>?_,fun p hp=>?_,fun b v q=>?_,I.len⟩
 ·have z:=I.base.free b ob q hn hx
  rw [xl (ne0 b z)]
  exact z
 ·have z:=I.base.tups b xs q
  rw [xl (ne b _ z (fun _ _ h=>nomatch h))]
  exact z
 ·have z:=I.base.frzs b ob v q
  have hb:b≠d:=fun w=>by
   subst w
   exact nf _ _ q
  rw [xl hb]
  exact z
 ·obtain ⟨m,z⟩:=I.base.tbls b ps q
  exact ⟨m,by rw [xl (ne b _ z (fun _ _ h=>nomatch h))]; exact z⟩
 ·rw [xl (ne0 _ I.free)]
  exact I.free
 ·rw [xl (ne0 _ (I.freeC x c q))]
  exact I.freeC x c q
 ·obtain ⟨a1,a2,a3⟩:=I.pin p hp
  exact ⟨a1,by rw [xl (ne0 _ a2)]; exact a2,a3⟩
 ·have st:∀ (a:Addr) (v:HO),xa4 X.prog X.w H s.heap a v→xa4 X.prog X.w (upd H d u) s.heap a v:=fun a v k =>
   k.stay (fun c v _ q=>q) (fun c q=>by rw [xl (ne c _ q (fun _ _ h=>nomatch h))]; exact q) fun c xs q=>by rw [xl (ne c _ q (fun _ _ h=>nomatch h))]; exact q
  by_cases hb:b=d
  ·subst hb
   rw [xg] at q
   cases q
   obtain ⟨g,ok⟩:=I.hok b _ e
   exact st _ _ ok
  ·rw [xl hb] at q
   exact st _ _ (I.hok b v q)
theorem Inv.nofrz {d:Addr} {kvs:List (Key × V)} (I:Inv X pins σ H s) (e:H d=some (.dK kvs)):∀ o' u',X.H₀ d≠some (.frz o' u'):=fun o' u' z=>by
 have q:=I.base.frzs d o' u' z
 rw [e] at q
 cases q
theorem KV.get:∀ {kvs:List (Key × V)} {vs:List (Key × Value)} {i:Nat} {k:Key} {x:V},KV kvs vs→kvs[i]?=some (k,x)→∃ u,vs[i]?=some (k,u)∧RelV x u
 | _,_,_,_,_,.nil,e=>by simp at e
 | _,(_,_) :: _,0,_,_,.cons r _,e=>by
  simp at e
  subst e
  obtain ⟨r1,r2⟩:=r
  dsimp only at r1 r2
  subst r1
  exact ⟨_,rfl,r2⟩
 | _,_,i + 1,k,x,.cons _ t,e=>by
  obtain ⟨u,h1,h2⟩:=KV.get (i:=i) (k:=k) (x:=x) t (by simpa using e)
  exact ⟨u,by simpa using h1,h2⟩
theorem xon {P:Program} {w:World} {k:Key} {u:Value} (h:(xaz P w).is k u=true):RelV (kV k) u:=by
 rcases xbc (show xeh k u=true from h) with ⟨i,t,rfl,rfl⟩ | ⟨x,t,rfl,rfl⟩
 ·exact ⟨t,rfl⟩
 ·exact ⟨t,rfl⟩
theorem xkl {d:Addr} {o:Obj} {kvs:List (Key × V)} {ep:Nat} (I:Inv X pins σ H s) (e:H d=some (.frz o (.dK kvs))) (hep:∃ es,o.data=.dict es ep):∃ vs,KV kvs vs∧s.heap.DictAt (xaz X.prog X.w) d vs ep:=by
 obtain ⟨g,_,_,vs,rel,o',es',ep',g',ex,hdat,hk,hp,hn⟩:=I.hok d _ e
 rw [g] at g'
 cases g'
 obtain ⟨es,he⟩:=hep
 rw [he] at hdat
 cases hdat
 exact ⟨vs,rel,o,_,g,ex,he,hk,hp,hn⟩
end
def Iti (d:Addr) (o:Obj) (kvs:List (Key × V)):It :=
 ⟨fun i H=>H d=some (.frz o (.dK kvs))∧i < kvs.length,fun i H v H'=>∃ p k x,kvs[i]?=some (k,x)∧v=.ref p∧H p=none∧H'=upd H p (.tup [kV k,x]),fun i H=>H d=some (.frz o (.dK kvs))∧kvs.length≤i⟩
theorem xj5 {P:Program} {w:World} {K:PySem.W.Frag} {elts:List Expr} {x1} {tpos:Pos} (d it:Addr) (o:Obj) (kvs:List (Key × V)) (ep:Nat) (hep:∃ es,o.data=.dict es ep) :
    Turn P w K (.Tuple elts x1 tpos) (Iti d o kvs) [it] it (fun i h=>∃ ok ov,IsItemIter h it d i kvs.length ep ok ov) where
  mem:=by simp
  obj:=fun i h st b hb=>by
    have e:b=it:=by simpa using hb
    subst e
    obtain ⟨ok,ov,st⟩:=st
    exact ⟨_,st,fun v z=>by
      have z':Data.fields _=Data.cell v:=z
      cases z'⟩
  keep:=fun i h h' ⟨ok,ov,st⟩ k=>⟨ok,ov,k it (by simp) _ st⟩
  item:=by
    intro X hP hw hK hc i pins s σ H E I hf st hg
    subst hP hw hK
    obtain ⟨ok,ov,st⟩:=st
    obtain ⟨e,lt⟩:=hg
    obtain ⟨vs,rel,da⟩:=xkl I e hep
    obtain ⟨f0,f1,f2,f3,f4,f5⟩:=hf it (by simp)
    have hl:kvs.length=vs.length:=rel.length
    obtain ⟨⟨k,x⟩,q⟩:∃ y,kvs[i]=y:=⟨_,rfl⟩
    have hx:kvs[i]?=some (k,x):=by rw [List.getElem?_eq_getElem lt,q]
    obtain ⟨u,hv,ru⟩:=rel.get hx
    rw [hl] at st
    refine wpAny_pyNext_items_item st da hv fun key h' hkey hout ht hz hkp=>?_
    refine ⟨_,rfl,wpAny_letOwnedTupleGo_items hout fun h'' hit' hsb=>?_⟩
    have kk:∀ b o,b≠it→s.heap.get? b=some o→h''.get? b=some o:=fun b o hb g=>(hsb.2 b hb).trans (hkp b o hb g)
    have I1:Inv X pins σ H { s with heap:=h'' }:=I.turned (t':=s.toks) kk f0 f1 f3 f4 f5
    obtain ⟨n0,nL,nC,nP⟩:=I.size_lt (Nat.le_refl s.heap.objs.size)
    have itlt:it < s.heap.objs.size:=Heap.lt_size st
    have pne:s.heap.objs.size≠it:=Nat.ne_of_gt itlt
    have hp:h''.get? s.heap.objs.size=some { cls:=.type "tuple",data:=.seq #[key,u] }:=(hsb.2 _ pne).trans ht
    refine ⟨.ref s.heap.objs.size,upd H s.heap.objs.size (.tup [kV k,x]),I1.adopt n0 I.sz nL nC nP ⟨by show 2≤sizeLine; decide,[key,u],.cons (xon hkey) (.cons ru .nil),_,hp,rfl,_,rfl⟩,rfl,⟨_,k,x,hx,rfl,n0,rfl⟩,?_,fun b hb=>?_⟩
    · rw [← hl] at hit'
      exact ⟨_,_,hit'⟩
    · have e:b=it:=by simpa using hb
      subst e
      rw [xl (Ne.symm pne)]
      exact f0
  done:=by
    intro X hP hw hK hc i pins s σ H E I hf st hg
    subst hP hw hK
    obtain ⟨ok,ov,st⟩:=st
    obtain ⟨e,le⟩:=hg
    obtain ⟨vs,rel,da⟩:=xkl I e hep
    obtain ⟨f0,f1,f2,f3,f4,f5⟩:=hf it (by simp)
    have hl:kvs.length=vs.length:=rel.length
    rw [hl] at st
    exact wpAny_pyNext_items_end (I.ok.hd hc) st da (by simpa using (by omega:vs.length≤i)) fun h' eb=>⟨rfl,I.turned (t':=s.toks) (fun b o hb e=>eb b o hb e) f0 f1 f3 f4 f5⟩
  self:=fun _ _ _ _ _ ⟨ok,ov,st⟩ h=>PySem.W.kcp_self st h
def xpa (X:Cx) (to:TE):TI:=fun σ H R=>to σ H fun x H1=>∃ d kvs,x=.ref d∧H1 d=some (.dK kvs)∧∀ ob,(∀ o' u',X.H₀ d≠some (.frz o' u'))→R (Iti d ob kvs) (upd H1 d (.frz ob (.dK kvs)))
section
variable {X:Cx} {o:Expr} {to:TE} {elts:List Expr} {x1:_} {tpos apos cpos:Pos}
theorem xmc (ho:PE X o to) (hbase:attributeBase o "items" X.env (eval o X.env)=eval o X.env:=by rfl) (hline:(apos.endLine == cpos.line)=true:=by rfl) :
    PI X (.Tuple elts x1 tpos) (.Call (.Attribute o "items" apos) [] [] cpos) (xpa X to):=by
  intro pins s σ H R I h
  refine wpAny_Call_method0_late hbase hline (thn (ho pins s σ H _ I h) fun v s1 ⟨x,H1,I1,r1,q1⟩=>?_)
  obtain ⟨d,kvs,e1,e,q⟩:=q1
  subst e1
  cases r1
  obtain ⟨z,hd,vs,rel,dd⟩:=xhq I1.hok e
  obtain ⟨ob,es,ep,g,ex,hdat,hk,hp,hn⟩:=id dd
  refine ⟨"dict", "dict.items",PySem.F.plainAttrs_dict,PySem.F.slot_dict_items,PySem.F.type_dict_items,dd.typeIs,fun a e2=>?_,Calls.callWith_builtin rfl (PySem.evalArgs_none ?_)⟩
  · cases e2
    exact ⟨ob,g,ex.2.1⟩
  refine call_meetsIn PySem.F.slot_dict_items dd.typeIs PySem.F.entry_dict_items (PySem.F.args_dict_items_1 _) (meets_dict_items (xaz X.prog X.w) d hd) ⟨⟨vs,dd⟩,?_⟩
  have da:(s1.heap.push { cls:=.type "dict_items",data:=.fields #[.ref d] }).DictAt (xaz X.prog X.w) d vs ep:=⟨ob,es,Heap.get?_push_of_some _ g,ex,hdat,hk,hp,hn⟩
  refine wpAny_pyIter_items (s:={ s1 with heap:=s1.heap.push { cls:=.type "dict_items",data:=.fields #[.ref d] } }) ⟨_,Heap.get?_push_size _ rfl,rfl,rfl⟩ da ?_
  have I2:Inv X pins σ H1 { s1 with heap:=s1.heap.push { cls:=.type "dict_items",data:=.fields #[.ref d] } }:=I1.kept (t':=s1.toks) fun b o e=>Heap.get?_push_of_some _ e
  generalize hs2:({ s1 with heap:=s1.heap.push { cls:=.type "dict_items",data:=.fields #[.ref d] } }:Shared)=s2 at I2
  have g2:s2.heap.get? d=some ob:=by rw [← hs2]; exact Heap.get?_push_of_some _ g
  have I3:Inv X pins σ (upd H1 d (.frz ob (.dK kvs))) s2:=I2.write (t':=s2.toks) (x:=d) (e:=d) (by rw [e]; exact True.intro) (.inl rfl) (fun b u _ q=>q) ⟨ob,g2⟩ ⟨g2,I2.hok d _ e⟩
  have I4:Inv X pins σ (upd H1 d (.frz ob (.dK kvs))) { s2 with heap:=s2.heap.push { cls:=.type "dict_itemiterator",data:=.fields #[.none,.bool false,.ref d,.int 0 0,.int vs.length 0,.int ep 0,.none,.none] } } :=
    I3.kept (t':=s2.toks) fun b o e=>Heap.get?_push_of_some _ e
  have fin:PIE X pins σ (.Tuple elts x1 tpos) R (.ref s2.heap.objs.size) { s2 with heap:=s2.heap.push { cls:=.type "dict_itemiterator",data:=.fields #[.none,.bool false,.ref d,.int 0 0,.int vs.length 0,.int ep 0,.none,.none] } }:=by
    refine ⟨s2.heap.objs.size,[s2.heap.objs.size],_,_,upd H1 d (.frz ob (.dK kvs)),rfl,I4,xj5 d _ ob kvs ep ⟨es,hdat⟩,⟨.none,.none,?_⟩,fun b hb=>?_,q ob (I1.nofrz e)⟩
    · have hl:kvs.length=vs.length:=rel.length
      show IsItemIter _ _ d 0 kvs.length ep .none .none
      rw [hl]
      exact Heap.get?_push_size _ rfl
    · have eb:b=s2.heap.objs.size:=by simpa using hb
      subst eb
      exact I3.fpOk (Nat.le_refl _) (I3.hok.fresh (Nat.le_refl _))
  exact fin
theorem xl8 {pins:List (Addr × Obj)} {σ:St} {Q:VK} {u:Value} {s:Shared} (h:EP X pins σ (fun v H2=>∃ d ob u,H2 d=some (.frz ob u)∧(∀ o' u',X.H₀ d≠some (.frz o' u'))∧Q v (upd H2 d u)) u s):EP X pins σ Q u s:=by
 obtain ⟨v,H2,I2,r2,d,ob,u',e,nf,q⟩:=h
 exact ⟨v,_,I2.thaw e nf,r2,q⟩
theorem xn0 {e:Expr} {t:TE} (h:PE X e t):PE X e (fun σ H Q=>t σ H fun v H2=>∃ d ob u,H2 d=some (.frz ob u)∧(∀ o' u',X.H₀ d≠some (.frz o' u'))∧Q v (upd H2 d u)):=fun pins s σ H Q I q =>
 thn (h pins s σ H _ I q) fun _ _ z=>xl8 z
end
end L2
set_option maxRecDepth 100000
namespace PySem.F
end PySem.F
namespace L2
open PySem PySem.Spec PyProof.Rows XL
variable {q0:Bool}
section
variable {X:Cx} {pins:List (Addr × Obj)} {σ:St} {H:Hp} {s:Shared} {a:Addr} {y v:V} {u r:Value} {A:Around} {E:Value→Shared→Prop}
end
end L2
set_option maxRecDepth 100000
namespace L2
open PySem PySem.Spec PyProof.Rows XL
variable {q0:Bool}
theorem xov {X:Cx} {e:Expr} {t1 t2:TE} (h1:PE X e t1) (h2:PE X e t2):PE X e (fun σ H Q=>t1 σ H Q∨t2 σ H Q):=fun pins s σ H Q I h=>h.elim (h1 pins s σ H Q I) (h2 pins s σ H Q I)
section
variable {X:Cx} {tg:Expr}
end
theorem xfk {xs:List V} {us:List Value} (r:Vals xs us) {j:Nat} (h:j < us.toArray.size):∃ x,xs[j]?=some x∧RelV x us.toArray[j]:=by
 have hl:=r.length
 have hj:j < xs.length:=by simp at h; omega
 obtain ⟨u,h1,h2⟩:=r.get (x:=xs[j]) (List.getElem?_eq_getElem hj)
 refine ⟨xs[j],List.getElem?_eq_getElem hj,?_⟩
 have:us.toArray[j]=u:=by
  have z:=List.getElem?_eq_some_iff.mp h1
  obtain ⟨z1,z2⟩:=z
  simpa using z2
 rw [this]
 exact h2
section
variable {X:Cx} {pins:List (Addr × Obj)} {σ:St} {H:Hp} {s:Shared}
end
theorem xbb {A:Around} {k:Nat} (hr:Room q0 k A):A.units + 20 < cLine:=by have:=hr.un; omega
theorem xg2 {X:Cx}:xct X (.builtin "len") (fun xs H Q=>∃ a kvs,xs=[.ref a]∧H a=some (.dK kvs)∧Q (.int kvs.length) H):=by
 intro pins s σ H xs us Q I r h
 obtain ⟨a,kvs,rfl,e,q⟩:=h
 obtain ⟨u,rfl,rx⟩:=xdt r
 obtain rfl:u=Value.ref a:=rx
 exact xqq I (.inl e) fun t s' I'=>⟨.int _,H,I',⟨t,rfl⟩,q⟩
inductive Ents (w:World):List DictEntry→List (Key × V)→Prop
 | nil:Ents w [] []
 | cons {k:Key} {x:V} {key val:Value} {h:Int} {es:List DictEntry} {kvs:List (Key × V)} (hh:h=keyH w k) (hk:RelV (kV k) key) (hv:RelV x val) (r:Ents w es kvs):Ents w (⟨h,key,val⟩ :: es) ((k,x) :: kvs)
def xho (w:World) (K:PySem.W.Frag) (D:Addr) (kvs:List (Key × V)):Prop:=(D == sysModules)=false∧∃ (es:Array DictEntry) (ep:Nat),K.lookup D=some ⟨.type "dict",none,.dict es ep,#[]⟩∧Ents w es.toList kvs∧(kvs.map (·.1)).Nodup
theorem Ents.ok {P:Program} {w:World} {es:List DictEntry} {kvs:List (Key × V)} (h:Ents w es kvs):∃ vs,KV kvs vs∧Pairs (xaz P w) es vs∧∀ e ∈ es,∃ k,(xaz P w).is k e.key=true∧e.hash=(xaz P w).hash k:=by
 induction h with
 | nil=>exact ⟨[],.nil,.nil,fun e z=>nomatch z⟩
 | @cons k x key val h es kvs hh hk hv _ ih =>
  obtain ⟨vs,a,b,c⟩:=ih
  refine ⟨(k,val) :: vs,.cons ⟨rfl,hv⟩ a,.cons (xcd hk) rfl b,fun e he=>?_⟩
  rcases List.mem_cons.mp he with rfl | z
  ·exact ⟨k,xcd hk,hh⟩
  ·exact c e z
section
variable {X:Cx} {pins:List (Addr × Obj)} {σ:St} {H:Hp} {s:Shared} {D:Addr} {kvs:List (Key × V)}
theorem xh8 (I:Inv X pins σ H s) (g:xho X.w X.K D kvs):∃ vs,KV kvs vs∧s.heap.DictOf (xaz X.prog X.w) D vs:=by
 obtain ⟨_,es,ep,l,en,nd⟩:=g
 obtain ⟨vs,a,b,c⟩:=en.ok (P:=X.prog)
 refine ⟨vs,a,_,es,ep,I.kIn _ _ l,⟨rfl,rfl,rfl⟩,rfl,fun e he=>c e (by simpa using he),b,?_⟩
 rw [← a.keys]
 exact nd
def tGIn (kvs:List (Key × V)) (neg:Bool) (ty:TE):TE:=fun σ H Q=>ty σ H fun y H1=>∃ k:Key,y=kV k∧Q (.bl (if neg then !(valV kvs k).isSome else (valV kvs k).isSome)) H1
theorem xg3 {i:Expr} {ty:TE} {x:Str} {p:Pos} (hi:PE X i ty) (hg:Gl X x) (hm:X.mg x=some (.ref D)) (g:xho X.w X.K D kvs) (hd:(x == ("__debug__":Str))=false:=by decide):PC X .NotIn i (.Name x p) (tGIn kvs true ty):=by
 intro pins s σ H Q I h
 refine thn (hi pins s σ H _ I h) fun iv s1 ⟨y,H1,I1,ry,k,ey,q1⟩=>thn (xay (v:=.ref D) hg hm rfl hd pins s1 σ H1 (fun v H2=>v=.ref D∧H2=H1) I1 ⟨rfl,rfl⟩) fun u s2 ⟨x,H2,I2,rx,e1,e2⟩=>?_
 subst ey e1 e2
 obtain rfl:u=Value.ref D:=rx
 obtain ⟨vs,rel,dd⟩:=xh8 I2 g
 refine wpAny_notIn_of (xcd ry) g.1 dd.mapOf ?_
 rw [← (rel.val k).isSome_eq]
 exact ⟨.bl _,_,I2.tok _,rfl,q1⟩
end
end L2
set_option maxRecDepth 100000
namespace L2
open PySem PySem.Spec PyProof.Rows XL
variable {q0:Bool}
end L2
set_option maxRecDepth 100000
namespace L2
open PySem PySem.Spec PyProof.Rows XL
variable {q0:Bool}
section
variable {X:Cx} {pins:List (Addr × Obj)} {σ:St} {H:Hp} {s:Shared} {h':Heap}
end
section
variable {X:Cx} {tg:Expr}
end
section
variable {X:Cx} {elts:List Expr} {x1:_} {tpos:Pos}
end
end L2
set_option maxRecDepth 100000
namespace L2
open PySem PySem.Spec PyProof.Rows XL
variable {q0:Bool}
section
variable {X:Cx} {elts:List Expr} {x1:_} {tpos:Pos}
end
end L2
namespace L2
open PySem PySem.Spec PyProof.Rows XL
end L2
set_option maxRecDepth 100000
namespace L2
open PySem PySem.Spec PyProof.Rows XL
def tMid (t:TS):TS:=fun D σ H=>∃ Pv:St→Hp→Prop,t { D with nx:=Pv } σ H∧∀ σ' H',Pv σ' H'→D.nx σ' H'
theorem xew {X:Cx} {st:Stmt} {t:TS} (h:PS X st t):PS X st (tMid t):=by
 intro pins s σ H D I q
 obtain ⟨Pv,q1,q2⟩:=q
 refine thn (h pins s σ H { D with nx:=Pv } I q1) fun fl s1 z=>?_
 cases fl with
 | next =>
  obtain ⟨σ',H',I',r⟩:=z
  exact ⟨σ',H',I',q2 _ _ r⟩
 | _=>exact z
end L2
set_option maxRecDepth 100000
namespace XL
open PySem PySem.W
def xno0 (K:Frag) (C:Addr):Bool:=match K.lookup C with
 | some ⟨_,_,.cls cd,_⟩=>xee K cd.ns
 | _=>false
section
variable {prog:Program} {w:World} {A:Around} {E:Value→Shared→Prop} {h:Heap} {g:Array GenState} {d:Drawn} {t:Nat} {os:OsState}
variable {nm qn:Str} {C N:Addr} {bs bm bmB:List Value} {hz:Bool} {sn:List Str} {sub:List Value} {ab:Bool} {col:Option Bool} {dd:Option Addr} {k0 k1 k2 k3 k5:Option Value} {B ni ii:String}
theorem xjz (F:ExcBaseFacts B ni ii bmB) (T:OwnTail h bmB bm) {mN:Str→Option Value} {Q:Fin→Shared→Prop}
    (gC:h.get? C=some (excClassObj nm qn C N bs bm hz sn sub ab col dd k0 k1 k2 k3 k5 ni)) (nN:h.Ns N mN) (iN:mN "__init__"=none)
    (kq:∀ h' e,Heap.MadeExcOf h h' e (.ref C) []→h.objs.size≤e→Q (.done (.ret (.ref e))) ⟨h',g,d,t,os⟩) :
    wpAny (model prog w) A (Builtin.«type.__call__» ⟨[.ref C],[]⟩) Q E ⟨h,g,d,t,os⟩:=by
  repeat (first | with_reducible refine wpAny_loadPart_at gC ?_ | with_reducible refine wpAny_madeBy_exc gC ?_ | wp_step)
  refine codeAny_call_builtin_code (Code.quiet_builtin _ F.quiet) (wpAny_check_new_subT F T gC ?_)
  refine codeAny_exc_new_subT F T gC ?_ (Nat.zero_le _)
  change wpAny _ _ _ _ _ _
  generalize e1:({ cls:=.type "tuple",data:=.seq ([]:List Value).toArray }:Obj)=oT
  have fT:oT.isFreed=false:=by rw [← e1]; rfl
  generalize e2:({ cls:=.ref C,data:=.fields #[.ref h.objs.size,.none,.none,.none,.bool false,.none] }:Obj)=oE
  have fE:oE.isFreed=false:=by rw [← e2]; rfl
  have up:∀ b o,h.get? b=some o→((h.push oT).push oE).get? b=some o:=fun b o q=>Heap.get?_push_of_some oE (Heap.get?_push_of_some oT q)
  have gC':=up _ _ gC
  have nN':((h.push oT).push oE).Ns N mN:=let ⟨o,es,ep,e,r⟩:=nN; ⟨o,es,ep,up _ _ e,r⟩
  have T':=T.keeps up
  have gE:((h.push oT).push oE).get? (h.objs.size + 1)=some oE:=by
    have z:=Heap.get?_push_size (h.push oT) fE
    rwa [Heap.size_push] at z
  have cE:oE.cls=.ref C:=by rw [← e2]
  have me:(Value.ref C :: bm).contains (.ref C)=true:=by simp
  unfold isInstance
  repeat (first | (with_reducible refine wpAny_loadPart_at gE ?_; rw [cE]) | (with_reducible refine wpAny_isSubtype_exc gC' ?_; rw [me]) | wp_step)
  change wpAny _ _ (typeLookup (Value.ref C) _) _ _ _
  refine wpAny_typeLookup_tail gC' nN' T' F.mroIs F.init.lookup ?_
  rw [iN]
  refine wpAny_holding (wpAny_bind (wpAny_of_eq (F.init.bind _) ?_))
  refine wpAny_bind (wpAny_call (codeAny_call_builtin F.init.plain F.initEntry (wpAny_check_init_subT F T' gC' gE cE ?_)))
  subst e2
  wp_walk
  refine kq _ (h.objs.size + 1) ⟨fun b o hb=>?_,Heap.get?_none_of_le (Nat.le_succ _),h.objs.size + 2,?_,Heap.get?_none_of_le (by omega),?_⟩ (Nat.le_succ _)
  · rw [Heap.get?_update_other _ _ (Nat.ne_of_gt (Nat.lt_succ_of_lt (Heap.lt_size hb)))]
    exact Heap.get?_push_of_some _ (up _ _ hb)
  · rw [Heap.get?_update_self _ (Heap.get?_push_of_some _ gE) rfl]
    simp only [Heap.size_push]
    rfl
  · rw [Heap.get?_update_other _ _ (show h.objs.size + 1≠h.objs.size + 2 by omega)]
    exact Heap.get?_push_at (by simp only [Heap.size_push]) rfl
theorem xk4 (F:ExcBaseFacts B ni ii bmB) (T:OwnTail h bmB bm) {mN:Str→Option Value} {Q:Value→Shared→Prop}
    (gC:h.get? C=some (excClassObj nm qn C N bs bm hz sn sub ab col dd k0 k1 k2 k3 k5 ni)) (nN:h.Ns N mN) (iN:mN "__init__"=none)
    (kq:∀ h' e,Heap.MadeExcOf h h' e (.ref C) []→h.objs.size≤e→Q (.ref e) ⟨h',g,d,t,os⟩):wpAny (model prog w) A (call (.ref C) []) Q E ⟨h,g,d,t,os⟩:=by
  have a1:=tc_lookup
  have a2:=tc_bind (.ref C)
  have ty:(⟨h,g,d,t,os⟩:Shared).TypeIs (.ref C) "type":=⟨_,gC,rfl⟩
  refine wpAny_call (codeAny_of_tree ?_)
  change wpAny _ _ (callAny (Value.ref C) _) _ _ _
  repeat (any_goals (first | assumption | with_reducible refine wpAny_loadPart_at gC ?_ | wp_step))
  refine ⟨rfl,?_⟩
  refine codeAny_call_builtin_at (Code.quiet_builtin _ (by decide +kernel)) entry_typeCall (wpAny_check_type_call_sub gC (xjz F T gC nN iN fun h' e hm hs=>?_))
  exact kq h' e hm hs
end
end XL
namespace L2
open PySem PySem.Spec PyProof.Rows XL
variable {q0:Bool}
def xp6 (C:Addr):TE:=fun σ H Q=>∀ e,H e=none→Q (.ref e) (upd H e (XN e C none))
section
variable {X:Cx} {C:Addr} {x:Str} {p pos:Pos}
theorem xm7 (mk:xan X.K C=true) (no:xno0 X.K C=true) (kp:PySem.W.keepIn X.K (.ref C)=true) (hg:Gl X x) (hm:X.mg x=some (.ref C)) (hdb:(x == ("__debug__":Str))=false:=by decide) :
    PE X (.Call (.Name x p) [] [] pos) (xp6 C):=by
  intro pins s σ H Q I h
  refine wpAny_Call_Name_kw (xdj I hg hm ?_ hdb)
  refine PySem.W.callWith_K0 I.kIn kp ?_
  obtain ⟨nm,qn,N,bs,bm,hz,sn,sub,ab,col,dd,k0,k1,k2,k3,k5,gC,T⟩:=xe7 I.kIn mk
  obtain ⟨mN,hn,hni⟩:∃ mN,s.heap.Ns N mN∧mN "__init__"=none:=by
    unfold xno0 at no
    split at no
    · rename_i c d cd sl ho
      have z:=(I.kIn _ _ ho).symm.trans gC
      injection z with z
      injection z with _ _ z _
      injection z with z
      rw [z] at no
      exact xmu I.kIn no
    · cases no
  obtain ⟨hh,gg,d,tk,os⟩:=s
  refine xk4 PySem.F.excBase_ValueError T gC hn hni (fun h' e hm se=>?_)
  have hn':H e=none:=I.hok.fresh se
  obtain ⟨t0,ge,_,_⟩:=hm.there
  have xa:Xat h' e (.ref C) none none:=⟨_,_,ge,rfl,rfl,rfl,by simp,.inl ⟨rfl,rfl⟩⟩
  exact ⟨.ref e,_,I.laid (t':=tk) hm.keeps se (xju xa),rfl,h e hn'⟩
end
section
variable {X:Cx} {pos np hpos np1 np2 hpos1 hpos2:Pos} {body hbody hbody1 hbody2:List Stmt} {b0 b1 b2:Stmt} {cx cx1 cx2 n:Str} {C0 C1 C2:Addr} {j:Nat} {E:St→XK} {tb th th1 th2:TS} {rest:List ExceptHandler}
end
end L2
set_option maxRecDepth 100000
namespace L2
open PySem PySem.Spec PyProof.Rows XL
section
variable {X:Cx} {a b c d:Expr} {ta tb tc td:TE} {pos:Pos}
end
end L2
set_option maxRecDepth 100000
set_option maxHeartbeats 4000000
namespace L2
open PySem PySem.Calls PyProof PyProof.Rows
def eU (e:V→Bool) (u:Value):Bool:=match absV u with | some y=>e y | none=>false
theorem xkb {e:V→Bool} {y:V} {u:Value} (r:RelV y u):eU e u=e y:=by unfold eU; rw [r.abs]
theorem xhu {e:V→Bool}:∀ {xs:List V} {us:List Value},Vals xs us→us.any (eU e)=xs.any e
 | _,_,.nil=>rfl
 | y :: xs,u :: us,.cons r t=>by rw [List.any_cons,List.any_cons,xkb r,xhu t]
theorem xgq:∀ {xs:List V} {us:List Value},Vals xs us→∀ u ∈ us,∃ y ∈ xs,RelV y u
 | _,_,.nil=>fun u hu=>nomatch hu
 | y :: xs,u :: us,.cons r t=>fun u' hu=>by
  rcases List.mem_cons.mp hu with rfl | hu
  ·exact ⟨y,List.mem_cons_self,r⟩
  ·obtain ⟨z,h1,h2⟩:=xgq t u' hu
   exact ⟨z,List.mem_cons_of_mem _ h1,h2⟩
section
variable {X:Cx}
end
end L2
set_option maxRecDepth 100000
namespace PySem.F
end PySem.F
namespace L2
open PySem PySem.Spec PyProof.Rows XL
variable {q0:Bool}
end L2
set_option maxRecDepth 100000
namespace L2
open PySem PySem.Spec PyProof.Rows XL
variable {q0:Bool}
section
variable {z TI TO i1 i2 l1 l2:Addr} {P:Nat→Prop} {i:Nat} {h:Heap}
end
end L2
set_option maxRecDepth 100000
namespace L2
open PySem PySem.Spec PyProof.Rows XL
variable {q0:Bool}
end L2
set_option maxRecDepth 100000
namespace L2
open PySem PySem.Spec PyProof.Rows XL
variable {q0:Bool}
section
variable {X:Cx} {pos np1 np2 np3 hpos1 hpos2 hpos3:Pos} {body hbody1 hbody2 hbody3:List Stmt} {rest:List ExceptHandler} {b1 b2 b3:Stmt} {cx1 cx2 cx3 n:Str} {C1 C2 C3:Addr} {j:Nat} {E:St→XK} {tb th1 th2 th3:TS}
end
end L2
set_option maxRecDepth 100000
namespace L2
open PySem PySem.Spec PyProof.Rows XL PySem.W
variable {q0:Bool}
theorem xgv {prog:Program} {w:World} {A:Around} {E:Value→Shared→Prop} {s:Shared} {a:Addr} {vs:List Value} {n:Nat} {P:PySem.Fin→Shared→Prop}
    (h:s.heap.get? a=some (seqObj "list" vs.toArray n)) (h2:2≤vs.length) (h64:vs.length < 64)
    (hk:∀ s':Shared,s'.heap=(((s.heap.update a (Obj.mapSeq fun x=>#[])).push (seqObj "tuple" vs.toArray 0)).push (seqObj "list" #[] 0))→s'={ s with heap:=s'.heap } →
      wpAny (model prog w) A (keyKind' vs.toArray) (fun κ s''=>s''=s'∧KasT.kasWp (kas_ask prog w A κ vs) (kas_sort vs.length) (fun p s3=>s3=s'∧P (.done (.ret .none)) { s with heap:=sortedHeap s.heap a vs (p.map fun i=>vs.getD i .none) }) s'') (fun _ _=>False) s') :
    wpAny (model prog w) A (Builtin.«list.sort» { pos:=[.ref a] }) P E s:=by
  obtain ⟨hp,g,d,tk,os⟩:=s
  rw [list_sort_plain]
  repeat (any_goals (first | assumption | wp_step))
  have z:¬ vs.toArray.toList.toArray.size > sizeLine:=by
    simp
    exact Nat.le_of_lt (Nat.lt_trans h64 (by decide))
  rw [if_neg z]
  generalize keyKind' vs.toArray=kk at hk ⊢
  repeat (any_goals (first | assumption | wp_step))
  have hk':=hk { heap:=((hp.update a (Obj.mapSeq fun x=>#[])).push (seqObj "tuple" vs.toArray 0)).push (seqObj "list" #[] 0),gens:=g,drawn:=d,toks:=tk,os:=os } rfl rfl
  refine wpAny_mono hk' (fun κ s'' z=>?_) (fun _ _ z=>z.elim)
  obtain ⟨e,q⟩:=z
  subst e
  show wpAny _ _ (StateT.run (if vs.toArray.size < 2 then pure () else sortRuns') _ >>= _) _ _ _
  rw [if_neg (by simp; omega)]
  refine wpAny_bind (wpAny_mono (kat_run (E:=E) (Q:=fun st' s'=>∃ p:Array Nat,p.size=vs.length∧arrOf st'=Array.map (kas_item (vs.toArray.zip vs.toArray)) p∧failedOf st'=none∧s'=_∧P (.done (.ret .none)) { heap:=sortedHeap hp a vs (p.map fun i=>vs.getD i .none),gens:=g,drawn:=d,toks:=tk,os:=os }) rfl h2 h64 (fun p st' s' hp' e f q'=>⟨p,hp',e,f,q'.1,q'.2⟩) q) (fun r s' z=>?_) fun _ _ z=>z)
  obtain ⟨u,st⟩:=r
  obtain ⟨p,psz,e,f,rfl,q'⟩:=z
  have al:a < hp.objs.size:=Heap.lt_size h
  have g1:(((hp.update a (Obj.mapSeq fun x=>#[])).push (seqObj "tuple" vs.toArray 0)).push (seqObj "list" #[] 0)).get? a=some (seqObj "list" #[] (n + 1)):=by
    refine Heap.get?_push_of_some _ (Heap.get?_push_of_some _ ?_)
    rw [Heap.get?_update_self _ h rfl]
    have z:((0:Nat) == vs.length)=false:=by
      cases vs with
      | nil=>simp at h2
      | cons=>rfl
    simp [Obj.mapSeq,z]
  have e2:(if (((fun x=>#[]) vs.toArray:Array Value).size == vs.toArray.size)=true then n else n + 1)=n + 1:=by
    rw [if_neg]
    simp
    omega
  simp only [e2,f]
  have e3:Array.map (fun x=>x.snd) (arrOf st)=p.map fun i=>vs.getD i .none:=by
    rw [e,Array.map_map]
    congr 1
    funext i
    show (kas_item (vs.toArray.zip vs.toArray) i).snd=_
    unfold kas_item
    by_cases c:i < vs.length
    · simp [List.getElem?_eq_getElem c,c]
    · simp [List.getElem?_eq_none (by omega:vs.length≤i),c]
  simp only [e3]
  repeat (any_goals (first | assumption | wp_step))
  have e4:(Obj.mapSeq (fun x=>Array.map (fun i=>vs.getD i Value.none) p) (seqObj "list" #[] (n + 1))).data.pastItsLine=none:=by
    show (if (Array.map (fun i=>vs.getD i Value.none) p).size > sizeLine + 1 then _ else none)=none
    rw [if_neg]
    rw [Array.size_map,psz]
    have:vs.length < sizeLine:=Nat.lt_trans h64 (by decide)
    omega
  rw [e4]
  refine wpAny_pure ?_
  rw [f]
  show wpAny _ _ (if (n + 1 != n + 1)=true then _ else _) _ _ _
  rw [if_neg (by simp)]
  exact wpAny_pure q'
theorem xic {prog:Program} {w:World} {A:Around} {E:Value→Shared→Prop} {s:Shared} {it d:Addr} {i ep:Nat} {o:Obj} {es:Array DictEntry} {en:DictEntry} {Q:Option Value→Shared→Prop}
    (st:s.heap.IsKeyIter it d i es.size ep) (hd:s.heap.get? d=some o) (hx:o.ExactDict) (hdat:o.data=.dict es ep) (hi:es[i]?=some en)
    (h:∀ h',h'.IsKeyIter it d (i + 1) es.size ep→Heap.SameBut it s.heap h'→Q (some en.key) { s with heap:=h' }):wpAny (model prog w) A (pyNext (.ref it)) Q E s:=by
  unfold pyNext
  refine wpAny_bind (wpAny_attempt (wpAny_callSpecial?_slot st.typeIs F.slot_dict_keyiterator_next ?_))
  refine wpAny_call_entry F.slot_dict_keyiterator_next st.typeIs F.entry_dict_keyiterator_next ?_ (F.args_dict_keyiterator_next_1 _)
  have ti:=st.typeIs
  obtain ⟨hp,g,dr,tk,os⟩:=s
  obtain ⟨⟨c,dct,dat,sl⟩,hit,ci,di⟩:=st
  simp only at ci di
  subst ci di
  unfold Builtin.«dict_keyiterator.__next__»
  repeat (any_goals (first | assumption | (with_reducible refine wpAny_typeNameOfWhole_keyiter ti ?_) | (with_reducible refine wpAny_isOneOf_keyiter ti ?_) | (with_reducible refine wpAny_dictEntries hd hdat ?_) | (with_reducible refine wpAny_dictEpoch hd hdat ?_) | wp_step))
  have e1:(if (i:Int) < 0 then none else es[(i:Int).toNat]?)=some en:=by
    rw [if_neg (by omega),Int.toNat_natCast]
    exact hi
  rw [e1]
  repeat (any_goals (first | assumption | (with_reducible refine wpAny_typeNameOfWhole_keyiter ti ?_) | (with_reducible refine wpAny_isOneOf_keyiter ti ?_) | (with_reducible refine wpAny_dictEntries hd hdat ?_) | (with_reducible refine wpAny_dictEpoch hd hdat ?_) | wp_step))
  refine ⟨_,rfl,wpAny_pure (h _ ?_ (Heap.SameBut.update _ _ _))⟩
  refine ⟨_,Heap.get?_update_self _ hit rfl,rfl,?_⟩
  rfl
theorem xit {prog:Program} {w:World} {A:Around} {E:Value→Shared→Prop} {s:Shared} {it d:Addr} {ep:Nat} {o:Obj} {es:Array DictEntry} {Q:Option Value→Shared→Prop}
    (hA:A.handled=none) (st:s.heap.IsKeyIter it d es.size es.size ep) (hd:s.heap.get? d=some o) (hx:o.ExactDict) (hdat:o.data=.dict es ep)
    (h:∀ h',Heap.ExtBut it s.heap h'→Q none { s with heap:=h' }):wpAny (model prog w) A (pyNext (.ref it)) Q E s:=by
  unfold pyNext
  refine wpAny_bind (wpAny_attempt (wpAny_callSpecial?_slot st.typeIs F.slot_dict_keyiterator_next ?_))
  refine wpAny_call_entry F.slot_dict_keyiterator_next st.typeIs F.entry_dict_keyiterator_next ?_ (F.args_dict_keyiterator_next_1 _)
  have ti:=st.typeIs
  obtain ⟨hp,g,dr,tk,os⟩:=s
  obtain ⟨⟨c,dct,dat,sl⟩,hit,ci,di⟩:=st
  simp only at ci di
  subst ci di
  unfold Builtin.«dict_keyiterator.__next__»
  repeat (any_goals (first | assumption | (with_reducible refine wpAny_typeNameOfWhole_keyiter ti ?_) | (with_reducible refine wpAny_isOneOf_keyiter ti ?_) | (with_reducible refine wpAny_dictEntries hd hdat ?_) | (with_reducible refine wpAny_dictEpoch hd hdat ?_) | wp_step))
  have e1:(if (es.size:Int) < 0 then none else es[(es.size:Int).toNat]?)=none:=by
    rw [if_neg (by omega),Int.toNat_natCast]
    simp
  rw [e1]
  repeat (any_goals (first | assumption | (with_reducible refine wpAny_typeNameOfWhole_keyiter ti ?_) | (with_reducible refine wpAny_isOneOf_keyiter ti ?_) | (with_reducible refine wpAny_dictEntries hd hdat ?_) | (with_reducible refine wpAny_dictEpoch hd hdat ?_) | wp_step))
  refine wpAny_raiseNew_none hA ?_
  refine wpAny_bind (wpAny_isInstance ⟨_,Heap.get?_push_size _ rfl,rfl⟩ isSubtype_stop (wpAny_pure (h _ fun b o nb e=>?_)))
  refine Heap.get?_push_of_some _ (Heap.get?_push_of_some _ ?_)
  rw [Heap.get?_update_other _ _ (Ne.symm nb)]
  exact e
theorem xl4 {prog:Program} {w:World} {A:Around} {E:Value→Shared→Prop} {s:Shared} {d:Addr} {ep:Nat} {o:Obj} {es:Array DictEntry} {Q:Value→Shared→Prop}
    (hs:(d == sysModules)=false) (hd:s.heap.get? d=some o) (hx:o.ExactDict) (hdat:o.data=.dict es ep)
    (h:Q (.ref s.heap.objs.size) { s with heap:=s.heap.push { cls:=.type "dict_keyiterator",data:=.fields #[.ref d,.int 0 0,.int es.size 0,.int ep 0] } }):wpAny (model prog w) A (pyIter (.ref d)) Q E s:=by
  have ti:s.TypeIs (.ref d) "dict":=⟨o,hd,hx.1⟩
  obtain ⟨c,dct,dat,sl⟩:=o
  obtain ⟨x1,x2,x3⟩:=hx
  simp only at x1 x2 x3 hdat
  subst x1 x2 x3 hdat
  refine wpAny_pyIter_slot ti F.slot_dict_iter ?_
  refine wpAny_call_entry F.slot_dict_iter ti F.entry_dict_iter ?_ (F.args_dict_iter_1 _)
  obtain ⟨hp,g,dr,tk,os⟩:=s
  unfold Builtin.«dict.__iter__»
  repeat (any_goals (first | assumption | (with_reducible refine wpAny_notOrdered_dict ti ?_) | (with_reducible refine wpAny_dictEntries hd rfl ?_) | (with_reducible refine wpAny_dictEpoch hd rfl ?_) | wp_step))
  exact ⟨_,rfl,_,_,⟨_,Heap.get?_push_size _ rfl,rfl⟩,F.slot_dict_keyiterator_next.lookup,h⟩
theorem xnx {prog:Program} {w:World} {d:Addr} {ep:Nat} {o:Obj} {es:Array DictEntry} (hs:(d == sysModules)=false) (hx:o.ExactDict) (hdat:o.data=.dict es ep) :
    KdlSrc prog w "dict" d d es.size (fun i v=>∃ en,es[i]?=some en∧v=en.key) (fun h=>h.get? d=some o) where
  type:=fun s h=>⟨o,h,hx.1⟩
  there:=fun h e=>⟨Heap.lt_size e,Heap.lt_size e⟩
  keep:=fun h h' e k=>k d (.inl rfl) o e
  notList:=by decide
  notTuple:=by decide
  hint:=fun A E s Q h q=>kdl_hint_dict ⟨o,h,hx.1⟩ q
  iter:=fun A s hA h=>by
    have dl:=Heap.lt_size h
    refine ⟨{ cls:=.type "dict_keyiterator",data:=.fields #[.ref d,.int 0 0,.int es.size 0,.int ep 0] },fun i h=>h.IsKeyIter s.heap.objs.size d i es.size ep∧h.get? d=some o,fun E Q q=>xl4 hs h hx hdat q,?_,⟨_,Heap.get?_push_size _ rfl,rfl,rfl⟩,Heap.get?_push_of_some _ h⟩
    have dn:d≠s.heap.objs.size:=Nat.ne_of_lt dl
    exact {
      sub:=fun b hb=>by
        have e:b=s.heap.objs.size:=by simpa using hb
        rw [e]
        simp
      frame:=fun i h h' st k=>⟨st.1.at fun o e=>k _ (by simp) o e,k _ (by simp) _ st.2⟩
      item:=fun i s' Q E hi st q=>by
        refine xic st.1 st.2 hx hdat (Array.getElem?_eq_getElem hi) fun h' st' sb=>q _ h' s'.toks ⟨_,Array.getElem?_eq_getElem hi,rfl⟩ ⟨st',(sb.2 d dn).trans st.2⟩ fun b o hb e=>?_
        exact (sb.2 b (by simpa using hb)).trans e
      done:=fun s' Q E st q=>by
        refine xit hA st.1 st.2 hx hdat fun h' eb=>q h' s'.toks fun b o hb e=>?_
        exact eb b o (by simpa using hb) e
      self:=fun i s' Q E st q=>wpAny_pyIter_keyiter st.1 q }
end L2
set_option maxRecDepth 100000
namespace L2
open PySem PySem.Spec PyProof.Rows XL PySem.W
variable {q0:Bool}
def xcs:Key→Key→Bool
 | .inl a,.inl b=>decide (a < b)
 | .inr a,.inr b=>decide (a.cps.toList < b.cps.toList)
 | _,_=>false
def lexK:List Key→List Key→Bool
 | [],[]=>false
 | [],_ :: _=>true
 | _ :: _,[]=>false
 | x :: xs,y :: ys=>if x=y then lexK xs ys else xcs x y
abbrev shp (k:List Key):List Bool:=k.map Sum.isLeft
theorem xnn {a b:Str} (h:a.cps.toList=b.cps.toList):a=b:=by
 cases a
 cases b
 simp at h
 rw [h]
theorem xla (x:Key):xcs x x=false:=by
 cases x with
 | inl a=>simp [xcs]
 | inr a=>exact PyProof.Rows.strKind.irrefl a.cps.toList
theorem xlu {x y z:Key} (h1:xcs x y=true) (h2:xcs y z=true):xcs x z=true:=by
 cases x <;> cases y <;> cases z <;> simp only [xcs,Bool.false_eq_true] at h1 h2
 ·have a:=of_decide_eq_true h1
  have b:=of_decide_eq_true h2
  exact decide_eq_true (Int.lt_trans a b)
 ·exact PyProof.Rows.strKind.trans _ _ _ h1 h2
theorem xky {x y:Key} (hs:x.isLeft=y.isLeft) (ne:x≠y) (h:xcs x y=false):xcs y x=true:=by
 cases x with
 | inl a =>
  cases y with
  | inl b =>
   have h':¬ a < b:=of_decide_eq_false h
   have n':a≠b:=fun e=>ne (by rw [e])
   exact decide_eq_true (show b < a by omega)
  | inr b=>cases hs
 | inr a =>
  cases y with
  | inl b=>cases hs
  | inr b =>
   cases e:xcs (.inr b) (.inr a) with
   | true=>rfl
   | false=>exact absurd (by rw [xnn (PyProof.Rows.strKind.total _ _ h e)]) ne
theorem xh0:∀ x:List Key,lexK x x=false
 | []=>rfl
 | x :: xs=>by
  unfold lexK
  rw [if_pos rfl]
  exact xh0 xs
theorem xi3:∀ {x y z:List Key},shp x=shp y→shp y=shp z→lexK x y=true→lexK y z=true→lexK x z=true
 | [],[],_,_,_,h,_=>by cases h
 | [],_ :: _,_,h,_,_,_=>by cases h
 | _ :: _,[],_,h,_,_,_=>by cases h
 | _ :: _,_ :: _,[],_,h,_,_=>by cases h
 | x :: xs,y :: ys,z :: zs,h1,h2,h3,h4=>by
  simp only [shp,List.map_cons,List.cons.injEq] at h1 h2
  unfold lexK at h3 h4 ⊢
  by_cases xy:x=y
  ·subst xy
   rw [if_pos rfl] at h3
   by_cases yz:x=z
   ·rw [if_pos yz] at h4 ⊢
    exact xi3 h1.2 h2.2 h3 h4
   ·rw [if_neg yz] at h4 ⊢
    exact h4
  ·rw [if_neg xy] at h3
   by_cases yz:y=z
   ·subst yz
    rw [if_neg xy]
    exact h3
   ·rw [if_neg yz] at h4
    have h5:=xlu h3 h4
    rw [if_neg (fun e=>by rw [e,xla] at h5; cases h5)]
    exact h5
theorem xib:∀ {x y:List Key},shp x=shp y→x≠y→lexK x y=false→lexK y x=true
 | [],[],_,h,_=>absurd rfl h
 | [],_ :: _,h,_,_=>by cases h
 | _ :: _,[],h,_,_=>by cases h
 | x :: xs,y :: ys,h1,h2,h3=>by
  simp only [shp,List.map_cons,List.cons.injEq] at h1
  unfold lexK at h3 ⊢
  by_cases xy:x=y
  ·subst xy
   rw [if_pos rfl] at h3 ⊢
   exact xib h1.2 (fun e=>h2 (by rw [e])) h3
  ·rw [if_neg xy] at h3
   rw [if_neg (fun e=>xy e.symm)]
   exact xky h1.1 xy h3
theorem xie {prog:Program} {w:World} {A:Around} {s:Shared} {b:Bool} {Q:Bool→Shared→Prop}:∀ (xs ys:List Key) (us vs:List Value) (i:Nat),shp xs=shp ys→Vals (xs.map kV) us→Vals (ys.map kV) vs→Q (lexK xs ys) s→KatLex prog w A b false Q (us.zip vs) i s
 | [],[],_,_,i,_,.nil,.nil,q=>kat_nil q
 | [],_ :: _,_,_,_,h,_,_,_=>by cases h
 | _ :: _,[],_,_,_,h,_,_,_=>by cases h
 | x :: xs,y :: ys,_,_,i,h,.cons ru r,.cons rv r',q=>by
  simp only [shp,List.map_cons,List.cons.injEq] at h
  unfold lexK at q
  cases x with
  | inl a =>
   cases y with
   | inr c=>cases h.1
   | inl c =>
    obtain ⟨t,rfl⟩:=ru
    obtain ⟨t',rfl⟩:=rv
    refine kat_cons (wpAny_eqBool_int ?_)
    unfold KatGo
    by_cases e:a=c
    ·subst e
     rw [if_pos rfl] at q
     rw [if_pos (by simp)]
     exact xie xs ys _ _ (i + 1) h.2 r r' q
    ·rw [if_neg (fun z=>e (Sum.inl.inj z))] at q
     rw [if_neg (by simpa using e)]
     cases (b && i == 0) with
     | true=>exact oneLt_int q
     | false=>exact kat_one _ _ (lt_int q)
  | inr a =>
   cases y with
   | inl c=>cases h.1
   | inr c =>
    obtain ⟨t,rfl⟩:=ru
    obtain ⟨t',rfl⟩:=rv
    refine kat_cons (wpAny_eqBool_str ?_)
    unfold KatGo
    by_cases e:a=c
    ·subst e
     rw [if_pos rfl] at q
     rw [if_pos (by simp)]
     exact xie xs ys _ _ (i + 1) h.2 r r' q
    ·rw [if_neg (fun z=>e (Sum.inr.inj z))] at q
     rw [if_neg (by simpa using e)]
     cases (b && i == 0) with
     | true=>exact oneLt_str q
     | false=>exact kat_one _ _ (lt_str q)
theorem xhj {prog:Program} {w:World} {A:Around} {E:Value→Shared→Prop} {s:Shared} {a:Addr} {vs:List Value} {n:Nat} {P:PySem.Fin→Shared→Prop}
    (h:s.heap.get? a=some (seqObj "list" vs.toArray n)) (h2:vs.length < 2) (q':P (.done (.ret .none)) { s with heap:=sortedHeap s.heap a vs vs.toArray }) :
    wpAny (model prog w) A (Builtin.«list.sort» { pos:=[.ref a] }) P E s:=by
  obtain ⟨hp,g,d,tk,os⟩:=s
  rcases vs with _ | ⟨v,_ | ⟨v',r⟩⟩
  · rw [list_sort_plain]
    repeat (any_goals (first | assumption | wp_step))
    show wpAny _ _ (pure (PUnit.unit,SortSt.mk' general' ((#[]:Array Value).zip #[]) #[] 7 none)) _ _ _
    refine wpAny_pure ?_
    have e3:Array.map (fun x=>x.snd) (arrOf (SortSt.mk' general' ((#[]:Array Value).zip #[]) #[] 7 none))=#[]:=by
      show Array.map (fun x=>x.snd) ((#[]:Array Value).zip #[])=#[]
      simp
    simp only [e3]
    have g1:(((hp.update a (Obj.mapSeq fun x=>#[])).push (seqObj "tuple" #[] 0)).push (seqObj "list" #[] 0)).get? a=some (seqObj "list" #[] (n)):=by
      refine Heap.get?_push_of_some _ (Heap.get?_push_of_some _ ?_)
      rw [Heap.get?_update_self _ h rfl]
      rfl
    show wpAny _ _ (seqEpoch a >>= _) _ _ _
    repeat (any_goals (first | assumption | wp_step))
  · rw [list_sort_plain]
    repeat (any_goals (first | assumption | wp_step))
    show wpAny _ _ (pure (PUnit.unit,SortSt.mk' general' ((#[v]:Array Value).zip #[v]) #[] 7 none)) _ _ _
    refine wpAny_pure ?_
    have e3:Array.map (fun x=>x.snd) (arrOf (SortSt.mk' general' ((#[v]:Array Value).zip #[v]) #[] 7 none))=#[v]:=by
      show Array.map (fun x=>x.snd) ((#[v]:Array Value).zip #[v])=#[v]
      simp
    simp only [e3]
    have g1:(((hp.update a (Obj.mapSeq fun x=>#[])).push (seqObj "tuple" #[v] 0)).push (seqObj "list" #[] 0)).get? a=some (seqObj "list" #[] (n + 1)):=by
      refine Heap.get?_push_of_some _ (Heap.get?_push_of_some _ ?_)
      rw [Heap.get?_update_self _ h rfl]
      rfl
    show wpAny _ _ (seqEpoch a >>= _) _ _ _
    repeat (any_goals (first | assumption | wp_step))
  · simp at h2
    omega
theorem xe0 {α:Type} (f:α→Addr):∀ (es:List α),Vals (es.map fun x=>V.ref (f x)) (es.map fun x=>Value.ref (f x))
 | []=>.nil
 | x :: r=>.cons rfl (xe0 f r)
theorem xlo {H:Hp} {kvs:List (List Key × V)} {es:List (List Key × Addr × Value)} (h:KT H kvs es):(∀ x ∈ es,H x.2.1=some (.tup (x.1.map kV)))∧es.map (·.1)=kvs.map (·.1):=by
 induction h with
 | nil=>exact ⟨(fun _ z=>nomatch z),rfl⟩
 | @cons p x kvs es hp r ih =>
  obtain ⟨e1,e2,_⟩:=hp
  refine ⟨fun y hy=>?_,by rw [List.map_cons,List.map_cons,ih.2,e1]⟩
  rcases List.mem_cons.mp hy with rfl | z
  ·rw [← e1]
   exact e2
  ·exact ih.1 y z
theorem xk0 {P:Program} {w:World} {H:Hp} {h:Heap} (ok:HOk P w H h) {b:Bool} {sh:List Bool}:∀ (es:List (List Key × Addr × Value)),(∀ x ∈ es,H x.2.1=some (.tup (x.1.map kV)))→(∀ x ∈ es,shp x.1=b :: sh) →
    ∃ fs,KatTups h (es.map fun x=>Value.ref x.2.1) fs∧fs.length=es.length∧∀ v ∈ fs,if b=true then ∃ i t,v=Value.int i t else ∃ i t,v=Value.str i t
  | [],_,_=>⟨[],KatTups.nil,rfl,fun _ z=>nomatch z⟩
  | x :: es,h1,h2=>by
    obtain ⟨fs,k,l,m⟩:=xk0 ok es (fun y hy=>h1 y (List.mem_cons_of_mem _ hy)) (fun y hy=>h2 y (List.mem_cons_of_mem _ hy))
    obtain ⟨z2,ts,rt,ot,et,ct,nt,dt⟩:=ok x.2.1 _ (h1 x List.mem_cons_self)
    have s1:=h2 x List.mem_cons_self
    obtain ⟨k1,a1,v1⟩:=x
    cases k1 with
    | nil=>cases s1
    | cons k0 kr =>
      simp only [shp,List.map_cons,List.cons.injEq] at s1
      simp only [List.map_cons] at rt
      cases rt with
      | @cons _ u _ us ru rr =>
        refine ⟨u :: fs,KatTups.cons et ct dt (by simp) k,by simp [l],fun v hv=>?_⟩
        rcases List.mem_cons.mp hv with rfl | hv'
        · cases k0 with
          | inl i =>
            obtain ⟨t,rfl⟩:=ru
            rw [if_pos (show b=true from s1.1.symm)]
            exact ⟨i,t,rfl⟩
          | inr i =>
            obtain ⟨t,rfl⟩:=ru
            rw [if_neg (show ¬ b=true by rw [← s1.1]; simp)]
            exact ⟨i,t,rfl⟩
        · exact m v hv'
theorem xhi {X:Cx} {pins:List (Addr × Obj)} {σ:St} {H:Hp} {s:Shared} {h1:Heap} {tk:Nat} {Q:VK} {sh:List Bool} (es':List (List Key × Addr × Value)) (I1:Inv X pins σ H { s with heap:=h1,toks:=tk })
    (hl:es'.length < 64) (km:∀ x ∈ es',H x.2.1=some (.tup (x.1.map kV))) (shE:∀ x ∈ es',shp x.1=sh) (hpos:0 < sh.length) (hnd:(List.map (fun x=>x.fst) es').Nodup)
    (q:∀ (l:Addr) (ts:List (List Key × Addr)),H l=none→ts.Perm (es'.map fun x=>(x.1,x.2.1))→(ts.map (·.1)).Pairwise (fun x y=>lexK x y=true)→Q (.ref l) (upd H l (.lst (ts.map fun t=>.ref t.2)))) :
    wpAny (model X.prog X.w) X.A.in1 (newList (es'.map fun x=>Value.ref x.2.1) >>= fun l=>holding [l] (call (.builtin "list.sort") [l] []) >>= fun _=>ret l) (fun fin s'=>∃ v,fin=Fin.done (Flow.ret v)∧EP X pins σ Q v s') X.xe { s with heap:=h1,toks:=tk }:=by
  have hz:es'.length≤sizeLine:=Nat.le_of_lt (Nat.lt_trans hl (by decide))
  have vals:Vals (es'.map fun x=>V.ref x.2.1) (es'.map fun x=>Value.ref x.2.1):=xe0 (fun x=>x.2.1) es'
  have I2:=I1.lnew (t':=tk) vals (by rw [List.length_map]; exact hz)
  refine wpAny_bind (wpAny_newList ?_ (by rw [List.length_map]; exact hz))
  have fr:H h1.objs.size=none:=I1.fresh
  have gl:(h1.push { cls:=.type "list",data:=.seq (es'.map fun x=>Value.ref x.2.1).toArray }).get? h1.objs.size=some (seqObj "list" (es'.map fun x=>Value.ref x.2.1).toArray 0):=Heap.get?_push_size _ rfl
  refine wpAny_bind (wpAny_holding (wpAny_call_entry slot_list_sort ⟨_,gl,rfl⟩ entry_list_sort ?_ (args_list_sort _)))
  have J1:=I2.lset (l:=h1.objs.size) (its:=es'.map fun x=>Value.ref x.2.1) (its':=[]) (ys:=[]) (f:=fun _=>#[]) (t':=tk) xg gl rfl .nil (Nat.zero_le _)
  have J2:=J1.kept (t':=tk) (h':=(((h1.push { cls:=.type "list",data:=.seq (es'.map fun x=>Value.ref x.2.1).toArray }).update h1.objs.size (Obj.mapSeq fun _=>#[])).push (seqObj "tuple" (es'.map fun x=>Value.ref x.2.1).toArray 0)).push (seqObj "list" #[] 0)) fun b u e=>Heap.get?_push_of_some _ (Heap.get?_push_of_some _ e)
  obtain ⟨z9,its9,n9,r9,hl9,e9⟩:=J2.lstM xg
  have done:∀ (ts:List (List Key × Addr)),ts.Perm (es'.map fun x=>(x.1,x.2.1))→(ts.map (·.1)).Pairwise (fun x y=>lexK x y=true) →
      EP X pins σ Q (.ref h1.objs.size) { s with heap:=sortedHeap (h1.push { cls:=.type "list",data:=.seq (es'.map fun x=>Value.ref x.2.1).toArray }) h1.objs.size (es'.map fun x=>Value.ref x.2.1) (ts.map fun t=>Value.ref t.2).toArray,toks:=tk }:=by
    intro ts pm pw
    have tl:ts.length=es'.length:=by rw [pm.length_eq,List.length_map]
    have J3:=J2.lset (l:=h1.objs.size) (its:=its9) (its':=ts.map fun t=>Value.ref t.2) (ys:=ts.map fun t=>V.ref t.2) (f:=fun _=>(ts.map fun t=>Value.ref t.2).toArray) (t':=tk) xg e9 rfl (xe0 (fun t=>t.2) ts) (by rw [List.length_map,tl]; exact hz)
    rw [xcz,xcz] at J3
    exact ⟨.ref h1.objs.size,_,J3,rfl,q _ ts fr pm pw⟩
  by_cases few:es'.length < 2
  · refine xhj gl (by rw [List.length_map]; exact few) ⟨_,rfl,wpAny_pure ⟨_,rfl,?_⟩⟩
    have:=done (es'.map fun x=>(x.1,x.2.1)) (List.Perm.refl _) ?_
    · rw [List.map_map] at this
      exact this
    · match es',few with
      | [],_=>exact .nil
      | [x],_=>exact List.pairwise_singleton _ _
      | _ :: _ :: _,h=>exact absurd h (by simp)
  · refine xgv gl (by rw [List.length_map]; omega) (by rw [List.length_map]; exact hl) fun s' es1 es2=>?_
    obtain ⟨b,sh0,rfl⟩:∃ b sh0,sh=b :: sh0:=by
      cases sh with
      | nil=>simp at hpos
      | cons b r=>exact ⟨b,r,rfl⟩
    rw [es1] at es2
    subst es2
    have km2:∀ x ∈ es',upd (upd H h1.objs.size (.lst (es'.map fun x=>V.ref x.2.1))) h1.objs.size (.lst []) x.2.1=some (.tup (x.1.map kV)):=fun x hx=>by
      rw [xl (xn (km x hx) fr),xl (xn (km x hx) fr)]
      exact km x hx
    obtain ⟨fs,kt,fl,fm⟩:=xk0 J2.hok es' km2 shE
    have few':2≤es'.length:=by omega
    refine kat_kind (T:=if b=true then .type "int" else .type "str") kt (by omega) (fun v hv=>?_) (by cases b <;> rfl) ⟨rfl,?_⟩
    · have z:=fm v hv
      cases b with
      | true =>
        obtain ⟨i,t,rfl⟩:=z
        exact fun A Q E s _ q=>wpAny_typeOf (T:="int") rfl q
      | false =>
        obtain ⟨i,t,rfl⟩:=z
        exact fun A Q E s _ q=>wpAny_typeOf (T:="str") rfl q
    rw [List.length_map]
    have eAt:∀ i,i < es'.length→es'[i]?=some (es'.getD i ([],0,.none)):=fun i hi=>by
      rw [List.getD_eq_getElem?_getD,List.getElem?_eq_getElem hi]
      rfl
    have eM:∀ i,i < es'.length→es'.getD i ([],0,.none) ∈ es':=fun i hi=>List.mem_of_getElem? (eAt i hi)
    have vAt:∀ i,i < es'.length→(es'.map fun x=>Value.ref x.2.1).getD i .none=.ref (es'.getD i ([],0,.none)).2.1:=fun i hi=>by
      rw [List.getD_eq_getElem?_getD,List.getElem?_map,eAt i hi]
      rfl
    have shI:∀ i j,i < es'.length→j < es'.length→shp (es'.getD i ([],0,.none)).1=shp (es'.getD j ([],0,.none)).1:=fun i j hi hj=>by rw [shE _ (eM i hi),shE _ (eM j hj)]
    refine Srt.sort_wp (lt:=fun i j=>lexK (es'.getD i ([],0,.none)).1 (es'.getD j ([],0,.none)).1) ⟨fun i hi=>xh0 _,fun i j k hi hj hk=>xi3 (shI i j hi hj) (shI j k hj hk),fun i j hi hj ne=>xib (shI i j hi hj) fun e=>ne ?_⟩ (fun i j hi hj Q' q'=>?_) few' fun p arr srt=>⟨rfl,_,rfl,wpAny_pure ⟨_,rfl,?_⟩⟩
    · have e1:(es'.map (·.1))[i]?=(es'.map (·.1))[j]?:=by rw [List.getElem?_map,List.getElem?_map,eAt i hi,eAt j hj]; exact congrArg some e
      exact (List.getElem?_inj (by rw [List.length_map]; exact hi) hnd).mp e1
    · show wpAny _ _ (keyLt' _ ((es'.map fun x=>Value.ref x.2.1).getD i .none) ((es'.map fun x=>Value.ref x.2.1).getD j .none)) _ _ _
      rw [vAt i hi,vAt j hj]
      obtain ⟨_,ti,ri,oi,ei,_,ni,di⟩:=J2.hok _ _ (km2 _ (eM i hi))
      obtain ⟨_,tj,rj,oj,ej,_,nj,dj⟩:=J2.hok _ _ (km2 _ (eM j hj))
      have l1:=Vals.length ri
      have l2:=Vals.length rj
      have l3:=congrArg List.length (shI i j hi hj)
      simp only [List.length_map] at l1 l2 l3
      refine kat_lt ei di ej dj ?_
      rw [decide_eq_false (by simp; omega)]
      exact xie _ _ _ _ 0 (shI i j hi hj) ri rj q'
    have pl:∀ i ∈ p.toList,i < es'.length:=fun i hi=>by
      have:=(Array.Perm.mem_iff arr.pm).mp (Array.mem_toList_iff.mp hi)
      simpa using this
    have:=done (p.toList.map fun i=>((es'.getD i ([],0,.none)).1,(es'.getD i ([],0,.none)).2.1)) ?_ ?_
    · rw [List.map_map] at this
      have e2:(p.map fun i=>(es'.map fun x=>Value.ref x.2.1).getD i .none)=(p.toList.map ((fun t:List Key × Addr=>Value.ref t.2) ∘ fun i=>((es'.getD i ([],0,.none)).1,(es'.getD i ([],0,.none)).2.1))).toArray:=by
        rw [← Array.toList_inj,Array.toList_map]
        exact List.map_congr_left fun i hi=>vAt i (pl i hi)
      rw [e2]
      exact this
    · have e3:(es'.map fun x=>(x.1,x.2.1))=(List.range es'.length).map fun i=>((es'.getD i ([],0,.none)).1,(es'.getD i ([],0,.none)).2.1):=by
        refine List.ext_getElem? fun i=>?_
        by_cases c:i < es'.length
        · rw [List.getElem?_map,eAt i c,List.getElem?_map,List.getElem?_range c]
          rfl
        · rw [List.getElem?_eq_none (by rw [List.length_map]; omega),List.getElem?_eq_none (by simp; omega)]
      rw [e3]
      refine List.Perm.map _ ?_
      have:=Array.Perm.toList arr.pm
      simpa using this
    · rw [List.map_map,List.pairwise_map,List.pairwise_iff_getElem]
      intro i j hi hj hij
      have z:=srt i j hij (by rw [← arr.sz]; simpa using hj)
      have gi:Srt.g p i=p.toList[i]:=Srt.g_at (by rw [← Array.getElem?_toList]; exact List.getElem?_eq_getElem hi)
      have gj:Srt.g p j=p.toList[j]:=Srt.g_at (by rw [← Array.getElem?_toList]; exact List.getElem?_eq_getElem hj)
      rw [gi,gj] at z
      exact z
def xmd:List V→Hp→VK→Prop:=fun xs H Q=>∃ (d:Addr) (kvs:List (List Key × V)) (sh:List Bool),xs=[.ref d]∧H d=some (.dT kvs)∧kvs.length < 64∧(∀ p ∈ kvs,shp p.1=sh)∧0 < sh.length ∧
 ∀ (l:Addr) (ts:List (List Key × Addr)),H l=none→(∀ t ∈ ts,H t.2=some (.tup (t.1.map kV)))→(ts.map (·.1)).Perm (kvs.map (·.1))→(ts.map (·.1)).Pairwise (fun x y=>lexK x y=true)→Q (.ref l) (upd H l (.lst (ts.map fun t=>.ref t.2)))
theorem xiq {X:Cx} (hc:X.calm=true):xct X (.builtin "sorted") xmd:=by
 intro pins s σ H xs us Q I r h
 obtain ⟨d,kvs,sh,rfl,hd,hl,hsh,hpos,q⟩:=h
 obtain ⟨u,rfl,ru⟩:=xdt r
 obtain rfl:u=Value.ref d:=ru
 obtain ⟨z,hsys,es',rel,dd⟩:=xj3 I.hok hd
 obtain ⟨o,es,ep,ho,hx,hdat,hes,hkk,hnd⟩:=dd
 have ln:=Paired.length rel
 have esz:es.size=es'.length:=by rw [← Array.length_toList,hes,List.length_map]
 refine Calls.call_function_entry kind_sorted plain_sorted entry_sorted (args_sorted1 _) ?_
 unfold Builtin.sorted
 refine wpAny_bind (wpAny_pure ?_)
 show wpAny _ _ (collect (.ref d) >>= _) _ _ _
 refine wpAny_bind (kdu_collect (xnx hsys hx hdat) (I.ok.hd hc) ho (by rw [esz,← ln]; exact z) fun h1 tk acc keep items=>?_)
 have acl:acc.toList=es'.map fun x=>Value.ref x.2.1:=by
  refine List.ext_getElem? fun j=>?_
  obtain ⟨i1,i2⟩:=items
  by_cases c:j < es'.length
  ·have c':j < acc.size:=by rw [i1,esz]; exact c
   have e:acc[j]?=some acc[j]:=Array.getElem?_eq_getElem c'
   obtain ⟨en,he,hv⟩:=i2 j acc[j] e
   rw [Array.getElem?_toList,e,hv]
   have he':es.toList[j]?=some en:=by rw [Array.getElem?_toList]; exact he
   rw [hes,List.getElem?_map,List.getElem?_eq_getElem c] at he'
   rw [List.getElem?_map,List.getElem?_eq_getElem c]
   have:=Option.some.inj he'
   rw [← this]
   rfl
  ·rw [List.getElem?_eq_none (by rw [Array.length_toList,i1,esz]; omega),List.getElem?_eq_none (by rw [List.length_map]; omega)]
 rw [acl]
 have I1:Inv X pins σ H { s with heap:=h1,toks:=tk }:=I.kept keep
 obtain ⟨km,ke⟩:=xlo rel
 have shE:∀ x ∈ es',shp x.1=sh:=fun x hx=>by
  have m:x.1 ∈ kvs.map (·.1):=by rw [← ke]; exact List.mem_map.mpr ⟨x,hx,rfl⟩
  obtain ⟨p,hp,e⟩:=List.mem_map.mp m
  rw [← e]
  exact hsh p hp
 refine xhi es' I1 (by rw [← ln]; exact hl) km shE hpos hnd fun l ts fr pm pw=>q l ts fr (fun t ht=>?_) ?_ pw
 ·obtain ⟨x,hx,rfl⟩:=List.mem_map.mp (pm.mem_iff.mp ht)
  exact km x hx
 ·have:=pm.map (·.1)
  rw [List.map_map] at this
  rw [← ke]
  exact this
def xhv:List V→Hp→VK→Prop:=fun xs H Q=>∃ (d:Addr) (ts0:List (List Key × Addr)) (sh:List Bool),xs=[.ref d]∧H d=some (.lst (ts0.map fun t=>.ref t.2))∧ts0.length < 64∧(∀ t ∈ ts0,H t.2=some (.tup (t.1.map kV)))∧(∀ t ∈ ts0,shp t.1=sh)∧0 < sh.length∧(ts0.map (·.1)).Nodup ∧
 ∀ (l:Addr) (ts:List (List Key × Addr)),H l=none→ts.Perm ts0→(ts.map (·.1)).Pairwise (fun x y=>lexK x y=true)→Q (.ref l) (upd H l (.lst (ts.map fun t=>.ref t.2)))
theorem xg8 {α:Type} (f:α→Addr):∀ {es:List α} {us:List Value},Vals (es.map fun x=>V.ref (f x)) us→us=es.map fun x=>Value.ref (f x)
 | [],_,.nil=>rfl
 | x :: es,_,.cons r rs=>by
  cases r
  rw [xg8 f rs]
  rfl
theorem xdq {X:Cx} (hc:X.calm=true):xct X (.builtin "sorted") xhv:=by
 intro pins s σ H xs us Q I r h
 obtain ⟨d,ts0,sh,rfl,hd,hl,km,hsh,hpos,hnd,q⟩:=h
 obtain ⟨u,rfl,ru⟩:=xdt r
 obtain rfl:u=Value.ref d:=ru
 obtain ⟨z,its,n,rv,hlen,el⟩:=I.lstM hd
 have eits:=xg8 (fun t:List Key × Addr=>t.2) rv
 refine Calls.call_function_entry kind_sorted plain_sorted entry_sorted (args_sorted1 _) ?_
 unfold Builtin.sorted
 refine wpAny_bind (wpAny_pure ?_)
 show wpAny _ _ (collect (.ref d) >>= _) _ _ _
 refine wpAny_bind (wpAny_collect_seq d (T:="list") (.inl rfl) el rfl rfl (fun h1 keep=>?_) (by rw [List.size_toArray,eits,List.length_map]; exact Nat.le_of_lt (Nat.lt_trans hl (by decide))))
 have I1:Inv X pins σ H { s with heap:=h1,toks:=s.toks }:=I.kept keep
 have e0:its.toArray.toList=(ts0.map fun t=>(t.1,t.2,Value.none)).map fun x=>Value.ref x.2.1:=by
  rw [List.map_map,eits]
  rfl
 rw [e0]
 refine xhi (ts0.map fun t=>(t.1,t.2,Value.none)) I1 (by rw [List.length_map]; exact hl) (fun x hx=>?_) (fun x hx=>?_) hpos (by rw [List.map_map]; exact hnd) fun l ts fr pm pw=>q l ts fr ?_ pw
 ·obtain ⟨t,ht,rfl⟩:=List.mem_map.mp hx
  exact km t ht
 ·obtain ⟨t,ht,rfl⟩:=List.mem_map.mp hx
  exact hsh t ht
 ·rw [List.map_map] at pm
  have e1:ts0.map ((fun x:List Key × Addr × Value=>(x.1,x.2.1)) ∘ fun t=>(t.1,t.2,Value.none))=ts0:=List.map_id _
  rw [e1] at pm
  exact pm
end L2
set_option maxRecDepth 100000
namespace L2
open PySem PySem.Spec PyProof.Rows XL PySem.W
variable {q0:Bool}
theorem xio {prog:Program} {w:World} {K:Type} [DecidableEq K] {knd:HeapKind prog w K} {A:Around} {E:Value→Shared→Prop} {s:Shared} {d a b:Addr} {xs:List (K × Addr × Value)} {k:K} {v:Value} {i:Nat} {Q:Option DictEntry→Shared→Prop}
    (hr:knd.room A) (hk:knd.is s.heap k a) (dd:Heap.DictOfH knd s.heap d xs) (hi:xs[i]?=some (k,b,v)) (hz:xs.length≤sizeLine)
    (h:∀ h',Heap.DictOfH knd h' d (xs.eraseIdx i)→Heap.SameBut d s.heap h'→Q (some (entryOfKey knd (k,b,v))) { s with heap:=h',toks:=s.toks + knd.draws k }):wpAny (model prog w) A (Builtin.Dict.takeOut d (.ref a)) Q E s:=by
  obtain ⟨o,es,ep,ho,hx,hdat,hes,hkk,hnd⟩:=dd
  have esz:es.size=xs.length:=by rw [← Array.length_toList,hes,List.length_map]
  unfold Builtin.Dict.takeOut
  refine wpAny_holding (wpAny_bind (knd.pyHash hr hk ?_))
  refine wpAny_bind (wpAny_dictFind_heap (s:={ s with toks:=s.toks + knd.draws k }) hr hk ho hdat hes hkk hnd (fun no=>absurd hi (no i (b,v))) fun j p hj=>?_)
  have ji:j=i:=by
    have e1:(xs.map (·.1))[j]?=(xs.map (·.1))[i]?:=by rw [List.getElem?_map,List.getElem?_map,hj,hi]; rfl
    exact (List.getElem?_inj (by rw [List.length_map]; exact (List.getElem?_eq_some_iff.mp hj).1) hnd).mp e1
  subst ji
  refine wpAny_bind (wpAny_dictEntries ho hdat ?_)
  have e:=entry_at hes j
  rw [hi] at e
  rw [e]
  refine wpAny_bind (wpAny_updateDictKeys ho hdat (wpAny_pure (h _ ?_ (Heap.SameBut.update _ _ _))) (by rw [esz]; exact hz) (by have:=size_eraseIdxIfInBounds_le es j; omega))
  refine ⟨_,_,_,Heap.get?_update_self _ ho (Obj.isFreed_of_dict (Obj.data_mapDictKeys hdat _)),hx.mapDictKeys _,Obj.data_mapDictKeys hdat _,?_,fun x hx'=>?_,?_⟩
  · have e2:(es.eraseIdxIfInBounds j).toList=es.toList.eraseIdx j:=by simp
    rw [e2,hes]
    simp [List.eraseIdx_eq_take_drop_succ,List.map_take,List.map_drop]
  · exact knd.keeps (hkk x (List.mem_of_mem_eraseIdx hx')) ho hdat (Heap.SameBut.update _ _ _)
  · exact List.Nodup.sublist (List.Sublist.map _ (List.eraseIdx_sublist _ _)) hnd
theorem Paired.erase {α β:Type} {F:α→β→Prop} {l₁:List α} {l₂:List β} (h:Paired F l₁ l₂):∀ i,Paired F (l₁.eraseIdx i) (l₂.eraseIdx i):=by
 induction h with
 | nil=>exact fun i=>.nil
 | cons r t ih =>
  intro i
  cases i with
  | zero=>exact t
  | succ i=>exact .cons r (ih i)
theorem Paired.at_ {α β:Type} {F:α→β→Prop} {l₁:List α} {l₂:List β} (h:Paired F l₁ l₂):∀ {i:Nat} {x:α},l₁[i]?=some x→∃ y,l₂[i]?=some y∧F x y:=by
 induction h with
 | nil=>intro i x e; simp at e
 | @cons a b l₁ l₂ r t ih =>
  intro i x e
  cases i with
  | zero =>
   simp at e
   subst e
   exact ⟨b,rfl,r⟩
  | succ i=>exact ih (by simpa using e)
theorem xf8 {κ:Type} [DecidableEq κ]:∀ {kvs:List (κ × V)} {i:Nat} {k:κ} {v:V},(kvs.map (·.1)).Nodup→kvs[i]?=some (k,v)→xbv kvs k=kvs.eraseIdx i
 | [],i,k,v,_,h=>by simp at h
 | p :: r,0,k,v,nd,h=>by
  simp at h
  subst h
  rw [List.map_cons,List.nodup_cons] at nd
  show List.filter _ _=r
  rw [List.filter_cons_of_neg (by simp)]
  refine List.filter_eq_self.mpr fun q hq=>?_
  have:q.1≠k:=fun e=>nd.1 (e ▸ List.mem_map.mpr ⟨q,hq,rfl⟩)
  simpa using this
 | p :: r,i + 1,k,v,nd,h=>by
  rw [List.map_cons,List.nodup_cons] at nd
  have h':r[i]?=some (k,v):=by simpa using h
  have ne:p.1≠k:=fun e=>nd.1 (by rw [e]; exact List.mem_map.mpr ⟨(k,v),List.mem_of_getElem? h',rfl⟩)
  show List.filter _ _=p :: r.eraseIdx i
  rw [List.filter_cons_of_pos (by simpa using ne)]
  have:=xf8 nd.2 h'
  unfold xbv at this
  rw [this]
theorem xgx {κ:Type} [DecidableEq κ]:∀ {kvs:List (κ × V)} {k:κ} {v:V},valV kvs k=some v→∃ i:Nat,kvs[i]?=some (k,v)
 | [],k,v,h=>by cases h
 | p :: r,k,v,h=>by
  by_cases e:p.1=k
  ·rw [xdl e] at h
   cases h
   exact ⟨0,by simp [← e]⟩
  ·rw [xcy e] at h
   obtain ⟨i,hi⟩:=xgx h
   exact ⟨i + 1,by simpa using hi⟩
theorem xn4 {X:Cx} {pins:List (Addr × Obj)} {σ:St} {H:Hp} {s:Shared} {A:Around} {E:Value→Shared→Prop} {a b:Addr} {kvs:List (List Key × V)} {k:List Key} {v:V} {Q:Value→Shared→Prop} (hu:A.in1.units < cLine) (I:Inv X pins σ H s) (e:H a=some (.dT kvs)) (eb:H b=some (.tup (k.map kV))) (l:valV kvs k=some v)
    (h:∀ w' s',Inv X pins σ (upd H a (.dT (xbv kvs k))) s'→RelV v w'→Q w' s'):wpAny (model X.prog X.w) A (call (.builtin "dict.pop") [.ref a,.ref b]) Q E s:=by
  obtain ⟨z,hd,xs,rel,dd⟩:=xj3 I.hok e
  obtain ⟨km,ke⟩:=xlo rel
  have ln:=Paired.length rel
  obtain ⟨i,hi⟩:=xgx l
  obtain ⟨x,hx,rx⟩:∃ x,xs[i]?=some x∧((k,v):List Key × V).1=x.1∧H x.2.1=some (.tup (k.map kV))∧RelV v x.2.2:=L2.Paired.at_ rel hi
  obtain ⟨k',b',w'⟩:=x
  obtain ⟨ek,_,rw'⟩:=rx
  simp only at ek
  subst ek
  have dd0:=dd
  obtain ⟨o,es,ep,ho,hxd,hdat,hes,hkk,hnd⟩:=dd
  have ndk:(kvs.map (·.1)).Nodup:=by rw [← ke]; exact hnd
  refine wpAny_call_entry PySem.F.slot_dict_pop ⟨o,ho,hxd.1⟩ PySem.F.entry_dict_pop ?_ (PySem.F.args_dict_pop_2 _ _)
  have ti:s.TypeIs (.ref a) "dict":=⟨o,ho,hxd.1⟩
  unfold Builtin.«dict.pop»
  have esz:es.isEmpty=false:=by
    have:es.size=xs.length:=by rw [← Array.length_toList,hes,List.length_map]
    have:i < xs.length:=(List.getElem?_eq_some_iff.mp hx).1
    rw [Array.isEmpty_eq_false_iff_exists_mem]
    exact ⟨es[i]'(by omega),by simp⟩
  obtain ⟨c0,d0,dat0,sl0⟩:=o
  obtain ⟨x1,x2,x3⟩:=hxd
  simp only at x1 x2 x3 hdat
  subst x1 x2 x3 hdat
  repeat (any_goals (first | assumption | (with_reducible refine wpAny_notOrdered_dict ti ?_) | (with_reducible refine wpAny_dictEntries ho rfl ?_) | ((with_reducible show wpAny _ _ (Builtin.Dict.takeOut _ _) _ _ _); refine xio (show (tupleKind (xaz X.prog X.w)).room A.in1 from hu) (xdr I.hok eb) dd0 hx (by rw [← ln]; exact z) fun h' dd' hs=>?_) | wp_step))
  refine ⟨_,rfl,h w' _ ?_ rw'⟩
  have dd2:=dd'
  obtain ⟨o',es',ep',ho',hx',hd',he',hk',hn'⟩:=dd2
  refine xd4 I (by rw [e]; exact True.intro) hs ⟨o',ho'⟩ ?_
  refine ⟨Nat.le_trans (xik kvs k) z,hd,xs.eraseIdx i,?_,o',es',ep',ho',hx',hd',he',hn'⟩
  rw [xf8 ndk hi]
  refine Paired.mapP (L2.Paired.erase rel i) fun p q zz=>⟨zz.1,?_,zz.2.2⟩
  rw [xl (xac zz.2.1 e (fun z=>nomatch z))]
  exact zz.2.1
def xo8 (td ty:TE):TE:=fun σ H Q=>td σ H fun x H1=>∃ a,x=.ref a∧IsD H1 a∧ty σ H1 fun y H2=>∃ kvs k b v,H2 a=some (.dT kvs)∧y=.ref b∧H2 b=some (.tup (k.map kV))∧valV kvs k=some v∧Q v (upd H2 a (.dT (xbv kvs k)))
section
variable {X:Cx} {o e:Expr} {td ty:TE} {apos cpos:Pos}
theorem xme (hu:X.A.units + 1 < cLine) (ho:PE X o td) (he:PE X e ty) (m:M1 X o "pop" apos e cpos):PE X (.Call (.Attribute o "pop" apos) [e] [] cpos) (xo8 td ty):=by
 intro pins s σ H Q I h
 refine wpAny_Call_method m.base m.few m.line PySem.F.plainAttrs_dict PySem.F.slot_dict_pop PySem.F.type_dict_pop (thn (ho pins s σ H _ I h) fun u s1 ⟨x,H1,I1,rx,a,ex,d,q1⟩=>?_)
 subst ex
 obtain rfl:u=Value.ref a:=rx
 obtain ⟨t1,t2,_⟩:=xih I1 d
 refine ⟨t1,t2,?_⟩
 rw [m.trees]
 refine Calls.callWith_builtin rfl (Calls.evalArgs_plain (Calls.spliced_cons (thn (he pins s1 σ H1 _ I1 q1) fun iv s2 ⟨y,H2,I2,ry,kvs,k,b,v,ea,ey,eb,l,q2⟩=>Calls.spliced_nil ?_)))
 subst ey
 obtain rfl:iv=Value.ref b:=ry
 exact xn4 hu I2 ea eb l fun w' s3 I3 rw'=>⟨v,_,I3,rw',q2⟩
end
end L2
set_option maxRecDepth 100000
namespace L2
open PySem PySem.Spec PyProof.Rows XL PySem.W
variable {q0:Bool}
def xpq (kvs:List (Key × V)) (ty:TE):TE:=fun σ H Q=>ty σ H fun y H1=>∃ (k:Key) (v:V),y=kV k∧valV kvs k=some v∧Q v H1
theorem xi1 {X:Cx} {i:Expr} {ty:TE} {x:Str} {p pos:Pos} {D:Addr} {kvs:List (Key × V)} (hm:X.mg x=some (.ref D)) (g:xho X.w X.K D kvs) (hg:Gl X x) (hi:PE X i ty) (hs:NoSl i) (hd:(x == ("__debug__":Str))=false:=by decide) :
    PE X (.Subscript (.Name x p) i pos) (xpq kvs ty):=by
  intro pins s σ H Q I h
  refine xi4 PySem.F.slot_dict_getitem.lookup hs (thn (xay (v:=.ref D) hg hm rfl hd pins s σ H (fun v H2=>v=.ref D∧H2=H) I ⟨rfl,rfl⟩) fun u s1 ⟨x,H1,I1,rx,e1,e2⟩=>?_)
  subst e1 e2
  obtain rfl:u=Value.ref D:=rx
  refine thn (hi pins s1 σ _ _ I1 h) fun iv s2 ⟨y,H2,I2,ry,k,v,ey,l,q⟩=>?_
  subst ey
  obtain ⟨vs,rel,dd⟩:=xh8 I2 g
  obtain ⟨w',hw,rw'⟩:=RelO.some_of (v:=v) (o:=valueAt vs k) (by rw [← l]; exact rel.val k)
  exact ⟨dd.typeIs,wpAny_getItem_of (xcd ry) dd.mapOf hw ⟨v,H2,I2.tok _,rw',q⟩⟩
end L2
set_option maxRecDepth 100000
set_option maxHeartbeats 1000000
namespace L2
open PySem PySem.Spec PyProof.Rows XL PySem.W
inductive DV where
 | non
 | bl (b:Bool)
 | int (i:Int)
 | str (x:Str)
 | tup (xs:List DV)
 | lst (xs:List DV)
mutual
def dEq:DV→DV→Bool
 | .non,.non=>true
 | .bl a,.bl b=>a == b
 | .bl a,.int b=>(if a then 1 else 0) == b
 | .int a,.bl b=>a == (if b then 1 else 0)
 | .int a,.int b=>a == b
 | .str a,.str b=>a == b
 | .tup xs,.tup ys=>dEqs xs ys
 | .lst xs,.lst ys=>dEqs xs ys
 | _,_=>false
def dEqs:List DV→List DV→Bool
 | [],[]=>true
 | x :: xs,y :: ys=>dEq x y && dEqs xs ys
 | _,_=>false
end
mutual
theorem xbt:∀ d,dEq d d=true
 | .non=>rfl
 | .bl _=>by simp [dEq]
 | .int _=>by simp [dEq]
 | .str _=>by simp [dEq]
 | .tup xs=>by simp only [dEq]; exact xdc xs
 | .lst xs=>by simp only [dEq]; exact xdc xs
theorem xdc:∀ xs,dEqs xs xs=true
 | []=>rfl
 | x :: xs=>by simp only [dEqs,Bool.and_eq_true]; exact ⟨xbt x,xdc xs⟩
end
mutual
def DV.pl:DV→Bool
 | .bl _=>false
 | .tup xs=>pls xs
 | .lst xs=>pls xs
 | _=>true
def pls:List DV→Bool
 | []=>true
 | x :: xs=>x.pl && pls xs
end
mutual
theorem xlr:∀ {d e:DV},d.pl=true→e.pl=true→dEq d e=true→d=e
 | .non,.non,_,_,_=>rfl
 | .int a,.int b,_,_,h=>by simp only [dEq,beq_iff_eq] at h; rw [h]
 | .str a,.str b,_,_,h=>by simp only [dEq,beq_iff_eq] at h; rw [h]
 | .tup xs,.tup ys,p,q,h=>by
  simp only [dEq] at h
  simp only [DV.pl] at p q
  rw [xgu p q h]
 | .lst xs,.lst ys,p,q,h=>by
  simp only [dEq] at h
  simp only [DV.pl] at p q
  rw [xgu p q h]
 | .bl _,_,p,_,_=>by simp [DV.pl] at p
 | .non,.bl _,_,q,_=>by simp [DV.pl] at q
 | .int _,.bl _,_,q,_=>by simp [DV.pl] at q
 | .str _,.bl _,_,q,_=>by simp [DV.pl] at q
 | .tup _,.bl _,_,q,_=>by simp [DV.pl] at q
 | .lst _,.bl _,_,q,_=>by simp [DV.pl] at q
 | .non,.int _,_,_,h=>by simp [dEq] at h
 | .non,.str _,_,_,h=>by simp [dEq] at h
 | .non,.tup _,_,_,h=>by simp [dEq] at h
 | .non,.lst _,_,_,h=>by simp [dEq] at h
 | .int _,.non,_,_,h=>by simp [dEq] at h
 | .int _,.str _,_,_,h=>by simp [dEq] at h
 | .int _,.tup _,_,_,h=>by simp [dEq] at h
 | .int _,.lst _,_,_,h=>by simp [dEq] at h
 | .str _,.non,_,_,h=>by simp [dEq] at h
 | .str _,.int _,_,_,h=>by simp [dEq] at h
 | .str _,.tup _,_,_,h=>by simp [dEq] at h
 | .str _,.lst _,_,_,h=>by simp [dEq] at h
 | .tup _,.non,_,_,h=>by simp [dEq] at h
 | .tup _,.int _,_,_,h=>by simp [dEq] at h
 | .tup _,.str _,_,_,h=>by simp [dEq] at h
 | .tup _,.lst _,_,_,h=>by simp [dEq] at h
 | .lst _,.non,_,_,h=>by simp [dEq] at h
 | .lst _,.int _,_,_,h=>by simp [dEq] at h
 | .lst _,.str _,_,_,h=>by simp [dEq] at h
 | .lst _,.tup _,_,_,h=>by simp [dEq] at h
theorem xgu:∀ {xs ys:List DV},pls xs=true→pls ys=true→dEqs xs ys=true→xs=ys
 | [],[],_,_,_=>rfl
 | x :: xs,y :: ys,p,q,h=>by
  simp only [pls,Bool.and_eq_true] at p q
  simp only [dEqs,Bool.and_eq_true] at h
  rw [xlr p.1 q.1 h.1,xgu p.2 q.2 h.2]
 | [],_ :: _,_,_,h=>by simp [dEqs] at h
 | _ :: _,[],_,_,h=>by simp [dEqs] at h
end
theorem xnb {d e:DV} {α:Type} {x y:α} [DecidableEq α] (p:d.pl=true) (q:e.pl=true) (f:d=e ↔ x=y):dEq d e=decide (x=y):=by
 by_cases c:x=y
 ·rw [decide_eq_true c,f.mpr c]
  exact xbt _
 ·rw [decide_eq_false c]
  cases z:dEq d e with
  | false=>rfl
  | true=>exact absurd (f.mp (xlr p q z)) c
theorem xfz:∀ {xs ys:List DV} {e:Nat→Bool},(∀ (j:Nat) (x y:DV),xs[j]?=some x→ys[j]?=some y→e j=dEq x y)→((List.range (min xs.length ys.length)).all e && xs.length == ys.length)=dEqs xs ys
 | [],[],_,_=>rfl
 | [],_ :: _,_,_=>by simp [dEqs]
 | _ :: _,[],_,_=>by simp [dEqs]
 | x :: xs,y :: ys,e,h=>by
  have ih:=xfz (xs:=xs) (ys:=ys) (e:=fun j=>e (j + 1)) (fun j a b ha hb=>h (j + 1) a b (by simpa using ha) (by simpa using hb))
  have h0:=h 0 x y rfl rfl
  rw [List.length_cons,List.length_cons,show min (xs.length + 1) (ys.length + 1)=min xs.length ys.length + 1 by omega,List.range_succ_eq_map,List.all_cons,List.all_map]
  show _=(dEq x y && dEqs xs ys)
  rw [← ih,h0]
  have z:((xs.length + 1 == ys.length + 1):Bool)=(xs.length == ys.length):=by
   rw [Bool.eq_iff_iff]
   simp
  rw [z,Bool.and_assoc]
  rfl
theorem xil:∀ {xs ys:List DV},xs.length≠ys.length→dEqs xs ys=false
 | [],[],h=>absurd rfl h
 | [],_ :: _,_=>rfl
 | _ :: _,[],_=>rfl
 | x :: xs,y :: ys,h=>by
  show (dEq x y && dEqs xs ys)=false
  rw [xil (xs:=xs) (ys:=ys) (fun z=>h (by simp [z]))]
  exact Bool.and_false _
inductive Dv (K:PySem.W.Frag) (H:Hp):Nat→V→DV→Prop
 | non {n:Nat}:Dv K H n .non .non
 | bl {n:Nat} {b:Bool}:Dv K H n (.bl b) (.bl b)
 | int {n:Nat} {b:Int}:Dv K H n (.int b) (.int b)
 | str {n:Nat} {b:Str}:Dv K H n (.str b) (.str b)
 | tup {n:Nat} {a:Addr} {xs:List V} {ds:List DV} (ha:SqT K H a xs) (hl:xs.length=ds.length) (h:∀ (j:Nat) (x:V) (d:DV),xs[j]?=some x→ds[j]?=some d→Dv K H n x d):Dv K H (n + 1) (.ref a) (.tup ds)
 | lst {n:Nat} {a:Addr} {xs:List V} {ds:List DV} (ha:SqL K H a xs) (hl:xs.length=ds.length) (h:∀ (j:Nat) (x:V) (d:DV),xs[j]?=some x→ds[j]?=some d→Dv K H n x d):Dv K H (n + 1) (.ref a) (.lst ds)
section
variable {X:Cx} {pins:List (Addr × Obj)} {σ:St} {H:Hp} {s:Shared}
theorem xhf {h:Heap} {a:Addr} {i j:Array Value} (p:h.IsTuple a i) (q:PlainL h a j):False:=by
 obtain ⟨o,e,c,_⟩:=p
 obtain ⟨o',n,e',c',_⟩:=q
 rw [e] at e'
 cases e'
 rw [c] at c'
 exact absurd c' (by decide)
theorem xlb {xs ys:List DV} (h:xs.length=ys.length) (f:∀ (j:Nat) (x y:DV),xs[j]?=some x→ys[j]?=some y→x=y):xs=ys:=by
 refine List.ext_getElem? fun j=>?_
 by_cases c:j < xs.length
 ·rw [List.getElem?_eq_getElem c,List.getElem?_eq_getElem (by omega),f j _ _ (List.getElem?_eq_getElem c) (List.getElem?_eq_getElem (by omega))]
 ·rw [List.getElem?_eq_none (by omega),List.getElem?_eq_none (by omega)]
theorem xh3 (I:Inv X pins σ H s) {n:Nat} {x:V} {d:DV} (h:Dv X.K H n x d):∀ {m:Nat} {e:DV},Dv X.K H m x e→d=e:=by
 induction h with
 | non=>intro m e h; cases h; rfl
 | bl=>intro m e h; cases h; rfl
 | int=>intro m e h; cases h; rfl
 | str=>intro m e h; cases h; rfl
 | @tup n a xs ds ha hl h ih =>
  intro m e h2
  cases h2 with
  | @tup m _ ys es hb kl k =>
   obtain rfl:=I.tuple_inj ha hb
   refine congrArg DV.tup (xlb (by omega) fun j d e h1 h2=>?_)
   have lt:j < xs.length:=by
    have:=(List.getElem?_eq_some_iff.mp h1).1
    omega
   exact ih j xs[j] d (List.getElem?_eq_getElem lt) h1 (k j xs[j] e (List.getElem?_eq_getElem lt) h2)
  | @lst m _ ys es hb kl k =>
   obtain ⟨its,_,t1,_⟩:=I.tuple ha
   obtain ⟨its2,_,t2,_⟩:=I.list hb
   exact (xhf t1 t2).elim
 | @lst n a xs ds ha hl h ih =>
  intro m e h2
  cases h2 with
  | @lst m _ ys es hb kl k =>
   obtain rfl:=I.list_inj ha hb
   refine congrArg DV.lst (xlb (by omega) fun j d e h1 h2=>?_)
   have lt:j < xs.length:=by
    have:=(List.getElem?_eq_some_iff.mp h1).1
    omega
   exact ih j xs[j] d (List.getElem?_eq_getElem lt) h1 (k j xs[j] e (List.getElem?_eq_getElem lt) h2)
  | @tup m _ ys es hb kl k =>
   obtain ⟨its,_,t1,_⟩:=I.tuple hb
   obtain ⟨its2,_,t2,_⟩:=I.list ha
   exact (xhf t1 t2).elim
def at2 (f:DV→DV→Bool) (ds es:List DV) (j:Nat):Bool:=match ds[j]?,es[j]? with | some d,some e=>f d e | _,_=>false
theorem xf0 {f:DV→DV→Bool} {ds es:List DV} {j:Nat} {d e:DV} (h:ds[j]?=some d) (h2:es[j]?=some e):at2 f ds es j=f d e:=by
 unfold at2
 rw [h,h2]
theorem xhn (I:Inv X pins σ H s) {n:Nat} {x:V} {d:DV} (h:Dv X.K H n x d):∀ {m:Nat} {y:V} {e:DV},Dv X.K H m y e→∀ {A:Around} {u v:Value},A.units + n + m < cLine→RelV x u→RelV y v →
    SeqAt.EqAt A s u v (dEq d e)∧SeqAt.RcAt A s u v (dEq d e)∧SeqAt.RcNeAt A s u v (!dEq d e):=by
  induction h with
  | @non n =>
    intro m y e h2 A u v hu rx ry
    obtain rfl:u=Value.none:=rx
    cases h2 with
    | @non  =>
      obtain rfl:v=Value.none:=ry
      exact ⟨SeqAt.EqAt.same _,SeqAt.RcAt.none_none,SeqAt.RcNeAt.none_none⟩
    | @bl _ b2 =>
      obtain rfl:v=Value.bool _:=ry
      exact ⟨SeqAt.EqAt.none_bool _,SeqAt.RcAt.none_bool _,SeqAt.RcNeAt.none_bool _⟩
    | @int _ b2 =>
      obtain ⟨_,rfl⟩:=ry
      exact ⟨SeqAt.EqAt.none_int _ _,SeqAt.RcAt.none_int _ _,SeqAt.RcNeAt.none_int _ _⟩
    | @str _ b2 =>
      obtain ⟨_,rfl⟩:=ry
      exact ⟨SeqAt.EqAt.none_str _ _,SeqAt.RcAt.none_str _ _,SeqAt.RcNeAt.none_str _ _⟩
    | @tup m b ys es hb kl k =>
      obtain rfl:v=Value.ref _:=ry
      obtain ⟨its2,r2,t2,z2⟩:=I.tuple hb
      have l2:=r2.length
      exact ⟨SeqAt.EqAt.none_tuple t2 (by omega),SeqAt.RcAt.none_tuple t2 (by omega),SeqAt.RcNeAt.none_tuple t2 (by omega)⟩
    | @lst m b ys es hb kl k =>
      obtain rfl:v=Value.ref _:=ry
      obtain ⟨its2,r2,t2,z2⟩:=I.list hb
      have l2:=r2.length
      exact ⟨SeqAt.EqAt.none_list t2.isList (by omega),SeqAt.RcAt.none_list t2.isList (by omega),SeqAt.RcNeAt.none_list t2.isList (by omega)⟩
  | @bl n b1 =>
    intro m y e h2 A u v hu rx ry
    obtain rfl:u=Value.bool _:=rx
    cases h2 with
    | @non  =>
      obtain rfl:v=Value.none:=ry
      exact ⟨SeqAt.EqAt.bool_none _,SeqAt.RcAt.bool_none _,SeqAt.RcNeAt.bool_none _⟩
    | @bl _ b2 =>
      obtain rfl:v=Value.bool _:=ry
      exact ⟨SeqAt.EqAt.bool_bool _ _,SeqAt.RcAt.bool_bool _ _,SeqAt.RcNeAt.bool_bool _ _⟩
    | @int _ b2 =>
      obtain ⟨_,rfl⟩:=ry
      exact ⟨SeqAt.EqAt.bool_int _ _ _,SeqAt.RcAt.bool_int _ _ _,SeqAt.RcNeAt.bool_int _ _ _⟩
    | @str _ b2 =>
      obtain ⟨_,rfl⟩:=ry
      exact ⟨SeqAt.EqAt.bool_str _ _ _,SeqAt.RcAt.bool_str _ _ _,SeqAt.RcNeAt.bool_str _ _ _⟩
    | @tup m b ys es hb kl k =>
      obtain rfl:v=Value.ref _:=ry
      obtain ⟨its2,r2,t2,z2⟩:=I.tuple hb
      have l2:=r2.length
      exact ⟨SeqAt.EqAt.bool_tuple _ t2 (by omega),SeqAt.RcAt.bool_tuple _ t2 (by omega),SeqAt.RcNeAt.bool_tuple _ t2 (by omega)⟩
    | @lst m b ys es hb kl k =>
      obtain rfl:v=Value.ref _:=ry
      obtain ⟨its2,r2,t2,z2⟩:=I.list hb
      have l2:=r2.length
      exact ⟨SeqAt.EqAt.bool_list _ t2.isList (by omega),SeqAt.RcAt.bool_list _ t2.isList (by omega),SeqAt.RcNeAt.bool_list _ t2.isList (by omega)⟩
  | @int n b1 =>
    intro m y e h2 A u v hu rx ry
    obtain ⟨_,rfl⟩:=rx
    cases h2 with
    | @non  =>
      obtain rfl:v=Value.none:=ry
      exact ⟨SeqAt.EqAt.int_none _ _,SeqAt.RcAt.int_none _ _,SeqAt.RcNeAt.int_none _ _⟩
    | @bl _ b2 =>
      obtain rfl:v=Value.bool _:=ry
      exact ⟨SeqAt.EqAt.int_bool _ _ _,SeqAt.RcAt.int_bool _ _ _,SeqAt.RcNeAt.int_bool _ _ _⟩
    | @int _ b2 =>
      obtain ⟨_,rfl⟩:=ry
      exact ⟨SeqAt.EqAt.int_int _ _ _ _,SeqAt.RcAt.int_int _ _ _ _,SeqAt.RcNeAt.int_int _ _ _ _⟩
    | @str _ b2 =>
      obtain ⟨_,rfl⟩:=ry
      exact ⟨SeqAt.EqAt.int_str _ _ _ _,SeqAt.RcAt.int_str _ _ _ _,SeqAt.RcNeAt.int_str _ _ _ _⟩
    | @tup m b ys es hb kl k =>
      obtain rfl:v=Value.ref _:=ry
      obtain ⟨its2,r2,t2,z2⟩:=I.tuple hb
      have l2:=r2.length
      exact ⟨SeqAt.EqAt.int_tuple _ _ t2 (by omega),SeqAt.RcAt.int_tuple _ _ t2 (by omega),SeqAt.RcNeAt.int_tuple _ _ t2 (by omega)⟩
    | @lst m b ys es hb kl k =>
      obtain rfl:v=Value.ref _:=ry
      obtain ⟨its2,r2,t2,z2⟩:=I.list hb
      have l2:=r2.length
      exact ⟨SeqAt.EqAt.int_list _ _ t2.isList (by omega),SeqAt.RcAt.int_list _ _ t2.isList (by omega),SeqAt.RcNeAt.int_list _ _ t2.isList (by omega)⟩
  | @str n b1 =>
    intro m y e h2 A u v hu rx ry
    obtain ⟨_,rfl⟩:=rx
    cases h2 with
    | @non  =>
      obtain rfl:v=Value.none:=ry
      exact ⟨SeqAt.EqAt.str_none _ _,SeqAt.RcAt.str_none _ _,SeqAt.RcNeAt.str_none _ _⟩
    | @bl _ b2 =>
      obtain rfl:v=Value.bool _:=ry
      exact ⟨SeqAt.EqAt.str_bool _ _ _,SeqAt.RcAt.str_bool _ _ _,SeqAt.RcNeAt.str_bool _ _ _⟩
    | @int _ b2 =>
      obtain ⟨_,rfl⟩:=ry
      exact ⟨SeqAt.EqAt.str_int _ _ _ _,SeqAt.RcAt.str_int _ _ _ _,SeqAt.RcNeAt.str_int _ _ _ _⟩
    | @str _ b2 =>
      obtain ⟨_,rfl⟩:=ry
      exact ⟨SeqAt.EqAt.str_str _ _ _ _,SeqAt.RcAt.str_str _ _ _ _,SeqAt.RcNeAt.str_str _ _ _ _⟩
    | @tup m b ys es hb kl k =>
      obtain rfl:v=Value.ref _:=ry
      obtain ⟨its2,r2,t2,z2⟩:=I.tuple hb
      have l2:=r2.length
      exact ⟨SeqAt.EqAt.str_tuple _ _ t2 (by omega),SeqAt.RcAt.str_tuple _ _ t2 (by omega),SeqAt.RcNeAt.str_tuple _ _ t2 (by omega)⟩
    | @lst m b ys es hb kl k =>
      obtain rfl:v=Value.ref _:=ry
      obtain ⟨its2,r2,t2,z2⟩:=I.list hb
      have l2:=r2.length
      exact ⟨SeqAt.EqAt.str_list _ _ t2.isList (by omega),SeqAt.RcAt.str_list _ _ t2.isList (by omega),SeqAt.RcNeAt.str_list _ _ t2.isList (by omega)⟩
  | @tup n a xs ds ha hl h ih =>
    intro m y e h2 A u v hu rx ry
    obtain rfl:u=Value.ref _:=rx
    obtain ⟨its,r1,t1,z1⟩:=I.tuple ha
    have l1:=r1.length
    cases h2 with
    | @non  =>
      obtain rfl:v=Value.none:=ry
      exact ⟨SeqAt.EqAt.tuple_none t1 (by omega),SeqAt.RcAt.tuple_none t1 (by omega),SeqAt.RcNeAt.tuple_none t1 (by omega)⟩
    | @bl _ b2 =>
      obtain rfl:v=Value.bool _:=ry
      exact ⟨SeqAt.EqAt.tuple_bool _ t1 (by omega),SeqAt.RcAt.tuple_bool _ t1 (by omega),SeqAt.RcNeAt.tuple_bool _ t1 (by omega)⟩
    | @int _ b2 =>
      obtain ⟨_,rfl⟩:=ry
      exact ⟨SeqAt.EqAt.tuple_int _ _ t1 (by omega),SeqAt.RcAt.tuple_int _ _ t1 (by omega),SeqAt.RcNeAt.tuple_int _ _ t1 (by omega)⟩
    | @str _ b2 =>
      obtain ⟨_,rfl⟩:=ry
      exact ⟨SeqAt.EqAt.tuple_str _ _ t1 (by omega),SeqAt.RcAt.tuple_str _ _ t1 (by omega),SeqAt.RcNeAt.tuple_str _ _ t1 (by omega)⟩
    | @tup m b ys es hb kl k =>
      obtain rfl:v=Value.ref _:=ry
      obtain ⟨its2,r2,t2,z2⟩:=I.tuple hb
      have l2:=r2.length
      have step:∀ (j:Nat) (h1:j < its.toArray.size) (h2:j < its2.toArray.size),SeqAt.EqAt A.in1 s its.toArray[j] its2.toArray[j] (at2 dEq ds es j):=fun j h1 h2=>by
        obtain ⟨x,hx,rx⟩:=xfk r1 h1
        obtain ⟨y,hy,ry⟩:=xfk r2 h2
        have j1:j < ds.length:=by simp at h1; omega
        have j2:j < es.length:=by simp at h2; omega
        rw [xf0 (List.getElem?_eq_getElem j1) (List.getElem?_eq_getElem j2)]
        exact (ih j x _ hx (List.getElem?_eq_getElem j1) (k j y _ hy (List.getElem?_eq_getElem j2)) (A:=A.in1) (by show A.units + 1 + n + m < cLine; omega) rx ry).1
      have all:=xfz (xs:=ds) (ys:=es) (e:=at2 dEq ds es) fun j x y h1 h2=>xf0 h1 h2
      have both:SeqAt.RcAt A s (.ref a) (.ref b) (dEqs ds es)∧SeqAt.RcNeAt A s (.ref a) (.ref b) (!dEqs ds es):=by
        have z1:=SeqAt.RcAt.tuples (A:=A) (e:=at2 dEq ds es) (show s.heap.IsTuple a its.toArray from t1) (show s.heap.IsTuple b its2.toArray from t2) (by omega) step
        have z2:=SeqAt.RcNeAt.tuples (A:=A) (e:=at2 dEq ds es) (show s.heap.IsTuple a its.toArray from t1) (show s.heap.IsTuple b its2.toArray from t2) (by omega) step
        have e1:its.toArray.size=ds.length:=by simp; omega
        have e2:its2.toArray.size=es.length:=by simp; omega
        rw [e1,e2,all] at z1 z2
        exact ⟨z1,z2⟩
      simp only [dEq]
      refine ⟨?_,both⟩
      by_cases q:a=b
      · subst q
        have ed:DV.tup ds=DV.tup es:=xh3 I (Dv.tup ha hl h) (Dv.tup hb kl k)
        rw [show es=ds by injection ed with z; exact z.symm,xdc]
        exact SeqAt.EqAt.same _
      · exact .of_refs q both.1
    | @lst m b ys es hb kl k =>
      obtain rfl:v=Value.ref _:=ry
      obtain ⟨its2,r2,t2,z2⟩:=I.list hb
      have l2:=r2.length
      exact ⟨SeqAt.EqAt.tuple_list t1 t2.isList (by omega),SeqAt.RcAt.tuple_list t1 t2.isList (by omega),SeqAt.RcNeAt.tuple_list t1 t2.isList (by omega)⟩
  | @lst n a xs ds ha hl h ih =>
    intro m y e h2 A u v hu rx ry
    obtain rfl:u=Value.ref _:=rx
    obtain ⟨its,r1,t1,z1⟩:=I.list ha
    have l1:=r1.length
    cases h2 with
    | @non  =>
      obtain rfl:v=Value.none:=ry
      exact ⟨SeqAt.EqAt.list_none t1.isList (by omega),SeqAt.RcAt.list_none t1.isList (by omega),SeqAt.RcNeAt.list_none t1.isList (by omega)⟩
    | @bl _ b2 =>
      obtain rfl:v=Value.bool _:=ry
      exact ⟨SeqAt.EqAt.list_bool _ t1.isList (by omega),SeqAt.RcAt.list_bool _ t1.isList (by omega),SeqAt.RcNeAt.list_bool _ t1.isList (by omega)⟩
    | @int _ b2 =>
      obtain ⟨_,rfl⟩:=ry
      exact ⟨SeqAt.EqAt.list_int _ _ t1.isList (by omega),SeqAt.RcAt.list_int _ _ t1.isList (by omega),SeqAt.RcNeAt.list_int _ _ t1.isList (by omega)⟩
    | @str _ b2 =>
      obtain ⟨_,rfl⟩:=ry
      exact ⟨SeqAt.EqAt.list_str _ _ t1.isList (by omega),SeqAt.RcAt.list_str _ _ t1.isList (by omega),SeqAt.RcNeAt.list_str _ _ t1.isList (by omega)⟩
    | @tup m b ys es hb kl k =>
      obtain rfl:v=Value.ref _:=ry
      obtain ⟨its2,r2,t2,z2⟩:=I.tuple hb
      have l2:=r2.length
      exact ⟨SeqAt.EqAt.list_tuple t1.isList t2 (by omega),SeqAt.RcAt.list_tuple t1.isList t2 (by omega),SeqAt.RcNeAt.list_tuple t1.isList t2 (by omega)⟩
    | @lst m b ys es hb kl k =>
      obtain rfl:v=Value.ref _:=ry
      obtain ⟨its2,r2,t2,z2⟩:=I.list hb
      have l2:=r2.length
      have step:∀ (j:Nat) (h1:j < its.toArray.size) (h2:j < its2.toArray.size),SeqAt.EqAt A.in1 s its.toArray[j] its2.toArray[j] (at2 dEq ds es j):=fun j h1 h2=>by
        obtain ⟨x,hx,rx⟩:=xfk r1 h1
        obtain ⟨y,hy,ry⟩:=xfk r2 h2
        have j1:j < ds.length:=by simp at h1; omega
        have j2:j < es.length:=by simp at h2; omega
        rw [xf0 (List.getElem?_eq_getElem j1) (List.getElem?_eq_getElem j2)]
        exact (ih j x _ hx (List.getElem?_eq_getElem j1) (k j y _ hy (List.getElem?_eq_getElem j2)) (A:=A.in1) (by show A.units + 1 + n + m < cLine; omega) rx ry).1
      have all:=xfz (xs:=ds) (ys:=es) (e:=at2 dEq ds es) fun j x y h1 h2=>xf0 h1 h2
      have both:SeqAt.RcAt A s (.ref a) (.ref b) (dEqs ds es)∧SeqAt.RcNeAt A s (.ref a) (.ref b) (!dEqs ds es):=by
        have e1:its.toArray.size=ds.length:=by simp; omega
        have e2:its2.toArray.size=es.length:=by simp; omega
        by_cases c:ds.length=es.length
        · have z1:=SeqAt.RcAt.lists (A:=A) (e:=at2 dEq ds es) t1.isList t2.isList (by omega) (by omega) step
          have z2:=SeqAt.RcNeAt.lists (A:=A) (e:=at2 dEq ds es) t1.isList t2.isList (by omega) (by omega) step
          have all':(List.range ds.length).all (at2 dEq ds es)=dEqs ds es:=by
            rw [← all,c,Nat.min_self]
            simp
          rw [e1,all'] at z1 z2
          exact ⟨z1,z2⟩
        · rw [xil c]
          exact ⟨SeqAt.RcAt.lists_lengths (A:=A) t1.isList t2.isList (by rw [e1,e2]; simpa using c) (by omega),SeqAt.RcNeAt.lists_lengths (A:=A) t1.isList t2.isList (by rw [e1,e2]; simpa using c) (by omega)⟩
      simp only [dEq]
      refine ⟨?_,both⟩
      by_cases q:a=b
      · subst q
        have ed:DV.lst ds=DV.lst es:=xh3 I (Dv.lst ha hl h) (Dv.lst hb kl k)
        rw [show es=ds by injection ed with z; exact z.symm,xdc]
        exact SeqAt.EqAt.same _
      · exact .of_refs q both.1
end
theorem Same.seqL {K:PySem.W.Frag} {H H':Hp} {a:Addr} {xs:List V} (s:Same H H') (h:SqL K H a xs):SqL K H' a xs:=by
 rcases h with (h | ⟨ob,h⟩) | h
 ·exact .inl (.inl (s _ _ h))
 ·exact .inl (.inr ⟨ob,s _ _ h⟩)
 ·exact .inr h
def rEqV (K:PySem.W.Frag):R2:=fun x y H Q=>∃ (n m:Nat) (d e:DV),Dv K H n x d∧Dv K H m y e∧n≤9∧m≤9∧Q (.bl (dEq d e)) H
def rNeV (K:PySem.W.Frag):R2:=fun x y H Q=>∃ (n m:Nat) (d e:DV),Dv K H n x d∧Dv K H m y e∧n≤9∧m≤9∧Q (.bl (!dEq d e)) H
def rInV (K:PySem.W.Frag) (neg:Bool):R2:=fun x y H Q=>∃ (n m:Nat) (d:DV) (es:List DV),Dv K H n x d∧Dv K H m y (.lst es)∧n≤9∧m≤9∧Q (.bl (if neg then !es.any (fun z=>dEq z d) else es.any fun z=>dEq z d)) H
section
variable {X:Cx}
theorem xii (hu:X.A.units + 20 < cLine):OpR X (compareOp .Eq) (rEqV X.K):=by
 intro pins s σ H x y u v Q I rx ry h
 obtain ⟨n,m,d,e,h1,h2,hn,hm,q⟩:=h
 exact (xhn I h1 h2 (A:=X.A) (by omega) rx ry).2.1 X.prog X.w X.xe _ ⟨.bl _,H,I,rfl,q⟩
theorem xb1 (hu:X.A.units + 20 < cLine):OpR X (compareOp .NotEq) (rNeV X.K):=by
 intro pins s σ H x y u v Q I rx ry h
 obtain ⟨n,m,d,e,h1,h2,hn,hm,q⟩:=h
 exact PySem.W.cmp_ofNotEq ((xhn I h1 h2 (A:=X.A) (by omega) rx ry).2.2 X.prog X.w X.xe _ ⟨.bl _,H,I,rfl,q⟩)
theorem xhz {α β:Type} {f:α→Bool} {g:β→Bool}:∀ {xs:List α} {ys:List β},xs.length=ys.length→(∀ (j:Nat) (x:α) (y:β),xs[j]?=some x→ys[j]?=some y→f x=g y)→xs.any f=ys.any g
 | [],[],_,_=>rfl
 | [],_ :: _,h,_=>by cases h
 | _ :: _,[],h,_=>by cases h
 | x :: xs,y :: ys,h,k=>by
  rw [List.any_cons,List.any_cons,k 0 x y rfl rfl,xhz (xs:=xs) (ys:=ys) (by simpa using h) fun j a b h1 h2=>k (j + 1) a b (by simpa using h1) (by simpa using h2)]
noncomputable def eOf (K:PySem.W.Frag) (H:Hp) (m:Nat) (d:DV) (z:V):Bool:=@dite Bool (∃ e,Dv K H m z e) (Classical.propDecidable _) (fun h=>dEq h.choose d) fun _=>false
theorem xgb {pins:List (Addr × Obj)} {σ:St} {H:Hp} {s:Shared} (I:Inv X pins σ H s) {m:Nat} {d e:DV} {z:V} (h:Dv X.K H m z e):eOf X.K H m d z=dEq e d:=by
 unfold eOf
 rw [dif_pos ⟨e,h⟩]
 have ex:∃ e,Dv X.K H m z e:=⟨e,h⟩
 rw [xh3 I ex.choose_spec h]
theorem xkr (hu:X.A.units + 20 < cLine):OpR X (compareOp .In) (rInV X.K false):=by
 intro pins s σ H x y v u Q I rx ry h
 obtain ⟨n,m,d,es,h1,h2,hn,hm,q⟩:=h
 cases h2 with
 | @lst m a xs _ ha hl k =>
  cases ry
  obtain ⟨its,r,pl,hz⟩:=I.list ha
  have get:∀ z ∈ xs,∃ (j:Nat) (e:DV),xs[j]?=some z∧es[j]?=some e∧Dv X.K H m z e:=fun z hz=>by
   obtain ⟨j,hj⟩:=List.getElem?_of_mem hz
   have lt:j < es.length:=by rw [← hl]; exact (List.getElem?_eq_some_iff.mp hj).1
   exact ⟨j,es[j],hj,List.getElem?_eq_getElem lt,k j z _ hj (List.getElem?_eq_getElem lt)⟩
  refine SeqAt.in_listAt (eU (eOf X.K H m d)) pl.isList (fun w hw=>?_) ⟨.bl _,H,I,rfl,?_⟩
  ·obtain ⟨z,m1,m2⟩:=xgq r w (by simpa using hw)
   obtain ⟨j,e,_,_,he⟩:=get z m1
   rw [xkb m2,xgb I he]
   exact (xhn I he h1 (A:=X.A.in1) (by show X.A.units + 1 + m + n < cLine; omega) m2 rx).1
  ·rw [show its.toArray.any (eU (eOf X.K H m d))=its.any (eU (eOf X.K H m d)) by simp,xhu r,xhz (g:=fun z=>dEq z d) hl fun j z e g1 g2=>xgb I (k j z e g1 g2)]
   exact q
theorem xko (hu:X.A.units + 20 < cLine):OpR X (compareOp .NotIn) (rInV X.K true):=by
 intro pins s σ H x y v u Q I rx ry h
 obtain ⟨n,m,d,es,h1,h2,hn,hm,q⟩:=h
 cases h2 with
 | @lst m a xs _ ha hl k =>
  cases ry
  obtain ⟨its,r,pl,hz⟩:=I.list ha
  have get:∀ z ∈ xs,∃ (j:Nat) (e:DV),xs[j]?=some z∧es[j]?=some e∧Dv X.K H m z e:=fun z hz=>by
   obtain ⟨j,hj⟩:=List.getElem?_of_mem hz
   have lt:j < es.length:=by rw [← hl]; exact (List.getElem?_eq_some_iff.mp hj).1
   exact ⟨j,es[j],hj,List.getElem?_eq_getElem lt,k j z _ hj (List.getElem?_eq_getElem lt)⟩
  refine SeqAt.notIn_listAt (eU (eOf X.K H m d)) pl.isList (fun w hw=>?_) ⟨.bl _,H,I,rfl,?_⟩
  ·obtain ⟨z,m1,m2⟩:=xgq r w (by simpa using hw)
   obtain ⟨j,e,_,_,he⟩:=get z m1
   rw [xkb m2,xgb I he]
   exact (xhn I he h1 (A:=X.A.in1) (by show X.A.units + 1 + m + n < cLine; omega) m2 rx).1
  ·rw [show its.toArray.any (eU (eOf X.K H m d))=its.any (eU (eOf X.K H m d)) by simp,xhu r,xhz (g:=fun z=>dEq z d) hl fun j z e g1 g2=>xgb I (k j z e g1 g2)]
   exact q
end
end L2
set_option maxRecDepth 100000
set_option maxHeartbeats 1000000
namespace L2
open PySem PySem.Spec PyProof.Rows XL PySem.W
def Tp (H H':Hp):Prop:=∀ b xs,H b=some (.tup xs)→H' b=some (.tup xs)
theorem Same.tp {H H':Hp} (s:Same H H'):Tp H H':=fun b xs e=>s b _ e
theorem Tp.trans {H H' H'':Hp} (s:Tp H H') (r:Tp H' H''):Tp H H'':=fun b xs e=>r b xs (s b xs e)
theorem xlc {H:Hp} {l:Addr} {xs ys:List V} (h:H l=some (.lst xs)):Tp H (upd H l (.lst ys)):=fun b zs e=>by
 rw [xl (fun z=>by rw [z,h] at e; cases e)]
 exact e
section
variable {J:It} {n:Nat} {g:TG} {σ:St} {fr:List Nat} {tc:TT} {te:TE} {l:Addr} {H1:Hp} {Q:VK}
theorem xji (len:Nat) (hlen:len < sizeLine) (hl:H1 l=none) (x:Nat→V) (hgo:∀ i H,i < len→Same H1 H→J.go i H) (hy:∀ i H v H',i < len→Same H1 H→J.yld i H v H'→H'=H∧v=x i) (hst:∀ H,Same H1 H→J.stop len H)
    (p:Nat→Bool) (F:Nat→V→Hp→Prop) (stab:∀ i y H H',Tp H H'→F i y H→F i y H')
    (step:∀ i H2,i < len→Same H1 H2→∀ (N:V→Hp→Prop) (M:Hp→Prop),(∀ y H',Same H2 H'→p i=true→F i y H'→N y H')→(∀ H',Same H2 H'→p i=false→M H') →
      g (x i) (blk0 σ fr n) H2 fun σ' H3=>tc σ' H3 fun b H4=>if b=true then te σ' H4 N else M H4)
    (fin:∀ ys H2,Same H1 H2→H2 l=some (.lst ys)→ys.length=((List.range len).filter p).length→(∀ (j:Nat) (y:V) (i:Nat),ys[j]?=some y→((List.range len).filter p)[j]?=some i→F i y H2)→Q (.ref l) H2):xed J n g σ fr tc te l H1 Q:=by
  refine xcf len (fun i ys H2=>Same H1 H2∧H2 l=some (.lst ys)∧ys.length=((List.range i).filter p).length∧∀ (j:Nat) (y:V) (k:Nat),ys[j]?=some y→((List.range i).filter p)[j]?=some k→F k y H2) ?_ ?_ ?_ ?_
  · refine ⟨fun b u e=>?_,xg,rfl,fun j y k e=>by simp at e⟩
    rw [xl (xn e hl)]
    exact e
  · rintro i ys H2 lt ⟨s,_⟩
    exact hgo i H2 lt s
  · rintro i ys H2 v H3 lt ⟨s,el,ly,f⟩ yl N hN
    obtain ⟨rfl,rfl⟩:=hy i H2 v H3 lt s yl
    refine step i H3 lt s _ _ (fun y H' s' pt hf=>?_) (fun H' s' pf=>?_)
    · have el':=s' _ _ el
      have ylen:ys.length < sizeLine:=by
        rw [ly]
        refine Nat.lt_of_le_of_lt (List.length_filter_le _ _) ?_
        rw [List.length_range]
        omega
      refine ⟨el',ylen,hN _ _ ⟨fun b u e=>?_,xg,?_,fun j z k e1 e2=>?_⟩⟩
      · rw [xl (xn e hl)]
        exact s' _ _ (s _ _ e)
      · rw [List.range_succ,List.filter_append,List.length_append,List.length_append,ly,List.filter_cons_of_pos pt]
        rfl
      · rw [List.range_succ,List.filter_append,List.filter_cons_of_pos pt] at e2
        by_cases c:j < ys.length
        · rw [List.getElem?_append_left c] at e1
          rw [List.getElem?_append_left (by omega)] at e2
          exact stab _ _ _ _ ((Same.tp s').trans (xlc el')) (f j z k e1 e2)
        · rw [List.getElem?_append_right (by omega)] at e1 e2
          rw [← ly] at e2
          cases hj:j - ys.length with
          | zero =>
            rw [hj] at e1 e2
            simp at e1 e2
            subst e1 e2
            exact stab _ _ _ _ (xlc el') hf
          | succ m =>
            rw [hj] at e1
            simp at e1
    · refine hN _ _ ⟨s.trans s',s' _ _ el,?_,fun j z k e1 e2=>?_⟩
      · rw [List.range_succ,List.filter_append,List.filter_cons_of_neg (by simp [pf])]
        simpa using ly
      · rw [List.range_succ,List.filter_append,List.filter_cons_of_neg (by simp [pf])] at e2
        simp only [List.filter_nil,List.append_nil] at e2
        exact stab _ _ _ _ (Same.tp s') (f j z k e1 e2)
  · rintro ys H2 ⟨s,el,ly,f⟩
    exact ⟨hst _ s,fin ys H2 s el ly f⟩
theorem xb8 {K:PySem.W.Frag} {a:Addr} {xs:List V} (hs:SqL K H1 a xs) (hlen:xs.length < sizeLine) (hl:H1 l=none) (p:Nat→Bool) (F:Nat→V→Hp→Prop) (stab:∀ i y H H',Tp H H'→F i y H→F i y H')
    (step:∀ (i:Nat) (x:V) (H2:Hp),xs[i]?=some x→Same H1 H2→∀ (N:V→Hp→Prop) (M:Hp→Prop),(∀ y H',Same H2 H'→p i=true→F i y H'→N y H')→(∀ H',Same H2 H'→p i=false→M H') →
      g x (blk0 σ fr n) H2 fun σ' H3=>tc σ' H3 fun b H4=>if b=true then te σ' H4 N else M H4)
    (fin:∀ ys H2,Same H1 H2→H2 l=some (.lst ys)→ys.length=((List.range xs.length).filter p).length→(∀ (j:Nat) (y:V) (i:Nat),ys[j]?=some y→((List.range xs.length).filter p)[j]?=some i→F i y H2)→Q (.ref l) H2):xed (Itl K a) n g σ fr tc te l H1 Q:=by
  refine xji xs.length hlen hl (fun i=>xs.getD i .non) (fun i H lt s=>⟨xs,xs[i],Same.seqL s hs,List.getElem?_eq_getElem lt⟩) (fun i H v H' lt s y=>?_) (fun H s=>⟨xs,Same.seqL s hs,Nat.le_refl _⟩) p F stab (fun i H2 lt s N M h1 h2=>?_) fin
  · obtain ⟨e,f⟩:=y
    have z:=f xs (Same.seqL s hs)
    refine ⟨e,?_⟩
    simp [z]
  · have e:xs[i]?=some (xs.getD i .non):=by simp [List.getElem?_eq_getElem lt]
    exact step i _ H2 e s N M h1 h2
theorem xid {i:Nat} {x:V} {σ0:St} {H2:Hp} {N:V→Hp→Prop} {M:Hp→Prop} {g:TG} {te:TE} (h:g x σ0 H2 fun σ' H3=>te σ' H3 N):g x σ0 H2 fun σ' H3=>xfl σ' H3 fun b H4=>if b=true then te σ' H4 N else M H4:=by
 have e:(fun (σ':St) (H3:Hp)=>xfl σ' H3 fun b H4=>if b=true then te σ' H4 N else M H4)=fun σ' H3=>te σ' H3 N:=by
  funext σ' H3
  show (if true=true then te σ' H3 N else M H3)=te σ' H3 N
  rw [if_pos rfl]
 rw [e]
 exact h
theorem xde (m:Nat):(List.range m).filter (fun _=>true)=List.range m:=by simp
theorem xep {K:PySem.W.Frag} {a:Addr} {xs:List V} (hs:SqL K H1 a xs) (hlen:xs.length < sizeLine) (hl:H1 l=none) (F:Nat→V→Hp→Prop) (stab:∀ i y H H',Tp H H'→F i y H→F i y H')
    (step:∀ (i:Nat) (x:V) (H2:Hp),xs[i]?=some x→Same H1 H2→∀ (N:V→Hp→Prop),(∀ y H',Same H2 H'→F i y H'→N y H')→g x (blk0 σ fr n) H2 fun σ' H3=>te σ' H3 N)
    (fin:∀ ys H2,Same H1 H2→H2 l=some (.lst ys)→ys.length=xs.length→(∀ (i:Nat) (y:V),ys[i]?=some y→F i y H2)→Q (.ref l) H2):xed (Itl K a) n g σ fr xfl te l H1 Q:=by
  refine xb8 hs hlen hl (fun _=>true) F stab (fun i x H2 hx s N M h1 h2=>xid (i:=i) (step i x H2 hx s N fun y H' s' f=>h1 y H' s' rfl f)) (fun ys H2 s e ly f=>?_)
  rw [xde,List.length_range] at ly
  refine fin ys H2 s e ly fun i y hy=>f i y i hy ?_
  rw [xde,List.getElem?_range (by have:=(List.getElem?_eq_some_iff.mp hy).1; omega)]
theorem xix {lo:Int} {m:Nat} (hlen:m < sizeLine) (hl:H1 l=none) (p:Nat→Bool) (F:Nat→V→Hp→Prop) (stab:∀ i y H H',Tp H H'→F i y H→F i y H')
    (step:∀ (i:Nat) H2,i < m→Same H1 H2→∀ (N:V→Hp→Prop) (M:Hp→Prop),(∀ y H',Same H2 H'→p i=true→F i y H'→N y H')→(∀ H',Same H2 H'→p i=false→M H') →
      g (.int (lo + i)) (blk0 σ fr n) H2 fun σ' H3=>tc σ' H3 fun b H4=>if b=true then te σ' H4 N else M H4)
    (fin:∀ ys H2,Same H1 H2→H2 l=some (.lst ys)→ys.length=((List.range m).filter p).length→(∀ (j:Nat) (y:V) (i:Nat),ys[j]?=some y→((List.range m).filter p)[j]?=some i→F i y H2)→Q (.ref l) H2):xed (Itr lo m) n g σ fr tc te l H1 Q:=by
  exact xji m hlen hl (fun i=>.int (lo + i)) (fun i H lt s=>lt) (fun i H v H' lt s y=>y) (fun H s=>Nat.le_refl _) p F stab (fun i H2 lt s N M h1 h2=>step i H2 lt s N M h1 h2) fin
theorem xf1 {lo:Int} {m:Nat} (hlen:m < sizeLine) (hl:H1 l=none) (F:Nat→V→Hp→Prop) (stab:∀ i y H H',Tp H H'→F i y H→F i y H')
    (step:∀ (i:Nat) H2,i < m→Same H1 H2→∀ (N:V→Hp→Prop),(∀ y H',Same H2 H'→F i y H'→N y H')→g (.int (lo + i)) (blk0 σ fr n) H2 fun σ' H3=>te σ' H3 N)
    (fin:∀ ys H2,Same H1 H2→H2 l=some (.lst ys)→ys.length=m→(∀ (i:Nat) (y:V),ys[i]?=some y→F i y H2)→Q (.ref l) H2):xed (Itr lo m) n g σ fr xfl te l H1 Q:=by
  refine xix hlen hl (fun _=>true) F stab (fun i H2 hi s N M h1 h2=>xid (i:=i) (step i H2 hi s N fun y H' s' f=>h1 y H' s' rfl f)) (fun ys H2 s e ly f=>?_)
  rw [xde,List.length_range] at ly
  refine fin ys H2 s e ly fun i y hy=>f i y i hy ?_
  rw [xde,List.getElem?_range (by have:=(List.getElem?_eq_some_iff.mp hy).1; omega)]
end
theorem xmm {α:Type} {f:α→V}:∀ {as:List α} {ys:List V},ys.length=as.length→(∀ (i:Nat) (y:V) (a:α),ys[i]?=some y→as[i]?=some a→y=f a)→ys=as.map f
 | [],[],_,_=>rfl
 | [],_ :: _,h,_=>by cases h
 | _ :: _,[],h,_=>by cases h
 | a :: as,y :: ys,h,k=>by
  rw [List.map_cons,k 0 y a rfl rfl,xmm (as:=as) (ys:=ys) (by simpa using h) fun i y' a' h1 h2=>k (i + 1) y' a' (by simpa using h1) (by simpa using h2)]
theorem xjd {α:Type} (q:α→Bool):∀ (as:List α) (p:Nat→Bool),(∀ (i:Nat) (a:α),as[i]?=some a→p i=q a)→((List.range as.length).filter p).filterMap (fun i=>as[i]?)=as.filter q
 | [],_,_=>rfl
 | a :: as,p,h=>by
  have ih:=xjd q as (fun i=>p (i + 1)) fun i b hb=>h (i + 1) b (by simpa using hb)
  rw [List.length_cons,List.range_succ_eq_map]
  have e:((List.range as.length).map Nat.succ).filter p=((List.range as.length).filter (fun i=>p (i + 1))).map Nat.succ:=by
   rw [List.filter_map]
   rfl
  have h0:=h 0 a rfl
  by_cases c:q a=true
  ·rw [List.filter_cons_of_pos (by rw [h0]; exact c),List.filter_cons_of_pos c,e,List.filterMap_cons]
   simp only [List.getElem?_cons_zero,List.filterMap_map]
   rw [← ih]
   rfl
  ·rw [List.filter_cons_of_neg (by rw [h0]; exact c),List.filter_cons_of_neg c,e,List.filterMap_map,← ih]
   rfl
theorem xd6 {α:Type} (q:α→Bool) {as:List α} {p:Nat→Bool} (h:∀ (i:Nat) (a:α),as[i]?=some a→p i=q a):((List.range as.length).filter p).length=(as.filter q).length∧∀ j i:Nat,((List.range as.length).filter p)[j]?=some i→as[i]?=(as.filter q)[j]?:=by
 rw [← xjd q as p h]
 have all:∀ i ∈ (List.range as.length).filter p,∃ a,as[i]?=some a:=fun i hi=>by
  have:=List.mem_range.mp (List.mem_filter.mp hi).1
  exact ⟨as[i],List.getElem?_eq_getElem this⟩
 generalize (List.range as.length).filter p=is at all
 induction is with
 | nil=>exact ⟨rfl,fun j i e=>by simp at e⟩
 | cons i is ih =>
  obtain ⟨a,ha⟩:=all i List.mem_cons_self
  obtain ⟨h1,h2⟩:=ih fun k hk=>all k (List.mem_cons_of_mem _ hk)
  rw [List.filterMap_cons,ha]
  refine ⟨by simp [h1],fun j k e=>?_⟩
  cases j with
  | zero =>
   simp at e
   subst e
   exact ha
  | succ m=>exact h2 m k (by simpa using e)
end L2
set_option maxRecDepth 100000
set_option maxHeartbeats 1000000
namespace XL
open PySem PySem.MeetsSeq PySem.MeetsSeq2 PySem.MeetsSeq3 PySem.SeqAt
open AutoSeq1 (wpAny_loadPart')
end XL
namespace L2
open PySem PySem.Spec PyProof.Rows XL PySem.W
theorem Room.mark {q0:Bool} {j k:Nat} {A:Around} (r:Room q0 k A) (h:j≤k) {e:Option Value}:Room false j (A.mark e) :=
 ⟨fun z=>(nomatch z),by have:=r.dp; show A.depth + 3 * j + 5 < _; omega,by have:=r.un; show A.units + 16 * j + 200 < _; omega⟩
def xlq:Expr→Bool
 | .Starred _ _=>false
 | _=>true
theorem xjs {e:Expr} {es:List Expr} {env:Env} (h:xlq e=true):starEach (e :: es) env=(false,eval e env) :: starEach es env:=by
 cases e <;> first | rfl | cases h
theorem x0 {X:Cx} {e:Expr} {es:List Expr} {te:TE} {t:TA} (ha:PE X e te) (hr:PA X es t) (hn:xlq e=true):PA X (e :: es) (xmp te t):=xf ha hr (xjs hn)
section
variable {X:Cx}
end
section
variable {J:It} {n:Nat} {g:TG} {σ:St} {fr:List Nat} {tc:TT} {te:TE} {l:Addr} {H1:Hp} {Q:VK}
end
end L2
set_option maxRecDepth 100000
set_option maxHeartbeats 1000000
namespace XL
open PySem L2
open PyProof.Rows (assign_Tuple)
section
variable {prog:Program} {w:World} {A:Around} {E:Value→Shared→Prop}
theorem xif {it t:Addr} {its:Array Value} (ne:t≠it):∀ (n i:Nat) (s:Shared) (Q:List Value→Shared→Prop),s.heap.IsListIter it t i→s.heap.IsList t its→i + n≤its.size →
    (∀ h',h'.IsListIter it t (i + n)→Heap.SameBut it s.heap h'→Q ((its.toList.drop i).take n) { s with heap:=h' })→wpAny (model prog w) A (draw (.ref it) n) Q E s
  | 0,i,s,Q,hit,_,_,q=>by
    show wpAny _ _ (pure []) Q E s
    exact wpAny_pure (by simpa using q s.heap hit (Heap.SameBut.refl ..))
  | n + 1,i,s,Q,hit,ht,le,q=>by
    have lt:i < its.size:=by omega
    show wpAny _ _ (pyNext (.ref it) >>= _) Q E s
    refine wpAny_bind (wpAny_pyNext_list_item hit ht (x:=its[i]) (by simp [lt]) fun h1 i1 s1=>?_)
    refine wpAny_bind (wpAny_holding (xif ne n (i + 1) _ _ i1 (ht.extBut s1.extBut ne) (by omega) fun h2 i2 s2=>wpAny_pure ?_))
    have e:its.toList.drop i=its[i] :: its.toList.drop (i + 1):=by simp [List.drop_eq_getElem_cons,lt]
    have z:=q h2 (by rw [show i + (n + 1)=i + 1 + n by omega]; exact i2) (s1.trans s2)
    rw [e,List.take_succ_cons] at z
    exact z
theorem xfm {env:Env} {es:List Expr} {k} {pos:Pos} {t:Addr} {its:Array Value} {s:Shared} {Q:Unit→Shared→Prop} (hh:A.handled=none) (ht:s.heap.IsList t its)
    (hn:(assignEach es env).length=its.size) (hs:(assignEach es env).findIdx? (·.1)=none)
    (h:∀ h',Heap.ExtBut s.heap.objs.size s.heap h'→wpAny (model prog w) A (assignInOrder ((assignEach es env).map (·.2)) its.toList) Q E { s with heap:=h' }) :
    wpAny (model prog w) A (assign (.Tuple es k pos) env (.ref t)) Q E s:=by
  rw [assign_Tuple]
  refine wpAny_bind (wpAny_standAt ?_)
  unfold unpack
  rw [hn,hs]
  refine wpAny_bind (wpAny_holding ?_)
  have ne:t≠s.heap.objs.size:=by
    obtain ⟨o,e,_⟩:=ht
    exact Nat.ne_of_lt (Heap.lt_size e)
  unfold unpackItems
  refine wpAny_bind ?_
  unfold notIterableAtAll
  refine wpAny_bind (wpAny_specialOf ht.typeIs slot_list_iter.lookup ?_)
  refine wpAny_pure ?_
  simp only [Bool.false_eq_true,if_false]
  refine wpAny_bind (wpAny_holding (wpAny_pyIter_list ht ?_))
  refine wpAny_bind (wpAny_holding (xif ne its.size 0 _ _ ⟨_,Heap.get?_push_size _ rfl,rfl,rfl⟩ (ht.push _) (by omega) fun h1 i1 s1=>?_))
  rw [show List.take its.size (List.drop 0 its.toList)=its.toList by rw [List.drop_zero]; exact List.take_of_length_le (by simp)]
  rw [if_neg (by simp)]
  have t1:h1.IsList t its:=(ht.push _).extBut s1.extBut ne
  refine wpAny_bind (wpAny_holding (wpAny_pyNext_list_end hh i1 t1 (by simp) fun h2 e2=>?_))
  simp only [Option.isSome_none,Bool.false_eq_true,if_false]
  exact wpAny_pure (h h2 fun b o hb e=>e2 b o hb (s1.extBut b o hb (Heap.get?_push_of_some _ e)))
end
section
variable {X:Cx} {pos:Pos}
def xqg (K:PySem.W.Frag) (n:Nat) (t:TGs):TG:=fun v σ H Q=>∃ a xs,v=.ref a∧SqL K H a xs∧xs.length=n∧t xs σ H Q
theorem xgt {es:List Expr} {k:Nat} {t:TGs} {n:Nat} (hc:X.calm=true) (h:PGs X es t)
    (hn:(assignEach es X.env).length=n:=by rfl) (hst:(assignEach es X.env).findIdx? (·.1)=none:=by rfl):PG X (.Tuple es k pos) (xqg X.K n t):=by
  intro pins s σ H v u Q I r hw
  obtain ⟨a,xs,e1,hq,hl,hw⟩:=hw
  subst e1
  cases r
  obtain ⟨its,rv,pl,hz⟩:=I.list hq
  refine xfm (I.ok.hd hc) pl.isList (by simp [hn,← hl,rv.length]) hst fun h' hx=>?_
  have I1:Inv X pins σ H { s with heap:=h' }:=I.kept (t':=s.toks) fun b o e=>hx b o (Nat.ne_of_lt (Heap.lt_size e)) e
  exact h pins _ σ H xs _ Q I1 (by simpa using rv) hw
end
end XL
set_option maxRecDepth 100000
set_option maxHeartbeats 1000000
namespace L2
open PySem PySem.Spec PyProof.Rows XL PySem.W
section
variable {J:It} {n:Nat} {g:TG} {σ:St} {fr:List Nat} {tc:TT} {te:TE} {l:Addr} {H1:Hp} {Q:VK}
end
end L2
set_option maxRecDepth 100000
set_option maxHeartbeats 1000000
namespace L2
open PySem PySem.Spec PyProof.Rows XL PySem.W
section
variable {J:It} {n:Nat} {g:TG} {σ:St} {fr:List Nat} {tc:TT} {te:TE} {l:Addr} {H1:Hp} {Q:VK}
end
end L2
namespace Geo
def dn (y r:Int):Int:=if y < r then 1 else -1
def upN (y r:Int):Nat:=if y < r then (r - y).toNat else (y - r).toNat
def wayI (b:Bool):Int:=if b then -1 else 1
def lvN (w x:Int) (b:Bool):Nat:=if b then (x + 1).toNat else (w + 2 - x).toNat
def upL (x y r:Int):List (Int × Int):=(List.range (upN y r)).map fun (i:Nat)=>(x,y + (i:Int) * dn y r)
def lvL (w x:Int) (b:Bool) (r:Int):List (Int × Int):=(List.range (lvN w x b)).map fun (i:Nat)=>(x + (i:Int) * wayI b,r)
def cells (w x y:Int) (b:Bool) (r:Int):List (Int × Int):=upL x y r ++ lvL w x b r
def btw (v a b:Int):Prop:=min a b≤v∧v≤max a b
instance (v a b:Int):Decidable (btw v a b):=inferInstanceAs (Decidable (_∧_))
end Geo
set_option maxRecDepth 100000
set_option maxHeartbeats 4000000
namespace S08
open PySem L2 XL
def top (i:Nat):Stmt:=PySem.Challenge.pw_rimnotes_k08_whole_picture.main.body.getD i (.Pass ⟨0,0,0,0⟩)
abbrev s_ad:Stmt:=xav (top 8) 0
abbrev s_aj:Stmt:=xav (top 9) 0
abbrev s_y:Stmt:=xav (top 11) 0
abbrev s_ak:Stmt:=xav (top 12) 0
abbrev s_al:Stmt:=xav (top 15) 0
abbrev s_ao:Stmt:=xav (top 16) 0
abbrev s_aq:Stmt:=xav (top 25) 0
abbrev s_u:Stmt:=xav (top 26) 3
abbrev s_n:Stmt:=xav (top 27) 3
abbrev s_a5:Stmt:=top 28
abbrev s_am:Stmt:=top 30
abbrev s_a3:Stmt:=top 31
abbrev s_ai:Stmt:=xav (top 37) 0
abbrev s_p:Stmt:=xav (top 37) 1
abbrev s_ag:Stmt:=xav (top 37) 2
abbrev s_ah:Stmt:=xav (top 37) 3
abbrev s_g:Stmt:=xav (top 37) 4
abbrev s_k:Stmt:=xav (top 37) 5
abbrev s_i:Stmt:=xav (top 37) 6
abbrev s_q:Stmt:=xav (top 37) 7
abbrev s_l:Stmt:=xav (top 37) 8
abbrev s_af:Stmt:=xav (top 37) 9
abbrev s_x:Stmt:=xav (top 37) 10
abbrev s_j:Stmt:=xav (top 37) 11
abbrev s_aa:Stmt:=xav (top 37) 12
abbrev s_m:Stmt:=xav (top 37) 13
abbrev s_v:Stmt:=xav (top 37) 14
abbrev s_b:Stmt:=xav (top 37) 15
abbrev s_f:Stmt:=xav (top 37) 16
abbrev s_a:Stmt:=xav (top 37) 17
abbrev s_d:Stmt:=xav (top 37) 18
abbrev s_w:Stmt:=top 38
abbrev s_a4:Stmt:=top 40
abbrev s_ap:Stmt:=top 41
abbrev s_aw:Stmt:=top 42
abbrev s_z:Stmt:=top 43
abbrev s_ar:Stmt:=top 44
abbrev s_ax:Stmt:=top 45
abbrev s_ba:Stmt:=top 46
abbrev s_bc:Stmt:=top 47
abbrev s_a0:Stmt:=top 48
abbrev s_az:Stmt:=top 49
abbrev s_an:Stmt:=top 50
abbrev s_ae:Stmt:=top 51
abbrev s_a1:Stmt:=top 52
abbrev xei:Stmt:=top 53
set_option genInjectivity false in
set_option genSizeOf false in
structure Adr where
 f_ad:Addr
 d_ad:FuncData
 f_aj:Addr
 d_aj:FuncData
 f_y:Addr
 d_y:FuncData
 f_ak:Addr
 d_ak:FuncData
 f_al:Addr
 d_al:FuncData
 f_ao:Addr
 d_ao:FuncData
 f_aq:Addr
 d_aq:FuncData
 f_u:Addr
 d_u:FuncData
 f_n:Addr
 d_n:FuncData
 f_a5:Addr
 d_a5:FuncData
 f_am:Addr
 d_am:FuncData
 f_a3:Addr
 d_a3:FuncData
 f_ai:Addr
 d_ai:FuncData
 f_p:Addr
 d_p:FuncData
 T_p:Addr
 f_ag:Addr
 d_ag:FuncData
 f_ah:Addr
 d_ah:FuncData
 f_g:Addr
 d_g:FuncData
 f_k:Addr
 d_k:FuncData
 f_i:Addr
 d_i:FuncData
 f_q:Addr
 d_q:FuncData
 f_l:Addr
 d_l:FuncData
 f_af:Addr
 d_af:FuncData
 f_x:Addr
 d_x:FuncData
 f_j:Addr
 d_j:FuncData
 f_aa:Addr
 d_aa:FuncData
 f_m:Addr
 d_m:FuncData
 f_v:Addr
 d_v:FuncData
 f_b:Addr
 d_b:FuncData
 f_f:Addr
 d_f:FuncData
 f_a:Addr
 d_a:FuncData
 f_d:Addr
 d_d:FuncData
 f_w:Addr
 d_w:FuncData
 f_a4:Addr
 d_a4:FuncData
 f_ap:Addr
 d_ap:FuncData
 f_aw:Addr
 d_aw:FuncData
 f_z:Addr
 d_z:FuncData
 f_ar:Addr
 d_ar:FuncData
 f_ax:Addr
 d_ax:FuncData
 f_ba:Addr
 d_ba:FuncData
 f_bc:Addr
 d_bc:FuncData
 f_a0:Addr
 d_a0:FuncData
 f_az:Addr
 d_az:FuncData
 f_an:Addr
 d_an:FuncData
 f_ae:Addr
 d_ae:FuncData
 f_a1:Addr
 d_a1:FuncData
 f_law:Addr
 d_law:FuncData
 C_bb:Addr
 C_a6:Addr
 C_bf:Addr
 C_bg:Addr
 C_be:Addr
 C_bd:Addr
 C_h:Addr
 C_s:Addr
 C_r:Addr
 C_c:Addr
 C_t:Addr
 C_bh:Addr
 C_bj:Addr
 C_o:Addr
 C_ab:Addr
 C_a7:Addr
 C_as:Addr
 C_at:Addr
 C_au:Addr
 C_av:Addr
 C_ac:Addr
 C_a8:Addr
 C_bl:Addr
 C_a9:Addr
 C_ay:Addr
 C_e:Addr
 D_a2:Addr
structure Txt (w:World) (K:PySem.W.Frag) (mg:Str→Option Value) (t:Adr):Prop where
 g_bb:mg "RimError"=some (.ref t.C_bb)
 g_a6:mg "NoSize"=some (.ref t.C_a6)
 g_bf:mg "NoName"=some (.ref t.C_bf)
 g_bg:mg "NoCell"=some (.ref t.C_bg)
 g_be:mg "NoSides"=some (.ref t.C_be)
 g_bd:mg "NoWindow"=some (.ref t.C_bd)
 g_h:mg "OldPoint"=some (.ref t.C_h)
 g_s:mg "NoPoint"=some (.ref t.C_s)
 g_r:mg "TooMany"=some (.ref t.C_r)
 g_c:mg "SameColumn"=some (.ref t.C_c)
 g_t:mg "SameRow"=some (.ref t.C_t)
 g_bh:mg "NoSide"=some (.ref t.C_bh)
 g_bj:mg "NoRow"=some (.ref t.C_bj)
 g_o:mg "OldSeat"=some (.ref t.C_o)
 g_ab:mg "NoSeat"=some (.ref t.C_ab)
 g_a7:mg "NoRoom"=some (.ref t.C_a7)
 g_as:mg "NoNotes"=some (.ref t.C_as)
 g_at:mg "TooFull"=some (.ref t.C_at)
 g_au:mg "TooTall"=some (.ref t.C_au)
 g_av:mg "BadLine"=some (.ref t.C_av)
 g_ac:mg "BadDrawing"=some (.ref t.C_ac)
 g_a8:mg "NoLine"=some (.ref t.C_a8)
 g_bl:mg "Side"=some (.ref t.C_bl)
 g_a9:mg "LeftSide"=some (.ref t.C_a9)
 g_ay:mg "RightSide"=some (.ref t.C_ay)
 g_e:mg "Picture"=some (.ref t.C_e)
 F_ad:Fun K "__init__" "OldPoint.__init__" s_ad t.f_ad t.d_ad
 b_ad:xag K t.d_ad ["self", "name"] []
 F_aj:Fun K "__init__" "NoPoint.__init__" s_aj t.f_aj t.d_aj
 b_aj:xag K t.d_aj ["self", "name"] []
 F_y:Fun K "__init__" "SameColumn.__init__" s_y t.f_y t.d_y
 b_y:xag K t.d_y ["self", "name"] []
 F_ak:Fun K "__init__" "SameRow.__init__" s_ak t.f_ak t.d_ak
 b_ak:xag K t.d_ak ["self", "name"] []
 F_al:Fun K "__init__" "OldSeat.__init__" s_al t.f_al t.d_al
 b_al:xag K t.d_al ["self", "side", "row"] []
 F_ao:Fun K "__init__" "NoSeat.__init__" s_ao t.f_ao t.d_ao
 b_ao:xag K t.d_ao ["self", "side", "row"] []
 F_aq:Fun K "__init__" "Side.__init__" s_aq t.f_aq t.d_aq
 b_aq:xag K t.d_aq ["self", "width"] []
 F_u:Fun K "across" "LeftSide.across" s_u t.f_u t.d_u
 b_u:xag K t.d_u ["self", "x"] []
 F_n:Fun K "across" "RightSide.across" s_n t.f_n t.d_n
 b_n:xag K t.d_n ["self", "x"] []
 g_a5:mg "side_of"=some (.ref t.f_a5)
 F_a5:Fun K "side_of" "side_of" s_a5 t.f_a5 t.d_a5
 b_a5:xag K t.d_a5 ["word", "width"] []
 g_am:mg "is_whole"=some (.ref t.f_am)
 F_am:Fun K "is_whole" "is_whole" s_am t.f_am t.d_am
 b_am:xag K t.d_am ["thing", "low", "high"] []
 g_a3:mg "is_name"=some (.ref t.f_a3)
 F_a3:Fun K "is_name" "is_name" s_a3 t.f_a3 t.d_a3
 b_a3:xag K t.d_a3 ["thing"] []
 F_ai:Fun K "__init__" "Picture.__init__" s_ai t.f_ai t.d_ai
 b_ai:xag K t.d_ai ["self", "width", "height"] []
 F_p:FunD K "put" "Picture.put" s_p t.T_p t.f_p t.d_p
 b_p:xag K t.d_p ["self", "name", "x", "y", "sides", "low", "high"] []
 F_ag:Fun K "take" "Picture.take" s_ag t.f_ag t.d_ag
 b_ag:xag K t.d_ag ["self", "name"] []
 F_ah:Fun K "move" "Picture.move" s_ah t.f_ah t.d_ah
 b_ah:xag K t.d_ah ["self", "name", "x", "y"] []
 F_g:Fun K "open_seat" "Picture.open_seat" s_g t.f_g t.d_g
 b_g:xag K t.d_g ["self", "side", "row"] []
 F_k:Fun K "shut_seat" "Picture.shut_seat" s_k t.f_k t.d_k
 b_k:xag K t.d_k ["self", "side", "row"] []
 F_i:Fun K "points" "Picture.points" s_i t.f_i t.d_i
 b_i:xag K t.d_i ["self"] []
 F_q:Fun K "seats" "Picture.seats" s_q t.f_q t.d_q
 b_q:xag K t.d_q ["self"] []
 F_l:Fun K "place_of" "Picture.place_of" s_l t.f_l t.d_l
 b_l:xag K t.d_l ["self", "name"] []
 F_af:Fun K "may" "Picture.may" s_af t.f_af t.d_af
 b_af:xag K t.d_af ["self", "name", "side", "row"] []
 F_x:Fun K "length" "Picture.length" s_x t.f_x t.d_x
 b_x:xag K t.d_x ["self", "name", "side", "row"] []
 F_j:Fun K "seats_for" "Picture.seats_for" s_j t.f_j t.d_j
 b_j:xag K t.d_j ["self", "name"] []
 F_aa:Fun K "copied" "Picture.copied" s_aa t.f_aa t.d_aa
 b_aa:xag K t.d_aa ["self"] []
 F_m:Fun K "mirrored" "Picture.mirrored" s_m t.f_m t.d_m
 b_m:xag K t.d_m ["self"] []
 F_v:Fun K "turned" "Picture.turned" s_v t.f_v t.d_v
 b_v:xag K t.d_v ["self"] []
 F_b:Fun K "check_name" "Picture.check_name" s_b t.f_b t.d_b
 b_b:xag K t.d_b ["self", "name"] []
 F_f:Fun K "check_cell" "Picture.check_cell" s_f t.f_f t.d_f
 b_f:xag K t.d_f ["self", "x", "y"] []
 F_a:Fun K "check_lines" "Picture.check_lines" s_a t.f_a t.d_a
 b_a:xag K t.d_a ["self", "name", "x", "y"] []
 F_d:Fun K "check_seat" "Picture.check_seat" s_d t.f_d t.d_d
 b_d:xag K t.d_d ["self", "side", "row"] []
 g_w:mg "picture_with"=some (.ref t.f_w)
 F_w:Fun K "picture_with" "picture_with" s_w t.f_w t.d_w
 b_w:xag K t.d_w ["width", "height", "points", "seats"] []
 g_a4:mg "_law_cell"=some (.ref t.f_a4)
 F_a4:Fun K "_law_cell" "_law_cell" s_a4 t.f_a4 t.d_a4
 b_a4:xag K t.d_a4 ["_law_script", "_law_k"] []
 g_ap:mg "_law_mixed"=some (.ref t.f_ap)
 F_ap:Fun K "_law_mixed" "_law_mixed" s_ap t.f_ap t.d_ap
 b_ap:xag K t.d_ap ["_law_cell_here", "_law_k"] []
 g_aw:mg "_law_told"=some (.ref t.f_aw)
 F_aw:Fun K "_law_told" "_law_told" s_aw t.f_aw t.d_aw
 b_aw:xag K t.d_aw ["_law_e"] []
 g_z:mg "_law_told_more"=some (.ref t.f_z)
 F_z:Fun K "_law_told_more" "_law_told_more" s_z t.f_z t.d_z
 b_z:xag K t.d_z ["_law_e"] []
 g_ar:mg "_law_draws"=some (.ref t.f_ar)
 F_ar:Fun K "_law_draws" "_law_draws" s_ar t.f_ar t.d_ar
 b_ar:xag K t.d_ar ["_law_cell_here", "_law_k"] []
 g_ax:mg "_law_deed"=some (.ref t.f_ax)
 F_ax:Fun K "_law_deed" "_law_deed" s_ax t.f_ax t.d_ax
 b_ax:xag K t.d_ax ["_law_cell_here", "_law_k", "_law_size", "_law_rows"] []
 g_ba:mg "_law_met"=some (.ref t.f_ba)
 F_ba:Fun K "_law_met" "_law_met" s_ba t.f_ba t.d_ba
 b_ba:xag K t.d_ba ["_law_rows", "_law_row"] []
 g_bc:mg "_law_due"=some (.ref t.f_bc)
 F_bc:Fun K "_law_due" "_law_due" s_bc t.f_bc t.d_bc
 b_bc:xag K t.d_bc ["_law_rows", "_law_seats", "_law_deed_here"] []
 g_a0:mg "_law_done"=some (.ref t.f_a0)
 F_a0:Fun K "_law_done" "_law_done" s_a0 t.f_a0 t.d_a0
 b_a0:xag K t.d_a0 ["_law_picture", "_law_deed_here"] []
 g_az:mg "_law_kept"=some (.ref t.f_az)
 F_az:Fun K "_law_kept" "_law_kept" s_az t.f_az t.d_az
 b_az:xag K t.d_az ["_law_rows", "_law_seats", "_law_deed_here"] []
 g_an:mg "_law_turned"=some (.ref t.f_an)
 F_an:Fun K "_law_turned" "_law_turned" s_an t.f_an t.d_an
 b_an:xag K t.d_an ["_law_thing", "_law_way", "_law_width", "_law_height"] []
 g_ae:mg "_law_replaced"=some (.ref t.f_ae)
 F_ae:Fun K "_law_replaced" "_law_replaced" s_ae t.f_ae t.d_ae
 b_ae:xag K t.d_ae ["_law_pictures", "_law_held", "_law_number"] []
 g_a1:mg "_law_end"=some (.ref t.f_a1)
 F_a1:Fun K "_law_end" "_law_end" s_a1 t.f_a1 t.d_a1
 b_a1:xag K t.d_a1 ["_law_picture", "_law_thing"] []
 g_law:mg "law"=some (.ref t.f_law)
 F_law:Fun K "law" "law" xei t.f_law t.d_law
 b_law:xag K t.d_law ["_law_script"] []
 x_bb:XC K t.C_bb
 mk_bb:xan K t.C_bb=true
 x_a6:XC K t.C_a6
 mk_a6:xan K t.C_a6=true
 x_bf:XC K t.C_bf
 mk_bf:xan K t.C_bf=true
 x_bg:XC K t.C_bg
 mk_bg:xan K t.C_bg=true
 x_be:XC K t.C_be
 mk_be:xan K t.C_be=true
 x_bd:XC K t.C_bd
 mk_bd:xan K t.C_bd=true
 x_h:XC K t.C_h
 mk_h:xan K t.C_h=true
 k_h:XMk K t.C_h t.f_ad
 x_s:XC K t.C_s
 mk_s:xan K t.C_s=true
 k_s:XMk K t.C_s t.f_aj
 x_r:XC K t.C_r
 mk_r:xan K t.C_r=true
 x_c:XC K t.C_c
 mk_c:xan K t.C_c=true
 k_c:XMk K t.C_c t.f_y
 x_t:XC K t.C_t
 mk_t:xan K t.C_t=true
 k_t:XMk K t.C_t t.f_ak
 x_bh:XC K t.C_bh
 mk_bh:xan K t.C_bh=true
 x_bj:XC K t.C_bj
 mk_bj:xan K t.C_bj=true
 x_o:XC K t.C_o
 mk_o:xan K t.C_o=true
 k_o:XMk K t.C_o t.f_al
 x_ab:XC K t.C_ab
 mk_ab:xan K t.C_ab=true
 k_ab:XMk K t.C_ab t.f_ao
 x_a7:XC K t.C_a7
 mk_a7:xan K t.C_a7=true
 x_as:XC K t.C_as
 mk_as:xan K t.C_as=true
 x_at:XC K t.C_at
 mk_at:xan K t.C_at=true
 x_au:XC K t.C_au
 mk_au:xan K t.C_au=true
 x_av:XC K t.C_av
 mk_av:xan K t.C_av=true
 x_ac:XC K t.C_ac
 mk_ac:xan K t.C_ac=true
 x_a8:XC K t.C_a8
 mk_a8:xan K t.C_a8=true
 c_bl:Cls K t.C_bl
 ca_bl:PySem.W.findIn K (.ref t.C_bl) "__class__"=some (some (.builtin "object.__class__"))
 mo_bl:PySem.W.mroIn K t.C_bl (.type "object")=some true
 k_bl:Mk K t.C_bl t.f_aq
 c_a9:Cls K t.C_a9
 ca_a9:PySem.W.findIn K (.ref t.C_a9) "__class__"=some (some (.builtin "object.__class__"))
 mo_a9:PySem.W.mroIn K t.C_a9 (.type "object")=some true
 k_a9:Mk K t.C_a9 t.f_aq
 m_u:Meth K t.C_a9 "across" t.f_u
 c_ay:Cls K t.C_ay
 ca_ay:PySem.W.findIn K (.ref t.C_ay) "__class__"=some (some (.builtin "object.__class__"))
 mo_ay:PySem.W.mroIn K t.C_ay (.type "object")=some true
 k_ay:Mk K t.C_ay t.f_aq
 m_n:Meth K t.C_ay "across" t.f_n
 c_e:Cls K t.C_e
 ca_e:PySem.W.findIn K (.ref t.C_e) "__class__"=some (some (.builtin "object.__class__"))
 mo_e:PySem.W.mroIn K t.C_e (.type "object")=some true
 k_e:Mk K t.C_e t.f_ai
 m_p:Meth K t.C_e "put" t.f_p
 m_ag:Meth K t.C_e "take" t.f_ag
 m_ah:Meth K t.C_e "move" t.f_ah
 m_g:Meth K t.C_e "open_seat" t.f_g
 m_k:Meth K t.C_e "shut_seat" t.f_k
 m_i:Meth K t.C_e "points" t.f_i
 m_q:Meth K t.C_e "seats" t.f_q
 m_l:Meth K t.C_e "place_of" t.f_l
 m_af:Meth K t.C_e "may" t.f_af
 m_x:Meth K t.C_e "length" t.f_x
 m_j:Meth K t.C_e "seats_for" t.f_j
 m_aa:Meth K t.C_e "copied" t.f_aa
 m_m:Meth K t.C_e "mirrored" t.f_m
 m_v:Meth K t.C_e "turned" t.f_v
 m_b:Meth K t.C_e "check_name" t.f_b
 m_f:Meth K t.C_e "check_cell" t.f_f
 m_a:Meth K t.C_e "check_lines" t.f_a
 m_d:Meth K t.C_e "check_seat" t.f_d
 cg:PySem.W.specialIn K (.builtin "object.__class__") "__get__"=some (some (.builtin "getset_descriptor.__get__"))
 ct:PySem.W.takesIn K (.builtin "object.__class__")=some true
 n_b1:PySem.W.findIn K (.ref t.C_ay) "width"=some none
 n_bi:PySem.W.findIn K (.ref t.C_e) "placed"=some none
 n_bk:PySem.W.findIn K (.ref t.C_e) "height"=some none
 n_bn:PySem.W.findIn K (.ref t.C_e) "width"=some none
 n_bm:PySem.W.findIn K (.ref t.C_e) "opened"=some none
 n_ew:PySem.W.findIn K (.ref t.C_h) "row"=some none
 n_eq:PySem.W.findIn K (.ref t.C_h) "side"=some none
 n_dg:PySem.W.findIn K (.ref t.C_h) "name"=some none
 n_er:PySem.W.findIn K (.ref t.C_h) "high"=some none
 n_ex:PySem.W.findIn K (.ref t.C_h) "low"=some none
 n_ek:PySem.W.findIn K (.ref t.C_h) "sides"=some none
 n_fl:PySem.W.findIn K (.ref t.C_h) "y"=some none
 n_fm:PySem.W.findIn K (.ref t.C_h) "x"=some none
 n_fb:PySem.W.findIn K (.ref t.C_r) "row"=some none
 n_ey:PySem.W.findIn K (.ref t.C_r) "side"=some none
 n_ez:PySem.W.findIn K (.ref t.C_r) "name"=some none
 n_e0:PySem.W.findIn K (.ref t.C_r) "high"=some none
 n_fc:PySem.W.findIn K (.ref t.C_r) "low"=some none
 n_es:PySem.W.findIn K (.ref t.C_r) "sides"=some none
 n_fp:PySem.W.findIn K (.ref t.C_r) "y"=some none
 n_fq:PySem.W.findIn K (.ref t.C_r) "x"=some none
 n_el:PySem.W.findIn K (.ref t.C_c) "row"=some none
 n_eg:PySem.W.findIn K (.ref t.C_c) "side"=some none
 n_b2:PySem.W.findIn K (.ref t.C_c) "name"=some none
 n_eh:PySem.W.findIn K (.ref t.C_c) "high"=some none
 n_em:PySem.W.findIn K (.ref t.C_c) "low"=some none
 n_d4:PySem.W.findIn K (.ref t.C_c) "sides"=some none
 n_e1:PySem.W.findIn K (.ref t.C_c) "y"=some none
 n_e2:PySem.W.findIn K (.ref t.C_c) "x"=some none
 n_fd:PySem.W.findIn K (.ref t.C_t) "row"=some none
 n_e3:PySem.W.findIn K (.ref t.C_t) "side"=some none
 n_d5:PySem.W.findIn K (.ref t.C_t) "name"=some none
 n_e4:PySem.W.findIn K (.ref t.C_t) "high"=some none
 n_fe:PySem.W.findIn K (.ref t.C_t) "low"=some none
 n_et:PySem.W.findIn K (.ref t.C_t) "sides"=some none
 n_fr:PySem.W.findIn K (.ref t.C_t) "y"=some none
 n_fs:PySem.W.findIn K (.ref t.C_t) "x"=some none
 n_ff:PySem.W.findIn K (.ref t.C_s) "row"=some none
 n_e5:PySem.W.findIn K (.ref t.C_s) "side"=some none
 n_d6:PySem.W.findIn K (.ref t.C_s) "name"=some none
 n_e6:PySem.W.findIn K (.ref t.C_s) "high"=some none
 n_fg:PySem.W.findIn K (.ref t.C_s) "low"=some none
 n_eu:PySem.W.findIn K (.ref t.C_s) "sides"=some none
 n_ft:PySem.W.findIn K (.ref t.C_s) "y"=some none
 n_fu:PySem.W.findIn K (.ref t.C_s) "x"=some none
 n_ei:PySem.W.findIn K (.ref t.C_o) "row"=some none
 n_d7:PySem.W.findIn K (.ref t.C_o) "side"=some none
 n_e7:PySem.W.findIn K (.ref t.C_o) "name"=some none
 n_e8:PySem.W.findIn K (.ref t.C_o) "high"=some none
 n_fh:PySem.W.findIn K (.ref t.C_o) "low"=some none
 n_ev:PySem.W.findIn K (.ref t.C_o) "sides"=some none
 n_fv:PySem.W.findIn K (.ref t.C_o) "y"=some none
 n_fw:PySem.W.findIn K (.ref t.C_o) "x"=some none
 n_ep:PySem.W.findIn K (.ref t.C_ab) "row"=some none
 n_ej:PySem.W.findIn K (.ref t.C_ab) "side"=some none
 n_fi:PySem.W.findIn K (.ref t.C_ab) "name"=some none
 n_fj:PySem.W.findIn K (.ref t.C_ab) "high"=some none
 n_fn:PySem.W.findIn K (.ref t.C_ab) "low"=some none
 n_e9:PySem.W.findIn K (.ref t.C_ab) "sides"=some none
 n_fx:PySem.W.findIn K (.ref t.C_ab) "y"=some none
 n_fy:PySem.W.findIn K (.ref t.C_ab) "x"=some none
 n_fo:PySem.W.findIn K (.ref t.C_bl) "width"=some none
 n_dh:PySem.W.findIn K (.ref t.C_a9) "width"=some none
 n_fa:mg "ValueError"=none
 n_abs:mg "abs"=none
 n_bool:mg "bool"=none
 n_int:mg "int"=none
 n_isinstance:mg "isinstance"=none
 n_len:mg "len"=none
 n_min:mg "min"=none
 n_range:mg "range"=none
 n_sorted:mg "sorted"=none
 n_str:mg "str"=none
 kit_cq:PySem.W.kitOne K (.ref t.C_h) (.ref t.C_bf)=some false
 kit_cr:PySem.W.kitOne K (.ref t.C_h) (.ref t.C_bg)=some false
 kit_ca:PySem.W.kitOne K (.ref t.C_h) (.ref t.C_be)=some false
 kit_b3:PySem.W.kitOne K (.ref t.C_h) (.ref t.C_bd)=some false
 kit_b4:PySem.W.kitOne K (.ref t.C_h) (.ref t.C_h)=some true
 kit_cb:PySem.W.kitOne K (.ref t.C_h) (.ref t.C_r)=some false
 kit_bp:PySem.W.kitOne K (.ref t.C_h) (.ref t.C_c)=some false
 kit_cc:PySem.W.kitOne K (.ref t.C_h) (.ref t.C_t)=some false
 kit_cd:PySem.W.kitOne K (.ref t.C_h) (.ref t.C_s)=some false
 kit_cs:PySem.W.kitOne K (.ref t.C_h) (.ref t.C_bh)=some false
 kit_di:PySem.W.kitOne K (.ref t.C_h) (.ref t.C_bj)=some false
 kit_ce:PySem.W.kitOne K (.ref t.C_h) (.ref t.C_o)=some false
 kit_ct:PySem.W.kitOne K (.ref t.C_h) (.ref t.C_ab)=some false
 kany_h:PySem.W.kitAny K (.ref t.C_h) [.ref t.C_a6,.ref t.C_a7,.ref t.C_as,.ref t.C_at,.ref t.C_au,.ref t.C_av,.ref t.C_ac,.ref t.C_a8]=some false
 kitv_h:PySem.W.kitOne K (.ref t.C_h) (.type "ValueError")=some true
 mro_h:PySem.W.mroIn K t.C_h (.ref t.C_bb)=some true
 kit_dj:PySem.W.kitOne K (.ref t.C_r) (.ref t.C_bf)=some false
 kit_dk:PySem.W.kitOne K (.ref t.C_r) (.ref t.C_bg)=some false
 kit_cu:PySem.W.kitOne K (.ref t.C_r) (.ref t.C_be)=some false
 kit_cf:PySem.W.kitOne K (.ref t.C_r) (.ref t.C_bd)=some false
 kit_cg:PySem.W.kitOne K (.ref t.C_r) (.ref t.C_h)=some false
 kit_cv:PySem.W.kitOne K (.ref t.C_r) (.ref t.C_r)=some true
 kit_bs:PySem.W.kitOne K (.ref t.C_r) (.ref t.C_c)=some false
 kit_cw:PySem.W.kitOne K (.ref t.C_r) (.ref t.C_t)=some false
 kit_cx:PySem.W.kitOne K (.ref t.C_r) (.ref t.C_s)=some false
 kit_dl:PySem.W.kitOne K (.ref t.C_r) (.ref t.C_bh)=some false
 kit_d8:PySem.W.kitOne K (.ref t.C_r) (.ref t.C_bj)=some false
 kit_cy:PySem.W.kitOne K (.ref t.C_r) (.ref t.C_o)=some false
 kit_dm:PySem.W.kitOne K (.ref t.C_r) (.ref t.C_ab)=some false
 kany_r:PySem.W.kitAny K (.ref t.C_r) [.ref t.C_a6,.ref t.C_a7,.ref t.C_as,.ref t.C_at,.ref t.C_au,.ref t.C_av,.ref t.C_ac,.ref t.C_a8]=some false
 kitv_r:PySem.W.kitOne K (.ref t.C_r) (.type "ValueError")=some true
 mro_r:PySem.W.mroIn K t.C_r (.ref t.C_bb)=some true
 ns_r:xno0 K t.C_r=true
 ns_fk:PySem.W.keepIn K (.ref t.C_r)=true
 kit_b5:PySem.W.kitOne K (.ref t.C_c) (.ref t.C_bf)=some false
 kit_b6:PySem.W.kitOne K (.ref t.C_c) (.ref t.C_bg)=some false
 kit_bt:PySem.W.kitOne K (.ref t.C_c) (.ref t.C_be)=some false
 kit_bq:PySem.W.kitOne K (.ref t.C_c) (.ref t.C_bd)=some false
 kit_br:PySem.W.kitOne K (.ref t.C_c) (.ref t.C_h)=some false
 kit_bu:PySem.W.kitOne K (.ref t.C_c) (.ref t.C_r)=some false
 kit_bo:PySem.W.kitOne K (.ref t.C_c) (.ref t.C_c)=some true
 kit_bv:PySem.W.kitOne K (.ref t.C_c) (.ref t.C_t)=some false
 kit_bw:PySem.W.kitOne K (.ref t.C_c) (.ref t.C_s)=some false
 kit_b7:PySem.W.kitOne K (.ref t.C_c) (.ref t.C_bh)=some false
 kit_ch:PySem.W.kitOne K (.ref t.C_c) (.ref t.C_bj)=some false
 kit_bx:PySem.W.kitOne K (.ref t.C_c) (.ref t.C_o)=some false
 kit_b8:PySem.W.kitOne K (.ref t.C_c) (.ref t.C_ab)=some false
 kany_c:PySem.W.kitAny K (.ref t.C_c) [.ref t.C_a6,.ref t.C_a7,.ref t.C_as,.ref t.C_at,.ref t.C_au,.ref t.C_av,.ref t.C_ac,.ref t.C_a8]=some false
 kitv_c:PySem.W.kitOne K (.ref t.C_c) (.type "ValueError")=some true
 mro_c:PySem.W.mroIn K t.C_c (.ref t.C_bb)=some true
 kit_dn:PySem.W.kitOne K (.ref t.C_t) (.ref t.C_bf)=some false
 kit_do:PySem.W.kitOne K (.ref t.C_t) (.ref t.C_bg)=some false
 kit_cz:PySem.W.kitOne K (.ref t.C_t) (.ref t.C_be)=some false
 kit_ci:PySem.W.kitOne K (.ref t.C_t) (.ref t.C_bd)=some false
 kit_cj:PySem.W.kitOne K (.ref t.C_t) (.ref t.C_h)=some false
 kit_c0:PySem.W.kitOne K (.ref t.C_t) (.ref t.C_r)=some false
 kit_by:PySem.W.kitOne K (.ref t.C_t) (.ref t.C_c)=some false
 kit_c1:PySem.W.kitOne K (.ref t.C_t) (.ref t.C_t)=some true
 kit_c2:PySem.W.kitOne K (.ref t.C_t) (.ref t.C_s)=some false
 kit_dp:PySem.W.kitOne K (.ref t.C_t) (.ref t.C_bh)=some false
 kit_d9:PySem.W.kitOne K (.ref t.C_t) (.ref t.C_bj)=some false
 kit_c3:PySem.W.kitOne K (.ref t.C_t) (.ref t.C_o)=some false
 kit_dq:PySem.W.kitOne K (.ref t.C_t) (.ref t.C_ab)=some false
 kany_t:PySem.W.kitAny K (.ref t.C_t) [.ref t.C_a6,.ref t.C_a7,.ref t.C_as,.ref t.C_at,.ref t.C_au,.ref t.C_av,.ref t.C_ac,.ref t.C_a8]=some false
 kitv_t:PySem.W.kitOne K (.ref t.C_t) (.type "ValueError")=some true
 mro_t:PySem.W.mroIn K t.C_t (.ref t.C_bb)=some true
 kit_dr:PySem.W.kitOne K (.ref t.C_s) (.ref t.C_bf)=some false
 kit_ds:PySem.W.kitOne K (.ref t.C_s) (.ref t.C_bg)=some false
 kit_c4:PySem.W.kitOne K (.ref t.C_s) (.ref t.C_be)=some false
 kit_ck:PySem.W.kitOne K (.ref t.C_s) (.ref t.C_bd)=some false
 kit_cl:PySem.W.kitOne K (.ref t.C_s) (.ref t.C_h)=some false
 kit_c5:PySem.W.kitOne K (.ref t.C_s) (.ref t.C_r)=some false
 kit_bz:PySem.W.kitOne K (.ref t.C_s) (.ref t.C_c)=some false
 kit_c6:PySem.W.kitOne K (.ref t.C_s) (.ref t.C_t)=some false
 kit_c7:PySem.W.kitOne K (.ref t.C_s) (.ref t.C_s)=some true
 kit_dt:PySem.W.kitOne K (.ref t.C_s) (.ref t.C_bh)=some false
 kit_ea:PySem.W.kitOne K (.ref t.C_s) (.ref t.C_bj)=some false
 kit_c8:PySem.W.kitOne K (.ref t.C_s) (.ref t.C_o)=some false
 kit_du:PySem.W.kitOne K (.ref t.C_s) (.ref t.C_ab)=some false
 kany_s:PySem.W.kitAny K (.ref t.C_s) [.ref t.C_a6,.ref t.C_a7,.ref t.C_as,.ref t.C_at,.ref t.C_au,.ref t.C_av,.ref t.C_ac,.ref t.C_a8]=some false
 kitv_s:PySem.W.kitOne K (.ref t.C_s) (.type "ValueError")=some true
 mro_s:PySem.W.mroIn K t.C_s (.ref t.C_bb)=some true
 kit_dv:PySem.W.kitOne K (.ref t.C_o) (.ref t.C_bf)=some false
 kit_dw:PySem.W.kitOne K (.ref t.C_o) (.ref t.C_bg)=some false
 kit_c9:PySem.W.kitOne K (.ref t.C_o) (.ref t.C_be)=some false
 kit_cm:PySem.W.kitOne K (.ref t.C_o) (.ref t.C_bd)=some false
 kit_cn:PySem.W.kitOne K (.ref t.C_o) (.ref t.C_h)=some false
 kit_da:PySem.W.kitOne K (.ref t.C_o) (.ref t.C_r)=some false
 kit_b0:PySem.W.kitOne K (.ref t.C_o) (.ref t.C_c)=some false
 kit_db:PySem.W.kitOne K (.ref t.C_o) (.ref t.C_t)=some false
 kit_dc:PySem.W.kitOne K (.ref t.C_o) (.ref t.C_s)=some false
 kit_dx:PySem.W.kitOne K (.ref t.C_o) (.ref t.C_bh)=some false
 kit_eb:PySem.W.kitOne K (.ref t.C_o) (.ref t.C_bj)=some false
 kit_dd:PySem.W.kitOne K (.ref t.C_o) (.ref t.C_o)=some true
 kit_dy:PySem.W.kitOne K (.ref t.C_o) (.ref t.C_ab)=some false
 kany_o:PySem.W.kitAny K (.ref t.C_o) [.ref t.C_a6,.ref t.C_a7,.ref t.C_as,.ref t.C_at,.ref t.C_au,.ref t.C_av,.ref t.C_ac,.ref t.C_a8]=some false
 kitv_o:PySem.W.kitOne K (.ref t.C_o) (.type "ValueError")=some true
 mro_o:PySem.W.mroIn K t.C_o (.ref t.C_bb)=some true
 kit_ec:PySem.W.kitOne K (.ref t.C_ab) (.ref t.C_bf)=some false
 kit_ed:PySem.W.kitOne K (.ref t.C_ab) (.ref t.C_bg)=some false
 kit_dz:PySem.W.kitOne K (.ref t.C_ab) (.ref t.C_be)=some false
 kit_de:PySem.W.kitOne K (.ref t.C_ab) (.ref t.C_bd)=some false
 kit_df:PySem.W.kitOne K (.ref t.C_ab) (.ref t.C_h)=some false
 kit_d0:PySem.W.kitOne K (.ref t.C_ab) (.ref t.C_r)=some false
 kit_b9:PySem.W.kitOne K (.ref t.C_ab) (.ref t.C_c)=some false
 kit_d1:PySem.W.kitOne K (.ref t.C_ab) (.ref t.C_t)=some false
 kit_d2:PySem.W.kitOne K (.ref t.C_ab) (.ref t.C_s)=some false
 kit_ee:PySem.W.kitOne K (.ref t.C_ab) (.ref t.C_bh)=some false
 kit_en:PySem.W.kitOne K (.ref t.C_ab) (.ref t.C_bj)=some false
 kit_d3:PySem.W.kitOne K (.ref t.C_ab) (.ref t.C_o)=some false
 kit_ef:PySem.W.kitOne K (.ref t.C_ab) (.ref t.C_ab)=some true
 kany_ab:PySem.W.kitAny K (.ref t.C_ab) [.ref t.C_a6,.ref t.C_a7,.ref t.C_as,.ref t.C_at,.ref t.C_au,.ref t.C_av,.ref t.C_ac,.ref t.C_a8]=some false
 kitv_ab:PySem.W.kitOne K (.ref t.C_ab) (.type "ValueError")=some true
 mro_ab:PySem.W.mroIn K t.C_ab (.ref t.C_bb)=some true
 v_eo:∃ tk,mg "MOST_ROWS"=some (.int 16 tk)
 v_cp:∃ tk,mg "MOST_COLUMNS"=some (.int 30 tk)
 v_co:∃ tk,mg "MOST_POINTS"=some (.int 12 tk)
 g_a2:mg "MIRRORED_SIDES"=some (.ref t.D_a2)
 D_a2:xho w K t.D_a2 [(.inr "left",.str "right"),(.inr "right",.str "left"),(.inr "both",.str "both")]
theorem txt_mk {w:World} {K:PySem.W.Frag} {h:Heap} {mg:Str→Option Value} (X:K.In h) (G:h.Ns mainGlobals mg) {C_bb C_a6 C_bf C_bg C_be C_bd C_h C_s C_r C_c C_t C_bh C_bj C_o C_ab C_a7 C_as C_at C_au C_av C_ac C_a8 C_bl C_a9 C_ay C_e f_ad f_aj f_y f_ak f_al f_ao f_aq f_u f_n f_a5 f_am f_a3 f_ai f_p T_p f_ag f_ah f_g f_k f_i f_q f_l f_af f_x f_j f_aa f_m f_v f_b f_f f_a f_d f_w f_a4 f_ap f_aw f_z f_ar f_ax f_ba f_bc f_a0 f_az f_an f_ae f_a1 f_law:Addr} {oc_ad kv_ad dc_ad pm_ad cd_ad ct_ad:Value} {od_ad an_ad:Option Addr} {sl_ad:Array (Option Value)} {oc_aj kv_aj dc_aj pm_aj cd_aj ct_aj:Value} {od_aj an_aj:Option Addr} {sl_aj:Array (Option Value)} {oc_y kv_y dc_y pm_y cd_y ct_y:Value} {od_y an_y:Option Addr} {sl_y:Array (Option Value)} {oc_ak kv_ak dc_ak pm_ak cd_ak ct_ak:Value} {od_ak an_ak:Option Addr} {sl_ak:Array (Option Value)} {oc_al kv_al dc_al pm_al cd_al ct_al:Value} {od_al an_al:Option Addr} {sl_al:Array (Option Value)} {oc_ao kv_ao dc_ao pm_ao cd_ao ct_ao:Value} {od_ao an_ao:Option Addr} {sl_ao:Array (Option Value)} {oc_aq kv_aq dc_aq pm_aq cd_aq ct_aq:Value} {od_aq an_aq:Option Addr} {sl_aq:Array (Option Value)} {oc_u kv_u dc_u pm_u cd_u ct_u:Value} {od_u an_u:Option Addr} {sl_u:Array (Option Value)} {oc_n kv_n dc_n pm_n cd_n ct_n:Value} {od_n an_n:Option Addr} {sl_n:Array (Option Value)} {oc_a5 kv_a5 dc_a5 pm_a5 cd_a5 ct_a5:Value} {od_a5 an_a5:Option Addr} {sl_a5:Array (Option Value)} {oc_am kv_am dc_am pm_am cd_am ct_am:Value} {od_am an_am:Option Addr} {sl_am:Array (Option Value)} {oc_a3 kv_a3 dc_a3 pm_a3 cd_a3 ct_a3:Value} {od_a3 an_a3:Option Addr} {sl_a3:Array (Option Value)} {oc_ai kv_ai dc_ai pm_ai cd_ai ct_ai:Value} {od_ai an_ai:Option Addr} {sl_ai:Array (Option Value)} {oc_p kv_p dc_p pm_p cd_p ct_p:Value} {od_p an_p:Option Addr} {sl_p:Array (Option Value)} {oc_ag kv_ag dc_ag pm_ag cd_ag ct_ag:Value} {od_ag an_ag:Option Addr} {sl_ag:Array (Option Value)} {oc_ah kv_ah dc_ah pm_ah cd_ah ct_ah:Value} {od_ah an_ah:Option Addr} {sl_ah:Array (Option Value)} {oc_g kv_g dc_g pm_g cd_g ct_g:Value} {od_g an_g:Option Addr} {sl_g:Array (Option Value)} {oc_k kv_k dc_k pm_k cd_k ct_k:Value} {od_k an_k:Option Addr} {sl_k:Array (Option Value)} {oc_i kv_i dc_i pm_i cd_i ct_i:Value} {od_i an_i:Option Addr} {sl_i:Array (Option Value)} {oc_q kv_q dc_q pm_q cd_q ct_q:Value} {od_q an_q:Option Addr} {sl_q:Array (Option Value)} {oc_l kv_l dc_l pm_l cd_l ct_l:Value} {od_l an_l:Option Addr} {sl_l:Array (Option Value)} {oc_af kv_af dc_af pm_af cd_af ct_af:Value} {od_af an_af:Option Addr} {sl_af:Array (Option Value)} {oc_x kv_x dc_x pm_x cd_x ct_x:Value} {od_x an_x:Option Addr} {sl_x:Array (Option Value)} {oc_j kv_j dc_j pm_j cd_j ct_j:Value} {od_j an_j:Option Addr} {sl_j:Array (Option Value)} {oc_aa kv_aa dc_aa pm_aa cd_aa ct_aa:Value} {od_aa an_aa:Option Addr} {sl_aa:Array (Option Value)} {oc_m kv_m dc_m pm_m cd_m ct_m:Value} {od_m an_m:Option Addr} {sl_m:Array (Option Value)} {oc_v kv_v dc_v pm_v cd_v ct_v:Value} {od_v an_v:Option Addr} {sl_v:Array (Option Value)} {oc_b kv_b dc_b pm_b cd_b ct_b:Value} {od_b an_b:Option Addr} {sl_b:Array (Option Value)} {oc_f kv_f dc_f pm_f cd_f ct_f:Value} {od_f an_f:Option Addr} {sl_f:Array (Option Value)} {oc_a kv_a dc_a pm_a cd_a ct_a:Value} {od_a an_a:Option Addr} {sl_a:Array (Option Value)} {oc_d kv_d dc_d pm_d cd_d ct_d:Value} {od_d an_d:Option Addr} {sl_d:Array (Option Value)} {oc_w kv_w dc_w pm_w cd_w ct_w:Value} {od_w an_w:Option Addr} {sl_w:Array (Option Value)} {oc_a4 kv_a4 dc_a4 pm_a4 cd_a4 ct_a4:Value} {od_a4 an_a4:Option Addr} {sl_a4:Array (Option Value)} {oc_ap kv_ap dc_ap pm_ap cd_ap ct_ap:Value} {od_ap an_ap:Option Addr} {sl_ap:Array (Option Value)} {oc_aw kv_aw dc_aw pm_aw cd_aw ct_aw:Value} {od_aw an_aw:Option Addr} {sl_aw:Array (Option Value)} {oc_z kv_z dc_z pm_z cd_z ct_z:Value} {od_z an_z:Option Addr} {sl_z:Array (Option Value)} {oc_ar kv_ar dc_ar pm_ar cd_ar ct_ar:Value} {od_ar an_ar:Option Addr} {sl_ar:Array (Option Value)} {oc_ax kv_ax dc_ax pm_ax cd_ax ct_ax:Value} {od_ax an_ax:Option Addr} {sl_ax:Array (Option Value)} {oc_ba kv_ba dc_ba pm_ba cd_ba ct_ba:Value} {od_ba an_ba:Option Addr} {sl_ba:Array (Option Value)} {oc_bc kv_bc dc_bc pm_bc cd_bc ct_bc:Value} {od_bc an_bc:Option Addr} {sl_bc:Array (Option Value)} {oc_a0 kv_a0 dc_a0 pm_a0 cd_a0 ct_a0:Value} {od_a0 an_a0:Option Addr} {sl_a0:Array (Option Value)} {oc_az kv_az dc_az pm_az cd_az ct_az:Value} {od_az an_az:Option Addr} {sl_az:Array (Option Value)} {oc_an kv_an dc_an pm_an cd_an ct_an:Value} {od_an an_an:Option Addr} {sl_an:Array (Option Value)} {oc_ae kv_ae dc_ae pm_ae cd_ae ct_ae:Value} {od_ae an_ae:Option Addr} {sl_ae:Array (Option Value)} {oc_a1 kv_a1 dc_a1 pm_a1 cd_a1 ct_a1:Value} {od_a1 an_a1:Option Addr} {sl_a1:Array (Option Value)} {oc_law kv_law dc_law pm_law cd_law ct_law:Value} {od_law an_law:Option Addr} {sl_law:Array (Option Value)} {tk0_p:Tok} {tk1_p:Tok} {toc_p:Value} {tod_p:Option Addr} {tn_p:Nat} {tsl_p:Array (Option Value)} {tkc_eo:Tok} {tkc_cp:Tok} {tkc_co:Tok} {D_a2:Addr} {ta0_a2 tb0_a2:Tok} {ta1_a2 tb1_a2:Tok} {ta2_a2 tb2_a2:Tok} {ep_a2:Nat}
    (g_bb:PySem.W.nsIn K mainGlobals "RimError"=some (some (.ref C_bb)))
    (g_a6:PySem.W.nsIn K mainGlobals "NoSize"=some (some (.ref C_a6)))
    (g_bf:PySem.W.nsIn K mainGlobals "NoName"=some (some (.ref C_bf)))
    (g_bg:PySem.W.nsIn K mainGlobals "NoCell"=some (some (.ref C_bg)))
    (g_be:PySem.W.nsIn K mainGlobals "NoSides"=some (some (.ref C_be)))
    (g_bd:PySem.W.nsIn K mainGlobals "NoWindow"=some (some (.ref C_bd)))
    (g_h:PySem.W.nsIn K mainGlobals "OldPoint"=some (some (.ref C_h)))
    (g_s:PySem.W.nsIn K mainGlobals "NoPoint"=some (some (.ref C_s)))
    (g_r:PySem.W.nsIn K mainGlobals "TooMany"=some (some (.ref C_r)))
    (g_c:PySem.W.nsIn K mainGlobals "SameColumn"=some (some (.ref C_c)))
    (g_t:PySem.W.nsIn K mainGlobals "SameRow"=some (some (.ref C_t)))
    (g_bh:PySem.W.nsIn K mainGlobals "NoSide"=some (some (.ref C_bh)))
    (g_bj:PySem.W.nsIn K mainGlobals "NoRow"=some (some (.ref C_bj)))
    (g_o:PySem.W.nsIn K mainGlobals "OldSeat"=some (some (.ref C_o)))
    (g_ab:PySem.W.nsIn K mainGlobals "NoSeat"=some (some (.ref C_ab)))
    (g_a7:PySem.W.nsIn K mainGlobals "NoRoom"=some (some (.ref C_a7)))
    (g_as:PySem.W.nsIn K mainGlobals "NoNotes"=some (some (.ref C_as)))
    (g_at:PySem.W.nsIn K mainGlobals "TooFull"=some (some (.ref C_at)))
    (g_au:PySem.W.nsIn K mainGlobals "TooTall"=some (some (.ref C_au)))
    (g_av:PySem.W.nsIn K mainGlobals "BadLine"=some (some (.ref C_av)))
    (g_ac:PySem.W.nsIn K mainGlobals "BadDrawing"=some (some (.ref C_ac)))
    (g_a8:PySem.W.nsIn K mainGlobals "NoLine"=some (some (.ref C_a8)))
    (g_bl:PySem.W.nsIn K mainGlobals "Side"=some (some (.ref C_bl)))
    (g_a9:PySem.W.nsIn K mainGlobals "LeftSide"=some (some (.ref C_a9)))
    (g_ay:PySem.W.nsIn K mainGlobals "RightSide"=some (some (.ref C_ay)))
    (g_e:PySem.W.nsIn K mainGlobals "Picture"=some (some (.ref C_e)))
    (a_ad:PySem.W.findIn K (.ref C_h) "__init__"=some (some (.ref f_ad)))
    (l_ad:K.lookup f_ad=some ⟨oc_ad,od_ad,.func (PySem.W.fnOf "__init__" "OldPoint.__init__" (x5 s_ad) (xz s_ad) (xj s_ad) .none kv_ad dc_ad pm_ad an_ad cd_ad ct_ad),sl_ad⟩)
    (c_ad:PySem.W.codeIn K cd_ad "OldPoint.__init__"=true)
    (k_ad:PySem.W.keepIn K (.ref f_ad)=true)
    (i_ad:PySem.W.isFn K (.ref f_ad)=true)
    (a_aj:PySem.W.findIn K (.ref C_s) "__init__"=some (some (.ref f_aj)))
    (l_aj:K.lookup f_aj=some ⟨oc_aj,od_aj,.func (PySem.W.fnOf "__init__" "NoPoint.__init__" (x5 s_aj) (xz s_aj) (xj s_aj) .none kv_aj dc_aj pm_aj an_aj cd_aj ct_aj),sl_aj⟩)
    (c_aj:PySem.W.codeIn K cd_aj "NoPoint.__init__"=true)
    (k_aj:PySem.W.keepIn K (.ref f_aj)=true)
    (i_aj:PySem.W.isFn K (.ref f_aj)=true)
    (a_y:PySem.W.findIn K (.ref C_c) "__init__"=some (some (.ref f_y)))
    (l_y:K.lookup f_y=some ⟨oc_y,od_y,.func (PySem.W.fnOf "__init__" "SameColumn.__init__" (x5 s_y) (xz s_y) (xj s_y) .none kv_y dc_y pm_y an_y cd_y ct_y),sl_y⟩)
    (c_y:PySem.W.codeIn K cd_y "SameColumn.__init__"=true)
    (k_y:PySem.W.keepIn K (.ref f_y)=true)
    (i_y:PySem.W.isFn K (.ref f_y)=true)
    (a_ak:PySem.W.findIn K (.ref C_t) "__init__"=some (some (.ref f_ak)))
    (l_ak:K.lookup f_ak=some ⟨oc_ak,od_ak,.func (PySem.W.fnOf "__init__" "SameRow.__init__" (x5 s_ak) (xz s_ak) (xj s_ak) .none kv_ak dc_ak pm_ak an_ak cd_ak ct_ak),sl_ak⟩)
    (c_ak:PySem.W.codeIn K cd_ak "SameRow.__init__"=true)
    (k_ak:PySem.W.keepIn K (.ref f_ak)=true)
    (i_ak:PySem.W.isFn K (.ref f_ak)=true)
    (a_al:PySem.W.findIn K (.ref C_o) "__init__"=some (some (.ref f_al)))
    (l_al:K.lookup f_al=some ⟨oc_al,od_al,.func (PySem.W.fnOf "__init__" "OldSeat.__init__" (x5 s_al) (xz s_al) (xj s_al) .none kv_al dc_al pm_al an_al cd_al ct_al),sl_al⟩)
    (c_al:PySem.W.codeIn K cd_al "OldSeat.__init__"=true)
    (k_al:PySem.W.keepIn K (.ref f_al)=true)
    (i_al:PySem.W.isFn K (.ref f_al)=true)
    (a_ao:PySem.W.findIn K (.ref C_ab) "__init__"=some (some (.ref f_ao)))
    (l_ao:K.lookup f_ao=some ⟨oc_ao,od_ao,.func (PySem.W.fnOf "__init__" "NoSeat.__init__" (x5 s_ao) (xz s_ao) (xj s_ao) .none kv_ao dc_ao pm_ao an_ao cd_ao ct_ao),sl_ao⟩)
    (c_ao:PySem.W.codeIn K cd_ao "NoSeat.__init__"=true)
    (k_ao:PySem.W.keepIn K (.ref f_ao)=true)
    (i_ao:PySem.W.isFn K (.ref f_ao)=true)
    (a_aq:PySem.W.findIn K (.ref C_bl) "__init__"=some (some (.ref f_aq)))
    (l_aq:K.lookup f_aq=some ⟨oc_aq,od_aq,.func (PySem.W.fnOf "__init__" "Side.__init__" (x5 s_aq) (xz s_aq) (xj s_aq) .none kv_aq dc_aq pm_aq an_aq cd_aq ct_aq),sl_aq⟩)
    (c_aq:PySem.W.codeIn K cd_aq "Side.__init__"=true)
    (k_aq:PySem.W.keepIn K (.ref f_aq)=true)
    (i_aq:PySem.W.isFn K (.ref f_aq)=true)
    (a_u:PySem.W.findIn K (.ref C_a9) "across"=some (some (.ref f_u)))
    (l_u:K.lookup f_u=some ⟨oc_u,od_u,.func (PySem.W.fnOf "across" "LeftSide.across" (x5 s_u) (xz s_u) (xj s_u) .none kv_u dc_u pm_u an_u cd_u ct_u),sl_u⟩)
    (c_u:PySem.W.codeIn K cd_u "LeftSide.across"=true)
    (k_u:PySem.W.keepIn K (.ref f_u)=true)
    (i_u:PySem.W.isFn K (.ref f_u)=true)
    (a_n:PySem.W.findIn K (.ref C_ay) "across"=some (some (.ref f_n)))
    (l_n:K.lookup f_n=some ⟨oc_n,od_n,.func (PySem.W.fnOf "across" "RightSide.across" (x5 s_n) (xz s_n) (xj s_n) .none kv_n dc_n pm_n an_n cd_n ct_n),sl_n⟩)
    (c_n:PySem.W.codeIn K cd_n "RightSide.across"=true)
    (k_n:PySem.W.keepIn K (.ref f_n)=true)
    (i_n:PySem.W.isFn K (.ref f_n)=true)
    (a_a5:PySem.W.nsIn K mainGlobals "side_of"=some (some (.ref f_a5)))
    (l_a5:K.lookup f_a5=some ⟨oc_a5,od_a5,.func (PySem.W.fnOf "side_of" "side_of" (x5 s_a5) (xz s_a5) (xj s_a5) .none kv_a5 dc_a5 pm_a5 an_a5 cd_a5 ct_a5),sl_a5⟩)
    (c_a5:PySem.W.codeIn K cd_a5 "side_of"=true)
    (k_a5:PySem.W.keepIn K (.ref f_a5)=true)
    (i_a5:PySem.W.isFn K (.ref f_a5)=true)
    (a_am:PySem.W.nsIn K mainGlobals "is_whole"=some (some (.ref f_am)))
    (l_am:K.lookup f_am=some ⟨oc_am,od_am,.func (PySem.W.fnOf "is_whole" "is_whole" (x5 s_am) (xz s_am) (xj s_am) .none kv_am dc_am pm_am an_am cd_am ct_am),sl_am⟩)
    (c_am:PySem.W.codeIn K cd_am "is_whole"=true)
    (k_am:PySem.W.keepIn K (.ref f_am)=true)
    (i_am:PySem.W.isFn K (.ref f_am)=true)
    (a_a3:PySem.W.nsIn K mainGlobals "is_name"=some (some (.ref f_a3)))
    (l_a3:K.lookup f_a3=some ⟨oc_a3,od_a3,.func (PySem.W.fnOf "is_name" "is_name" (x5 s_a3) (xz s_a3) (xj s_a3) .none kv_a3 dc_a3 pm_a3 an_a3 cd_a3 ct_a3),sl_a3⟩)
    (c_a3:PySem.W.codeIn K cd_a3 "is_name"=true)
    (k_a3:PySem.W.keepIn K (.ref f_a3)=true)
    (i_a3:PySem.W.isFn K (.ref f_a3)=true)
    (a_ai:PySem.W.findIn K (.ref C_e) "__init__"=some (some (.ref f_ai)))
    (l_ai:K.lookup f_ai=some ⟨oc_ai,od_ai,.func (PySem.W.fnOf "__init__" "Picture.__init__" (x5 s_ai) (xz s_ai) (xj s_ai) .none kv_ai dc_ai pm_ai an_ai cd_ai ct_ai),sl_ai⟩)
    (c_ai:PySem.W.codeIn K cd_ai "Picture.__init__"=true)
    (k_ai:PySem.W.keepIn K (.ref f_ai)=true)
    (i_ai:PySem.W.isFn K (.ref f_ai)=true)
    (a_p:PySem.W.findIn K (.ref C_e) "put"=some (some (.ref f_p)))
    (l_p:K.lookup f_p=some ⟨oc_p,od_p,.func (PySem.W.fnOf "put" "Picture.put" (x5 s_p) (xz s_p) (xj s_p) (.ref T_p) kv_p dc_p pm_p an_p cd_p ct_p),sl_p⟩)
    (c_p:PySem.W.codeIn K cd_p "Picture.put"=true)
    (k_p:PySem.W.keepIn K (.ref f_p)=true)
    (i_p:PySem.W.isFn K (.ref f_p)=true)
    (t_p:K.lookup T_p=some ⟨toc_p,tod_p,.seq #[.str "both" tk0_p,.int 1 tk1_p,.none] tn_p,tsl_p⟩)
    (a_ag:PySem.W.findIn K (.ref C_e) "take"=some (some (.ref f_ag)))
    (l_ag:K.lookup f_ag=some ⟨oc_ag,od_ag,.func (PySem.W.fnOf "take" "Picture.take" (x5 s_ag) (xz s_ag) (xj s_ag) .none kv_ag dc_ag pm_ag an_ag cd_ag ct_ag),sl_ag⟩)
    (c_ag:PySem.W.codeIn K cd_ag "Picture.take"=true)
    (k_ag:PySem.W.keepIn K (.ref f_ag)=true)
    (i_ag:PySem.W.isFn K (.ref f_ag)=true)
    (a_ah:PySem.W.findIn K (.ref C_e) "move"=some (some (.ref f_ah)))
    (l_ah:K.lookup f_ah=some ⟨oc_ah,od_ah,.func (PySem.W.fnOf "move" "Picture.move" (x5 s_ah) (xz s_ah) (xj s_ah) .none kv_ah dc_ah pm_ah an_ah cd_ah ct_ah),sl_ah⟩)
    (c_ah:PySem.W.codeIn K cd_ah "Picture.move"=true)
    (k_ah:PySem.W.keepIn K (.ref f_ah)=true)
    (i_ah:PySem.W.isFn K (.ref f_ah)=true)
    (a_g:PySem.W.findIn K (.ref C_e) "open_seat"=some (some (.ref f_g)))
    (l_g:K.lookup f_g=some ⟨oc_g,od_g,.func (PySem.W.fnOf "open_seat" "Picture.open_seat" (x5 s_g) (xz s_g) (xj s_g) .none kv_g dc_g pm_g an_g cd_g ct_g),sl_g⟩)
    (c_g:PySem.W.codeIn K cd_g "Picture.open_seat"=true)
    (k_g:PySem.W.keepIn K (.ref f_g)=true)
    (i_g:PySem.W.isFn K (.ref f_g)=true)
    (a_k:PySem.W.findIn K (.ref C_e) "shut_seat"=some (some (.ref f_k)))
    (l_k:K.lookup f_k=some ⟨oc_k,od_k,.func (PySem.W.fnOf "shut_seat" "Picture.shut_seat" (x5 s_k) (xz s_k) (xj s_k) .none kv_k dc_k pm_k an_k cd_k ct_k),sl_k⟩)
    (c_k:PySem.W.codeIn K cd_k "Picture.shut_seat"=true)
    (k_k:PySem.W.keepIn K (.ref f_k)=true)
    (i_k:PySem.W.isFn K (.ref f_k)=true)
    (a_i:PySem.W.findIn K (.ref C_e) "points"=some (some (.ref f_i)))
    (l_i:K.lookup f_i=some ⟨oc_i,od_i,.func (PySem.W.fnOf "points" "Picture.points" (x5 s_i) (xz s_i) (xj s_i) .none kv_i dc_i pm_i an_i cd_i ct_i),sl_i⟩)
    (c_i:PySem.W.codeIn K cd_i "Picture.points"=true)
    (k_i:PySem.W.keepIn K (.ref f_i)=true)
    (i_i:PySem.W.isFn K (.ref f_i)=true)
    (a_q:PySem.W.findIn K (.ref C_e) "seats"=some (some (.ref f_q)))
    (l_q:K.lookup f_q=some ⟨oc_q,od_q,.func (PySem.W.fnOf "seats" "Picture.seats" (x5 s_q) (xz s_q) (xj s_q) .none kv_q dc_q pm_q an_q cd_q ct_q),sl_q⟩)
    (c_q:PySem.W.codeIn K cd_q "Picture.seats"=true)
    (k_q:PySem.W.keepIn K (.ref f_q)=true)
    (i_q:PySem.W.isFn K (.ref f_q)=true)
    (a_l:PySem.W.findIn K (.ref C_e) "place_of"=some (some (.ref f_l)))
    (l_l:K.lookup f_l=some ⟨oc_l,od_l,.func (PySem.W.fnOf "place_of" "Picture.place_of" (x5 s_l) (xz s_l) (xj s_l) .none kv_l dc_l pm_l an_l cd_l ct_l),sl_l⟩)
    (c_l:PySem.W.codeIn K cd_l "Picture.place_of"=true)
    (k_l:PySem.W.keepIn K (.ref f_l)=true)
    (i_l:PySem.W.isFn K (.ref f_l)=true)
    (a_af:PySem.W.findIn K (.ref C_e) "may"=some (some (.ref f_af)))
    (l_af:K.lookup f_af=some ⟨oc_af,od_af,.func (PySem.W.fnOf "may" "Picture.may" (x5 s_af) (xz s_af) (xj s_af) .none kv_af dc_af pm_af an_af cd_af ct_af),sl_af⟩)
    (c_af:PySem.W.codeIn K cd_af "Picture.may"=true)
    (k_af:PySem.W.keepIn K (.ref f_af)=true)
    (i_af:PySem.W.isFn K (.ref f_af)=true)
    (a_x:PySem.W.findIn K (.ref C_e) "length"=some (some (.ref f_x)))
    (l_x:K.lookup f_x=some ⟨oc_x,od_x,.func (PySem.W.fnOf "length" "Picture.length" (x5 s_x) (xz s_x) (xj s_x) .none kv_x dc_x pm_x an_x cd_x ct_x),sl_x⟩)
    (c_x:PySem.W.codeIn K cd_x "Picture.length"=true)
    (k_x:PySem.W.keepIn K (.ref f_x)=true)
    (i_x:PySem.W.isFn K (.ref f_x)=true)
    (a_j:PySem.W.findIn K (.ref C_e) "seats_for"=some (some (.ref f_j)))
    (l_j:K.lookup f_j=some ⟨oc_j,od_j,.func (PySem.W.fnOf "seats_for" "Picture.seats_for" (x5 s_j) (xz s_j) (xj s_j) .none kv_j dc_j pm_j an_j cd_j ct_j),sl_j⟩)
    (c_j:PySem.W.codeIn K cd_j "Picture.seats_for"=true)
    (k_j:PySem.W.keepIn K (.ref f_j)=true)
    (i_j:PySem.W.isFn K (.ref f_j)=true)
    (a_aa:PySem.W.findIn K (.ref C_e) "copied"=some (some (.ref f_aa)))
    (l_aa:K.lookup f_aa=some ⟨oc_aa,od_aa,.func (PySem.W.fnOf "copied" "Picture.copied" (x5 s_aa) (xz s_aa) (xj s_aa) .none kv_aa dc_aa pm_aa an_aa cd_aa ct_aa),sl_aa⟩)
    (c_aa:PySem.W.codeIn K cd_aa "Picture.copied"=true)
    (k_aa:PySem.W.keepIn K (.ref f_aa)=true)
    (i_aa:PySem.W.isFn K (.ref f_aa)=true)
    (a_m:PySem.W.findIn K (.ref C_e) "mirrored"=some (some (.ref f_m)))
    (l_m:K.lookup f_m=some ⟨oc_m,od_m,.func (PySem.W.fnOf "mirrored" "Picture.mirrored" (x5 s_m) (xz s_m) (xj s_m) .none kv_m dc_m pm_m an_m cd_m ct_m),sl_m⟩)
    (c_m:PySem.W.codeIn K cd_m "Picture.mirrored"=true)
    (k_m:PySem.W.keepIn K (.ref f_m)=true)
    (i_m:PySem.W.isFn K (.ref f_m)=true)
    (a_v:PySem.W.findIn K (.ref C_e) "turned"=some (some (.ref f_v)))
    (l_v:K.lookup f_v=some ⟨oc_v,od_v,.func (PySem.W.fnOf "turned" "Picture.turned" (x5 s_v) (xz s_v) (xj s_v) .none kv_v dc_v pm_v an_v cd_v ct_v),sl_v⟩)
    (c_v:PySem.W.codeIn K cd_v "Picture.turned"=true)
    (k_v:PySem.W.keepIn K (.ref f_v)=true)
    (i_v:PySem.W.isFn K (.ref f_v)=true)
    (a_b:PySem.W.findIn K (.ref C_e) "check_name"=some (some (.ref f_b)))
    (l_b:K.lookup f_b=some ⟨oc_b,od_b,.func (PySem.W.fnOf "check_name" "Picture.check_name" (x5 s_b) (xz s_b) (xj s_b) .none kv_b dc_b pm_b an_b cd_b ct_b),sl_b⟩)
    (c_b:PySem.W.codeIn K cd_b "Picture.check_name"=true)
    (k_b:PySem.W.keepIn K (.ref f_b)=true)
    (i_b:PySem.W.isFn K (.ref f_b)=true)
    (a_f:PySem.W.findIn K (.ref C_e) "check_cell"=some (some (.ref f_f)))
    (l_f:K.lookup f_f=some ⟨oc_f,od_f,.func (PySem.W.fnOf "check_cell" "Picture.check_cell" (x5 s_f) (xz s_f) (xj s_f) .none kv_f dc_f pm_f an_f cd_f ct_f),sl_f⟩)
    (c_f:PySem.W.codeIn K cd_f "Picture.check_cell"=true)
    (k_f:PySem.W.keepIn K (.ref f_f)=true)
    (i_f:PySem.W.isFn K (.ref f_f)=true)
    (a_a:PySem.W.findIn K (.ref C_e) "check_lines"=some (some (.ref f_a)))
    (l_a:K.lookup f_a=some ⟨oc_a,od_a,.func (PySem.W.fnOf "check_lines" "Picture.check_lines" (x5 s_a) (xz s_a) (xj s_a) .none kv_a dc_a pm_a an_a cd_a ct_a),sl_a⟩)
    (c_a:PySem.W.codeIn K cd_a "Picture.check_lines"=true)
    (k_a:PySem.W.keepIn K (.ref f_a)=true)
    (i_a:PySem.W.isFn K (.ref f_a)=true)
    (a_d:PySem.W.findIn K (.ref C_e) "check_seat"=some (some (.ref f_d)))
    (l_d:K.lookup f_d=some ⟨oc_d,od_d,.func (PySem.W.fnOf "check_seat" "Picture.check_seat" (x5 s_d) (xz s_d) (xj s_d) .none kv_d dc_d pm_d an_d cd_d ct_d),sl_d⟩)
    (c_d:PySem.W.codeIn K cd_d "Picture.check_seat"=true)
    (k_d:PySem.W.keepIn K (.ref f_d)=true)
    (i_d:PySem.W.isFn K (.ref f_d)=true)
    (a_w:PySem.W.nsIn K mainGlobals "picture_with"=some (some (.ref f_w)))
    (l_w:K.lookup f_w=some ⟨oc_w,od_w,.func (PySem.W.fnOf "picture_with" "picture_with" (x5 s_w) (xz s_w) (xj s_w) .none kv_w dc_w pm_w an_w cd_w ct_w),sl_w⟩)
    (c_w:PySem.W.codeIn K cd_w "picture_with"=true)
    (k_w:PySem.W.keepIn K (.ref f_w)=true)
    (i_w:PySem.W.isFn K (.ref f_w)=true)
    (a_a4:PySem.W.nsIn K mainGlobals "_law_cell"=some (some (.ref f_a4)))
    (l_a4:K.lookup f_a4=some ⟨oc_a4,od_a4,.func (PySem.W.fnOf "_law_cell" "_law_cell" (x5 s_a4) (xz s_a4) (xj s_a4) .none kv_a4 dc_a4 pm_a4 an_a4 cd_a4 ct_a4),sl_a4⟩)
    (c_a4:PySem.W.codeIn K cd_a4 "_law_cell"=true)
    (k_a4:PySem.W.keepIn K (.ref f_a4)=true)
    (i_a4:PySem.W.isFn K (.ref f_a4)=true)
    (a_ap:PySem.W.nsIn K mainGlobals "_law_mixed"=some (some (.ref f_ap)))
    (l_ap:K.lookup f_ap=some ⟨oc_ap,od_ap,.func (PySem.W.fnOf "_law_mixed" "_law_mixed" (x5 s_ap) (xz s_ap) (xj s_ap) .none kv_ap dc_ap pm_ap an_ap cd_ap ct_ap),sl_ap⟩)
    (c_ap:PySem.W.codeIn K cd_ap "_law_mixed"=true)
    (k_ap:PySem.W.keepIn K (.ref f_ap)=true)
    (i_ap:PySem.W.isFn K (.ref f_ap)=true)
    (a_aw:PySem.W.nsIn K mainGlobals "_law_told"=some (some (.ref f_aw)))
    (l_aw:K.lookup f_aw=some ⟨oc_aw,od_aw,.func (PySem.W.fnOf "_law_told" "_law_told" (x5 s_aw) (xz s_aw) (xj s_aw) .none kv_aw dc_aw pm_aw an_aw cd_aw ct_aw),sl_aw⟩)
    (c_aw:PySem.W.codeIn K cd_aw "_law_told"=true)
    (k_aw:PySem.W.keepIn K (.ref f_aw)=true)
    (i_aw:PySem.W.isFn K (.ref f_aw)=true)
    (a_z:PySem.W.nsIn K mainGlobals "_law_told_more"=some (some (.ref f_z)))
    (l_z:K.lookup f_z=some ⟨oc_z,od_z,.func (PySem.W.fnOf "_law_told_more" "_law_told_more" (x5 s_z) (xz s_z) (xj s_z) .none kv_z dc_z pm_z an_z cd_z ct_z),sl_z⟩)
    (c_z:PySem.W.codeIn K cd_z "_law_told_more"=true)
    (k_z:PySem.W.keepIn K (.ref f_z)=true)
    (i_z:PySem.W.isFn K (.ref f_z)=true)
    (a_ar:PySem.W.nsIn K mainGlobals "_law_draws"=some (some (.ref f_ar)))
    (l_ar:K.lookup f_ar=some ⟨oc_ar,od_ar,.func (PySem.W.fnOf "_law_draws" "_law_draws" (x5 s_ar) (xz s_ar) (xj s_ar) .none kv_ar dc_ar pm_ar an_ar cd_ar ct_ar),sl_ar⟩)
    (c_ar:PySem.W.codeIn K cd_ar "_law_draws"=true)
    (k_ar:PySem.W.keepIn K (.ref f_ar)=true)
    (i_ar:PySem.W.isFn K (.ref f_ar)=true)
    (a_ax:PySem.W.nsIn K mainGlobals "_law_deed"=some (some (.ref f_ax)))
    (l_ax:K.lookup f_ax=some ⟨oc_ax,od_ax,.func (PySem.W.fnOf "_law_deed" "_law_deed" (x5 s_ax) (xz s_ax) (xj s_ax) .none kv_ax dc_ax pm_ax an_ax cd_ax ct_ax),sl_ax⟩)
    (c_ax:PySem.W.codeIn K cd_ax "_law_deed"=true)
    (k_ax:PySem.W.keepIn K (.ref f_ax)=true)
    (i_ax:PySem.W.isFn K (.ref f_ax)=true)
    (a_ba:PySem.W.nsIn K mainGlobals "_law_met"=some (some (.ref f_ba)))
    (l_ba:K.lookup f_ba=some ⟨oc_ba,od_ba,.func (PySem.W.fnOf "_law_met" "_law_met" (x5 s_ba) (xz s_ba) (xj s_ba) .none kv_ba dc_ba pm_ba an_ba cd_ba ct_ba),sl_ba⟩)
    (c_ba:PySem.W.codeIn K cd_ba "_law_met"=true)
    (k_ba:PySem.W.keepIn K (.ref f_ba)=true)
    (i_ba:PySem.W.isFn K (.ref f_ba)=true)
    (a_bc:PySem.W.nsIn K mainGlobals "_law_due"=some (some (.ref f_bc)))
    (l_bc:K.lookup f_bc=some ⟨oc_bc,od_bc,.func (PySem.W.fnOf "_law_due" "_law_due" (x5 s_bc) (xz s_bc) (xj s_bc) .none kv_bc dc_bc pm_bc an_bc cd_bc ct_bc),sl_bc⟩)
    (c_bc:PySem.W.codeIn K cd_bc "_law_due"=true)
    (k_bc:PySem.W.keepIn K (.ref f_bc)=true)
    (i_bc:PySem.W.isFn K (.ref f_bc)=true)
    (a_a0:PySem.W.nsIn K mainGlobals "_law_done"=some (some (.ref f_a0)))
    (l_a0:K.lookup f_a0=some ⟨oc_a0,od_a0,.func (PySem.W.fnOf "_law_done" "_law_done" (x5 s_a0) (xz s_a0) (xj s_a0) .none kv_a0 dc_a0 pm_a0 an_a0 cd_a0 ct_a0),sl_a0⟩)
    (c_a0:PySem.W.codeIn K cd_a0 "_law_done"=true)
    (k_a0:PySem.W.keepIn K (.ref f_a0)=true)
    (i_a0:PySem.W.isFn K (.ref f_a0)=true)
    (a_az:PySem.W.nsIn K mainGlobals "_law_kept"=some (some (.ref f_az)))
    (l_az:K.lookup f_az=some ⟨oc_az,od_az,.func (PySem.W.fnOf "_law_kept" "_law_kept" (x5 s_az) (xz s_az) (xj s_az) .none kv_az dc_az pm_az an_az cd_az ct_az),sl_az⟩)
    (c_az:PySem.W.codeIn K cd_az "_law_kept"=true)
    (k_az:PySem.W.keepIn K (.ref f_az)=true)
    (i_az:PySem.W.isFn K (.ref f_az)=true)
    (a_an:PySem.W.nsIn K mainGlobals "_law_turned"=some (some (.ref f_an)))
    (l_an:K.lookup f_an=some ⟨oc_an,od_an,.func (PySem.W.fnOf "_law_turned" "_law_turned" (x5 s_an) (xz s_an) (xj s_an) .none kv_an dc_an pm_an an_an cd_an ct_an),sl_an⟩)
    (c_an:PySem.W.codeIn K cd_an "_law_turned"=true)
    (k_an:PySem.W.keepIn K (.ref f_an)=true)
    (i_an:PySem.W.isFn K (.ref f_an)=true)
    (a_ae:PySem.W.nsIn K mainGlobals "_law_replaced"=some (some (.ref f_ae)))
    (l_ae:K.lookup f_ae=some ⟨oc_ae,od_ae,.func (PySem.W.fnOf "_law_replaced" "_law_replaced" (x5 s_ae) (xz s_ae) (xj s_ae) .none kv_ae dc_ae pm_ae an_ae cd_ae ct_ae),sl_ae⟩)
    (c_ae:PySem.W.codeIn K cd_ae "_law_replaced"=true)
    (k_ae:PySem.W.keepIn K (.ref f_ae)=true)
    (i_ae:PySem.W.isFn K (.ref f_ae)=true)
    (a_a1:PySem.W.nsIn K mainGlobals "_law_end"=some (some (.ref f_a1)))
    (l_a1:K.lookup f_a1=some ⟨oc_a1,od_a1,.func (PySem.W.fnOf "_law_end" "_law_end" (x5 s_a1) (xz s_a1) (xj s_a1) .none kv_a1 dc_a1 pm_a1 an_a1 cd_a1 ct_a1),sl_a1⟩)
    (c_a1:PySem.W.codeIn K cd_a1 "_law_end"=true)
    (k_a1:PySem.W.keepIn K (.ref f_a1)=true)
    (i_a1:PySem.W.isFn K (.ref f_a1)=true)
    (a_law:PySem.W.nsIn K mainGlobals "law"=some (some (.ref f_law)))
    (l_law:K.lookup f_law=some ⟨oc_law,od_law,.func (PySem.W.fnOf "law" "law" (x5 xei) (xz xei) (xj xei) .none kv_law dc_law pm_law an_law cd_law ct_law),sl_law⟩)
    (c_law:PySem.W.codeIn K cd_law "law"=true)
    (k_law:PySem.W.keepIn K (.ref f_law)=true)
    (i_law:PySem.W.isFn K (.ref f_law)=true)
    (kc_bb:PySem.W.keepIn K (.ref C_bb)=true)
    (ov_bb:xa2 K C_bb=true)
    (hd_bb:PySem.W.hasDictIn K C_bb=true)
    (sa_bb:PySem.W.findIn K (.ref C_bb) "__setattr__"=some (some (.builtin "object.__setattr__")))
    (ga_bb:PySem.W.findIn K (.ref C_bb) "__getattribute__"=some (some (.builtin "BaseException.__getattribute__")))
    (gh_bb:PySem.W.findIn K (.ref C_bb) "__getattr__"=some none)
    (ca_bb:PySem.W.findIn K (.ref C_bb) "__class__"=some (some (.builtin "object.__class__")))
    (mk_bb:xan K C_bb=true)
    (kc_a6:PySem.W.keepIn K (.ref C_a6)=true)
    (ov_a6:xa2 K C_a6=true)
    (hd_a6:PySem.W.hasDictIn K C_a6=true)
    (sa_a6:PySem.W.findIn K (.ref C_a6) "__setattr__"=some (some (.builtin "object.__setattr__")))
    (ga_a6:PySem.W.findIn K (.ref C_a6) "__getattribute__"=some (some (.builtin "BaseException.__getattribute__")))
    (gh_a6:PySem.W.findIn K (.ref C_a6) "__getattr__"=some none)
    (ca_a6:PySem.W.findIn K (.ref C_a6) "__class__"=some (some (.builtin "object.__class__")))
    (mk_a6:xan K C_a6=true)
    (kc_bf:PySem.W.keepIn K (.ref C_bf)=true)
    (ov_bf:xa2 K C_bf=true)
    (hd_bf:PySem.W.hasDictIn K C_bf=true)
    (sa_bf:PySem.W.findIn K (.ref C_bf) "__setattr__"=some (some (.builtin "object.__setattr__")))
    (ga_bf:PySem.W.findIn K (.ref C_bf) "__getattribute__"=some (some (.builtin "BaseException.__getattribute__")))
    (gh_bf:PySem.W.findIn K (.ref C_bf) "__getattr__"=some none)
    (ca_bf:PySem.W.findIn K (.ref C_bf) "__class__"=some (some (.builtin "object.__class__")))
    (mk_bf:xan K C_bf=true)
    (kc_bg:PySem.W.keepIn K (.ref C_bg)=true)
    (ov_bg:xa2 K C_bg=true)
    (hd_bg:PySem.W.hasDictIn K C_bg=true)
    (sa_bg:PySem.W.findIn K (.ref C_bg) "__setattr__"=some (some (.builtin "object.__setattr__")))
    (ga_bg:PySem.W.findIn K (.ref C_bg) "__getattribute__"=some (some (.builtin "BaseException.__getattribute__")))
    (gh_bg:PySem.W.findIn K (.ref C_bg) "__getattr__"=some none)
    (ca_bg:PySem.W.findIn K (.ref C_bg) "__class__"=some (some (.builtin "object.__class__")))
    (mk_bg:xan K C_bg=true)
    (kc_be:PySem.W.keepIn K (.ref C_be)=true)
    (ov_be:xa2 K C_be=true)
    (hd_be:PySem.W.hasDictIn K C_be=true)
    (sa_be:PySem.W.findIn K (.ref C_be) "__setattr__"=some (some (.builtin "object.__setattr__")))
    (ga_be:PySem.W.findIn K (.ref C_be) "__getattribute__"=some (some (.builtin "BaseException.__getattribute__")))
    (gh_be:PySem.W.findIn K (.ref C_be) "__getattr__"=some none)
    (ca_be:PySem.W.findIn K (.ref C_be) "__class__"=some (some (.builtin "object.__class__")))
    (mk_be:xan K C_be=true)
    (kc_bd:PySem.W.keepIn K (.ref C_bd)=true)
    (ov_bd:xa2 K C_bd=true)
    (hd_bd:PySem.W.hasDictIn K C_bd=true)
    (sa_bd:PySem.W.findIn K (.ref C_bd) "__setattr__"=some (some (.builtin "object.__setattr__")))
    (ga_bd:PySem.W.findIn K (.ref C_bd) "__getattribute__"=some (some (.builtin "BaseException.__getattribute__")))
    (gh_bd:PySem.W.findIn K (.ref C_bd) "__getattr__"=some none)
    (ca_bd:PySem.W.findIn K (.ref C_bd) "__class__"=some (some (.builtin "object.__class__")))
    (mk_bd:xan K C_bd=true)
    (kc_h:PySem.W.keepIn K (.ref C_h)=true)
    (ov_h:xa2 K C_h=true)
    (hd_h:PySem.W.hasDictIn K C_h=true)
    (sa_h:PySem.W.findIn K (.ref C_h) "__setattr__"=some (some (.builtin "object.__setattr__")))
    (ga_h:PySem.W.findIn K (.ref C_h) "__getattribute__"=some (some (.builtin "BaseException.__getattribute__")))
    (gh_h:PySem.W.findIn K (.ref C_h) "__getattr__"=some none)
    (ca_h:PySem.W.findIn K (.ref C_h) "__class__"=some (some (.builtin "object.__class__")))
    (mk_h:xan K C_h=true)
    (kc_s:PySem.W.keepIn K (.ref C_s)=true)
    (ov_s:xa2 K C_s=true)
    (hd_s:PySem.W.hasDictIn K C_s=true)
    (sa_s:PySem.W.findIn K (.ref C_s) "__setattr__"=some (some (.builtin "object.__setattr__")))
    (ga_s:PySem.W.findIn K (.ref C_s) "__getattribute__"=some (some (.builtin "BaseException.__getattribute__")))
    (gh_s:PySem.W.findIn K (.ref C_s) "__getattr__"=some none)
    (ca_s:PySem.W.findIn K (.ref C_s) "__class__"=some (some (.builtin "object.__class__")))
    (mk_s:xan K C_s=true)
    (kc_r:PySem.W.keepIn K (.ref C_r)=true)
    (ov_r:xa2 K C_r=true)
    (hd_r:PySem.W.hasDictIn K C_r=true)
    (sa_r:PySem.W.findIn K (.ref C_r) "__setattr__"=some (some (.builtin "object.__setattr__")))
    (ga_r:PySem.W.findIn K (.ref C_r) "__getattribute__"=some (some (.builtin "BaseException.__getattribute__")))
    (gh_r:PySem.W.findIn K (.ref C_r) "__getattr__"=some none)
    (ca_r:PySem.W.findIn K (.ref C_r) "__class__"=some (some (.builtin "object.__class__")))
    (mk_r:xan K C_r=true)
    (kc_c:PySem.W.keepIn K (.ref C_c)=true)
    (ov_c:xa2 K C_c=true)
    (hd_c:PySem.W.hasDictIn K C_c=true)
    (sa_c:PySem.W.findIn K (.ref C_c) "__setattr__"=some (some (.builtin "object.__setattr__")))
    (ga_c:PySem.W.findIn K (.ref C_c) "__getattribute__"=some (some (.builtin "BaseException.__getattribute__")))
    (gh_c:PySem.W.findIn K (.ref C_c) "__getattr__"=some none)
    (ca_c:PySem.W.findIn K (.ref C_c) "__class__"=some (some (.builtin "object.__class__")))
    (mk_c:xan K C_c=true)
    (kc_t:PySem.W.keepIn K (.ref C_t)=true)
    (ov_t:xa2 K C_t=true)
    (hd_t:PySem.W.hasDictIn K C_t=true)
    (sa_t:PySem.W.findIn K (.ref C_t) "__setattr__"=some (some (.builtin "object.__setattr__")))
    (ga_t:PySem.W.findIn K (.ref C_t) "__getattribute__"=some (some (.builtin "BaseException.__getattribute__")))
    (gh_t:PySem.W.findIn K (.ref C_t) "__getattr__"=some none)
    (ca_t:PySem.W.findIn K (.ref C_t) "__class__"=some (some (.builtin "object.__class__")))
    (mk_t:xan K C_t=true)
    (kc_bh:PySem.W.keepIn K (.ref C_bh)=true)
    (ov_bh:xa2 K C_bh=true)
    (hd_bh:PySem.W.hasDictIn K C_bh=true)
    (sa_bh:PySem.W.findIn K (.ref C_bh) "__setattr__"=some (some (.builtin "object.__setattr__")))
    (ga_bh:PySem.W.findIn K (.ref C_bh) "__getattribute__"=some (some (.builtin "BaseException.__getattribute__")))
    (gh_bh:PySem.W.findIn K (.ref C_bh) "__getattr__"=some none)
    (ca_bh:PySem.W.findIn K (.ref C_bh) "__class__"=some (some (.builtin "object.__class__")))
    (mk_bh:xan K C_bh=true)
    (kc_bj:PySem.W.keepIn K (.ref C_bj)=true)
    (ov_bj:xa2 K C_bj=true)
    (hd_bj:PySem.W.hasDictIn K C_bj=true)
    (sa_bj:PySem.W.findIn K (.ref C_bj) "__setattr__"=some (some (.builtin "object.__setattr__")))
    (ga_bj:PySem.W.findIn K (.ref C_bj) "__getattribute__"=some (some (.builtin "BaseException.__getattribute__")))
    (gh_bj:PySem.W.findIn K (.ref C_bj) "__getattr__"=some none)
    (ca_bj:PySem.W.findIn K (.ref C_bj) "__class__"=some (some (.builtin "object.__class__")))
    (mk_bj:xan K C_bj=true)
    (kc_o:PySem.W.keepIn K (.ref C_o)=true)
    (ov_o:xa2 K C_o=true)
    (hd_o:PySem.W.hasDictIn K C_o=true)
    (sa_o:PySem.W.findIn K (.ref C_o) "__setattr__"=some (some (.builtin "object.__setattr__")))
    (ga_o:PySem.W.findIn K (.ref C_o) "__getattribute__"=some (some (.builtin "BaseException.__getattribute__")))
    (gh_o:PySem.W.findIn K (.ref C_o) "__getattr__"=some none)
    (ca_o:PySem.W.findIn K (.ref C_o) "__class__"=some (some (.builtin "object.__class__")))
    (mk_o:xan K C_o=true)
    (kc_ab:PySem.W.keepIn K (.ref C_ab)=true)
    (ov_ab:xa2 K C_ab=true)
    (hd_ab:PySem.W.hasDictIn K C_ab=true)
    (sa_ab:PySem.W.findIn K (.ref C_ab) "__setattr__"=some (some (.builtin "object.__setattr__")))
    (ga_ab:PySem.W.findIn K (.ref C_ab) "__getattribute__"=some (some (.builtin "BaseException.__getattribute__")))
    (gh_ab:PySem.W.findIn K (.ref C_ab) "__getattr__"=some none)
    (ca_ab:PySem.W.findIn K (.ref C_ab) "__class__"=some (some (.builtin "object.__class__")))
    (mk_ab:xan K C_ab=true)
    (kc_a7:PySem.W.keepIn K (.ref C_a7)=true)
    (ov_a7:xa2 K C_a7=true)
    (hd_a7:PySem.W.hasDictIn K C_a7=true)
    (sa_a7:PySem.W.findIn K (.ref C_a7) "__setattr__"=some (some (.builtin "object.__setattr__")))
    (ga_a7:PySem.W.findIn K (.ref C_a7) "__getattribute__"=some (some (.builtin "BaseException.__getattribute__")))
    (gh_a7:PySem.W.findIn K (.ref C_a7) "__getattr__"=some none)
    (ca_a7:PySem.W.findIn K (.ref C_a7) "__class__"=some (some (.builtin "object.__class__")))
    (mk_a7:xan K C_a7=true)
    (kc_as:PySem.W.keepIn K (.ref C_as)=true)
    (ov_as:xa2 K C_as=true)
    (hd_as:PySem.W.hasDictIn K C_as=true)
    (sa_as:PySem.W.findIn K (.ref C_as) "__setattr__"=some (some (.builtin "object.__setattr__")))
    (ga_as:PySem.W.findIn K (.ref C_as) "__getattribute__"=some (some (.builtin "BaseException.__getattribute__")))
    (gh_as:PySem.W.findIn K (.ref C_as) "__getattr__"=some none)
    (ca_as:PySem.W.findIn K (.ref C_as) "__class__"=some (some (.builtin "object.__class__")))
    (mk_as:xan K C_as=true)
    (kc_at:PySem.W.keepIn K (.ref C_at)=true)
    (ov_at:xa2 K C_at=true)
    (hd_at:PySem.W.hasDictIn K C_at=true)
    (sa_at:PySem.W.findIn K (.ref C_at) "__setattr__"=some (some (.builtin "object.__setattr__")))
    (ga_at:PySem.W.findIn K (.ref C_at) "__getattribute__"=some (some (.builtin "BaseException.__getattribute__")))
    (gh_at:PySem.W.findIn K (.ref C_at) "__getattr__"=some none)
    (ca_at:PySem.W.findIn K (.ref C_at) "__class__"=some (some (.builtin "object.__class__")))
    (mk_at:xan K C_at=true)
    (kc_au:PySem.W.keepIn K (.ref C_au)=true)
    (ov_au:xa2 K C_au=true)
    (hd_au:PySem.W.hasDictIn K C_au=true)
    (sa_au:PySem.W.findIn K (.ref C_au) "__setattr__"=some (some (.builtin "object.__setattr__")))
    (ga_au:PySem.W.findIn K (.ref C_au) "__getattribute__"=some (some (.builtin "BaseException.__getattribute__")))
    (gh_au:PySem.W.findIn K (.ref C_au) "__getattr__"=some none)
    (ca_au:PySem.W.findIn K (.ref C_au) "__class__"=some (some (.builtin "object.__class__")))
    (mk_au:xan K C_au=true)
    (kc_av:PySem.W.keepIn K (.ref C_av)=true)
    (ov_av:xa2 K C_av=true)
    (hd_av:PySem.W.hasDictIn K C_av=true)
    (sa_av:PySem.W.findIn K (.ref C_av) "__setattr__"=some (some (.builtin "object.__setattr__")))
    (ga_av:PySem.W.findIn K (.ref C_av) "__getattribute__"=some (some (.builtin "BaseException.__getattribute__")))
    (gh_av:PySem.W.findIn K (.ref C_av) "__getattr__"=some none)
    (ca_av:PySem.W.findIn K (.ref C_av) "__class__"=some (some (.builtin "object.__class__")))
    (mk_av:xan K C_av=true)
    (kc_ac:PySem.W.keepIn K (.ref C_ac)=true)
    (ov_ac:xa2 K C_ac=true)
    (hd_ac:PySem.W.hasDictIn K C_ac=true)
    (sa_ac:PySem.W.findIn K (.ref C_ac) "__setattr__"=some (some (.builtin "object.__setattr__")))
    (ga_ac:PySem.W.findIn K (.ref C_ac) "__getattribute__"=some (some (.builtin "BaseException.__getattribute__")))
    (gh_ac:PySem.W.findIn K (.ref C_ac) "__getattr__"=some none)
    (ca_ac:PySem.W.findIn K (.ref C_ac) "__class__"=some (some (.builtin "object.__class__")))
    (mk_ac:xan K C_ac=true)
    (kc_a8:PySem.W.keepIn K (.ref C_a8)=true)
    (ov_a8:xa2 K C_a8=true)
    (hd_a8:PySem.W.hasDictIn K C_a8=true)
    (sa_a8:PySem.W.findIn K (.ref C_a8) "__setattr__"=some (some (.builtin "object.__setattr__")))
    (ga_a8:PySem.W.findIn K (.ref C_a8) "__getattribute__"=some (some (.builtin "BaseException.__getattribute__")))
    (gh_a8:PySem.W.findIn K (.ref C_a8) "__getattr__"=some none)
    (ca_a8:PySem.W.findIn K (.ref C_a8) "__class__"=some (some (.builtin "object.__class__")))
    (mk_a8:xan K C_a8=true)
    (kc_bl:PySem.W.keepIn K (.ref C_bl)=true)
    (pg_bl:PySem.W.plainGet K C_bl Str.empty=true)
    (hd_bl:PySem.W.hasDictIn K C_bl=true)
    (po_bl:PySem.W.plainOver K C_bl=true)
    (sa_bl:PySem.W.findIn K (.ref C_bl) "__setattr__"=some (some (.builtin "object.__setattr__")))
    (mk_bl:PySem.W.makesIn K C_bl=true)
    (ca_bl:PySem.W.findIn K (.ref C_bl) "__class__"=some (some (.builtin "object.__class__")))
    (mo_bl:PySem.W.mroIn K C_bl (.type "object")=some true)
    (kc_a9:PySem.W.keepIn K (.ref C_a9)=true)
    (pg_a9:PySem.W.plainGet K C_a9 Str.empty=true)
    (hd_a9:PySem.W.hasDictIn K C_a9=true)
    (po_a9:PySem.W.plainOver K C_a9=true)
    (sa_a9:PySem.W.findIn K (.ref C_a9) "__setattr__"=some (some (.builtin "object.__setattr__")))
    (mk_a9:PySem.W.makesIn K C_a9=true)
    (ca_a9:PySem.W.findIn K (.ref C_a9) "__class__"=some (some (.builtin "object.__class__")))
    (mo_a9:PySem.W.mroIn K C_a9 (.type "object")=some true)
    (a_LeftSide_init:PySem.W.findIn K (.ref C_a9) "__init__"=some (some (.ref f_aq)))
    (kc_ay:PySem.W.keepIn K (.ref C_ay)=true)
    (pg_ay:PySem.W.plainGet K C_ay Str.empty=true)
    (hd_ay:PySem.W.hasDictIn K C_ay=true)
    (po_ay:PySem.W.plainOver K C_ay=true)
    (sa_ay:PySem.W.findIn K (.ref C_ay) "__setattr__"=some (some (.builtin "object.__setattr__")))
    (mk_ay:PySem.W.makesIn K C_ay=true)
    (ca_ay:PySem.W.findIn K (.ref C_ay) "__class__"=some (some (.builtin "object.__class__")))
    (mo_ay:PySem.W.mroIn K C_ay (.type "object")=some true)
    (a_RightSide_init:PySem.W.findIn K (.ref C_ay) "__init__"=some (some (.ref f_aq)))
    (kc_e:PySem.W.keepIn K (.ref C_e)=true)
    (pg_e:PySem.W.plainGet K C_e Str.empty=true)
    (hd_e:PySem.W.hasDictIn K C_e=true)
    (po_e:PySem.W.plainOver K C_e=true)
    (sa_e:PySem.W.findIn K (.ref C_e) "__setattr__"=some (some (.builtin "object.__setattr__")))
    (mk_e:PySem.W.makesIn K C_e=true)
    (ca_e:PySem.W.findIn K (.ref C_e) "__class__"=some (some (.builtin "object.__class__")))
    (mo_e:PySem.W.mroIn K C_e (.type "object")=some true)
    (cg:PySem.W.specialIn K (.builtin "object.__class__") "__get__"=some (some (.builtin "getset_descriptor.__get__")))
    (ct:PySem.W.takesIn K (.builtin "object.__class__")=some true)
    (n_b1:PySem.W.findIn K (.ref C_ay) "width"=some none)
    (n_bi:PySem.W.findIn K (.ref C_e) "placed"=some none)
    (n_bk:PySem.W.findIn K (.ref C_e) "height"=some none)
    (n_bn:PySem.W.findIn K (.ref C_e) "width"=some none)
    (n_bm:PySem.W.findIn K (.ref C_e) "opened"=some none)
    (n_ew:PySem.W.findIn K (.ref C_h) "row"=some none)
    (n_eq:PySem.W.findIn K (.ref C_h) "side"=some none)
    (n_dg:PySem.W.findIn K (.ref C_h) "name"=some none)
    (n_er:PySem.W.findIn K (.ref C_h) "high"=some none)
    (n_ex:PySem.W.findIn K (.ref C_h) "low"=some none)
    (n_ek:PySem.W.findIn K (.ref C_h) "sides"=some none)
    (n_fl:PySem.W.findIn K (.ref C_h) "y"=some none)
    (n_fm:PySem.W.findIn K (.ref C_h) "x"=some none)
    (n_fb:PySem.W.findIn K (.ref C_r) "row"=some none)
    (n_ey:PySem.W.findIn K (.ref C_r) "side"=some none)
    (n_ez:PySem.W.findIn K (.ref C_r) "name"=some none)
    (n_e0:PySem.W.findIn K (.ref C_r) "high"=some none)
    (n_fc:PySem.W.findIn K (.ref C_r) "low"=some none)
    (n_es:PySem.W.findIn K (.ref C_r) "sides"=some none)
    (n_fp:PySem.W.findIn K (.ref C_r) "y"=some none)
    (n_fq:PySem.W.findIn K (.ref C_r) "x"=some none)
    (n_el:PySem.W.findIn K (.ref C_c) "row"=some none)
    (n_eg:PySem.W.findIn K (.ref C_c) "side"=some none)
    (n_b2:PySem.W.findIn K (.ref C_c) "name"=some none)
    (n_eh:PySem.W.findIn K (.ref C_c) "high"=some none)
    (n_em:PySem.W.findIn K (.ref C_c) "low"=some none)
    (n_d4:PySem.W.findIn K (.ref C_c) "sides"=some none)
    (n_e1:PySem.W.findIn K (.ref C_c) "y"=some none)
    (n_e2:PySem.W.findIn K (.ref C_c) "x"=some none)
    (n_fd:PySem.W.findIn K (.ref C_t) "row"=some none)
    (n_e3:PySem.W.findIn K (.ref C_t) "side"=some none)
    (n_d5:PySem.W.findIn K (.ref C_t) "name"=some none)
    (n_e4:PySem.W.findIn K (.ref C_t) "high"=some none)
    (n_fe:PySem.W.findIn K (.ref C_t) "low"=some none)
    (n_et:PySem.W.findIn K (.ref C_t) "sides"=some none)
    (n_fr:PySem.W.findIn K (.ref C_t) "y"=some none)
    (n_fs:PySem.W.findIn K (.ref C_t) "x"=some none)
    (n_ff:PySem.W.findIn K (.ref C_s) "row"=some none)
    (n_e5:PySem.W.findIn K (.ref C_s) "side"=some none)
    (n_d6:PySem.W.findIn K (.ref C_s) "name"=some none)
    (n_e6:PySem.W.findIn K (.ref C_s) "high"=some none)
    (n_fg:PySem.W.findIn K (.ref C_s) "low"=some none)
    (n_eu:PySem.W.findIn K (.ref C_s) "sides"=some none)
    (n_ft:PySem.W.findIn K (.ref C_s) "y"=some none)
    (n_fu:PySem.W.findIn K (.ref C_s) "x"=some none)
    (n_ei:PySem.W.findIn K (.ref C_o) "row"=some none)
    (n_d7:PySem.W.findIn K (.ref C_o) "side"=some none)
    (n_e7:PySem.W.findIn K (.ref C_o) "name"=some none)
    (n_e8:PySem.W.findIn K (.ref C_o) "high"=some none)
    (n_fh:PySem.W.findIn K (.ref C_o) "low"=some none)
    (n_ev:PySem.W.findIn K (.ref C_o) "sides"=some none)
    (n_fv:PySem.W.findIn K (.ref C_o) "y"=some none)
    (n_fw:PySem.W.findIn K (.ref C_o) "x"=some none)
    (n_ep:PySem.W.findIn K (.ref C_ab) "row"=some none)
    (n_ej:PySem.W.findIn K (.ref C_ab) "side"=some none)
    (n_fi:PySem.W.findIn K (.ref C_ab) "name"=some none)
    (n_fj:PySem.W.findIn K (.ref C_ab) "high"=some none)
    (n_fn:PySem.W.findIn K (.ref C_ab) "low"=some none)
    (n_e9:PySem.W.findIn K (.ref C_ab) "sides"=some none)
    (n_fx:PySem.W.findIn K (.ref C_ab) "y"=some none)
    (n_fy:PySem.W.findIn K (.ref C_ab) "x"=some none)
    (n_fo:PySem.W.findIn K (.ref C_bl) "width"=some none)
    (n_dh:PySem.W.findIn K (.ref C_a9) "width"=some none)
    (n_fa:PySem.W.nsIn K mainGlobals "ValueError"=some none)
    (n_abs:PySem.W.nsIn K mainGlobals "abs"=some none)
    (n_bool:PySem.W.nsIn K mainGlobals "bool"=some none)
    (n_int:PySem.W.nsIn K mainGlobals "int"=some none)
    (n_isinstance:PySem.W.nsIn K mainGlobals "isinstance"=some none)
    (n_len:PySem.W.nsIn K mainGlobals "len"=some none)
    (n_min:PySem.W.nsIn K mainGlobals "min"=some none)
    (n_range:PySem.W.nsIn K mainGlobals "range"=some none)
    (n_sorted:PySem.W.nsIn K mainGlobals "sorted"=some none)
    (n_str:PySem.W.nsIn K mainGlobals "str"=some none)
    (kit_cq:PySem.W.kitOne K (.ref C_h) (.ref C_bf)=some false)
    (kit_cr:PySem.W.kitOne K (.ref C_h) (.ref C_bg)=some false)
    (kit_ca:PySem.W.kitOne K (.ref C_h) (.ref C_be)=some false)
    (kit_b3:PySem.W.kitOne K (.ref C_h) (.ref C_bd)=some false)
    (kit_b4:PySem.W.kitOne K (.ref C_h) (.ref C_h)=some true)
    (kit_cb:PySem.W.kitOne K (.ref C_h) (.ref C_r)=some false)
    (kit_bp:PySem.W.kitOne K (.ref C_h) (.ref C_c)=some false)
    (kit_cc:PySem.W.kitOne K (.ref C_h) (.ref C_t)=some false)
    (kit_cd:PySem.W.kitOne K (.ref C_h) (.ref C_s)=some false)
    (kit_cs:PySem.W.kitOne K (.ref C_h) (.ref C_bh)=some false)
    (kit_di:PySem.W.kitOne K (.ref C_h) (.ref C_bj)=some false)
    (kit_ce:PySem.W.kitOne K (.ref C_h) (.ref C_o)=some false)
    (kit_ct:PySem.W.kitOne K (.ref C_h) (.ref C_ab)=some false)
    (kany_h:PySem.W.kitAny K (.ref C_h) [.ref C_a6,.ref C_a7,.ref C_as,.ref C_at,.ref C_au,.ref C_av,.ref C_ac,.ref C_a8]=some false)
    (kitv_h:PySem.W.kitOne K (.ref C_h) (.type "ValueError")=some true)
    (mro_h:PySem.W.mroIn K C_h (.ref C_bb)=some true)
    (kit_dj:PySem.W.kitOne K (.ref C_r) (.ref C_bf)=some false)
    (kit_dk:PySem.W.kitOne K (.ref C_r) (.ref C_bg)=some false)
    (kit_cu:PySem.W.kitOne K (.ref C_r) (.ref C_be)=some false)
    (kit_cf:PySem.W.kitOne K (.ref C_r) (.ref C_bd)=some false)
    (kit_cg:PySem.W.kitOne K (.ref C_r) (.ref C_h)=some false)
    (kit_cv:PySem.W.kitOne K (.ref C_r) (.ref C_r)=some true)
    (kit_bs:PySem.W.kitOne K (.ref C_r) (.ref C_c)=some false)
    (kit_cw:PySem.W.kitOne K (.ref C_r) (.ref C_t)=some false)
    (kit_cx:PySem.W.kitOne K (.ref C_r) (.ref C_s)=some false)
    (kit_dl:PySem.W.kitOne K (.ref C_r) (.ref C_bh)=some false)
    (kit_d8:PySem.W.kitOne K (.ref C_r) (.ref C_bj)=some false)
    (kit_cy:PySem.W.kitOne K (.ref C_r) (.ref C_o)=some false)
    (kit_dm:PySem.W.kitOne K (.ref C_r) (.ref C_ab)=some false)
    (kany_r:PySem.W.kitAny K (.ref C_r) [.ref C_a6,.ref C_a7,.ref C_as,.ref C_at,.ref C_au,.ref C_av,.ref C_ac,.ref C_a8]=some false)
    (kitv_r:PySem.W.kitOne K (.ref C_r) (.type "ValueError")=some true)
    (mro_r:PySem.W.mroIn K C_r (.ref C_bb)=some true)
    (ns_r:xno0 K C_r=true)
    (ns_fk:PySem.W.keepIn K (.ref C_r)=true)
    (kit_b5:PySem.W.kitOne K (.ref C_c) (.ref C_bf)=some false)
    (kit_b6:PySem.W.kitOne K (.ref C_c) (.ref C_bg)=some false)
    (kit_bt:PySem.W.kitOne K (.ref C_c) (.ref C_be)=some false)
    (kit_bq:PySem.W.kitOne K (.ref C_c) (.ref C_bd)=some false)
    (kit_br:PySem.W.kitOne K (.ref C_c) (.ref C_h)=some false)
    (kit_bu:PySem.W.kitOne K (.ref C_c) (.ref C_r)=some false)
    (kit_bo:PySem.W.kitOne K (.ref C_c) (.ref C_c)=some true)
    (kit_bv:PySem.W.kitOne K (.ref C_c) (.ref C_t)=some false)
    (kit_bw:PySem.W.kitOne K (.ref C_c) (.ref C_s)=some false)
    (kit_b7:PySem.W.kitOne K (.ref C_c) (.ref C_bh)=some false)
    (kit_ch:PySem.W.kitOne K (.ref C_c) (.ref C_bj)=some false)
    (kit_bx:PySem.W.kitOne K (.ref C_c) (.ref C_o)=some false)
    (kit_b8:PySem.W.kitOne K (.ref C_c) (.ref C_ab)=some false)
    (kany_c:PySem.W.kitAny K (.ref C_c) [.ref C_a6,.ref C_a7,.ref C_as,.ref C_at,.ref C_au,.ref C_av,.ref C_ac,.ref C_a8]=some false)
    (kitv_c:PySem.W.kitOne K (.ref C_c) (.type "ValueError")=some true)
    (mro_c:PySem.W.mroIn K C_c (.ref C_bb)=some true)
    (kit_dn:PySem.W.kitOne K (.ref C_t) (.ref C_bf)=some false)
    (kit_do:PySem.W.kitOne K (.ref C_t) (.ref C_bg)=some false)
    (kit_cz:PySem.W.kitOne K (.ref C_t) (.ref C_be)=some false)
    (kit_ci:PySem.W.kitOne K (.ref C_t) (.ref C_bd)=some false)
    (kit_cj:PySem.W.kitOne K (.ref C_t) (.ref C_h)=some false)
    (kit_c0:PySem.W.kitOne K (.ref C_t) (.ref C_r)=some false)
    (kit_by:PySem.W.kitOne K (.ref C_t) (.ref C_c)=some false)
    (kit_c1:PySem.W.kitOne K (.ref C_t) (.ref C_t)=some true)
    (kit_c2:PySem.W.kitOne K (.ref C_t) (.ref C_s)=some false)
    (kit_dp:PySem.W.kitOne K (.ref C_t) (.ref C_bh)=some false)
    (kit_d9:PySem.W.kitOne K (.ref C_t) (.ref C_bj)=some false)
    (kit_c3:PySem.W.kitOne K (.ref C_t) (.ref C_o)=some false)
    (kit_dq:PySem.W.kitOne K (.ref C_t) (.ref C_ab)=some false)
    (kany_t:PySem.W.kitAny K (.ref C_t) [.ref C_a6,.ref C_a7,.ref C_as,.ref C_at,.ref C_au,.ref C_av,.ref C_ac,.ref C_a8]=some false)
    (kitv_t:PySem.W.kitOne K (.ref C_t) (.type "ValueError")=some true)
    (mro_t:PySem.W.mroIn K C_t (.ref C_bb)=some true)
    (kit_dr:PySem.W.kitOne K (.ref C_s) (.ref C_bf)=some false)
    (kit_ds:PySem.W.kitOne K (.ref C_s) (.ref C_bg)=some false)
    (kit_c4:PySem.W.kitOne K (.ref C_s) (.ref C_be)=some false)
    (kit_ck:PySem.W.kitOne K (.ref C_s) (.ref C_bd)=some false)
    (kit_cl:PySem.W.kitOne K (.ref C_s) (.ref C_h)=some false)
    (kit_c5:PySem.W.kitOne K (.ref C_s) (.ref C_r)=some false)
    (kit_bz:PySem.W.kitOne K (.ref C_s) (.ref C_c)=some false)
    (kit_c6:PySem.W.kitOne K (.ref C_s) (.ref C_t)=some false)
    (kit_c7:PySem.W.kitOne K (.ref C_s) (.ref C_s)=some true)
    (kit_dt:PySem.W.kitOne K (.ref C_s) (.ref C_bh)=some false)
    (kit_ea:PySem.W.kitOne K (.ref C_s) (.ref C_bj)=some false)
    (kit_c8:PySem.W.kitOne K (.ref C_s) (.ref C_o)=some false)
    (kit_du:PySem.W.kitOne K (.ref C_s) (.ref C_ab)=some false)
    (kany_s:PySem.W.kitAny K (.ref C_s) [.ref C_a6,.ref C_a7,.ref C_as,.ref C_at,.ref C_au,.ref C_av,.ref C_ac,.ref C_a8]=some false)
    (kitv_s:PySem.W.kitOne K (.ref C_s) (.type "ValueError")=some true)
    (mro_s:PySem.W.mroIn K C_s (.ref C_bb)=some true)
    (kit_dv:PySem.W.kitOne K (.ref C_o) (.ref C_bf)=some false)
    (kit_dw:PySem.W.kitOne K (.ref C_o) (.ref C_bg)=some false)
    (kit_c9:PySem.W.kitOne K (.ref C_o) (.ref C_be)=some false)
    (kit_cm:PySem.W.kitOne K (.ref C_o) (.ref C_bd)=some false)
    (kit_cn:PySem.W.kitOne K (.ref C_o) (.ref C_h)=some false)
    (kit_da:PySem.W.kitOne K (.ref C_o) (.ref C_r)=some false)
    (kit_b0:PySem.W.kitOne K (.ref C_o) (.ref C_c)=some false)
    (kit_db:PySem.W.kitOne K (.ref C_o) (.ref C_t)=some false)
    (kit_dc:PySem.W.kitOne K (.ref C_o) (.ref C_s)=some false)
    (kit_dx:PySem.W.kitOne K (.ref C_o) (.ref C_bh)=some false)
    (kit_eb:PySem.W.kitOne K (.ref C_o) (.ref C_bj)=some false)
    (kit_dd:PySem.W.kitOne K (.ref C_o) (.ref C_o)=some true)
    (kit_dy:PySem.W.kitOne K (.ref C_o) (.ref C_ab)=some false)
    (kany_o:PySem.W.kitAny K (.ref C_o) [.ref C_a6,.ref C_a7,.ref C_as,.ref C_at,.ref C_au,.ref C_av,.ref C_ac,.ref C_a8]=some false)
    (kitv_o:PySem.W.kitOne K (.ref C_o) (.type "ValueError")=some true)
    (mro_o:PySem.W.mroIn K C_o (.ref C_bb)=some true)
    (kit_ec:PySem.W.kitOne K (.ref C_ab) (.ref C_bf)=some false)
    (kit_ed:PySem.W.kitOne K (.ref C_ab) (.ref C_bg)=some false)
    (kit_dz:PySem.W.kitOne K (.ref C_ab) (.ref C_be)=some false)
    (kit_de:PySem.W.kitOne K (.ref C_ab) (.ref C_bd)=some false)
    (kit_df:PySem.W.kitOne K (.ref C_ab) (.ref C_h)=some false)
    (kit_d0:PySem.W.kitOne K (.ref C_ab) (.ref C_r)=some false)
    (kit_b9:PySem.W.kitOne K (.ref C_ab) (.ref C_c)=some false)
    (kit_d1:PySem.W.kitOne K (.ref C_ab) (.ref C_t)=some false)
    (kit_d2:PySem.W.kitOne K (.ref C_ab) (.ref C_s)=some false)
    (kit_ee:PySem.W.kitOne K (.ref C_ab) (.ref C_bh)=some false)
    (kit_en:PySem.W.kitOne K (.ref C_ab) (.ref C_bj)=some false)
    (kit_d3:PySem.W.kitOne K (.ref C_ab) (.ref C_o)=some false)
    (kit_ef:PySem.W.kitOne K (.ref C_ab) (.ref C_ab)=some true)
    (kany_ab:PySem.W.kitAny K (.ref C_ab) [.ref C_a6,.ref C_a7,.ref C_as,.ref C_at,.ref C_au,.ref C_av,.ref C_ac,.ref C_a8]=some false)
    (kitv_ab:PySem.W.kitOne K (.ref C_ab) (.type "ValueError")=some true)
    (mro_ab:PySem.W.mroIn K C_ab (.ref C_bb)=some true)
    (v_eo:PySem.W.nsIn K mainGlobals "MOST_ROWS"=some (some (.int 16 tkc_eo)))
    (v_cp:PySem.W.nsIn K mainGlobals "MOST_COLUMNS"=some (some (.int 30 tkc_cp)))
    (v_co:PySem.W.nsIn K mainGlobals "MOST_POINTS"=some (some (.int 12 tkc_co)))
    (g_a2:PySem.W.nsIn K mainGlobals "MIRRORED_SIDES"=some (some (.ref D_a2)))
    (l_a2:K.lookup D_a2=some ⟨.type "dict",none,.dict #[⟨hashStr w "left",.str "left" ta0_a2,.str "right" tb0_a2⟩,⟨hashStr w "right",.str "right" ta1_a2,.str "left" tb1_a2⟩,⟨hashStr w "both",.str "both" ta2_a2,.str "both" tb2_a2⟩] ep_a2,#[]⟩)
    (ns_a2:(D_a2 == sysModules)=false)
   :∃ t,Txt w K mg t :=
  ⟨⟨f_ad,_,f_aj,_,f_y,_,f_ak,_,f_al,_,f_ao,_,f_aq,_,f_u,_,f_n,_,f_a5,_,f_am,_,f_a3,_,f_ai,_,f_p,_,T_p,f_ag,_,f_ah,_,f_g,_,f_k,_,f_i,_,f_q,_,f_l,_,f_af,_,f_x,_,f_j,_,f_aa,_,f_m,_,f_v,_,f_b,_,f_f,_,f_a,_,f_d,_,f_w,_,f_a4,_,f_ap,_,f_aw,_,f_z,_,f_ar,_,f_ax,_,f_ba,_,f_bc,_,f_a0,_,f_az,_,f_an,_,f_ae,_,f_a1,_,f_law,_,C_bb,C_a6,C_bf,C_bg,C_be,C_bd,C_h,C_s,C_r,C_c,C_t,C_bh,C_bj,C_o,C_ab,C_a7,C_as,C_at,C_au,C_av,C_ac,C_a8,C_bl,C_a9,C_ay,C_e,D_a2⟩,{
    g_bb:=PySem.W.mg_of X G g_bb
    g_a6:=PySem.W.mg_of X G g_a6
    g_bf:=PySem.W.mg_of X G g_bf
    g_bg:=PySem.W.mg_of X G g_bg
    g_be:=PySem.W.mg_of X G g_be
    g_bd:=PySem.W.mg_of X G g_bd
    g_h:=PySem.W.mg_of X G g_h
    g_s:=PySem.W.mg_of X G g_s
    g_r:=PySem.W.mg_of X G g_r
    g_c:=PySem.W.mg_of X G g_c
    g_t:=PySem.W.mg_of X G g_t
    g_bh:=PySem.W.mg_of X G g_bh
    g_bj:=PySem.W.mg_of X G g_bj
    g_o:=PySem.W.mg_of X G g_o
    g_ab:=PySem.W.mg_of X G g_ab
    g_a7:=PySem.W.mg_of X G g_a7
    g_as:=PySem.W.mg_of X G g_as
    g_at:=PySem.W.mg_of X G g_at
    g_au:=PySem.W.mg_of X G g_au
    g_av:=PySem.W.mg_of X G g_av
    g_ac:=PySem.W.mg_of X G g_ac
    g_a8:=PySem.W.mg_of X G g_a8
    g_bl:=PySem.W.mg_of X G g_bl
    g_a9:=PySem.W.mg_of X G g_a9
    g_ay:=PySem.W.mg_of X G g_ay
    g_e:=PySem.W.mg_of X G g_e
    F_ad:=xt (st:=s_ad) l_ad c_ad k_ad
    b_ad:=(xt (st:=s_ad) l_ad c_ad k_ad).binds (ps:=["self", "name"]) fun _ _ _ _ _ _ us hl=>match us,hl with | [_,_],_=>rfl
    F_aj:=xt (st:=s_aj) l_aj c_aj k_aj
    b_aj:=(xt (st:=s_aj) l_aj c_aj k_aj).binds (ps:=["self", "name"]) fun _ _ _ _ _ _ us hl=>match us,hl with | [_,_],_=>rfl
    F_y:=xt (st:=s_y) l_y c_y k_y
    b_y:=(xt (st:=s_y) l_y c_y k_y).binds (ps:=["self", "name"]) fun _ _ _ _ _ _ us hl=>match us,hl with | [_,_],_=>rfl
    F_ak:=xt (st:=s_ak) l_ak c_ak k_ak
    b_ak:=(xt (st:=s_ak) l_ak c_ak k_ak).binds (ps:=["self", "name"]) fun _ _ _ _ _ _ us hl=>match us,hl with | [_,_],_=>rfl
    F_al:=xt (st:=s_al) l_al c_al k_al
    b_al:=(xt (st:=s_al) l_al c_al k_al).binds (ps:=["self", "side", "row"]) fun _ _ _ _ _ _ us hl=>match us,hl with | [_,_,_],_=>rfl
    F_ao:=xt (st:=s_ao) l_ao c_ao k_ao
    b_ao:=(xt (st:=s_ao) l_ao c_ao k_ao).binds (ps:=["self", "side", "row"]) fun _ _ _ _ _ _ us hl=>match us,hl with | [_,_,_],_=>rfl
    F_aq:=xt (st:=s_aq) l_aq c_aq k_aq
    b_aq:=(xt (st:=s_aq) l_aq c_aq k_aq).binds (ps:=["self", "width"]) fun _ _ _ _ _ _ us hl=>match us,hl with | [_,_],_=>rfl
    F_u:=xt (st:=s_u) l_u c_u k_u
    b_u:=(xt (st:=s_u) l_u c_u k_u).binds (ps:=["self", "x"]) fun _ _ _ _ _ _ us hl=>match us,hl with | [_,_],_=>rfl
    F_n:=xt (st:=s_n) l_n c_n k_n
    b_n:=(xt (st:=s_n) l_n c_n k_n).binds (ps:=["self", "x"]) fun _ _ _ _ _ _ us hl=>match us,hl with | [_,_],_=>rfl
    g_a5:=PySem.W.mg_of X G a_a5
    F_a5:=xt (st:=s_a5) l_a5 c_a5 k_a5
    b_a5:=(xt (st:=s_a5) l_a5 c_a5 k_a5).binds (ps:=["word", "width"]) fun _ _ _ _ _ _ us hl=>match us,hl with | [_,_],_=>rfl
    g_am:=PySem.W.mg_of X G a_am
    F_am:=xt (st:=s_am) l_am c_am k_am
    b_am:=(xt (st:=s_am) l_am c_am k_am).binds (ps:=["thing", "low", "high"]) fun _ _ _ _ _ _ us hl=>match us,hl with | [_,_,_],_=>rfl
    g_a3:=PySem.W.mg_of X G a_a3
    F_a3:=xt (st:=s_a3) l_a3 c_a3 k_a3
    b_a3:=(xt (st:=s_a3) l_a3 c_a3 k_a3).binds (ps:=["thing"]) fun _ _ _ _ _ _ us hl=>match us,hl with | [_],_=>rfl
    F_ai:=xt (st:=s_ai) l_ai c_ai k_ai
    b_ai:=(xt (st:=s_ai) l_ai c_ai k_ai).binds (ps:=["self", "width", "height"]) fun _ _ _ _ _ _ us hl=>match us,hl with | [_,_,_],_=>rfl
    F_p:=(xjm (st:=s_p) l_p c_p k_p)
    b_p:=(xjm (st:=s_p) l_p c_p k_p).binds t_p rfl 7 rfl fun _ _ _ _ _ _ us hl=>match us,hl with | [_,_,_,_,_,_,_],_=>⟨_,rfl,rfl⟩
    F_ag:=xt (st:=s_ag) l_ag c_ag k_ag
    b_ag:=(xt (st:=s_ag) l_ag c_ag k_ag).binds (ps:=["self", "name"]) fun _ _ _ _ _ _ us hl=>match us,hl with | [_,_],_=>rfl
    F_ah:=xt (st:=s_ah) l_ah c_ah k_ah
    b_ah:=(xt (st:=s_ah) l_ah c_ah k_ah).binds (ps:=["self", "name", "x", "y"]) fun _ _ _ _ _ _ us hl=>match us,hl with | [_,_,_,_],_=>rfl
    F_g:=xt (st:=s_g) l_g c_g k_g
    b_g:=(xt (st:=s_g) l_g c_g k_g).binds (ps:=["self", "side", "row"]) fun _ _ _ _ _ _ us hl=>match us,hl with | [_,_,_],_=>rfl
    F_k:=xt (st:=s_k) l_k c_k k_k
    b_k:=(xt (st:=s_k) l_k c_k k_k).binds (ps:=["self", "side", "row"]) fun _ _ _ _ _ _ us hl=>match us,hl with | [_,_,_],_=>rfl
    F_i:=xt (st:=s_i) l_i c_i k_i
    b_i:=(xt (st:=s_i) l_i c_i k_i).binds (ps:=["self"]) fun _ _ _ _ _ _ us hl=>match us,hl with | [_],_=>rfl
    F_q:=xt (st:=s_q) l_q c_q k_q
    b_q:=(xt (st:=s_q) l_q c_q k_q).binds (ps:=["self"]) fun _ _ _ _ _ _ us hl=>match us,hl with | [_],_=>rfl
    F_l:=xt (st:=s_l) l_l c_l k_l
    b_l:=(xt (st:=s_l) l_l c_l k_l).binds (ps:=["self", "name"]) fun _ _ _ _ _ _ us hl=>match us,hl with | [_,_],_=>rfl
    F_af:=xt (st:=s_af) l_af c_af k_af
    b_af:=(xt (st:=s_af) l_af c_af k_af).binds (ps:=["self", "name", "side", "row"]) fun _ _ _ _ _ _ us hl=>match us,hl with | [_,_,_,_],_=>rfl
    F_x:=xt (st:=s_x) l_x c_x k_x
    b_x:=(xt (st:=s_x) l_x c_x k_x).binds (ps:=["self", "name", "side", "row"]) fun _ _ _ _ _ _ us hl=>match us,hl with | [_,_,_,_],_=>rfl
    F_j:=xt (st:=s_j) l_j c_j k_j
    b_j:=(xt (st:=s_j) l_j c_j k_j).binds (ps:=["self", "name"]) fun _ _ _ _ _ _ us hl=>match us,hl with | [_,_],_=>rfl
    F_aa:=xt (st:=s_aa) l_aa c_aa k_aa
    b_aa:=(xt (st:=s_aa) l_aa c_aa k_aa).binds (ps:=["self"]) fun _ _ _ _ _ _ us hl=>match us,hl with | [_],_=>rfl
    F_m:=xt (st:=s_m) l_m c_m k_m
    b_m:=(xt (st:=s_m) l_m c_m k_m).binds (ps:=["self"]) fun _ _ _ _ _ _ us hl=>match us,hl with | [_],_=>rfl
    F_v:=xt (st:=s_v) l_v c_v k_v
    b_v:=(xt (st:=s_v) l_v c_v k_v).binds (ps:=["self"]) fun _ _ _ _ _ _ us hl=>match us,hl with | [_],_=>rfl
    F_b:=xt (st:=s_b) l_b c_b k_b
    b_b:=(xt (st:=s_b) l_b c_b k_b).binds (ps:=["self", "name"]) fun _ _ _ _ _ _ us hl=>match us,hl with | [_,_],_=>rfl
    F_f:=xt (st:=s_f) l_f c_f k_f
    b_f:=(xt (st:=s_f) l_f c_f k_f).binds (ps:=["self", "x", "y"]) fun _ _ _ _ _ _ us hl=>match us,hl with | [_,_,_],_=>rfl
    F_a:=xt (st:=s_a) l_a c_a k_a
    b_a:=(xt (st:=s_a) l_a c_a k_a).binds (ps:=["self", "name", "x", "y"]) fun _ _ _ _ _ _ us hl=>match us,hl with | [_,_,_,_],_=>rfl
    F_d:=xt (st:=s_d) l_d c_d k_d
    b_d:=(xt (st:=s_d) l_d c_d k_d).binds (ps:=["self", "side", "row"]) fun _ _ _ _ _ _ us hl=>match us,hl with | [_,_,_],_=>rfl
    g_w:=PySem.W.mg_of X G a_w
    F_w:=xt (st:=s_w) l_w c_w k_w
    b_w:=(xt (st:=s_w) l_w c_w k_w).binds (ps:=["width", "height", "points", "seats"]) fun _ _ _ _ _ _ us hl=>match us,hl with | [_,_,_,_],_=>rfl
    g_a4:=PySem.W.mg_of X G a_a4
    F_a4:=xt (st:=s_a4) l_a4 c_a4 k_a4
    b_a4:=(xt (st:=s_a4) l_a4 c_a4 k_a4).binds (ps:=["_law_script", "_law_k"]) fun _ _ _ _ _ _ us hl=>match us,hl with | [_,_],_=>rfl
    g_ap:=PySem.W.mg_of X G a_ap
    F_ap:=xt (st:=s_ap) l_ap c_ap k_ap
    b_ap:=(xt (st:=s_ap) l_ap c_ap k_ap).binds (ps:=["_law_cell_here", "_law_k"]) fun _ _ _ _ _ _ us hl=>match us,hl with | [_,_],_=>rfl
    g_aw:=PySem.W.mg_of X G a_aw
    F_aw:=xt (st:=s_aw) l_aw c_aw k_aw
    b_aw:=(xt (st:=s_aw) l_aw c_aw k_aw).binds (ps:=["_law_e"]) fun _ _ _ _ _ _ us hl=>match us,hl with | [_],_=>rfl
    g_z:=PySem.W.mg_of X G a_z
    F_z:=xt (st:=s_z) l_z c_z k_z
    b_z:=(xt (st:=s_z) l_z c_z k_z).binds (ps:=["_law_e"]) fun _ _ _ _ _ _ us hl=>match us,hl with | [_],_=>rfl
    g_ar:=PySem.W.mg_of X G a_ar
    F_ar:=xt (st:=s_ar) l_ar c_ar k_ar
    b_ar:=(xt (st:=s_ar) l_ar c_ar k_ar).binds (ps:=["_law_cell_here", "_law_k"]) fun _ _ _ _ _ _ us hl=>match us,hl with | [_,_],_=>rfl
    g_ax:=PySem.W.mg_of X G a_ax
    F_ax:=xt (st:=s_ax) l_ax c_ax k_ax
    b_ax:=(xt (st:=s_ax) l_ax c_ax k_ax).binds (ps:=["_law_cell_here", "_law_k", "_law_size", "_law_rows"]) fun _ _ _ _ _ _ us hl=>match us,hl with | [_,_,_,_],_=>rfl
    g_ba:=PySem.W.mg_of X G a_ba
    F_ba:=xt (st:=s_ba) l_ba c_ba k_ba
    b_ba:=(xt (st:=s_ba) l_ba c_ba k_ba).binds (ps:=["_law_rows", "_law_row"]) fun _ _ _ _ _ _ us hl=>match us,hl with | [_,_],_=>rfl
    g_bc:=PySem.W.mg_of X G a_bc
    F_bc:=xt (st:=s_bc) l_bc c_bc k_bc
    b_bc:=(xt (st:=s_bc) l_bc c_bc k_bc).binds (ps:=["_law_rows", "_law_seats", "_law_deed_here"]) fun _ _ _ _ _ _ us hl=>match us,hl with | [_,_,_],_=>rfl
    g_a0:=PySem.W.mg_of X G a_a0
    F_a0:=xt (st:=s_a0) l_a0 c_a0 k_a0
    b_a0:=(xt (st:=s_a0) l_a0 c_a0 k_a0).binds (ps:=["_law_picture", "_law_deed_here"]) fun _ _ _ _ _ _ us hl=>match us,hl with | [_,_],_=>rfl
    g_az:=PySem.W.mg_of X G a_az
    F_az:=xt (st:=s_az) l_az c_az k_az
    b_az:=(xt (st:=s_az) l_az c_az k_az).binds (ps:=["_law_rows", "_law_seats", "_law_deed_here"]) fun _ _ _ _ _ _ us hl=>match us,hl with | [_,_,_],_=>rfl
    g_an:=PySem.W.mg_of X G a_an
    F_an:=xt (st:=s_an) l_an c_an k_an
    b_an:=(xt (st:=s_an) l_an c_an k_an).binds (ps:=["_law_thing", "_law_way", "_law_width", "_law_height"]) fun _ _ _ _ _ _ us hl=>match us,hl with | [_,_,_,_],_=>rfl
    g_ae:=PySem.W.mg_of X G a_ae
    F_ae:=xt (st:=s_ae) l_ae c_ae k_ae
    b_ae:=(xt (st:=s_ae) l_ae c_ae k_ae).binds (ps:=["_law_pictures", "_law_held", "_law_number"]) fun _ _ _ _ _ _ us hl=>match us,hl with | [_,_,_],_=>rfl
    g_a1:=PySem.W.mg_of X G a_a1
    F_a1:=xt (st:=s_a1) l_a1 c_a1 k_a1
    b_a1:=(xt (st:=s_a1) l_a1 c_a1 k_a1).binds (ps:=["_law_picture", "_law_thing"]) fun _ _ _ _ _ _ us hl=>match us,hl with | [_,_],_=>rfl
    g_law:=PySem.W.mg_of X G a_law
    F_law:=xt (st:=xei) l_law c_law k_law
    b_law:=(xt (st:=xei) l_law c_law k_law).binds (ps:=["_law_script"]) fun _ _ _ _ _ _ us hl=>match us,hl with | [_],_=>rfl
    x_bb:=⟨ov_bb,hd_bb,sa_bb,ga_bb,gh_bb,ca_bb,cg,ct⟩
    mk_bb:=mk_bb
    x_a6:=⟨ov_a6,hd_a6,sa_a6,ga_a6,gh_a6,ca_a6,cg,ct⟩
    mk_a6:=mk_a6
    x_bf:=⟨ov_bf,hd_bf,sa_bf,ga_bf,gh_bf,ca_bf,cg,ct⟩
    mk_bf:=mk_bf
    x_bg:=⟨ov_bg,hd_bg,sa_bg,ga_bg,gh_bg,ca_bg,cg,ct⟩
    mk_bg:=mk_bg
    x_be:=⟨ov_be,hd_be,sa_be,ga_be,gh_be,ca_be,cg,ct⟩
    mk_be:=mk_be
    x_bd:=⟨ov_bd,hd_bd,sa_bd,ga_bd,gh_bd,ca_bd,cg,ct⟩
    mk_bd:=mk_bd
    x_h:=⟨ov_h,hd_h,sa_h,ga_h,gh_h,ca_h,cg,ct⟩
    mk_h:=mk_h
    k_h:=⟨mk_h,a_ad,i_ad,kc_h⟩
    x_s:=⟨ov_s,hd_s,sa_s,ga_s,gh_s,ca_s,cg,ct⟩
    mk_s:=mk_s
    k_s:=⟨mk_s,a_aj,i_aj,kc_s⟩
    x_r:=⟨ov_r,hd_r,sa_r,ga_r,gh_r,ca_r,cg,ct⟩
    mk_r:=mk_r
    x_c:=⟨ov_c,hd_c,sa_c,ga_c,gh_c,ca_c,cg,ct⟩
    mk_c:=mk_c
    k_c:=⟨mk_c,a_y,i_y,kc_c⟩
    x_t:=⟨ov_t,hd_t,sa_t,ga_t,gh_t,ca_t,cg,ct⟩
    mk_t:=mk_t
    k_t:=⟨mk_t,a_ak,i_ak,kc_t⟩
    x_bh:=⟨ov_bh,hd_bh,sa_bh,ga_bh,gh_bh,ca_bh,cg,ct⟩
    mk_bh:=mk_bh
    x_bj:=⟨ov_bj,hd_bj,sa_bj,ga_bj,gh_bj,ca_bj,cg,ct⟩
    mk_bj:=mk_bj
    x_o:=⟨ov_o,hd_o,sa_o,ga_o,gh_o,ca_o,cg,ct⟩
    mk_o:=mk_o
    k_o:=⟨mk_o,a_al,i_al,kc_o⟩
    x_ab:=⟨ov_ab,hd_ab,sa_ab,ga_ab,gh_ab,ca_ab,cg,ct⟩
    mk_ab:=mk_ab
    k_ab:=⟨mk_ab,a_ao,i_ao,kc_ab⟩
    x_a7:=⟨ov_a7,hd_a7,sa_a7,ga_a7,gh_a7,ca_a7,cg,ct⟩
    mk_a7:=mk_a7
    x_as:=⟨ov_as,hd_as,sa_as,ga_as,gh_as,ca_as,cg,ct⟩
    mk_as:=mk_as
    x_at:=⟨ov_at,hd_at,sa_at,ga_at,gh_at,ca_at,cg,ct⟩
    mk_at:=mk_at
    x_au:=⟨ov_au,hd_au,sa_au,ga_au,gh_au,ca_au,cg,ct⟩
    mk_au:=mk_au
    x_av:=⟨ov_av,hd_av,sa_av,ga_av,gh_av,ca_av,cg,ct⟩
    mk_av:=mk_av
    x_ac:=⟨ov_ac,hd_ac,sa_ac,ga_ac,gh_ac,ca_ac,cg,ct⟩
    mk_ac:=mk_ac
    x_a8:=⟨ov_a8,hd_a8,sa_a8,ga_a8,gh_a8,ca_a8,cg,ct⟩
    mk_a8:=mk_a8
    c_bl:=⟨pg_bl,hd_bl,po_bl,sa_bl⟩
    ca_bl:=ca_bl
    mo_bl:=mo_bl
    k_bl:=⟨mk_bl,a_aq,i_aq,kc_bl⟩
    c_a9:=⟨pg_a9,hd_a9,po_a9,sa_a9⟩
    ca_a9:=ca_a9
    mo_a9:=mo_a9
    k_a9:=⟨mk_a9,a_LeftSide_init,i_aq,kc_a9⟩
    m_u:=⟨a_u,i_u,k_u⟩
    c_ay:=⟨pg_ay,hd_ay,po_ay,sa_ay⟩
    ca_ay:=ca_ay
    mo_ay:=mo_ay
    k_ay:=⟨mk_ay,a_RightSide_init,i_aq,kc_ay⟩
    m_n:=⟨a_n,i_n,k_n⟩
    c_e:=⟨pg_e,hd_e,po_e,sa_e⟩
    ca_e:=ca_e
    mo_e:=mo_e
    k_e:=⟨mk_e,a_ai,i_ai,kc_e⟩
    m_p:=⟨a_p,i_p,k_p⟩
    m_ag:=⟨a_ag,i_ag,k_ag⟩
    m_ah:=⟨a_ah,i_ah,k_ah⟩
    m_g:=⟨a_g,i_g,k_g⟩
    m_k:=⟨a_k,i_k,k_k⟩
    m_i:=⟨a_i,i_i,k_i⟩
    m_q:=⟨a_q,i_q,k_q⟩
    m_l:=⟨a_l,i_l,k_l⟩
    m_af:=⟨a_af,i_af,k_af⟩
    m_x:=⟨a_x,i_x,k_x⟩
    m_j:=⟨a_j,i_j,k_j⟩
    m_aa:=⟨a_aa,i_aa,k_aa⟩
    m_m:=⟨a_m,i_m,k_m⟩
    m_v:=⟨a_v,i_v,k_v⟩
    m_b:=⟨a_b,i_b,k_b⟩
    m_f:=⟨a_f,i_f,k_f⟩
    m_a:=⟨a_a,i_a,k_a⟩
    m_d:=⟨a_d,i_d,k_d⟩
    cg:=cg
    ct:=ct
    n_b1:=n_b1
    n_bi:=n_bi
    n_bk:=n_bk
    n_bn:=n_bn
    n_bm:=n_bm
    n_ew:=n_ew
    n_eq:=n_eq
    n_dg:=n_dg
    n_er:=n_er
    n_ex:=n_ex
    n_ek:=n_ek
    n_fl:=n_fl
    n_fm:=n_fm
    n_fb:=n_fb
    n_ey:=n_ey
    n_ez:=n_ez
    n_e0:=n_e0
    n_fc:=n_fc
    n_es:=n_es
    n_fp:=n_fp
    n_fq:=n_fq
    n_el:=n_el
    n_eg:=n_eg
    n_b2:=n_b2
    n_eh:=n_eh
    n_em:=n_em
    n_d4:=n_d4
    n_e1:=n_e1
    n_e2:=n_e2
    n_fd:=n_fd
    n_e3:=n_e3
    n_d5:=n_d5
    n_e4:=n_e4
    n_fe:=n_fe
    n_et:=n_et
    n_fr:=n_fr
    n_fs:=n_fs
    n_ff:=n_ff
    n_e5:=n_e5
    n_d6:=n_d6
    n_e6:=n_e6
    n_fg:=n_fg
    n_eu:=n_eu
    n_ft:=n_ft
    n_fu:=n_fu
    n_ei:=n_ei
    n_d7:=n_d7
    n_e7:=n_e7
    n_e8:=n_e8
    n_fh:=n_fh
    n_ev:=n_ev
    n_fv:=n_fv
    n_fw:=n_fw
    n_ep:=n_ep
    n_ej:=n_ej
    n_fi:=n_fi
    n_fj:=n_fj
    n_fn:=n_fn
    n_e9:=n_e9
    n_fx:=n_fx
    n_fy:=n_fy
    n_fo:=n_fo
    n_dh:=n_dh
    n_fa:=PySem.W.mg_none_of X G n_fa
    n_abs:=PySem.W.mg_none_of X G n_abs
    n_bool:=PySem.W.mg_none_of X G n_bool
    n_int:=PySem.W.mg_none_of X G n_int
    n_isinstance:=PySem.W.mg_none_of X G n_isinstance
    n_len:=PySem.W.mg_none_of X G n_len
    n_min:=PySem.W.mg_none_of X G n_min
    n_range:=PySem.W.mg_none_of X G n_range
    n_sorted:=PySem.W.mg_none_of X G n_sorted
    n_str:=PySem.W.mg_none_of X G n_str
    kit_cq:=kit_cq
    kit_cr:=kit_cr
    kit_ca:=kit_ca
    kit_b3:=kit_b3
    kit_b4:=kit_b4
    kit_cb:=kit_cb
    kit_bp:=kit_bp
    kit_cc:=kit_cc
    kit_cd:=kit_cd
    kit_cs:=kit_cs
    kit_di:=kit_di
    kit_ce:=kit_ce
    kit_ct:=kit_ct
    kany_h:=kany_h
    kitv_h:=kitv_h
    mro_h:=mro_h
    kit_dj:=kit_dj
    kit_dk:=kit_dk
    kit_cu:=kit_cu
    kit_cf:=kit_cf
    kit_cg:=kit_cg
    kit_cv:=kit_cv
    kit_bs:=kit_bs
    kit_cw:=kit_cw
    kit_cx:=kit_cx
    kit_dl:=kit_dl
    kit_d8:=kit_d8
    kit_cy:=kit_cy
    kit_dm:=kit_dm
    kany_r:=kany_r
    kitv_r:=kitv_r
    mro_r:=mro_r
    ns_r:=ns_r
    ns_fk:=ns_fk
    kit_b5:=kit_b5
    kit_b6:=kit_b6
    kit_bt:=kit_bt
    kit_bq:=kit_bq
    kit_br:=kit_br
    kit_bu:=kit_bu
    kit_bo:=kit_bo
    kit_bv:=kit_bv
    kit_bw:=kit_bw
    kit_b7:=kit_b7
    kit_ch:=kit_ch
    kit_bx:=kit_bx
    kit_b8:=kit_b8
    kany_c:=kany_c
    kitv_c:=kitv_c
    mro_c:=mro_c
    kit_dn:=kit_dn
    kit_do:=kit_do
    kit_cz:=kit_cz
    kit_ci:=kit_ci
    kit_cj:=kit_cj
    kit_c0:=kit_c0
    kit_by:=kit_by
    kit_c1:=kit_c1
    kit_c2:=kit_c2
    kit_dp:=kit_dp
    kit_d9:=kit_d9
    kit_c3:=kit_c3
    kit_dq:=kit_dq
    kany_t:=kany_t
    kitv_t:=kitv_t
    mro_t:=mro_t
    kit_dr:=kit_dr
    kit_ds:=kit_ds
    kit_c4:=kit_c4
    kit_ck:=kit_ck
    kit_cl:=kit_cl
    kit_c5:=kit_c5
    kit_bz:=kit_bz
    kit_c6:=kit_c6
    kit_c7:=kit_c7
    kit_dt:=kit_dt
    kit_ea:=kit_ea
    kit_c8:=kit_c8
    kit_du:=kit_du
    kany_s:=kany_s
    kitv_s:=kitv_s
    mro_s:=mro_s
    kit_dv:=kit_dv
    kit_dw:=kit_dw
    kit_c9:=kit_c9
    kit_cm:=kit_cm
    kit_cn:=kit_cn
    kit_da:=kit_da
    kit_b0:=kit_b0
    kit_db:=kit_db
    kit_dc:=kit_dc
    kit_dx:=kit_dx
    kit_eb:=kit_eb
    kit_dd:=kit_dd
    kit_dy:=kit_dy
    kany_o:=kany_o
    kitv_o:=kitv_o
    mro_o:=mro_o
    kit_ec:=kit_ec
    kit_ed:=kit_ed
    kit_dz:=kit_dz
    kit_de:=kit_de
    kit_df:=kit_df
    kit_d0:=kit_d0
    kit_b9:=kit_b9
    kit_d1:=kit_d1
    kit_d2:=kit_d2
    kit_ee:=kit_ee
    kit_en:=kit_en
    kit_d3:=kit_d3
    kit_ef:=kit_ef
    kany_ab:=kany_ab
    kitv_ab:=kitv_ab
    mro_ab:=mro_ab
    v_eo:=⟨_,PySem.W.mg_of X G v_eo⟩
    v_cp:=⟨_,PySem.W.mg_of X G v_cp⟩
    v_co:=⟨_,PySem.W.mg_of X G v_co⟩
    g_a2:=PySem.W.mg_of X G g_a2
    D_a2:=⟨ns_a2,_,_,l_a2,.cons rfl ⟨_,rfl⟩ ⟨_,rfl⟩ (.cons rfl ⟨_,rfl⟩ ⟨_,rfl⟩ (.cons rfl ⟨_,rfl⟩ ⟨_,rfl⟩ (.nil))),by decide⟩ }⟩
theorem sc_ad:x9 ["self", "name"] ["self", "name"] (xj s_ad):=⟨rfl,rfl,rfl,by decide +kernel,rfl,by decide +kernel,by decide +kernel⟩
theorem sc_aj:x9 ["self", "name"] ["self", "name"] (xj s_aj):=⟨rfl,rfl,rfl,by decide +kernel,rfl,by decide +kernel,by decide +kernel⟩
theorem sc_y:x9 ["self", "name"] ["self", "name"] (xj s_y):=⟨rfl,rfl,rfl,by decide +kernel,rfl,by decide +kernel,by decide +kernel⟩
theorem sc_ak:x9 ["self", "name"] ["self", "name"] (xj s_ak):=⟨rfl,rfl,rfl,by decide +kernel,rfl,by decide +kernel,by decide +kernel⟩
theorem sc_al:x9 ["self", "side", "row"] ["self", "side", "row"] (xj s_al):=⟨rfl,rfl,rfl,by decide +kernel,rfl,by decide +kernel,by decide +kernel⟩
theorem sc_ao:x9 ["self", "side", "row"] ["self", "side", "row"] (xj s_ao):=⟨rfl,rfl,rfl,by decide +kernel,rfl,by decide +kernel,by decide +kernel⟩
theorem sc_aq:x9 ["self", "width"] ["self", "width"] (xj s_aq):=⟨rfl,rfl,rfl,by decide +kernel,rfl,by decide +kernel,by decide +kernel⟩
theorem sc_u:x9 ["self", "x"] ["self", "x"] (xj s_u):=⟨rfl,rfl,rfl,by decide +kernel,rfl,by decide +kernel,by decide +kernel⟩
theorem sc_n:x9 ["self", "x"] ["self", "x"] (xj s_n):=⟨rfl,rfl,rfl,by decide +kernel,rfl,by decide +kernel,by decide +kernel⟩
theorem sc_a5:x9 ["word", "width"] ["word", "width"] (xj s_a5):=⟨rfl,rfl,rfl,by decide +kernel,rfl,by decide +kernel,by decide +kernel⟩
theorem sc_am:x9 ["thing", "low", "high"] ["thing", "low", "high"] (xj s_am):=⟨rfl,rfl,rfl,by decide +kernel,rfl,by decide +kernel,by decide +kernel⟩
theorem sc_a3:x9 ["thing"] ["thing"] (xj s_a3):=⟨rfl,rfl,rfl,by decide +kernel,rfl,by decide +kernel,by decide +kernel⟩
theorem sc_ai:x9 ["self", "width", "height"] ["self", "width", "height"] (xj s_ai):=⟨rfl,rfl,rfl,by decide +kernel,rfl,by decide +kernel,by decide +kernel⟩
theorem sc_p:x9 ["self", "name", "x", "y", "sides", "low", "high", "highest"] ["self", "name", "x", "y", "sides", "low", "high"] (xj s_p):=⟨rfl,rfl,rfl,by decide +kernel,rfl,by decide +kernel,by decide +kernel⟩
theorem sc_ag:x9 ["self", "name"] ["self", "name"] (xj s_ag):=⟨rfl,rfl,rfl,by decide +kernel,rfl,by decide +kernel,by decide +kernel⟩
theorem sc_ah:x9 ["self", "name", "x", "y"] ["self", "name", "x", "y"] (xj s_ah):=⟨rfl,rfl,rfl,by decide +kernel,rfl,by decide +kernel,by decide +kernel⟩
theorem sc_g:x9 ["self", "side", "row"] ["self", "side", "row"] (xj s_g):=⟨rfl,rfl,rfl,by decide +kernel,rfl,by decide +kernel,by decide +kernel⟩
theorem sc_k:x9 ["self", "side", "row"] ["self", "side", "row"] (xj s_k):=⟨rfl,rfl,rfl,by decide +kernel,rfl,by decide +kernel,by decide +kernel⟩
theorem sc_i:x9 ["self"] ["self"] (xj s_i):=⟨rfl,rfl,rfl,by decide +kernel,rfl,by decide +kernel,by decide +kernel⟩
theorem sc_q:x9 ["self"] ["self"] (xj s_q):=⟨rfl,rfl,rfl,by decide +kernel,rfl,by decide +kernel,by decide +kernel⟩
theorem sc_l:x9 ["self", "name"] ["self", "name"] (xj s_l):=⟨rfl,rfl,rfl,by decide +kernel,rfl,by decide +kernel,by decide +kernel⟩
theorem sc_af:x9 ["self", "name", "side", "row", "x", "y", "sides", "low", "high"] ["self", "name", "side", "row"] (xj s_af):=⟨rfl,rfl,rfl,by decide +kernel,rfl,by decide +kernel,by decide +kernel⟩
theorem sc_x:x9 ["self", "name", "side", "row", "x", "y"] ["self", "name", "side", "row"] (xj s_x):=⟨rfl,rfl,rfl,by decide +kernel,rfl,by decide +kernel,by decide +kernel⟩
theorem sc_j:x9 ["self", "name"] ["self", "name"] (xj s_j):=⟨rfl,rfl,rfl,by decide +kernel,rfl,by decide +kernel,by decide +kernel⟩
theorem sc_aa:x9 ["self"] ["self"] (xj s_aa):=⟨rfl,rfl,rfl,by decide +kernel,rfl,by decide +kernel,by decide +kernel⟩
theorem sc_m:x9 ["self", "columns", "points", "seats"] ["self"] (xj s_m):=⟨rfl,rfl,rfl,by decide +kernel,rfl,by decide +kernel,by decide +kernel⟩
theorem sc_v:x9 ["self", "rows", "points", "seats"] ["self"] (xj s_v):=⟨rfl,rfl,rfl,by decide +kernel,rfl,by decide +kernel,by decide +kernel⟩
theorem sc_b:x9 ["self", "name"] ["self", "name"] (xj s_b):=⟨rfl,rfl,rfl,by decide +kernel,rfl,by decide +kernel,by decide +kernel⟩
theorem sc_f:x9 ["self", "x", "y"] ["self", "x", "y"] (xj s_f):=⟨rfl,rfl,rfl,by decide +kernel,rfl,by decide +kernel,by decide +kernel⟩
theorem sc_a:x9 ["self", "name", "x", "y", "others", "other"] ["self", "name", "x", "y"] (xj s_a):=⟨rfl,rfl,rfl,by decide +kernel,rfl,by decide +kernel,by decide +kernel⟩
theorem sc_d:x9 ["self", "side", "row"] ["self", "side", "row"] (xj s_d):=⟨rfl,rfl,rfl,by decide +kernel,rfl,by decide +kernel,by decide +kernel⟩
theorem sc_w:x9 ["width", "height", "points", "seats", "picture", "name", "x", "y", "sides", "low", "high", "side", "row"] ["width", "height", "points", "seats"] (xj s_w):=⟨rfl,rfl,rfl,by decide +kernel,rfl,by decide +kernel,by decide +kernel⟩
theorem sc_a4:x9 ["_law_script", "_law_k"] ["_law_script", "_law_k"] (xj s_a4):=⟨rfl,rfl,rfl,by decide +kernel,rfl,by decide +kernel,by decide +kernel⟩
theorem sc_ap:x9 ["_law_cell_here", "_law_k", "_law_number"] ["_law_cell_here", "_law_k"] (xj s_ap):=⟨rfl,rfl,rfl,by decide +kernel,rfl,by decide +kernel,by decide +kernel⟩
theorem sc_aw:x9 ["_law_e", "_law_found"] ["_law_e"] (xj s_aw):=⟨rfl,rfl,rfl,by decide +kernel,rfl,by decide +kernel,by decide +kernel⟩
theorem sc_z:x9 ["_law_e", "_law_found"] ["_law_e"] (xj s_z):=⟨rfl,rfl,rfl,by decide +kernel,rfl,by decide +kernel,by decide +kernel⟩
theorem sc_ar:x9 ["_law_cell_here", "_law_k"] ["_law_cell_here", "_law_k"] (xj s_ar):=⟨rfl,rfl,rfl,by decide +kernel,rfl,by decide +kernel,by decide +kernel⟩
theorem sc_ax:x9 ["_law_cell_here", "_law_k", "_law_size", "_law_rows", "_law_draws_here", "_law_name", "_law_way", "_law_x", "_law_y", "_law_low", "_law_sides", "_law_seat"] ["_law_cell_here", "_law_k", "_law_size", "_law_rows"] (xj s_ax):=⟨rfl,rfl,rfl,by decide +kernel,rfl,by decide +kernel,by decide +kernel⟩
theorem sc_ba:x9 ["_law_rows", "_law_row", "_law_at", "_law_other"] ["_law_rows", "_law_row"] (xj s_ba):=⟨rfl,rfl,rfl,by decide +kernel,rfl,by decide +kernel,by decide +kernel⟩
theorem sc_bc:x9 ["_law_rows", "_law_seats", "_law_deed_here", "_law_way", "_law_row", "_law_seat", "_law_there"] ["_law_rows", "_law_seats", "_law_deed_here"] (xj s_bc):=⟨rfl,rfl,rfl,by decide +kernel,rfl,by decide +kernel,by decide +kernel⟩
theorem sc_a0:x9 ["_law_picture", "_law_deed_here", "_law_way", "_law_row", "_law_seat", "_law_told_here", "_law_e"] ["_law_picture", "_law_deed_here"] (xj s_a0):=⟨rfl,rfl,rfl,by decide +kernel,rfl,by decide +kernel,by decide +kernel⟩
theorem sc_az:x9 ["_law_rows", "_law_seats", "_law_deed_here", "_law_way", "_law_row", "_law_seat", "_law_found", "_law_one"] ["_law_rows", "_law_seats", "_law_deed_here"] (xj s_az):=⟨rfl,rfl,rfl,by decide +kernel,rfl,by decide +kernel,by decide +kernel⟩
theorem sc_an:x9 ["_law_thing", "_law_way", "_law_width", "_law_height", "_law_rows", "_law_name", "_law_x", "_law_y", "_law_sides", "_law_low", "_law_high"] ["_law_thing", "_law_way", "_law_width", "_law_height"] (xj s_an):=⟨rfl,rfl,rfl,by decide +kernel,rfl,by decide +kernel,by decide +kernel⟩
theorem sc_ae:x9 ["_law_pictures", "_law_held", "_law_number", "_law_at", "_law_old", "_law_way"] ["_law_pictures", "_law_held", "_law_number"] (xj s_ae):=⟨rfl,rfl,rfl,by decide +kernel,rfl,by decide +kernel,by decide +kernel⟩
theorem sc_a1:x9 ["_law_picture", "_law_thing", "_law_rows", "_law_seats", "_law_name", "_law_x", "_law_y", "_law_sides", "_law_low", "_law_high", "_law_some", "_law_side", "_law_row", "_law_across"] ["_law_picture", "_law_thing"] (xj s_a1):=⟨rfl,rfl,rfl,by decide +kernel,rfl,by decide +kernel,by decide +kernel⟩
theorem xbs:x9 ["_law_script", "_law_pictures", "_law_j", "_law_number", "_law_held", "_law_left", "_law_k", "_law_at", "_law_rows", "_law_seats", "_law_deed_here", "_law_due_here"] ["_law_script"] (xj xei):=⟨rfl,rfl,rfl,by decide +kernel,rfl,by decide +kernel,by decide +kernel⟩
end S08
set_option maxRecDepth 100000
set_option maxHeartbeats 4000000
namespace S08
open PySem L2 XL PyProof.Rows
theorem xci {K:PySem.W.Frag} {v:Value}:PySem.W.kitOne K v v=some true:=if_pos (by simp)
theorem xm {H H':Hp} {p:Addr} {o:HO} (s:Same H H') (hp:H' p=none):Same H (L2.upd H' p o):=fun b u z=>by
 have z':=s b u z
 rw [xl (xn z' hp)]
 exact z'
theorem xmr {H:Hp} {x dx:Addr} {a b c:HO} (hx:H x=none) (hd:H dx=none):Same H (upd (upd (upd H dx a) x b) x c):=fun y o e=>by
 rw [xl (xn e hx),xl (xn e hx),xl (xn e hd)]
 exact e
def x6 (b:Bool):Str:=if b then "left" else "right"
def xll (t:Adr) (H:Hp) (p:Addr) (b:Bool) (w:Int):Prop:=∃ dx,H p=some (.ins (if b then t.C_a9 else t.C_ay) dx [("width",.int w)])
def xoy (K:PySem.W.Frag):Sp:=fun vs H Q _=>∃ (p C dx:Addr) (n:Int),vs=[.ref p,.int n]∧H p=some (.ins C dx [])∧Cls K C∧xdm K C "width"∧Q .non (upd H p (.ins C dx [("width",.int n)]))
def xph:Sp:=fun vs H Q _=>∃ (p:V) (x:V),vs=[p,x]∧Q x H
def xql (t:Adr):Sp:=fun vs H Q _=>∃ (p:Addr) (n x:Int),vs=[.ref p,.int x]∧xll t H p false n∧Q (.int (n + 1 - x)) H
def xl0 (t:Adr):Sp:=fun vs H Q _=>∃ (b:Bool) (n:Int),vs=[.str (x6 b),.int n]∧∀ p H',H p=none→xll t H' p b n→Same H H'→Q (.ref p) H'
section
variable {P:Program} {w:World} {K:PySem.W.Frag} {mg:Str→Option Value} {base:Heap} {t:Adr}
theorem ok_aq (T:Txt w K mg t):FnOk true P w K mg base (CXo P w) 1 t.f_aq t.d_aq ["self", "width"] (xoy K):=by
 refine T.F_aq.okn (k:=0) sc_aq (fun vs H Q E h=>?_) (fun cdv A outer s H vs Q E hr h=>?_)
 ·obtain ⟨p,C,dx,n,rfl,_⟩:=h
  rfl
 ·obtain ⟨p,C,dx,n,rfl,h⟩:=h
  refine ⟨_,xk (xem (pv 0) (pv 1) rfl),?_⟩
  obtain ⟨hp,c,na,q⟩:=h
  exact ⟨_,rfl,_,rfl,p,C,dx,[],rfl,hp,c,na,(by show 0 < 1000; decide),q⟩
theorem ok_u (T:Txt w K mg t):FnOk true P w K mg base (CXo P w) 1 t.f_u t.d_u ["self", "x"] (xph):=by
 refine T.F_u.okn (k:=0) sc_u (fun vs H Q E h=>?_) (fun cdv A outer s H vs Q E hr h=>?_)
 ·obtain ⟨p,x,rfl,_⟩:=h
  rfl
 ·obtain ⟨p,x,rfl,h⟩:=h
  refine ⟨_,xk (xaf (pv 1)),?_⟩
  exact ⟨_,rfl,h⟩
theorem ok_n (T:Txt w K mg t):FnOk true P w K mg base (CXo P w) 1 t.f_n t.d_n ["self", "x"] (xql t):=by
 refine T.F_n.okn (k:=0) sc_n (fun vs H Q E h=>?_) (fun cdv A outer s H vs Q E hr h=>?_)
 ·obtain ⟨p,n,x,rfl,_⟩:=h
  rfl
 ·obtain ⟨p,n,x,rfl,h⟩:=h
  refine ⟨_,xk (xaf (xu xbm (xu xa3 (xah (pv 0) rfl) (xo)) (pv 1))),?_⟩
  obtain ⟨⟨dx,hp⟩,q⟩:=h
  exact ⟨_,rfl,p,t.C_ay,dx,_,_,rfl,hp,T.c_ay,T.n_b1,rfl,_,_,rfl,rfl,_,rfl,_,_,rfl,rfl,q⟩
theorem ok_a5 (T:Txt w K mg t):FnOk true P w K mg base (CXo P w) 3 t.f_a5 t.d_a5 ["word", "width"] (xl0 t):=by
 refine T.F_a5.okn (k:=2) sc_a5 (fun vs H Q E h=>?_) (fun cdv A outer s H vs Q E hr h=>?_)
 ·obtain ⟨b,n,rfl,_⟩:=h
  rfl
 ·obtain ⟨b,n,rfl,h⟩:=h
  refine ⟨_,xi (xaa (xau (xaj xax rfl T.n_isinstance boot_isinstance (xf (pv 0) (xf (xc0 (v:=.ty "str") rfl T.n_str boot_str rfl) (xh))))) (xi (xaa (x8 xa6 (pv 0) (x4) (xab _)) (xk (xaf (xe9 T.k_a9 (ok_aq T) (hr.mono (by decide)) rfl T.g_a9 T.b_aq .nil xp (xf (pv 1) (xh))))) (xx))
   (xk (xaa (x8 xa6 (pv 0) (x4) (xab _)) (xk (xaf (xe9 T.k_ay (ok_aq T) (hr.mono (by decide)) rfl T.g_ay T.b_aq .nil xp (xf (pv 1) (xh))))) (xx)))) (xx))
   (xk (xa9)),?_⟩
  cases b with
  | true =>
   refine ⟨_,rfl,_,_,rfl,.inl ⟨_,_,true,.str _,rfl,xci,true,rfl,iteT ?_⟩⟩
   refine ⟨_,rfl,rfl,_,rfl,?_⟩
   refine ifP (by decide +kernel) ?_
   exact ⟨_,rfl,fun x dx hx hdx ne=>⟨x,t.C_a9,dx,n,rfl,xg,T.c_a9,T.n_dh,rfl,h x _ hx ⟨dx,xg⟩ (xmr hx hdx)⟩⟩
  | false =>
   refine ⟨_,rfl,_,_,rfl,.inl ⟨_,_,true,.str _,rfl,xci,true,rfl,iteT ?_⟩⟩
   refine ⟨_,rfl,rfl,_,rfl,?_⟩
   refine ifN (by decide +kernel) ?_
   refine ⟨_,rfl,rfl,_,rfl,?_⟩
   refine ifP (by decide +kernel) ?_
   exact ⟨_,rfl,fun x dx hx hdx ne=>⟨x,t.C_ay,dx,n,rfl,xg,T.c_ay,T.n_b1,rfl,h x _ hx ⟨dx,xg⟩ (xmr hx hdx)⟩⟩
end
def isNm (x:Str):Bool:=decide (x.length=1) && (!decide (x.cps.toList < [97]) && !decide ([122] < x.cps.toList))
def xpt:Sp:=fun vs H Q _=>∃ (i lo hi:Int),vs=[.int i,.int lo,.int hi]∧lo≤i∧i≤hi∧Q (.bl true) H
def xpl:Sp:=fun vs H Q _=>∃ (x:Str),vs=[.str x]∧isNm x=true∧Q (.bl true) H
theorem xqb:("a":Str).cps.toList=[97]:=by decide +kernel
theorem xp5:("z":Str).cps.toList=[122]:=by decide +kernel
section
variable {P:Program} {w:World} {K:PySem.W.Frag} {mg:Str→Option Value} {base:Heap} {t:Adr}
theorem ok_am (T:Txt w K mg t):FnOk true P w K mg base (CXo P w) 1 t.f_am t.d_am ["thing", "low", "high"] (xpt):=by
 refine T.F_am.okn (k:=0) sc_am (fun vs H Q E h=>?_) (fun cdv A outer s H vs Q E hr h=>?_)
 ·obtain ⟨i,lo,hi,rfl,_⟩:=h
  rfl
 ·obtain ⟨i,lo,hi,rfl,h⟩:=h
  refine ⟨_,xk (xaf (xdn (xaj xax rfl T.n_isinstance boot_isinstance (xf (pv 0) (xf (xc0 (v:=.ty "int") rfl T.n_int boot_int rfl) (xh)))) (xdn (xoo (xaj xax rfl T.n_isinstance boot_isinstance (xf (pv 0) (xf (xc0 (v:=.ty "bool") rfl T.n_bool boot_bool rfl) (xh))))) (xgd (xft xff xff (pv 1) (pv 0) (pv 2)))))),?_⟩
  obtain ⟨c1,c2,q⟩:=h
  refine ⟨_,rfl,_,_,rfl,.inl ⟨_,_,true,.int i,rfl,xci,true,rfl,iteT ?_⟩⟩
  refine ⟨_,rfl,_,_,rfl,.inl ⟨_,_,false,.int i,rfl,(by rfl),false,rfl,true,rfl,iteT ?_⟩⟩
  refine ⟨_,rfl,_,rfl,_,_,rfl,rfl,_,rfl,ite2 (fun c=>?_) (fun c=>?_)⟩
  ·refine ⟨_,rfl,_,_,rfl,rfl,?_⟩
   show Q (.bl (decide (i≤hi))) H
   rw [decide_eq_true c2]
   exact q
  ·exact absurd (decide_eq_true c1) c
theorem ok_a3 (T:Txt w K mg t):FnOk true P w K mg base (CXo P w) 1 t.f_a3 t.d_a3 ["thing"] (xpl):=by
 refine T.F_a3.okn (k:=0) sc_a3 (fun vs H Q E h=>?_) (fun cdv A outer s H vs Q E hr h=>?_)
 ·obtain ⟨x,rfl,_⟩:=h
  rfl
 ·obtain ⟨x,rfl,h⟩:=h
  refine ⟨_,xk (xaf (xdn (xaj xax rfl T.n_isinstance boot_isinstance (xf (pv 0) (xf (xc0 (v:=.ty "str") rfl T.n_str boot_str rfl) (xh)))) (xdn (xdg xa6 (xaj xh4 rfl T.n_len boot_len (xf (pv 0) (xh))) (xo) (xab _)) (xgd (xft xhh xhh (x4) (pv 0) (x4)))))),?_⟩
  obtain ⟨hn,q⟩:=h
  unfold isNm at hn
  simp only [Bool.and_eq_true,decide_eq_true_eq,Bool.not_eq_true',decide_eq_false_iff_not] at hn
  obtain ⟨l1,n1,n2⟩:=hn
  refine ⟨_,rfl,_,_,rfl,.inl ⟨_,_,true,.str x,rfl,xci,true,rfl,iteT ?_⟩⟩
  refine ⟨_,rfl,_,rfl,(by rw [l1]; decide),rfl,_,rfl,ite2 (fun c=>?_) (fun c=>?_)⟩
  ·refine ⟨_,rfl,_,_,rfl,rfl,_,rfl,ite2 (fun d=>?_) (fun d=>?_)⟩
   ·refine ⟨_,_,rfl,rfl,?_⟩
    rw [xp5,decide_eq_false n2]
    exact q
   ·rw [xqb,decide_eq_false n1] at d
    exact absurd rfl d
  ·exact absurd (decide_eq_true (by rw [l1]; rfl)) c
end
section
end
end S08
set_option maxRecDepth 100000
set_option maxHeartbeats 4000000
namespace S08
open PySem L2 XL PyProof.Rows
structure Pt where
 nm:Str
 x:Int
 y:Int
 sd:Str
 lo:Int
 hi:Int
def ptV (p:Pt):List V:=[.int p.x,.int p.y,.str p.sd,.int p.lo,.int p.hi]
inductive Pl (H:Hp):List Pt→List (Key × V)→Prop
 | nil:Pl H [] []
 | cons {p:Pt} {q:Addr} {ps:List Pt} {kvs:List (Key × V)} (h:H q=some (.tup (ptV p))) (r:Pl H ps kvs):Pl H (p :: ps) ((.inr p.nm,.ref q) :: kvs)
inductive PtsL (H:Hp):List Pt→List Addr→Prop
 | nil:PtsL H [] []
 | cons {p:Pt} {q:Addr} {ps:List Pt} {qs:List Addr} (h:H q=some (.tup (.str p.nm :: ptV p))) (r:PtsL H ps qs):PtsL H (p :: ps) (q :: qs)
theorem xgf {σ:L2.St} {H:Hp} {A B:Hp→Prop} (h:A H):xfl σ H (fun b H4=>if b=true then A H4 else B H4):=by
 show if true=true then A H else B H
 rw [if_pos rfl]
 exact h
def Tups (H H':Hp):Prop:=∀ b xs,H b=some (.tup xs)→H' b=some (.tup xs)
theorem Pl.keep {H H':Hp} (s:Tups H H') {ps:List Pt} {kvs:List (Key × V)} (h:Pl H ps kvs):Pl H' ps kvs:=by
 induction h with
 | nil=>exact .nil
 | cons h _ ih=>exact .cons (s _ _ h) ih
theorem PtsL.keep {H H':Hp} (s:Tups H H') {ps:List Pt} {qs:List Addr} (h:PtsL H ps qs):PtsL H' ps qs:=by
 induction h with
 | nil=>exact .nil
 | cons h _ ih=>exact .cons (s _ _ h) ih
theorem Pl.len {H:Hp} {ps:List Pt} {kvs:List (Key × V)} (h:Pl H ps kvs):kvs.length=ps.length:=by
 induction h with
 | nil=>rfl
 | cons _ _ ih=>simp [ih]
theorem PtsL.len {H:Hp} {ps:List Pt} {qs:List Addr} (h:PtsL H ps qs):qs.length=ps.length:=by
 induction h with
 | nil=>rfl
 | cons _ _ ih=>simp [ih]
theorem Pl.find {H:Hp} {ps:List Pt} {kvs:List (Key × V)} (h:Pl H ps kvs) {nm:Str} {pt:Pt} (e:ps.find? (fun p=>decide (p.nm=nm))=some pt):∃ q,valV kvs (.inr nm)=some (.ref q)∧H q=some (.tup (ptV pt)):=by
 induction h with
 | nil=>simp at e
 | @cons p q ps kvs h _ ih =>
  by_cases c:p.nm=nm
  ·rw [List.find?_cons_of_pos (by simpa using c)] at e
   cases e
   exact ⟨q,xdl (by rw [c]),h⟩
  ·rw [List.find?_cons_of_neg (by simpa using c)] at e
   obtain ⟨q',h1,h2⟩:=ih e
   exact ⟨q',by rw [xcy (fun z=>c (Sum.inr.inj z))]; exact h1,h2⟩
theorem Pl.no {H:Hp} {ps:List Pt} {kvs:List (Key × V)} (h:Pl H ps kvs) {nm:Str} (e:∀ p ∈ ps,p.nm≠nm):valV kvs (.inr nm)=none:=by
 induction h with
 | nil=>rfl
 | @cons p q ps kvs h _ ih =>
  rw [xcy (fun z=>e p List.mem_cons_self (Sum.inr.inj z))]
  exact ih fun p' hp=>e p' (List.mem_cons_of_mem _ hp)
theorem Pl.get {H:Hp} {ps:List Pt} {kvs:List (Key × V)} (h:Pl H ps kvs) {i:Nat} {k:Key} {x:V} (e:kvs[i]?=some (k,x)):∃ p q,ps[i]?=some p∧k=.inr p.nm∧x=.ref q∧H q=some (.tup (ptV p)):=by
 induction h generalizing i with
 | nil=>simp at e
 | @cons p q ps kvs h _ ih =>
  cases i with
  | zero =>
   simp at e
   exact ⟨p,q,rfl,e.1.symm,e.2.symm,h⟩
  | succ j=>exact ih (by simpa using e)
theorem PtsL.get {H:Hp} {ps:List Pt} {qs:List Addr} (h:PtsL H ps qs) {i:Nat} {q:Addr} (e:qs[i]?=some q):∃ p,ps[i]?=some p∧H q=some (.tup (.str p.nm :: ptV p)):=by
 induction h generalizing i with
 | nil=>simp at e
 | @cons p q' ps qs h _ ih =>
  cases i with
  | zero =>
   simp at e
   subst e
   exact ⟨p,rfl,h⟩
  | succ j=>exact ih (by simpa using e)
theorem Pl.snoc {H:Hp} {ps:List Pt} {kvs:List (Key × V)} (h:Pl H ps kvs) {p:Pt} {q:Addr} (e:H q=some (.tup (ptV p))):Pl H (ps ++ [p]) (kvs ++ [(.inr p.nm,.ref q)]):=by
 induction h with
 | nil=>exact .cons e .nil
 | cons h _ ih=>exact .cons h ih
theorem PtsL.snoc {H:Hp} {ps:List Pt} {qs:List Addr} (h:PtsL H ps qs) {p:Pt} {q:Addr} (e:H q=some (.tup (.str p.nm :: ptV p))):PtsL H (ps ++ [p]) (qs ++ [q]):=by
 induction h with
 | nil=>exact .cons e .nil
 | cons h _ ih=>exact .cons h ih
abbrev picF (w h:Int) (dp do_:Addr):List (Str × V):=[("width",.int w),("height",.int h),("placed",.ref dp),("opened",.ref do_)]
structure Pic (t:Adr) (H:Hp) (a dp do_:Addr) (w h:Int) (ps:List Pt):Prop where
 ins:∃ dx,H a=some (.ins t.C_e dx (picF w h dp do_))
 pl:∃ kvs,H dp=some (.dK kvs)∧Pl H ps kvs
 w1:1≤w
 w2:w≤30
 h1:1≤h
 h2:h≤16
 len:ps.length≤12
theorem Same.tups {H H':Hp} (s:Same H H'):Tups H H':=fun b xs e=>s b _ e
theorem Pic.same {t:Adr} {H H':Hp} {a dp do_:Addr} {w h:Int} {ps:List Pt} (s:Same H H') (p:Pic t H a dp do_ w h ps):Pic t H' a dp do_ w h ps :=
 ⟨let ⟨dx,e⟩:=p.ins; ⟨dx,s _ _ e⟩,let ⟨kvs,e,q⟩:=p.pl; ⟨kvs,s _ _ e,q.keep (Same.tups s)⟩,p.w1,p.w2,p.h1,p.h2,p.len⟩
theorem xap {w h:Int} {dp do_:Addr} {m:Str} (e:((["width", "height", "placed", "opened"]:List Str).all fun k=>!(m == k))=true):(picF w h dp do_).lookup m=none:=by
 simp only [List.all_cons,List.all_nil,Bool.and_eq_true,Bool.not_eq_true'] at e
 obtain ⟨e1,e2,e3,e4,_⟩:=e
 unfold picF
 rw [List.lookup_cons,e1]
 show List.lookup m [("height",V.int h),("placed",V.ref dp),("opened",V.ref do_)]=none
 rw [List.lookup_cons,e2]
 show List.lookup m [("placed",V.ref dp),("opened",V.ref do_)]=none
 rw [List.lookup_cons,e3]
 show List.lookup m [("opened",V.ref do_)]=none
 rw [List.lookup_cons,e4]
 rfl
theorem lkW {w h:Int} {dp do_:Addr}:(picF w h dp do_).lookup ("width":Str)=some (.int w):=by
 unfold picF
 rw [List.lookup_cons,show (("width":Str) == "width")=true from by decide +kernel]
theorem lkH {w h:Int} {dp do_:Addr}:(picF w h dp do_).lookup ("height":Str)=some (.int h):=by
 unfold picF
 rw [List.lookup_cons,show (("height":Str) == "width")=false from by decide +kernel]
 show List.lookup ("height":Str) [("height",V.int h),("placed",V.ref dp),("opened",V.ref do_)]=_
 rw [List.lookup_cons,show (("height":Str) == "height")=true from by decide +kernel]
theorem lkP {w h:Int} {dp do_:Addr}:(picF w h dp do_).lookup ("placed":Str)=some (.ref dp):=by
 unfold picF
 rw [List.lookup_cons,show (("placed":Str) == "width")=false from by decide +kernel]
 show List.lookup ("placed":Str) [("height",V.int h),("placed",V.ref dp),("opened",V.ref do_)]=_
 rw [List.lookup_cons,show (("placed":Str) == "height")=false from by decide +kernel]
 show List.lookup ("placed":Str) [("placed",V.ref dp),("opened",V.ref do_)]=_
 rw [List.lookup_cons,show (("placed":Str) == "placed")=true from by decide +kernel]
def xni (t:Adr):Sp:=fun vs H Q _=>∃ (p dx:Addr) (w h:Int),vs=[.ref p,.int w,.int h]∧H p=some (.ins t.C_e dx [])∧1≤w∧w≤30∧1≤h∧h≤16 ∧
 ∀ H' dp do_,H dp=none→H do_=none→(∀ b u,b≠p→H b=some u→H' b=some u)→Pic t H' p dp do_ w h []→H' do_=some (.dT [])→Q .non H'
def spCN (t:Adr):Sp:=fun vs H Q _=>∃ (a dp do_:Addr) (pw ph:Int) (ps:List Pt) (nm:Str) (pt:Pt),vs=[.ref a,.str nm]∧Pic t H a dp do_ pw ph ps∧isNm nm=true∧ps.find? (fun p=>decide (p.nm=nm))=some pt∧Q .non H
def spCC (t:Adr):Sp:=fun vs H Q _=>∃ (a dp do_:Addr) (pw ph:Int) (ps:List Pt) (x y:Int),vs=[.ref a,.int x,.int y]∧Pic t H a dp do_ pw ph ps∧1≤x∧x≤pw∧1≤y∧y≤ph∧Q .non H
def xpi (t:Adr):Sp:=fun vs H Q _=>∃ (a dp do_:Addr) (pw ph:Int) (ps:List Pt),vs=[.ref a]∧Pic t H a dp do_ pw ph ps∧∀ H' l qs,Same H H'→H' l=some (.lst (qs.map V.ref))→PtsL H' ps qs→Q (.ref l) H'
def spCL (t:Adr):Sp:=fun vs H Q _=>∃ (a dp do_:Addr) (pw ph:Int) (ps:List Pt) (nm:Str) (x y:Int),vs=[.ref a,.str nm,.int x,.int y]∧Pic t H a dp do_ pw ph ps∧(∀ p ∈ ps,p.nm≠nm→p.x≠x∧p.y≠y)∧∀ H',Same H H'→Q .non H'
def spCS (t:Adr):Sp:=fun vs H Q _=>∃ (a dp do_:Addr) (pw ph:Int) (ps:List Pt) (b:Bool) (r:Int),vs=[.ref a,.str (x6 b),.int r]∧Pic t H a dp do_ pw ph ps∧1≤r∧r≤ph∧∀ H',Same H H'→Q .non H'
def xpk (t:Adr):Sp:=fun vs H Q _=>∃ (a dp do_:Addr) (pw ph:Int) (ps:List Pt) (nm:Str) (x y:Int) (sd:Str) (lo hi:Int) (hv:V),vs=[.ref a,.str nm,.int x,.int y,.str sd,.int lo,hv]∧Pic t H a dp do_ pw ph ps ∧
 ((hv=.non∧hi=ph)∨hv=.int hi)∧isNm nm=true∧1≤x∧x≤pw∧1≤y∧y≤ph∧(sd="left"∨sd="right"∨sd="both")∧1≤lo∧lo≤hi∧hi≤ph∧(∀ p ∈ ps,p.nm≠nm∧p.x≠x∧p.y≠y)∧ps.length < 12 ∧
 ∀ H',(∀ b u,b≠dp→H b=some u→H' b=some u)→Pic t H' a dp do_ pw ph (ps ++ [⟨nm,x,y,sd,lo,hi⟩])→Q .non H'
def xpv (t:Adr):Sp:=fun vs H Q _=>∃ (a dp do_:Addr) (pw ph:Int) (ps:List Pt) (nm:Str) (pt:Pt),vs=[.ref a,.str nm]∧Pic t H a dp do_ pw ph ps∧isNm nm=true∧ps.find? (fun p=>decide (p.nm=nm))=some pt ∧
 ∀ H' q,Same H H'→H' q=some (.tup [.int pt.x,.int pt.y])→Q (.ref q) H'
def lenI (w x y:Int) (b:Bool) (r:Int):Int:=(if b then x else w + 1 - x) + (if y - r < 0 then -(y - r) else y - r)
def xp9 (t:Adr):Sp:=fun vs H Q _=>∃ (a dp do_:Addr) (pw ph:Int) (ps:List Pt) (nm:Str) (pt:Pt) (b:Bool) (r:Int),vs=[.ref a,.str nm,.str (x6 b),.int r]∧Pic t H a dp do_ pw ph ps∧isNm nm=true∧ps.find? (fun p=>decide (p.nm=nm))=some pt∧1≤r∧r≤ph ∧
 ∀ H',Same H H'→Q (.int (lenI pw pt.x pt.y b r)) H'
section
variable {P:Program} {w:World} {K:PySem.W.Frag} {mg:Str→Option Value} {base:Heap} {t:Adr}
theorem ok_ai (T:Txt w K mg t):FnOk true P w K mg base (CXo P w) 2 t.f_ai t.d_ai ["self", "width", "height"] (xni t):=by
 refine T.F_ai.okn (k:=1) sc_ai (fun vs H Q E h=>?_) (fun cdv A outer s H vs Q E hr h=>?_)
 ·obtain ⟨p,dx,pw,ph,rfl,_⟩:=h
  rfl
 ·obtain ⟨p,dx,pw,ph,rfl,h⟩:=h
  refine ⟨_,xi (xaa (PW.pt (xb7 (xbi (xau (xao (ok_am T) (hr.mono (by decide)) rfl T.g_am T.F_am.kp T.b_am .nil xp (xf (pv 1) (xf (xo) (xf (xay (v:=.int 30) rfl T.v_cp.choose_spec ⟨_,rfl⟩) (xh))))))) (xbw (xbi (xau (xao (ok_am T) (hr.mono (by decide)) rfl T.g_am T.F_am.kp T.b_am .nil xp (xf (pv 2) (xf (xo) (xf (xay (v:=.int 16) rfl T.v_eo.choose_spec ⟨_,rfl⟩) (xh)))))))))) (xk (xa9)) (xx))
   (xi (xem (pv 0) (pv 1) rfl)
   (xi (xem (pv 0) (pv 2) rfl)
   (xi (xem (pv 0) (xlw) rfl)
   (xk (xem (pv 0) (xl9) rfl))))),?_⟩
  obtain ⟨hp,w1,w2,h1,h2,q⟩:=h
  refine ⟨_,rfl,pw,1,30,rfl,w1,w2,true,rfl,iteF ⟨_,rfl,ph,1,16,rfl,h1,h2,true,rfl,iteF ?_⟩⟩
  refine ⟨_,rfl,_,rfl,p,_,dx,_,rfl,hp,T.c_e,T.n_bn,(by show 0 < 1000; decide),?_⟩
  refine ⟨_,rfl,_,rfl,p,_,dx,_,rfl,xg,T.c_e,T.n_bk,(by show 1 < 1000; decide),?_⟩
  rw [xcz]
  refine fun dp hdp=>?_
  have n1:p≠dp:=xn xg hdp
  refine ⟨_,rfl,p,_,dx,_,rfl,(by rw [xl n1]; exact xg),T.c_e,T.n_bi,(by show 2 < 1000; decide),fun do_ hdo=>?_⟩
  have n2:p≠do_:=xn xg hdo
  have n3:dp≠do_:=xn (by rw [xl (Ne.symm n1)]; exact xg) hdo
  refine ⟨_,rfl,p,_,dx,_,rfl,(by rw [xl n2]; exact xg),T.c_e,T.n_bm,(by show 3 < 1000; decide),?_⟩
  rw [xl (Ne.symm n1)] at hdp
  have hdo':H do_=none:=by
   have z:=hdo
   rw [xl (Ne.symm n2),xl (Ne.symm n3),xl (Ne.symm n2)] at z
   exact z
  refine q _ dp do_ hdp hdo' (fun b u nb e=>?_) ⟨⟨dx,xg⟩,⟨[],?_,.nil⟩,w1,w2,h1,h2,Nat.zero_le _⟩ ?_
  ·have c1:b≠dp:=xn e hdp
   have c2:b≠do_:=fun z=>by
    subst z
    rw [xl nb,xl c1,xl nb] at hdo
    rw [e] at hdo
    cases hdo
   rw [xl nb,xl c2,xl nb,xl c1,xl nb]
   exact e
  ·rw [xl (Ne.symm n1),xl n3,xl (Ne.symm n1)]
   exact xg
  ·rw [xl (Ne.symm n2)]
   exact xg
theorem ok_b (T:Txt w K mg t):FnOk true P w K mg base (CXo P w) 2 t.f_b t.d_b ["self", "name"] (spCN t):=by
 refine T.F_b.okn (k:=1) sc_b (fun vs H Q E h=>?_) (fun cdv A outer s H vs Q E hr h=>?_)
 ·obtain ⟨a,dp,do_,pw,ph,ps,nm,pt,rfl,_⟩:=h
  rfl
 ·obtain ⟨a,dp,do_,pw,ph,ps,nm,pt,rfl,h⟩:=h
  refine ⟨_,xk (xaa (PW.pt (xb7 (xbi (xau (xao (ok_a3 T) (hr.mono (by decide)) rfl T.g_a3 T.F_a3.kp T.b_a3 .nil xp (xf (pv 1) (xh))))) (xbw (xcv (xe5 (xbp hr) (pv 1) (xah (pv 0) rfl)))))) (xk (xa9)) (xx)),?_⟩
  obtain ⟨pic,hn,hf,q⟩:=h
  obtain ⟨⟨dx,hp⟩,⟨kvs,hk,pl⟩,_⟩:=id pic
  obtain ⟨q0,e,_⟩:=pl.find hf
  exact ⟨_,rfl,nm,rfl,hn,true,rfl,iteF ⟨_,rfl,_,rfl,a,_,dx,_,_,rfl,hp,T.c_e,T.n_bi,lkP,dp,some (.ref q0),rfl,(by rw [← e]; exact DGet.k (k:=.inr nm) hk),false,rfl,iteF q⟩⟩
theorem ok_f (T:Txt w K mg t):FnOk true P w K mg base (CXo P w) 2 t.f_f t.d_f ["self", "x", "y"] (spCC t):=by
 refine T.F_f.okn (k:=1) sc_f (fun vs H Q E h=>?_) (fun cdv A outer s H vs Q E hr h=>?_)
 ·obtain ⟨a,dp,do_,pw,ph,ps,x,y,rfl,_⟩:=h
  rfl
 ·obtain ⟨a,dp,do_,pw,ph,ps,x,y,rfl,h⟩:=h
  refine ⟨_,xk (xaa (PW.pt (xb7 (xbi (xau (xao (ok_am T) (hr.mono (by decide)) rfl T.g_am T.F_am.kp T.b_am .nil xp (xf (pv 1) (xf (xo) (xf (xah (pv 0) rfl) (xh))))))) (xbw (xbi (xau (xao (ok_am T) (hr.mono (by decide)) rfl T.g_am T.F_am.kp T.b_am .nil xp (xf (pv 2) (xf (xo) (xf (xah (pv 0) rfl) (xh)))))))))) (xk (xa9)) (xx)),?_⟩
  obtain ⟨pic,x1,x2,y1,y2,q⟩:=h
  obtain ⟨⟨dx,hp⟩,_,_⟩:=id pic
  exact ⟨_,rfl,_,rfl,a,_,dx,_,_,rfl,hp,T.c_e,T.n_bn,lkW,x,1,pw,rfl,x1,x2,true,rfl,iteF ⟨_,rfl,_,rfl,a,_,dx,_,_,rfl,hp,T.c_e,T.n_bk,lkH,y,1,ph,rfl,y1,y2,true,rfl,iteF q⟩⟩
theorem ok_i (T:Txt w K mg t):FnOk true P w K mg base (CXo P w) 1 t.f_i t.d_i ["self"] (xpi t):=by
 refine T.F_i.okn (k:=0) sc_i (fun vs H Q E h=>?_) (fun cdv A outer s H vs Q E hr h=>?_)
 ·obtain ⟨a,dp,do_,pw,ph,ps,rfl,_⟩:=h
  rfl
 ·obtain ⟨a,dp,do_,pw,ph,ps,rfl,h⟩:=h
  refine ⟨_,xk (xaf (xn0 (xby rfl (xbf (zs:=["name", "rest"]) (ys:=[]) (fr:=[]) (N0:=["self"]) (sc0:=xj s_i) (by decide +kernel) rfl rfl rfl) (xmc (xah (pv 0) rfl)) (fun _ _ _ _ _ ow nd=>(xbn rfl (xv (xq (i:=0) nd rfl (Or.inl (ow _ (by simp))) (Or.inr (ow _ (by simp)))) (xv (xq (i:=1) nd rfl (Or.inl (ow _ (by simp))) (Or.inr (ow _ (by simp)))) (xa7))):PG _ _ (gTup K 2 _))) (xcm (xar (by decide) (xar (by decide) (xb4)))) (fun _ _ _ _ _=>xbz) (fun _ _ _ _ _=>xu (r:=xm0 K) xgo (xat (xf (pv 0) (xh))) (pv 1))))),?_⟩
  obtain ⟨pic,q⟩:=h
  obtain ⟨⟨dx,hp⟩,⟨kvs,hk,pl⟩,_⟩:=id pic
  refine ⟨_,rfl,a,_,dx,_,_,rfl,hp,T.c_e,T.n_bi,lkP,dp,kvs,rfl,hk,fun ob nf l hl=>?_⟩
  have nl:l≠dp:=fun z=>by
   rw [z,xg] at hl
   cases hl
  have hl0:H l=none:=by rwa [xl nl] at hl
  refine xcf kvs.length (fun i xs H2=>∃ qs:List Addr,xs=qs.map V.ref∧qs.length≤i∧H2 dp=some (.frz ob (.dK kvs))∧(∀ b u,b≠dp→H b=some u→H2 b=some u)∧H2 l=some (.lst xs)∧PtsL H2 (ps.take i) qs) ?_ ?_ ?_ ?_
  ·refine ⟨[],rfl,Nat.le_refl _,?_,fun b u nb e=>?_,xg,by simpa using PtsL.nil⟩
   ·rw [xl (Ne.symm nl)]
    exact xg
   ·rw [xl (xn e hl0),xl nb]
    exact e
  ·rintro i xs H2 lt ⟨qs,_,_,hd,_⟩
   exact ⟨hd,lt⟩
  ·rintro i xs H2 v H3 lt ⟨qs,rfl,ql,hd,sm,hl2,pts⟩ ⟨p,k,x,hx,rfl,hpn,rfl⟩ N hN
   obtain ⟨pt,q0,hpt,rfl,rfl,hq0⟩:=pl.get hx
   have e0:H2 q0=some (.tup (ptV pt)):=sm _ _ (xac hq0 hk (fun z=>nomatch z)) hq0
   refine ⟨p,_,rfl,SqT.of xg,rfl,_,_,rfl,_,_,rfl,rfl,?_⟩
   refine xgf ?_
   have n0:q0≠p:=xn e0 hpn
   refine ⟨_,rfl,(by show 1≤sizeLine; decide),fun p1 h1=>⟨_,rfl,p1,q0,_,ptV pt,rfl,rfl,SqT.of xg,SqT.of ?_,(by simp),(by show 1 + 5≤sizeLine; decide),(fun z=>nomatch z),fun _ p2 h2=>?_⟩⟩
   ·rw [xl (xn (by rw [xl n0]; exact e0) h1),xl n0]
    exact e0
   have up:∀ b u,H2 b=some u→(upd (upd (upd H2 p (.tup [.str pt.nm,.ref q0])) p1 (.tup [.str pt.nm])) p2 (.tup ([.str pt.nm] ++ ptV pt))) b=some u:=fun b u e=>by
    have c1:b≠p:=xn e hpn
    have e1:upd H2 p (.tup [.str pt.nm,.ref q0]) b=some u:=by rw [xl c1]; exact e
    have c2:b≠p1:=xn e1 h1
    have e2:upd (upd H2 p (.tup [.str pt.nm,.ref q0])) p1 (.tup [.str pt.nm]) b=some u:=by rw [xl c2]; exact e1
    rw [xl (xn e2 h2)]
    exact e2
   have c3:l≠p2:=xn (show upd (upd H2 p (.tup [.str pt.nm,.ref q0])) p1 (.tup [.str pt.nm]) l=some (.lst (qs.map V.ref)) from by
    have c1:l≠p:=xn hl2 hpn
    have e1:upd H2 p (.tup [.str pt.nm,.ref q0]) l=some (.lst (qs.map V.ref)):=by rw [xl c1]; exact hl2
    rw [xl (xn e1 h1)]
    exact e1) h2
   have tk:ps.take (i + 1)=ps.take i ++ [pt]:=by
    rw [List.take_add_one,hpt]
    rfl
   have ll:qs.length < sizeLine:=Nat.lt_trans (by have:=pl.len; have:=pic.len; omega:qs.length < 13) (by decide)
   refine ⟨up _ _ hl2,by rw [List.length_map]; exact ll,hN _ _ ⟨qs ++ [p2],by simp,by simp; omega,?_,fun b u nb e=>?_,xg,?_⟩⟩
   ·rw [xl (Ne.symm nl)]
    exact up _ _ hd
   ·have e2:=up _ _ (sm b u nb e)
    rw [xl (xn e hl0)]
    exact e2
   ·rw [tk]
    refine PtsL.snoc (PtsL.keep (fun b xs e=>?_) pts) ?_
    ·have e2:=up _ _ e
     rw [xl (xac e2 (up _ _ hl2) (fun z=>nomatch z))]
     exact e2
    ·rw [xl (Ne.symm c3)]
     exact xg
  ·rintro xs H2 ⟨qs,rfl,_,hd,sm,hl2,pts⟩
   refine ⟨⟨hd,Nat.le_refl _⟩,dp,ob,_,hd,nf,q _ l qs (fun b u e=>?_) ?_ (PtsL.keep (fun b xs e=>?_) (by rw [pl.len,List.take_length] at pts; exact pts))⟩
   ·by_cases c:b=dp
    ·subst c
     rw [hk] at e
     cases e
     exact xg
    ·rw [xl c]
     exact sm b u c e
   ·rw [xl nl]
    exact hl2
   ·rw [xl (xac e hd (fun z=>nomatch z))]
    exact e
theorem ok_a (T:Txt w K mg t):FnOk true P w K mg base (CXo P w) 2 t.f_a t.d_a ["self", "name", "x", "y"] (spCL t):=by
 refine T.F_a.okn (k:=1) sc_a (fun vs H Q E h=>?_) (fun cdv A outer s H vs Q E hr h=>?_)
 ·obtain ⟨a,dp,do_,pw,ph,ps,nm,x,y,rfl,_⟩:=h
  rfl
 ·obtain ⟨a,dp,do_,pw,ph,ps,nm,x,y,rfl,h⟩:=h
  refine ⟨_,xi (xch rfl (xbf (zs:=["other"]) (ys:=["name"]) (fr:=[1]) (N0:=["self", "name", "x", "y", "others", "other"]) (sc0:=xj s_a) (by decide +kernel) rfl rfl rfl) (xa0 (xa8 (pv 0) T.c_e T.m_i (ok_i T) (hr.mono (by decide)) T.b_i .nil xp)) (fun _ _ _ _ _ ow nd=>xq (i:=0) nd rfl (Or.inl (ow _ (by simp))) (Or.inr (ow _ (by simp)))) (xb5 (by decide)) (fun _ _ _ _ _=>xdi (x8 xhr (xw (r:=rIxT K) xad (pv 0) (xo) (fun _ _=>rfl)) (pv 1) (xab _))) (fun _ _ _ _ _=>pv 0) (j:=4) rfl (Or.inl rfl))
   (xi (xbr PassesOwn.never rfl (xa0 (pv 4)) (xq (i:=5) sc_a.nd rfl (Or.inl rfl)) (xk (xaa (x8 xa6 (xw xad (pv 5) (xo) (fun _ _=>rfl)) (pv 2) (xab _)) (xk (xa9)) (xx))))
   (xk (xbr PassesOwn.never rfl (xa0 (pv 4)) (xq (i:=5) sc_a.nd rfl (Or.inl rfl)) (xk (xaa (x8 xa6 (xw xad (pv 5) (xo) (fun _ _=>rfl)) (pv 3) (xab _)) (xk (xa9)) (xx)))))),?_⟩
  obtain ⟨pic,no,q⟩:=h
  obtain ⟨⟨dx,hp⟩,⟨kvs,hk,pl⟩,_⟩:=id pic
  refine ⟨_,rfl,a,dx,_,rfl,hp,xap (by decide +kernel),a,dp,do_,pw,ph,ps,rfl,pic,fun H1 l1 qs s1 hl1 pt1=>⟨l1,rfl,⟨_,SqL.of hl1⟩,fun l hl=>?_⟩⟩
  refine xcf qs.length (fun i xs H2=>∃ os:List Addr,xs=os.map V.ref∧os.length≤i∧Same H1 H2∧H2 l=some (.lst xs)∧∀ o ∈ os,∃ p ∈ ps,p.nm≠nm∧H1 o=some (.tup (.str p.nm :: ptV p))) ?_ ?_ ?_ ?_
  ·exact ⟨[],rfl,Nat.le_refl _,xm (Same.refl _) hl,xg,fun o z=>nomatch z⟩
  ·rintro i xs H2 lt ⟨os,_,_,s2,_⟩
   exact ⟨_,.ref qs[i],SqL.of (s2 _ _ hl1),by simp [lt]⟩
  ·rintro i xs H2 v H3 lt ⟨os,rfl,ol,s2,hl2,hos⟩ ⟨rfl,hv⟩ N hN
   have hv':=hv _ (SqL.of (s2 _ _ hl1))
   rw [List.getElem?_map] at hv'
   obtain ⟨o,ho,rfl⟩:=Option.map_eq_some_iff.mp hv'
   obtain ⟨p,hpp,ep⟩:=pt1.get ho
   refine ⟨_,rfl,o,_,0,_,rfl,rfl,SqT.of (s2 _ _ ep),rfl,_,rfl,rfl,_,rfl,ite2 (fun c=>?_) (fun c=>?_)⟩
   ·have cn:p.nm≠nm:=fun z=>by
     rw [z] at c
     simp at c
    refine ⟨_,rfl,hl2,(by rw [List.length_map]; exact Nat.lt_trans (by have:=pt1.len; have:=pic.len; omega:os.length < 13) (by decide)),hN _ _ ⟨os ++ [o],by simp,by simp; omega,?_,xg,?_⟩⟩
    ·intro b u e
     by_cases cb:b=l
     ·subst cb
      rw [e] at hl
      cases hl
     ·rw [xl cb]
      exact s2 b u e
    ·intro o' ho'
     rcases List.mem_append.mp ho' with z | z
     ·exact hos o' z
     ·have:=List.mem_singleton.mp z
      subst this
      exact ⟨p,List.mem_of_getElem? hpp,cn,ep⟩
   ·exact hN _ _ ⟨os,rfl,by omega,s2,hl2,hos⟩
  ·rintro xs H2 ⟨os,rfl,ol,s2,hl2,hos⟩
   refine ⟨⟨_,SqL.of (s2 _ _ hl1),by simp⟩,?_⟩
   have loop:∀ (o:Addr),o ∈ os→∃ p ∈ ps,p.nm≠nm∧H2 o=some (.tup (.str p.nm :: ptV p)):=fun o ho=>by
    obtain ⟨p,h1,h2,h3⟩:=hos o ho
    exact ⟨p,h1,h2,s2 _ _ h3⟩
   refine ⟨_,rfl,l,rfl,⟨_,SqL.of hl2⟩,xbo (xs:=os.map V.ref) (Pv:=fun i σ H3=>∃ v5:Option V,σ=[some (.ref a),some (.str nm),some (.int x),some (.int y),some (.ref l),v5]∧H2=H3) ⟨_,rfl,rfl⟩ (fun _ _ _ _ ⟨_,_,z⟩=>by rw [← z]; exact SqL.of hl2) ?_ ?_⟩
   ·rintro i v σ _ hv ⟨v5,rfl,rfl⟩
    rw [List.getElem?_map] at hv
    obtain ⟨o,ho,rfl⟩:=Option.map_eq_some_iff.mp hv
    obtain ⟨p,m1,m2,m3⟩:=loop o (List.mem_of_getElem? ho)
    refine ⟨_,rfl,o,_,1,_,rfl,rfl,SqT.of m3,rfl,_,rfl,rfl,_,rfl,ifN (decide_eq_false fun z=>(no p m1 m2).1 (V.int.inj z)) ⟨_,rfl,rfl⟩⟩
   ·rintro σ _ ⟨v5,rfl,rfl⟩
    refine ⟨_,rfl,l,rfl,⟨_,SqL.of hl2⟩,xbo (xs:=os.map V.ref) (Pv:=fun i σ H3=>∃ v5:Option V,σ=[some (.ref a),some (.str nm),some (.int x),some (.int y),some (.ref l),v5]∧H2=H3) ⟨_,rfl,rfl⟩ (fun _ _ _ _ ⟨_,_,z⟩=>by rw [← z]; exact SqL.of hl2) ?_ ?_⟩
    ·rintro i v σ _ hv ⟨v5,rfl,rfl⟩
     rw [List.getElem?_map] at hv
     obtain ⟨o,ho,rfl⟩:=Option.map_eq_some_iff.mp hv
     obtain ⟨p,m1,m2,m3⟩:=loop o (List.mem_of_getElem? ho)
     refine ⟨_,rfl,o,_,2,_,rfl,rfl,SqT.of m3,rfl,_,rfl,rfl,_,rfl,ifN (decide_eq_false fun z=>(no p m1 m2).2 (V.int.inj z)) ⟨_,rfl,rfl⟩⟩
    ·rintro σ _ ⟨v5,rfl,rfl⟩
     exact q _ (s1.trans s2)
theorem ok_d (T:Txt w K mg t):FnOk true P w K mg base (CXo P w) 4 t.f_d t.d_d ["self", "side", "row"] (spCS t):=by
 refine T.F_d.okn (k:=3) sc_d (fun vs H Q E h=>?_) (fun cdv A outer s H vs Q E hr h=>?_)
 ·obtain ⟨a,dp,do_,pw,ph,ps,b,r,rfl,_⟩:=h
  rfl
 ·obtain ⟨a,dp,do_,pw,ph,ps,b,r,rfl,h⟩:=h
  refine ⟨_,xi (xaq (xao (ok_a5 T) (hr.mono (by decide)) rfl T.g_a5 T.F_a5.kp T.b_a5 .nil xp (xf (pv 1) (xf (xah (pv 0) rfl) (xh)))))
   (xk (xaa (xbi (xau (xao (ok_am T) (hr.mono (by decide)) rfl T.g_am T.F_am.kp T.b_am .nil xp (xf (pv 2) (xf (xo) (xf (xah (pv 0) rfl) (xh))))))) (xk (xa9)) (xx))),?_⟩
  obtain ⟨pic,r1,r2,q⟩:=h
  obtain ⟨⟨dx,hp⟩,_,_⟩:=id pic
  refine ⟨_,rfl,_,rfl,a,_,dx,_,_,rfl,hp,T.c_e,T.n_bn,lkW,b,pw,rfl,fun p H1 hp1 sd1 s1=>?_⟩
  exact ⟨_,rfl,_,rfl,a,_,dx,_,_,rfl,(s1 _ _ hp),T.c_e,T.n_bk,lkH,r,1,ph,rfl,r1,r2,true,rfl,iteF (q H1 s1)⟩
theorem ok_p (T:Txt w K mg t):FnOk true P w K mg base (CXo P w) 3 t.f_p t.d_p ["self", "name", "x", "y", "sides", "low", "high"] (xpk t):=by
 refine T.F_p.okn (k:=2) sc_p (fun vs H Q E h=>?_) (fun cdv A outer s H vs Q E hr h=>?_)
 ·obtain ⟨a,dp,do_,pw,ph,ps,nm,x,y,sd,lo,hi,hv,rfl,_⟩:=h
  rfl
 ·obtain ⟨a,dp,do_,pw,ph,ps,nm,x,y,sd,lo,hi,hv,rfl,h⟩:=h
  refine ⟨_,xi (xae (i:=7) sc_p.nd rfl (Or.inl rfl) (xh5 (x8 xkd (pv 6) (xk8) (xab _)) (xah (pv 0) rfl) (pv 6)))
   (xi (xaa (xbi (xau (xao (ok_a3 T) (hr.mono (by decide)) rfl T.g_a3 T.F_a3.kp T.b_a3 .nil xp (xf (pv 1) (xh))))) (xk (xa9)) (xx))
   (xi (xaq (xas (pv 0) T.c_e T.m_f (ok_f T) (hr.mono (by decide)) T.b_f .nil xp (xf (pv 2) (xf (pv 3) (xh)))))
   (xi (xaa (PW.pt (xb7 (xbi (xau (xaj xax rfl T.n_isinstance boot_isinstance (xf (pv 4) (xf (xc0 (v:=.ty "str") rfl T.n_str boot_str rfl) (xh)))))) (xbw (xcv (xg3 (pv 4) rfl T.g_a2 T.D_a2))))) (xk (xa9)) (xx))
   (xi (xaa (PW.pt (xb7 (xbi (xau (xao (ok_am T) (hr.mono (by decide)) rfl T.g_am T.F_am.kp T.b_am .nil xp (xf (pv 5) (xf (xo) (xf (xah (pv 0) rfl) (xh))))))) (xbw (xbi (xau (xao (ok_am T) (hr.mono (by decide)) rfl T.g_am T.F_am.kp T.b_am .nil xp (xf (pv 7) (xf (pv 5) (xf (xah (pv 0) rfl) (xh)))))))))) (xk (xa9)) (xx))
   (xi (xaa (xcv (xe4 (xbp hr) (pv 1) (xah (pv 0) rfl))) (xk (xa9)) (xx))
   (xi (xaa (x8 xmn (xaj xg2 rfl T.n_len boot_len (xf (xah (pv 0) rfl) (xh))) (xay (v:=.int 12) rfl T.v_co.choose_spec ⟨_,rfl⟩) (xab _)) (xk (xa9)) (xx))
   (xi (xaq (xas (pv 0) T.c_e T.m_a (ok_a T) (hr.mono (by decide)) T.b_a .nil xp (xf (pv 1) (xf (pv 2) (xf (pv 3) (xh))))))
   (xk (xd2 (xbp hr) (xah (pv 0) rfl) (pv 1) (xat (xf (pv 2) (xf (pv 3) (xf (pv 4) (xf (pv 5) (xf (pv 7) (xh))))))) rfl))))))))),?_⟩
  obtain ⟨pic,hhv,hn,x1,x2,y1,y2,hsd,l1,l2,l3,no,len,q⟩:=h
  obtain ⟨⟨dx,hp⟩,⟨kvs,hk,pl⟩,_⟩:=id pic
  have hsd':(valV ([(Sum.inr "left",V.str "right"),(Sum.inr "right",V.str "left"),(Sum.inr "both",V.str "both")]:List (Key × V)) (Sum.inr sd)).isSome=true:=by
   rcases hsd with rfl | rfl | rfl <;> decide +kernel
  rcases hhv with ⟨rfl,e⟩ | rfl
  ·obtain rfl:=e.symm
   refine ⟨_,rfl,rfl,_,rfl,ifP (by rfl) ⟨_,rfl,a,_,dx,_,_,rfl,hp,T.c_e,T.n_bk,lkH,?_⟩⟩
   refine ⟨_,rfl,nm,rfl,hn,true,rfl,iteF ?_⟩
   refine ⟨_,rfl,a,dx,_,rfl,hp,xap (by decide +kernel),_,rfl,_,rfl,a,dp,do_,pw,ph,ps,x,y,rfl,pic,x1,x2,y1,y2,?_⟩
   refine ⟨_,rfl,_,_,rfl,.inl ⟨_,_,true,.str _,rfl,xci,true,rfl,iteF ⟨_,rfl,.inr sd,rfl,false,(by rw [hsd']; rfl),iteF ?_⟩⟩⟩
   refine ⟨_,rfl,_,rfl,a,_,dx,_,_,rfl,hp,T.c_e,T.n_bk,lkH,lo,1,ph,rfl,l1,(by omega),true,rfl,iteF ⟨_,rfl,_,rfl,_,rfl,a,_,dx,_,_,rfl,hp,T.c_e,T.n_bk,lkH,ph,lo,ph,rfl,(by omega),(by omega),true,rfl,iteF ?_⟩⟩
   refine ⟨_,rfl,_,rfl,a,_,dx,_,_,rfl,hp,T.c_e,T.n_bi,lkP,dp,none,rfl,(by rw [← pl.no (nm:=nm) (fun p hp=>(no p hp).1)]; exact DGet.k (k:=.inr nm) hk),false,rfl,iteF ?_⟩
   refine ⟨_,rfl,a,_,dx,_,_,rfl,hp,T.c_e,T.n_bi,lkP,dp,kvs,rfl,hk,_,_,rfl,rfl,_,rfl,ifN (decide_eq_false (by have:=pl.len; omega)) ?_⟩
   refine ⟨_,rfl,a,dx,_,rfl,hp,xap (by decide +kernel),_,rfl,_,rfl,_,rfl,a,dp,do_,pw,ph,ps,nm,x,y,rfl,pic,fun p hp _=>(no p hp).2,fun H1 s1=>?_⟩
   refine ⟨_,rfl,_,rfl,_,rfl,_,rfl,_,rfl,(by show 5≤sizeLine; decide),fun q1 hq1=>?_⟩
   have hp1:upd H1 q1 (.tup [.int x,.int y,.str sd,.int lo,.int ph]) a=some (.ins t.C_e dx (picF pw ph dp do_)):=by rw [xl (xn (s1 _ _ hp) hq1)]; exact s1 _ _ hp
   have hk1:upd H1 q1 (.tup [.int x,.int y,.str sd,.int lo,.int ph]) dp=some (.dK kvs):=by rw [xl (xn (s1 _ _ hk) hq1)]; exact s1 _ _ hk
   refine ⟨_,rfl,a,_,dx,_,_,rfl,hp1,T.c_e,T.n_bi,lkP,_,rfl,dp,_,rfl,DPut.k (k:=.inr nm) hk1 (Nat.lt_trans (by have:=pl.len; omega:kvs.length < 12) (by decide)),?_⟩
   rw [xdp (.ref q1) (pl.no (nm:=nm) (fun p hp=>(no p hp).1))]
   have nq:q1≠dp:=fun z=>by
    subst z
    rw [s1 _ _ hk] at hq1
    cases hq1
   refine q _ (fun b u nb e=>?_) ⟨⟨dx,?_⟩,⟨_,xg,Pl.snoc (p:=⟨nm,x,y,sd,lo,ph⟩) (pl.keep (fun b xs e=>?_)) ?_⟩,pic.w1,pic.w2,pic.h1,pic.h2,(by rw [List.length_append]; exact len)⟩
   ·rw [xl nb,xl (xn (s1 _ _ e) hq1)]
    exact s1 _ _ e
   ·rw [xl (xac hp1 hk1 (fun z=>nomatch z))]
    exact hp1
   ·have e':=s1 _ _ e
    rw [xl (xac e' (s1 _ _ hk) (fun z=>nomatch z)),xl (xn e' hq1)]
    exact e'
   ·rw [xl nq]
    exact xg
  ·refine ⟨_,rfl,rfl,_,rfl,ifN (by rfl) ⟨_,rfl,?_⟩⟩
   refine ⟨_,rfl,nm,rfl,hn,true,rfl,iteF ?_⟩
   refine ⟨_,rfl,a,dx,_,rfl,hp,xap (by decide +kernel),_,rfl,_,rfl,a,dp,do_,pw,ph,ps,x,y,rfl,pic,x1,x2,y1,y2,?_⟩
   refine ⟨_,rfl,_,_,rfl,.inl ⟨_,_,true,.str _,rfl,xci,true,rfl,iteF ⟨_,rfl,.inr sd,rfl,false,(by rw [hsd']; rfl),iteF ?_⟩⟩⟩
   refine ⟨_,rfl,_,rfl,a,_,dx,_,_,rfl,hp,T.c_e,T.n_bk,lkH,lo,1,ph,rfl,l1,(by omega),true,rfl,iteF ⟨_,rfl,_,rfl,_,rfl,a,_,dx,_,_,rfl,hp,T.c_e,T.n_bk,lkH,hi,lo,ph,rfl,(by omega),(by omega),true,rfl,iteF ?_⟩⟩
   refine ⟨_,rfl,_,rfl,a,_,dx,_,_,rfl,hp,T.c_e,T.n_bi,lkP,dp,none,rfl,(by rw [← pl.no (nm:=nm) (fun p hp=>(no p hp).1)]; exact DGet.k (k:=.inr nm) hk),false,rfl,iteF ?_⟩
   refine ⟨_,rfl,a,_,dx,_,_,rfl,hp,T.c_e,T.n_bi,lkP,dp,kvs,rfl,hk,_,_,rfl,rfl,_,rfl,ifN (decide_eq_false (by have:=pl.len; omega)) ?_⟩
   refine ⟨_,rfl,a,dx,_,rfl,hp,xap (by decide +kernel),_,rfl,_,rfl,_,rfl,a,dp,do_,pw,ph,ps,nm,x,y,rfl,pic,fun p hp _=>(no p hp).2,fun H1 s1=>?_⟩
   refine ⟨_,rfl,_,rfl,_,rfl,_,rfl,_,rfl,(by show 5≤sizeLine; decide),fun q1 hq1=>?_⟩
   have hp1:upd H1 q1 (.tup [.int x,.int y,.str sd,.int lo,.int hi]) a=some (.ins t.C_e dx (picF pw ph dp do_)):=by rw [xl (xn (s1 _ _ hp) hq1)]; exact s1 _ _ hp
   have hk1:upd H1 q1 (.tup [.int x,.int y,.str sd,.int lo,.int hi]) dp=some (.dK kvs):=by rw [xl (xn (s1 _ _ hk) hq1)]; exact s1 _ _ hk
   refine ⟨_,rfl,a,_,dx,_,_,rfl,hp1,T.c_e,T.n_bi,lkP,_,rfl,dp,_,rfl,DPut.k (k:=.inr nm) hk1 (Nat.lt_trans (by have:=pl.len; omega:kvs.length < 12) (by decide)),?_⟩
   rw [xdp (.ref q1) (pl.no (nm:=nm) (fun p hp=>(no p hp).1))]
   have nq:q1≠dp:=fun z=>by
    subst z
    rw [s1 _ _ hk] at hq1
    cases hq1
   refine q _ (fun b u nb e=>?_) ⟨⟨dx,?_⟩,⟨_,xg,Pl.snoc (p:=⟨nm,x,y,sd,lo,hi⟩) (pl.keep (fun b xs e=>?_)) ?_⟩,pic.w1,pic.w2,pic.h1,pic.h2,(by rw [List.length_append]; exact len)⟩
   ·rw [xl nb,xl (xn (s1 _ _ e) hq1)]
    exact s1 _ _ e
   ·rw [xl (xac hp1 hk1 (fun z=>nomatch z))]
    exact hp1
   ·have e':=s1 _ _ e
    rw [xl (xac e' (s1 _ _ hk) (fun z=>nomatch z)),xl (xn e' hq1)]
    exact e'
   ·rw [xl nq]
    exact xg
theorem ok_l (T:Txt w K mg t):FnOk true P w K mg base (CXo P w) 3 t.f_l t.d_l ["self", "name"] (xpv t):=by
 refine T.F_l.okn (k:=2) sc_l (fun vs H Q E h=>?_) (fun cdv A outer s H vs Q E hr h=>?_)
 ·obtain ⟨a,dp,do_,pw,ph,ps,nm,pt,rfl,_⟩:=h
  rfl
 ·obtain ⟨a,dp,do_,pw,ph,ps,nm,pt,rfl,h⟩:=h
  refine ⟨_,xi (xaq (xas (pv 0) T.c_e T.m_b (ok_b T) (hr.mono (by decide)) T.b_b .nil xp (xf (pv 1) (xh))))
   (xk (xaf (xef xgh (xgw (xbp hr) (xah (pv 0) rfl) (pv 1) (fun _ _=>rfl)) xfj (xfg (xo))))),?_⟩
  obtain ⟨pic,hn,hf,q⟩:=h
  obtain ⟨⟨dx,hp⟩,⟨kvs,hk,pl⟩,_⟩:=id pic
  obtain ⟨q0,e,hq0⟩:=pl.find hf
  refine ⟨_,rfl,a,dx,_,rfl,hp,xap (by decide +kernel),_,rfl,a,dp,do_,pw,ph,ps,nm,pt,rfl,pic,hn,hf,?_⟩
  exact ⟨_,rfl,a,_,dx,_,_,rfl,hp,T.c_e,T.n_bi,lkP,_,rfl,dp,.ref q0,rfl,(by rw [← e]; exact DGet.k (k:=.inr nm) hk),2,rfl,q0,ptV pt,rfl,SqT.of hq0,(fun z=>absurd z.2 (by show ¬ ((2:Nat)=5); decide)),fun p hp'=>q _ p (xm (Same.refl _) hp') xg⟩
theorem ok_x (T:Txt w K mg t):FnOk true P w K mg base (CXo P w) 5 t.f_x t.d_x ["self", "name", "side", "row"] (xp9 t):=by
 refine T.F_x.okn (k:=4) sc_x (fun vs H Q E h=>?_) (fun cdv A outer s H vs Q E hr h=>?_)
 ·obtain ⟨a,dp,do_,pw,ph,ps,nm,pt,b,r,rfl,_⟩:=h
  rfl
 ·obtain ⟨a,dp,do_,pw,ph,ps,nm,pt,b,r,rfl,h⟩:=h
  refine ⟨_,xi (xbx (xas (pv 0) T.c_e T.m_l (ok_l T) (hr.mono (by decide)) T.b_l .nil xp (xf (pv 1) (xh))) (xbn rfl (xv (xq (i:=4) sc_x.nd rfl (Or.inl rfl)) (xv (xq (i:=5) sc_x.nd rfl (Or.inl rfl)) (xa7)))))
   (xi (xaq (xas (pv 0) T.c_e T.m_d (ok_d T) (hr.mono (by decide)) T.b_d .nil xp (xf (pv 2) (xf (pv 3) (xh)))))
   (xk (xaf (xu xa3 (xov (xas (xao (ok_a5 T) (hr.mono (by decide)) rfl T.g_a5 T.F_a5.kp T.b_a5 .nil xp (xf (pv 2) (xf (xah (pv 0) rfl) (xh)))) T.c_a9 T.m_u (ok_u T) (hr.mono (by decide)) T.b_u .nil xp (xf (pv 4) (xh))) (xas (xao (ok_a5 T) (hr.mono (by decide)) rfl T.g_a5 T.F_a5.kp T.b_a5 .nil xp (xf (pv 2) (xf (xah (pv 0) rfl) (xh)))) T.c_ay T.m_n (ok_n T) (hr.mono (by decide)) T.b_n .nil xp (xf (pv 4) (xh)))) (xaj xh7 rfl T.n_abs boot_abs (xf (xu xbm (pv 5) (pv 3)) (xh))))))),?_⟩
  obtain ⟨pic,hn,hf,r1,r2,q⟩:=h
  obtain ⟨⟨dx,hp⟩,_,_⟩:=id pic
  refine ⟨_,rfl,a,dx,_,rfl,hp,xap (by decide +kernel),_,rfl,a,dp,do_,pw,ph,ps,nm,pt,rfl,pic,hn,hf,fun H1 q1 s1 hq1=>⟨q1,_,rfl,SqT.of hq1,rfl,_,_,rfl,_,_,rfl,rfl,?_⟩⟩
  refine ⟨_,rfl,a,dx,_,rfl,s1 _ _ hp,xap (by decide +kernel),_,rfl,_,rfl,a,dp,do_,pw,ph,ps,b,r,rfl,Pic.same s1 pic,r1,r2,fun H2 s2=>?_⟩
  cases b with
  | true =>
   refine .inl ⟨_,rfl,_,rfl,a,_,dx,_,_,rfl,(s2 _ _ (s1 _ _ hp)),T.c_e,T.n_bn,lkW,true,pw,rfl,fun p H3 hp3 sd3 s3=>?_⟩
   obtain ⟨ds,hs⟩:=sd3
   exact ⟨p,ds,_,rfl,hs,(by rw [List.lookup_cons,show (("across":Str) == "width")=false from by decide +kernel]; rfl),_,rfl,_,_,rfl,_,rfl,_,rfl,_,_,rfl,rfl,_,rfl,_,_,rfl,rfl,q H3 ((s1.trans s2).trans s3)⟩
  | false =>
   refine .inr ⟨_,rfl,_,rfl,a,_,dx,_,_,rfl,(s2 _ _ (s1 _ _ hp)),T.c_e,T.n_bn,lkW,false,pw,rfl,fun p H3 hp3 sd3 s3=>?_⟩
   obtain ⟨ds,hs⟩:=id sd3
   exact ⟨p,ds,_,rfl,hs,(by rw [List.lookup_cons,show (("across":Str) == "width")=false from by decide +kernel]; rfl),_,rfl,p,pw,_,rfl,sd3,_,rfl,_,rfl,_,_,rfl,rfl,_,rfl,_,_,rfl,rfl,q H3 ((s1.trans s2).trans s3)⟩
end
end S08
set_option maxRecDepth 100000
set_option maxHeartbeats 4000000
namespace S08
open PySem L2 XL PyProof.Rows
theorem lkO {w h:Int} {dp do_:Addr}:(picF w h dp do_).lookup ("opened":Str)=some (.ref do_):=by
 unfold picF
 rw [List.lookup_cons,show (("opened":Str) == "width")=false from by decide +kernel]
 show List.lookup ("opened":Str) [("height",V.int h),("placed",V.ref dp),("opened",V.ref do_)]=_
 rw [List.lookup_cons,show (("opened":Str) == "height")=false from by decide +kernel]
 show List.lookup ("opened":Str) [("placed",V.ref dp),("opened",V.ref do_)]=_
 rw [List.lookup_cons,show (("opened":Str) == "placed")=false from by decide +kernel]
 show List.lookup ("opened":Str) [("opened",V.ref do_)]=_
 rw [List.lookup_cons,show (("opened":Str) == "opened")=true from by decide +kernel]
abbrev Seat:=Bool × Int
def xai (s:Seat):List Key:=[.inr (x6 s.1),.inl s.2]
def xbu (s:Seat):List V:=[.str (x6 s.1),.int s.2]
theorem xex {a b:Bool} (h:x6 a=x6 b):a=b:=by
 cases a <;> cases b <;> first | rfl | exact absurd h (by decide +kernel)
theorem xez {s t:Seat} (h:xai s=xai t):s=t:=by
 simp only [xai,List.cons.injEq,Sum.inr.injEq,Sum.inl.injEq] at h
 exact Prod.ext (xex h.1) h.2.1
def Sts (H:Hp) (do_:Addr) (ss:List Seat):Prop:=∃ kvs:List (List Key × V),H do_=some (.dT kvs)∧kvs.map (·.1)=ss.map xai∧ss.Nodup∧ss.length≤32
theorem Sts.same {H H':Hp} {do_:Addr} {ss:List Seat} (s:Same H H') (h:Sts H do_ ss):Sts H' do_ ss:=let ⟨k,e,r⟩:=h; ⟨k,s _ _ e,r⟩
theorem xf7 {kvs:List (List Key × V)} {ss:List Seat} (e:kvs.map (·.1)=ss.map xai) {s:Seat} (h:s ∉ ss):valV kvs (xai s)=none:=by
 cases z:valV kvs (xai s) with
 | none=>rfl
 | some v =>
  obtain ⟨i,hi⟩:=xgx z
  have m:xai s ∈ kvs.map (·.1):=List.mem_map.mpr ⟨_,List.mem_of_getElem? hi,rfl⟩
  rw [e] at m
  obtain ⟨t,ht,et⟩:=List.mem_map.mp m
  exact absurd ht (by rw [xez et]; exact h)
theorem xgm {kvs:List (List Key × V)} {ss:List Seat} (e:kvs.map (·.1)=ss.map xai) {s:Seat} (h:s ∈ ss):∃ v,valV kvs (xai s)=some v:=by
 cases z:valV kvs (xai s) with
 | some v=>exact ⟨v,rfl⟩
 | none =>
  have m:xai s ∈ kvs.map (·.1):=by rw [e]; exact List.mem_map.mpr ⟨s,h,rfl⟩
  obtain ⟨p,hp,ep⟩:=List.mem_map.mp m
  have a:=xds (xai s) kvs
  rw [z] at a
  have:(kvs.any fun kv=>decide (kv.1=xai s))=true:=List.any_eq_true.mpr ⟨p,hp,by simpa using ep⟩
  rw [this] at a
  cases a
inductive xam (H:Hp):List Seat→List Addr→Prop
 | nil:xam H [] []
 | cons {s:Seat} {q:Addr} {ss:List Seat} {qs:List Addr} (h:H q=some (.tup (xbu s))) (r:xam H ss qs):xam H (s :: ss) (q :: qs)
theorem xam.keep {H H':Hp} (k:Tups H H') {ss:List Seat} {qs:List Addr} (h:xam H ss qs):xam H' ss qs:=by
 induction h with
 | nil=>exact .nil
 | cons h _ ih=>exact .cons (k _ _ h) ih
theorem xam.len {H:Hp} {ss:List Seat} {qs:List Addr} (h:xam H ss qs):qs.length=ss.length:=by
 induction h with
 | nil=>rfl
 | cons _ _ ih=>simp [ih]
def xb2 (s t:Seat):Prop:=(s.1=true∧t.1=false)∨(s.1=t.1∧s.2 < t.2)
theorem xh9 {s t:Seat} (h:lexK (xai s) (xai t)=true):xb2 s t:=by
 obtain ⟨a,i⟩:=s
 obtain ⟨b,j⟩:=t
 unfold xai at h
 unfold lexK at h
 by_cases e:x6 a=x6 b
 ·rw [if_pos (by rw [e])] at h
  unfold lexK at h
  by_cases e2:i=j
  ·rw [if_pos (by rw [e2])] at h
   unfold lexK at h
   cases h
  ·rw [if_neg (fun z=>e2 (Sum.inl.inj z))] at h
   exact .inr ⟨xex e,of_decide_eq_true h⟩
 ·rw [if_neg (fun z=>e (Sum.inr.inj z))] at h
  cases a <;> cases b
  ·exact absurd rfl e
  ·exact absurd h (by show ¬ xcs (.inr (x6 false)) (.inr (x6 true))=true; decide +kernel)
  ·exact .inl ⟨rfl,rfl⟩
  ·exact absurd rfl e
def unK:List Key→Seat
 | [.inr s,.inl r]=>(decide (s="left"),r)
 | _=>(true,0)
theorem xeg (s:Seat):unK (xai s)=s:=by
 obtain ⟨b,r⟩:=s
 cases b
 ·show (decide (("right":Str)="left"),r)=_
  rw [decide_eq_false (by decide +kernel)]
 ·show (decide (("left":Str)="left"),r)=_
  rw [decide_eq_true rfl]
theorem xlp {kvs:List (List Key × V)} {ss:List Seat} (e:kvs.map (·.1)=ss.map xai) {s:Seat}:(xbv kvs (xai s)).map (·.1)=(ss.filter fun t=>decide (t≠s)).map xai:=by
 have h1:(xbv kvs (xai s)).map (·.1)=(kvs.map (·.1)).filter fun k=>decide (k≠xai s):=by
  unfold xbv
  rw [List.filter_map]
  rfl
 rw [h1,e,List.filter_map]
 congr 1
 refine List.filter_congr fun t _=>?_
 show decide (xai t≠xai s)=decide (t≠s)
 by_cases c:t=s
 ·subst c
  simp
 ·have c':xai t≠xai s:=fun z=>c (xez z)
  simp [c,c']
def xoe (t:Adr):Sp:=fun vs H Q _=>∃ (a dp do_:Addr) (pw ph:Int) (ps:List Pt) (ss:List Seat) (b:Bool) (r:Int),vs=[.ref a,.str (x6 b),.int r]∧Pic t H a dp do_ pw ph ps∧Sts H do_ ss∧1≤r∧r≤ph∧(b,r) ∉ ss∧ss.length < 32 ∧
 ∀ H',(∀ c u,c≠do_→H c=some u→H' c=some u)→Pic t H' a dp do_ pw ph ps→Sts H' do_ (ss ++ [(b,r)])→Q .non H'
def xm3 (t:Adr):Sp:=fun vs H Q _=>∃ (a dp do_:Addr) (pw ph:Int) (ps:List Pt) (ss:List Seat),vs=[.ref a]∧Pic t H a dp do_ pw ph ps∧Sts H do_ ss ∧
 ∀ (l:Addr) (ss':List Seat) (qs:List Addr),H l=none→xam H ss' qs→ss'.Perm ss→ss'.Pairwise xb2→Q (.ref l) (upd H l (.lst (qs.map V.ref)))
theorem Pic.but {t:Adr} {H H':Hp} {a dp do_:Addr} {w h:Int} {ps:List Pt} {kvs:List (List Key × V)} (e:H do_=some (.dT kvs)) (s:∀ c u,c≠do_→H c=some u→H' c=some u) (p:Pic t H a dp do_ w h ps):Pic t H' a dp do_ w h ps :=
 ⟨let ⟨dx,x⟩:=p.ins; ⟨dx,s _ _ (xac x e (fun z=>nomatch z)) x⟩,let ⟨k,x,q⟩:=p.pl; ⟨k,s _ _ (xac x e (fun z=>nomatch z)) x,q.keep fun b xs x=>s _ _ (xac x e (fun z=>nomatch z)) x⟩,p.w1,p.w2,p.h1,p.h2,p.len⟩
section
variable {P:Program} {w:World} {K:PySem.W.Frag} {mg:Str→Option Value} {base:Heap} {t:Adr}
theorem ok_g (T:Txt w K mg t):FnOk true P w K mg base (CXo P w) 5 t.f_g t.d_g ["self", "side", "row"] (xoe t):=by
 refine T.F_g.okn (k:=4) sc_g (fun vs H Q E h=>?_) (fun cdv A outer s H vs Q E hr h=>?_)
 ·obtain ⟨a,dp,do_,pw,ph,ps,ss,b,r,rfl,_⟩:=h
  rfl
 ·obtain ⟨a,dp,do_,pw,ph,ps,ss,b,r,rfl,h⟩:=h
  refine ⟨_,xi (xaq (xas (pv 0) T.c_e T.m_d (ok_d T) (hr.mono (by decide)) T.b_d .nil xp (xf (pv 1) (xf (pv 2) (xh)))))
   (xi (xaa (xcv (xe4 (xbp hr) (xat (xf (pv 1) (xf (pv 2) (xh)))) (xah (pv 0) rfl))) (xk (xa9)) (xx))
   (xk (xd2 (xbp hr) (xah (pv 0) rfl) (xat (xf (pv 1) (xf (pv 2) (xh)))) (xdv) rfl))),?_⟩
  obtain ⟨pic,st,r1,r2,no,len,q⟩:=h
  obtain ⟨⟨dx,hp⟩,_,_⟩:=id pic
  obtain ⟨kvs,hk,ek,nd,l32⟩:=id st
  refine ⟨_,rfl,a,dx,_,rfl,hp,xap (by decide +kernel),_,rfl,_,rfl,a,dp,do_,pw,ph,ps,b,r,rfl,pic,r1,r2,fun H1 s1=>?_⟩
  refine ⟨_,rfl,_,rfl,(by show 2≤sizeLine; decide),fun q1 hq1=>?_⟩
  have s2:Same H1 (upd H1 q1 (.tup [.str (x6 b),.int r])):=xm (Same.refl _) hq1
  have g2:upd H1 q1 (.tup [.str (x6 b),.int r]) q1=some (.tup [.str (x6 b),.int r]):=xg
  revert s2 g2
  generalize upd H1 q1 (.tup [.str (x6 b),.int r])=H2
  intro s2 g2
  have hk2:=s2 _ _ (s1 _ _ hk)
  have hp2:=s2 _ _ (s1 _ _ hp)
  have n0:valV kvs (xai (b,r))=none:=xf7 ek no
  refine ⟨_,rfl,a,_,dx,_,_,rfl,hp2,T.c_e,T.n_bm,lkO,do_,none,rfl,(by rw [← n0]; exact DGet.t (k:=xai (b,r)) hk2 g2),false,rfl,iteF ?_⟩
  refine ⟨_,rfl,a,_,dx,_,_,rfl,hp2,T.c_e,T.n_bm,lkO,_,rfl,_,rfl,(by show 2≤sizeLine; decide),fun q3 hq3=>?_⟩
  have s3:Same H2 (upd H2 q3 (.tup [.str (x6 b),.int r])):=xm (Same.refl _) hq3
  have g3:upd H2 q3 (.tup [.str (x6 b),.int r]) q3=some (.tup [.str (x6 b),.int r]):=xg
  revert s3 g3
  generalize upd H2 q3 (.tup [.str (x6 b),.int r])=H3
  intro s3 g3
  have kl:kvs.length=ss.length:=by
   have:=congrArg List.length ek
   simpa using this
  refine ⟨do_,_,rfl,DPut.t (k:=xai (b,r)) (s3 _ _ hk2) g3 (Nat.lt_trans (by omega:kvs.length < 33) (by decide)),?_⟩
  have bt:∀ c u,c≠do_→H c=some u→upd H3 do_ (.dT (putK kvs (xai (b,r)) (.bl true))) c=some u:=fun c u nc e=>by
   rw [xl nc]
   exact s3 _ _ (s2 _ _ (s1 _ _ e))
  refine q _ bt (Pic.but hk bt pic) ⟨_,xg,?_,?_,?_⟩
  ·rw [xdp _ n0,List.map_append,List.map_append,ek]
   rfl
  ·rw [List.nodup_append]
   exact ⟨nd,by simp,fun x hx y hy=>by rw [List.mem_singleton.mp hy]; exact fun e=>no (e ▸ hx)⟩
  ·rw [List.length_append]
   show ss.length + 1≤32
   omega
theorem ok_q (T:Txt w K mg t):FnOk true P w K mg base (CXo P w) 1 t.f_q t.d_q ["self"] (xm3 t):=by
 refine T.F_q.okn (k:=0) sc_q (fun vs H Q E h=>?_) (fun cdv A outer s H vs Q E hr h=>?_)
 ·obtain ⟨a,dp,do_,pw,ph,ps,ss,rfl,_⟩:=h
  rfl
 ·obtain ⟨a,dp,do_,pw,ph,ps,ss,rfl,h⟩:=h
  refine ⟨_,xk (xaf (xaj (xiq rfl) rfl T.n_sorted PyProof.Rows.Boot.«sorted» (xf (xah (pv 0) rfl) (xh)))),?_⟩
  obtain ⟨pic,st,q⟩:=h
  obtain ⟨⟨dx,hp⟩,_,_⟩:=id pic
  obtain ⟨kvs,hk,ek,nd,l32⟩:=id st
  have kl:kvs.length=ss.length:=by
   have:=congrArg List.length ek
   simpa using this
  refine ⟨_,rfl,a,_,dx,_,_,rfl,hp,T.c_e,T.n_bm,lkO,do_,kvs,[false,true],rfl,hk,by omega,fun p hp'=>?_,by decide,fun l ts fr tm pm pw'=>?_⟩
  ·have m:p.1 ∈ kvs.map (·.1):=List.mem_map.mpr ⟨p,hp',rfl⟩
   rw [ek] at m
   obtain ⟨s,_,e⟩:=List.mem_map.mp m
   rw [← e]
   rfl
  rw [ek] at pm
  have back:∀ t ∈ ts,xai (unK t.1)=t.1:=fun t ht=>by
   obtain ⟨s,_,e⟩:=List.mem_map.mp (pm.mem_iff.mp (List.mem_map.mpr ⟨t,ht,rfl⟩))
   rw [← e,xeg]
  have z:=q l ((ts.map (·.1)).map unK) (ts.map (·.2)) fr ?_ ?_ ?_
  ·rw [List.map_map] at z
   exact z
  ·clear pm pw'
   induction ts with
   | nil=>exact .nil
   | cons t ts ih =>
    refine .cons ?_ (ih (fun x hx=>tm x (List.mem_cons_of_mem _ hx)) fun x hx=>back x (List.mem_cons_of_mem _ hx))
    have e:=tm t List.mem_cons_self
    rw [← back t List.mem_cons_self] at e
    exact e
  ·have z2:=pm.map unK
   have e2:(ss.map xai).map unK=ss:=by
    rw [List.map_map,show (unK ∘ xai)=id from funext xeg]
    exact List.map_id _
   rw [e2] at z2
   exact z2
  ·rw [List.pairwise_map] at pw'
   rw [List.map_map,List.pairwise_map]
   refine pw'.imp_of_mem fun {x y} hx hy hxy=>xh9 ?_
   show lexK (xai (unK x.1)) (xai (unK y.1))=true
   rw [back x hx,back y hy]
   exact hxy
end
end S08
set_option maxRecDepth 100000
set_option maxHeartbeats 4000000
namespace S08
open PySem L2 XL PyProof.Rows
structure PtOk (w h:Int) (p:Pt):Prop where
 nm:isNm p.nm=true
 x1:1≤p.x
 x2:p.x≤w
 y1:1≤p.y
 y2:p.y≤h
 sd:p.sd="left"∨p.sd="right"∨p.sd="both"
 l1:1≤p.lo
 l2:p.lo≤p.hi
 l3:p.hi≤h
structure xba (w h:Int) (ps:List Pt):Prop where
 ok:∀ p ∈ ps,PtOk w h p
 nn:(ps.map (·.nm)).Nodup
 nx:(ps.map (·.x)).Nodup
 ny:(ps.map (·.y)).Nodup
 le:ps.length≤12
def SsOk (h:Int) (ss:List Seat):Prop:=ss.Nodup∧ss.length≤32∧∀ s ∈ ss,1≤s.2∧s.2≤h
theorem xfd {α β:Type} (f:α→β) {ps:List α} (nd:(ps.map f).Nodup) {i:Nat} (hi:i < ps.length):∀ p ∈ ps.take i,f p≠f ps[i]:=fun p hp e=>by
 have z:=nd
 rw [← List.take_append_drop i ps,List.drop_eq_getElem_cons hi,List.map_append,List.map_cons,List.nodup_append] at z
 exact z.2.2 _ (List.mem_map.mpr ⟨p,hp,rfl⟩) _ List.mem_cons_self e
theorem xam.get {H:Hp} {ss:List Seat} {qs:List Addr} (h:xam H ss qs) {i:Nat} {q:Addr} (e:qs[i]?=some q):∃ s,ss[i]?=some s∧H q=some (.tup (xbu s)):=by
 induction h generalizing i with
 | nil=>simp at e
 | @cons s q' ss qs h _ ih =>
  cases i with
  | zero =>
   simp at e
   subst e
   exact ⟨s,rfl,h⟩
  | succ j=>exact ih (by simpa using e)
def xo9 (t:Adr):Sp:=fun vs H Q _=>∃ (w h:Int) (l m:Addr) (ps:List Pt) (qs:List Addr) (ss:List Seat) (rs:List Addr),vs=[.int w,.int h,.ref l,.ref m]∧(1≤w∧w≤30∧1≤h∧h≤16)∧H l=some (.lst (qs.map V.ref))∧PtsL H ps qs∧xba w h ps∧H m=some (.lst (rs.map V.ref))∧xam H ss rs∧SsOk h ss ∧
 ∀ H' a dp do_,Same H H'→H a=none→H dp=none→H do_=none→Pic t H' a dp do_ w h ps→Sts H' do_ ss→Q (.ref a) H'
section
variable {P:Program} {w:World} {K:PySem.W.Frag} {mg:Str→Option Value} {base:Heap} {t:Adr}
theorem ok_w (T:Txt w K mg t):FnOk true P w K mg base (CXo P w) 6 t.f_w t.d_w ["width", "height", "points", "seats"] (xo9 t):=by
 refine T.F_w.okn (k:=5) sc_w (fun vs H Q E h=>?_) (fun cdv A outer s H vs Q E hr h=>?_)
 ·obtain ⟨w,ph,l,m,ps,qs,ss,rs,rfl,_⟩:=h
  rfl
 ·obtain ⟨w,ph,l,m,ps,qs,ss,rs,rfl,h⟩:=h
  refine ⟨_,xi (xae (i:=4) sc_w.nd rfl (Or.inl rfl) (xe9 T.k_e (ok_ai T) (hr.mono (by decide)) rfl T.g_e T.b_ai .nil xp (xf (pv 0) (xf (pv 1) (xh)))))
   (xi (xbr PassesOwn.never rfl (xa0 (pv 2)) (xbn rfl (xv (xq (i:=5) sc_w.nd rfl (Or.inl rfl)) (xv (xq (i:=6) sc_w.nd rfl (Or.inl rfl)) (xv (xq (i:=7) sc_w.nd rfl (Or.inl rfl)) (xv (xq (i:=8) sc_w.nd rfl (Or.inl rfl)) (xv (xq (i:=9) sc_w.nd rfl (Or.inl rfl)) (xv (xq (i:=10) sc_w.nd rfl (Or.inl rfl)) (xa7)))))))) (xk (xaq (xas (pv 4) T.c_e T.m_p (ok_p T) (hr.mono (by decide)) T.b_p .nil xp (x0 (pv 5) (x0 (pv 6) (x0 (pv 7) (x0 (pv 8) (x0 (pv 9) (x0 (pv 10) (xh) rfl) rfl) rfl) rfl) rfl) rfl)))))
   (xi (xbr PassesOwn.never rfl (xa0 (pv 3)) (xbn rfl (xv (xq (i:=11) sc_w.nd rfl (Or.inl rfl)) (xv (xq (i:=12) sc_w.nd rfl (Or.inl rfl)) (xa7)))) (xk (xaq (xas (pv 4) T.c_e T.m_g (ok_g T) (hr.mono (by decide)) T.b_g .nil xp (xf (pv 11) (xf (pv 12) (xh)))))))
   (xk (xaf (pv 4))))),?_⟩
  obtain ⟨⟨w1,w2,h1,h2⟩,hl,pts,pok,hm,sts,⟨snd,sle,srow⟩,q⟩:=h
  refine ⟨_,rfl,_,rfl,fun a dx hx hdx ne=>⟨a,dx,w,ph,rfl,xg,w1,w2,h1,h2,fun H5 dp do_ hdp5 hdo5 s6 pic5 hdt=>⟨rfl,?_⟩⟩⟩
  have k5:Same H H5:=fun b u e=>s6 b u (xn e hx) (by rw [xl (xn e hx),xl (xn e hdx)]; exact e)
  have up:∀ b,upd (upd H dx (.own a)) a (.ins t.C_e dx []) b=none→H b=none:=fun b z=>by
   cases e:H b with
   | none=>rfl
   | some u=>rw [xl (xn e hx),xl (xn e hdx),e] at z; cases z
  have fdp:=up _ hdp5
  have fdo:=up _ hdo5
  have pl:=pts.len
  have sl:=sts.len
  refine ⟨_,rfl,l,rfl,⟨_,SqL.of (k5 _ _ hl)⟩,?_⟩
  refine xbo (xs:=qs.map V.ref) (Pv:=fun i σ H2=>∃ v5 v6 v7 v8 v9 v10 v11 v12:Option V,σ=[some (.int w),some (.int ph),some (.ref l),some (.ref m),some (.ref a),v5,v6,v7,v8,v9,v10,v11,v12]∧Same H H2∧Pic t H2 a dp do_ w ph (ps.take i)∧H2 do_=some (.dT [])) ⟨_,_,_,_,_,_,_,_,rfl,k5,by simpa using pic5,hdt⟩ (fun _ _ _ _ ⟨_,_,_,_,_,_,_,_,_,z,_⟩=>SqL.of (z _ _ hl)) ?_ ?_
  ·rintro i v σ H2 hv ⟨v5,v6,v7,v8,v9,v10,v11,v12,rfl,s2,pic2,hd2⟩
   rw [List.getElem?_map] at hv
   obtain ⟨z,hz,rfl⟩:=Option.map_eq_some_iff.mp hv
   obtain ⟨p,hp,ez⟩:=pts.get hz
   obtain ⟨hi,ep⟩:=List.getElem?_eq_some_iff.mp hp
   have ok:=pok.ok p (List.mem_of_getElem? hp)
   obtain ⟨⟨dx2,hp2⟩,⟨kvs,hk2,_⟩,_⟩:=id pic2
   have ple:=pok.le
   refine ⟨z,_,rfl,SqT.of (s2 _ _ ez),rfl,_,_,rfl,_,_,rfl,_,_,rfl,_,_,rfl,_,_,rfl,_,_,rfl,rfl,?_⟩
   refine ⟨_,rfl,a,dx2,_,rfl,hp2,xap (by decide +kernel),_,rfl,_,rfl,_,rfl,_,rfl,_,rfl,_,rfl,?_⟩
   refine ⟨a,dp,do_,w,ph,ps.take i,p.nm,p.x,p.y,p.sd,p.lo,p.hi,.int p.hi,rfl,pic2,.inr rfl,ok.nm,ok.x1,ok.x2,ok.y1,ok.y2,ok.sd,ok.l1,ok.l2,ok.l3,fun p' hp'=>?_,?_,fun H3 k3 pic3=>?_⟩
   ·have e:=ep.symm
    subst e
    exact ⟨xfd _ pok.nn hi p' hp',xfd _ pok.nx hi p' hp',xfd _ pok.ny hi p' hp'⟩
   ·rw [List.length_take]
    omega
   ·refine ⟨_,_,_,_,_,_,_,_,rfl,fun b u e=>k3 b u (xn e fdp) (s2 b u e),?_,k3 _ _ (xac hd2 hk2 (fun z=>nomatch z)) hd2⟩
    rw [List.take_add_one,hp]
    exact pic3
  ·rintro σ H2 ⟨v5,v6,v7,v8,v9,v10,v11,v12,rfl,s2,pic2,hd2⟩
   rw [List.length_map,pl,List.take_length] at pic2
   refine ⟨_,rfl,m,rfl,⟨_,SqL.of (s2 _ _ hm)⟩,?_⟩
   refine xbo (xs:=rs.map V.ref) (Pv:=fun i σ H3=>∃ v5 v6 v7 v8 v9 v10 v11 v12:Option V,σ=[some (.int w),some (.int ph),some (.ref l),some (.ref m),some (.ref a),v5,v6,v7,v8,v9,v10,v11,v12]∧Same H H3∧Pic t H3 a dp do_ w ph ps∧Sts H3 do_ (ss.take i)) ⟨_,_,_,_,_,_,_,_,rfl,s2,pic2,[],hd2,rfl,List.nodup_nil,by simp⟩ (fun _ _ _ _ ⟨_,_,_,_,_,_,_,_,_,z,_⟩=>SqL.of (z _ _ hm)) ?_ ?_
   ·rintro i v σ H3 hv ⟨v5,v6,v7,v8,v9,v10,v11,v12,rfl,s3,pic3,st3⟩
    rw [List.getElem?_map] at hv
    obtain ⟨z,hz,rfl⟩:=Option.map_eq_some_iff.mp hv
    obtain ⟨s0,hs0,ez⟩:=sts.get hz
    obtain ⟨hi,es⟩:=List.getElem?_eq_some_iff.mp hs0
    obtain ⟨b,r⟩:=s0
    obtain ⟨r1,r2⟩:=srow _ (List.mem_of_getElem? hs0)
    obtain ⟨⟨dx3,hp3⟩,_,_⟩:=id pic3
    have nin:(b,r) ∉ ss.take i:=fun hmem=>by
     have:=xfd id (by simpa using snd) hi _ hmem
     exact this (by rw [es])
    refine ⟨z,_,rfl,SqT.of (s3 _ _ ez),rfl,_,_,rfl,_,_,rfl,rfl,?_⟩
    refine ⟨_,rfl,a,dx3,_,rfl,hp3,xap (by decide +kernel),_,rfl,_,rfl,?_⟩
    refine ⟨a,dp,do_,w,ph,ps,ss.take i,b,r,rfl,pic3,st3,r1,r2,nin,?_,fun H4 k4 pic4 st4=>?_⟩
    ·rw [List.length_take]
     omega
    ·refine ⟨_,_,_,_,_,_,_,_,rfl,fun c u e=>k4 c u (xn e fdo) (s3 c u e),pic4,?_⟩
     rw [List.take_add_one,hs0]
     exact st4
   ·rintro σ H3 ⟨v5,v6,v7,v8,v9,v10,v11,v12,rfl,s3,pic3,st3⟩
    rw [List.length_map,sl,List.take_length] at st3
    exact ⟨_,rfl,q H3 a dp do_ s3 hx fdp fdo pic3 st3⟩
end
end S08
set_option maxRecDepth 100000
set_option maxHeartbeats 4000000
namespace S08
open PySem L2 XL PyProof.Rows
def xcu (s:Str):Str:=if s="left" then "right" else if s="right" then "left" else s
def mirP (w:Int) (p:Pt):Pt:=⟨p.nm,w + 1 - p.x,p.y,xcu p.sd,p.lo,p.hi⟩
def turP (h:Int) (p:Pt):Pt:=⟨p.nm,p.x,h + 1 - p.y,p.sd,h + 1 - p.hi,h + 1 - p.lo⟩
def mirS (s:Seat):Seat:=(!s.1,s.2)
def turS (h:Int) (s:Seat):Seat:=(s.1,h + 1 - s.2)
def xia (t:Adr) (f:Int→Int→Pt→Pt) (g:Int→Seat→Seat):Sp:=fun vs H Q _=>∃ (a dp do_:Addr) (pw ph:Int) (ps:List Pt) (ss:List Seat),vs=[.ref a]∧Pic t H a dp do_ pw ph ps∧Sts H do_ ss∧xba pw ph ps∧SsOk ph ss ∧
 ∀ (H':Hp) (a' dp' do':Addr) (ss':List Seat),Same H H'→H a'=none→H dp'=none→H do'=none→ss'.Perm ss→ss'.Pairwise xb2→Pic t H' a' dp' do' pw ph (ps.map (f pw ph))→Sts H' do' (ss'.map (g ph))→Q (.ref a') H'
theorem SsOk.perm {h:Int} {ss ss':List Seat} (p:ss'.Perm ss) (o:SsOk h ss):SsOk h ss':=⟨p.nodup_iff.mpr o.1,by rw [p.length_eq]; exact o.2.1,fun s hs=>o.2.2 s (p.mem_iff.mp hs)⟩
theorem xev {α β:Type} {f:α→β} (inj:∀ a b,f a=f b→a=b) {l:List α} (h:l.Nodup):(l.map f).Nodup:=by
 rw [List.nodup_iff_pairwise_ne,List.pairwise_map]
 exact h.imp fun hne e=>hne (inj _ _ e)
theorem xjo {h:Int} {ss:List Seat} (o:SsOk h ss):SsOk h (ss.map (turS h)):=by
 refine ⟨xev (fun a b e=>?_) o.1,by rw [List.length_map]; exact o.2.1,fun s hs=>?_⟩
 ·simp only [turS,Prod.mk.injEq] at e
  exact Prod.ext e.1 (by omega)
 ·obtain ⟨s',hs',rfl⟩:=List.mem_map.mp hs
  have:=o.2.2 s' hs'
  simp only [turS]
  omega
theorem xjf {h:Int} {ss:List Seat} (o:SsOk h ss):SsOk h (ss.map mirS):=by
 refine ⟨xev (fun a b e=>?_) o.1,by rw [List.length_map]; exact o.2.1,fun s hs=>?_⟩
 ·simp only [mirS,Prod.mk.injEq] at e
  exact Prod.ext (by have:=e.1; revert this; cases a.1 <;> cases b.1 <;> simp) e.2
 ·obtain ⟨s',hs',rfl⟩:=List.mem_map.mp hs
  exact o.2.2 s' hs'
theorem xjl {α β γ:Type} {f:α→β} {g:α→γ} {k:β→γ} (e:∀ a,g a=k (f a)) (inj:∀ a b,k a=k b→a=b) {l:List α} (h:(l.map f).Nodup):(l.map g).Nodup:=by
 have z:=xev inj h
 rw [List.map_map] at z
 rw [show g=k ∘ f from funext e]
 exact z
theorem xjg {w h:Int} {ps:List Pt} (o:xba w h ps):xba w h (ps.map (mirP w)):=by
 refine ⟨fun p hp=>?_,?_,?_,?_,by rw [List.length_map]; exact o.le⟩
 ·obtain ⟨p',hp',rfl⟩:=List.mem_map.mp hp
  obtain ⟨a,b,c,d,e,f,g,i,j⟩:=o.ok p' hp'
  have f':xcu p'.sd="left"∨xcu p'.sd="right"∨xcu p'.sd="both":=by
   rcases f with z | z | z <;> rw [z]
   ·exact .inr (.inl (by decide +kernel))
   ·exact .inl (by decide +kernel)
   ·exact .inr (.inr (by decide +kernel))
  exact ⟨a,by simp only [mirP]; omega,by simp only [mirP]; omega,d,e,f',g,i,j⟩
 ·rw [List.map_map]; exact o.nn
 ·rw [List.map_map]; exact xjl (k:=fun x=>w + 1 - x) (fun _=>rfl) (fun a b e=>by omega) o.nx
 ·rw [List.map_map]; exact o.ny
theorem xje {w h:Int} {ps:List Pt} (o:xba w h ps):xba w h (ps.map (turP h)):=by
 refine ⟨fun p hp=>?_,?_,?_,?_,by rw [List.length_map]; exact o.le⟩
 ·obtain ⟨p',hp',rfl⟩:=List.mem_map.mp hp
  obtain ⟨a,b,c,d,e,f,g,i,j⟩:=o.ok p' hp'
  exact ⟨a,b,c,by simp only [turP]; omega,by simp only [turP]; omega,f,by simp only [turP]; omega,by simp only [turP]; omega,by simp only [turP]; omega⟩
 ·rw [List.map_map]; exact o.nn
 ·rw [List.map_map]; exact o.nx
 ·rw [List.map_map]; exact xjl (k:=fun x=>h + 1 - x) (fun _=>rfl) (fun a b e=>by omega) o.ny
theorem xam.snoc {H:Hp} {ss:List Seat} {qs:List Addr} (h:xam H ss qs) {s:Seat} {q:Addr} (e:H q=some (.tup (xbu s))):xam H (ss ++ [s]) (qs ++ [q]):=by
 induction h with
 | nil=>exact .cons e .nil
 | cons h _ ih=>exact .cons h ih
section
variable {P:Program} {w:World} {K:PySem.W.Frag} {mg:Str→Option Value} {base:Heap} {t:Adr}
theorem ok_aa (T:Txt w K mg t):FnOk true P w K mg base (CXo P w) 7 t.f_aa t.d_aa ["self"] (xia t (fun _ _ p=>p) (fun _ s=>s)):=by
 refine T.F_aa.okn (k:=6) sc_aa (fun vs H Q E h=>?_) (fun cdv A outer s H vs Q E hr h=>?_)
 ·obtain ⟨a,dp,do_,pw,ph,ps,ss,rfl,_⟩:=h
  rfl
 ·obtain ⟨a,dp,do_,pw,ph,ps,ss,rfl,h⟩:=h
  refine ⟨_,xk (xaf (xao (ok_w T) (hr.mono (by decide)) rfl T.g_w T.F_w.kp T.b_w .nil xp (xf (xah (pv 0) rfl) (xf (xah (pv 0) rfl) (xf (xa8 (pv 0) T.c_e T.m_i (ok_i T) (hr.mono (by decide)) T.b_i .nil xp) (xf (xa8 (pv 0) T.c_e T.m_q (ok_q T) (hr.mono (by decide)) T.b_q .nil xp) (xh))))))),?_⟩
  obtain ⟨pic,st,pok,sok,q⟩:=h
  obtain ⟨⟨dx,hp⟩,_,w1,w2,h1,h2,_⟩:=id pic
  refine ⟨_,rfl,a,_,dx,_,_,rfl,hp,T.c_e,T.n_bn,lkW,_,rfl,a,_,dx,_,_,rfl,hp,T.c_e,T.n_bk,lkH,_,rfl,a,dx,_,rfl,hp,xap (by decide +kernel),a,dp,do_,pw,ph,ps,rfl,pic,fun H1 l1 qs s1 hl1 pt1=>?_⟩
  refine ⟨_,rfl,a,dx,_,rfl,s1 _ _ hp,xap (by decide +kernel),a,dp,do_,pw,ph,ps,ss,rfl,Pic.same s1 pic,st.same s1,fun l2 ss' rs fr sl pm pw'=>?_⟩
  have s2:Same H1 (upd H1 l2 (.lst (rs.map V.ref))):=xm (Same.refl _) fr
  refine ⟨pw,ph,l1,l2,ps,qs,ss',rs,rfl,⟨w1,w2,h1,h2⟩,s2 _ _ hl1,pt1.keep (Same.tups s2),pok,xg,sl.keep (Same.tups s2),sok.perm pm,fun H' a' dp' do' s3 f1 f2 f3 pic' st'=>?_⟩
  exact q H' a' dp' do' ss' (s1.trans (s2.trans s3)) ((s1.trans s2).free f1) ((s1.trans s2).free f2) ((s1.trans s2).free f3) pm pw' (by rw [List.map_id'']; exact pic'; exact fun _=>rfl) (by rw [List.map_id'']; exact st'; exact fun _=>rfl)
end
end S08
set_option maxRecDepth 100000
set_option maxHeartbeats 4000000
namespace S08
open PySem L2 XL PyProof.Rows
section
variable {P:Program} {w:World} {K:PySem.W.Frag} {mg:Str→Option Value} {base:Heap} {t:Adr}
theorem ok_v (T:Txt w K mg t):FnOk true P w K mg base (CXo P w) 7 t.f_v t.d_v ["self"] (xia t (fun _ h p=>turP h p) turS):=by
 refine T.F_v.okn (k:=6) sc_v (fun vs H Q E h=>?_) (fun cdv A outer s H vs Q E hr h=>?_)
 ·obtain ⟨a,dp,do_,pw,ph,ps,ss,rfl,_⟩:=h
  rfl
 ·obtain ⟨a,dp,do_,pw,ph,ps,ss,rfl,h⟩:=h
  refine ⟨_,xi (xae (i:=1) sc_v.nd rfl (Or.inr rfl) (xu xa3 (xah (pv 0) rfl) (xo)))
   (xi (xch rfl (xbf (zs:=["name", "x", "y", "sides", "low", "high"]) (ys:=["rows"]) (fr:=[1]) (N0:=["self", "rows", "points", "seats"]) (sc0:=xj s_v) (by decide +kernel) rfl rfl rfl) (xa0 (xa8 (pv 0) T.c_e T.m_i (ok_i T) (hr.mono (by decide)) T.b_i .nil xp)) (fun _ _ _ _ _ ow nd=>(xbn rfl (xv (xq (i:=0) nd rfl (Or.inl (ow _ (by simp))) (Or.inr (ow _ (by simp)))) (xv (xq (i:=1) nd rfl (Or.inl (ow _ (by simp))) (Or.inr (ow _ (by simp)))) (xv (xq (i:=2) nd rfl (Or.inl (ow _ (by simp))) (Or.inr (ow _ (by simp)))) (xv (xq (i:=3) nd rfl (Or.inl (ow _ (by simp))) (Or.inr (ow _ (by simp)))) (xv (xq (i:=4) nd rfl (Or.inl (ow _ (by simp))) (Or.inr (ow _ (by simp)))) (xv (xq (i:=5) nd rfl (Or.inl (ow _ (by simp))) (Or.inr (ow _ (by simp)))) (xa7))))))):PG _ _ (gTup K 6 _))) (xcm (xar (by decide) (xar (by decide) (xar (by decide) (xar (by decide) (xar (by decide) (xar (by decide) (xb4)))))))) (fun _ _ _ _ _=>xbz) (fun _ _ _ _ _=>xat (x0 (pv 0) (x0 (pv 1) (x0 (xu xbm (pv 6) (pv 2)) (x0 (pv 3) (x0 (xu xbm (pv 6) (pv 5)) (x0 (xu xbm (pv 6) (pv 4)) (xh) rfl) rfl) rfl) rfl) rfl) rfl)) (j:=2) rfl (Or.inl rfl))
   (xi (xch rfl (xbf (zs:=["side", "row"]) (ys:=["rows"]) (fr:=[1]) (N0:=["self", "rows", "points", "seats"]) (sc0:=xj s_v) (by decide +kernel) rfl rfl rfl) (xa0 (xa8 (pv 0) T.c_e T.m_q (ok_q T) (hr.mono (by decide)) T.b_q .nil xp)) (fun _ _ _ _ _ ow nd=>(xbn rfl (xv (xq (i:=0) nd rfl (Or.inl (ow _ (by simp))) (Or.inr (ow _ (by simp)))) (xv (xq (i:=1) nd rfl (Or.inl (ow _ (by simp))) (Or.inr (ow _ (by simp)))) (xa7))):PG _ _ (gTup K 2 _))) (xcm (xar (by decide) (xar (by decide) (xb4)))) (fun _ _ _ _ _=>xbz) (fun _ _ _ _ _=>xat (xf (pv 0) (xf (xu xbm (pv 2) (pv 1)) (xh)))) (j:=3) rfl (Or.inl rfl))
   (xk (xaf (xao (ok_w T) (hr.mono (by decide)) rfl T.g_w T.F_w.kp T.b_w .nil xp (xf (xah (pv 0) rfl) (xf (xah (pv 0) rfl) (xf (pv 2) (xf (pv 3) (xh)))))))))),?_⟩
  obtain ⟨pic,st,pok,sok,q⟩:=h
  obtain ⟨⟨dx,hp⟩,_,w1,w2,h1,h2,_⟩:=id pic
  refine ⟨_,rfl,a,_,dx,_,_,rfl,hp,T.c_e,T.n_bk,lkH,_,_,rfl,rfl,?_⟩
  refine ⟨_,rfl,a,dx,_,rfl,hp,xap (by decide +kernel),a,dp,do_,pw,ph,ps,rfl,pic,fun H1 l1 qs s1 hl1 pt1=>?_⟩
  have ple:=pok.le
  have ql:=pt1.len
  refine ⟨l1,rfl,⟨_,SqL.of hl1⟩,fun l2 hl2=>?_⟩
  refine xcf qs.length (fun i zs H2=>∃ rs:List Addr,zs=rs.map V.ref∧rs.length≤i∧Same H1 H2∧H2 l2=some (.lst zs)∧PtsL H2 ((ps.take i).map (turP ph)) rs) ?_ ?_ ?_ ?_
  ·exact ⟨[],rfl,Nat.le_refl _,xm (Same.refl _) hl2,xg,by simpa using PtsL.nil⟩
  ·rintro i zs H2 lt ⟨rs,_,_,s2,_⟩
   exact ⟨_,.ref qs[i],SqL.of (s2 _ _ hl1),by simp [lt]⟩
  ·rintro i zs H2 v H3 lt ⟨rs,rfl,rl,s2,h2l,pl2⟩ ⟨rfl,hv⟩ N hN
   have hv':=hv _ (SqL.of (s2 _ _ hl1))
   rw [List.getElem?_map] at hv'
   obtain ⟨o,ho,rfl⟩:=Option.map_eq_some_iff.mp hv'
   obtain ⟨p,hpp,ep⟩:=pt1.get ho
   have okp:=pok.ok p (List.mem_of_getElem? hpp)
   refine ⟨o,_,rfl,SqT.of (s2 _ _ ep),rfl,_,_,rfl,_,_,rfl,_,_,rfl,_,_,rfl,_,_,rfl,_,_,rfl,rfl,?_⟩
   refine xgf ?_
   refine ⟨_,rfl,_,rfl,_,rfl,_,rfl,_,_,rfl,rfl,_,rfl,_,rfl,_,rfl,_,_,rfl,rfl,_,rfl,_,rfl,_,_,rfl,rfl,(by show 6≤sizeLine; decide),fun p7 hp7=>?_⟩
   have s7:=xm (o:=.tup (.str ((turP ph) p).nm :: ptV ((turP ph) p))) (Same.refl _) hp7
   have n7:l2≠p7:=xn h2l hp7
   refine ⟨s7 _ _ h2l,(by rw [List.length_map]; exact Nat.lt_trans (by omega:rs.length < 13) (by decide)),hN _ _ ⟨rs ++ [p7],by simp,by simp; omega,fun b u e=>?_,xg,?_⟩⟩
   ·rw [xl (xn e hl2)]
    exact s7 _ _ (s2 _ _ e)
   ·rw [List.take_add_one,hpp,List.map_append]
    refine PtsL.snoc (PtsL.keep (fun b xs e=>?_) pl2) ?_
    ·rw [xl (xac e h2l (fun z=>nomatch z))]
     exact s7 _ _ e
    ·rw [xl (Ne.symm n7)]
     exact xg
  rintro zs H2 ⟨rs,rfl,rl,s2,h2l,pl2⟩
  refine ⟨⟨_,SqL.of (s2 _ _ hl1),by simp⟩,?_⟩
  rw [ql,List.take_length] at pl2
  have s12:Same H H2:=s1.trans s2
  refine ⟨_,rfl,a,dx,_,rfl,s12 _ _ hp,xap (by decide +kernel),a,dp,do_,pw,ph,ps,ss,rfl,Pic.same s12 pic,st.same s12,fun l3 ss' rs3 fr sl pm pw'=>?_⟩
  have s3:Same H2 (upd H2 l3 (.lst (rs3.map V.ref))):=xm (Same.refl _) fr
  have g3:upd H2 l3 (.lst (rs3.map V.ref)) l3=some (.lst (rs3.map V.ref)):=xg
  have sl3:=sl.keep (Same.tups s3)
  revert s3 g3 sl3
  generalize upd H2 l3 (.lst (rs3.map V.ref))=H3
  intro s3 g3 sl3
  have sok':=sok.perm pm
  have rl3:=sl.len
  refine ⟨l3,rfl,⟨_,SqL.of g3⟩,fun l4 hl4=>?_⟩
  refine xcf rs3.length (fun i zs H4=>∃ rs:List Addr,zs=rs.map V.ref∧rs.length≤i∧Same H3 H4∧H4 l4=some (.lst zs)∧xam H4 ((ss'.take i).map (turS ph)) rs) ?_ ?_ ?_ ?_
  ·exact ⟨[],rfl,Nat.le_refl _,xm (Same.refl _) hl4,xg,by simpa using xam.nil⟩
  ·rintro i zs H4 lt ⟨rs,_,_,s4,_⟩
   exact ⟨_,.ref rs3[i],SqL.of (s4 _ _ g3),by simp [lt]⟩
  ·rintro i zs H4 v H5 lt ⟨rs,rfl,rl,s4,h4l,sl4⟩ ⟨rfl,hv⟩ N hN
   have hv':=hv _ (SqL.of (s4 _ _ g3))
   rw [List.getElem?_map] at hv'
   obtain ⟨o,ho,rfl⟩:=Option.map_eq_some_iff.mp hv'
   obtain ⟨s0,hs0,ep⟩:=sl3.get ho
   have sle:=sok'.2.1
   refine ⟨o,_,rfl,SqT.of (s4 _ _ ep),rfl,_,_,rfl,_,_,rfl,rfl,?_⟩
   refine xgf ?_
   refine ⟨_,rfl,_,rfl,_,rfl,_,_,rfl,rfl,(by show 2≤sizeLine; decide),fun p7 hp7=>?_⟩
   have s7:=xm (o:=.tup (xbu ((turS ph) s0))) (Same.refl _) hp7
   have n7:l4≠p7:=xn h4l hp7
   refine ⟨s7 _ _ h4l,(by rw [List.length_map]; exact Nat.lt_trans (by omega:rs.length < 33) (by decide)),hN _ _ ⟨rs ++ [p7],by simp,by simp; omega,fun b u e=>?_,xg,?_⟩⟩
   ·rw [xl (xn e hl4)]
    exact s7 _ _ (s4 _ _ e)
   ·rw [List.take_add_one,hs0,List.map_append]
    refine xam.snoc (xam.keep (fun b xs e=>?_) sl4) ?_
    ·rw [xl (xac e h4l (fun z=>nomatch z))]
     exact s7 _ _ e
    ·rw [xl (Ne.symm n7)]
     exact xg
  rintro zs H4 ⟨rs,rfl,rl,s4,h4l,sl4⟩
  refine ⟨⟨_,SqL.of (s4 _ _ g3),by simp⟩,?_⟩
  rw [rl3,List.take_length] at sl4
  have s34:Same H2 H4:=s3.trans s4
  have s14:Same H H4:=s12.trans s34
  refine ⟨_,rfl,a,_,dx,_,_,rfl,(s14 _ _ hp),T.c_e,T.n_bn,lkW,_,rfl,a,_,dx,_,_,rfl,(s14 _ _ hp),T.c_e,T.n_bk,lkH,_,rfl,_,rfl,pw,ph,l2,l4,ps.map (turP ph),_,ss'.map (turS ph),rs,rfl,⟨w1,w2,h1,h2⟩,s34 _ _ h2l,pl2.keep (Same.tups s34),xje pok,h4l,sl4,xjo sok',fun H' a' dp' do' s5 f1 f2 f3 pic' st'=>?_⟩
  exact q H' a' dp' do' ss' (s14.trans s5) (s14.free f1) (s14.free f2) (s14.free f3) pm pw' pic' st'
end
end S08
set_option maxRecDepth 100000
set_option maxHeartbeats 4000000
namespace S08
open PySem L2 XL PyProof.Rows
theorem xos {sd:Str} (h:sd="left"∨sd="right"∨sd="both"):valV ([(Sum.inr "left",V.str "right"),(Sum.inr "right",V.str "left"),(Sum.inr "both",V.str "both")]:List (Key × V)) (Sum.inr sd)=some (.str (xcu sd)):=by
 rcases h with rfl | rfl | rfl <;> decide +kernel
theorem xnj (b:Bool):valV ([(Sum.inr "left",V.str "right"),(Sum.inr "right",V.str "left"),(Sum.inr "both",V.str "both")]:List (Key × V)) (Sum.inr (x6 b))=some (.str (x6 (!b))):=by
 cases b <;> decide +kernel
section
variable {P:Program} {w:World} {K:PySem.W.Frag} {mg:Str→Option Value} {base:Heap} {t:Adr}
theorem ok_m (T:Txt w K mg t):FnOk true P w K mg base (CXo P w) 7 t.f_m t.d_m ["self"] (xia t (fun w _ p=>mirP w p) (fun _ s=>mirS s)):=by
 refine T.F_m.okn (k:=6) sc_m (fun vs H Q E h=>?_) (fun cdv A outer s H vs Q E hr h=>?_)
 ·obtain ⟨a,dp,do_,pw,ph,ps,ss,rfl,_⟩:=h
  rfl
 ·obtain ⟨a,dp,do_,pw,ph,ps,ss,rfl,h⟩:=h
  refine ⟨_,xi (xae (i:=1) sc_m.nd rfl (Or.inr rfl) (xu xa3 (xah (pv 0) rfl) (xo)))
   (xi (xch rfl (xbf (zs:=["name", "x", "y", "sides", "low", "high"]) (ys:=["columns"]) (fr:=[1]) (N0:=["self", "columns", "points", "seats"]) (sc0:=xj s_m) (by decide +kernel) rfl rfl rfl) (xa0 (xa8 (pv 0) T.c_e T.m_i (ok_i T) (hr.mono (by decide)) T.b_i .nil xp)) (fun _ _ _ _ _ ow nd=>(xbn rfl (xv (xq (i:=0) nd rfl (Or.inl (ow _ (by simp))) (Or.inr (ow _ (by simp)))) (xv (xq (i:=1) nd rfl (Or.inl (ow _ (by simp))) (Or.inr (ow _ (by simp)))) (xv (xq (i:=2) nd rfl (Or.inl (ow _ (by simp))) (Or.inr (ow _ (by simp)))) (xv (xq (i:=3) nd rfl (Or.inl (ow _ (by simp))) (Or.inr (ow _ (by simp)))) (xv (xq (i:=4) nd rfl (Or.inl (ow _ (by simp))) (Or.inr (ow _ (by simp)))) (xv (xq (i:=5) nd rfl (Or.inl (ow _ (by simp))) (Or.inr (ow _ (by simp)))) (xa7))))))):PG _ _ (gTup K 6 _))) (xcm (xar (by decide) (xar (by decide) (xar (by decide) (xar (by decide) (xar (by decide) (xar (by decide) (xb4)))))))) (fun _ _ _ _ _=>xbz) (fun _ _ _ _ _=>xat (x0 (pv 0) (x0 (xu xbm (pv 6) (pv 1)) (x0 (pv 2) (x0 (xi1 T.g_a2 T.D_a2 rfl (pv 3) (fun _ _=>rfl)) (x0 (pv 4) (x0 (pv 5) (xh) rfl) rfl) rfl) rfl) rfl) rfl)) (j:=2) rfl (Or.inl rfl))
   (xi (xch rfl (xbf (zs:=["side", "row"]) (ys:=[]) (fr:=[]) (N0:=["self", "columns", "points", "seats"]) (sc0:=xj s_m) (by decide +kernel) rfl rfl rfl) (xa0 (xa8 (pv 0) T.c_e T.m_q (ok_q T) (hr.mono (by decide)) T.b_q .nil xp)) (fun _ _ _ _ _ ow nd=>(xbn rfl (xv (xq (i:=0) nd rfl (Or.inl (ow _ (by simp))) (Or.inr (ow _ (by simp)))) (xv (xq (i:=1) nd rfl (Or.inl (ow _ (by simp))) (Or.inr (ow _ (by simp)))) (xa7))):PG _ _ (gTup K 2 _))) (xcm (xar (by decide) (xar (by decide) (xb4)))) (fun _ _ _ _ _=>xbz) (fun _ _ _ _ _=>xat (xf (xi1 T.g_a2 T.D_a2 rfl (pv 0) (fun _ _=>rfl)) (xf (pv 1) (xh)))) (j:=3) rfl (Or.inl rfl))
   (xk (xaf (xao (ok_w T) (hr.mono (by decide)) rfl T.g_w T.F_w.kp T.b_w .nil xp (xf (xah (pv 0) rfl) (xf (xah (pv 0) rfl) (xf (pv 2) (xf (pv 3) (xh)))))))))),?_⟩
  obtain ⟨pic,st,pok,sok,q⟩:=h
  obtain ⟨⟨dx,hp⟩,_,w1,w2,h1,h2,_⟩:=id pic
  refine ⟨_,rfl,a,_,dx,_,_,rfl,hp,T.c_e,T.n_bn,lkW,_,_,rfl,rfl,?_⟩
  refine ⟨_,rfl,a,dx,_,rfl,hp,xap (by decide +kernel),a,dp,do_,pw,ph,ps,rfl,pic,fun H1 l1 qs s1 hl1 pt1=>?_⟩
  have ple:=pok.le
  have ql:=pt1.len
  refine ⟨l1,rfl,⟨_,SqL.of hl1⟩,fun l2 hl2=>?_⟩
  refine xcf qs.length (fun i zs H2=>∃ rs:List Addr,zs=rs.map V.ref∧rs.length≤i∧Same H1 H2∧H2 l2=some (.lst zs)∧PtsL H2 ((ps.take i).map (mirP pw)) rs) ?_ ?_ ?_ ?_
  ·exact ⟨[],rfl,Nat.le_refl _,xm (Same.refl _) hl2,xg,by simpa using PtsL.nil⟩
  ·rintro i zs H2 lt ⟨rs,_,_,s2,_⟩
   exact ⟨_,.ref qs[i],SqL.of (s2 _ _ hl1),by simp [lt]⟩
  ·rintro i zs H2 v H3 lt ⟨rs,rfl,rl,s2,h2l,pl2⟩ ⟨rfl,hv⟩ N hN
   have hv':=hv _ (SqL.of (s2 _ _ hl1))
   rw [List.getElem?_map] at hv'
   obtain ⟨o,ho,rfl⟩:=Option.map_eq_some_iff.mp hv'
   obtain ⟨p,hpp,ep⟩:=pt1.get ho
   have okp:=pok.ok p (List.mem_of_getElem? hpp)
   refine ⟨o,_,rfl,SqT.of (s2 _ _ ep),rfl,_,_,rfl,_,_,rfl,_,_,rfl,_,_,rfl,_,_,rfl,_,_,rfl,rfl,?_⟩
   refine xgf ?_
   refine ⟨_,rfl,_,rfl,_,rfl,_,_,rfl,rfl,_,rfl,_,rfl,.inr p.sd,.str (xcu p.sd),rfl,xos okp.sd,_,rfl,_,rfl,(by show 6≤sizeLine; decide),fun p7 hp7=>?_⟩
   have s7:=xm (o:=.tup (.str ((mirP pw) p).nm :: ptV ((mirP pw) p))) (Same.refl _) hp7
   have n7:l2≠p7:=xn h2l hp7
   refine ⟨s7 _ _ h2l,(by rw [List.length_map]; exact Nat.lt_trans (by omega:rs.length < 13) (by decide)),hN _ _ ⟨rs ++ [p7],by simp,by simp; omega,fun b u e=>?_,xg,?_⟩⟩
   ·rw [xl (xn e hl2)]
    exact s7 _ _ (s2 _ _ e)
   ·rw [List.take_add_one,hpp,List.map_append]
    refine PtsL.snoc (PtsL.keep (fun b xs e=>?_) pl2) ?_
    ·rw [xl (xac e h2l (fun z=>nomatch z))]
     exact s7 _ _ e
    ·rw [xl (Ne.symm n7)]
     exact xg
  rintro zs H2 ⟨rs,rfl,rl,s2,h2l,pl2⟩
  refine ⟨⟨_,SqL.of (s2 _ _ hl1),by simp⟩,?_⟩
  rw [ql,List.take_length] at pl2
  have s12:Same H H2:=s1.trans s2
  refine ⟨_,rfl,a,dx,_,rfl,s12 _ _ hp,xap (by decide +kernel),a,dp,do_,pw,ph,ps,ss,rfl,Pic.same s12 pic,st.same s12,fun l3 ss' rs3 fr sl pm pw'=>?_⟩
  have s3:Same H2 (upd H2 l3 (.lst (rs3.map V.ref))):=xm (Same.refl _) fr
  have g3:upd H2 l3 (.lst (rs3.map V.ref)) l3=some (.lst (rs3.map V.ref)):=xg
  have sl3:=sl.keep (Same.tups s3)
  revert s3 g3 sl3
  generalize upd H2 l3 (.lst (rs3.map V.ref))=H3
  intro s3 g3 sl3
  have sok':=sok.perm pm
  have rl3:=sl.len
  refine ⟨l3,rfl,⟨_,SqL.of g3⟩,fun l4 hl4=>?_⟩
  refine xcf rs3.length (fun i zs H4=>∃ rs:List Addr,zs=rs.map V.ref∧rs.length≤i∧Same H3 H4∧H4 l4=some (.lst zs)∧xam H4 ((ss'.take i).map (mirS)) rs) ?_ ?_ ?_ ?_
  ·exact ⟨[],rfl,Nat.le_refl _,xm (Same.refl _) hl4,xg,by simpa using xam.nil⟩
  ·rintro i zs H4 lt ⟨rs,_,_,s4,_⟩
   exact ⟨_,.ref rs3[i],SqL.of (s4 _ _ g3),by simp [lt]⟩
  ·rintro i zs H4 v H5 lt ⟨rs,rfl,rl,s4,h4l,sl4⟩ ⟨rfl,hv⟩ N hN
   have hv':=hv _ (SqL.of (s4 _ _ g3))
   rw [List.getElem?_map] at hv'
   obtain ⟨o,ho,rfl⟩:=Option.map_eq_some_iff.mp hv'
   obtain ⟨s0,hs0,ep⟩:=sl3.get ho
   have sle:=sok'.2.1
   refine ⟨o,_,rfl,SqT.of (s4 _ _ ep),rfl,_,_,rfl,_,_,rfl,rfl,?_⟩
   refine xgf ?_
   refine ⟨_,rfl,.inr (x6 s0.1),.str (x6 (!s0.1)),rfl,xnj s0.1,_,rfl,(by show 2≤sizeLine; decide),fun p7 hp7=>?_⟩
   have s7:=xm (o:=.tup (xbu ((mirS) s0))) (Same.refl _) hp7
   have n7:l4≠p7:=xn h4l hp7
   refine ⟨s7 _ _ h4l,(by rw [List.length_map]; exact Nat.lt_trans (by omega:rs.length < 33) (by decide)),hN _ _ ⟨rs ++ [p7],by simp,by simp; omega,fun b u e=>?_,xg,?_⟩⟩
   ·rw [xl (xn e hl4)]
    exact s7 _ _ (s4 _ _ e)
   ·rw [List.take_add_one,hs0,List.map_append]
    refine xam.snoc (xam.keep (fun b xs e=>?_) sl4) ?_
    ·rw [xl (xac e h4l (fun z=>nomatch z))]
     exact s7 _ _ e
    ·rw [xl (Ne.symm n7)]
     exact xg
  rintro zs H4 ⟨rs,rfl,rl,s4,h4l,sl4⟩
  refine ⟨⟨_,SqL.of (s4 _ _ g3),by simp⟩,?_⟩
  rw [rl3,List.take_length] at sl4
  have s34:Same H2 H4:=s3.trans s4
  have s14:Same H H4:=s12.trans s34
  refine ⟨_,rfl,a,_,dx,_,_,rfl,(s14 _ _ hp),T.c_e,T.n_bn,lkW,_,rfl,a,_,dx,_,_,rfl,(s14 _ _ hp),T.c_e,T.n_bk,lkH,_,rfl,_,rfl,pw,ph,l2,l4,ps.map (mirP pw),_,ss'.map (mirS),rs,rfl,⟨w1,w2,h1,h2⟩,s34 _ _ h2l,pl2.keep (Same.tups s34),xjg pok,h4l,sl4,xjf sok',fun H' a' dp' do' s5 f1 f2 f3 pic' st'=>?_⟩
  exact q H' a' dp' do' ss' (s14.trans s5) (s14.free f1) (s14.free f2) (s14.free f3) pm pw' pic' st'
end
end S08
set_option maxRecDepth 100000
set_option maxHeartbeats 4000000
namespace S08
open PySem L2 XL PyProof.Rows
theorem Pl.drop {H:Hp} {ps:List Pt} {kvs:List (Key × V)} (h:Pl H ps kvs) (nm:Str):Pl H (ps.filter fun p=>decide (p.nm≠nm)) (xbv kvs (.inr nm)):=by
 induction h with
 | nil=>exact .nil
 | @cons p q ps kvs h r ih =>
  unfold xbv at ih ⊢
  by_cases c:p.nm=nm
  ·rw [List.filter_cons_of_neg (by simp [c]),List.filter_cons_of_neg (by simp [c])]
   exact ih
  ·have c':¬ (Sum.inr p.nm:Key)=Sum.inr nm:=fun z=>c (Sum.inr.inj z)
   rw [List.filter_cons_of_pos (by simpa using c),List.filter_cons_of_pos (by simpa using c')]
   exact .cons h ih
section
variable {P:Program} {w:World} {K:PySem.W.Frag} {mg:Str→Option Value} {base:Heap} {t:Adr}
end
end S08
set_option maxRecDepth 100000
set_option maxHeartbeats 4000000
namespace S08
open PySem L2 XL PyProof.Rows
def scD:V→DV
 | .int i=>.int i
 | .bl b=>.bl b
 | .str s=>.str s
 | _=>.non
def scV:V→Bool
 | .int _=>true
 | .bl _=>true
 | .str _=>true
 | .non=>true
 | _=>false
theorem xpg {K:PySem.W.Frag} {H:Hp} {v:V} (h:scV v=true):Dv K H 0 v (scD v):=by
 cases v with
 | int i=>exact .int
 | bl b=>exact .bl
 | str s=>exact .str
 | non=>exact .non
 | _=>cases h
theorem xh1 {K:PySem.W.Frag} {H:Hp} {xs:List V} (f:xs.all scV=true) (j:Nat) (x:V) (d:DV) (h1:xs[j]?=some x) (h2:(xs.map scD)[j]?=some d):Dv K H 0 x d:=by
 rw [List.getElem?_map,h1] at h2
 cases h2
 exact xpg (List.all_eq_true.mp f x (List.mem_of_getElem? h1))
inductive Er where
 | oldPoint (v0:V)
 | tooMany
 | sameColumn (v0:V)
 | sameRow (v0:V)
 | noPoint (v0:V)
 | oldSeat (v0:V) (v1:V)
 | noSeat (v0:V) (v1:V)
def Er.cls (t:Adr):Er→Addr
 | .oldPoint _=>t.C_h
 | .tooMany=>t.C_r
 | .sameColumn _=>t.C_c
 | .sameRow _=>t.C_t
 | .noPoint _=>t.C_s
 | .oldSeat _ _=>t.C_o
 | .noSeat _ _=>t.C_ab
def Er.fs:Er→List (Str × V)
 | .oldPoint v0=>[("name",v0)]
 | .tooMany=>[]
 | .sameColumn v0=>[("name",v0)]
 | .sameRow v0=>[("name",v0)]
 | .noPoint v0=>[("name",v0)]
 | .oldSeat v0 v1=>[("side",v0),("row",v1)]
 | .noSeat v0 v1=>[("side",v0),("row",v1)]
def Er.told:Er→List V
 | .oldPoint v0=>[.str "old",v0]
 | .tooMany=>[.str "many"]
 | .sameColumn v0=>[.str "column",v0]
 | .sameRow v0=>[.str "row",v0]
 | .noPoint v0=>[.str "point",v0]
 | .oldSeat v0 v1=>[.str "open",v0,v1]
 | .noSeat v0 v1=>[.str "shut",v0,v1]
def ErAt (t:Adr) (H:Hp) (e:Addr) (er:Er):Prop:=(er.fs=[]∧H e=some (XO e (er.cls t) none))∨(er.fs≠[]∧∃ dx,H e=some (XO e (er.cls t) (some dx))∧H dx=some (XD dx er.fs))
def xbj (t:Adr) (H H':Hp) (e:Addr) (er:Er):Prop:=Same H H'∧ErAt t H' e er
theorem xbj.pre {t:Adr} {H H1 H':Hp} {e:Addr} {er:Er} (s:Same H H1) (h:xbj t H1 H' e er):xbj t H H' e er:=⟨s.trans h.1,h.2⟩
theorem ErAt.same {t:Adr} {H H':Hp} {e:Addr} {er:Er} (s:Same H H') (h:ErAt t H e er):ErAt t H' e er:=by
 rcases h with ⟨a,b⟩ | ⟨ne,dx,a,b⟩
 ·exact .inl ⟨a,s _ _ b⟩
 ·exact .inr ⟨ne,dx,s _ _ a,s _ _ b⟩
def Outs (t:Adr) (H:Hp) (out:Option Er) (E:XK) (D:Prop):Prop:=(∀ er,out=some er→∀ e H',xbj t H H' e er→E e (er.cls t) H')∧(out=none→D)
def spX1 (C:Addr) (f:Str):Sp:=fun vs H Q _=>∃ (e:Addr) (v:V),vs=[.ref e,v]∧H e=some (XN e C none)∧∀ dx,H dx=none→Q .non (upd (upd H dx (XD dx [(f,v)])) e (XN e C (some dx)))
def spX2 (C:Addr) (f g:Str):Sp:=fun vs H Q _=>∃ (e:Addr) (v w:V),vs=[.ref e,v,w]∧H e=some (XN e C none)∧∀ dx,H dx=none→Q .non (upd (upd (upd H dx (XD dx [(f,v)])) e (XN e C (some dx))) dx (XD dx (putF g w [(f,v)])))
theorem lk_1 {f:Str} {v:V} {r:List (Str × V)}:((f,v) :: r).lookup f=some v:=by simp
theorem lk_2 {f g:Str} {v w:V} (h:(g == f)=false):([(f,v),(g,w)]:List (Str × V)).lookup g=some w:=by
 rw [List.lookup_cons,h]
 simp
theorem xfb {t:Adr} {H:Hp} {e dx C:Addr} {er:Er} {fs:List (Str × V)} (hc:er.cls t=C) (hf:er.fs=fs) (he:H e=none) (hdx:upd H e (XN e C none) dx=none) (hn:fs≠[]:=by (intro z; cases z)):xbj t H (upd (upd (upd (upd H e (XN e C none)) dx (XD dx fs)) e (XN e C (some dx))) e (XO e C (some dx))) e er:=by
 have ne:dx≠e:=fun z=>by rw [z,xg] at hdx; cases hdx
 rw [xl ne] at hdx
 subst hc hf
 refine ⟨fun y o q=>?_,.inr ⟨hn,dx,xg,?_⟩⟩
 ·rw [xl (xn q he),xl (xn q he),xl (xn q hdx),xl (xn q he)]
  exact q
 ·rw [xl ne,xl ne,xg]
theorem xjp {t:Adr} {H:Hp} {e dx C:Addr} {er:Er} {fs fs0:List (Str × V)} (hc:er.cls t=C) (hf:er.fs=fs) (he:H e=none) (hdx:upd H e (XN e C none) dx=none) (hn:fs≠[]:=by (intro z; cases z)):xbj t H (upd (upd (upd (upd (upd H e (XN e C none)) dx (XD dx fs0)) e (XN e C (some dx))) dx (XD dx fs)) e (XO e C (some dx))) e er:=by
 have ne:dx≠e:=fun z=>by rw [z,xg] at hdx; cases hdx
 rw [xl ne] at hdx
 subst hc hf
 refine ⟨fun y o q=>?_,.inr ⟨hn,dx,xg,?_⟩⟩
 ·rw [xl (xn q he),xl (xn q hdx),xl (xn q he),xl (xn q hdx),xl (xn q he)]
  exact q
 ·rw [xl ne,xg]
theorem xja {H:Hp} {e dx C:Addr} {a b c:HO} (hdx:upd H e a dx=none):upd (upd (upd (upd H e a) dx b) e (XN e C (some dx))) dx c e=some (XN e C (some dx)):=by
 have ne:dx≠e:=fun z=>by rw [z,xg] at hdx; cases hdx
 rw [xl (Ne.symm ne),xg]
theorem xno {t:Adr} {H:Hp} {e C:Addr} {er:Er} (hc:er.cls t=C) (hf:er.fs=[]) (he:H e=none):xbj t H (upd (upd H e (XN e C none)) e (XO e C none)) e er:=by
 subst hc
 refine ⟨fun y o q=>?_,.inl ⟨hf,xg⟩⟩
 rw [xl (xn q he),xl (xn q he)]
 exact q
section
variable {P:Program} {w:World} {K:PySem.W.Frag} {mg:Str→Option Value} {base:Heap} {t:Adr}
theorem ok_ad (T:Txt w K mg t):FnOk true P w K mg base (CXo P w) 1 t.f_ad t.d_ad ["self", "name"] (spX1 t.C_h "name"):=by
 refine T.F_ad.okn (k:=0) sc_ad (fun vs H Q E h=>?_) (fun cdv A outer s H vs Q E hr h=>?_)
 ·obtain ⟨e,v,rfl,_⟩:=h
  rfl
 ·obtain ⟨e,v,rfl,h⟩:=h
  refine ⟨_,xk (xcl (pv 0) (pv 1) rfl),?_⟩
  obtain ⟨he,q⟩:=h
  exact ⟨_,rfl,_,rfl,e,t.C_h,rfl,T.x_h,T.n_dg,.inl ⟨he,q⟩⟩
theorem ok_y (T:Txt w K mg t):FnOk true P w K mg base (CXo P w) 1 t.f_y t.d_y ["self", "name"] (spX1 t.C_c "name"):=by
 refine T.F_y.okn (k:=0) sc_y (fun vs H Q E h=>?_) (fun cdv A outer s H vs Q E hr h=>?_)
 ·obtain ⟨e,v,rfl,_⟩:=h
  rfl
 ·obtain ⟨e,v,rfl,h⟩:=h
  refine ⟨_,xk (xcl (pv 0) (pv 1) rfl),?_⟩
  obtain ⟨he,q⟩:=h
  exact ⟨_,rfl,_,rfl,e,t.C_c,rfl,T.x_c,T.n_b2,.inl ⟨he,q⟩⟩
theorem ok_ak (T:Txt w K mg t):FnOk true P w K mg base (CXo P w) 1 t.f_ak t.d_ak ["self", "name"] (spX1 t.C_t "name"):=by
 refine T.F_ak.okn (k:=0) sc_ak (fun vs H Q E h=>?_) (fun cdv A outer s H vs Q E hr h=>?_)
 ·obtain ⟨e,v,rfl,_⟩:=h
  rfl
 ·obtain ⟨e,v,rfl,h⟩:=h
  refine ⟨_,xk (xcl (pv 0) (pv 1) rfl),?_⟩
  obtain ⟨he,q⟩:=h
  exact ⟨_,rfl,_,rfl,e,t.C_t,rfl,T.x_t,T.n_d5,.inl ⟨he,q⟩⟩
theorem ok_aj (T:Txt w K mg t):FnOk true P w K mg base (CXo P w) 1 t.f_aj t.d_aj ["self", "name"] (spX1 t.C_s "name"):=by
 refine T.F_aj.okn (k:=0) sc_aj (fun vs H Q E h=>?_) (fun cdv A outer s H vs Q E hr h=>?_)
 ·obtain ⟨e,v,rfl,_⟩:=h
  rfl
 ·obtain ⟨e,v,rfl,h⟩:=h
  refine ⟨_,xk (xcl (pv 0) (pv 1) rfl),?_⟩
  obtain ⟨he,q⟩:=h
  exact ⟨_,rfl,_,rfl,e,t.C_s,rfl,T.x_s,T.n_d6,.inl ⟨he,q⟩⟩
theorem ok_al (T:Txt w K mg t):FnOk true P w K mg base (CXo P w) 1 t.f_al t.d_al ["self", "side", "row"] (spX2 t.C_o "side" "row"):=by
 refine T.F_al.okn (k:=0) sc_al (fun vs H Q E h=>?_) (fun cdv A outer s H vs Q E hr h=>?_)
 ·obtain ⟨e,v,w2,rfl,_⟩:=h
  rfl
 ·obtain ⟨e,v,w2,rfl,h⟩:=h
  refine ⟨_,xi (xcl (pv 0) (pv 1) rfl)
   (xk (xcl (pv 0) (pv 2) rfl)),?_⟩
  obtain ⟨he,q⟩:=h
  refine ⟨_,rfl,_,rfl,e,t.C_o,rfl,T.x_o,T.n_d7,.inl ⟨he,fun dx hdx=>?_⟩⟩
  have ne:dx≠e:=fun z=>by rw [z,he] at hdx; cases hdx
  exact ⟨_,rfl,_,rfl,e,t.C_o,rfl,T.x_o,T.n_ei,.inr ⟨dx,_,xg,(by rw [xl ne]; exact xg),(by show 1 < 1000; decide),q dx hdx⟩⟩
theorem ok_ao (T:Txt w K mg t):FnOk true P w K mg base (CXo P w) 1 t.f_ao t.d_ao ["self", "side", "row"] (spX2 t.C_ab "side" "row"):=by
 refine T.F_ao.okn (k:=0) sc_ao (fun vs H Q E h=>?_) (fun cdv A outer s H vs Q E hr h=>?_)
 ·obtain ⟨e,v,w2,rfl,_⟩:=h
  rfl
 ·obtain ⟨e,v,w2,rfl,h⟩:=h
  refine ⟨_,xi (xcl (pv 0) (pv 1) rfl)
   (xk (xcl (pv 0) (pv 2) rfl)),?_⟩
  obtain ⟨he,q⟩:=h
  refine ⟨_,rfl,_,rfl,e,t.C_ab,rfl,T.x_ab,T.n_ej,.inl ⟨he,fun dx hdx=>?_⟩⟩
  have ne:dx≠e:=fun z=>by rw [z,he] at hdx; cases hdx
  exact ⟨_,rfl,_,rfl,e,t.C_ab,rfl,T.x_ab,T.n_ep,.inr ⟨dx,_,xg,(by rw [xl ne]; exact xg),(by show 1 < 1000; decide),q dx hdx⟩⟩
end
end S08
set_option maxRecDepth 100000
set_option maxHeartbeats 4000000
namespace S08
open PySem L2 XL PyProof.Rows
def ptD (p:Pt):DV:=.tup [.str p.nm,.int p.x,.int p.y,.str p.sd,.int p.lo,.int p.hi]
theorem xqm {K:PySem.W.Frag} {H:Hp} {q:Addr} {p:Pt} (h:H q=some (.tup (.str p.nm :: ptV p))):Dv K H 1 (.ref q) (ptD p):=by
 refine .tup (SqT.of h) rfl fun j x d h1 h2=>?_
 match j,h1,h2 with
 | 0,h1,h2=>cases h1; cases h2; exact .str
 | 1,h1,h2=>cases h1; cases h2; exact .int
 | 2,h1,h2=>cases h1; cases h2; exact .int
 | 3,h1,h2=>cases h1; cases h2; exact .str
 | 4,h1,h2=>cases h1; cases h2; exact .int
 | 5,h1,h2=>cases h1; cases h2; exact .int
 | j + 6,h1,h2=>simp [ptV] at h1
theorem PtsL.dv {K:PySem.W.Frag} {H:Hp} {ps:List Pt} {qs:List Addr} (h:PtsL H ps qs) {l:Addr} (e:H l=some (.lst (qs.map V.ref))):Dv K H 2 (.ref l) (.lst (ps.map ptD)):=by
 refine .lst (SqL.of e) (by rw [List.length_map,List.length_map,h.len]) fun j x d h1 h2=>?_
 rw [List.getElem?_map] at h1 h2
 obtain ⟨q,hq,rfl⟩:=Option.map_eq_some_iff.mp h1
 obtain ⟨p,hp,rfl⟩:=Option.map_eq_some_iff.mp h2
 obtain ⟨p',hp',e'⟩:=h.get hq
 rw [hp] at hp'
 cases hp'
 exact xqm e'
theorem xkn {K:PySem.W.Frag} {H:Hp} {q:Addr} {a b:Int} (h:H q=some (.tup [.int a,.int b])):Dv K H 1 (.ref q) (.tup [.int a,.int b]):=by
 refine .tup (SqT.of h) rfl fun j x d h1 h2=>?_
 match j,h1,h2 with
 | 0,h1,h2=>cases h1; cases h2; exact .int
 | 1,h1,h2=>cases h1; cases h2; exact .int
 | j + 2,h1,h2=>simp at h1
theorem PtsL.pick {H:Hp}:∀ {ps:List Pt} {ys:List V},ys.length=ps.length→(∀ (j:Nat) (y:V) (p:Pt),ys[j]?=some y→ps[j]?=some p→∃ q,y=.ref q∧H q=some (.tup (.str p.nm :: ptV p)))→∃ rs:List Addr,ys=rs.map V.ref∧PtsL H ps rs
 | [],[],_,_=>⟨[],rfl,.nil⟩
 | [],_ :: _,h,_=>by cases h
 | _ :: _,[],h,_=>by cases h
 | s :: ss,y :: ys,h,k=>by
  obtain ⟨q,e,hq⟩:=k 0 y s rfl rfl
  obtain ⟨rs,e2,r⟩:=PtsL.pick (ps:=ss) (ys:=ys) (by simpa using h) fun j y s h1 h2=>k (j + 1) y s (by simpa using h1) (by simpa using h2)
  exact ⟨q :: rs,by rw [e,e2]; rfl,.cons hq r⟩
theorem xnz {ps:List Pt} (nd:(ps.map (·.nm)).Nodup) {p:Pt} (hp:p ∈ ps):ps.find? (fun q=>decide (q.nm=p.nm))=some p:=by
 induction ps with
 | nil=>simp at hp
 | cons a ps ih =>
  rw [List.map_cons,List.nodup_cons] at nd
  rcases List.mem_cons.mp hp with z | z
  ·subst z
   rw [List.find?_cons_of_pos (by simp)]
  ·have ne:¬ a.nm=p.nm:=fun y=>nd.1 (y ▸ List.mem_map.mpr ⟨p,z,rfl⟩)
   rw [List.find?_cons_of_neg (by simpa using ne)]
   exact ih nd.2 z
theorem xba.filt {w h:Int} {ps:List Pt} (o:xba w h ps) (f:Pt→Bool):xba w h (ps.filter f) :=
 ⟨fun p hp=>o.ok p (List.mem_filter.mp hp).1,o.nn.sublist (List.filter_sublist.map _),o.nx.sublist (List.filter_sublist.map _),o.ny.sublist (List.filter_sublist.map _),Nat.le_trans (List.length_filter_le _ _) o.le⟩
section
variable {P:Program} {w:World} {K:PySem.W.Frag} {mg:Str→Option Value} {base:Heap} {t:Adr}
end
end S08
set_option maxRecDepth 100000
set_option maxHeartbeats 4000000
namespace S08
open PySem L2 XL PyProof.Rows
theorem xc3 {α:Type} {R:α→α→Prop} (as:∀ a b,R a b→¬ R b a):∀ {l l':List α},l.Perm l'→l.Pairwise R→l'.Pairwise R→l=l'
 | [],l',p,_,_=>(List.Perm.nil_eq p)
 | a :: t,[],p,_,_=>absurd p.symm (by intro z; exact absurd (List.Perm.nil_eq z) (by simp))
 | a :: t,b :: t',p,h,h'=>by
  have h1:=List.pairwise_cons.mp h
  have h2:=List.pairwise_cons.mp h'
  by_cases e:a=b
  ·subst e
   rw [xc3 as ((List.perm_cons a).mp p) h1.2 h2.2]
  ·have ma:a ∈ t':=by
    have:=p.mem_iff.mp (List.mem_cons_self (a:=a) (l:=t))
    rcases List.mem_cons.mp this with z | z
    ·exact absurd z e
    ·exact z
   have mb:b ∈ t:=by
    have:=p.mem_iff.mpr (List.mem_cons_self (a:=b) (l:=t'))
    rcases List.mem_cons.mp this with z | z
    ·exact absurd z.symm e
    ·exact z
   exact absurd (h2.1 a ma) (as _ _ (h1.1 b mb))
theorem xeq (a b:Seat) (h:xb2 a b):¬ xb2 b a:=by
 rintro (⟨x,y⟩ | ⟨x,y⟩) <;> rcases h with ⟨z,w⟩ | ⟨z,w⟩
 ·rw [x] at w; cases w
 ·rw [x,y] at z; cases z
 ·rw [z,w] at x; cases x
 ·omega
def xbl (s:Seat):DV:=.tup [.str (x6 s.1),.int s.2]
theorem xk7 {s t:Seat}:xbl s=xbl t ↔ s=t:=by
 constructor
 ·intro h
  unfold xbl at h
  simp only [DV.tup.injEq,List.cons.injEq,DV.str.injEq,DV.int.injEq,and_true] at h
  exact Prod.ext (xex h.1) h.2
 ·intro h
  rw [h]
theorem xfn (s t:Seat):dEq (xbl s) (xbl t)=decide (s=t):=xnb rfl rfl xk7
theorem xeb (ss:List Seat) (s:Seat):(ss.map xbl).any (fun z=>dEq z (xbl s))=decide (s ∈ ss):=by
 rw [Bool.eq_iff_iff,List.any_eq_true,decide_eq_true_iff]
 constructor
 ·rintro ⟨z,hz,e⟩
  obtain ⟨t,ht,rfl⟩:=List.mem_map.mp hz
  rw [xfn,decide_eq_true_iff] at e
  exact e ▸ ht
 ·intro h
  exact ⟨_,List.mem_map.mpr ⟨s,h,rfl⟩,xbt _⟩
theorem xd3 {K:PySem.W.Frag} {H:Hp} {q:Addr} {s:Seat} (h:H q=some (.tup (xbu s))):Dv K H 1 (.ref q) (xbl s):=by
 refine .tup (SqT.of h) rfl fun j x d h1 h2=>?_
 match j,h1,h2 with
 | 0,h1,h2=>cases h1; cases h2; exact .str
 | 1,h1,h2=>cases h1; cases h2; exact .int
 | j + 2,h1,h2=>simp [xbu] at h1
theorem xam.dv {K:PySem.W.Frag} {H:Hp} {ss:List Seat} {qs:List Addr} (h:xam H ss qs) {l:Addr} (e:H l=some (.lst (qs.map V.ref))):Dv K H 2 (.ref l) (.lst (ss.map xbl)):=by
 refine .lst (SqL.of e) (by rw [List.length_map,List.length_map,h.len]) fun j x d h1 h2=>?_
 rw [List.getElem?_map] at h1 h2
 obtain ⟨q,hq,rfl⟩:=Option.map_eq_some_iff.mp h1
 obtain ⟨p,hp,rfl⟩:=Option.map_eq_some_iff.mp h2
 obtain ⟨p',hp',e'⟩:=h.get hq
 rw [hp] at hp'
 cases hp'
 exact xd3 e'
theorem xam.pick {H:Hp}:∀ {ss:List Seat} {ys:List V},ys.length=ss.length→(∀ (j:Nat) (y:V) (s:Seat),ys[j]?=some y→ss[j]?=some s→∃ q,y=.ref q∧H q=some (.tup (xbu s)))→∃ rs:List Addr,ys=rs.map V.ref∧xam H ss rs
 | [],[],_,_=>⟨[],rfl,.nil⟩
 | [],_ :: _,h,_=>by cases h
 | _ :: _,[],h,_=>by cases h
 | s :: ss,y :: ys,h,k=>by
  obtain ⟨q,e,hq⟩:=k 0 y s rfl rfl
  obtain ⟨rs,e2,r⟩:=xam.pick (ss:=ss) (ys:=ys) (by simpa using h) fun j y s h1 h2=>k (j + 1) y s (by simpa using h1) (by simpa using h2)
  exact ⟨q :: rs,by rw [e,e2]; rfl,.cons hq r⟩
theorem xkm {α:Type} [DecidableEq α]:∀ {l m:List α},l.Nodup→(∀ x ∈ l,x ∈ m)→l.length≤m.length
 | [],m,_,_=>Nat.zero_le _
 | a :: l,m,nd,sub=>by
  obtain ⟨h1,h2⟩:=List.nodup_cons.mp nd
  have ha:=sub a List.mem_cons_self
  have z:=xkm (l:=l) (m:=m.erase a) h2 (fun x hx=>(List.mem_erase_of_ne (fun e:x=a=>h1 (e ▸ hx))).mpr (sub x (List.mem_cons_of_mem _ hx)))
  rw [List.length_erase_of_mem ha] at z
  have:=List.length_pos_of_mem ha
  rw [List.length_cons]
  omega
theorem xf4 {h:Int} {ss:List Seat} (h16:h≤16) (o:SsOk h ss) (l:32≤ss.length) (s:Seat) (r1:1≤s.2) (r2:s.2≤h):s ∈ ss:=by
 by_cases c:s ∈ ss
 ·exact c
 have all:∀ x ∈ s :: ss,x ∈ ((List.range 16).map fun i:Nat=>(true,(i:Int) + 1)) ++ (List.range 16).map fun i:Nat=>(false,(i:Int) + 1):=fun x hx=>by
  have b:1≤x.2∧x.2≤h:=by
   rcases List.mem_cons.mp hx with z | z
   ·rw [z]; exact ⟨r1,r2⟩
   ·exact o.2.2 x z
  obtain ⟨xb,xr⟩:=x
  have i1:(xr - 1).toNat ∈ List.range 16:=List.mem_range.mpr (by dsimp only at b; omega)
  have i2:((xr - 1).toNat:Int) + 1=xr:=by dsimp only at b; omega
  rw [List.mem_append]
  cases xb
  ·exact .inr (List.mem_map.mpr ⟨_,i1,by rw [i2]⟩)
  ·exact .inl (List.mem_map.mpr ⟨_,i1,by rw [i2]⟩)
 have z:=xkm (List.nodup_cons.mpr ⟨c,o.1⟩) all
 simp at z
 omega
section
variable {P:Program} {w:World} {K:PySem.W.Frag} {mg:Str→Option Value} {base:Heap} {t:Adr}
end
end S08
set_option maxRecDepth 100000
set_option maxHeartbeats 4000000
namespace S08
open PySem L2 XL PyProof.Rows
def xbk (ps:List Pt) (nm:Str) (x y:Int):Option Er:=match ps.find? (fun p=>decide (p.nm≠nm) && decide (p.x=x)) with
 | some p=>some (.sameColumn (.str p.nm))
 | none=>match ps.find? (fun p=>decide (p.nm≠nm) && decide (p.y=y)) with
  | some p=>some (.sameRow (.str p.nm))
  | none=>none
theorem xga {ps:List Pt} {nm:Str} {x y:Int} (h:xbk ps nm x y=none):∀ p ∈ ps,p.nm≠nm→p.x≠x∧p.y≠y:=by
 unfold xbk at h
 cases z:ps.find? (fun p=>decide (p.nm≠nm) && decide (p.x=x)) with
 | some p=>rw [z] at h; cases h
 | none =>
  rw [z] at h
  dsimp only at h
  cases z2:ps.find? (fun p=>decide (p.nm≠nm) && decide (p.y=y)) with
  | some p=>rw [z2] at h; cases h
  | none =>
   intro p hp hn
   have a:=List.find?_eq_none.mp z p hp
   have b:=List.find?_eq_none.mp z2 p hp
   simp [hn] at a b
   exact ⟨a,b⟩
theorem xgp {α:Type} {f:α→Bool}:∀ {l:List α} {j:Nat} {p:α},l[j]?=some p→f p=true→(∀ (k:Nat) (p':α),k < j→l[k]?=some p'→f p'=false)→l.find? f=some p
 | [],_,_,h,_,_=>by simp at h
 | a :: l,0,p,h,fp,_=>by
  simp at h
  subst h
  rw [List.find?_cons_of_pos fp]
 | a :: l,j + 1,p,h,fp,no=>by
  rw [List.find?_cons_of_neg (by rw [no 0 a (Nat.succ_pos _) rfl]; decide)]
  exact xgp (by simpa using h) fp fun k p' hk hp'=>no (k + 1) p' (by omega) (by simpa using hp')
theorem xc4 {α:Type} {p f:α→Bool}:∀ l:List α,(l.filter p).find? f=l.find? fun a=>p a && f a
 | []=>rfl
 | a :: l=>by
  cases h:p a with
  | true =>
   rw [List.filter_cons_of_pos h,List.find?_cons,List.find?_cons,xc4 l,h,Bool.true_and]
  | false =>
   rw [List.filter_cons_of_neg (by rw [h]; decide),List.find?_cons,xc4 l,h,Bool.false_and]
def xqa (t:Adr):Sp:=fun vs H Q E=>∃ (a dp do_:Addr) (pw ph:Int) (ps:List Pt) (nm:Str) (x y:Int),vs=[.ref a,.str nm,.int x,.int y]∧Pic t H a dp do_ pw ph ps∧Outs t H (xbk ps nm x y) E (∀ H',Same H H'→Q .non H')
def mvP (nm:Str) (x y:Int) (p:Pt):Pt:=if p.nm=nm then { p with x:=x,y:=y } else p
theorem Pl.mv {H H':Hp} {nm:Str} {x y:Int} {q1:Addr} {ps:List Pt} {kvs:List (Key × V)} (h:Pl H ps kvs) (tp:Tups H H') (hq:∀ p ∈ ps,p.nm=nm→H' q1=some (.tup (ptV { p with x:=x,y:=y }))):Pl H' (ps.map (mvP nm x y)) (kvs.map fun kv=>if kv.1=.inr nm then (kv.1,.ref q1) else kv):=by
 induction h with
 | nil=>exact .nil
 | @cons p q ps kvs h r ih =>
  have ih':=ih fun p' hp'=>hq p' (List.mem_cons_of_mem _ hp')
  rw [List.map_cons,List.map_cons]
  by_cases c:p.nm=nm
  ·rw [if_pos (by rw [c]),show mvP nm x y p={ p with x:=x,y:=y } from if_pos c]
   exact .cons (hq p List.mem_cons_self c) ih'
  ·rw [if_neg (fun z=>c (Sum.inr.inj z)),show mvP nm x y p=p from if_neg c]
   exact .cons (tp _ _ h) ih'
theorem xot {ps:List Pt} (nd:(ps.map (·.nm)).Nodup) {p q:Pt} (hp:p ∈ ps) (hq:q ∈ ps) (e:p.nm=q.nm):p=q:=by
 induction ps with
 | nil=>exact (nomatch hp)
 | cons a ps ih =>
  rw [List.map_cons,List.nodup_cons] at nd
  rcases List.mem_cons.mp hp with z | z <;> rcases List.mem_cons.mp hq with z2 | z2
  ·rw [z,z2]
  ·exact absurd (List.mem_map.mpr ⟨q,z2,by rw [← e,z]⟩) nd.1
  ·exact absurd (List.mem_map.mpr ⟨p,z,by rw [e,z2]⟩) nd.1
  ·exact ih nd.2 z z2
section
variable {P:Program} {w:World} {K:PySem.W.Frag} {mg:Str→Option Value} {base:Heap} {t:Adr}
theorem okT_a (T:Txt w K mg t):FnOk true P w K mg base (CXo P w) 3 t.f_a t.d_a ["self", "name", "x", "y"] (xqa t):=by
 refine T.F_a.okx (k:=2) sc_a (fun vs H Q E h=>?_) (fun cdv A outer s H vs Q E hr h=>?_)
 ·obtain ⟨a,dp,do_,pw,ph,ps,nm,x,y,rfl,_⟩:=h
  rfl
 ·obtain ⟨a,dp,do_,pw,ph,ps,nm,x,y,rfl,h⟩:=h
  refine ⟨_,xi (xch rfl (xbf (zs:=["other"]) (ys:=["name"]) (fr:=[1]) (N0:=["self", "name", "x", "y", "others", "other"]) (sc0:=xj s_a) (by decide +kernel) rfl rfl rfl) (xa0 (xa8 (pv 0) T.c_e T.m_i (ok_i T) (hr.mono (by decide)) T.b_i .nil xp)) (fun _ _ _ _ _ ow nd=>xq (i:=0) nd rfl (Or.inl (ow _ (by simp))) (Or.inr (ow _ (by simp)))) (xb5 (by decide)) (fun _ _ _ _ _=>xdi (x8 xhr (xw (r:=rIxT K) xad (pv 0) (xo) (fun _ _=>rfl)) (pv 1) (xab _))) (fun _ _ _ _ _=>pv 0) (j:=4) rfl (Or.inl rfl))
   (xi (xbr PassesOwn.leaving rfl (xa0 (pv 4)) (xq (i:=5) sc_a.nd rfl (Or.inl rfl)) (xk (xaa (x8 xa6 (xw xad (pv 5) (xo) (fun _ _=>rfl)) (pv 2) (xab _)) (xk (xcg (hr.hd rfl) xa1 (xc1 T.k_c (ok_y T) (hr.mono (by decide)) rfl T.g_c T.b_y .nil (xf (xw xad (pv 5) (xo) (fun _ _=>rfl)) (xh))))) (xx))))
   (xk (xbr PassesOwn.leaving rfl (xa0 (pv 4)) (xq (i:=5) sc_a.nd rfl (Or.inl rfl)) (xk (xaa (x8 xa6 (xw xad (pv 5) (xo) (fun _ _=>rfl)) (pv 3) (xab _)) (xk (xcg (hr.hd rfl) xa1 (xc1 T.k_t (ok_ak T) (hr.mono (by decide)) rfl T.g_t T.b_ak .nil (xf (xw xad (pv 5) (xo) (fun _ _=>rfl)) (xh))))) (xx)))))),?_⟩
  obtain ⟨pic,hE,q⟩:=h
  obtain ⟨⟨dx0,hp⟩,_⟩:=id pic
  have ple:=pic.len
  refine ⟨_,rfl,a,dx0,_,rfl,hp,xap (by decide +kernel),a,dp,do_,pw,ph,ps,rfl,pic,fun H1 l1 qs s1 hl1 pt1=>⟨l1,rfl,⟨_,SqL.of hl1⟩,fun l hl=>?_⟩⟩
  have ql:=pt1.len
  refine xb8 (SqL.of hl1) (by rw [List.length_map]; exact Nat.lt_trans (by omega:qs.length < 13) (by decide)) hl (fun i=>((ps[i]?).map fun p=>decide (p.nm≠nm)).getD false) (fun i y H=>∃ p q,ps[i]?=some p∧y=.ref q∧H q=some (.tup (.str p.nm :: ptV p))) (fun i y H H' tp ⟨p,q,e1,e2,e3⟩=>⟨p,q,e1,e2,tp _ _ e3⟩) (fun i z H2 hz s2 N M hN hM=>?_) (fun ys H2 s2 el2 ly f2=>?_)
  ·rw [List.getElem?_map] at hz
   obtain ⟨o,ho,rfl⟩:=Option.map_eq_some_iff.mp hz
   obtain ⟨p,hpp,ep⟩:=pt1.get ho
   refine ⟨_,rfl,o,_,0,_,rfl,rfl,SqT.of (s2 _ _ ep),rfl,_,rfl,rfl,_,rfl,ite2 (fun c=>?_) (fun c=>?_)⟩
   ·have cn:p.nm≠nm:=fun z=>by
     rw [z] at c
     simp at c
    exact ⟨_,rfl,hN _ _ (Same.refl _) (by rw [hpp]; simpa using cn) ⟨p,o,hpp,rfl,s2 _ _ ep⟩⟩
   ·have cn:p.nm=nm:=by
     by_cases z:p.nm=nm
     ·exact z
     ·exact absurd (by simpa using fun e=>z e) c
    exact hM _ (Same.refl _) (by rw [hpp]; simpa using cn)
  have fi:=xd6 (fun p:Pt=>decide (p.nm≠nm)) (as:=ps) (p:=fun i=>((ps[i]?).map fun p=>decide (p.nm≠nm)).getD false) (fun i p hp=>by rw [hp]; rfl)
  rw [List.length_map,ql] at ly f2
  obtain ⟨os,eo,ptO⟩:=PtsL.pick (H:=H2) (ps:=ps.filter fun p=>decide (p.nm≠nm)) (ys:=ys) (by rw [ly,fi.1]) (fun j y p hy hp=>by
   have hj:j < ((List.range ps.length).filter fun i=>((ps[i]?).map fun p=>decide (p.nm≠nm)).getD false).length:=by
    rw [← ly]
    exact (List.getElem?_eq_some_iff.mp hy).1
   obtain ⟨p',q',h1,h2,h3⟩:=f2 j y _ hy (List.getElem?_eq_getElem hj)
   rw [fi.2 j _ (List.getElem?_eq_getElem hj),hp] at h1
   cases h1
   exact ⟨q',h2,h3⟩)
  subst eo
  have s02:=s1.trans s2
  have rs1:∀ (f:Pt→Bool) (j:Nat) (p:Pt),(ps.filter fun p=>decide (p.nm≠nm))[j]?=some p→f p=true→(∀ (k:Nat) (p':Pt),k < j→(ps.filter fun p=>decide (p.nm≠nm))[k]?=some p'→f p'=false)→ps.find? (fun p=>decide (p.nm≠nm) && f p)=some p:=fun f j p hp fp no=>by
   rw [← xc4]
   exact xgp hp fp no
  have rs0:∀ (f:Pt→Bool),(∀ (k:Nat) (p':Pt),(ps.filter fun p=>decide (p.nm≠nm))[k]?=some p'→f p'=false)→ps.find? (fun p=>decide (p.nm≠nm) && f p)=none:=fun f no=>by
   rw [← xc4,List.find?_eq_none]
   intro p hp
   obtain ⟨k,hk⟩:=List.getElem?_of_mem hp
   rw [no k p hk]
   decide
  refine ⟨_,rfl,l,rfl,⟨_,SqL.of el2⟩,xbo (xs:=os.map V.ref) (Pv:=fun i σ H3=>∃ v5:Option V,σ=[some (.ref a),some (.str nm),some (.int x),some (.int y),some (.ref l),v5]∧H2=H3∧∀ (k:Nat) (p':Pt),k < i→(ps.filter fun p=>decide (p.nm≠nm))[k]?=some p'→decide (p'.x=x)=false) ⟨_,rfl,rfl,fun k p' h=>absurd h (Nat.not_lt_zero _)⟩ (fun _ _ _ _ ⟨_,_,z,_⟩=>by rw [← z]; exact SqL.of el2) ?_ ?_⟩
  ·rintro i v σ _ hv ⟨v5,rfl,rfl,no⟩
   rw [List.getElem?_map] at hv
   obtain ⟨o,ho,rfl⟩:=Option.map_eq_some_iff.mp hv
   obtain ⟨p,hpp,ep⟩:=ptO.get ho
   refine ⟨_,rfl,o,_,1,_,rfl,rfl,SqT.of ep,rfl,_,rfl,rfl,_,rfl,?_⟩
   by_cases c:p.x=x
   ·have oo:xbk ps nm x y=some (.sameColumn (.str p.nm)):=by
     unfold xbk
     rw [rs1 (fun p=>decide (p.x=x)) i p hpp (decide_eq_true c) no]
    refine ifP (decide_eq_true (by rw [c])) ⟨_,rfl,o,_,0,_,rfl,rfl,SqT.of ep,rfl,(by show 1≤1000; decide),fun e he=>⟨e,_,rfl,xg,fun dx hdx=>⟨rfl,e,t.C_c,some dx,rfl,xg,T.mk_c,hE _ oo e _ (xbj.pre s02 (xfb rfl rfl he hdx))⟩⟩⟩
   ·refine ifN (decide_eq_false fun z=>c (V.int.inj z)) ⟨_,rfl,rfl,fun k p' hk hp'=>?_⟩
    by_cases d:k=i
    ·subst d
     rw [hpp] at hp'
     cases hp'
     exact decide_eq_false c
    ·exact no k p' (by omega) hp'
  ·rintro σ _ ⟨v5,rfl,rfl,noX⟩
   have ol:=ptO.len
   have noX':∀ (k:Nat) (p':Pt),(ps.filter fun p=>decide (p.nm≠nm))[k]?=some p'→decide (p'.x=x)=false:=fun k p' hk=>noX k p' (by rw [List.length_map,ol]; exact (List.getElem?_eq_some_iff.mp hk).1) hk
   have e1:=rs0 (fun p=>decide (p.x=x)) noX'
   refine ⟨_,rfl,l,rfl,⟨_,SqL.of el2⟩,xbo (xs:=os.map V.ref) (Pv:=fun i σ H3=>∃ v5:Option V,σ=[some (.ref a),some (.str nm),some (.int x),some (.int y),some (.ref l),v5]∧H2=H3∧∀ (k:Nat) (p':Pt),k < i→(ps.filter fun p=>decide (p.nm≠nm))[k]?=some p'→decide (p'.y=y)=false) ⟨_,rfl,rfl,fun k p' h=>absurd h (Nat.not_lt_zero _)⟩ (fun _ _ _ _ ⟨_,_,z,_⟩=>by rw [← z]; exact SqL.of el2) ?_ ?_⟩
   ·rintro i v σ _ hv ⟨v5,rfl,rfl,no⟩
    rw [List.getElem?_map] at hv
    obtain ⟨o,ho,rfl⟩:=Option.map_eq_some_iff.mp hv
    obtain ⟨p,hpp,ep⟩:=ptO.get ho
    refine ⟨_,rfl,o,_,2,_,rfl,rfl,SqT.of ep,rfl,_,rfl,rfl,_,rfl,?_⟩
    by_cases c:p.y=y
    ·have oo:xbk ps nm x y=some (.sameRow (.str p.nm)):=by
      unfold xbk
      rw [e1,rs1 (fun p=>decide (p.y=y)) i p hpp (decide_eq_true c) no]
     refine ifP (decide_eq_true (by rw [c])) ⟨_,rfl,o,_,0,_,rfl,rfl,SqT.of ep,rfl,(by show 1≤1000; decide),fun e he=>⟨e,_,rfl,xg,fun dx hdx=>⟨rfl,e,t.C_t,some dx,rfl,xg,T.mk_t,hE _ oo e _ (xbj.pre s02 (xfb rfl rfl he hdx))⟩⟩⟩
    ·refine ifN (decide_eq_false fun z=>c (V.int.inj z)) ⟨_,rfl,rfl,fun k p' hk hp'=>?_⟩
     by_cases d:k=i
     ·subst d
      rw [hpp] at hp'
      cases hp'
      exact decide_eq_false c
     ·exact no k p' (by omega) hp'
   ·rintro σ _ ⟨v5,rfl,rfl,noY⟩
    have e2:=rs0 (fun p=>decide (p.y=y)) fun k p' hk=>noY k p' (by rw [List.length_map,ol]; exact (List.getElem?_eq_some_iff.mp hk).1) hk
    exact q (by unfold xbk; rw [e1,e2]) _ s02
end
end S08
set_option maxRecDepth 100000
set_option maxHeartbeats 4000000
namespace S08
open PySem L2 XL PyProof.Rows
def anyN (ps:List Pt) (nm:Str):Bool:=ps.any fun p=>decide (p.nm=nm)
def xc2 (ps:List Pt) (nm:Str):Option Er:=if anyN ps nm then none else some (.noPoint (.str nm))
theorem xe3 {ps:List Pt} {nm:Str} (h:anyN ps nm=true):xc2 ps nm=none:=by unfold xc2; rw [h]; rfl
theorem xea {ps:List Pt} {nm:Str} (h:anyN ps nm=false):xc2 ps nm=some (.noPoint (.str nm)):=by unfold xc2; rw [h]; rfl
theorem xht {ps:List Pt} {nm:Str} (h:xc2 ps nm=none):anyN ps nm=true:=by
 cases z:anyN ps nm with
 | true=>rfl
 | false=>rw [xea z] at h; cases h
theorem xfe {ps:List Pt} {nm:Str} (h:anyN ps nm=true):∃ pt,ps.find? (fun p=>decide (p.nm=nm))=some pt∧pt ∈ ps∧pt.nm=nm:=by
 obtain ⟨p,hp,e⟩:=List.any_eq_true.mp h
 cases z:ps.find? (fun p=>decide (p.nm=nm)) with
 | none=>exact absurd e (List.find?_eq_none.mp z p hp)
 | some pt=>exact ⟨pt,rfl,List.mem_of_find?_eq_some z,by simpa using List.find?_some z⟩
theorem xi7 {ps:List Pt} {nm:Str} (h:anyN ps nm=false):∀ p ∈ ps,p.nm≠nm:=fun p hp e=>by
 have:anyN ps nm=true:=List.any_eq_true.mpr ⟨p,hp,decide_eq_true e⟩
 rw [this] at h
 cases h
def xpo (t:Adr):Sp:=fun vs H Q E=>∃ (a dp do_:Addr) (pw ph:Int) (ps:List Pt) (nm:Str),vs=[.ref a,.str nm]∧Pic t H a dp do_ pw ph ps∧isNm nm=true∧Outs t H (xc2 ps nm) E (Q .non H)
def xns (t:Adr):Sp:=fun vs H Q E=>∃ (a dp do_:Addr) (pw ph:Int) (ps:List Pt) (nm:Str),vs=[.ref a,.str nm]∧Pic t H a dp do_ pw ph ps∧isNm nm=true∧Outs t H (xc2 ps nm) E (∀ H',(∀ b u,b≠dp→H b=some u→H' b=some u)→Pic t H' a dp do_ pw ph (ps.filter fun p=>decide (p.nm≠nm))→Q .non H')
def xca (ps:List Pt) (nm:Str) (x y:Int):Option Er:=if anyN ps nm then xbk ps nm x y else some (.noPoint (.str nm))
def xqe (t:Adr):Sp:=fun vs H Q E=>∃ (a dp do_:Addr) (pw ph:Int) (ps:List Pt) (nm:Str) (x y:Int),vs=[.ref a,.str nm,.int x,.int y]∧Pic t H a dp do_ pw ph ps∧(ps.map (·.nm)).Nodup∧isNm nm=true∧1≤x∧x≤pw∧1≤y∧y≤ph ∧
 Outs t H (xca ps nm x y) E (∀ H',(∀ b u,b≠dp→H b=some u→H' b=some u)→Pic t H' a dp do_ pw ph (ps.map (mvP nm x y))→Q .non H')
def xbq (ps:List Pt) (p:Pt):Option Er:=if anyN ps p.nm then some (.oldPoint (.str p.nm)) else if 12≤ps.length then some .tooMany else xbk ps p.nm p.x p.y
def xpe (t:Adr):Sp:=fun vs H Q E=>∃ (a dp do_:Addr) (pw ph:Int) (ps:List Pt) (p:Pt),vs=[.ref a,.str p.nm,.int p.x,.int p.y,.str p.sd,.int p.lo,.int p.hi]∧Pic t H a dp do_ pw ph ps∧PtOk pw ph p ∧
 Outs t H (xbq ps p) E (∀ H',(∀ b u,b≠dp→H b=some u→H' b=some u)→Pic t H' a dp do_ pw ph (ps ++ [p])→(∀ q ∈ ps,q.nm≠p.nm∧q.x≠p.x∧q.y≠p.y)→ps.length < 12→Q .non H')
def xcp (ss:List Seat) (s:Seat):Option Er:=if s ∈ ss then some (.oldSeat (.str (x6 s.1)) (.int s.2)) else none
def xc9 (ss:List Seat) (s:Seat):Option Er:=if s ∈ ss then none else some (.noSeat (.str (x6 s.1)) (.int s.2))
def xqc (t:Adr):Sp:=fun vs H Q E=>∃ (a dp do_:Addr) (pw ph:Int) (ps:List Pt) (ss:List Seat) (b:Bool) (i:Int),vs=[.ref a,.str (x6 b),.int i]∧Pic t H a dp do_ pw ph ps∧Sts H do_ ss∧1≤i∧i≤ph∧((b,i) ∉ ss→ss.length < 32) ∧
 Outs t H (xcp ss (b,i)) E (∀ H',(b,i) ∉ ss→(∀ c u,c≠do_→H c=some u→H' c=some u)→Pic t H' a dp do_ pw ph ps→Sts H' do_ (ss ++ [(b,i)])→Q .non H')
def xqk (t:Adr):Sp:=fun vs H Q E=>∃ (a dp do_:Addr) (pw ph:Int) (ps:List Pt) (ss:List Seat) (b:Bool) (i:Int),vs=[.ref a,.str (x6 b),.int i]∧Pic t H a dp do_ pw ph ps∧Sts H do_ ss∧1≤i∧i≤ph ∧
 Outs t H (xc9 ss (b,i)) E (∀ H',(b,i) ∈ ss→(∀ c u,c≠do_→H c=some u→H' c=some u)→Pic t H' a dp do_ pw ph ps→Sts H' do_ (ss.filter fun s=>decide (s≠(b,i)))→Q .non H')
section
variable {P:Program} {w:World} {K:PySem.W.Frag} {mg:Str→Option Value} {base:Heap} {t:Adr}
theorem okT_b (T:Txt w K mg t):FnOk true P w K mg base (CXo P w) 3 t.f_b t.d_b ["self", "name"] (xpo t):=by
 refine T.F_b.okx (k:=2) sc_b (fun vs H Q E h=>?_) (fun cdv A outer s H vs Q E hr h=>?_)
 ·obtain ⟨a,dp,do_,pw,ph,ps,nm,rfl,_⟩:=h
  rfl
 ·obtain ⟨a,dp,do_,pw,ph,ps,nm,rfl,h⟩:=h
  refine ⟨_,xk (xaa (PW.pt (xb7 (xbi (xau (xao (ok_a3 T) (hr.mono (by decide)) rfl T.g_a3 T.F_a3.kp T.b_a3 .nil xa1.pass (xf (pv 1) (xh))))) (xbw (xcv (xe5 (xbp hr) (pv 1) (xah (pv 0) rfl)))))) (xk (xcg (hr.hd rfl) xa1 (xc1 T.k_s (ok_aj T) (hr.mono (by decide)) rfl T.g_s T.b_aj .nil (xf (pv 1) (xh))))) (xx)),?_⟩
  obtain ⟨pic,hn,hE,q⟩:=h
  obtain ⟨⟨dx0,hp⟩,⟨kvs,hk,pl⟩,_⟩:=id pic
  refine ⟨_,rfl,nm,rfl,hn,true,rfl,iteF ?_⟩
  cases ha:anyN ps nm with
  | true =>
   obtain ⟨pt,hf,_⟩:=xfe ha
   obtain ⟨q0,e,_⟩:=pl.find hf
   exact ⟨_,rfl,_,rfl,a,_,_,_,_,rfl,hp,T.c_e,T.n_bi,lkP,dp,some (.ref q0),rfl,(by rw [← e]; exact DGet.k (k:=.inr nm) hk),false,rfl,iteF (q (xe3 ha))⟩
  | false =>
   refine ⟨_,rfl,_,rfl,a,_,_,_,_,rfl,hp,T.c_e,T.n_bi,lkP,dp,none,rfl,(by rw [← pl.no (nm:=nm) (xi7 ha)]; exact DGet.k (k:=.inr nm) hk),true,rfl,iteT ?_⟩
   exact ⟨_,rfl,(by show 1≤1000; decide),fun e he=>⟨e,_,rfl,xg,fun dx hdx=>⟨rfl,e,t.C_s,some dx,rfl,xg,T.mk_s,hE (.noPoint _) (xea ha) e _ (xfb rfl rfl he hdx)⟩⟩⟩
theorem okT_ag (T:Txt w K mg t):FnOk true P w K mg base (CXo P w) 4 t.f_ag t.d_ag ["self", "name"] (xns t):=by
 refine T.F_ag.okx (k:=3) sc_ag (fun vs H Q E h=>?_) (fun cdv A outer s H vs Q E hr h=>?_)
 ·obtain ⟨a,dp,do_,pw,ph,ps,nm,rfl,_⟩:=h
  rfl
 ·obtain ⟨a,dp,do_,pw,ph,ps,nm,rfl,h⟩:=h
  refine ⟨_,xi (xaq (xas (pv 0) T.c_e T.m_b (okT_b T) (hr.mono (by decide)) T.b_b .nil xa1.pass (xf (pv 1) (xh))))
   (xk (xaq (xl6 (xah (pv 0) rfl) (pv 1) ⟨rfl,rfl,rfl,rfl⟩))),?_⟩
  obtain ⟨pic,hn,hE,q⟩:=h
  obtain ⟨⟨dx0,hp⟩,⟨kvs,hk,pl⟩,w1,w2,h1,h2,le⟩:=id pic
  refine ⟨_,rfl,a,dx0,_,rfl,hp,xap (by decide +kernel),_,rfl,a,dp,do_,pw,ph,ps,nm,rfl,pic,hn,hE,fun out=>?_⟩
  obtain ⟨pt,hf,_⟩:=xfe (xht out)
  obtain ⟨q0,e,hq0⟩:=pl.find hf
  refine ⟨_,rfl,a,_,_,_,_,rfl,hp,T.c_e,T.n_bi,lkP,dp,rfl,.inl ⟨_,.inl hk⟩,_,rfl,kvs,.inr nm,.ref q0,hk,rfl,e,?_⟩
  have bt:∀ b u,b≠dp→H b=some u→upd H dp (.dK (xbv kvs (.inr nm))) b=some u:=fun b u nb e=>by
   rw [xl nb]
   exact e
  exact q out _ bt ⟨⟨dx0,bt _ _ (xac hp hk (fun z=>nomatch z)) hp⟩,⟨_,xg,(pl.drop nm).keep fun b xs e=>bt _ _ (xac e hk (fun z=>nomatch z)) e⟩,w1,w2,h1,h2,Nat.le_trans (List.length_filter_le _ _) le⟩
theorem okT_ah (T:Txt w K mg t):FnOk true P w K mg base (CXo P w) 4 t.f_ah t.d_ah ["self", "name", "x", "y"] (xqe t):=by
 refine T.F_ah.okx (k:=3) sc_ah (fun vs H Q E h=>?_) (fun cdv A outer s H vs Q E hr h=>?_)
 ·obtain ⟨a,dp,do_,pw,ph,ps,nm,i,j,rfl,_⟩:=h
  rfl
 ·obtain ⟨a,dp,do_,pw,ph,ps,nm,i,j,rfl,h⟩:=h
  refine ⟨_,xi (xaq (xas (pv 0) T.c_e T.m_b (okT_b T) (hr.mono (by decide)) T.b_b .nil xa1.pass (xf (pv 1) (xh))))
   (xi (xaq (xas (pv 0) T.c_e T.m_f (ok_f T) (hr.mono (by decide)) T.b_f .nil xa1.pass (xf (pv 2) (xf (pv 3) (xh)))))
   (xi (xaq (xas (pv 0) T.c_e T.m_a (okT_a T) (hr.mono (by decide)) T.b_a .nil xa1.pass (xf (pv 1) (xf (pv 2) (xf (pv 3) (xh))))))
   (xk (xd2 (xbp hr) (xah (pv 0) rfl) (pv 1) (xu xgo (xat (xf (pv 2) (xf (pv 3) (xh)))) (xef xgh (xgw (xbp hr) (xah (pv 0) rfl) (pv 1) (fun _ _=>rfl)) (xfg (xo)) xfj)) rfl)))),?_⟩
  obtain ⟨pic,nd,hn,i1,i2,j1,j2,hE,q⟩:=h
  obtain ⟨⟨dx0,hp⟩,⟨kvs,hk,pl⟩,w1,w2,h1,h2,le⟩:=id pic
  refine ⟨_,rfl,a,dx0,_,rfl,hp,xap (by decide +kernel),_,rfl,a,dp,do_,pw,ph,ps,nm,rfl,pic,hn,?_,fun out=>?_⟩
  ·intro er her e H' z
   cases ha:anyN ps nm with
   | true=>rw [xe3 ha] at her; cases her
   | false =>
    rw [xea ha] at her
    cases her
    exact hE _ (by unfold xca; rw [ha]; rfl) e H' z
  have yes:=xht out
  obtain ⟨pt,hf,hpt,ept⟩:=xfe yes
  have om:xca ps nm i j=xbk ps nm i j:=by unfold xca; rw [yes]; rfl
  refine ⟨_,rfl,a,dx0,_,rfl,hp,xap (by decide +kernel),_,rfl,_,rfl,a,dp,do_,pw,ph,ps,i,j,rfl,pic,i1,i2,j1,j2,?_⟩
  refine ⟨_,rfl,a,dx0,_,rfl,hp,xap (by decide +kernel),_,rfl,_,rfl,_,rfl,a,dp,do_,pw,ph,ps,nm,i,j,rfl,pic,fun er her e H' z=>hE er (om.trans her) e H' z,fun out3 H1 s1=>?_⟩
  obtain ⟨q0,e0,hq0⟩:=pl.find hf
  have hp1:=s1 _ _ hp
  have hk1:=s1 _ _ hk
  refine ⟨_,rfl,_,rfl,(by show 2≤sizeLine; decide),fun q1 hq1=>?_⟩
  have s2:Same H1 (upd H1 q1 (.tup [.int i,.int j])):=xm (Same.refl _) hq1
  have g2:upd H1 q1 (.tup [.int i,.int j]) q1=some (.tup [.int i,.int j]):=xg
  revert s2 g2
  generalize upd H1 q1 (.tup [.int i,.int j])=H2
  intro s2 g2
  have hp2:=s2 _ _ hp1
  have hk2:=s2 _ _ hk1
  have hq2:=s2 _ _ (s1 _ _ hq0)
  refine ⟨_,rfl,a,_,_,_,_,rfl,hp2,T.c_e,T.n_bi,lkP,_,rfl,dp,.ref q0,rfl,(by rw [← e0]; exact DGet.k (k:=.inr nm) hk2),2,rfl,q0,ptV pt,rfl,SqT.of hq2,(fun z=>absurd z.1 (by show ¬ ((2:Nat)=0); decide)),fun q3 hq3=>?_⟩
  have s3:Same H2 (upd H2 q3 (.tup [.str pt.sd,.int pt.lo,.int pt.hi])):=xm (Same.refl _) hq3
  have g3:upd H2 q3 (.tup [.str pt.sd,.int pt.lo,.int pt.hi]) q3=some (.tup [.str pt.sd,.int pt.lo,.int pt.hi]):=xg
  refine ⟨q1,q3,_,[.str pt.sd,.int pt.lo,.int pt.hi],rfl,rfl,SqT.of (s3 _ _ g2),SqT.of g3,(by simp),(by show 2 + 3≤sizeLine; decide),(fun z=>nomatch z),fun _ q4 hq4=>?_⟩
  have s4:=s3.trans (xm (o:=.tup (ptV { pt with x:=i,y:=j })) (Same.refl _) hq4)
  have g4:upd (upd H2 q3 (.tup [.str pt.sd,.int pt.lo,.int pt.hi])) q4 (.tup (ptV { pt with x:=i,y:=j })) q4=some (.tup (ptV { pt with x:=i,y:=j })):=xg
  change _ at g4
  have hp4:=s4 _ _ hp2
  have hk4:=s4 _ _ hk2
  refine ⟨_,rfl,a,_,_,_,_,rfl,hp4,T.c_e,T.n_bi,lkP,_,rfl,dp,_,rfl,DPut.k (k:=.inr nm) hk4 (Nat.lt_trans (by have:=pl.len; omega:kvs.length < 13) (by decide)),?_⟩
  have ek:putK kvs (.inr nm) (.ref q4)=kvs.map fun kv=>if kv.1=.inr nm then (kv.1,.ref q4) else kv:=by
   unfold putK
   rw [xds,e0]
   rfl
  rw [ek]
  have s04:=s1.trans (s2.trans s4)
  have bt:∀ b u,b≠dp→H b=some u→upd (upd (upd H2 q3 (.tup [.str pt.sd,.int pt.lo,.int pt.hi])) q4 (.tup (ptV { pt with x:=i,y:=j }))) dp (.dK (kvs.map fun kv=>if kv.1=.inr nm then (kv.1,.ref q4) else kv)) b=some u:=fun b u nb e=>by
   rw [xl nb]
   exact s04 _ _ e
  refine q (om.trans out3) _ bt ⟨⟨dx0,bt _ _ (xac hp hk (fun z=>nomatch z)) hp⟩,⟨_,xg,pl.mv (fun b xs e=>bt _ _ (xac e hk (fun z=>nomatch z)) e) fun p hp' ep=>?_⟩,w1,w2,h1,h2,by rw [List.length_map]; exact le⟩
  rw [xot nd hp' hpt (ep.trans ept.symm),xl (Ne.symm (xn (s3 _ _ hk2) hq4))]
  exact g4
theorem okT_p (T:Txt w K mg t):FnOk true P w K mg base (CXo P w) 4 t.f_p t.d_p ["self", "name", "x", "y", "sides", "low", "high"] (xpe t):=by
 refine T.F_p.okx (k:=3) sc_p (fun vs H Q E h=>?_) (fun cdv A outer s H vs Q E hr h=>?_)
 ·obtain ⟨a,dp,do_,pw,ph,ps,p,rfl,_⟩:=h
  rfl
 ·obtain ⟨a,dp,do_,pw,ph,ps,p,rfl,h⟩:=h
  refine ⟨_,xi (xae (i:=7) sc_p.nd rfl (Or.inl rfl) (xh5 (x8 xkd (pv 6) (xk8) (xab _)) (xah (pv 0) rfl) (pv 6)))
   (xi (xaa (xbi (xau (xao (ok_a3 T) (hr.mono (by decide)) rfl T.g_a3 T.F_a3.kp T.b_a3 .nil xa1.pass (xf (pv 1) (xh))))) (xk (xa9)) (xx))
   (xi (xaq (xas (pv 0) T.c_e T.m_f (ok_f T) (hr.mono (by decide)) T.b_f .nil xa1.pass (xf (pv 2) (xf (pv 3) (xh)))))
   (xi (xaa (PW.pt (xb7 (xbi (xau (xaj xax rfl T.n_isinstance boot_isinstance (xf (pv 4) (xf (xc0 (v:=.ty "str") rfl T.n_str boot_str rfl) (xh)))))) (xbw (xcv (xg3 (pv 4) rfl T.g_a2 T.D_a2))))) (xk (xa9)) (xx))
   (xi (xaa (PW.pt (xb7 (xbi (xau (xao (ok_am T) (hr.mono (by decide)) rfl T.g_am T.F_am.kp T.b_am .nil xa1.pass (xf (pv 5) (xf (xo) (xf (xah (pv 0) rfl) (xh))))))) (xbw (xbi (xau (xao (ok_am T) (hr.mono (by decide)) rfl T.g_am T.F_am.kp T.b_am .nil xa1.pass (xf (pv 7) (xf (pv 5) (xf (xah (pv 0) rfl) (xh)))))))))) (xk (xa9)) (xx))
   (xi (xaa (xcv (xe4 (xbp hr) (pv 1) (xah (pv 0) rfl))) (xk (xcg (hr.hd rfl) xa1 (xc1 T.k_h (ok_ad T) (hr.mono (by decide)) rfl T.g_h T.b_ad .nil (xf (pv 1) (xh))))) (xx))
   (xi (xaa (x8 xmn (xaj xg2 rfl T.n_len boot_len (xf (xah (pv 0) rfl) (xh))) (xay (v:=.int 12) rfl T.v_co.choose_spec ⟨_,rfl⟩) (xab _)) (xk (xcg (hr.hd rfl) xa1 (xm7 T.mk_r T.ns_r T.ns_fk rfl T.g_r))) (xx))
   (xi (xaq (xas (pv 0) T.c_e T.m_a (okT_a T) (hr.mono (by decide)) T.b_a .nil xa1.pass (xf (pv 1) (xf (pv 2) (xf (pv 3) (xh))))))
   (xk (xd2 (xbp hr) (xah (pv 0) rfl) (pv 1) (xat (xf (pv 2) (xf (pv 3) (xf (pv 4) (xf (pv 5) (xf (pv 7) (xh))))))) rfl))))))))),?_⟩
  obtain ⟨pic,po,hE,q⟩:=h
  obtain ⟨⟨dx0,hp⟩,⟨kvs,hk,pl⟩,_⟩:=id pic
  have hsd':(valV ([(Sum.inr "left",V.str "right"),(Sum.inr "right",V.str "left"),(Sum.inr "both",V.str "both")]:List (Key × V)) (Sum.inr p.sd)).isSome=true:=by
   rcases po.sd with e | e | e <;> rw [e] <;> decide +kernel
  refine ⟨_,rfl,rfl,_,rfl,ifN (by rfl) ⟨_,rfl,?_⟩⟩
  refine ⟨_,rfl,p.nm,rfl,po.nm,true,rfl,iteF ?_⟩
  refine ⟨_,rfl,a,dx0,_,rfl,hp,xap (by decide +kernel),_,rfl,_,rfl,a,dp,do_,pw,ph,ps,p.x,p.y,rfl,pic,po.x1,po.x2,po.y1,po.y2,?_⟩
  refine ⟨_,rfl,_,_,rfl,.inl ⟨_,_,true,.str _,rfl,xci,true,rfl,iteF ?_⟩⟩
  have l1:=po.l1
  have l2:=po.l2
  have l3:=po.l3
  refine ⟨_,rfl,.inr p.sd,rfl,false,(by rw [hsd']; rfl),iteF ?_⟩
  refine ⟨_,rfl,_,rfl,a,_,_,_,_,rfl,hp,T.c_e,T.n_bk,lkH,p.lo,1,ph,rfl,l1,(by omega),true,rfl,iteF ⟨_,rfl,_,rfl,_,rfl,a,_,_,_,_,rfl,hp,T.c_e,T.n_bk,lkH,p.hi,p.lo,ph,rfl,(by omega),(by omega),true,rfl,iteF ?_⟩⟩
  have kl:=pl.len
  cases ha:anyN ps p.nm with
  | true =>
   obtain ⟨pt,hf,_⟩:=xfe ha
   obtain ⟨q0,e,_⟩:=pl.find hf
   have oo:xbq ps p=some (.oldPoint (.str p.nm)):=by unfold xbq; rw [ha]; rfl
   refine ⟨_,rfl,_,rfl,a,_,_,_,_,rfl,hp,T.c_e,T.n_bi,lkP,dp,some (.ref q0),rfl,(by rw [← e]; exact DGet.k (k:=.inr p.nm) hk),true,rfl,iteT ?_⟩
   exact ⟨_,rfl,(by show 1≤1000; decide),fun e he=>⟨e,_,rfl,xg,fun dx hdx=>⟨rfl,e,t.C_h,some dx,rfl,xg,T.mk_h,hE (.oldPoint _) (oo) e _ (xfb rfl rfl he hdx)⟩⟩⟩
  | false =>
   have noN:=xi7 ha
   have hh':¬ (anyN ps p.nm=true):=by rw [ha]; decide
   refine ⟨_,rfl,_,rfl,a,_,_,_,_,rfl,hp,T.c_e,T.n_bi,lkP,dp,none,rfl,(by rw [← pl.no (nm:=p.nm) noN]; exact DGet.k (k:=.inr p.nm) hk),false,rfl,iteF ?_⟩
   refine ⟨_,rfl,a,_,_,_,_,rfl,hp,T.c_e,T.n_bi,lkP,dp,kvs,rfl,hk,_,_,rfl,rfl,_,rfl,?_⟩
   by_cases c12:12≤ps.length
   ·have oo:xbq ps p=some .tooMany:=by
     unfold xbq
     rw [if_neg hh',if_pos c12]
    exact ifP (decide_eq_true (by omega)) fun e he=>⟨e,t.C_r,none,rfl,xg,T.mk_r,hE (.tooMany) (oo) e _ (xno rfl rfl he)⟩
   ·have om:xbq ps p=xbk ps p.nm p.x p.y:=by
     unfold xbq
     rw [if_neg hh',if_neg c12]
    refine ifN (decide_eq_false (by omega)) ?_
    refine ⟨_,rfl,a,dx0,_,rfl,hp,xap (by decide +kernel),_,rfl,_,rfl,_,rfl,a,dp,do_,pw,ph,ps,p.nm,p.x,p.y,rfl,pic,fun er her e H' z=>hE er (om.trans her) e H' z,fun out3 H1 s1=>?_⟩
    have cl:=xga out3
    refine ⟨_,rfl,_,rfl,_,rfl,_,rfl,_,rfl,(by show 5≤sizeLine; decide),fun q1 hq1=>?_⟩
    have s2:Same H1 (upd H1 q1 (.tup [.int p.x,.int p.y,.str p.sd,.int p.lo,.int p.hi])):=xm (Same.refl _) hq1
    have g2:upd H1 q1 (.tup [.int p.x,.int p.y,.str p.sd,.int p.lo,.int p.hi]) q1=some (.tup [.int p.x,.int p.y,.str p.sd,.int p.lo,.int p.hi]):=xg
    revert s2 g2
    generalize upd H1 q1 (.tup [.int p.x,.int p.y,.str p.sd,.int p.lo,.int p.hi])=H2
    intro s2 g2
    have s02:=s1.trans s2
    have hp1:=s02 _ _ hp
    have hk1:=s02 _ _ hk
    refine ⟨_,rfl,a,_,_,_,_,rfl,hp1,T.c_e,T.n_bi,lkP,_,rfl,dp,_,rfl,DPut.k (k:=.inr p.nm) hk1 (Nat.lt_trans (by omega:kvs.length < 12) (by decide)),?_⟩
    rw [xdp (.ref q1) (pl.no (nm:=p.nm) noN)]
    have bt:∀ b u,b≠dp→H2 b=some u→upd H2 dp (.dK (kvs ++ [(.inr p.nm,.ref q1)])) b=some u:=fun b u nb e=>by
     rw [xl nb]
     exact e
    refine q (om.trans out3) _ (fun b u nb e=>bt _ _ nb (s02 _ _ e)) ⟨⟨dx0,bt _ _ (xac hp1 hk1 (fun z=>nomatch z)) hp1⟩,⟨_,xg,Pl.snoc (p:=p) (pl.keep (fun b xs e=>bt _ _ (xac e hk (fun z=>nomatch z)) (s02 _ _ e))) (bt _ _ (xac g2 hk1 (fun z=>nomatch z)) g2)⟩,pic.w1,pic.w2,pic.h1,pic.h2,(by rw [List.length_append]; exact (by omega:ps.length + 1≤12))⟩ (fun p' hp0=>⟨noN p' hp0,cl p' hp0 (noN p' hp0)⟩) (by omega)
theorem okT_g (T:Txt w K mg t):FnOk true P w K mg base (CXo P w) 5 t.f_g t.d_g ["self", "side", "row"] (xqc t):=by
 refine T.F_g.okx (k:=4) sc_g (fun vs H Q E h=>?_) (fun cdv A outer s H vs Q E hr h=>?_)
 ·obtain ⟨a,dp,do_,pw,ph,ps,ss,b,i,rfl,_⟩:=h
  rfl
 ·obtain ⟨a,dp,do_,pw,ph,ps,ss,b,i,rfl,h⟩:=h
  refine ⟨_,xi (xaq (xas (pv 0) T.c_e T.m_d (ok_d T) (hr.mono (by decide)) T.b_d .nil xa1.pass (xf (pv 1) (xf (pv 2) (xh)))))
   (xi (xaa (xcv (xe4 (xbp hr) (xat (xf (pv 1) (xf (pv 2) (xh)))) (xah (pv 0) rfl))) (xk (xcg (hr.hd rfl) xa1 (xc1 T.k_o (ok_al T) (hr.mono (by decide)) rfl T.g_o T.b_al .nil (xf (pv 1) (xf (pv 2) (xh)))))) (xx))
   (xk (xd2 (xbp hr) (xah (pv 0) rfl) (xat (xf (pv 1) (xf (pv 2) (xh)))) (xdv) rfl))),?_⟩
  obtain ⟨pic,st,i1,i2,full,hE,q⟩:=h
  obtain ⟨⟨dx0,hp⟩,_,_⟩:=id pic
  obtain ⟨kvs,hk,ek,nd,l32⟩:=id st
  refine ⟨_,rfl,a,dx0,_,rfl,hp,xap (by decide +kernel),_,rfl,_,rfl,a,dp,do_,pw,ph,ps,b,i,rfl,pic,i1,i2,fun H1 s1=>?_⟩
  refine ⟨_,rfl,_,rfl,(by show 2≤sizeLine; decide),fun q1 hq1=>?_⟩
  have s2:Same H1 (upd H1 q1 (.tup [.str (x6 b),.int i])):=xm (Same.refl _) hq1
  have g2:upd H1 q1 (.tup [.str (x6 b),.int i]) q1=some (.tup [.str (x6 b),.int i]):=xg
  revert s2 g2
  generalize upd H1 q1 (.tup [.str (x6 b),.int i])=H2
  intro s2 g2
  have hk2:=s2 _ _ (s1 _ _ hk)
  have hp2:=s2 _ _ (s1 _ _ hp)
  by_cases c:(b,i) ∈ ss
  ·obtain ⟨v,hv⟩:=xgm ek c
   have oo:xcp ss (b,i)=some (.oldSeat (.str (x6 b)) (.int i)):=if_pos c
   refine ⟨_,rfl,a,_,_,_,_,rfl,hp2,T.c_e,T.n_bm,lkO,do_,some v,rfl,(by rw [← hv]; exact DGet.t (k:=xai (b,i)) hk2 g2),true,rfl,iteT ?_⟩
   exact ⟨_,rfl,_,rfl,(by show 2≤1000; decide),fun e he=>⟨e,_,_,rfl,xg,fun dx hdx=>⟨rfl,e,t.C_o,some dx,rfl,xja hdx,T.mk_o,hE (.oldSeat _ _) (oo) e _ (xbj.pre (s1.trans s2) (xjp rfl rfl he hdx))⟩⟩⟩
  ·have oo:xcp ss (b,i)=none:=if_neg c
   have n0:valV kvs (xai (b,i))=none:=xf7 ek c
   refine ⟨_,rfl,a,_,_,_,_,rfl,hp2,T.c_e,T.n_bm,lkO,do_,none,rfl,(by rw [← n0]; exact DGet.t (k:=xai (b,i)) hk2 g2),false,rfl,iteF ?_⟩
   refine ⟨_,rfl,a,_,_,_,_,rfl,hp2,T.c_e,T.n_bm,lkO,_,rfl,_,rfl,(by show 2≤sizeLine; decide),fun q3 hq3=>?_⟩
   have s3:Same H2 (upd H2 q3 (.tup [.str (x6 b),.int i])):=xm (Same.refl _) hq3
   have g3:upd H2 q3 (.tup [.str (x6 b),.int i]) q3=some (.tup [.str (x6 b),.int i]):=xg
   revert s3 g3
   generalize upd H2 q3 (.tup [.str (x6 b),.int i])=H3
   intro s3 g3
   have kl:kvs.length=ss.length:=by
    have:=congrArg List.length ek
    simpa using this
   have lt:=full c
   refine ⟨do_,_,rfl,DPut.t (k:=xai (b,i)) (s3 _ _ hk2) g3 (Nat.lt_trans (by omega:kvs.length < 33) (by decide)),?_⟩
   have bt:∀ c u,c≠do_→H c=some u→upd H3 do_ (.dT (putK kvs (xai (b,i)) (.bl true))) c=some u:=fun c u nc e=>by
    rw [xl nc]
    exact s3 _ _ (s2 _ _ (s1 _ _ e))
   refine q oo _ c bt (Pic.but hk bt pic) ⟨_,xg,?_,?_,?_⟩
   ·rw [xdp _ n0,List.map_append,List.map_append,ek]
    rfl
   ·rw [List.nodup_append]
    exact ⟨nd,by simp,fun x hx y hy=>by rw [List.mem_singleton.mp hy]; exact fun e=>c (e ▸ hx)⟩
   ·rw [List.length_append]
    show ss.length + 1≤32
    omega
theorem okT_k (T:Txt w K mg t):FnOk true P w K mg base (CXo P w) 5 t.f_k t.d_k ["self", "side", "row"] (xqk t):=by
 refine T.F_k.okx (k:=4) sc_k (fun vs H Q E h=>?_) (fun cdv A outer s H vs Q E hr h=>?_)
 ·obtain ⟨a,dp,do_,pw,ph,ps,ss,b,i,rfl,_⟩:=h
  rfl
 ·obtain ⟨a,dp,do_,pw,ph,ps,ss,b,i,rfl,h⟩:=h
  refine ⟨_,xi (xaq (xas (pv 0) T.c_e T.m_d (ok_d T) (hr.mono (by decide)) T.b_d .nil xa1.pass (xf (pv 1) (xf (pv 2) (xh)))))
   (xi (xaa (xcv (xe5 (xbp hr) (xat (xf (pv 1) (xf (pv 2) (xh)))) (xah (pv 0) rfl))) (xk (xcg (hr.hd rfl) xa1 (xc1 T.k_ab (ok_ao T) (hr.mono (by decide)) rfl T.g_ab T.b_ao .nil (xf (pv 1) (xf (pv 2) (xh)))))) (xx))
   (xk (xaq (xme (xbp hr) (xah (pv 0) rfl) (xat (xf (pv 1) (xf (pv 2) (xh)))) ⟨rfl,rfl,rfl,rfl⟩)))),?_⟩
  obtain ⟨pic,st,i1,i2,hE,q⟩:=h
  obtain ⟨⟨dx0,hp⟩,_,_⟩:=id pic
  obtain ⟨kvs,hk,ek,nd,l32⟩:=id st
  refine ⟨_,rfl,a,dx0,_,rfl,hp,xap (by decide +kernel),_,rfl,_,rfl,a,dp,do_,pw,ph,ps,b,i,rfl,pic,i1,i2,fun H1 s1=>?_⟩
  refine ⟨_,rfl,_,rfl,(by show 2≤sizeLine; decide),fun q1 hq1=>?_⟩
  have s2:Same H1 (upd H1 q1 (.tup [.str (x6 b),.int i])):=xm (Same.refl _) hq1
  have g2:upd H1 q1 (.tup [.str (x6 b),.int i]) q1=some (.tup [.str (x6 b),.int i]):=xg
  revert s2 g2
  generalize upd H1 q1 (.tup [.str (x6 b),.int i])=H2
  intro s2 g2
  have hk2:=s2 _ _ (s1 _ _ hk)
  have hp2:=s2 _ _ (s1 _ _ hp)
  by_cases c:(b,i) ∈ ss
  ·obtain ⟨v,hv⟩:=xgm ek c
   have oo:xc9 ss (b,i)=none:=if_pos c
   refine ⟨_,rfl,a,_,_,_,_,rfl,hp2,T.c_e,T.n_bm,lkO,do_,some v,rfl,(by rw [← hv]; exact DGet.t (k:=xai (b,i)) hk2 g2),false,rfl,iteF ?_⟩
   refine ⟨_,rfl,a,_,_,_,_,rfl,hp2,T.c_e,T.n_bm,lkO,do_,rfl,.inr ⟨_,.inl hk2⟩,_,rfl,_,rfl,(by show 2≤sizeLine; decide),fun q3 hq3=>?_⟩
   have s3:Same H2 (upd H2 q3 (.tup [.str (x6 b),.int i])):=xm (Same.refl _) hq3
   have g3:upd H2 q3 (.tup [.str (x6 b),.int i]) q3=some (.tup [.str (x6 b),.int i]):=xg
   revert s3 g3
   generalize upd H2 q3 (.tup [.str (x6 b),.int i])=H3
   intro s3 g3
   refine ⟨kvs,xai (b,i),q3,v,s3 _ _ hk2,rfl,g3,hv,?_⟩
   have bt:∀ c u,c≠do_→H c=some u→upd H3 do_ (.dT (xbv kvs (xai (b,i)))) c=some u:=fun c u nc e=>by
    rw [xl nc]
    exact s3 _ _ (s2 _ _ (s1 _ _ e))
   exact q oo _ c bt (Pic.but hk bt pic) ⟨_,xg,xlp ek,nd.filter _,Nat.le_trans (List.length_filter_le _ _) l32⟩
  ·have oo:xc9 ss (b,i)=some (.noSeat (.str (x6 b)) (.int i)):=if_neg c
   have n0:valV kvs (xai (b,i))=none:=xf7 ek c
   refine ⟨_,rfl,a,_,_,_,_,rfl,hp2,T.c_e,T.n_bm,lkO,do_,none,rfl,(by rw [← n0]; exact DGet.t (k:=xai (b,i)) hk2 g2),true,rfl,iteT ?_⟩
   exact ⟨_,rfl,_,rfl,(by show 2≤1000; decide),fun e he=>⟨e,_,_,rfl,xg,fun dx hdx=>⟨rfl,e,t.C_ab,some dx,rfl,xja hdx,T.mk_ab,hE (.noSeat _ _) (oo) e _ (xbj.pre (s1.trans s2) (xjp rfl rfl he hdx))⟩⟩⟩
end
end S08
set_option maxRecDepth 100000
set_option maxHeartbeats 4000000
namespace S08
open PySem L2 XL PyProof.Rows
def xb0 (p:Pt) (s:Seat):Bool:=(decide (p.sd="both") || decide (p.sd=x6 s.1)) && (decide (p.lo≤s.2) && decide (s.2≤p.hi))
theorem xf3 (sd w:Str):inV (.str sd) [.str "both",.str w]=(decide (sd="both") || decide (sd=w)):=by
 have e:∀ a b:Str,(a == b)=decide (b=a):=fun a b=>by
  rw [Bool.eq_iff_iff,beq_iff_eq,decide_eq_true_iff]
  exact eq_comm
 show ((("both":Str) == sd) || ((w == sd) || false))=_
 rw [Bool.or_false,e,e]
def xcr (s2:List Seat) (p:Pt) (i:Nat):Bool:=match s2[i]? with | some s=>xb0 p s | none=>false
theorem xda {s2:List Seat} {p:Pt} {s:Seat} {i:Nat} (h:s2[i]?=some s):xcr s2 p i=xb0 p s:=by
 unfold xcr
 rw [h]
def xop (t:Adr):Sp:=fun vs H Q _=>∃ (a dp do_:Addr) (pw ph:Int) (ps:List Pt) (ss:List Seat) (pt:Pt) (b:Bool) (i:Int),vs=[.ref a,.str pt.nm,.str (x6 b),.int i]∧Pic t H a dp do_ pw ph ps∧Sts H do_ ss∧isNm pt.nm=true∧ps.find? (fun p=>decide (p.nm=pt.nm))=some pt∧1≤i∧i≤ph∧∀ H',Same H H'→Q (.bl (decide ((b,i) ∈ ss) && xb0 pt (b,i))) H'
def xob (t:Adr):Sp:=fun vs H Q _=>∃ (a dp do_:Addr) (pw ph:Int) (ps:List Pt) (ss:List Seat) (pt:Pt),vs=[.ref a,.str pt.nm]∧Pic t H a dp do_ pw ph ps∧Sts H do_ ss∧SsOk ph ss∧isNm pt.nm=true∧ps.find? (fun p=>decide (p.nm=pt.nm))=some pt ∧
 ∀ (H':Hp) (l:Addr) (srt:List Seat) (rs:List Addr),Same H H'→srt.Perm ss→srt.Pairwise xb2→H' l=some (.lst (rs.map V.ref))→xam H' (srt.filter (xb0 pt)) rs→Q (.ref l) H'
section
variable {P:Program} {w:World} {K:PySem.W.Frag} {mg:Str→Option Value} {base:Heap} {t:Adr}
theorem ok_af (T:Txt w K mg t):FnOk true P w K mg base (CXo P w) 5 t.f_af t.d_af ["self", "name", "side", "row"] (xop t):=by
 refine T.F_af.okn (k:=4) sc_af (fun vs H Q E h=>?_) (fun cdv A outer s H vs Q E hr h=>?_)
 ·obtain ⟨a,dp,do_,pw,ph,ps,ss,pt,b,i,rfl,_⟩:=h
  rfl
 ·obtain ⟨a,dp,do_,pw,ph,ps,ss,pt,b,i,rfl,h⟩:=h
  refine ⟨_,xi (xaq (xas (pv 0) T.c_e T.m_b (ok_b T) (hr.mono (by decide)) T.b_b .nil xp (xf (pv 1) (xh))))
   (xi (xaq (xas (pv 0) T.c_e T.m_d (ok_d T) (hr.mono (by decide)) T.b_d .nil xp (xf (pv 2) (xf (pv 3) (xh)))))
   (xi (xbx (xgw (xbp hr) (xah (pv 0) rfl) (pv 1) (fun _ _=>rfl)) (xbn rfl (xv (xq (i:=4) sc_af.nd rfl (Or.inl rfl)) (xv (xq (i:=5) sc_af.nd rfl (Or.inl rfl)) (xv (xq (i:=6) sc_af.nd rfl (Or.inl rfl)) (xv (xq (i:=7) sc_af.nd rfl (Or.inl rfl)) (xv (xq (i:=8) sc_af.nd rfl (Or.inl rfl)) (xa7))))))))
   (xk (xaf (xdn (xn3 (xe4 (xbp hr) (xat (xf (pv 2) (xf (pv 3) (xh)))) (xah (pv 0) rfl))) (xdn (xdg xg0 (pv 6) (xat (xf (x4) (xf (pv 2) (xh)))) (by rfl)) (xgd (xft xff xff (pv 7) (pv 3) (pv 8))))))))),?_⟩
  obtain ⟨pic,st,hn,hf,i1,i2,q⟩:=h
  obtain ⟨⟨dx0,hp⟩,⟨kvs,hk,pl⟩,_⟩:=id pic
  refine ⟨_,rfl,a,dx0,_,rfl,hp,xap (by decide +kernel),_,rfl,a,dp,do_,pw,ph,ps,pt.nm,pt,rfl,pic,hn,hf,?_⟩
  refine ⟨_,rfl,a,dx0,_,rfl,hp,xap (by decide +kernel),_,rfl,_,rfl,a,dp,do_,pw,ph,ps,b,i,rfl,pic,i1,i2,fun H1 s1=>?_⟩
  obtain ⟨q0,e0,hq0⟩:=pl.find hf
  have hp1:=s1 _ _ hp
  have hk1:=s1 _ _ hk
  refine ⟨_,rfl,a,_,_,_,_,rfl,hp1,T.c_e,T.n_bi,lkP,_,rfl,dp,.ref q0,rfl,(by rw [← e0]; exact DGet.k (k:=.inr pt.nm) hk1),q0,_,rfl,SqT.of (s1 _ _ hq0),rfl,_,_,rfl,_,_,rfl,_,_,rfl,_,_,rfl,_,_,rfl,rfl,?_⟩
  refine ⟨_,rfl,_,rfl,(by show 2≤sizeLine; decide),fun q1 hq1=>?_⟩
  have s2:Same H1 (upd H1 q1 (.tup [.str (x6 b),.int i])):=xm (Same.refl _) hq1
  have g2:upd H1 q1 (.tup [.str (x6 b),.int i]) q1=some (.tup [.str (x6 b),.int i]):=xg
  revert s2 g2
  generalize upd H1 q1 (.tup [.str (x6 b),.int i])=H2
  intro s2 g2
  have hp2:=s2 _ _ hp1
  have s02:=s1.trans s2
  obtain ⟨ko,hko,ek,nd,l32⟩:=id st
  have hko2:=s02 _ _ hko
  have qq:=q
  by_cases cin:(b,i) ∈ ss
  ·obtain ⟨v,hv⟩:=xgm ek cin
   refine ⟨_,rfl,a,_,_,_,_,rfl,hp2,T.c_e,T.n_bm,lkO,do_,some v,rfl,(by rw [← hv]; exact DGet.t (k:=xai (b,i)) hko2 g2),true,rfl,iteT ?_⟩
   refine ⟨_,rfl,_,rfl,(by show 2≤sizeLine; decide),fun q3 hq3=>?_⟩
   have s3:Same H2 (upd H2 q3 (.tup [.str "both",.str (x6 b)])):=xm (Same.refl _) hq3
   have g3:upd H2 q3 (.tup [.str "both",.str (x6 b)]) q3=some (.tup [.str "both",.str (x6 b)]):=xg
   revert s3 g3
   generalize upd H2 q3 (.tup [.str "both",.str (x6 b)])=H3
   intro s3 g3
   have z:=qq H3 (s02.trans s3)
   rw [decide_eq_true cin,Bool.true_and] at z
   unfold xb0 at z
   refine ⟨q3,_,rfl,.inr (SqT.of g3),rfl,rfl,_,rfl,ite2 (fun c=>?_) (fun c=>?_)⟩
   ·rw [if_neg (by decide),xf3] at c
    dsimp only at z
    rw [c,Bool.true_and] at z
    refine ⟨_,rfl,_,rfl,_,_,rfl,rfl,_,rfl,ite2 (fun c2=>?_) (fun c2=>?_)⟩
    ·rw [c2,Bool.true_and] at z
     exact ⟨_,rfl,_,_,rfl,rfl,z⟩
    ·rw [Bool.eq_false_iff.mpr c2,Bool.false_and] at z
     exact z
   ·rw [if_neg (by decide),xf3] at c
    dsimp only at z
    rw [Bool.eq_false_iff.mpr c,Bool.false_and] at z
    exact z
  ·have n0:valV ko (xai (b,i))=none:=xf7 ek cin
   have z:=qq H2 s02
   rw [decide_eq_false cin,Bool.false_and] at z
   exact ⟨_,rfl,a,_,_,_,_,rfl,hp2,T.c_e,T.n_bm,lkO,do_,none,rfl,(by rw [← n0]; exact DGet.t (k:=xai (b,i)) hko2 g2),false,rfl,iteF z⟩
theorem ok_j (T:Txt w K mg t):FnOk true P w K mg base (CXo P w) 6 t.f_j t.d_j ["self", "name"] (xob t):=by
 refine T.F_j.okn (k:=5) sc_j (fun vs H Q E h=>?_) (fun cdv A outer s H vs Q E hr h=>?_)
 ·obtain ⟨a,dp,do_,pw,ph,ps,ss,pt,rfl,_⟩:=h
  rfl
 ·obtain ⟨a,dp,do_,pw,ph,ps,ss,pt,rfl,h⟩:=h
  refine ⟨_,xi (xaq (xas (pv 0) T.c_e T.m_b (ok_b T) (hr.mono (by decide)) T.b_b .nil xp (xf (pv 1) (xh))))
   (xk (xaf (xby rfl (xbf (zs:=["side", "row"]) (ys:=["name", "self"]) (fr:=[1,0]) (N0:=["self", "name"]) (sc0:=xj s_j) (by decide +kernel) rfl rfl rfl) (xa0 (xa8 (pv 0) T.c_e T.m_q (ok_q T) (hr.mono (by decide)) T.b_q .nil xp)) (fun _ _ _ _ _ ow nd=>(xbn rfl (xv (xq (i:=0) nd rfl (Or.inl (ow _ (by simp))) (Or.inr (ow _ (by simp)))) (xv (xq (i:=1) nd rfl (Or.inl (ow _ (by simp))) (Or.inr (ow _ (by simp)))) (xa7))):PG _ _ (gTup K 2 _))) (xcm (xar (by decide) (xar (by decide) (xb4)))) (fun _ _ _ _ _=>xdi (xau (xas (pv 3) T.c_e T.m_af (ok_af T) (hr.mono (by decide)) T.b_af .nil xp (xf (pv 2) (xf (pv 0) (xf (pv 1) (xh))))))) (fun _ _ _ _ _=>xat (xf (pv 0) (xf (pv 1) (xh))))))),?_⟩
  obtain ⟨pic,st,sok,hn,hf,q⟩:=h
  obtain ⟨⟨dx0,hp⟩,_,_⟩:=id pic
  refine ⟨_,rfl,a,dx0,_,rfl,hp,xap (by decide +kernel),_,rfl,a,dp,do_,pw,ph,ps,pt.nm,pt,rfl,pic,hn,hf,?_⟩
  refine ⟨_,rfl,a,dx0,_,rfl,hp,xap (by decide +kernel),a,dp,do_,pw,ph,ps,ss,rfl,pic,st,fun l1 srt qs1 fr1 sl1 pm1 pw1=>?_⟩
  have s1:Same H (upd H l1 (.lst (qs1.map V.ref))):=xm (Same.refl _) fr1
  have g1:upd H l1 (.lst (qs1.map V.ref)) l1=some (.lst (qs1.map V.ref)):=xg
  revert s1 g1
  generalize upd H l1 (.lst (qs1.map V.ref))=H1
  intro s1 g1
  have sl1':=sl1.keep (Same.tups s1)
  have ql:=sl1.len
  have sl32:srt.length≤32:=by rw [pm1.length_eq]; exact sok.2.1
  refine ⟨l1,rfl,⟨_,SqL.of g1⟩,fun l2 hl2=>?_⟩
  refine xb8 (SqL.of g1) (by rw [List.length_map]; exact Nat.lt_trans (by omega:qs1.length < 33) (by decide)) hl2 (xcr srt pt) (fun i y H=>∃ s q,srt[i]?=some s∧y=.ref q∧H q=some (.tup (xbu s))) (fun i y H H' tp ⟨s,q,e1,e2,e3⟩=>⟨s,q,e1,e2,tp _ _ e3⟩) (fun i x H4 hx s4 N M hN hM=>?_) (fun ys H4 s4 el4 ly f4=>?_)
  ·rw [List.getElem?_map] at hx
   obtain ⟨o,ho,rfl⟩:=Option.map_eq_some_iff.mp hx
   obtain ⟨s0,hs0,ep⟩:=sl1'.get ho
   have s04:=s1.trans s4
   have min:s0 ∈ ss:=pm1.mem_iff.mp (List.mem_of_getElem? hs0)
   obtain ⟨sr1,sr2⟩:=sok.2.2 s0 min
   refine ⟨o,_,rfl,SqT.of (s4 _ _ ep),rfl,_,_,rfl,_,_,rfl,rfl,?_⟩
   refine ⟨_,rfl,a,dx0,_,rfl,s04 _ _ hp,xap (by decide +kernel),_,rfl,_,rfl,_,rfl,a,dp,do_,pw,ph,ps,ss,pt,s0.1,s0.2,rfl,Pic.same s04 pic,st.same s04,hn,hf,sr1,sr2,fun H5 s5=>?_⟩
   ·refine ⟨_,rfl,ite2 (fun c=>?_) (fun c=>?_)⟩
    ·rw [decide_eq_true (show (s0.1,s0.2) ∈ ss from min),Bool.true_and] at c
     refine ⟨_,rfl,_,rfl,(by show 2≤sizeLine; decide),fun q6 hq6=>?_⟩
     exact hN _ _ (s5.trans (xm (Same.refl _) hq6)) (by rw [xda hs0]; exact c) ⟨s0,q6,hs0,rfl,xg⟩
    ·rw [decide_eq_true (show (s0.1,s0.2) ∈ ss from min),Bool.true_and] at c
     exact hM _ s5 (by rw [xda hs0]; exact Bool.eq_false_iff.mpr c)
  ·have fi:=xd6 (xb0 pt) (as:=srt) (p:=xcr srt pt) (fun i s hs=>xda hs)
   rw [List.length_map,ql] at ly f4
   obtain ⟨rs4,e4,sts4⟩:=xam.pick (H:=H4) (ss:=srt.filter (xb0 pt)) (ys:=ys) (by rw [ly,fi.1]) (fun j y s hy hs=>by
    have hj:j < ((List.range srt.length).filter (xcr srt pt)).length:=by
     rw [← ly]
     exact (List.getElem?_eq_some_iff.mp hy).1
    obtain ⟨s',q',h1,h2,h3⟩:=f4 j y _ hy (List.getElem?_eq_getElem hj)
    rw [fi.2 j _ (List.getElem?_eq_getElem hj),hs] at h1
    cases h1
    exact ⟨q',h2,h3⟩)
   subst e4
   exact q H4 l2 srt rs4 (s1.trans s4) pm1 pw1 el4 sts4
end
end S08
set_option maxRecDepth 100000
set_option maxHeartbeats 4000000
namespace S08
open PySem L2 XL PyProof.Rows
def xm5 (t:Adr):Sp:=fun vs H Q _=>∃ (e:Addr) (er:Er),vs=[.ref e]∧ErAt t H e er∧∀ H' l,H l=none→Same H H'→H' l=some (.lst er.told)→Q (.ref l) H'
def Er.more:Er→List V
 | .oldPoint _=>[]
 | .tooMany=>[]
 | .sameColumn _=>[]
 | .sameRow _=>[]
 | .noPoint v0=>[.str "point",v0]
 | .oldSeat v0 v1=>[.str "open",v0,v1]
 | .noSeat v0 v1=>[.str "shut",v0,v1]
def xnp (t:Adr):Sp:=fun vs H Q _=>∃ (e:Addr) (er:Er),vs=[.ref e]∧ErAt t H e er∧∀ H' l,Same H H'→H' l=some (.lst er.more)→Q (.ref l) H'
section
variable {P:Program} {w:World} {K:PySem.W.Frag} {mg:Str→Option Value} {base:Heap} {t:Adr}
theorem ok_z (T:Txt w K mg t):FnOk false P w K mg base (CXo P w) 1 t.f_z t.d_z ["_law_e"] (xnp t):=by
 refine T.F_z.okn (k:=0) sc_z (fun vs H Q E h=>?_) (fun cdv A outer s H vs Q E hr h=>?_)
 ·obtain ⟨e,er,rfl,_⟩:=h
  rfl
 ·obtain ⟨e,er,rfl,h⟩:=h
  refine ⟨_,xi (xae (i:=1) sc_z.nd rfl (Or.inl rfl) (xal (xh)))
   (xi (xaa (xau (xaj xax rfl T.n_isinstance boot_isinstance (xf (pv 0) (xf (xay (v:=.ref _) rfl T.g_s rfl) (xh))))) (xk (xae (i:=1) sc_z.nd rfl (Or.inl rfl) (xu xbh (pv 1) (xal (xf (x4) (xf (xbe (pv 0) rfl) (xh))))))) (xx))
   (xi (xaa (xau (xaj xax rfl T.n_isinstance boot_isinstance (xf (pv 0) (xf (xay (v:=.ref _) rfl T.g_bh rfl) (xh))))) (xk (xae (i:=1) sc_z.nd rfl (Or.inl rfl) (xu xbh (pv 1) (xal (xf (x4) (xf (xbe (pv 0) rfl) (xh))))))) (xx))
   (xi (xaa (xau (xaj xax rfl T.n_isinstance boot_isinstance (xf (pv 0) (xf (xay (v:=.ref _) rfl T.g_bj rfl) (xh))))) (xk (xae (i:=1) sc_z.nd rfl (Or.inl rfl) (xu xbh (pv 1) (xal (xf (x4) (xf (xbe (pv 0) rfl) (xh))))))) (xx))
   (xi (xaa (xau (xaj xax rfl T.n_isinstance boot_isinstance (xf (pv 0) (xf (xay (v:=.ref _) rfl T.g_o rfl) (xh))))) (xk (xae (i:=1) sc_z.nd rfl (Or.inl rfl) (xu xbh (pv 1) (xal (xf (x4) (xf (xbe (pv 0) rfl) (xf (xbe (pv 0) rfl) (xh)))))))) (xx))
   (xi (xaa (xau (xaj xax rfl T.n_isinstance boot_isinstance (xf (pv 0) (xf (xay (v:=.ref _) rfl T.g_ab rfl) (xh))))) (xk (xae (i:=1) sc_z.nd rfl (Or.inl rfl) (xu xbh (pv 1) (xal (xf (x4) (xf (xbe (pv 0) rfl) (xf (xbe (pv 0) rfl) (xh)))))))) (xx))
   (xi ((by (with_reducible refine' xaa ?c1 ?a2 ?b3); (case c1=>exact xau (xaj xax rfl T.n_isinstance boot_isinstance (xf (pv 0) (xf (xat (x0 (xay (v:=.ref _) rfl T.g_a6 rfl) (x0 (xay (v:=.ref _) rfl T.g_a7 rfl) (x0 (xay (v:=.ref _) rfl T.g_as rfl) (x0 (xay (v:=.ref _) rfl T.g_at rfl) (x0 (xay (v:=.ref _) rfl T.g_au rfl) (x0 (xay (v:=.ref _) rfl T.g_av rfl) (x0 (xay (v:=.ref _) rfl T.g_ac rfl) (x0 (xay (v:=.ref _) rfl T.g_a8 rfl) (xh) rfl) rfl) rfl) rfl) rfl) rfl) rfl) rfl)) (xh))))); (case a2=>((with_reducible refine' xk ?c4); (case c4=>((exact xae (i:=1) sc_z.nd rfl (Or.inl rfl) (xu xbh (pv 1) (xal (xf (x4) (xh))))))))); (case b3=>((exact xx)))))
   (xi (xaa (xbi (xau (xaj xax rfl T.n_isinstance boot_isinstance (xf (pv 0) (xf (xc0 (v:=.ty "ValueError") rfl T.n_fa PyProof.Rows.Boot.«ValueError» rfl) (xh)))))) (xk (xae (i:=1) sc_z.nd rfl (Or.inl rfl) (xu xbh (pv 1) (xal (xf (x4) (xh)))))) (xx))
   (xk (xaf (pv 1)))))))))),?_⟩
  obtain ⟨ea,q⟩:=h
  cases er with
  | oldPoint v0 =>
   rcases ea with ⟨z,_⟩ | ⟨_,dx,he,hdx⟩
   ·cases z
   refine ⟨(by show 0≤sizeLine; exact Nat.zero_le _),fun l0 hl0=>?_⟩
   have sa:Same H (upd H l0 (.lst [])):=xm (Same.refl _) hl0
   have ga:upd H l0 (.lst []) l0=some (.lst []):=xg
   revert sa ga
   generalize upd H l0 (.lst [])=Ha
   intro sa ga
   have ha:Same H Ha:=sa
   have hda:∀ d,some dx=some d→∃ fs,Ha d=some (XD d fs):=fun d z=>by cases z; exact ⟨_,ha _ _ hdx⟩
   refine ⟨_,rfl,_,_,rfl,.inr (.inl ⟨e,_,_,_,false,rfl,(ha _ _ he),(hda),T.x_h,rfl,T.kit_cd,false,rfl,iteF ?_⟩)⟩
   refine ⟨_,rfl,_,_,rfl,.inr (.inl ⟨e,_,_,_,false,rfl,(ha _ _ he),(hda),T.x_h,rfl,T.kit_cs,false,rfl,iteF ?_⟩)⟩
   refine ⟨_,rfl,_,_,rfl,.inr (.inl ⟨e,_,_,_,false,rfl,(ha _ _ he),(hda),T.x_h,rfl,T.kit_di,false,rfl,iteF ?_⟩)⟩
   refine ⟨_,rfl,_,_,rfl,.inr (.inl ⟨e,_,_,_,false,rfl,(ha _ _ he),(hda),T.x_h,rfl,T.kit_ce,false,rfl,iteF ?_⟩)⟩
   refine ⟨_,rfl,_,_,rfl,.inr (.inl ⟨e,_,_,_,false,rfl,(ha _ _ he),(hda),T.x_h,rfl,T.kit_ct,false,rfl,iteF ?_⟩)⟩
   refine ⟨_,rfl,(by show 8≤sizeLine; decide),fun tq htq=>?_⟩
   have st:Same Ha (upd Ha tq (.tup [.ref t.C_a6,.ref t.C_a7,.ref t.C_as,.ref t.C_at,.ref t.C_au,.ref t.C_av,.ref t.C_ac,.ref t.C_a8])):=xm (Same.refl _) htq
   have gt:upd Ha tq (.tup [.ref t.C_a6,.ref t.C_a7,.ref t.C_as,.ref t.C_at,.ref t.C_au,.ref t.C_av,.ref t.C_ac,.ref t.C_a8]) tq=some (.tup [.ref t.C_a6,.ref t.C_a7,.ref t.C_as,.ref t.C_at,.ref t.C_au,.ref t.C_av,.ref t.C_ac,.ref t.C_a8]):=xg
   revert st gt
   generalize upd Ha tq (.tup [.ref t.C_a6,.ref t.C_a7,.ref t.C_as,.ref t.C_at,.ref t.C_au,.ref t.C_av,.ref t.C_ac,.ref t.C_a8])=Ht
   intro st gt
   refine ⟨_,_,rfl,.inr (.inr ⟨e,_,_,tq,_,_,false,rfl,(st _ _ (ha _ _ he)),(fun d z=>let ⟨fs,y⟩:=hda d z; ⟨fs,st _ _ y⟩),T.x_h,rfl,SqT.of gt,rfl,T.kany_h,false,rfl,iteF ?_⟩)⟩
   refine ⟨_,rfl,_,_,rfl,.inr (.inl ⟨e,_,_,_,true,rfl,(st _ _ (ha _ _ he)),(fun d z=>let ⟨fs,y⟩:=hda d z; ⟨fs,st _ _ y⟩),T.x_h,rfl,T.kitv_h,true,rfl,iteF ?_⟩)⟩
   exact ⟨_,rfl,q _ l0 (ha.trans st) (st _ _ ga)⟩
  | tooMany =>
   rcases ea with ⟨_,he⟩ | ⟨z,_⟩
   rotate_left
   ·exact absurd rfl z
   refine ⟨(by show 0≤sizeLine; exact Nat.zero_le _),fun l0 hl0=>?_⟩
   have sa:Same H (upd H l0 (.lst [])):=xm (Same.refl _) hl0
   have ga:upd H l0 (.lst []) l0=some (.lst []):=xg
   revert sa ga
   generalize upd H l0 (.lst [])=Ha
   intro sa ga
   have ha:Same H Ha:=sa
   have hda:∀ d,(none:Option Addr)=some d→∃ fs,Ha d=some (XD d fs):=fun d z=>nomatch z
   refine ⟨_,rfl,_,_,rfl,.inr (.inl ⟨e,_,_,_,false,rfl,(ha _ _ he),(hda),T.x_r,rfl,T.kit_cx,false,rfl,iteF ?_⟩)⟩
   refine ⟨_,rfl,_,_,rfl,.inr (.inl ⟨e,_,_,_,false,rfl,(ha _ _ he),(hda),T.x_r,rfl,T.kit_dl,false,rfl,iteF ?_⟩)⟩
   refine ⟨_,rfl,_,_,rfl,.inr (.inl ⟨e,_,_,_,false,rfl,(ha _ _ he),(hda),T.x_r,rfl,T.kit_d8,false,rfl,iteF ?_⟩)⟩
   refine ⟨_,rfl,_,_,rfl,.inr (.inl ⟨e,_,_,_,false,rfl,(ha _ _ he),(hda),T.x_r,rfl,T.kit_cy,false,rfl,iteF ?_⟩)⟩
   refine ⟨_,rfl,_,_,rfl,.inr (.inl ⟨e,_,_,_,false,rfl,(ha _ _ he),(hda),T.x_r,rfl,T.kit_dm,false,rfl,iteF ?_⟩)⟩
   refine ⟨_,rfl,(by show 8≤sizeLine; decide),fun tq htq=>?_⟩
   have st:Same Ha (upd Ha tq (.tup [.ref t.C_a6,.ref t.C_a7,.ref t.C_as,.ref t.C_at,.ref t.C_au,.ref t.C_av,.ref t.C_ac,.ref t.C_a8])):=xm (Same.refl _) htq
   have gt:upd Ha tq (.tup [.ref t.C_a6,.ref t.C_a7,.ref t.C_as,.ref t.C_at,.ref t.C_au,.ref t.C_av,.ref t.C_ac,.ref t.C_a8]) tq=some (.tup [.ref t.C_a6,.ref t.C_a7,.ref t.C_as,.ref t.C_at,.ref t.C_au,.ref t.C_av,.ref t.C_ac,.ref t.C_a8]):=xg
   revert st gt
   generalize upd Ha tq (.tup [.ref t.C_a6,.ref t.C_a7,.ref t.C_as,.ref t.C_at,.ref t.C_au,.ref t.C_av,.ref t.C_ac,.ref t.C_a8])=Ht
   intro st gt
   refine ⟨_,_,rfl,.inr (.inr ⟨e,_,_,tq,_,_,false,rfl,(st _ _ (ha _ _ he)),(fun d z=>let ⟨fs,y⟩:=hda d z; ⟨fs,st _ _ y⟩),T.x_r,rfl,SqT.of gt,rfl,T.kany_r,false,rfl,iteF ?_⟩)⟩
   refine ⟨_,rfl,_,_,rfl,.inr (.inl ⟨e,_,_,_,true,rfl,(st _ _ (ha _ _ he)),(fun d z=>let ⟨fs,y⟩:=hda d z; ⟨fs,st _ _ y⟩),T.x_r,rfl,T.kitv_r,true,rfl,iteF ?_⟩)⟩
   exact ⟨_,rfl,q _ l0 (ha.trans st) (st _ _ ga)⟩
  | sameColumn v0 =>
   rcases ea with ⟨z,_⟩ | ⟨_,dx,he,hdx⟩
   ·cases z
   refine ⟨(by show 0≤sizeLine; exact Nat.zero_le _),fun l0 hl0=>?_⟩
   have sa:Same H (upd H l0 (.lst [])):=xm (Same.refl _) hl0
   have ga:upd H l0 (.lst []) l0=some (.lst []):=xg
   revert sa ga
   generalize upd H l0 (.lst [])=Ha
   intro sa ga
   have ha:Same H Ha:=sa
   have hda:∀ d,some dx=some d→∃ fs,Ha d=some (XD d fs):=fun d z=>by cases z; exact ⟨_,ha _ _ hdx⟩
   refine ⟨_,rfl,_,_,rfl,.inr (.inl ⟨e,_,_,_,false,rfl,(ha _ _ he),(hda),T.x_c,rfl,T.kit_bw,false,rfl,iteF ?_⟩)⟩
   refine ⟨_,rfl,_,_,rfl,.inr (.inl ⟨e,_,_,_,false,rfl,(ha _ _ he),(hda),T.x_c,rfl,T.kit_b7,false,rfl,iteF ?_⟩)⟩
   refine ⟨_,rfl,_,_,rfl,.inr (.inl ⟨e,_,_,_,false,rfl,(ha _ _ he),(hda),T.x_c,rfl,T.kit_ch,false,rfl,iteF ?_⟩)⟩
   refine ⟨_,rfl,_,_,rfl,.inr (.inl ⟨e,_,_,_,false,rfl,(ha _ _ he),(hda),T.x_c,rfl,T.kit_bx,false,rfl,iteF ?_⟩)⟩
   refine ⟨_,rfl,_,_,rfl,.inr (.inl ⟨e,_,_,_,false,rfl,(ha _ _ he),(hda),T.x_c,rfl,T.kit_b8,false,rfl,iteF ?_⟩)⟩
   refine ⟨_,rfl,(by show 8≤sizeLine; decide),fun tq htq=>?_⟩
   have st:Same Ha (upd Ha tq (.tup [.ref t.C_a6,.ref t.C_a7,.ref t.C_as,.ref t.C_at,.ref t.C_au,.ref t.C_av,.ref t.C_ac,.ref t.C_a8])):=xm (Same.refl _) htq
   have gt:upd Ha tq (.tup [.ref t.C_a6,.ref t.C_a7,.ref t.C_as,.ref t.C_at,.ref t.C_au,.ref t.C_av,.ref t.C_ac,.ref t.C_a8]) tq=some (.tup [.ref t.C_a6,.ref t.C_a7,.ref t.C_as,.ref t.C_at,.ref t.C_au,.ref t.C_av,.ref t.C_ac,.ref t.C_a8]):=xg
   revert st gt
   generalize upd Ha tq (.tup [.ref t.C_a6,.ref t.C_a7,.ref t.C_as,.ref t.C_at,.ref t.C_au,.ref t.C_av,.ref t.C_ac,.ref t.C_a8])=Ht
   intro st gt
   refine ⟨_,_,rfl,.inr (.inr ⟨e,_,_,tq,_,_,false,rfl,(st _ _ (ha _ _ he)),(fun d z=>let ⟨fs,y⟩:=hda d z; ⟨fs,st _ _ y⟩),T.x_c,rfl,SqT.of gt,rfl,T.kany_c,false,rfl,iteF ?_⟩)⟩
   refine ⟨_,rfl,_,_,rfl,.inr (.inl ⟨e,_,_,_,true,rfl,(st _ _ (ha _ _ he)),(fun d z=>let ⟨fs,y⟩:=hda d z; ⟨fs,st _ _ y⟩),T.x_c,rfl,T.kitv_c,true,rfl,iteF ?_⟩)⟩
   exact ⟨_,rfl,q _ l0 (ha.trans st) (st _ _ ga)⟩
  | sameRow v0 =>
   rcases ea with ⟨z,_⟩ | ⟨_,dx,he,hdx⟩
   ·cases z
   refine ⟨(by show 0≤sizeLine; exact Nat.zero_le _),fun l0 hl0=>?_⟩
   have sa:Same H (upd H l0 (.lst [])):=xm (Same.refl _) hl0
   have ga:upd H l0 (.lst []) l0=some (.lst []):=xg
   revert sa ga
   generalize upd H l0 (.lst [])=Ha
   intro sa ga
   have ha:Same H Ha:=sa
   have hda:∀ d,some dx=some d→∃ fs,Ha d=some (XD d fs):=fun d z=>by cases z; exact ⟨_,ha _ _ hdx⟩
   refine ⟨_,rfl,_,_,rfl,.inr (.inl ⟨e,_,_,_,false,rfl,(ha _ _ he),(hda),T.x_t,rfl,T.kit_c2,false,rfl,iteF ?_⟩)⟩
   refine ⟨_,rfl,_,_,rfl,.inr (.inl ⟨e,_,_,_,false,rfl,(ha _ _ he),(hda),T.x_t,rfl,T.kit_dp,false,rfl,iteF ?_⟩)⟩
   refine ⟨_,rfl,_,_,rfl,.inr (.inl ⟨e,_,_,_,false,rfl,(ha _ _ he),(hda),T.x_t,rfl,T.kit_d9,false,rfl,iteF ?_⟩)⟩
   refine ⟨_,rfl,_,_,rfl,.inr (.inl ⟨e,_,_,_,false,rfl,(ha _ _ he),(hda),T.x_t,rfl,T.kit_c3,false,rfl,iteF ?_⟩)⟩
   refine ⟨_,rfl,_,_,rfl,.inr (.inl ⟨e,_,_,_,false,rfl,(ha _ _ he),(hda),T.x_t,rfl,T.kit_dq,false,rfl,iteF ?_⟩)⟩
   refine ⟨_,rfl,(by show 8≤sizeLine; decide),fun tq htq=>?_⟩
   have st:Same Ha (upd Ha tq (.tup [.ref t.C_a6,.ref t.C_a7,.ref t.C_as,.ref t.C_at,.ref t.C_au,.ref t.C_av,.ref t.C_ac,.ref t.C_a8])):=xm (Same.refl _) htq
   have gt:upd Ha tq (.tup [.ref t.C_a6,.ref t.C_a7,.ref t.C_as,.ref t.C_at,.ref t.C_au,.ref t.C_av,.ref t.C_ac,.ref t.C_a8]) tq=some (.tup [.ref t.C_a6,.ref t.C_a7,.ref t.C_as,.ref t.C_at,.ref t.C_au,.ref t.C_av,.ref t.C_ac,.ref t.C_a8]):=xg
   revert st gt
   generalize upd Ha tq (.tup [.ref t.C_a6,.ref t.C_a7,.ref t.C_as,.ref t.C_at,.ref t.C_au,.ref t.C_av,.ref t.C_ac,.ref t.C_a8])=Ht
   intro st gt
   refine ⟨_,_,rfl,.inr (.inr ⟨e,_,_,tq,_,_,false,rfl,(st _ _ (ha _ _ he)),(fun d z=>let ⟨fs,y⟩:=hda d z; ⟨fs,st _ _ y⟩),T.x_t,rfl,SqT.of gt,rfl,T.kany_t,false,rfl,iteF ?_⟩)⟩
   refine ⟨_,rfl,_,_,rfl,.inr (.inl ⟨e,_,_,_,true,rfl,(st _ _ (ha _ _ he)),(fun d z=>let ⟨fs,y⟩:=hda d z; ⟨fs,st _ _ y⟩),T.x_t,rfl,T.kitv_t,true,rfl,iteF ?_⟩)⟩
   exact ⟨_,rfl,q _ l0 (ha.trans st) (st _ _ ga)⟩
  | noPoint v0 =>
   rcases ea with ⟨z,_⟩ | ⟨_,dx,he,hdx⟩
   ·cases z
   refine ⟨(by show 0≤sizeLine; exact Nat.zero_le _),fun l0 hl0=>?_⟩
   have sa:Same H (upd H l0 (.lst [])):=xm (Same.refl _) hl0
   have ga:upd H l0 (.lst []) l0=some (.lst []):=xg
   revert sa ga
   generalize upd H l0 (.lst [])=Ha
   intro sa ga
   have ha:Same H Ha:=sa
   have hda:∀ d,some dx=some d→∃ fs,Ha d=some (XD d fs):=fun d z=>by cases z; exact ⟨_,ha _ _ hdx⟩
   refine ⟨_,rfl,_,_,rfl,.inr (.inl ⟨e,_,_,_,true,rfl,(ha _ _ he),(hda),T.x_s,rfl,T.kit_c7,true,rfl,iteT ?_⟩)⟩
   refine ⟨_,rfl,_,rfl,e,_,dx,_,v0,rfl,ha _ _ he,ha _ _ hdx,T.x_s,T.n_d6,lk_1,(by show 2≤sizeLine; decide),fun l1 hl1=>?_⟩
   have sb:Same Ha (upd Ha l1 (.lst [.str "point",v0])):=xm (Same.refl _) hl1
   have gb:upd Ha l1 (.lst [.str "point",v0]) l1=some (.lst [.str "point",v0]):=xg
   revert sb gb
   generalize upd Ha l1 (.lst [.str "point",v0])=Hb
   intro sb gb
   refine ⟨l0,l1,_,_,rfl,rfl,sb _ _ ga,gb,(by show 0 + 2≤sizeLine; decide),fun l2 hl2=>?_⟩
   have sc:Same Hb (upd Hb l2 (.lst ([] ++ [.str "point",v0]))):=xm (Same.refl _) hl2
   have gc:upd Hb l2 (.lst ([] ++ [.str "point",v0])) l2=some (.lst ([] ++ [.str "point",v0])):=xg
   revert sc gc
   generalize upd Hb l2 (.lst ([] ++ [.str "point",v0]))=Hc
   intro sc gc
   have hc:Same H Hc:=ha.trans (sb.trans sc)
   have hdc:∀ d,some dx=some d→∃ fs,Hc d=some (XD d fs):=fun d z=>by cases z; exact ⟨_,hc _ _ hdx⟩
   refine ⟨_,rfl,_,_,rfl,.inr (.inl ⟨e,_,_,_,false,rfl,(hc _ _ he),(hdc),T.x_s,rfl,T.kit_dt,false,rfl,iteF ?_⟩)⟩
   refine ⟨_,rfl,_,_,rfl,.inr (.inl ⟨e,_,_,_,false,rfl,(hc _ _ he),(hdc),T.x_s,rfl,T.kit_ea,false,rfl,iteF ?_⟩)⟩
   refine ⟨_,rfl,_,_,rfl,.inr (.inl ⟨e,_,_,_,false,rfl,(hc _ _ he),(hdc),T.x_s,rfl,T.kit_c8,false,rfl,iteF ?_⟩)⟩
   refine ⟨_,rfl,_,_,rfl,.inr (.inl ⟨e,_,_,_,false,rfl,(hc _ _ he),(hdc),T.x_s,rfl,T.kit_du,false,rfl,iteF ?_⟩)⟩
   refine ⟨_,rfl,(by show 8≤sizeLine; decide),fun tq htq=>?_⟩
   have st:Same Hc (upd Hc tq (.tup [.ref t.C_a6,.ref t.C_a7,.ref t.C_as,.ref t.C_at,.ref t.C_au,.ref t.C_av,.ref t.C_ac,.ref t.C_a8])):=xm (Same.refl _) htq
   have gt:upd Hc tq (.tup [.ref t.C_a6,.ref t.C_a7,.ref t.C_as,.ref t.C_at,.ref t.C_au,.ref t.C_av,.ref t.C_ac,.ref t.C_a8]) tq=some (.tup [.ref t.C_a6,.ref t.C_a7,.ref t.C_as,.ref t.C_at,.ref t.C_au,.ref t.C_av,.ref t.C_ac,.ref t.C_a8]):=xg
   revert st gt
   generalize upd Hc tq (.tup [.ref t.C_a6,.ref t.C_a7,.ref t.C_as,.ref t.C_at,.ref t.C_au,.ref t.C_av,.ref t.C_ac,.ref t.C_a8])=Ht
   intro st gt
   refine ⟨_,_,rfl,.inr (.inr ⟨e,_,_,tq,_,_,false,rfl,(st _ _ (hc _ _ he)),(fun d z=>let ⟨fs,y⟩:=hdc d z; ⟨fs,st _ _ y⟩),T.x_s,rfl,SqT.of gt,rfl,T.kany_s,false,rfl,iteF ?_⟩)⟩
   refine ⟨_,rfl,_,_,rfl,.inr (.inl ⟨e,_,_,_,true,rfl,(st _ _ (hc _ _ he)),(fun d z=>let ⟨fs,y⟩:=hdc d z; ⟨fs,st _ _ y⟩),T.x_s,rfl,T.kitv_s,true,rfl,iteF ?_⟩)⟩
   exact ⟨_,rfl,q _ l2 (hc.trans st) (st _ _ gc)⟩
  | oldSeat v0 v1 =>
   rcases ea with ⟨z,_⟩ | ⟨_,dx,he,hdx⟩
   ·cases z
   refine ⟨(by show 0≤sizeLine; exact Nat.zero_le _),fun l0 hl0=>?_⟩
   have sa:Same H (upd H l0 (.lst [])):=xm (Same.refl _) hl0
   have ga:upd H l0 (.lst []) l0=some (.lst []):=xg
   revert sa ga
   generalize upd H l0 (.lst [])=Ha
   intro sa ga
   have ha:Same H Ha:=sa
   have hda:∀ d,some dx=some d→∃ fs,Ha d=some (XD d fs):=fun d z=>by cases z; exact ⟨_,ha _ _ hdx⟩
   refine ⟨_,rfl,_,_,rfl,.inr (.inl ⟨e,_,_,_,false,rfl,(ha _ _ he),(hda),T.x_o,rfl,T.kit_dc,false,rfl,iteF ?_⟩)⟩
   refine ⟨_,rfl,_,_,rfl,.inr (.inl ⟨e,_,_,_,false,rfl,(ha _ _ he),(hda),T.x_o,rfl,T.kit_dx,false,rfl,iteF ?_⟩)⟩
   refine ⟨_,rfl,_,_,rfl,.inr (.inl ⟨e,_,_,_,false,rfl,(ha _ _ he),(hda),T.x_o,rfl,T.kit_eb,false,rfl,iteF ?_⟩)⟩
   refine ⟨_,rfl,_,_,rfl,.inr (.inl ⟨e,_,_,_,true,rfl,(ha _ _ he),(hda),T.x_o,rfl,T.kit_dd,true,rfl,iteT ?_⟩)⟩
   refine ⟨_,rfl,_,rfl,e,_,dx,_,v0,rfl,ha _ _ he,ha _ _ hdx,T.x_o,T.n_d7,lk_1,_,rfl,e,_,dx,_,v1,rfl,ha _ _ he,ha _ _ hdx,T.x_o,T.n_ei,(lk_2 (by decide +kernel)),(by show 3≤sizeLine; decide),fun l1 hl1=>?_⟩
   have sb:Same Ha (upd Ha l1 (.lst [.str "open",v0,v1])):=xm (Same.refl _) hl1
   have gb:upd Ha l1 (.lst [.str "open",v0,v1]) l1=some (.lst [.str "open",v0,v1]):=xg
   revert sb gb
   generalize upd Ha l1 (.lst [.str "open",v0,v1])=Hb
   intro sb gb
   refine ⟨l0,l1,_,_,rfl,rfl,sb _ _ ga,gb,(by show 0 + 3≤sizeLine; decide),fun l2 hl2=>?_⟩
   have sc:Same Hb (upd Hb l2 (.lst ([] ++ [.str "open",v0,v1]))):=xm (Same.refl _) hl2
   have gc:upd Hb l2 (.lst ([] ++ [.str "open",v0,v1])) l2=some (.lst ([] ++ [.str "open",v0,v1])):=xg
   revert sc gc
   generalize upd Hb l2 (.lst ([] ++ [.str "open",v0,v1]))=Hc
   intro sc gc
   have hc:Same H Hc:=ha.trans (sb.trans sc)
   have hdc:∀ d,some dx=some d→∃ fs,Hc d=some (XD d fs):=fun d z=>by cases z; exact ⟨_,hc _ _ hdx⟩
   refine ⟨_,rfl,_,_,rfl,.inr (.inl ⟨e,_,_,_,false,rfl,(hc _ _ he),(hdc),T.x_o,rfl,T.kit_dy,false,rfl,iteF ?_⟩)⟩
   refine ⟨_,rfl,(by show 8≤sizeLine; decide),fun tq htq=>?_⟩
   have st:Same Hc (upd Hc tq (.tup [.ref t.C_a6,.ref t.C_a7,.ref t.C_as,.ref t.C_at,.ref t.C_au,.ref t.C_av,.ref t.C_ac,.ref t.C_a8])):=xm (Same.refl _) htq
   have gt:upd Hc tq (.tup [.ref t.C_a6,.ref t.C_a7,.ref t.C_as,.ref t.C_at,.ref t.C_au,.ref t.C_av,.ref t.C_ac,.ref t.C_a8]) tq=some (.tup [.ref t.C_a6,.ref t.C_a7,.ref t.C_as,.ref t.C_at,.ref t.C_au,.ref t.C_av,.ref t.C_ac,.ref t.C_a8]):=xg
   revert st gt
   generalize upd Hc tq (.tup [.ref t.C_a6,.ref t.C_a7,.ref t.C_as,.ref t.C_at,.ref t.C_au,.ref t.C_av,.ref t.C_ac,.ref t.C_a8])=Ht
   intro st gt
   refine ⟨_,_,rfl,.inr (.inr ⟨e,_,_,tq,_,_,false,rfl,(st _ _ (hc _ _ he)),(fun d z=>let ⟨fs,y⟩:=hdc d z; ⟨fs,st _ _ y⟩),T.x_o,rfl,SqT.of gt,rfl,T.kany_o,false,rfl,iteF ?_⟩)⟩
   refine ⟨_,rfl,_,_,rfl,.inr (.inl ⟨e,_,_,_,true,rfl,(st _ _ (hc _ _ he)),(fun d z=>let ⟨fs,y⟩:=hdc d z; ⟨fs,st _ _ y⟩),T.x_o,rfl,T.kitv_o,true,rfl,iteF ?_⟩)⟩
   exact ⟨_,rfl,q _ l2 (hc.trans st) (st _ _ gc)⟩
  | noSeat v0 v1 =>
   rcases ea with ⟨z,_⟩ | ⟨_,dx,he,hdx⟩
   ·cases z
   refine ⟨(by show 0≤sizeLine; exact Nat.zero_le _),fun l0 hl0=>?_⟩
   have sa:Same H (upd H l0 (.lst [])):=xm (Same.refl _) hl0
   have ga:upd H l0 (.lst []) l0=some (.lst []):=xg
   revert sa ga
   generalize upd H l0 (.lst [])=Ha
   intro sa ga
   have ha:Same H Ha:=sa
   have hda:∀ d,some dx=some d→∃ fs,Ha d=some (XD d fs):=fun d z=>by cases z; exact ⟨_,ha _ _ hdx⟩
   refine ⟨_,rfl,_,_,rfl,.inr (.inl ⟨e,_,_,_,false,rfl,(ha _ _ he),(hda),T.x_ab,rfl,T.kit_d2,false,rfl,iteF ?_⟩)⟩
   refine ⟨_,rfl,_,_,rfl,.inr (.inl ⟨e,_,_,_,false,rfl,(ha _ _ he),(hda),T.x_ab,rfl,T.kit_ee,false,rfl,iteF ?_⟩)⟩
   refine ⟨_,rfl,_,_,rfl,.inr (.inl ⟨e,_,_,_,false,rfl,(ha _ _ he),(hda),T.x_ab,rfl,T.kit_en,false,rfl,iteF ?_⟩)⟩
   refine ⟨_,rfl,_,_,rfl,.inr (.inl ⟨e,_,_,_,false,rfl,(ha _ _ he),(hda),T.x_ab,rfl,T.kit_d3,false,rfl,iteF ?_⟩)⟩
   refine ⟨_,rfl,_,_,rfl,.inr (.inl ⟨e,_,_,_,true,rfl,(ha _ _ he),(hda),T.x_ab,rfl,T.kit_ef,true,rfl,iteT ?_⟩)⟩
   refine ⟨_,rfl,_,rfl,e,_,dx,_,v0,rfl,ha _ _ he,ha _ _ hdx,T.x_ab,T.n_ej,lk_1,_,rfl,e,_,dx,_,v1,rfl,ha _ _ he,ha _ _ hdx,T.x_ab,T.n_ep,(lk_2 (by decide +kernel)),(by show 3≤sizeLine; decide),fun l1 hl1=>?_⟩
   have sb:Same Ha (upd Ha l1 (.lst [.str "shut",v0,v1])):=xm (Same.refl _) hl1
   have gb:upd Ha l1 (.lst [.str "shut",v0,v1]) l1=some (.lst [.str "shut",v0,v1]):=xg
   revert sb gb
   generalize upd Ha l1 (.lst [.str "shut",v0,v1])=Hb
   intro sb gb
   refine ⟨l0,l1,_,_,rfl,rfl,sb _ _ ga,gb,(by show 0 + 3≤sizeLine; decide),fun l2 hl2=>?_⟩
   have sc:Same Hb (upd Hb l2 (.lst ([] ++ [.str "shut",v0,v1]))):=xm (Same.refl _) hl2
   have gc:upd Hb l2 (.lst ([] ++ [.str "shut",v0,v1])) l2=some (.lst ([] ++ [.str "shut",v0,v1])):=xg
   revert sc gc
   generalize upd Hb l2 (.lst ([] ++ [.str "shut",v0,v1]))=Hc
   intro sc gc
   have hc:Same H Hc:=ha.trans (sb.trans sc)
   have hdc:∀ d,some dx=some d→∃ fs,Hc d=some (XD d fs):=fun d z=>by cases z; exact ⟨_,hc _ _ hdx⟩
   refine ⟨_,rfl,(by show 8≤sizeLine; decide),fun tq htq=>?_⟩
   have st:Same Hc (upd Hc tq (.tup [.ref t.C_a6,.ref t.C_a7,.ref t.C_as,.ref t.C_at,.ref t.C_au,.ref t.C_av,.ref t.C_ac,.ref t.C_a8])):=xm (Same.refl _) htq
   have gt:upd Hc tq (.tup [.ref t.C_a6,.ref t.C_a7,.ref t.C_as,.ref t.C_at,.ref t.C_au,.ref t.C_av,.ref t.C_ac,.ref t.C_a8]) tq=some (.tup [.ref t.C_a6,.ref t.C_a7,.ref t.C_as,.ref t.C_at,.ref t.C_au,.ref t.C_av,.ref t.C_ac,.ref t.C_a8]):=xg
   revert st gt
   generalize upd Hc tq (.tup [.ref t.C_a6,.ref t.C_a7,.ref t.C_as,.ref t.C_at,.ref t.C_au,.ref t.C_av,.ref t.C_ac,.ref t.C_a8])=Ht
   intro st gt
   refine ⟨_,_,rfl,.inr (.inr ⟨e,_,_,tq,_,_,false,rfl,(st _ _ (hc _ _ he)),(fun d z=>let ⟨fs,y⟩:=hdc d z; ⟨fs,st _ _ y⟩),T.x_ab,rfl,SqT.of gt,rfl,T.kany_ab,false,rfl,iteF ?_⟩)⟩
   refine ⟨_,rfl,_,_,rfl,.inr (.inl ⟨e,_,_,_,true,rfl,(st _ _ (hc _ _ he)),(fun d z=>let ⟨fs,y⟩:=hdc d z; ⟨fs,st _ _ y⟩),T.x_ab,rfl,T.kitv_ab,true,rfl,iteF ?_⟩)⟩
   exact ⟨_,rfl,q _ l2 (hc.trans st) (st _ _ gc)⟩
theorem ok_aw (T:Txt w K mg t):FnOk false P w K mg base (CXo P w) 2 t.f_aw t.d_aw ["_law_e"] (xm5 t):=by
 refine T.F_aw.okn (k:=1) sc_aw (fun vs H Q E h=>?_) (fun cdv A outer s H vs Q E hr h=>?_)
 ·obtain ⟨e,er,rfl,_⟩:=h
  rfl
 ·obtain ⟨e,er,rfl,h⟩:=h
  refine ⟨_,xi (xae (i:=1) sc_aw.nd rfl (Or.inl rfl) (xal (xh)))
   (xi (xaa (xau (xaj xax rfl T.n_isinstance boot_isinstance (xf (pv 0) (xf (xay (v:=.ref _) rfl T.g_bf rfl) (xh))))) (xk (xae (i:=1) sc_aw.nd rfl (Or.inl rfl) (xu xbh (pv 1) (xal (xf (x4) (xf (xbe (pv 0) rfl) (xh))))))) (xx))
   (xi (xaa (xau (xaj xax rfl T.n_isinstance boot_isinstance (xf (pv 0) (xf (xay (v:=.ref _) rfl T.g_bg rfl) (xh))))) (xk (xae (i:=1) sc_aw.nd rfl (Or.inl rfl) (xu xbh (pv 1) (xal (xf (x4) (xf (xbe (pv 0) rfl) (xf (xbe (pv 0) rfl) (xh)))))))) (xx))
   (xi (xaa (xau (xaj xax rfl T.n_isinstance boot_isinstance (xf (pv 0) (xf (xay (v:=.ref _) rfl T.g_be rfl) (xh))))) (xk (xae (i:=1) sc_aw.nd rfl (Or.inl rfl) (xu xbh (pv 1) (xal (xf (x4) (xf (xbe (pv 0) rfl) (xh))))))) (xx))
   (xi (xaa (xau (xaj xax rfl T.n_isinstance boot_isinstance (xf (pv 0) (xf (xay (v:=.ref _) rfl T.g_bd rfl) (xh))))) (xk (xae (i:=1) sc_aw.nd rfl (Or.inl rfl) (xu xbh (pv 1) (xal (xf (x4) (xf (xbe (pv 0) rfl) (xf (xbe (pv 0) rfl) (xh)))))))) (xx))
   (xi (xaa (xau (xaj xax rfl T.n_isinstance boot_isinstance (xf (pv 0) (xf (xay (v:=.ref _) rfl T.g_h rfl) (xh))))) (xk (xae (i:=1) sc_aw.nd rfl (Or.inl rfl) (xu xbh (pv 1) (xal (xf (x4) (xf (xbe (pv 0) rfl) (xh))))))) (xx))
   (xi (xaa (xau (xaj xax rfl T.n_isinstance boot_isinstance (xf (pv 0) (xf (xay (v:=.ref _) rfl T.g_r rfl) (xh))))) (xk (xae (i:=1) sc_aw.nd rfl (Or.inl rfl) (xu xbh (pv 1) (xal (xf (x4) (xh)))))) (xx))
   (xi (xaa (xau (xaj xax rfl T.n_isinstance boot_isinstance (xf (pv 0) (xf (xay (v:=.ref _) rfl T.g_c rfl) (xh))))) (xk (xae (i:=1) sc_aw.nd rfl (Or.inl rfl) (xu xbh (pv 1) (xal (xf (x4) (xf (xbe (pv 0) rfl) (xh))))))) (xx))
   (xi (xaa (xau (xaj xax rfl T.n_isinstance boot_isinstance (xf (pv 0) (xf (xay (v:=.ref _) rfl T.g_t rfl) (xh))))) (xk (xae (i:=1) sc_aw.nd rfl (Or.inl rfl) (xu xbh (pv 1) (xal (xf (x4) (xf (xbe (pv 0) rfl) (xh))))))) (xx))
   (xk (xaf (xu xbh (pv 1) (xao (ok_z T) (hr.mono (by decide)) rfl T.g_z T.F_z.kp T.b_z .nil xp (xf (pv 0) (xh)))))))))))))),?_⟩
  obtain ⟨ea,q⟩:=h
  cases er with
  | oldPoint v0 =>
   have ea0:=ea
   rcases ea with ⟨z,_⟩ | ⟨_,dx,he,hdx⟩
   ·cases z
   refine ⟨(by show 0≤sizeLine; exact Nat.zero_le _),fun l0 hl0=>?_⟩
   have sa:Same H (upd H l0 (.lst [])):=xm (Same.refl _) hl0
   have ga:upd H l0 (.lst []) l0=some (.lst []):=xg
   revert sa ga
   generalize upd H l0 (.lst [])=Ha
   intro sa ga
   have ha:Same H Ha:=sa
   have hda:∀ d,some dx=some d→∃ fs,Ha d=some (XD d fs):=fun d z=>by cases z; exact ⟨_,ha _ _ hdx⟩
   refine ⟨_,rfl,_,_,rfl,.inr (.inl ⟨e,_,_,_,false,rfl,(ha _ _ he),(hda),T.x_h,rfl,T.kit_cq,false,rfl,iteF ?_⟩)⟩
   refine ⟨_,rfl,_,_,rfl,.inr (.inl ⟨e,_,_,_,false,rfl,(ha _ _ he),(hda),T.x_h,rfl,T.kit_cr,false,rfl,iteF ?_⟩)⟩
   refine ⟨_,rfl,_,_,rfl,.inr (.inl ⟨e,_,_,_,false,rfl,(ha _ _ he),(hda),T.x_h,rfl,T.kit_ca,false,rfl,iteF ?_⟩)⟩
   refine ⟨_,rfl,_,_,rfl,.inr (.inl ⟨e,_,_,_,false,rfl,(ha _ _ he),(hda),T.x_h,rfl,T.kit_b3,false,rfl,iteF ?_⟩)⟩
   refine ⟨_,rfl,_,_,rfl,.inr (.inl ⟨e,_,_,_,true,rfl,(ha _ _ he),(hda),T.x_h,rfl,T.kit_b4,true,rfl,iteT ?_⟩)⟩
   refine ⟨_,rfl,_,rfl,e,_,dx,_,v0,rfl,ha _ _ he,ha _ _ hdx,T.x_h,T.n_dg,lk_1,(by show 2≤sizeLine; decide),fun l1 hl1=>?_⟩
   have sb:Same Ha (upd Ha l1 (.lst [.str "old",v0])):=xm (Same.refl _) hl1
   have gb:upd Ha l1 (.lst [.str "old",v0]) l1=some (.lst [.str "old",v0]):=xg
   revert sb gb
   generalize upd Ha l1 (.lst [.str "old",v0])=Hb
   intro sb gb
   refine ⟨l0,l1,_,_,rfl,rfl,sb _ _ ga,gb,(by show 0 + 2≤sizeLine; decide),fun l2 hl2=>?_⟩
   have sc:Same Hb (upd Hb l2 (.lst ([] ++ [.str "old",v0]))):=xm (Same.refl _) hl2
   have gc:upd Hb l2 (.lst ([] ++ [.str "old",v0])) l2=some (.lst ([] ++ [.str "old",v0])):=xg
   revert sc gc
   generalize upd Hb l2 (.lst ([] ++ [.str "old",v0]))=Hc
   intro sc gc
   have hc:Same H Hc:=ha.trans (sb.trans sc)
   have hdc:∀ d,some dx=some d→∃ fs,Hc d=some (XD d fs):=fun d z=>by cases z; exact ⟨_,hc _ _ hdx⟩
   refine ⟨_,rfl,_,_,rfl,.inr (.inl ⟨e,_,_,_,false,rfl,(hc _ _ he),(hdc),T.x_h,rfl,T.kit_cb,false,rfl,iteF ?_⟩)⟩
   refine ⟨_,rfl,_,_,rfl,.inr (.inl ⟨e,_,_,_,false,rfl,(hc _ _ he),(hdc),T.x_h,rfl,T.kit_bp,false,rfl,iteF ?_⟩)⟩
   refine ⟨_,rfl,_,_,rfl,.inr (.inl ⟨e,_,_,_,false,rfl,(hc _ _ he),(hdc),T.x_h,rfl,T.kit_cc,false,rfl,iteF ?_⟩)⟩
   refine ⟨_,rfl,_,rfl,e,_,rfl,ErAt.same hc ea0,fun H9 l9 s9 g9=>?_⟩
   refine ⟨l2,l9,_,_,rfl,rfl,s9 _ _ gc,g9,(by show 2 + 0≤sizeLine; decide),fun l8 hl8=>?_⟩
   exact q _ l8 ((hc.trans s9).free hl8) (hc.trans (s9.trans (xm (Same.refl _) hl8))) (by rw [xg]; rfl)
  | tooMany =>
   have ea0:=ea
   rcases ea with ⟨_,he⟩ | ⟨z,_⟩
   rotate_left
   ·exact absurd rfl z
   refine ⟨(by show 0≤sizeLine; exact Nat.zero_le _),fun l0 hl0=>?_⟩
   have sa:Same H (upd H l0 (.lst [])):=xm (Same.refl _) hl0
   have ga:upd H l0 (.lst []) l0=some (.lst []):=xg
   revert sa ga
   generalize upd H l0 (.lst [])=Ha
   intro sa ga
   have ha:Same H Ha:=sa
   have hda:∀ d,(none:Option Addr)=some d→∃ fs,Ha d=some (XD d fs):=fun d z=>nomatch z
   refine ⟨_,rfl,_,_,rfl,.inr (.inl ⟨e,_,_,_,false,rfl,(ha _ _ he),(hda),T.x_r,rfl,T.kit_dj,false,rfl,iteF ?_⟩)⟩
   refine ⟨_,rfl,_,_,rfl,.inr (.inl ⟨e,_,_,_,false,rfl,(ha _ _ he),(hda),T.x_r,rfl,T.kit_dk,false,rfl,iteF ?_⟩)⟩
   refine ⟨_,rfl,_,_,rfl,.inr (.inl ⟨e,_,_,_,false,rfl,(ha _ _ he),(hda),T.x_r,rfl,T.kit_cu,false,rfl,iteF ?_⟩)⟩
   refine ⟨_,rfl,_,_,rfl,.inr (.inl ⟨e,_,_,_,false,rfl,(ha _ _ he),(hda),T.x_r,rfl,T.kit_cf,false,rfl,iteF ?_⟩)⟩
   refine ⟨_,rfl,_,_,rfl,.inr (.inl ⟨e,_,_,_,false,rfl,(ha _ _ he),(hda),T.x_r,rfl,T.kit_cg,false,rfl,iteF ?_⟩)⟩
   refine ⟨_,rfl,_,_,rfl,.inr (.inl ⟨e,_,_,_,true,rfl,(ha _ _ he),(hda),T.x_r,rfl,T.kit_cv,true,rfl,iteT ?_⟩)⟩
   refine ⟨_,rfl,(by show 1≤sizeLine; decide),fun l1 hl1=>?_⟩
   have sb:Same Ha (upd Ha l1 (.lst [.str "many"])):=xm (Same.refl _) hl1
   have gb:upd Ha l1 (.lst [.str "many"]) l1=some (.lst [.str "many"]):=xg
   revert sb gb
   generalize upd Ha l1 (.lst [.str "many"])=Hb
   intro sb gb
   refine ⟨l0,l1,_,_,rfl,rfl,sb _ _ ga,gb,(by show 0 + 1≤sizeLine; decide),fun l2 hl2=>?_⟩
   have sc:Same Hb (upd Hb l2 (.lst ([] ++ [.str "many"]))):=xm (Same.refl _) hl2
   have gc:upd Hb l2 (.lst ([] ++ [.str "many"])) l2=some (.lst ([] ++ [.str "many"])):=xg
   revert sc gc
   generalize upd Hb l2 (.lst ([] ++ [.str "many"]))=Hc
   intro sc gc
   have hc:Same H Hc:=ha.trans (sb.trans sc)
   have hdc:∀ d,(none:Option Addr)=some d→∃ fs,Hc d=some (XD d fs):=fun d z=>nomatch z
   refine ⟨_,rfl,_,_,rfl,.inr (.inl ⟨e,_,_,_,false,rfl,(hc _ _ he),(hdc),T.x_r,rfl,T.kit_bs,false,rfl,iteF ?_⟩)⟩
   refine ⟨_,rfl,_,_,rfl,.inr (.inl ⟨e,_,_,_,false,rfl,(hc _ _ he),(hdc),T.x_r,rfl,T.kit_cw,false,rfl,iteF ?_⟩)⟩
   refine ⟨_,rfl,_,rfl,e,_,rfl,ErAt.same hc ea0,fun H9 l9 s9 g9=>?_⟩
   refine ⟨l2,l9,_,_,rfl,rfl,s9 _ _ gc,g9,(by show 1 + 0≤sizeLine; decide),fun l8 hl8=>?_⟩
   exact q _ l8 ((hc.trans s9).free hl8) (hc.trans (s9.trans (xm (Same.refl _) hl8))) (by rw [xg]; rfl)
  | sameColumn v0 =>
   have ea0:=ea
   rcases ea with ⟨z,_⟩ | ⟨_,dx,he,hdx⟩
   ·cases z
   refine ⟨(by show 0≤sizeLine; exact Nat.zero_le _),fun l0 hl0=>?_⟩
   have sa:Same H (upd H l0 (.lst [])):=xm (Same.refl _) hl0
   have ga:upd H l0 (.lst []) l0=some (.lst []):=xg
   revert sa ga
   generalize upd H l0 (.lst [])=Ha
   intro sa ga
   have ha:Same H Ha:=sa
   have hda:∀ d,some dx=some d→∃ fs,Ha d=some (XD d fs):=fun d z=>by cases z; exact ⟨_,ha _ _ hdx⟩
   refine ⟨_,rfl,_,_,rfl,.inr (.inl ⟨e,_,_,_,false,rfl,(ha _ _ he),(hda),T.x_c,rfl,T.kit_b5,false,rfl,iteF ?_⟩)⟩
   refine ⟨_,rfl,_,_,rfl,.inr (.inl ⟨e,_,_,_,false,rfl,(ha _ _ he),(hda),T.x_c,rfl,T.kit_b6,false,rfl,iteF ?_⟩)⟩
   refine ⟨_,rfl,_,_,rfl,.inr (.inl ⟨e,_,_,_,false,rfl,(ha _ _ he),(hda),T.x_c,rfl,T.kit_bt,false,rfl,iteF ?_⟩)⟩
   refine ⟨_,rfl,_,_,rfl,.inr (.inl ⟨e,_,_,_,false,rfl,(ha _ _ he),(hda),T.x_c,rfl,T.kit_bq,false,rfl,iteF ?_⟩)⟩
   refine ⟨_,rfl,_,_,rfl,.inr (.inl ⟨e,_,_,_,false,rfl,(ha _ _ he),(hda),T.x_c,rfl,T.kit_br,false,rfl,iteF ?_⟩)⟩
   refine ⟨_,rfl,_,_,rfl,.inr (.inl ⟨e,_,_,_,false,rfl,(ha _ _ he),(hda),T.x_c,rfl,T.kit_bu,false,rfl,iteF ?_⟩)⟩
   refine ⟨_,rfl,_,_,rfl,.inr (.inl ⟨e,_,_,_,true,rfl,(ha _ _ he),(hda),T.x_c,rfl,T.kit_bo,true,rfl,iteT ?_⟩)⟩
   refine ⟨_,rfl,_,rfl,e,_,dx,_,v0,rfl,ha _ _ he,ha _ _ hdx,T.x_c,T.n_b2,lk_1,(by show 2≤sizeLine; decide),fun l1 hl1=>?_⟩
   have sb:Same Ha (upd Ha l1 (.lst [.str "column",v0])):=xm (Same.refl _) hl1
   have gb:upd Ha l1 (.lst [.str "column",v0]) l1=some (.lst [.str "column",v0]):=xg
   revert sb gb
   generalize upd Ha l1 (.lst [.str "column",v0])=Hb
   intro sb gb
   refine ⟨l0,l1,_,_,rfl,rfl,sb _ _ ga,gb,(by show 0 + 2≤sizeLine; decide),fun l2 hl2=>?_⟩
   have sc:Same Hb (upd Hb l2 (.lst ([] ++ [.str "column",v0]))):=xm (Same.refl _) hl2
   have gc:upd Hb l2 (.lst ([] ++ [.str "column",v0])) l2=some (.lst ([] ++ [.str "column",v0])):=xg
   revert sc gc
   generalize upd Hb l2 (.lst ([] ++ [.str "column",v0]))=Hc
   intro sc gc
   have hc:Same H Hc:=ha.trans (sb.trans sc)
   have hdc:∀ d,some dx=some d→∃ fs,Hc d=some (XD d fs):=fun d z=>by cases z; exact ⟨_,hc _ _ hdx⟩
   refine ⟨_,rfl,_,_,rfl,.inr (.inl ⟨e,_,_,_,false,rfl,(hc _ _ he),(hdc),T.x_c,rfl,T.kit_bv,false,rfl,iteF ?_⟩)⟩
   refine ⟨_,rfl,_,rfl,e,_,rfl,ErAt.same hc ea0,fun H9 l9 s9 g9=>?_⟩
   refine ⟨l2,l9,_,_,rfl,rfl,s9 _ _ gc,g9,(by show 2 + 0≤sizeLine; decide),fun l8 hl8=>?_⟩
   exact q _ l8 ((hc.trans s9).free hl8) (hc.trans (s9.trans (xm (Same.refl _) hl8))) (by rw [xg]; rfl)
  | sameRow v0 =>
   have ea0:=ea
   rcases ea with ⟨z,_⟩ | ⟨_,dx,he,hdx⟩
   ·cases z
   refine ⟨(by show 0≤sizeLine; exact Nat.zero_le _),fun l0 hl0=>?_⟩
   have sa:Same H (upd H l0 (.lst [])):=xm (Same.refl _) hl0
   have ga:upd H l0 (.lst []) l0=some (.lst []):=xg
   revert sa ga
   generalize upd H l0 (.lst [])=Ha
   intro sa ga
   have ha:Same H Ha:=sa
   have hda:∀ d,some dx=some d→∃ fs,Ha d=some (XD d fs):=fun d z=>by cases z; exact ⟨_,ha _ _ hdx⟩
   refine ⟨_,rfl,_,_,rfl,.inr (.inl ⟨e,_,_,_,false,rfl,(ha _ _ he),(hda),T.x_t,rfl,T.kit_dn,false,rfl,iteF ?_⟩)⟩
   refine ⟨_,rfl,_,_,rfl,.inr (.inl ⟨e,_,_,_,false,rfl,(ha _ _ he),(hda),T.x_t,rfl,T.kit_do,false,rfl,iteF ?_⟩)⟩
   refine ⟨_,rfl,_,_,rfl,.inr (.inl ⟨e,_,_,_,false,rfl,(ha _ _ he),(hda),T.x_t,rfl,T.kit_cz,false,rfl,iteF ?_⟩)⟩
   refine ⟨_,rfl,_,_,rfl,.inr (.inl ⟨e,_,_,_,false,rfl,(ha _ _ he),(hda),T.x_t,rfl,T.kit_ci,false,rfl,iteF ?_⟩)⟩
   refine ⟨_,rfl,_,_,rfl,.inr (.inl ⟨e,_,_,_,false,rfl,(ha _ _ he),(hda),T.x_t,rfl,T.kit_cj,false,rfl,iteF ?_⟩)⟩
   refine ⟨_,rfl,_,_,rfl,.inr (.inl ⟨e,_,_,_,false,rfl,(ha _ _ he),(hda),T.x_t,rfl,T.kit_c0,false,rfl,iteF ?_⟩)⟩
   refine ⟨_,rfl,_,_,rfl,.inr (.inl ⟨e,_,_,_,false,rfl,(ha _ _ he),(hda),T.x_t,rfl,T.kit_by,false,rfl,iteF ?_⟩)⟩
   refine ⟨_,rfl,_,_,rfl,.inr (.inl ⟨e,_,_,_,true,rfl,(ha _ _ he),(hda),T.x_t,rfl,T.kit_c1,true,rfl,iteT ?_⟩)⟩
   refine ⟨_,rfl,_,rfl,e,_,dx,_,v0,rfl,ha _ _ he,ha _ _ hdx,T.x_t,T.n_d5,lk_1,(by show 2≤sizeLine; decide),fun l1 hl1=>?_⟩
   have sb:Same Ha (upd Ha l1 (.lst [.str "row",v0])):=xm (Same.refl _) hl1
   have gb:upd Ha l1 (.lst [.str "row",v0]) l1=some (.lst [.str "row",v0]):=xg
   revert sb gb
   generalize upd Ha l1 (.lst [.str "row",v0])=Hb
   intro sb gb
   refine ⟨l0,l1,_,_,rfl,rfl,sb _ _ ga,gb,(by show 0 + 2≤sizeLine; decide),fun l2 hl2=>?_⟩
   have sc:Same Hb (upd Hb l2 (.lst ([] ++ [.str "row",v0]))):=xm (Same.refl _) hl2
   have gc:upd Hb l2 (.lst ([] ++ [.str "row",v0])) l2=some (.lst ([] ++ [.str "row",v0])):=xg
   revert sc gc
   generalize upd Hb l2 (.lst ([] ++ [.str "row",v0]))=Hc
   intro sc gc
   have hc:Same H Hc:=ha.trans (sb.trans sc)
   have hdc:∀ d,some dx=some d→∃ fs,Hc d=some (XD d fs):=fun d z=>by cases z; exact ⟨_,hc _ _ hdx⟩
   refine ⟨_,rfl,_,rfl,e,_,rfl,ErAt.same hc ea0,fun H9 l9 s9 g9=>?_⟩
   refine ⟨l2,l9,_,_,rfl,rfl,s9 _ _ gc,g9,(by show 2 + 0≤sizeLine; decide),fun l8 hl8=>?_⟩
   exact q _ l8 ((hc.trans s9).free hl8) (hc.trans (s9.trans (xm (Same.refl _) hl8))) (by rw [xg]; rfl)
  | noPoint v0 =>
   have ea0:=ea
   rcases ea with ⟨z,_⟩ | ⟨_,dx,he,hdx⟩
   ·cases z
   refine ⟨(by show 0≤sizeLine; exact Nat.zero_le _),fun l0 hl0=>?_⟩
   have sa:Same H (upd H l0 (.lst [])):=xm (Same.refl _) hl0
   have ga:upd H l0 (.lst []) l0=some (.lst []):=xg
   revert sa ga
   generalize upd H l0 (.lst [])=Ha
   intro sa ga
   have ha:Same H Ha:=sa
   have hda:∀ d,some dx=some d→∃ fs,Ha d=some (XD d fs):=fun d z=>by cases z; exact ⟨_,ha _ _ hdx⟩
   refine ⟨_,rfl,_,_,rfl,.inr (.inl ⟨e,_,_,_,false,rfl,(ha _ _ he),(hda),T.x_s,rfl,T.kit_dr,false,rfl,iteF ?_⟩)⟩
   refine ⟨_,rfl,_,_,rfl,.inr (.inl ⟨e,_,_,_,false,rfl,(ha _ _ he),(hda),T.x_s,rfl,T.kit_ds,false,rfl,iteF ?_⟩)⟩
   refine ⟨_,rfl,_,_,rfl,.inr (.inl ⟨e,_,_,_,false,rfl,(ha _ _ he),(hda),T.x_s,rfl,T.kit_c4,false,rfl,iteF ?_⟩)⟩
   refine ⟨_,rfl,_,_,rfl,.inr (.inl ⟨e,_,_,_,false,rfl,(ha _ _ he),(hda),T.x_s,rfl,T.kit_ck,false,rfl,iteF ?_⟩)⟩
   refine ⟨_,rfl,_,_,rfl,.inr (.inl ⟨e,_,_,_,false,rfl,(ha _ _ he),(hda),T.x_s,rfl,T.kit_cl,false,rfl,iteF ?_⟩)⟩
   refine ⟨_,rfl,_,_,rfl,.inr (.inl ⟨e,_,_,_,false,rfl,(ha _ _ he),(hda),T.x_s,rfl,T.kit_c5,false,rfl,iteF ?_⟩)⟩
   refine ⟨_,rfl,_,_,rfl,.inr (.inl ⟨e,_,_,_,false,rfl,(ha _ _ he),(hda),T.x_s,rfl,T.kit_bz,false,rfl,iteF ?_⟩)⟩
   refine ⟨_,rfl,_,_,rfl,.inr (.inl ⟨e,_,_,_,false,rfl,(ha _ _ he),(hda),T.x_s,rfl,T.kit_c6,false,rfl,iteF ?_⟩)⟩
   refine ⟨_,rfl,_,rfl,e,_,rfl,ErAt.same ha ea0,fun H9 l9 s9 g9=>?_⟩
   refine ⟨l0,l9,_,_,rfl,rfl,s9 _ _ ga,g9,(by show 0 + 2≤sizeLine; decide),fun l8 hl8=>?_⟩
   exact q _ l8 ((ha.trans s9).free hl8) (ha.trans (s9.trans (xm (Same.refl _) hl8))) (by rw [xg]; rfl)
  | oldSeat v0 v1 =>
   have ea0:=ea
   rcases ea with ⟨z,_⟩ | ⟨_,dx,he,hdx⟩
   ·cases z
   refine ⟨(by show 0≤sizeLine; exact Nat.zero_le _),fun l0 hl0=>?_⟩
   have sa:Same H (upd H l0 (.lst [])):=xm (Same.refl _) hl0
   have ga:upd H l0 (.lst []) l0=some (.lst []):=xg
   revert sa ga
   generalize upd H l0 (.lst [])=Ha
   intro sa ga
   have ha:Same H Ha:=sa
   have hda:∀ d,some dx=some d→∃ fs,Ha d=some (XD d fs):=fun d z=>by cases z; exact ⟨_,ha _ _ hdx⟩
   refine ⟨_,rfl,_,_,rfl,.inr (.inl ⟨e,_,_,_,false,rfl,(ha _ _ he),(hda),T.x_o,rfl,T.kit_dv,false,rfl,iteF ?_⟩)⟩
   refine ⟨_,rfl,_,_,rfl,.inr (.inl ⟨e,_,_,_,false,rfl,(ha _ _ he),(hda),T.x_o,rfl,T.kit_dw,false,rfl,iteF ?_⟩)⟩
   refine ⟨_,rfl,_,_,rfl,.inr (.inl ⟨e,_,_,_,false,rfl,(ha _ _ he),(hda),T.x_o,rfl,T.kit_c9,false,rfl,iteF ?_⟩)⟩
   refine ⟨_,rfl,_,_,rfl,.inr (.inl ⟨e,_,_,_,false,rfl,(ha _ _ he),(hda),T.x_o,rfl,T.kit_cm,false,rfl,iteF ?_⟩)⟩
   refine ⟨_,rfl,_,_,rfl,.inr (.inl ⟨e,_,_,_,false,rfl,(ha _ _ he),(hda),T.x_o,rfl,T.kit_cn,false,rfl,iteF ?_⟩)⟩
   refine ⟨_,rfl,_,_,rfl,.inr (.inl ⟨e,_,_,_,false,rfl,(ha _ _ he),(hda),T.x_o,rfl,T.kit_da,false,rfl,iteF ?_⟩)⟩
   refine ⟨_,rfl,_,_,rfl,.inr (.inl ⟨e,_,_,_,false,rfl,(ha _ _ he),(hda),T.x_o,rfl,T.kit_b0,false,rfl,iteF ?_⟩)⟩
   refine ⟨_,rfl,_,_,rfl,.inr (.inl ⟨e,_,_,_,false,rfl,(ha _ _ he),(hda),T.x_o,rfl,T.kit_db,false,rfl,iteF ?_⟩)⟩
   refine ⟨_,rfl,_,rfl,e,_,rfl,ErAt.same ha ea0,fun H9 l9 s9 g9=>?_⟩
   refine ⟨l0,l9,_,_,rfl,rfl,s9 _ _ ga,g9,(by show 0 + 3≤sizeLine; decide),fun l8 hl8=>?_⟩
   exact q _ l8 ((ha.trans s9).free hl8) (ha.trans (s9.trans (xm (Same.refl _) hl8))) (by rw [xg]; rfl)
  | noSeat v0 v1 =>
   have ea0:=ea
   rcases ea with ⟨z,_⟩ | ⟨_,dx,he,hdx⟩
   ·cases z
   refine ⟨(by show 0≤sizeLine; exact Nat.zero_le _),fun l0 hl0=>?_⟩
   have sa:Same H (upd H l0 (.lst [])):=xm (Same.refl _) hl0
   have ga:upd H l0 (.lst []) l0=some (.lst []):=xg
   revert sa ga
   generalize upd H l0 (.lst [])=Ha
   intro sa ga
   have ha:Same H Ha:=sa
   have hda:∀ d,some dx=some d→∃ fs,Ha d=some (XD d fs):=fun d z=>by cases z; exact ⟨_,ha _ _ hdx⟩
   refine ⟨_,rfl,_,_,rfl,.inr (.inl ⟨e,_,_,_,false,rfl,(ha _ _ he),(hda),T.x_ab,rfl,T.kit_ec,false,rfl,iteF ?_⟩)⟩
   refine ⟨_,rfl,_,_,rfl,.inr (.inl ⟨e,_,_,_,false,rfl,(ha _ _ he),(hda),T.x_ab,rfl,T.kit_ed,false,rfl,iteF ?_⟩)⟩
   refine ⟨_,rfl,_,_,rfl,.inr (.inl ⟨e,_,_,_,false,rfl,(ha _ _ he),(hda),T.x_ab,rfl,T.kit_dz,false,rfl,iteF ?_⟩)⟩
   refine ⟨_,rfl,_,_,rfl,.inr (.inl ⟨e,_,_,_,false,rfl,(ha _ _ he),(hda),T.x_ab,rfl,T.kit_de,false,rfl,iteF ?_⟩)⟩
   refine ⟨_,rfl,_,_,rfl,.inr (.inl ⟨e,_,_,_,false,rfl,(ha _ _ he),(hda),T.x_ab,rfl,T.kit_df,false,rfl,iteF ?_⟩)⟩
   refine ⟨_,rfl,_,_,rfl,.inr (.inl ⟨e,_,_,_,false,rfl,(ha _ _ he),(hda),T.x_ab,rfl,T.kit_d0,false,rfl,iteF ?_⟩)⟩
   refine ⟨_,rfl,_,_,rfl,.inr (.inl ⟨e,_,_,_,false,rfl,(ha _ _ he),(hda),T.x_ab,rfl,T.kit_b9,false,rfl,iteF ?_⟩)⟩
   refine ⟨_,rfl,_,_,rfl,.inr (.inl ⟨e,_,_,_,false,rfl,(ha _ _ he),(hda),T.x_ab,rfl,T.kit_d1,false,rfl,iteF ?_⟩)⟩
   refine ⟨_,rfl,_,rfl,e,_,rfl,ErAt.same ha ea0,fun H9 l9 s9 g9=>?_⟩
   refine ⟨l0,l9,_,_,rfl,rfl,s9 _ _ ga,g9,(by show 0 + 3≤sizeLine; decide),fun l8 hl8=>?_⟩
   exact q _ l8 ((ha.trans s9).free hl8) (ha.trans (s9.trans (xm (Same.refl _) hl8))) (by rw [xg]; rfl)
end
end S08
set_option maxRecDepth 100000
set_option maxHeartbeats 4000000
namespace S08
open PySem L2 XL PyProof.Rows
theorem xk5 {x d:Int} (h:0 < d) (h2:d≤4294967296):-(2 ^ 64) < x % d∧x % d < 2 ^ 64:=by
 have a:=Int.emod_nonneg x (show d≠0 by omega)
 have b:=Int.emod_lt_of_pos x h
 exact ⟨by omega,by omega⟩
theorem xbd (x:Int) {d:Int} (h:0 < d):0≤x % d∧x % d < d:=⟨Int.emod_nonneg _ (by omega),Int.emod_lt_of_pos _ h⟩
def xo6 (K:PySem.W.Frag):Sp:=fun vs H Q _=>∃ (a:Addr) (ns:List Int) (k:Int),vs=[.ref a,.int k]∧SqL K H a (ns.map V.int)∧0≤k∧k < 2 ^ 62∧∀ c:Int,Q (.int c) H
def xpz:Sp:=fun vs H Q _=>∃ c k:Int,vs=[.int c,.int k]∧∀ m:Int,0≤m→m < 2147483587→Q (.int m) H
def abc:Str:="abcdefghijklmnopqrstuvwxyz"
theorem xnu:abc.cps.toList=(List.range 26).map (97 + ·):=by decide +kernel
def ltr (i:Int):Str:=⟨#[97 + i.toNat]⟩
theorem xnr {i:Int} (h0:0≤i) (h1:i < 26):atI abc.cps.toList i=some (97 + i.toNat):=by
 obtain ⟨j,rfl⟩:=Int.eq_ofNat_of_zero_le h0
 have lt:j < 26:=by omega
 refine xfa ?_
 rw [xnu,List.getElem?_map,List.getElem?_range lt]
 rfl
theorem xmb {i:Int} (h0:0≤i) (h1:i < 26):isNm (ltr i)=true:=by
 unfold isNm ltr
 have g1:¬ ([97 + i.toNat] < [97]):=by rw [List.cons_lt_cons_iff]; rintro (z | ⟨_,z⟩); omega; cases z
 have g2:¬ ([122] < [97 + i.toNat]):=by rw [List.cons_lt_cons_iff]; rintro (z | ⟨_,z⟩); omega; cases z
 show (decide (1=1) && (!decide ([97 + i.toNat] < [97]) && !decide ([122] < [97 + i.toNat])))=true
 rw [decide_eq_false g1,decide_eq_false g2]
 rfl
def xqt:List Int:=[1,3,5,7,9,11,15,17,19,21,23,25]
section
variable {P:Program} {w:World} {K:PySem.W.Frag} {mg:Str→Option Value} {base:Heap} {t:Adr}
theorem ok_a4 (T:Txt w K mg t):FnOk true P w K mg base (CXo P w) 1 t.f_a4 t.d_a4 ["_law_script", "_law_k"] (xo6 K):=by
 refine T.F_a4.okn (k:=0) sc_a4 (fun vs H Q E h=>?_) (fun cdv A outer s H vs Q E hr h=>?_)
 ·obtain ⟨a,ns,k,rfl,_⟩:=h
  rfl
 ·obtain ⟨a,ns,k,rfl,h⟩:=h
  refine ⟨_,xi (xaa (x8 xpm (pv 1) (xaj xco rfl T.n_len boot_len (xf (pv 0) (xh))) (xab _)) (xk (xaf (xw xak (pv 0) (pv 1) (fun _ _=>rfl)))) (xx))
   (xk (xaf (xu xa3 (xu xdo (xo) (pv 1)) (xo)))),?_⟩
  obtain ⟨hs,k0,k1,q⟩:=h
  refine ⟨_,rfl,_,rfl,a,_,rfl,.inl hs,_,_,rfl,rfl,_,rfl,?_⟩
  refine ite2 (fun c=>?_) (fun c=>?_)
  ·have c':k < (ns.length:Int):=by simpa using c
   obtain ⟨j,rfl⟩:=Int.eq_ofNat_of_zero_le k0
   have lt:j < ns.length:=by omega
   exact ⟨_,rfl,_,rfl,a,_,_,_,rfl,rfl,hs,xfa (by rw [List.getElem?_map,List.getElem?_eq_getElem lt]; rfl),q _⟩
  ·exact ⟨_,rfl,_,_,rfl,rfl,.inl ⟨by decide,by decide⟩,_,_,rfl,rfl,q _⟩
theorem ok_ap (T:Txt w K mg t):FnOk true P w K mg base (CXo P w) 1 t.f_ap t.d_ap ["_law_cell_here", "_law_k"] (xpz):=by
 refine T.F_ap.okn (k:=0) sc_ap (fun vs H Q E h=>?_) (fun cdv A outer s H vs Q E hr h=>?_)
 ·obtain ⟨c,k,rfl,_⟩:=h
  rfl
 ·obtain ⟨c,k,rfl,h⟩:=h
  refine ⟨_,xi (xae (i:=2) sc_ap.nd rfl (Or.inl rfl) (xu xa5 (xu xa3 (pv 0) (xu xdo (xo) (pv 1))) (xo)))
   (xi (xae (i:=2) sc_ap.nd rfl (Or.inl rfl) (xu xa5 (xu xa3 (xu xdo (pv 2) (xo)) (pv 1)) (xo)))
   (xi (xae (i:=2) sc_ap.nd rfl (Or.inl rfl) (xu xa5 (xu xdo (pv 2) (xu xa3 (pv 2) (xo))) (xo)))
   (xk (xaf (xu xa5 (xu xdo (pv 2) (xu xa3 (pv 2) (xo))) (xo)))))),?_⟩
  refine ⟨_,rfl,_,rfl,_,_,rfl,rfl,.inl ⟨by decide,by decide⟩,_,_,rfl,rfl,_,_,rfl,rfl,(by show (0:Int) < 2147483647; decide),?_⟩
  refine ⟨_,rfl,_,_,rfl,rfl,.inr ⟨by decide,by decide⟩,_,rfl,_,_,rfl,rfl,_,_,rfl,rfl,(by show (0:Int) < 2147483647; decide),?_⟩
  refine ⟨_,rfl,_,rfl,_,_,rfl,rfl,_,_,rfl,rfl,.inl (xk5 (by decide) (by decide)),_,_,rfl,rfl,(by show (0:Int) < 2147483629; decide),?_⟩
  refine ⟨_,rfl,_,rfl,_,_,rfl,rfl,_,_,rfl,rfl,.inl (xk5 (by decide) (by decide)),_,_,rfl,rfl,(by show (0:Int) < 2147483587; decide),?_⟩
  exact h _ (xbd _ (by decide)).1 (xbd _ (by decide)).2
end
end S08
set_option maxRecDepth 100000
set_option maxHeartbeats 4000000
namespace S08
open PySem L2 XL PyProof.Rows
theorem xam.keys {H:Hp} {ss:List Seat} {rs:List Addr} (h:xam H ss rs):∃ ts:List (List Key × Addr),ts.map (·.2)=rs∧ts.map (·.1)=ss.map xai∧∀ t ∈ ts,H t.2=some (.tup (t.1.map kV)):=by
 induction h with
 | nil=>exact ⟨[],rfl,rfl,fun t ht=>(nomatch ht)⟩
 | @cons s q ss qs h _ ih =>
  obtain ⟨ts,h1,h2,h3⟩:=ih
  refine ⟨(xai s,q) :: ts,by simp [h1],by simp [h2],fun t ht=>?_⟩
  rcases List.mem_cons.mp ht with z | z
  ·rw [z]; exact h
  ·exact h3 t z
theorem xd0 {H:Hp} {m:Addr} {s2:List Seat} {rs:List Addr} {Q:VK} (hm:H m=some (.lst (rs.map V.ref))) (sts:xam H s2 rs) (nd:s2.Nodup) (len2:s2.length≤32)
    (q:∀ (l:Addr) (srt:List Seat) (qs:List Addr),H l=none→xam H srt qs→srt.Perm s2→srt.Pairwise xb2→Q (.ref l) (upd H l (.lst (qs.map V.ref)))):xhv [.ref m] H Q:=by
  obtain ⟨ts,e1,e2,e3⟩:=sts.keys
  have lts:ts.length=s2.length:=by
    have:=congrArg List.length e2
    simpa using this
  refine ⟨m,ts,[false,true],rfl,?_,by omega,e3,fun t ht=>?_,by decide,?_,fun l4 ts4 fr4 pm4 pw4=>?_⟩
  · rw [hm,← e1,List.map_map]
    rfl
  · obtain ⟨s,_,e⟩:=List.mem_map.mp (show t.1 ∈ s2.map xai by rw [← e2]; exact List.mem_map.mpr ⟨t,ht,rfl⟩)
    rw [← e]
    rfl
  · rw [e2]
    exact xev (fun a b e=>xez e) nd
  · have back:∀ t ∈ ts4,xai (unK t.1)=t.1:=fun t ht=>by
      obtain ⟨s,_,e⟩:=List.mem_map.mp (show t.1 ∈ s2.map xai by rw [← e2]; exact List.mem_map.mpr ⟨t,pm4.mem_iff.mp ht,rfl⟩)
      rw [← e,xeg]
    have ep:((ts4.map (·.1)).map unK).Perm s2:=by
      have z:=(pm4.map (·.1)).map unK
      have e4:(ts.map (·.1)).map unK=s2:=by
        rw [e2,List.map_map,show (unK ∘ xai)=id from funext xeg]
        exact List.map_id _
      rw [e4] at z
      exact z
    have epw:((ts4.map (·.1)).map unK).Pairwise xb2:=by
      rw [List.pairwise_map] at pw4
      rw [List.map_map,List.pairwise_map]
      refine pw4.imp_of_mem fun {x y} hx hy hxy=>xh9 ?_
      show lexK (xai (unK x.1)) (xai (unK y.1))=true
      rw [back x hx,back y hy]
      exact hxy
    have st4:xam H ((ts4.map (·.1)).map unK) (ts4.map (·.2)):=by
      have tm:∀ t ∈ ts4,H t.2=some (.tup (t.1.map kV)):=fun t ht=>e3 t (pm4.mem_iff.mp ht)
      clear pm4 pw4 ep epw
      induction ts4 with
      | nil=>exact .nil
      | cons t ts ih =>
        refine .cons ?_ (ih (fun x hx=>back x (List.mem_cons_of_mem _ hx)) fun x hx=>tm x (List.mem_cons_of_mem _ hx))
        have e:=tm t List.mem_cons_self
        rw [← back t List.mem_cons_self] at e
        exact e
    have z:=q l4 _ _ fr4 st4 ep epw
    rw [List.map_map] at z
    exact z
section
variable {P:Program} {w:World} {K:PySem.W.Frag} {mg:Str→Option Value} {base:Heap} {t:Adr}
end
end S08
set_option maxRecDepth 100000
set_option maxHeartbeats 4000000
namespace S08
open PySem L2 XL PyProof.Rows
def xhp:Option Er→List V
 | some er=>er.told
 | none=>[]
theorem xdh {K:PySem.W.Frag} {H:Hp} {n:Nat} {e:Addr} (h:H e=some (.lst [])):Dv K H (n + 1) (.ref e) (.lst []):=.lst (SqL.of h) rfl (fun j x d e _=>by simp at e)
theorem xp2 (n:Int):∃ b:Bool,atI [V.str "left",V.str "right"] (n % 2)=some (.str (x6 b)):=by
 obtain ⟨h0,h1⟩:=xbd n (show (0:Int) < 2 by decide)
 have:n % 2=0∨n % 2=1:=by omega
 rcases this with e | e <;> rw [e]
 ·exact ⟨true,rfl⟩
 ·exact ⟨false,rfl⟩
theorem xof (m:Int):∃ x:Str,atI [V.str "both",V.str "left",V.str "right"] (m % 3)=some (.str x)∧(x="left"∨x="right"∨x="both"):=by
 obtain ⟨h0,h1⟩:=xbd m (show (0:Int) < 3 by decide)
 have:m % 3=0∨m % 3=1∨m % 3=2:=by omega
 rcases this with e | e | e <;> rw [e]
 ·exact ⟨"both",rfl,.inr (.inr rfl)⟩
 ·exact ⟨"left",rfl,.inl rfl⟩
 ·exact ⟨"right",rfl,.inr (.inl rfl)⟩
def Way (wy:Str):Prop:=wy="put"∨wy="move"∨wy="take"∨wy="open"∨wy="shut"
theorem xo2 (m:Int):∃ x:Str,atI [V.str "put",.str "put",.str "put",.str "move",.str "take",.str "open",.str "open",.str "shut"] (m % 8)=some (.str x)∧Way x:=by
 obtain ⟨h0,h1⟩:=xbd m (show (0:Int) < 8 by decide)
 have:m % 8=0∨m % 8=1∨m % 8=2∨m % 8=3∨m % 8=4∨m % 8=5∨m % 8=6∨m % 8=7:=by omega
 rcases this with e | e | e | e | e | e | e | e <;> rw [e]
 ·exact ⟨_,rfl,.inl rfl⟩
 ·exact ⟨_,rfl,.inl rfl⟩
 ·exact ⟨_,rfl,.inl rfl⟩
 ·exact ⟨_,rfl,.inr (.inl rfl)⟩
 ·exact ⟨_,rfl,.inr (.inr (.inl rfl))⟩
 ·exact ⟨_,rfl,.inr (.inr (.inr (.inl rfl)))⟩
 ·exact ⟨_,rfl,.inr (.inr (.inr (.inl rfl)))⟩
 ·exact ⟨_,rfl,.inr (.inr (.inr (.inr rfl)))⟩
def xny:Sp:=fun vs H Q _=>∃ (c k:Int),vs=[.int c,.int k]∧∀ (H':Hp) (l:Addr) (d0 d1 d2 d3 d4 d5 d6:Int),Same H H'→H' l=some (.lst [.int d0,.int d1,.int d2,.int d3,.int d4,.int d5,.int d6])→Q (.ref l) H'
def xqr:Sp:=fun vs H Q _=>∃ (l qr:Addr) (ps:List Pt) (qs:List Addr) (p:Pt),vs=[.ref l,.ref qr]∧H l=some (.lst (qs.map V.ref))∧PtsL H ps qs∧H qr=some (.tup (.str p.nm :: ptV p))∧∀ H' m,Same H H'→H' m=some (.lst (xhp (xbk ps p.nm p.x p.y)))→Q (.ref m) H'
theorem xfc {a b:Str}:dEq (.str a) (.str b)=decide (a=b):=by
 rw [Bool.eq_iff_iff,decide_eq_true_iff]
 simp [dEq]
theorem xmz {a b:Int}:dEq (.int a) (.int b)=decide (a=b):=by
 rw [Bool.eq_iff_iff,decide_eq_true_iff]
 simp [dEq]
section
variable {P:Program} {w:World} {K:PySem.W.Frag} {mg:Str→Option Value} {base:Heap} {t:Adr}
theorem ok_ar (T:Txt w K mg t):FnOk true P w K mg base (CXo P w) 2 t.f_ar t.d_ar ["_law_cell_here", "_law_k"] (xny):=by
 refine T.F_ar.okn (k:=1) sc_ar (fun vs H Q E h=>?_) (fun cdv A outer s H vs Q E hr h=>?_)
 ·obtain ⟨c,k,rfl,_⟩:=h
  rfl
 ·obtain ⟨c,k,rfl,h⟩:=h
  refine ⟨_,xi (xaa (x8 xa6 (xu xa5 (pv 0) (xo)) (xo) (xab _)) (xk (xaf (xby rfl (xbf (zs:=["_law_j"]) (ys:=["_law_cell_here"]) (fr:=[0]) (N0:=["_law_cell_here", "_law_k"]) (sc0:=xj s_ar) (by decide +kernel) rfl rfl rfl) (xe2 rfl T.n_range (xf (xo) (xh))) (fun _ _ _ _ _ ow nd=>xq (i:=0) nd rfl (Or.inl (ow _ (by simp))) (Or.inr (ow _ (by simp)))) (xb5 (by decide)) (fun _ _ _ _ _=>xbz) (fun _ _ _ _ _=>xu xa5 (xu xo7 (pv 1) (xu xa3 (xo) (xu xdo (xo) (pv 0)))) (xu xn9 (xo) (xo)))))) (xx))
   (xk (xaf (xby rfl (xbf (zs:=["_law_j"]) (ys:=["_law_cell_here", "_law_k"]) (fr:=[0,1]) (N0:=["_law_cell_here", "_law_k"]) (sc0:=xj s_ar) (by decide +kernel) rfl rfl rfl) (xe2 rfl T.n_range (xf (xo) (xh))) (fun _ _ _ _ _ ow nd=>xq (i:=0) nd rfl (Or.inl (ow _ (by simp))) (Or.inr (ow _ (by simp)))) (xb5 (by decide)) (fun _ _ _ _ _=>xbz) (fun _ _ _ _ _=>xao (ok_ap T) (hr.mono (by decide)) rfl T.g_ap T.F_ap.kp T.b_ap .nil xp (xf (pv 1) (xf (xu xa3 (xu xdo (xo) (pv 2)) (pv 0)) (xh))))))),?_⟩
  have fin:∀ (ys:List V) (H1:Hp) (l:Addr),Same H H1→H1 l=some (.lst ys)→ys.length=7→(∀ (i:Nat) (y:V),ys[i]?=some y→∃ z:Int,y=.int z)→Q (.ref l) H1:=fun ys H1 l s1 el1 ly f=>by
   obtain ⟨y0,y1,y2,y3,y4,y5,y6,rfl⟩:∃ y0 y1 y2 y3 y4 y5 y6,ys=[y0,y1,y2,y3,y4,y5,y6]:=by
    match ys,ly with
    | [a,b,c,d,e,f,g],_=>exact ⟨a,b,c,d,e,f,g,rfl⟩
   obtain ⟨d0,rfl⟩:=f 0 y0 rfl
   obtain ⟨d1,rfl⟩:=f 1 y1 rfl
   obtain ⟨d2,rfl⟩:=f 2 y2 rfl
   obtain ⟨d3,rfl⟩:=f 3 y3 rfl
   obtain ⟨d4,rfl⟩:=f 4 y4 rfl
   obtain ⟨d5,rfl⟩:=f 5 y5 rfl
   obtain ⟨d6,rfl⟩:=f 6 y6 rfl
   exact h H1 l d0 d1 d2 d3 d4 d5 d6 s1 el1
  refine ⟨_,rfl,_,_,rfl,rfl,(by show (0:Int) < 4; decide),rfl,_,rfl,ite2 (fun cc=>?_) (fun cc=>?_)⟩
  ·refine ⟨7,rfl,by decide,by decide,fun l1 hl1=>?_⟩
   refine xf1 (m:=7) (by decide) hl1 (fun i y _=>∃ z:Int,y=.int z) (fun _ _ _ _ _ z=>z) (fun i H2 hi s2 N hN=>?_) (fun ys H1 s1 el1 ly f=>fin ys H1 l1 s1 el1 ly f)
   exact ⟨_,rfl,_,rfl,_,_,rfl,rfl,.inl ⟨by decide,by decide⟩,_,_,rfl,rfl,_,_,rfl,rfl,(by show (0:Int)≤2 + 40 * (0 + (i:Int)); omega),_,_,rfl,rfl,⟨by decide,by decide,by decide⟩,_,_,rfl,rfl,(by show (0:Int) < 2 ^ (40:Int).toNat; decide),hN _ _ (Same.refl _) ⟨_,rfl⟩⟩
  ·refine ⟨7,rfl,by decide,by decide,fun l1 hl1=>?_⟩
   refine xf1 (m:=7) (by decide) hl1 (fun i y _=>∃ z:Int,y=.int z) (fun _ _ _ _ _ z=>z) (fun i H2 hi s2 N hN=>?_) (fun ys H1 s1 el1 ly f=>fin ys H1 l1 s1 el1 ly f)
   exact ⟨_,rfl,_,rfl,_,_,rfl,rfl,.inl ⟨by decide,by decide⟩,_,rfl,_,_,rfl,rfl,c,_,rfl,fun m m0 m1=>hN _ _ (Same.refl _) ⟨m,rfl⟩⟩
theorem ok_ba (T:Txt w K mg t):FnOk true P w K mg base (CXo P w) 1 t.f_ba t.d_ba ["_law_rows", "_law_row"] (xqr):=by
 refine T.F_ba.okn (k:=0) sc_ba (fun vs H Q E h=>?_) (fun cdv A outer s H vs Q E hr h=>?_)
 ·obtain ⟨l,qr,ps,qs,p,rfl,_⟩:=h
  rfl
 ·obtain ⟨l,qr,ps,qs,p,rfl,h⟩:=h
  refine ⟨_,xi (xbr PassesOwn.never rfl (xa0 (xal (xf (xo) (xf (xo) (xh))))) (xq (i:=2) sc_ba.nd rfl (Or.inl rfl)) (xk (xbr PassesOwn.never rfl (xa0 (pv 0)) (xq (i:=3) sc_ba.nd rfl (Or.inl rfl)) (xk (xaa (PW.pt (xd9 (x8 (xii (xbb hr)) (xw xad (pv 3) (pv 2) (fun _ _=>rfl)) (xw xad (pv 1) (pv 2) (fun _ _=>rfl)) (xab _)) (xdf (x8 (xb1 (xbb hr)) (xw xad (pv 3) (xo) (fun _ _=>rfl)) (xw xad (pv 1) (xo) (fun _ _=>rfl)) (xab _))))) (xk (xaf (xal (xf (xw xak (xal (xf (x4) (xf (x4) (xh)))) (xu xbm (pv 2) (xo)) (fun _ _=>rfl)) (xf (xw xad (pv 3) (xo) (fun _ _=>rfl)) (xh)))))) (xx))))))
   (xk (xaf (xal (xh)))),?_⟩
  obtain ⟨hl,pts,hqr,q⟩:=h
  have ql:=pts.len
  refine ⟨(by show 2≤sizeLine; decide),fun la hla=>?_⟩
  have s8:Same H (upd H la (.lst [.int 1,.int 2])):=xm (Same.refl _) hla
  have g8:upd H la (.lst [.int 1,.int 2]) la=some (.lst [.int 1,.int 2]):=xg
  revert s8 g8
  generalize upd H la (.lst [.int 1,.int 2])=H8
  intro s8 g8
  refine ⟨la,rfl,⟨_,SqL.of g8⟩,?_⟩
  refine xbo (xs:=[.int 1,.int 2]) (Pv:=fun i σ H3=>∃ (v2 v3:Option V),σ=[some (V.ref l),some (.ref qr),v2,v3]∧Same H8 H3∧(0 < i→ps.find? (fun p'=>decide (p'.nm≠p.nm) && decide (p'.x=p.x))=none)∧(1 < i→ps.find? (fun p'=>decide (p'.nm≠p.nm) && decide (p'.y=p.y))=none)) ⟨_,_,rfl,Same.refl _,fun z=>absurd z (Nat.lt_irrefl _),fun z=>absurd z (by decide)⟩ (fun _ _ _ _ ⟨_,_,_,z,_⟩=>SqL.of (z _ _ g8)) ?_ ?_
  ·rintro i v σ H3 hv ⟨v2,v3,rfl,s3,n1,n2⟩
   have hi2:i < 2:=by
    have:=(List.getElem?_eq_some_iff.mp hv).1
    simpa using this
   obtain ⟨av,rfl,eav⟩:∃ av:Int,v=.int av∧av=1 + (i:Int):=by
    have:i=0∨i=1:=by omega
    rcases this with rfl | rfl
    ·exact ⟨1,(Option.some.inj hv).symm,rfl⟩
    ·exact ⟨2,(Option.some.inj hv).symm,rfl⟩
   have s03:=s8.trans s3
   have hl3:=s03 _ _ hl
   refine ⟨_,rfl,l,rfl,⟨_,SqL.of hl3⟩,?_⟩
   refine xbo (xs:=qs.map V.ref) (Pv:=fun k σ H4=>∃ (v3:Option V),σ=[some (V.ref l),some (.ref qr),some (.int av),v3]∧Same H3 H4∧∀ (j:Nat) (p':Pt),j < k→ps[j]?=some p'→(decide (p'.nm≠p.nm) && decide ((if i=0 then p'.x else p'.y)=if i=0 then p.x else p.y))=false) ⟨_,rfl,Same.refl _,fun j p' z=>absurd z (Nat.not_lt_zero _)⟩ (fun _ _ _ _ ⟨_,_,z,_⟩=>SqL.of (z _ _ hl3)) ?_ ?_
   ·rintro k v σ H4 hv ⟨v3,rfl,s4,no⟩
    rw [List.getElem?_map] at hv
    obtain ⟨o,ho,rfl⟩:=Option.map_eq_some_iff.mp hv
    have s04:=s03.trans s4
    obtain ⟨p0,hpp,ep⟩:=(pts.keep (Same.tups s04)).get ho
    have hq4:=s04 _ _ hqr
    have ix:atI (V.str p0.nm :: ptV p0) av=some (.int (if i=0 then p0.x else p0.y)):=by
     have:i=0∨i=1:=by omega
     rcases this with rfl | rfl <;> rw [eav] <;> rfl
    have ix2:atI (V.str p.nm :: ptV p) av=some (.int (if i=0 then p.x else p.y)):=by
     have:i=0∨i=1:=by omega
     rcases this with rfl | rfl <;> rw [eav] <;> rfl
    have stay:(decide (p0.nm≠p.nm) && decide ((if i=0 then p0.x else p0.y)=if i=0 then p.x else p.y))=false→∃ (v3:Option V),[some (V.ref l),some (V.ref qr),some (V.int av),some (V.ref o)]=[some (V.ref l),some (.ref qr),some (.int av),v3]∧Same H3 H4∧∀ (j:Nat) (p':Pt),j < k + 1→ps[j]?=some p'→(decide (p'.nm≠p.nm) && decide ((if i=0 then p'.x else p'.y)=if i=0 then p.x else p.y))=false:=fun e=>⟨_,rfl,s4,fun j p' hj hp'=>by
     by_cases z:j=k
     ·subst z
      rw [hpp] at hp'
      cases hp'
      exact e
     ·exact no j p' (by omega) hp'⟩
    refine ⟨_,rfl,_,rfl,o,_,_,_,rfl,rfl,SqT.of ep,ix,_,rfl,_,rfl,qr,_,_,_,rfl,rfl,SqT.of hq4,ix2,0,0,.int _,.int _,.int,.int,by decide,by decide,_,rfl,?_⟩
    by_cases c1:(if i=0 then p0.x else p0.y)=if i=0 then p.x else p.y
    ·refine ifP (by rw [xmz]; exact decide_eq_true c1) ?_
     refine ⟨_,rfl,o,_,0,_,rfl,rfl,SqT.of ep,rfl,_,rfl,qr,_,0,_,rfl,rfl,SqT.of hq4,rfl,0,0,.str _,.str _,.str,.str,by decide,by decide,_,rfl,?_⟩
     by_cases c2:p0.nm=p.nm
     ·exact ifN (by rw [xfc,decide_eq_true c2]; rfl) (stay (by rw [decide_eq_false (fun z=>z c2)]; rfl))
     ·refine ifP (by rw [xfc,decide_eq_false c2]; rfl) ?_
      refine ⟨(by show 2≤sizeLine; decide),fun q6 hq6=>?_⟩
      have s6:Same H4 (upd H4 q6 (.lst [.str "column",.str "row"])):=xm (Same.refl _) hq6
      have g6:upd H4 q6 (.lst [.str "column",.str "row"]) q6=some (.lst [.str "column",.str "row"]):=xg
      revert s6 g6
      generalize upd H4 q6 (.lst [.str "column",.str "row"])=H6
      intro s6 g6
      have ix3:atI [V.str "column",.str "row"] (av - 1)=some (.str (if i=0 then "column" else "row")):=by
       have:i=0∨i=1:=by omega
       rcases this with rfl | rfl <;> rw [eav] <;> rfl
      refine ⟨_,rfl,_,_,rfl,rfl,q6,_,_,_,rfl,rfl,SqL.of g6,ix3,_,rfl,o,_,0,_,rfl,rfl,SqT.of (s6 _ _ ep),rfl,(by show 2≤sizeLine; decide),fun m hm=>?_⟩
      refine q _ m (xm (s04.trans s6) hm) ?_
      have fnd:=xgp (f:=fun p'=>decide (p'.nm≠p.nm) && decide ((if i=0 then p'.x else p'.y)=if i=0 then p.x else p.y)) hpp (by rw [decide_eq_true c2,decide_eq_true c1]; rfl) no
      have:i=0∨i=1:=by omega
      rcases this with rfl | rfl
      ·have fnd':ps.find? (fun p'=>decide (p'.nm≠p.nm) && decide (p'.x=p.x))=some p0:=fnd
       unfold xbk
       rw [fnd']
       exact xg
      ·have fnd':ps.find? (fun p'=>decide (p'.nm≠p.nm) && decide (p'.y=p.y))=some p0:=fnd
       unfold xbk
       rw [n1 (by decide),fnd']
       exact xg
    ·exact ifN (by rw [xmz]; exact decide_eq_false c1) (stay (by rw [decide_eq_false c1,Bool.and_false]))
   ·rintro σ H4 ⟨v3,rfl,s4,no⟩
    have no':ps.find? (fun p'=>decide (p'.nm≠p.nm) && decide ((if i=0 then p'.x else p'.y)=if i=0 then p.x else p.y))=none:=by
     rw [List.find?_eq_none]
     intro p' hp
     obtain ⟨j,hj⟩:=List.getElem?_of_mem hp
     rw [no j p' (by rw [List.length_map,ql]; exact (List.getElem?_eq_some_iff.mp hj).1) hj]
     decide
    have:i=0∨i=1:=by omega
    rcases this with rfl | rfl
    ·exact ⟨_,_,rfl,s3.trans s4,fun _=>no',fun z=>absurd z (by decide)⟩
    ·exact ⟨_,_,rfl,s3.trans s4,fun _=>n1 (by decide),fun _=>no'⟩
  ·rintro σ H3 ⟨v2,v3,rfl,s3,n1,n2⟩
   refine ⟨(by show 0≤sizeLine; exact Nat.zero_le _),fun m hm=>?_⟩
   refine q _ m (xm (s8.trans s3) hm) ?_
   unfold xbk
   rw [n1 (by decide),n2 (by decide)]
   exact xg
end
end S08
set_option maxRecDepth 100000
set_option maxHeartbeats 4000000
namespace S08
open PySem L2 XL PyProof.Rows
def xol:Sp:=fun vs H Q _=>∃ (c k w h:Int) (sz l:Addr) (ps:List Pt) (qs:List Addr),vs=[.int c,.int k,.ref sz,.ref l]∧H sz=some (.tup [.int w,.int h])∧1≤w∧1≤h∧H l=some (.lst (qs.map V.ref))∧PtsL H ps qs∧xba w h ps ∧
 ∀ (H':Hp) (dq qr qz:Addr) (wy:Str) (p:Pt) (z:Seat),Same H H'→H' dq=some (.lst [.str wy,.ref qr,.ref qz])→H' qr=some (.tup (.str p.nm :: ptV p))→H' qz=some (.tup (xbu z))→Way wy→PtOk w h p→1≤z.2→z.2≤h→Q (.ref dq) H'
section
variable {P:Program} {w:World} {K:PySem.W.Frag} {mg:Str→Option Value} {base:Heap} {t:Adr}
theorem ok_ax (T:Txt w K mg t):FnOk true P w K mg base (CXo P w) 3 t.f_ax t.d_ax ["_law_cell_here", "_law_k", "_law_size", "_law_rows"] (xol):=by
 refine T.F_ax.okn (k:=2) sc_ax (fun vs H Q E h=>?_) (fun cdv A outer s H vs Q E hr h=>?_)
 ·obtain ⟨c,k,w',ht,sz,l,ps,qs,rfl,_⟩:=h
  rfl
 ·obtain ⟨c,k,w',ht,sz,l,ps,qs,rfl,h⟩:=h
  refine ⟨_,xi (xae (i:=4) sc_ax.nd rfl (Or.inl rfl) (xao (ok_ar T) (hr.mono (by decide)) rfl T.g_ar T.F_ar.kp T.b_ar .nil xp (xf (pv 0) (xf (pv 1) (xh)))))
   (xi (xae (i:=5) sc_ax.nd rfl (Or.inl rfl) (xw xo0 (x4) (xu xa5 (xu xb6 (xw xak (pv 4) (xo) (fun _ _=>rfl)) (xo)) (xo)) (fun _ _=>rfl)))
   (xi ((by (with_reducible refine' xae (i:=6) ?n13 ?i14 ?x15 ?e16 ?s17 ?f18); (case n13=>exact sc_ax.nd); (case i14=>rfl); (case x15=>exact Or.inl rfl); (case f18=>exact Or.inl rfl); (case e16=>((with_reducible refine' xw (r:=rIxL K) ?r19 ?l20 ?j21 ?p22); (case r19=>exact xak); (case p22=>exact fun _ _=>rfl); (case j21=>exact xu xa5 (xw xak (pv 4) (xo) (fun _ _=>rfl)) (xo)); (case l20=>((with_reducible refine' xal ?p23); (case p23=>((with_reducible refine' xf ?e24 ?q25 rfl); (case e24=>exact x4); (case q25=>((with_reducible refine' xf ?e26 ?q27 rfl); (case e26=>exact x4); (case q27=>((with_reducible refine' xf ?e28 ?q29 rfl); (case e28=>exact x4); (case q29=>((with_reducible refine' xf ?e30 ?q31 rfl); (case e30=>exact x4); (case q31=>((with_reducible refine' xf ?e32 ?q33 rfl); (case e32=>exact x4); (case q33=>((with_reducible refine' xf ?e34 ?q35 rfl); (case e34=>exact x4); (case q35=>((with_reducible refine' xf ?e36 ?q37 rfl); (case e36=>exact x4); (case q37=>((with_reducible refine' xf ?e38 ?q39 rfl); (case e38=>exact x4); (case q39=>((exact xh))))))))))))))))))))))); (case s17=>rfl)))
   (xi (xew (xaa (PW.pt (xd9 (x8 (xb1 (xbb hr)) (pv 3) (xal (xh)) (xab _)) (xdf (x8 xa6 (xdg xj8 (xu xa5 (xw xak (pv 4) (xo) (fun _ _=>rfl)) (xo)) (xo) (xab _)) (xdg xhr (pv 6) (x4) (xab _)) (xab _))))) (xk (xae (i:=5) sc_ax.nd rfl (Or.inl rfl) (xw xad (xw xak (pv 3) (xu xa5 (xu xb6 (xw xak (pv 4) (xo) (fun _ _=>rfl)) (xo)) (xaj xco rfl T.n_len boot_len (xf (pv 3) (xh)))) (fun _ _=>rfl)) (xo) (fun _ _=>rfl)))) (xx)))
   (xi (xae (i:=7) sc_ax.nd rfl (Or.inl rfl) (xu xa3 (xo) (xu xa5 (xw xak (pv 4) (xo) (fun _ _=>rfl)) (xw xad (pv 2) (xo) (fun _ _=>rfl)))))
   (xi (xae (i:=8) sc_ax.nd rfl (Or.inl rfl) (xu xa3 (xo) (xu xa5 (xw xak (pv 4) (xo) (fun _ _=>rfl)) (xw xad (pv 2) (xo) (fun _ _=>rfl)))))
   (xi (xae (i:=9) sc_ax.nd rfl (Or.inl rfl) (xu xa3 (xo) (xu xa5 (xw xak (pv 4) (xo) (fun _ _=>rfl)) (xw xad (pv 2) (xo) (fun _ _=>rfl)))))
   (xi (xae (i:=10) sc_ax.nd rfl (Or.inl rfl) (xw xak (xal (xf (x4) (xf (x4) (xf (x4) (xh))))) (xu xa5 (xw xak (pv 4) (xo) (fun _ _=>rfl)) (xo)) (fun _ _=>rfl)))
   (xi (xae (i:=11) sc_ax.nd rfl (Or.inl rfl) (xat (xf (xw xak (xal (xf (x4) (xf (x4) (xh)))) (xu xa5 (xu xb6 (xw xak (pv 4) (xo) (fun _ _=>rfl)) (xo)) (xo)) (fun _ _=>rfl)) (xf (xu xa3 (xo) (xu xa5 (xw xak (pv 4) (xo) (fun _ _=>rfl)) (xw xad (pv 2) (xo) (fun _ _=>rfl)))) (xh)))))
   (xk ((by (with_reducible refine' xaf ?e5); (case e5=>((with_reducible refine' xal ?p6); (case p6=>((with_reducible refine' xf ?e7 ?q8 rfl); (case e7=>exact pv 6); (case q8=>((with_reducible refine' xf ?e9 ?q10 rfl); (case e9=>exact xat (x0 (pv 5) (x0 (pv 7) (x0 (pv 8) (x0 (pv 10) (x0 (pv 9) (x0 (xu xa3 (pv 9) (xu xa5 (xu xb6 (xw xak (pv 4) (xo) (fun _ _=>rfl)) (xo)) (xu xbm (xu xa3 (xw xad (pv 2) (xo) (fun _ _=>rfl)) (xo)) (pv 9)))) (xh) rfl) rfl) rfl) rfl) rfl) rfl)); (case q10=>((with_reducible refine' xf ?e11 ?q12 rfl); (case e11=>exact pv 11); (case q12=>((exact xh)))))))))))))))))))))),?_⟩
  obtain ⟨hsz,w1,h1,hl,pts,pok,q⟩:=h
  have ql:=pts.len
  refine ⟨_,rfl,_,rfl,c,k,rfl,fun H1 l1 d0 d1 d2 d3 d4 d5 d6 s1 hl1=>?_⟩
  refine ⟨_,rfl,l1,_,0,_,rfl,rfl,SqL.of hl1,rfl,_,_,rfl,rfl,⟨by decide,by decide⟩,_,_,rfl,rfl,(by show (0:Int) < 26; decide),abc,_,_,rfl,rfl,(by decide +kernel),xnr (xbd _ (by decide)).1 (xbd _ (by decide)).2,?_⟩
  dsimp only
  rw [show (⟨#[97 + (d0 / 4 % 26).toNat]⟩:Str)=ltr (d0 / 4 % 26) from rfl]
  refine ⟨(by show 8≤sizeLine; decide),fun q2 hq2=>?_⟩
  have s2:Same H1 (upd H1 q2 (.lst [.str "put",.str "put",.str "put",.str "move",.str "take",.str "open",.str "open",.str "shut"])):=xm (Same.refl _) hq2
  have g2:upd H1 q2 (.lst [.str "put",.str "put",.str "put",.str "move",.str "take",.str "open",.str "open",.str "shut"]) q2=some (.lst [.str "put",.str "put",.str "put",.str "move",.str "take",.str "open",.str "open",.str "shut"]):=xg
  revert s2 g2
  generalize upd H1 q2 (.lst [.str "put",.str "put",.str "put",.str "move",.str "take",.str "open",.str "open",.str "shut"])=H2
  intro s2 g2
  obtain ⟨wy,ewy,hwy⟩:=xo2 d1
  have hl2:=s2 _ _ hl1
  refine ⟨_,rfl,l1,_,1,_,rfl,rfl,SqL.of hl2,rfl,_,_,rfl,rfl,(by show (0:Int) < 8; decide),q2,_,_,.str wy,rfl,rfl,SqL.of g2,ewy,?_⟩
  have s02:=s1.trans s2
  refine ⟨fun σ H'=>∃ nm:Str,σ=[some (.int c),some (.int k),some (.ref sz),some (.ref l),some (.ref l1),some (.str nm),some (.str wy),none,none,none,none,none]∧Same H2 H'∧isNm nm=true,?_,?_⟩
  ·refine ⟨_,rfl,(by show 0≤sizeLine; exact Nat.zero_le _),fun e0 he0=>?_⟩
   have s3:Same H2 (upd H2 e0 (.lst [])):=xm (Same.refl _) he0
   have g3:upd H2 e0 (.lst []) e0=some (.lst []):=xg
   revert s3 g3
   generalize upd H2 e0 (.lst [])=H3
   intro s3 g3
   have s03:=s02.trans s3
   have hl3:=s03 _ _ hl
   have pts3:=pts.keep (Same.tups s03)
   have inm:isNm (ltr (d0 / 4 % 26))=true:=xmb (xbd _ (by decide)).1 (xbd _ (by decide)).2
   refine ⟨2,1,.lst (ps.map ptD),.lst [],pts3.dv hl3,xdh g3,by decide,by decide,_,rfl,ite2 (fun c1=>?_) (fun c1=>⟨_,rfl,s3,inm⟩)⟩
   refine ⟨_,rfl,l1,_,0,_,rfl,rfl,SqL.of (s3 _ _ hl2),rfl,_,_,rfl,rfl,(by show (0:Int) < 4; decide),_,_,rfl,rfl,_,rfl,rfl,rfl,_,rfl,ite2 (fun c2=>?_) (fun c2=>⟨_,rfl,s3,inm⟩)⟩
   have pos:0 < ps.length:=by
    cases ps with
    | nil=>exact absurd c1 (by decide)
    | cons _ _=>exact Nat.succ_pos _
   have lp:(0:Int) < ((qs.map V.ref).length:Nat):=by rw [List.length_map]; omega
   have ab:=xbd (d0 / 4) lp
   obtain ⟨j,ej⟩:∃ j:Nat,d0 / 4 % ((qs.map V.ref).length:Nat)=(j:Int):=⟨_,(Int.toNat_of_nonneg ab.1).symm⟩
   have jlt:j < qs.length:=by rw [ej,List.length_map] at ab; omega
   obtain ⟨pk,hpk,epk⟩:=pts3.get (List.getElem?_eq_getElem jlt)
   have pko:=pok.ok pk (List.mem_of_getElem? hpk)
   refine ⟨_,rfl,_,rfl,l1,_,0,_,rfl,rfl,SqL.of (s3 _ _ hl2),rfl,_,_,rfl,rfl,⟨by decide,by decide⟩,_,rfl,l,_,rfl,.inl (SqL.of hl3),_,_,rfl,rfl,lp,l,_,_,.ref qs[j],rfl,rfl,SqL.of hl3,(by rw [ej]; exact xfa (by rw [List.getElem?_map,List.getElem?_eq_getElem jlt]; rfl)),qs[j],_,0,_,rfl,rfl,SqT.of epk,rfl,?_⟩
   exact ⟨_,rfl,s3,pko.nm⟩
  rintro σ H3 ⟨nm,rfl,s23,inm⟩
  have s03:=s02.trans s23
  have hl3:=s23 _ _ hl2
  have hsz3:=s03 _ _ hsz
  refine ⟨_,rfl,l1,_,2,_,rfl,rfl,SqL.of hl3,rfl,_,rfl,sz,_,0,_,rfl,rfl,SqT.of hsz3,rfl,_,_,rfl,rfl,(by show 0 < w'; omega),_,_,rfl,rfl,?_⟩
  refine ⟨_,rfl,l1,_,3,_,rfl,rfl,SqL.of hl3,rfl,_,rfl,sz,_,1,_,rfl,rfl,SqT.of hsz3,rfl,_,_,rfl,rfl,(by show 0 < ht; omega),_,_,rfl,rfl,?_⟩
  refine ⟨_,rfl,l1,_,4,_,rfl,rfl,SqL.of hl3,rfl,_,rfl,sz,_,1,_,rfl,rfl,SqT.of hsz3,rfl,_,_,rfl,rfl,(by show 0 < ht; omega),_,_,rfl,rfl,?_⟩
  dsimp only
  have bx:=xbd d2 (show 0 < w' by omega)
  have by_:=xbd d3 (show 0 < ht by omega)
  have bl:=xbd d4 (show 0 < ht by omega)
  obtain ⟨x,ex⟩:∃ x,x=1 + d2 % w':=⟨_,rfl⟩
  obtain ⟨y,ey⟩:∃ y,y=1 + d3 % ht:=⟨_,rfl⟩
  obtain ⟨lo,elo⟩:∃ lo,lo=1 + d4 % ht:=⟨_,rfl⟩
  rw [← ex,← ey,← elo]
  refine ⟨(by show 3≤sizeLine; decide),fun q4 hq4=>?_⟩
  have s4:Same H3 (upd H3 q4 (.lst [.str "both",.str "left",.str "right"])):=xm (Same.refl _) hq4
  have g4:upd H3 q4 (.lst [.str "both",.str "left",.str "right"]) q4=some (.lst [.str "both",.str "left",.str "right"]):=xg
  revert s4 g4
  generalize upd H3 q4 (.lst [.str "both",.str "left",.str "right"])=H4
  intro s4 g4
  obtain ⟨sd,esd,hsd⟩:=xof d5
  have hl4:=s4 _ _ hl3
  refine ⟨_,rfl,l1,_,5,_,rfl,rfl,SqL.of hl4,rfl,_,_,rfl,rfl,(by show (0:Int) < 3; decide),q4,_,_,.str sd,rfl,rfl,SqL.of g4,esd,?_⟩
  refine ⟨(by show 2≤sizeLine; decide),fun q5 hq5=>?_⟩
  have s5:Same H4 (upd H4 q5 (.lst [.str "left",.str "right"])):=xm (Same.refl _) hq5
  have g5:upd H4 q5 (.lst [.str "left",.str "right"]) q5=some (.lst [.str "left",.str "right"]):=xg
  revert s5 g5
  generalize upd H4 q5 (.lst [.str "left",.str "right"])=H5
  intro s5 g5
  obtain ⟨sb,esb⟩:=xp2 (d5 / 3)
  have hl5:=s5 _ _ hl4
  have hsz5:=s5 _ _ (s4 _ _ hsz3)
  refine ⟨_,rfl,l1,_,5,_,rfl,rfl,SqL.of hl5,rfl,_,_,rfl,rfl,⟨by decide,by decide⟩,_,_,rfl,rfl,(by show (0:Int) < 2; decide),q5,_,_,.str (x6 sb),rfl,rfl,SqL.of g5,esb,_,rfl,l1,_,6,_,rfl,rfl,SqL.of hl5,rfl,_,rfl,sz,_,1,_,rfl,rfl,SqT.of hsz5,rfl,_,_,rfl,rfl,(by show 0 < ht; omega),_,_,rfl,rfl,(by show 2≤sizeLine; decide),fun qz hqz=>?_⟩
  dsimp only
  have br:=xbd d6 (show 0 < ht by omega)
  obtain ⟨r,er⟩:∃ r,r=1 + d6 % ht:=⟨_,rfl⟩
  rw [← er]
  have s6:Same H5 (upd H5 qz (.tup [.str (x6 sb),.int r])):=xm (Same.refl _) hqz
  have g6:upd H5 qz (.tup [.str (x6 sb),.int r]) qz=some (.tup [.str (x6 sb),.int r]):=xg
  revert s6 g6
  generalize upd H5 qz (.tup [.str (x6 sb),.int r])=H6
  intro s6 g6
  have hl6:=s6 _ _ hl5
  have hsz6:=s6 _ _ hsz5
  have bh:=xbd (d6 / 40) (show 0 < ht + 1 - lo by omega)
  refine ⟨_,rfl,_,rfl,_,rfl,_,rfl,_,rfl,_,rfl,_,rfl,_,rfl,l1,_,6,_,rfl,rfl,SqL.of hl6,rfl,_,_,rfl,rfl,⟨by decide,by decide⟩,_,rfl,sz,_,1,_,rfl,rfl,SqT.of hsz6,rfl,_,_,rfl,rfl,_,rfl,_,_,rfl,rfl,_,_,rfl,rfl,(by show 0 < ht + 1 - lo; omega),_,_,rfl,rfl,(by show 6≤sizeLine; decide),fun qr hqr=>?_⟩
  dsimp only
  obtain ⟨hi,ehi⟩:∃ hi,hi=lo + d6 / 40 % (ht + 1 - lo):=⟨_,rfl⟩
  rw [← ehi]
  have s7:Same H6 (upd H6 qr (.tup [.str nm,.int x,.int y,.str sd,.int lo,.int hi])):=xm (Same.refl _) hqr
  have g7:upd H6 qr (.tup [.str nm,.int x,.int y,.str sd,.int lo,.int hi]) qr=some (.tup [.str nm,.int x,.int y,.str sd,.int lo,.int hi]):=xg
  revert s7 g7
  generalize upd H6 qr (.tup [.str nm,.int x,.int y,.str sd,.int lo,.int hi])=H7
  intro s7 g7
  refine ⟨_,rfl,(by show 3≤sizeLine; decide),fun dq hdq=>?_⟩
  have s8:Same H7 (upd H7 dq (.lst [.str wy,.ref qr,.ref qz])):=xm (Same.refl _) hdq
  have g8:upd H7 dq (.lst [.str wy,.ref qr,.ref qz]) dq=some (.lst [.str wy,.ref qr,.ref qz]):=xg
  revert s8 g8
  generalize upd H7 dq (.lst [.str wy,.ref qr,.ref qz])=H8
  intro s8 g8
  exact q H8 dq qr qz wy ⟨nm,x,y,sd,lo,hi⟩ (sb,r) (s03.trans (s4.trans (s5.trans (s6.trans (s7.trans s8))))) g8 (s8 _ _ g7) (s8 _ _ (s7 _ _ g6)) hwy ⟨inm,by show 1≤x; omega,by show x≤w'; omega,by show 1≤y; omega,by show y≤ht; omega,hsd,by show 1≤lo; omega,by show lo≤hi; omega,by show hi≤ht; omega⟩ (by show 1≤r; omega) (by show r≤ht; omega)
end
end S08
set_option maxRecDepth 100000
set_option maxHeartbeats 4000000
namespace S08
open PySem L2 XL PyProof.Rows
theorem xpd {nm:Str} {x y:Int} (p:Pt):(mvP nm x y p).nm=p.nm:=by
 unfold mvP
 split <;> rfl
theorem xpj {w h:Int} {ps:List Pt} (o:xba w h ps) {nm:Str} {x y:Int} (x1:1≤x) (x2:x≤w) (y1:1≤y) (y2:y≤h) (no:∀ p ∈ ps,p.nm≠nm→p.x≠x∧p.y≠y):xba w h (ps.map (mvP nm x y)):=by
 have pwn:ps.Pairwise fun p q=>p.nm≠q.nm:=by have:=o.nn; rw [List.nodup_iff_pairwise_ne,List.pairwise_map] at this; exact this
 have pwx:ps.Pairwise fun p q=>p.x≠q.x:=by have:=o.nx; rw [List.nodup_iff_pairwise_ne,List.pairwise_map] at this; exact this
 have pwy:ps.Pairwise fun p q=>p.y≠q.y:=by have:=o.ny; rw [List.nodup_iff_pairwise_ne,List.pairwise_map] at this; exact this
 refine ⟨fun p hp=>?_,?_,?_,?_,by rw [List.length_map]; exact o.le⟩
 ·obtain ⟨p',hp',rfl⟩:=List.mem_map.mp hp
  have k:=o.ok p' hp'
  unfold mvP
  split
  ·exact ⟨k.nm,x1,x2,y1,y2,k.sd,k.l1,k.l2,k.l3⟩
  ·exact k
 ·rw [List.map_map,show ((fun p:Pt=>p.nm) ∘ mvP nm x y)=fun p=>p.nm from funext xpd]
  exact o.nn
 ·rw [List.map_map,List.nodup_iff_pairwise_ne,List.pairwise_map]
  refine (pwn.and pwx).imp_of_mem fun {p q} hp hq ⟨n1,n2⟩=>?_
  show (mvP nm x y p).x≠(mvP nm x y q).x
  unfold mvP
  by_cases c:p.nm=nm
  ·rw [if_pos c,if_neg (fun z=>n1 (c.trans z.symm))]
   exact fun z=>(no q hq (fun y=>n1 (c.trans y.symm))).1 z.symm
  ·rw [if_neg c]
   by_cases c2:q.nm=nm
   ·rw [if_pos c2]
    exact (no p hp c).1
   ·rw [if_neg c2]
    exact n2
 ·rw [List.map_map,List.nodup_iff_pairwise_ne,List.pairwise_map]
  refine (pwn.and pwy).imp_of_mem fun {p q} hp hq ⟨n1,n2⟩=>?_
  show (mvP nm x y p).y≠(mvP nm x y q).y
  unfold mvP
  by_cases c:p.nm=nm
  ·rw [if_pos c,if_neg (fun z=>n1 (c.trans z.symm))]
   exact fun z=>(no q hq (fun y=>n1 (c.trans y.symm))).2 z.symm
  ·rw [if_neg c]
   by_cases c2:q.nm=nm
   ·rw [if_pos c2]
    exact (no p hp c).2
   ·rw [if_neg c2]
    exact n2
theorem xba.snoc {w h:Int} {ps:List Pt} (o:xba w h ps) {p:Pt} (k:PtOk w h p) (n1:∀ q ∈ ps,q.nm≠p.nm) (n2:p.x ∉ ps.map (·.x)) (n3:p.y ∉ ps.map (·.y)) (l:ps.length < 12):xba w h (ps ++ [p]):=by
 refine ⟨fun q hq=>?_,?_,?_,?_,by rw [List.length_append]; exact l⟩
 ·rcases List.mem_append.mp hq with z | z
  ·exact o.ok q z
  ·rw [List.mem_singleton.mp z]; exact k
 ·rw [List.map_append,List.nodup_append]
  refine ⟨o.nn,by simp,fun a ha b hb e=>?_⟩
  obtain ⟨q,hq,rfl⟩:=List.mem_map.mp ha
  simp at hb
  subst hb
  exact n1 q hq e
 ·rw [List.map_append,List.nodup_append]
  refine ⟨o.nx,by simp,fun a ha b hb e=>?_⟩
  simp at hb
  subst hb
  exact n2 (e ▸ ha)
 ·rw [List.map_append,List.nodup_append]
  refine ⟨o.ny,by simp,fun a ha b hb e=>?_⟩
  simp at hb
  subst hb
  exact n3 (e ▸ ha)
def out8 (wy:Str) (ps:List Pt) (ss:List Seat) (p:Pt) (z:Seat):Option Er :=
 if wy="put" then xbq ps p else if wy="move" then xca ps p.nm p.x p.y else if wy="take" then xc2 ps p.nm else if wy="open" then xcp ss z else xc9 ss z
def xcb (wy:Str) (ps:List Pt) (p:Pt):List Pt:=if wy="put" then ps ++ [p] else if wy="move" then ps.map (mvP p.nm p.x p.y) else if wy="take" then ps.filter (fun q=>decide (q.nm≠p.nm)) else ps
def xcc (wy:Str) (ss:List Seat) (z:Seat):List Seat:=if wy="open" then ss ++ [z] else if wy="shut" then ss.filter (fun s=>decide (s≠z)) else ss
theorem xcx {ps:List Pt} {ss:List Seat} {p:Pt} {z:Seat}:out8 "put" ps ss p z=xbq ps p:=if_pos rfl
theorem xc6 {ps:List Pt} {ss:List Seat} {p:Pt} {z:Seat}:out8 "move" ps ss p z=xca ps p.nm p.x p.y:=(if_neg (by decide +kernel)).trans (if_pos rfl)
theorem xc5 {ps:List Pt} {ss:List Seat} {p:Pt} {z:Seat}:out8 "take" ps ss p z=xc2 ps p.nm:=(if_neg (by decide +kernel)).trans ((if_neg (by decide +kernel)).trans (if_pos rfl))
theorem xcj {ps:List Pt} {ss:List Seat} {p:Pt} {z:Seat}:out8 "open" ps ss p z=xcp ss z:=(if_neg (by decide +kernel)).trans ((if_neg (by decide +kernel)).trans ((if_neg (by decide +kernel)).trans (if_pos rfl)))
theorem xc7 {ps:List Pt} {ss:List Seat} {p:Pt} {z:Seat}:out8 "shut" ps ss p z=xc9 ss z:=(if_neg (by decide +kernel)).trans ((if_neg (by decide +kernel)).trans ((if_neg (by decide +kernel)).trans (if_neg (by decide +kernel))))
theorem xfo {ps:List Pt} {p:Pt}:xcb "put" ps p=ps ++ [p]:=if_pos rfl
theorem xeu {ps:List Pt} {p:Pt}:xcb "move" ps p=ps.map (mvP p.nm p.x p.y):=(if_neg (by decide +kernel)).trans (if_pos rfl)
theorem xek {ps:List Pt} {p:Pt}:xcb "take" ps p=ps.filter (fun q=>decide (q.nm≠p.nm)):=(if_neg (by decide +kernel)).trans ((if_neg (by decide +kernel)).trans (if_pos rfl))
theorem xe6 {ps:List Pt} {p:Pt}:xcb "open" ps p=ps:=(if_neg (by decide +kernel)).trans ((if_neg (by decide +kernel)).trans (if_neg (by decide +kernel)))
theorem xe1 {ps:List Pt} {p:Pt}:xcb "shut" ps p=ps:=(if_neg (by decide +kernel)).trans ((if_neg (by decide +kernel)).trans (if_neg (by decide +kernel)))
theorem xfv {ss:List Seat} {z:Seat}:xcc "put" ss z=ss:=(if_neg (by decide +kernel)).trans (if_neg (by decide +kernel))
theorem xes {ss:List Seat} {z:Seat}:xcc "move" ss z=ss:=(if_neg (by decide +kernel)).trans (if_neg (by decide +kernel))
theorem xet {ss:List Seat} {z:Seat}:xcc "take" ss z=ss:=(if_neg (by decide +kernel)).trans (if_neg (by decide +kernel))
theorem xer {ss:List Seat} {z:Seat}:xcc "open" ss z=ss ++ [z]:=if_pos rfl
theorem xel {ss:List Seat} {z:Seat}:xcc "shut" ss z=ss.filter (fun s=>decide (s≠z)):=(if_neg (by decide +kernel)).trans (if_pos rfl)
structure Kept (H:Hp) (lr ls:Addr) (ps:List Pt) (ss:List Seat):Prop where
 rl:∃ qs:List Addr,H lr=some (.lst (qs.map V.ref))∧PtsL H ps qs
 sl:∃ (srt:List Seat) (rs:List Addr),srt.Perm ss∧srt.Pairwise xb2∧H ls=some (.lst (rs.map V.ref))∧xam H srt rs
theorem Kept.same {H H':Hp} {lr ls:Addr} {ps:List Pt} {ss:List Seat} (s:Same H H') (k:Kept H lr ls ps ss):Kept H' lr ls ps ss:=⟨let ⟨qs,e,r⟩:=k.rl; ⟨qs,s _ _ e,r.keep (Same.tups s)⟩,let ⟨srt,rs,a,b,e,r⟩:=k.sl; ⟨srt,rs,a,b,s _ _ e,r.keep (Same.tups s)⟩⟩
def xcq (H:Hp) (dq qr qz:Addr) (wy:Str) (p:Pt) (z:Seat):Prop:=H dq=some (.lst [.str wy,.ref qr,.ref qz])∧H qr=some (.tup (.str p.nm :: ptV p))∧H qz=some (.tup (xbu z))
theorem xcq.same {H H':Hp} {dq qr qz:Addr} {wy:Str} {p:Pt} {z:Seat} (s:Same H H') (h:xcq H dq qr qz wy p z):xcq H' dq qr qz wy p z:=⟨s _ _ h.1,s _ _ h.2.1,s _ _ h.2.2⟩
def xoi:Sp:=fun vs H Q _=>∃ (lr ls dq qr qz:Addr) (ps:List Pt) (ss:List Seat) (wy:Str) (p:Pt) (z:Seat),vs=[.ref lr,.ref ls,.ref dq]∧Kept H lr ls ps ss∧ps.length≤12∧xcq H dq qr qz wy p z∧Way wy∧∀ H' m,Same H H'→H' m=some (.lst (xhp (out8 wy ps ss p z)))→Q (.ref m) H'
theorem xok {ps:List Pt} {nm:Str}:((ps.map fun p=>DV.str p.nm).any fun d=>dEq d (.str nm))=anyN ps nm:=by
 rw [List.any_map]
 unfold anyN
 congr 1
def xn1 (t:Adr):Sp:=fun vs H Q _=>∃ (a dp do_ dq qr qz:Addr) (pw ph:Int) (ps:List Pt) (ss:List Seat) (wy:Str) (p:Pt) (z:Seat),vs=[.ref a,.ref dq]∧Pic t H a dp do_ pw ph ps∧Sts H do_ ss∧xba pw ph ps∧SsOk ph ss∧xcq H dq qr qz wy p z∧Way wy∧PtOk pw ph p∧1≤z.2∧z.2≤ph ∧
 (∀ H' m er,out8 wy ps ss p z=some er→Same H H'→H' m=some (.lst er.told)→Q (.ref m) H') ∧
 (∀ H' m,out8 wy ps ss p z=none→(∀ b u,b≠dp→b≠do_→H b=some u→H' b=some u)→H' m=some (.lst [])→Pic t H' a dp do_ pw ph (xcb wy ps p)→Sts H' do_ (xcc wy ss z)→xba pw ph (xcb wy ps p)→SsOk ph (xcc wy ss z)→Q (.ref m) H')
section
variable {P:Program} {w:World} {K:PySem.W.Frag} {mg:Str→Option Value} {base:Heap} {t:Adr}
theorem ok_bc (T:Txt w K mg t):FnOk true P w K mg base (CXo P w) 2 t.f_bc t.d_bc ["_law_rows", "_law_seats", "_law_deed_here"] (xoi):=by
 refine T.F_bc.okn (k:=1) sc_bc (fun vs H Q E h=>?_) (fun cdv A outer s H vs Q E hr h=>?_)
 ·obtain ⟨lr,ls,dq,qr,qz,ps,ss,wy,p,z,rfl,_⟩:=h
  rfl
 ·obtain ⟨lr,ls,dq,qr,qz,ps,ss,wy,p,z,rfl,h⟩:=h
  refine ⟨_,xi (xbx (pv 2) (xgt rfl (xv (xq (i:=3) sc_bc.nd rfl (Or.inl rfl)) (xv (xq (i:=4) sc_bc.nd rfl (Or.inl rfl)) (xv (xq (i:=5) sc_bc.nd rfl (Or.inl rfl)) (xa7))))))
   (xi (xae (i:=6) sc_bc.nd rfl (Or.inl rfl) (xdg (xkr (xbb hr)) (xw xad (pv 4) (xo) (fun _ _=>rfl)) (xby rfl (xbf (zs:=["_law_one"]) (ys:=[]) (fr:=[]) (N0:=["_law_rows", "_law_seats", "_law_deed_here", "_law_way", "_law_row", "_law_seat", "_law_there"]) (sc0:=xj s_bc) (by decide +kernel) rfl rfl rfl) (xa0 (pv 0)) (fun _ _ _ _ _ ow nd=>xq (i:=0) nd rfl (Or.inl (ow _ (by simp))) (Or.inr (ow _ (by simp)))) (xb5 (by decide)) (fun _ _ _ _ _=>xbz) (fun _ _ _ _ _=>xw (r:=rIxT K) xad (pv 0) (xo) (fun _ _=>rfl))) (by rfl)))
   (xi (xaa (x8 xa6 (pv 3) (x4) (xab _)) (xi (xaa (xau (pv 6)) (xk (xaf (xal (xf (x4) (xf (xw xad (pv 4) (xo) (fun _ _=>rfl)) (xh)))))) (xx))
   (xi (xaa (x8 xj8 (xaj xco rfl T.n_len boot_len (xf (pv 0) (xh))) (xo) (xab _)) (xk (xaf (xal (xf (x4) (xh))))) (xx))
   (xk (xaf (xao (ok_ba T) (hr.mono (by decide)) rfl T.g_ba T.F_ba.kp T.b_ba .nil xp (xf (pv 0) (xf (pv 4) (xh)))))))) (xx))
   (xi (xaa (PW.pt (xb7 (x8 xa6 (pv 3) (x4) (xab _)) (xbw (x8 xa6 (pv 3) (x4) (xab _))))) (xi (xaa (xbi (xau (pv 6))) (xk (xaf (xal (xf (x4) (xf (xw xad (pv 4) (xo) (fun _ _=>rfl)) (xh)))))) (xx))
   (xk (xaa (x8 xa6 (pv 3) (x4) (xab _)) (xk (xaf (xao (ok_ba T) (hr.mono (by decide)) rfl T.g_ba T.F_ba.kp T.b_ba .nil xp (xf (pv 0) (xf (pv 4) (xh)))))) (xx)))) (xx))
   (xi (xaa (PW.pt (xd9 (x8 xa6 (pv 3) (x4) (xab _)) (xdf (x8 (xkr (xbb hr)) (pv 5) (pv 1) (by rfl))))) (xk (xaf (xal (xf (x4) (xf (xw xad (pv 5) (xo) (fun _ _=>rfl)) (xf (xw xad (pv 5) (xo) (fun _ _=>rfl)) (xh))))))) (xx))
   (xi (xaa (PW.pt (xd9 (x8 xa6 (pv 3) (x4) (xab _)) (xdf (x8 (xko (xbb hr)) (pv 5) (pv 1) (by rfl))))) (xk (xaf (xal (xf (x4) (xf (xw xad (pv 5) (xo) (fun _ _=>rfl)) (xf (xw xad (pv 5) (xo) (fun _ _=>rfl)) (xh))))))) (xx))
   (xk (xaf (xal (xh))))))))),?_⟩
  obtain ⟨kp,ple,⟨hdq,hqr,hqz⟩,hwy,q⟩:=h
  obtain ⟨qs,hlr,pts⟩:=kp.rl
  obtain ⟨srt,rs,pm,_,hls,sts⟩:=kp.sl
  have ql:=pts.len
  refine ⟨_,rfl,dq,_,rfl,SqL.of hdq,rfl,_,_,rfl,_,_,rfl,_,_,rfl,rfl,?_⟩
  refine ⟨_,rfl,qr,_,0,_,rfl,rfl,SqT.of hqr,rfl,_,rfl,lr,rfl,⟨_,SqL.of hlr⟩,fun ln hln=>?_⟩
  refine xep (SqL.of hlr) (by rw [List.length_map]; exact Nat.lt_trans (by omega:qs.length < 13) (by decide)) hln (fun i y _=>∃ p',ps[i]?=some p'∧y=.str p'.nm) (fun _ _ _ _ _ z=>z) (fun i y H2 hy s2 N hN=>?_) (fun ys H1 s1 el1 ly f1=>?_)
  ·rw [List.getElem?_map] at hy
   obtain ⟨o,ho,rfl⟩:=Option.map_eq_some_iff.mp hy
   obtain ⟨p',hpp,ep⟩:=(PtsL.keep (Same.tups s2) pts).get ho
   exact ⟨_,rfl,o,_,0,_,rfl,rfl,SqT.of ep,rfl,hN _ _ (Same.refl _) ⟨p',hpp,rfl⟩⟩
  have ey1:ys=(ps.map (·.nm)).map V.str:=by
   rw [List.map_map]
   refine xmm (by rw [ly,List.length_map,ql]) fun i y p hy hp=>?_
   obtain ⟨p',h1,h2⟩:=f1 i y hy
   rw [hp] at h1
   cases h1
   exact h2
  subst ey1
  have dn:Dv K H1 1 (.ref ln) (.lst (ps.map fun p=>DV.str p.nm)):=by
   refine .lst (SqL.of el1) (by simp) fun j x d h1 h2=>?_
   rw [List.map_map,List.getElem?_map] at h1
   rw [List.getElem?_map] at h2
   obtain ⟨p1,e1,rfl⟩:=Option.map_eq_some_iff.mp h1
   rw [e1] at h2
   cases h2
   exact .str
  refine ⟨0,1,.str p.nm,ps.map (fun p':Pt=>DV.str p'.nm),.str,dn,by decide,by decide,?_⟩
  rw [if_neg (by decide),xok]
  have hlr1:=s1 _ _ hlr
  have pts1:=pts.keep (Same.tups s1)
  have hqr1:=s1 _ _ hqr
  have hqz1:=s1 _ _ hqz
  have met:∀ (H':Hp) (m:Addr),Same H1 H'→H' m=some (.lst (xhp (xbk ps p.nm p.x p.y)))→out8 wy ps ss p z=xbk ps p.nm p.x p.y→Q (.ref m) H':=fun H' m s e o=>q H' m (s1.trans s) (by rw [o]; exact e)
  have one:∀ (m:Addr) (vs:List V),H1 m=none→xhp (out8 wy ps ss p z)=vs→Q (.ref m) (upd H1 m (.lst vs)):=fun m vs hm e=>q _ m (xm s1 hm) (by rw [e]; exact xg)
  rcases hwy with rfl | rfl | rfl | rfl | rfl
  ·refine ⟨_,rfl,rfl,_,rfl,ifP (by decide +kernel) ?_⟩
   refine ⟨_,rfl,_,rfl,?_⟩
   cases ha:anyN ps p.nm with
   | true =>
    refine iteT ⟨_,rfl,qr,_,0,_,rfl,rfl,SqT.of hqr1,rfl,(by show 2≤sizeLine; decide),fun m hm=>one m _ hm ?_⟩
    rw [xcx]
    unfold xbq
    rw [ha]
    rfl
   | false =>
    refine iteF ⟨_,rfl,lr,_,rfl,.inl (SqL.of hlr1),_,_,rfl,rfl,_,rfl,?_⟩
    by_cases c12:12≤ps.length
    ·refine ifP (decide_eq_true (by rw [List.length_map]; omega)) ⟨(by show 1≤sizeLine; decide),fun m hm=>one m _ hm ?_⟩
     rw [xcx]
     unfold xbq
     rw [ha,if_neg (by decide),if_pos c12]
     rfl
    ·refine ifN (decide_eq_false (by rw [List.length_map]; omega)) ⟨_,rfl,_,rfl,lr,qr,ps,qs,p,rfl,hlr1,pts1,hqr1,fun H2 m s2 e2=>met H2 m s2 e2 ?_⟩
     rw [xcx]
     unfold xbq
     rw [ha,if_neg (by decide),if_neg c12]
  ·refine ⟨_,rfl,rfl,_,rfl,ifN (by decide +kernel) ?_⟩
   refine ⟨_,rfl,rfl,_,rfl,ifP (by decide +kernel) ?_⟩
   refine iteT ⟨_,rfl,_,rfl,?_⟩
   cases ha:anyN ps p.nm with
   | false =>
    refine iteT ⟨_,rfl,qr,_,0,_,rfl,rfl,SqT.of hqr1,rfl,(by show 2≤sizeLine; decide),fun m hm=>one m _ hm ?_⟩
    rw [xc6]
    unfold xca
    rw [ha]
    rfl
   | true =>
    refine iteF ⟨_,rfl,rfl,_,rfl,ifP (by decide +kernel) ⟨_,rfl,_,rfl,lr,qr,ps,qs,p,rfl,hlr1,pts1,hqr1,fun H2 m s2 e2=>met H2 m s2 e2 ?_⟩⟩
    rw [xc6]
    unfold xca
    rw [ha]
    rfl
  ·refine ⟨_,rfl,rfl,_,rfl,ifN (by decide +kernel) ?_⟩
   refine ⟨_,rfl,rfl,_,rfl,ifN (by decide +kernel) ?_⟩
   refine ⟨_,rfl,rfl,_,rfl,ifP (by decide +kernel) ?_⟩
   refine ⟨_,rfl,_,rfl,?_⟩
   cases ha:anyN ps p.nm with
   | false =>
    refine iteT ⟨_,rfl,qr,_,0,_,rfl,rfl,SqT.of hqr1,rfl,(by show 2≤sizeLine; decide),fun m hm=>one m _ hm ?_⟩
    rw [xc5,xea ha]
    rfl
   | true =>
    refine iteF ⟨_,rfl,rfl,_,rfl,ifN (by decide +kernel) ?_⟩
    refine ⟨_,rfl,rfl,_,rfl,ifN (by decide +kernel) (iteF ?_)⟩
    refine ⟨_,rfl,rfl,_,rfl,ifN (by decide +kernel) (iteF ?_)⟩
    refine ⟨(by show 0≤sizeLine; exact Nat.zero_le _),fun m hm=>one m _ hm ?_⟩
    rw [xc5,xe3 ha]
    rfl
  ·refine ⟨_,rfl,rfl,_,rfl,ifN (by decide +kernel) ?_⟩
   refine ⟨_,rfl,rfl,_,rfl,ifN (by decide +kernel) ?_⟩
   refine ⟨_,rfl,rfl,_,rfl,ifN (by decide +kernel) ?_⟩
   refine ⟨_,rfl,rfl,_,rfl,ifP (by decide +kernel) ?_⟩
   refine ⟨_,rfl,_,rfl,1,2,xbl z,srt.map xbl,xd3 hqz1,(sts.keep (Same.tups s1)).dv (s1 _ _ hls),by decide,by decide,_,rfl,ite2 (fun c=>?_) (fun c=>?_)⟩
   ·rw [if_neg (by decide),xeb,decide_eq_true_iff] at c
    refine ⟨_,rfl,qz,_,0,_,rfl,rfl,SqT.of hqz1,rfl,_,rfl,qz,_,1,_,rfl,rfl,SqT.of hqz1,rfl,(by show 3≤sizeLine; decide),fun m hm=>one m _ hm ?_⟩
    rw [xcj,show xcp ss z=some (.oldSeat (.str (x6 z.1)) (.int z.2)) from if_pos (pm.mem_iff.mp c)]
    rfl
   ·rw [if_neg (by decide),xeb,decide_eq_true_iff] at c
    refine ⟨_,rfl,rfl,_,rfl,ifN (by decide +kernel) (iteF ?_)⟩
    refine ⟨(by show 0≤sizeLine; exact Nat.zero_le _),fun m hm=>one m _ hm ?_⟩
    rw [xcj,show xcp ss z=none from if_neg fun y=>c (pm.mem_iff.mpr y)]
    rfl
  ·refine ⟨_,rfl,rfl,_,rfl,ifN (by decide +kernel) ?_⟩
   refine ⟨_,rfl,rfl,_,rfl,ifN (by decide +kernel) ?_⟩
   refine ⟨_,rfl,rfl,_,rfl,ifN (by decide +kernel) ?_⟩
   refine ⟨_,rfl,rfl,_,rfl,ifN (by decide +kernel) (iteF ?_)⟩
   refine ⟨_,rfl,rfl,_,rfl,ifP (by decide +kernel) ?_⟩
   refine ⟨_,rfl,_,rfl,1,2,xbl z,srt.map xbl,xd3 hqz1,(sts.keep (Same.tups s1)).dv (s1 _ _ hls),by decide,by decide,_,rfl,ite2 (fun c=>?_) (fun c=>?_)⟩
   ·rw [if_pos rfl,xeb,Bool.not_eq_true',decide_eq_false_iff_not] at c
    refine ⟨_,rfl,qz,_,0,_,rfl,rfl,SqT.of hqz1,rfl,_,rfl,qz,_,1,_,rfl,rfl,SqT.of hqz1,rfl,(by show 3≤sizeLine; decide),fun m hm=>one m _ hm ?_⟩
    rw [xc7,show xc9 ss z=some (.noSeat (.str (x6 z.1)) (.int z.2)) from if_neg fun y=>c (pm.mem_iff.mpr y)]
    rfl
   ·rw [if_pos rfl,xeb,Bool.not_eq_true',decide_eq_false_iff_not,Classical.not_not] at c
    refine ⟨(by show 0≤sizeLine; exact Nat.zero_le _),fun m hm=>one m _ hm ?_⟩
    rw [xc7,show xc9 ss z=none from if_pos (pm.mem_iff.mp c)]
    rfl
theorem ok_a0 (T:Txt w K mg t):FnOk true P w K mg base (CXo P w) 6 t.f_a0 t.d_a0 ["_law_picture", "_law_deed_here"] (xn1 t):=by
 refine T.F_a0.okn (k:=5) sc_a0 (fun vs H Q E h=>?_) (fun cdv A outer s H vs Q E hr h=>?_)
 ·obtain ⟨a,dp,do_,dq,qr,qz,pw,ph,ps,ss,wy,p,z,rfl,_⟩:=h
  rfl
 ·obtain ⟨a,dp,do_,dq,qr,qz,pw,ph,ps,ss,wy,p,z,rfl,h⟩:=h
  refine ⟨_,xi (xbx (pv 1) (xgt rfl (xv (xq (i:=2) sc_a0.nd rfl (Or.inl rfl)) (xv (xq (i:=3) sc_a0.nd rfl (Or.inl rfl)) (xv (xq (i:=4) sc_a0.nd rfl (Or.inl rfl)) (xa7))))))
   (xi (xae (i:=5) sc_a0.nd rfl (Or.inl rfl) (xal (xh)))
   (xi (xog (E:=(fun σ' e C' H'=>∃ (l0:Addr) (er:Er),σ'=[some (.ref a),some (.ref dq),some (.str wy),some (.ref qr),some (.ref qz),some (.ref l0),none]∧C'=er.cls t∧out8 wy ps ss p z=some er∧xbj t H H' e er)) rfl T.g_bb T.mk_bb sc_a0.nd (j:=6) rfl rfl rfl rfl (fun _ _ tk=>xk (xaa (x8 xa6 (pv 2) (x4) (xab _)) (xk (xaq (xas (pv 0) T.c_e T.m_p (okT_p T) (hr.mono (by decide)) T.b_p .nil tk.pass (x0 (xw (r:=rIxT K) xad (pv 3) (xo) (fun _ _=>rfl)) (x0 (xw (r:=rIxT K) xad (pv 3) (xo) (fun _ _=>rfl)) (x0 (xw (r:=rIxT K) xad (pv 3) (xo) (fun _ _=>rfl)) (x0 (xw (r:=rIxT K) xad (pv 3) (xo) (fun _ _=>rfl)) (x0 (xw (r:=rIxT K) xad (pv 3) (xo) (fun _ _=>rfl)) (x0 (xw (r:=rIxT K) xad (pv 3) (xo) (fun _ _=>rfl)) (xh) rfl) rfl) rfl) rfl) rfl) rfl)))) (xk (xaa (x8 xa6 (pv 2) (x4) (xab _)) (xk (xaq (xas (pv 0) T.c_e T.m_ah (okT_ah T) (hr.mono (by decide)) T.b_ah .nil tk.pass (xf (xw (r:=rIxT K) xad (pv 3) (xo) (fun _ _=>rfl)) (xf (xw (r:=rIxT K) xad (pv 3) (xo) (fun _ _=>rfl)) (xf (xw (r:=rIxT K) xad (pv 3) (xo) (fun _ _=>rfl)) (xh))))))) (xk (xaa (x8 xa6 (pv 2) (x4) (xab _)) (xk (xaq (xas (pv 0) T.c_e T.m_ag (okT_ag T) (hr.mono (by decide)) T.b_ag .nil tk.pass (xf (xw (r:=rIxT K) xad (pv 3) (xo) (fun _ _=>rfl)) (xh))))) (xk (xaa (x8 xa6 (pv 2) (x4) (xab _)) (xk (xaq (xas (pv 0) T.c_e T.m_g (okT_g T) (hr.mono (by decide)) T.b_g .nil tk.pass (xf (xw (r:=rIxT K) xad (pv 4) (xo) (fun _ _=>rfl)) (xf (xw (r:=rIxT K) xad (pv 4) (xo) (fun _ _=>rfl)) (xh)))))) (xk (xaq (xas (pv 0) T.c_e T.m_k (okT_k T) (hr.mono (by decide)) T.b_k .nil tk.pass (xf (xw (r:=rIxT K) xad (pv 4) (xo) (fun _ _=>rfl)) (xf (xw (r:=rIxT K) xad (pv 4) (xo) (fun _ _=>rfl)) (xh)))))))))))))) (fun _=>xk (xae (i:=5) sc_a0.nd rfl (Or.inl rfl) (xao (ok_aw T) (Room.mark hr (by decide)) rfl T.g_aw T.F_aw.kp T.b_aw .nil xp (xf (pv 6) (xh))))))
   (xk (xaf (pv 5))))),?_⟩
  obtain ⟨pic,st,pok,sok,⟨hdq,hqr,hqz⟩,hwy,po,z1,z2,qE,q⟩:=h
  obtain ⟨⟨dx0,hp⟩,⟨kv,hkd,_⟩,_,_,h1,h2,_⟩:=id pic
  obtain ⟨ko,hko,_⟩:=id st
  refine ⟨_,rfl,dq,_,rfl,SqL.of hdq,rfl,_,_,rfl,_,_,rfl,_,_,rfl,rfl,?_⟩
  refine ⟨(by show 0≤sizeLine; exact Nat.zero_le _),fun l0 hl0=>?_⟩
  have s1:Same H (upd H l0 (.lst [])):=xm (Same.refl _) hl0
  have g1:upd H l0 (.lst []) l0=some (.lst []):=xg
  revert s1 g1
  generalize upd H l0 (.lst [])=H1
  intro s1 g1
  have pic1:=Pic.same s1 pic
  have st1:=st.same s1
  have hp1:=s1 _ _ hp
  have hqr1:=s1 _ _ hqr
  have hqz1:=s1 _ _ hqz
  have ndp:∀ H':Hp,(∀ b u,b≠dp→H1 b=some u→H' b=some u)→(∀ b u,b≠dp→b≠do_→H b=some u→H' b=some u)∧H' l0=some (.lst []):=fun H' k=>⟨fun b u n1 _ e=>k _ _ n1 (s1 _ _ e),k _ _ (xac g1 (s1 _ _ hkd) (fun z=>nomatch z)) g1⟩
  have ndo:∀ H':Hp,(∀ b u,b≠do_→H1 b=some u→H' b=some u)→(∀ b u,b≠dp→b≠do_→H b=some u→H' b=some u)∧H' l0=some (.lst []):=fun H' k=>⟨fun b u _ n2 e=>k _ _ n2 (s1 _ _ e),k _ _ (xac g1 (s1 _ _ hko) (fun z=>nomatch z)) g1⟩
  have sdp:∀ H':Hp,(∀ b u,b≠dp→H1 b=some u→H' b=some u)→Sts H' do_ ss:=fun H' k=>let ⟨k2,e,r⟩:=st1; ⟨k2,k _ _ (xac e (s1 _ _ hkd) (fun z=>nomatch z)) e,r⟩
  have rsd:∀ er,out8 wy ps ss p z=some er→∀ e H',xbj t H1 H' e er→∃ (l9:Addr) (er':Er),[some (V.ref a),some (.ref dq),some (.str wy),some (.ref qr),some (.ref qz),some (.ref l0),none]=[some (.ref a),some (.ref dq),some (.str wy),some (.ref qr),some (.ref qz),some (.ref l9),none]∧er.cls t=er'.cls t∧out8 wy ps ss p z=some er'∧xbj t H H' e er':=fun er her e H' y=>⟨l0,er,rfl,rfl,her,xbj.pre s1 y⟩
  refine ⟨?_,?_⟩
  ·refine ⟨_,rfl,rfl,_,rfl,?_⟩
   rcases hwy with rfl | rfl | rfl | rfl | rfl
   ·refine ifP (by decide +kernel) ⟨_,rfl,a,dx0,_,rfl,hp1,xap (by decide +kernel),_,rfl,qr,_,0,_,rfl,rfl,SqT.of hqr1,rfl,_,rfl,qr,_,1,_,rfl,rfl,SqT.of hqr1,rfl,_,rfl,qr,_,2,_,rfl,rfl,SqT.of hqr1,rfl,_,rfl,qr,_,3,_,rfl,rfl,SqT.of hqr1,rfl,_,rfl,qr,_,4,_,rfl,rfl,SqT.of hqr1,rfl,_,rfl,qr,_,5,_,rfl,rfl,SqT.of hqr1,rfl,a,dp,do_,pw,ph,ps,p,rfl,pic1,po,fun er her=>rsd er (xcx.trans her),fun out H2 k2 pic2 no len=>⟨_,rfl,?_⟩⟩
    obtain ⟨k02,l02⟩:=ndp H2 k2
    have pk:xba pw ph (ps ++ [p]):=xba.snoc pok po (fun q hq=>(no q hq).1) (fun m=>let ⟨q',hq',e⟩:=List.mem_map.mp m; (no q' hq').2.1 e) (fun m=>let ⟨q',hq',e⟩:=List.mem_map.mp m; (no q' hq').2.2 e) len
    exact q H2 l0 (xcx.trans out) k02 l02 (by rw [xfo]; exact pic2) (by rw [xfv]; exact sdp H2 k2) (by rw [xfo]; exact pk) (by rw [xfv]; exact sok)
   ·refine ifN (by decide +kernel) ⟨_,rfl,rfl,_,rfl,ifP (by decide +kernel) ⟨_,rfl,a,dx0,_,rfl,hp1,xap (by decide +kernel),_,rfl,qr,_,0,_,rfl,rfl,SqT.of hqr1,rfl,_,rfl,qr,_,1,_,rfl,rfl,SqT.of hqr1,rfl,_,rfl,qr,_,2,_,rfl,rfl,SqT.of hqr1,rfl,a,dp,do_,pw,ph,ps,p.nm,p.x,p.y,rfl,pic1,pok.nn,po.nm,po.x1,po.x2,po.y1,po.y2,fun er her=>rsd er (xc6.trans her),fun out H2 k2 pic2=>⟨_,rfl,?_⟩⟩⟩
    obtain ⟨k02,l02⟩:=ndp H2 k2
    have oc:xbk ps p.nm p.x p.y=none:=by
     unfold xca at out
     cases ha:anyN ps p.nm with
     | true=>rw [ha] at out; exact out
     | false=>rw [ha] at out; cases out
    exact q H2 l0 (xc6.trans out) k02 l02 (by rw [xeu]; exact pic2) (by rw [xes]; exact sdp H2 k2) (by rw [xeu]; exact xpj pok po.x1 po.x2 po.y1 po.y2 (fun q hq hne=>xga oc q hq hne)) (by rw [xes]; exact sok)
   ·refine ifN (by decide +kernel) ⟨_,rfl,rfl,_,rfl,ifN (by decide +kernel) ⟨_,rfl,rfl,_,rfl,ifP (by decide +kernel) ⟨_,rfl,a,dx0,_,rfl,hp1,xap (by decide +kernel),_,rfl,qr,_,0,_,rfl,rfl,SqT.of hqr1,rfl,a,dp,do_,pw,ph,ps,p.nm,rfl,pic1,po.nm,fun er her=>rsd er (xc5.trans her),fun out H2 k2 pic2=>⟨_,rfl,?_⟩⟩⟩⟩
    obtain ⟨k02,l02⟩:=ndp H2 k2
    exact q H2 l0 (xc5.trans out) k02 l02 (by rw [xek]; exact pic2) (by rw [xet]; exact sdp H2 k2) (by rw [xek]; exact pok.filt _) (by rw [xet]; exact sok)
   ·refine ifN (by decide +kernel) ⟨_,rfl,rfl,_,rfl,ifN (by decide +kernel) ⟨_,rfl,rfl,_,rfl,ifN (by decide +kernel) ⟨_,rfl,rfl,_,rfl,ifP (by decide +kernel) ⟨_,rfl,a,dx0,_,rfl,hp1,xap (by decide +kernel),_,rfl,qz,_,0,_,rfl,rfl,SqT.of hqz1,rfl,_,rfl,qz,_,1,_,rfl,rfl,SqT.of hqz1,rfl,a,dp,do_,pw,ph,ps,ss,z.1,z.2,rfl,pic1,st1,z1,z2,fun nin=>?_,fun er her=>rsd er (xcj.trans her),fun out H2 nin k2 pic2 st2=>⟨_,rfl,?_⟩⟩⟩⟩⟩
    ·have le:=sok.2.1
     by_cases c32:ss.length < 32
     ·exact c32
     ·exact absurd (xf4 h2 sok (by omega) z z1 z2) nin
    obtain ⟨k02,l02⟩:=ndo H2 k2
    have sk:SsOk ph (ss ++ [z]):=by
     refine ⟨?_,?_,fun s hs=>?_⟩
     ·rw [List.nodup_append]
      exact ⟨sok.1,by simp,fun x hx y hy e=>nin (by rw [List.mem_singleton.mp hy] at e; exact e ▸ hx)⟩
     ·obtain ⟨_,_,_,_,l⟩:=st2
      exact l
     ·rcases List.mem_append.mp hs with y | y
      ·exact sok.2.2 s y
      ·rw [List.mem_singleton.mp y]
       exact ⟨z1,z2⟩
    exact q H2 l0 (xcj.trans out) k02 l02 (by rw [xe6]; exact pic2) (by rw [xer]; exact st2) (by rw [xe6]; exact pok) (by rw [xer]; exact sk)
   ·refine ifN (by decide +kernel) ⟨_,rfl,rfl,_,rfl,ifN (by decide +kernel) ⟨_,rfl,rfl,_,rfl,ifN (by decide +kernel) ⟨_,rfl,rfl,_,rfl,ifN (by decide +kernel) ⟨_,rfl,a,dx0,_,rfl,hp1,xap (by decide +kernel),_,rfl,qz,_,0,_,rfl,rfl,SqT.of hqz1,rfl,_,rfl,qz,_,1,_,rfl,rfl,SqT.of hqz1,rfl,a,dp,do_,pw,ph,ps,ss,z.1,z.2,rfl,pic1,st1,z1,z2,fun er her=>rsd er (xc7.trans her),fun out H2 nin k2 pic2 st2=>⟨_,rfl,?_⟩⟩⟩⟩⟩
    obtain ⟨k02,l02⟩:=ndo H2 k2
    exact q H2 l0 (xc7.trans out) k02 l02 (by rw [xe1]; exact pic2) (by rw [xel]; exact st2) (by rw [xe1]; exact pok) (by rw [xel]; exact ⟨sok.1.filter _,Nat.le_trans (List.length_filter_le _ _) sok.2.1,fun s hs=>sok.2.2 s (List.mem_filter.mp hs).1⟩)
  ·rintro σ' e C' H' ⟨l9,er,rfl,rfl,her,ra⟩
   refine ⟨?_,?_,?_⟩
   ·cases er
    ·exact T.mk_h
    ·exact T.mk_r
    ·exact T.mk_c
    ·exact T.mk_t
    ·exact T.mk_s
    ·exact T.mk_o
    ·exact T.mk_ab
   ·cases er
    ·exact T.mro_h
    ·exact T.mro_r
    ·exact T.mro_c
    ·exact T.mro_t
    ·exact T.mro_s
    ·exact T.mro_o
    ·exact T.mro_ab
   ·refine ⟨_,rfl,e,er,rfl,ra.2,fun H2 l fr s2 hl=>?_⟩
    exact ⟨_,rfl,qE H2 l er her (ra.1.trans s2) hl⟩
end
end S08
set_option maxRecDepth 100000
set_option maxHeartbeats 4000000
namespace S08
open PySem L2 XL PyProof.Rows
def xm2:Sp:=fun vs H Q _=>∃ (lr ls dq qr qz:Addr) (ps:List Pt) (ss:List Seat) (wy:Str) (p:Pt) (z:Seat) (w h:Int),vs=[.ref lr,.ref ls,.ref dq]∧Kept H lr ls ps ss∧xba w h ps∧SsOk h ss∧xcq H dq qr qz wy p z∧Way wy∧(wy="open"→z ∉ ss∧ss.length < 32) ∧
 ∀ (H':Hp) (tq lr' ls':Addr),Same H H'→H' tq=some (.tup [.ref lr',.ref ls'])→(lr'=lr∨H lr'=none)→(ls'=ls∨H ls'=none)→Kept H' lr' ls' (xcb wy ps p) (xcc wy ss z)→Q (.ref tq) H'
def nmIx (ps:List Pt) (nm:Str) (i:Nat):Bool:=match ps[i]? with | some p=>decide (p.nm≠nm) | none=>false
theorem xgy {ps:List Pt} {nm:Str} {p:Pt} {i:Nat} (h:ps[i]?=some p):nmIx ps nm i=decide (p.nm≠nm):=by
 unfold nmIx
 rw [h]
def seIx (ss:List Seat) (z:Seat) (i:Nat):Bool:=match ss[i]? with | some s=>decide (s≠z) | none=>false
theorem xgs {ss:List Seat} {z s:Seat} {i:Nat} (h:ss[i]?=some s):seIx ss z i=decide (s≠z):=by
 unfold seIx
 rw [h]
theorem PtsL.snoc8 {H:Hp} {ps:List Pt} {qs:List Addr} (h:PtsL H ps qs) {p:Pt} {q:Addr} (e:H q=some (.tup (.str p.nm :: ptV p))):PtsL H (ps ++ [p]) (qs ++ [q]):=by
 induction h with
 | nil=>exact .cons e .nil
 | cons h _ ih=>exact .cons h ih
section
variable {P:Program} {w:World} {K:PySem.W.Frag} {mg:Str→Option Value} {base:Heap} {t:Adr}
theorem ok_az (T:Txt w K mg t):FnOk true P w K mg base (CXo P w) 2 t.f_az t.d_az ["_law_rows", "_law_seats", "_law_deed_here"] (xm2):=by
 refine T.F_az.okn (k:=1) sc_az (fun vs H Q E h=>?_) (fun cdv A outer s H vs Q E hr h=>?_)
 ·obtain ⟨lr,ls,dq,qr,qz,ps,ss,wy,p,z,w',ht,rfl,_⟩:=h
  rfl
 ·obtain ⟨lr,ls,dq,qr,qz,ps,ss,wy,p,z,w',ht,rfl,h⟩:=h
  refine ⟨_,xi (xbx (pv 2) (xgt rfl (xv (xq (i:=3) sc_az.nd rfl (Or.inl rfl)) (xv (xq (i:=4) sc_az.nd rfl (Or.inr rfl)) (xv (xq (i:=5) sc_az.nd rfl (Or.inr rfl)) (xa7))))))
   (xi (xaa (x8 xa6 (pv 3) (x4) (xab _)) (xk (xaf (xat (xf (xu xbh (pv 0) (xal (xf (pv 4) (xh)))) (xf (pv 1) (xh)))))) (xx))
   (xi (xaa (x8 xa6 (pv 3) (x4) (xab _)) (xk (xaf (xat (xf (xby rfl (xbf (zs:=["_law_one"]) (ys:=["_law_row"]) (fr:=[4]) (N0:=["_law_rows", "_law_seats", "_law_deed_here", "_law_way", "_law_row", "_law_seat", "_law_found", "_law_one"]) (sc0:=xj s_az) (by decide +kernel) rfl rfl rfl) (xa0 (pv 0)) (fun _ _ _ _ _ ow nd=>xq (i:=0) nd rfl (Or.inl (ow _ (by simp))) (Or.inr (ow _ (by simp)))) (xb5 (by decide)) (fun _ _ _ _ _=>xdi (x8 (r:=rNeV K) (xb1 (xbb hr)) (xw (r:=rIxT K) xad (pv 0) (xo) (fun _ _=>rfl)) (xw (r:=rIxT K) xad (pv 1) (xo) (fun _ _=>rfl)) (xab _))) (fun _ _ _ _ _=>pv 0)) (xf (pv 1) (xh)))))) (xx))
   (xi (xaa (x8 xa6 (pv 3) (x4) (xab _)) (xk (xaf (xat (xf (pv 0) (xf (xaj (xdq rfl) rfl T.n_sorted PyProof.Rows.Boot.«sorted» (xf (xu xbh (pv 1) (xal (xf (pv 5) (xh)))) (xh))) (xh)))))) (xx))
   (xi (xaa (x8 xa6 (pv 3) (x4) (xab _)) (xk (xaf (xat (xf (pv 0) (xf (xby rfl (xbf (zs:=["_law_one"]) (ys:=["_law_seat"]) (fr:=[5]) (N0:=["_law_rows", "_law_seats", "_law_deed_here", "_law_way", "_law_row", "_law_seat", "_law_found", "_law_one"]) (sc0:=xj s_az) (by decide +kernel) rfl rfl rfl) (xa0 (pv 1)) (fun _ _ _ _ _ ow nd=>xq (i:=0) nd rfl (Or.inl (ow _ (by simp))) (Or.inr (ow _ (by simp)))) (xb5 (by decide)) (fun _ _ _ _ _=>xdi (x8 (r:=rNeV K) (xb1 (xbb hr)) (pv 0) (pv 1) (xab _))) (fun _ _ _ _ _=>pv 0)) (xh)))))) (xx))
   (xi (xae (i:=6) sc_az.nd rfl (Or.inl rfl) (xal (xh)))
   (xi (xbr PassesOwn.never rfl (xa0 (pv 0)) (xq (i:=7) sc_az.nd rfl (Or.inl rfl)) (xk (xaa (x8 (xii (xbb hr)) (xw xad (pv 7) (xo) (fun _ _=>rfl)) (xw xad (pv 4) (xo) (fun _ _=>rfl)) (xab _)) (xk (xaq (xf2 PySem.F.plainAttrs_list PySem.F.slot_list_append PySem.F.type_list_append xck (pv 6) (xf (xu xgo (xef xgh (pv 4) xfj (xfg (xo))) (xef xgh (pv 7) (xfg (xo)) xfj)) (xh))))) (xk (xaq (xf2 PySem.F.plainAttrs_list PySem.F.slot_list_append PySem.F.type_list_append xck (pv 6) (xf (pv 7) (xh))))))))
   (xk (xaf (xat (xf (pv 6) (xf (pv 1) (xh)))))))))))),?_⟩
  obtain ⟨kp,pok,sok,⟨hdq,hqr,hqz⟩,hwy,hop,q⟩:=h
  obtain ⟨qs,hlr,pts⟩:=kp.rl
  obtain ⟨srt,rs,pm,pw',hls,sts⟩:=kp.sl
  have ql:=pts.len
  have rl:=sts.len
  have ple:=pok.le
  have sl:srt.length≤32:=by rw [pm.length_eq]; exact sok.2.1
  refine ⟨_,rfl,dq,_,rfl,SqL.of hdq,rfl,_,_,rfl,_,_,rfl,_,_,rfl,rfl,?_⟩
  have slS:∀ H',Same H H'→∃ (srt:List Seat) (rs:List Addr),srt.Perm ss∧srt.Pairwise xb2∧H' ls=some (.lst (rs.map V.ref))∧xam H' srt rs:=fun H' s=>⟨srt,rs,pm,pw',s _ _ hls,sts.keep (Same.tups s)⟩
  have rlS:∀ H',Same H H'→∃ qs:List Addr,H' lr=some (.lst (qs.map V.ref))∧PtsL H' ps qs:=fun H' s=>⟨qs,s _ _ hlr,pts.keep (Same.tups s)⟩
  rcases hwy with rfl | rfl | rfl | rfl | rfl
  ·refine ⟨_,rfl,rfl,_,rfl,ifP (by decide +kernel) ?_⟩
   refine ⟨_,rfl,_,rfl,(by show 1≤sizeLine; decide),fun q1 hq1=>?_⟩
   have s1:Same H (upd H q1 (.lst [.ref qr])):=xm (Same.refl _) hq1
   have g1:upd H q1 (.lst [.ref qr]) q1=some (.lst [.ref qr]):=xg
   revert s1 g1
   generalize upd H q1 (.lst [.ref qr])=H1
   intro s1 g1
   refine ⟨lr,q1,_,_,rfl,rfl,s1 _ _ hlr,g1,?_,fun l2 hl2=>?_⟩
   ·rw [List.length_map]
    exact Nat.le_of_lt (Nat.lt_trans (show qs.length + 1 < 14 by omega) (by decide))
   have s2:Same H1 (upd H1 l2 (.lst (qs.map V.ref ++ [.ref qr]))):=xm (Same.refl _) hl2
   have g2:upd H1 l2 (.lst (qs.map V.ref ++ [.ref qr])) l2=some (.lst (qs.map V.ref ++ [.ref qr])):=xg
   revert s2 g2
   generalize upd H1 l2 (.lst (qs.map V.ref ++ [.ref qr]))=H2
   intro s2 g2
   refine ⟨_,rfl,(by show 2≤sizeLine; decide),fun tq htq=>?_⟩
   have s3:Same H2 (upd H2 tq (.tup [.ref l2,.ref ls])):=xm (Same.refl _) htq
   have g3:upd H2 tq (.tup [.ref l2,.ref ls]) tq=some (.tup [.ref l2,.ref ls]):=xg
   revert s3 g3
   generalize upd H2 tq (.tup [.ref l2,.ref ls])=H3
   intro s3 g3
   have s03:=s1.trans (s2.trans s3)
   refine q H3 tq l2 ls s03 g3 (.inr (s1.free hl2)) (.inl rfl) ⟨⟨qs ++ [qr],by rw [s3 _ _ g2,List.map_append]; rfl,?_⟩,by rw [xfv]; exact slS H3 s03⟩
   rw [xfo]
   exact PtsL.snoc8 (pts.keep (Same.tups s03)) (s03 _ _ hqr)
  ·refine ⟨_,rfl,rfl,_,rfl,ifN (by decide +kernel) ?_⟩
   refine ⟨_,rfl,rfl,_,rfl,ifN (by decide +kernel) ?_⟩
   refine ⟨_,rfl,rfl,_,rfl,ifN (by decide +kernel) ?_⟩
   refine ⟨_,rfl,rfl,_,rfl,ifN (by decide +kernel) ?_⟩
   refine ⟨(by show 0≤sizeLine; exact Nat.zero_le _),fun lf hlf=>?_⟩
   have s1:Same H (upd H lf (.lst [])):=xm (Same.refl _) hlf
   have g1:upd H lf (.lst []) lf=some (.lst []):=xg
   revert s1 g1
   generalize upd H lf (.lst [])=H1
   intro s1 g1
   refine ⟨_,rfl,lr,rfl,⟨_,SqL.of (s1 _ _ hlr)⟩,xbo (xs:=qs.map V.ref) (Pv:=fun i σ H2=>∃ (v7:Option V) (rf:List Addr),σ=[some (.ref lr),some (.ref ls),some (.ref dq),some (.str "move"),some (.ref qr),some (.ref qz),some (.ref lf),v7]∧Same H H2∧H2 lf=some (.lst (rf.map V.ref))∧PtsL H2 ((ps.take i).map (mvP p.nm p.x p.y)) rf) ⟨_,[],rfl,s1,g1,by rw [List.take_zero]; exact .nil⟩ (fun _ _ _ _ ⟨_,_,_,z,_⟩=>SqL.of (z _ _ hlr)) ?_ ?_⟩
   ·rintro i v σ H2 hv ⟨v7,rf,rfl,s2,hf2,ptf⟩
    rw [List.getElem?_map] at hv
    obtain ⟨o,ho,rfl⟩:=Option.map_eq_some_iff.mp hv
    obtain ⟨p0,hpp,ep⟩:=(pts.keep (Same.tups s2)).get ho
    have hq2:=s2 _ _ hqr
    have rfl_:=ptf.len
    have tk:(ps.take (i + 1)).map (mvP p.nm p.x p.y)=(ps.take i).map (mvP p.nm p.x p.y) ++ [mvP p.nm p.x p.y p0]:=by
     rw [List.take_succ,hpp,List.map_append]
     rfl
    have lf13:rf.length < 13:=by
     rw [rfl_,List.length_map,List.length_take]
     omega
    have done:∀ (H3:Hp) (qn:Addr),Same H2 H3→H3 qn=some (.tup (.str (mvP p.nm p.x p.y p0).nm :: ptV (mvP p.nm p.x p.y p0)))→H3 lf=some (.lst (rf.map V.ref))→(∃ (v7:Option V) (rf':List Addr),[some (V.ref lr),some (V.ref ls),some (V.ref dq),some (V.str "move"),some (V.ref qr),some (V.ref qz),some (V.ref lf),some (V.ref o)]=[some (V.ref lr),some (.ref ls),some (.ref dq),some (.str "move"),some (.ref qr),some (.ref qz),some (.ref lf),v7]∧Same H (upd H3 lf (.lst (rf.map V.ref ++ [.ref qn])))∧upd H3 lf (.lst (rf.map V.ref ++ [.ref qn])) lf=some (.lst (rf'.map V.ref))∧PtsL (upd H3 lf (.lst (rf.map V.ref ++ [.ref qn]))) ((ps.take (i + 1)).map (mvP p.nm p.x p.y)) rf'):=fun H3 qn s3 eq3 hf3=>by
     have bt:∀ c u,c≠lf→H3 c=some u→upd H3 lf (.lst (rf.map V.ref ++ [.ref qn])) c=some u:=fun c u nc e=>by
      rw [xl nc]
      exact e
     have tt:Tups H3 (upd H3 lf (.lst (rf.map V.ref ++ [.ref qn]))):=fun c xs e=>bt _ _ (xac e hf3 (fun z=>nomatch z)) e
     refine ⟨_,rf ++ [qn],rfl,fun c u e=>bt _ _ (xn e hlf) (s3 _ _ (s2 _ _ e)),by rw [xg,List.map_append]; rfl,?_⟩
     rw [tk]
     exact PtsL.snoc8 (ptf.keep fun c xs e=>tt _ _ (s3 _ _ e)) (tt _ _ eq3)
    refine ⟨_,rfl,o,_,0,_,rfl,rfl,SqT.of ep,rfl,_,rfl,qr,_,0,_,rfl,rfl,SqT.of hq2,rfl,0,0,.str _,.str _,.str,.str,by decide,by decide,_,rfl,?_⟩
    by_cases c:p0.nm=p.nm
    ·refine ifP (by rw [xfc]; exact decide_eq_true c) ?_
     refine ⟨_,rfl,.inl ⟨rfl,_,SqL.of hf2⟩,_,rfl,3,rfl,qr,_,rfl,SqT.of hq2,(fun z=>absurd z.2 (by show ¬ ((3:Nat)=6); decide)),fun q3 hq3=>?_⟩
     change H2 q3=none at hq3
     obtain ⟨H3,e3⟩:∃ H3,H3=upd H2 q3 (.tup [.str p.nm,.int p.x,.int p.y]):=⟨_,rfl⟩
     have s3:Same H2 H3:=by rw [e3]; exact xm (Same.refl _) hq3
     have g3:H3 q3=some (.tup [.str p.nm,.int p.x,.int p.y]):=by rw [e3]; exact xg
     have ec3:upd H2 q3 (.tup (cutV (.str p.nm :: ptV p) none (some 3)))=H3:=by rw [e3]; rfl
     rw [ec3]
     refine ⟨_,rfl,3,rfl,o,_,rfl,SqT.of (s3 _ _ ep),(fun z=>absurd z.1 (by show ¬ ((3:Nat)=0); decide)),fun q4 hq4=>?_⟩
     obtain ⟨H4,e4⟩:∃ H4,H4=upd H3 q4 (.tup [.str p0.sd,.int p0.lo,.int p0.hi]):=⟨_,rfl⟩
     have s4:Same H3 H4:=by rw [e4]; exact xm (Same.refl _) hq4
     have g4:H4 q4=some (.tup [.str p0.sd,.int p0.lo,.int p0.hi]):=by rw [e4]; exact xg
     have ec4:upd H3 q4 (.tup (cutV (.str p0.nm :: ptV p0) (some 3) none))=H4:=by rw [e4]; rfl
     rw [ec4]
     refine ⟨q3,q4,[.str p.nm,.int p.x,.int p.y],[.str p0.sd,.int p0.lo,.int p0.hi],rfl,rfl,SqT.of (s4 _ _ g3),SqT.of g4,(by simp),(by show 3 + 3≤sizeLine; decide),(fun z=>nomatch z),fun _ q5 hq5=>?_⟩
     have s5:Same H4 (upd H4 q5 (.tup ([.str p.nm,.int p.x,.int p.y] ++ [.str p0.sd,.int p0.lo,.int p0.hi]))):=xm (Same.refl _) hq5
     have g5:upd H4 q5 (.tup ([.str p.nm,.int p.x,.int p.y] ++ [.str p0.sd,.int p0.lo,.int p0.hi])) q5=some (.tup ([.str p.nm,.int p.x,.int p.y] ++ [.str p0.sd,.int p0.lo,.int p0.hi])):=xg
     revert s5 g5
     generalize upd H4 q5 (.tup ([.str p.nm,.int p.x,.int p.y] ++ [.str p0.sd,.int p0.lo,.int p0.hi]))=H5
     intro s5 g5
     have s25:=s3.trans (s4.trans s5)
     have hf5:=s25 _ _ hf2
     refine ⟨lf,_,_,rfl,rfl,hf5,?_,?_⟩
     ·rw [List.length_map]
      exact Nat.lt_trans lf13 (by decide)
     refine done H5 q5 s25 ?_ hf5
     rw [g5,show mvP p.nm p.x p.y p0={ p0 with x:=p.x,y:=p.y } from if_pos c,c]
     rfl
    ·refine ifN (by rw [xfc]; exact decide_eq_false c) ?_
     refine ⟨_,rfl,.inl ⟨rfl,_,SqL.of hf2⟩,_,rfl,lf,_,_,rfl,rfl,hf2,?_,?_⟩
     ·rw [List.length_map]
      exact Nat.lt_trans lf13 (by decide)
     refine done H2 o (Same.refl _) ?_ hf2
     rw [show mvP p.nm p.x p.y p0=p0 from if_neg c]
     exact ep
   ·rintro σ H2 ⟨v7,rf,rfl,s2,hf2,ptf⟩
    refine ⟨_,rfl,_,rfl,(by show 2≤sizeLine; decide),fun tq htq=>?_⟩
    have s3:Same H2 (upd H2 tq (.tup [.ref lf,.ref ls])):=xm (Same.refl _) htq
    have g3:upd H2 tq (.tup [.ref lf,.ref ls]) tq=some (.tup [.ref lf,.ref ls]):=xg
    revert s3 g3
    generalize upd H2 tq (.tup [.ref lf,.ref ls])=H3
    intro s3 g3
    have s03:=s2.trans s3
    refine q H3 tq lf ls s03 g3 (.inr hlf) (.inl rfl) ⟨⟨rf,s3 _ _ hf2,?_⟩,by rw [xes]; exact slS H3 s03⟩
    rw [List.length_map,ql,List.take_length] at ptf
    rw [xeu]
    exact ptf.keep (Same.tups s3)
  ·refine ⟨_,rfl,rfl,_,rfl,ifN (by decide +kernel) ?_⟩
   refine ⟨_,rfl,rfl,_,rfl,ifP (by decide +kernel) ?_⟩
   refine ⟨_,rfl,lr,rfl,⟨_,SqL.of hlr⟩,fun l2 hl2=>?_⟩
   refine xb8 (SqL.of hlr) (by rw [List.length_map]; exact Nat.lt_trans (by omega:qs.length < 13) (by decide)) hl2 (nmIx ps p.nm) (fun i y H=>∃ p q,ps[i]?=some p∧y=.ref q∧H q=some (.tup (.str p.nm :: ptV p))) (fun i y H H' tp ⟨p,q,e1,e2,e3⟩=>⟨p,q,e1,e2,tp _ _ e3⟩) (fun i y H1 hy s1 N M hN hM=>?_) (fun ys H1 s1 el1 ly f1=>?_)
   ·rw [List.getElem?_map] at hy
    obtain ⟨o,ho,rfl⟩:=Option.map_eq_some_iff.mp hy
    obtain ⟨p0,hp0,ep⟩:=(pts.keep (Same.tups s1)).get ho
    refine ⟨_,rfl,o,_,0,_,rfl,rfl,SqT.of ep,rfl,_,rfl,qr,_,0,_,rfl,rfl,SqT.of (s1 _ _ hqr),rfl,0,0,.str _,.str _,.str,.str,by decide,by decide,_,rfl,?_⟩
    by_cases c:p0.nm=p.nm
    ·exact ifN (by rw [xfc,decide_eq_true c]; rfl) (hM _ (Same.refl _) (by rw [xgy hp0]; exact decide_eq_false (fun z=>z c)))
    ·exact ifP (by rw [xfc,decide_eq_false c]; rfl) ⟨_,rfl,hN _ _ (Same.refl _) (by rw [xgy hp0]; exact decide_eq_true c) ⟨p0,o,hp0,rfl,ep⟩⟩
   have fi:=xd6 (fun q:Pt=>decide (q.nm≠p.nm)) (as:=ps) (p:=nmIx ps p.nm) (fun i s hs=>xgy hs)
   rw [List.length_map,ql] at ly f1
   obtain ⟨ors,e1,pto⟩:=PtsL.pick (H:=H1) (ps:=ps.filter fun q:Pt=>decide (q.nm≠p.nm)) (ys:=ys) (by rw [ly,fi.1]) (fun j y s hy hs=>by
    have hj:j < ((List.range ps.length).filter (nmIx ps p.nm)).length:=by
     rw [← ly]
     exact (List.getElem?_eq_some_iff.mp hy).1
    obtain ⟨s',q',h1,h2,h3⟩:=f1 j y _ hy (List.getElem?_eq_getElem hj)
    rw [fi.2 j _ (List.getElem?_eq_getElem hj),hs] at h1
    cases h1
    exact ⟨q',h2,h3⟩)
   subst e1
   refine ⟨_,rfl,(by show 2≤sizeLine; decide),fun tq htq=>?_⟩
   have s3:Same H1 (upd H1 tq (.tup [.ref l2,.ref ls])):=xm (Same.refl _) htq
   have g3:upd H1 tq (.tup [.ref l2,.ref ls]) tq=some (.tup [.ref l2,.ref ls]):=xg
   revert s3 g3
   generalize upd H1 tq (.tup [.ref l2,.ref ls])=H3
   intro s3 g3
   have s03:=s1.trans s3
   exact q H3 tq l2 ls s03 g3 (.inr hl2) (.inl rfl) ⟨⟨ors,s3 _ _ el1,by rw [xek]; exact pto.keep (Same.tups s3)⟩,by rw [xet]; exact slS H3 s03⟩
  ·refine ⟨_,rfl,rfl,_,rfl,ifN (by decide +kernel) ?_⟩
   refine ⟨_,rfl,rfl,_,rfl,ifN (by decide +kernel) ?_⟩
   refine ⟨_,rfl,rfl,_,rfl,ifP (by decide +kernel) ?_⟩
   obtain ⟨nin,lt32⟩:=hop rfl
   refine ⟨_,rfl,_,rfl,_,rfl,(by show 1≤sizeLine; decide),fun q1 hq1=>?_⟩
   have s1:Same H (upd H q1 (.lst [.ref qz])):=xm (Same.refl _) hq1
   have g1:upd H q1 (.lst [.ref qz]) q1=some (.lst [.ref qz]):=xg
   revert s1 g1
   generalize upd H q1 (.lst [.ref qz])=H1
   intro s1 g1
   refine ⟨ls,q1,_,_,rfl,rfl,s1 _ _ hls,g1,?_,fun l2 hl2=>?_⟩
   ·rw [List.length_map]
    exact Nat.le_of_lt (Nat.lt_trans (show rs.length + 1 < 34 by omega) (by decide))
   have s2:Same H1 (upd H1 l2 (.lst (rs.map V.ref ++ [.ref qz]))):=xm (Same.refl _) hl2
   have g2:upd H1 l2 (.lst (rs.map V.ref ++ [.ref qz])) l2=some (.lst (rs.map V.ref ++ [.ref qz])):=xg
   revert s2 g2
   generalize upd H1 l2 (.lst (rs.map V.ref ++ [.ref qz]))=H2
   intro s2 g2
   have s02:=s1.trans s2
   have g2':H2 l2=some (.lst ((rs ++ [qz]).map V.ref)):=by rw [g2,List.map_append]; rfl
   dsimp only [tNil]
   refine xd0 (s2:=srt ++ [z]) g2' (xam.snoc (sts.keep (Same.tups s02)) (s02 _ _ hqz)) ?_ ?_ fun l3 srt3 qs3 fr3 sl3 pm3 pw3=>?_
   ·rw [List.nodup_append]
    exact ⟨pm.nodup_iff.mpr sok.1,by simp,fun x hx y hy e=>nin (pm.mem_iff.mp (by rw [List.mem_singleton.mp hy] at e; exact e ▸ hx))⟩
   ·rw [List.length_append,pm.length_eq]
    show ss.length + 1≤32
    omega
   have s3:Same H2 (upd H2 l3 (.lst (qs3.map V.ref))):=xm (Same.refl _) fr3
   have g3:upd H2 l3 (.lst (qs3.map V.ref)) l3=some (.lst (qs3.map V.ref)):=xg
   revert s3 g3
   generalize upd H2 l3 (.lst (qs3.map V.ref))=H3
   intro s3 g3
   refine ⟨(by show 2≤sizeLine; decide),fun tq htq=>?_⟩
   have s4:Same H3 (upd H3 tq (.tup [.ref lr,.ref l3])):=xm (Same.refl _) htq
   have g4:upd H3 tq (.tup [.ref lr,.ref l3]) tq=some (.tup [.ref lr,.ref l3]):=xg
   revert s4 g4
   generalize upd H3 tq (.tup [.ref lr,.ref l3])=H4
   intro s4 g4
   have s04:=s02.trans (s3.trans s4)
   exact q H4 tq lr l3 s04 g4 (.inl rfl) (.inr (s02.free fr3)) ⟨by rw [xe6]; exact rlS H4 s04,⟨srt3,qs3,by rw [xer]; exact pm3.trans (pm.append_right _),pw3,s4 _ _ g3,sl3.keep (Same.tups (s3.trans s4))⟩⟩
  ·refine ⟨_,rfl,rfl,_,rfl,ifN (by decide +kernel) ?_⟩
   refine ⟨_,rfl,rfl,_,rfl,ifN (by decide +kernel) ?_⟩
   refine ⟨_,rfl,rfl,_,rfl,ifN (by decide +kernel) ?_⟩
   refine ⟨_,rfl,rfl,_,rfl,ifP (by decide +kernel) ?_⟩
   refine ⟨_,rfl,_,rfl,ls,rfl,⟨_,SqL.of hls⟩,fun l2 hl2=>?_⟩
   refine xb8 (SqL.of hls) (by rw [List.length_map]; exact Nat.lt_trans (by omega:rs.length < 33) (by decide)) hl2 (seIx srt z) (fun i y H=>∃ s q,srt[i]?=some s∧y=.ref q∧H q=some (.tup (xbu s))) (fun i y H H' tp ⟨p,q,e1,e2,e3⟩=>⟨p,q,e1,e2,tp _ _ e3⟩) (fun i y H1 hy s1 N M hN hM=>?_) (fun ys H1 s1 el1 ly f1=>?_)
   ·rw [List.getElem?_map] at hy
    obtain ⟨o,ho,rfl⟩:=Option.map_eq_some_iff.mp hy
    obtain ⟨s0,hs0,ep⟩:=(sts.keep (Same.tups s1)).get ho
    refine ⟨_,rfl,_,rfl,1,1,xbl s0,xbl z,xd3 ep,xd3 (s1 _ _ hqz),by decide,by decide,_,rfl,?_⟩
    by_cases c:s0=z
    ·exact ifN (by rw [xfn,decide_eq_true c]; rfl) (hM _ (Same.refl _) (by rw [xgs hs0]; exact decide_eq_false (fun y=>y c)))
    ·exact ifP (by rw [xfn,decide_eq_false c]; rfl) ⟨_,rfl,hN _ _ (Same.refl _) (by rw [xgs hs0]; exact decide_eq_true c) ⟨s0,o,hs0,rfl,ep⟩⟩
   have fi:=xd6 (fun s:Seat=>decide (s≠z)) (as:=srt) (p:=seIx srt z) (fun i s hs=>xgs hs)
   rw [List.length_map,rl] at ly f1
   obtain ⟨ors,e1,sto⟩:=xam.pick (H:=H1) (ss:=srt.filter fun s:Seat=>decide (s≠z)) (ys:=ys) (by rw [ly,fi.1]) (fun j y s hy hs=>by
    have hj:j < ((List.range srt.length).filter (seIx srt z)).length:=by
     rw [← ly]
     exact (List.getElem?_eq_some_iff.mp hy).1
    obtain ⟨s',q',h1,h2,h3⟩:=f1 j y _ hy (List.getElem?_eq_getElem hj)
    rw [fi.2 j _ (List.getElem?_eq_getElem hj),hs] at h1
    cases h1
    exact ⟨q',h2,h3⟩)
   subst e1
   refine ⟨(by show 2≤sizeLine; decide),fun tq htq=>?_⟩
   have s3:Same H1 (upd H1 tq (.tup [.ref lr,.ref l2])):=xm (Same.refl _) htq
   have g3:upd H1 tq (.tup [.ref lr,.ref l2]) tq=some (.tup [.ref lr,.ref l2]):=xg
   revert s3 g3
   generalize upd H1 tq (.tup [.ref lr,.ref l2])=H3
   intro s3 g3
   have s03:=s1.trans s3
   exact q H3 tq lr l2 s03 g3 (.inl rfl) (.inr hl2) ⟨by rw [xe1]; exact rlS H3 s03,⟨srt.filter (fun s:Seat=>decide (s≠z)),ors,by rw [xel]; exact pm.filter _,pw'.filter _,s3 _ _ el1,sto.keep (Same.tups s3)⟩⟩
end
end S08
set_option maxRecDepth 100000
set_option maxHeartbeats 4000000
namespace S08
open PySem L2 XL PyProof.Rows
def fWay (wy w h:Int) (p:Pt):Pt:=if wy=1 then mirP w p else turP h p
def gWay (wy h:Int) (s:Seat):Seat:=if wy=1 then mirS s else turS h s
theorem xlv {wy h:Int} {s u:Seat} (e:gWay wy h s=gWay wy h u):s=u:=by
 unfold gWay at e
 by_cases c:wy=1
 ·rw [if_pos c,if_pos c] at e
  have e1:=congrArg Prod.fst e
  have e2:=congrArg Prod.snd e
  simp only [mirS,Bool.not_eq_eq_eq_not,Bool.not_not] at e1 e2
  exact Prod.ext e1 e2
 ·rw [if_neg c,if_neg c] at e
  have e1:=congrArg Prod.fst e
  have e2:=congrArg Prod.snd e
  simp only [turS] at e1 e2
  exact Prod.ext e1 (by omega)
theorem xm6 {sd:Str} (h:sd="left"∨sd="right"∨sd="both"):(valV (xb9 [] [(Sum.inr "left",V.str "right"),(Sum.inr "right",V.str "left")]) (Sum.inr sd)).getD (.str "both")=.str (xcu sd):=by
 rcases h with rfl | rfl | rfl <;> decide +kernel
theorem xmi (b:Bool):(valV (xb9 [] [(Sum.inr "left",V.str "right")]) (Sum.inr (x6 b))).getD (.str "left")=.str (x6 (!b)):=by
 cases b <;> decide +kernel
theorem xo3 {α:Type} {f:α→α} {as:List α} {i:Nat} {a:α} (h:(as.map f)[i]?=some a):∃ b,as[i]?=some b∧a=f b:=by
 rw [List.getElem?_map] at h
 obtain ⟨b,e,r⟩:=Option.map_eq_some_iff.mp h
 exact ⟨b,e,r.symm⟩
def xkh:Sp:=fun vs H Q _=>∃ (th lr ls:Addr) (wy w h:Int) (ps:List Pt) (ss:List Seat),vs=[.ref th,.int wy,.int w,.int h]∧H th=some (.tup [.ref lr,.ref ls])∧Kept H lr ls ps ss∧xba w h ps∧SsOk h ss∧(wy=1∨wy=2) ∧
 ∀ (H':Hp) (tq lr' ls':Addr),Same H H'→H' tq=some (.tup [.ref lr',.ref ls'])→H lr'=none→H ls'=none→Kept H' lr' ls' (ps.map (fWay wy w h)) (ss.map (gWay wy h))→Q (.ref tq) H'
section
variable {P:Program} {w:World} {K:PySem.W.Frag} {mg:Str→Option Value} {base:Heap} {t:Adr}
theorem ok_an (T:Txt w K mg t):FnOk true P w K mg base (CXo P w) 1 t.f_an t.d_an ["_law_thing", "_law_way", "_law_width", "_law_height"] (xkh):=by
 refine T.F_an.okn (k:=0) sc_an (fun vs H Q E h=>?_) (fun cdv A outer s H vs Q E hr h=>?_)
 ·obtain ⟨th,lr,ls,wy,w',ht,ps,ss,rfl,_⟩:=h
  rfl
 ·obtain ⟨th,lr,ls,wy,w',ht,ps,ss,rfl,h⟩:=h
  refine ⟨_,xi (xae (i:=4) sc_an.nd rfl (Or.inl rfl) (xal (xh)))
   (xi (xbr PassesOwn.never rfl (xa0 (xw xad (pv 0) (xo) (fun _ _=>rfl))) (xbn rfl (xv (xq (i:=5) sc_an.nd rfl (Or.inl rfl)) (xv (xq (i:=6) sc_an.nd rfl (Or.inl rfl)) (xv (xq (i:=7) sc_an.nd rfl (Or.inl rfl)) (xv (xq (i:=8) sc_an.nd rfl (Or.inl rfl)) (xv (xq (i:=9) sc_an.nd rfl (Or.inl rfl)) (xv (xq (i:=10) sc_an.nd rfl (Or.inl rfl)) (xa7)))))))) (xk (xaa (x8 xa6 (pv 1) (xo) (xab _)) (xk (xaq (xf2 PySem.F.plainAttrs_list PySem.F.slot_list_append PySem.F.type_list_append xck (pv 4) (xf (xat (x0 (pv 5) (x0 (xu xbm (xu xa3 (pv 2) (xo)) (pv 6)) (x0 (pv 7) (x0 (xhx (xbp hr) (xiz (xfs (x4) (x4) (xfs (x4) (x4) (xi0))) rfl rfl (by simp) (by decide)) (pv 8) (x4) ⟨rfl,rfl,rfl,rfl⟩) (x0 (pv 9) (x0 (pv 10) (xh) rfl) rfl) rfl) rfl) rfl) rfl)) (xh))))) (xk (xaq (xf2 PySem.F.plainAttrs_list PySem.F.slot_list_append PySem.F.type_list_append xck (pv 4) (xf (xat (x0 (pv 5) (x0 (pv 6) (x0 (xu xbm (xu xa3 (pv 3) (xo)) (pv 7)) (x0 (pv 8) (x0 (xu xbm (xu xa3 (pv 3) (xo)) (pv 10)) (x0 (xu xbm (xu xa3 (pv 3) (xo)) (pv 9)) (xh) rfl) rfl) rfl) rfl) rfl) rfl)) (xh))))))))
   (xi (xaa (x8 xa6 (pv 1) (xo) (xab _)) (xk (xaf (xat (xf (pv 4) (xf (xaj (xdq rfl) rfl T.n_sorted PyProof.Rows.Boot.«sorted» (xf (xby rfl (xbf (zs:=["_law_side", "_law_row"]) (ys:=[]) (fr:=[]) (N0:=["_law_thing", "_law_way", "_law_width", "_law_height", "_law_rows", "_law_name", "_law_x", "_law_y", "_law_sides", "_law_low", "_law_high"]) (sc0:=xj s_an) (by decide +kernel) rfl rfl rfl) (xa0 (xw xad (pv 0) (xo) (fun _ _=>rfl))) (fun _ _ _ _ _ ow nd=>(xbn rfl (xv (xq (i:=0) nd rfl (Or.inl (ow _ (by simp))) (Or.inr (ow _ (by simp)))) (xv (xq (i:=1) nd rfl (Or.inl (ow _ (by simp))) (Or.inr (ow _ (by simp)))) (xa7))):PG _ _ (gTup K 2 _))) (xcm (xar (by decide) (xar (by decide) (xb4)))) (fun _ _ _ _ _=>xbz) (fun _ _ _ _ _=>xat (xf (xhx (xbp hr) (xiz (xfs (x4) (x4) (xi0)) rfl rfl (by simp) (by decide)) (pv 0) (x4) ⟨rfl,rfl,rfl,rfl⟩) (xf (pv 1) (xh))))) (xh))) (xh)))))) (xx))
   (xk (xaf (xat (xf (pv 4) (xf (xaj (xdq rfl) rfl T.n_sorted PyProof.Rows.Boot.«sorted» (xf (xby rfl (xbf (zs:=["_law_side", "_law_row"]) (ys:=["_law_height"]) (fr:=[3]) (N0:=["_law_thing", "_law_way", "_law_width", "_law_height", "_law_rows", "_law_name", "_law_x", "_law_y", "_law_sides", "_law_low", "_law_high"]) (sc0:=xj s_an) (by decide +kernel) rfl rfl rfl) (xa0 (xw xad (pv 0) (xo) (fun _ _=>rfl))) (fun _ _ _ _ _ ow nd=>(xbn rfl (xv (xq (i:=0) nd rfl (Or.inl (ow _ (by simp))) (Or.inr (ow _ (by simp)))) (xv (xq (i:=1) nd rfl (Or.inl (ow _ (by simp))) (Or.inr (ow _ (by simp)))) (xa7))):PG _ _ (gTup K 2 _))) (xcm (xar (by decide) (xar (by decide) (xb4)))) (fun _ _ _ _ _=>xbz) (fun _ _ _ _ _=>xat (xf (pv 0) (xf (xu xbm (xu xa3 (pv 2) (xo)) (pv 1)) (xh))))) (xh))) (xh)))))))),?_⟩
  obtain ⟨hth,kp,pok,sok,hwy,q⟩:=h
  obtain ⟨qs,hlr,pts⟩:=kp.rl
  obtain ⟨srt,rs,pm,pw',hls,sts⟩:=kp.sl
  have ql:=pts.len
  have rl:=sts.len
  have ple:=pok.le
  have sl:srt.length≤32:=by rw [pm.length_eq]; exact sok.2.1
  refine ⟨(by show 0≤sizeLine; exact Nat.zero_le _),fun lf hlf=>?_⟩
  have s1:Same H (upd H lf (.lst [])):=xm (Same.refl _) hlf
  have g1:upd H lf (.lst []) lf=some (.lst []):=xg
  revert s1 g1
  generalize upd H lf (.lst [])=H1
  intro s1 g1
  refine ⟨_,rfl,th,_,0,_,rfl,rfl,SqT.of (s1 _ _ hth),rfl,lr,rfl,⟨_,SqL.of (s1 _ _ hlr)⟩,xbo (xs:=qs.map V.ref) (Pv:=fun i σ H2=>∃ (v5 v6 v7 v8 v9 v10:Option V) (rf:List Addr),σ=[some (.ref th),some (.int wy),some (.int w'),some (.int ht),some (.ref lf),v5,v6,v7,v8,v9,v10]∧Same H H2∧H2 lf=some (.lst (rf.map V.ref))∧PtsL H2 ((ps.take i).map (fWay wy w' ht)) rf) ⟨_,_,_,_,_,_,[],rfl,s1,g1,by rw [List.take_zero]; exact .nil⟩ (fun _ _ _ _ ⟨_,_,_,_,_,_,_,_,z,_⟩=>SqL.of (z _ _ hlr)) ?_ ?_⟩
  ·rintro i v σ H2 hv ⟨v5,v6,v7,v8,v9,v10,rf,rfl,s2,hf2,ptf⟩
   rw [List.getElem?_map] at hv
   obtain ⟨o,ho,rfl⟩:=Option.map_eq_some_iff.mp hv
   obtain ⟨p0,hpp,ep⟩:=(pts.keep (Same.tups s2)).get ho
   have po:=pok.ok p0 (List.mem_of_getElem? hpp)
   have rfl_:=ptf.len
   have tk:(ps.take (i + 1)).map (fWay wy w' ht)=(ps.take i).map (fWay wy w' ht) ++ [fWay wy w' ht p0]:=by
    rw [List.take_succ,hpp,List.map_append]
    rfl
   have lf13:rf.length < 13:=by
    rw [rfl_,List.length_map,List.length_take]
    omega
   have done:∀ (H3:Hp) (qn:Addr),Same H2 H3→H3 qn=some (.tup (.str (fWay wy w' ht p0).nm :: ptV (fWay wy w' ht p0)))→H3 lf=some (.lst (rf.map V.ref))→(∃ (v5 v6 v7 v8 v9 v10:Option V) (rf':List Addr),[some (V.ref th),some (V.int wy),some (V.int w'),some (V.int ht),some (V.ref lf),some (V.str p0.nm),some (V.int p0.x),some (V.int p0.y),some (V.str p0.sd),some (V.int p0.lo),some (V.int p0.hi)]=[some (V.ref th),some (.int wy),some (.int w'),some (.int ht),some (.ref lf),v5,v6,v7,v8,v9,v10]∧Same H (upd H3 lf (.lst (rf.map V.ref ++ [.ref qn])))∧upd H3 lf (.lst (rf.map V.ref ++ [.ref qn])) lf=some (.lst (rf'.map V.ref))∧PtsL (upd H3 lf (.lst (rf.map V.ref ++ [.ref qn]))) ((ps.take (i + 1)).map (fWay wy w' ht)) rf'):=fun H3 qn s3 eq3 hf3=>by
    have bt:∀ c u,c≠lf→H3 c=some u→upd H3 lf (.lst (rf.map V.ref ++ [.ref qn])) c=some u:=fun c u nc e=>by
     rw [xl nc]
     exact e
    have tt:Tups H3 (upd H3 lf (.lst (rf.map V.ref ++ [.ref qn]))):=fun c xs e=>bt _ _ (xac e hf3 (fun z=>nomatch z)) e
    refine ⟨_,_,_,_,_,_,rf ++ [qn],rfl,fun c u e=>bt _ _ (xn e hlf) (s3 _ _ (s2 _ _ e)),by rw [xg,List.map_append]; rfl,?_⟩
    rw [tk]
    exact PtsL.snoc8 (ptf.keep fun c xs e=>tt _ _ (s3 _ _ e)) (tt _ _ eq3)
   refine ⟨o,_,rfl,SqT.of ep,rfl,_,_,rfl,_,_,rfl,_,_,rfl,_,_,rfl,_,_,rfl,_,_,rfl,rfl,?_⟩
   refine ⟨_,rfl,rfl,_,rfl,ite2 (fun c=>?_) (fun c=>?_)⟩
   ·have e:wy=1:=by simpa using c
    refine ⟨_,rfl,.inl ⟨rfl,_,SqL.of hf2⟩,_,rfl,_,rfl,_,_,rfl,rfl,_,rfl,_,_,rfl,rfl,_,rfl,fun d0 hd0=>⟨xg,[(Sum.inr "left",V.str "right"),(Sum.inr "right",V.str "left")],rfl,by decide,d0,rfl,.inl ⟨_,.inl xg⟩,_,rfl,valV (xb9 [] [(Sum.inr "left",V.str "right"),(Sum.inr "right",V.str "left")]) (Sum.inr p0.sd),DGet.k (k:=.inr p0.sd) xg,_,rfl,_,rfl,(by show 6≤sizeLine; decide),fun r hr'=>?_⟩⟩
    rw [xcz] at hr'
    rw [xcz,xm6 po.sd]
    dsimp only
    obtain ⟨H3,e3⟩:∃ H3,H3=upd H2 d0 (.dK (xb9 [] [(Sum.inr "left",V.str "right"),(Sum.inr "right",V.str "left")])):=⟨_,rfl⟩
    rw [← e3] at hr' ⊢
    have s3:Same H2 H3:=by rw [e3]; exact xm (Same.refl _) hd0
    have s4:Same H3 (upd H3 r (.tup [.str p0.nm,.int (w' + 1 - p0.x),.int p0.y,.str (xcu p0.sd),.int p0.lo,.int p0.hi])):=xm (Same.refl _) hr'
    have g4:upd H3 r (.tup [.str p0.nm,.int (w' + 1 - p0.x),.int p0.y,.str (xcu p0.sd),.int p0.lo,.int p0.hi]) r=some (.tup [.str p0.nm,.int (w' + 1 - p0.x),.int p0.y,.str (xcu p0.sd),.int p0.lo,.int p0.hi]):=xg
    revert s4 g4
    generalize upd H3 r (.tup [.str p0.nm,.int (w' + 1 - p0.x),.int p0.y,.str (xcu p0.sd),.int p0.lo,.int p0.hi])=H4
    intro s4 g4
    have s24:=s3.trans s4
    have hf4:=s24 _ _ hf2
    refine ⟨lf,_,_,rfl,rfl,hf4,?_,done H4 r s24 ?_ hf4⟩
    ·rw [List.length_map]
     exact Nat.lt_trans lf13 (by decide)
    ·rw [g4,show fWay wy w' ht p0=mirP w' p0 from if_pos e]
     rfl
   ·have e:¬ wy=1:=by simpa using c
    refine ⟨_,rfl,.inl ⟨rfl,_,SqL.of hf2⟩,_,rfl,_,rfl,_,rfl,_,_,rfl,rfl,_,rfl,_,_,rfl,rfl,_,rfl,_,rfl,_,_,rfl,rfl,_,rfl,_,_,rfl,rfl,_,rfl,_,_,rfl,rfl,_,rfl,_,_,rfl,rfl,(by show 6≤sizeLine; decide),fun r hr'=>?_⟩
    dsimp only
    have s4:Same H2 (upd H2 r (.tup [.str p0.nm,.int p0.x,.int (ht + 1 - p0.y),.str p0.sd,.int (ht + 1 - p0.hi),.int (ht + 1 - p0.lo)])):=xm (Same.refl _) hr'
    have g4:upd H2 r (.tup [.str p0.nm,.int p0.x,.int (ht + 1 - p0.y),.str p0.sd,.int (ht + 1 - p0.hi),.int (ht + 1 - p0.lo)]) r=some (.tup [.str p0.nm,.int p0.x,.int (ht + 1 - p0.y),.str p0.sd,.int (ht + 1 - p0.hi),.int (ht + 1 - p0.lo)]):=xg
    revert s4 g4
    generalize upd H2 r (.tup [.str p0.nm,.int p0.x,.int (ht + 1 - p0.y),.str p0.sd,.int (ht + 1 - p0.hi),.int (ht + 1 - p0.lo)])=H4
    intro s4 g4
    have hf4:=s4 _ _ hf2
    refine ⟨lf,_,_,rfl,rfl,hf4,?_,done H4 r s4 ?_ hf4⟩
    ·rw [List.length_map]
     exact Nat.lt_trans lf13 (by decide)
    ·rw [g4,show fWay wy w' ht p0=turP ht p0 from if_neg e]
     rfl
  ·rintro σ H2 ⟨v5,v6,v7,v8,v9,v10,rf,rfl,s2,hf2,ptf⟩
   rw [List.length_map,ql,List.take_length] at ptf
   have hth2:=s2 _ _ hth
   have hls2:=s2 _ _ hls
   have sts2:=sts.keep (Same.tups s2)
   have fin:∀ (l2:Addr) (ys:List V) (H3:Hp),H2 l2=none→Same H2 H3→H3 l2=some (.lst ys)→ys.length=(rs.map V.ref).length→(∀ (i:Nat) (y:V),ys[i]?=some y→∃ s q,srt[i]?=some s∧y=.ref q∧H3 q=some (.tup (xbu (gWay wy ht s))))→∃ rs3:List Addr,ys=rs3.map V.ref∧xam H3 (srt.map (gWay wy ht)) rs3:=fun l2 ys H3 hl2 s3 el3 ly f3=>by
    refine xam.pick (H:=H3) (ss:=srt.map (gWay wy ht)) (ys:=ys) (by rw [ly,List.length_map,List.length_map,rl]) fun j y s hy hs=>?_
    obtain ⟨s',q',h1,h2,h3⟩:=f3 j y hy
    obtain ⟨b,e1,e2⟩:=xo3 hs
    rw [h1] at e1
    cases e1
    exact ⟨q',h2,by rw [e2]; exact h3⟩
   have nd:(srt.map (gWay wy ht)).Nodup:=xev (fun a b e=>xlv e) (pm.nodup_iff.mpr sok.1)
   have len:(srt.map (gWay wy ht)).length≤32:=by rw [List.length_map]; exact sl
   have last:∀ (H3:Hp) (l4:Addr) (srt4:List Seat) (qs4:List Addr),Same H2 H3→H3 l4=none→xam H3 srt4 qs4→srt4.Perm (srt.map (gWay wy ht))→srt4.Pairwise xb2→∀ tq,upd H3 l4 (.lst (qs4.map V.ref)) tq=none→Q (.ref tq) (upd (upd H3 l4 (.lst (qs4.map V.ref))) tq (.tup [.ref lf,.ref l4])):=fun H3 l4 srt4 qs4 s3 fr4 sl4 pm4 pw4 tq htq=>by
    have s4:Same H3 (upd H3 l4 (.lst (qs4.map V.ref))):=xm (Same.refl _) fr4
    have g4:upd H3 l4 (.lst (qs4.map V.ref)) l4=some (.lst (qs4.map V.ref)):=xg
    have s5:Same (upd H3 l4 (.lst (qs4.map V.ref))) (upd (upd H3 l4 (.lst (qs4.map V.ref))) tq (.tup [.ref lf,.ref l4])):=xm (Same.refl _) htq
    have s35:=s4.trans s5
    have s25:=s3.trans s35
    exact q _ tq lf l4 (s2.trans s25) xg hlf ((s2.trans s3).free fr4) ⟨⟨rf,s25 _ _ hf2,ptf.keep (Same.tups s25)⟩,⟨srt4,qs4,pm4.trans (pm.map _),pw4,s5 _ _ g4,sl4.keep (Same.tups s35)⟩⟩
   refine ⟨_,rfl,rfl,_,rfl,ite2 (fun c=>?_) (fun c=>?_)⟩
   ·have e:wy=1:=by simpa using c
    refine ⟨_,rfl,_,rfl,th,_,1,_,rfl,rfl,SqT.of hth2,rfl,ls,rfl,⟨_,SqL.of hls2⟩,fun l2 hl2=>?_⟩
    refine xep (SqL.of hls2) (by rw [List.length_map]; exact Nat.lt_trans (by omega:rs.length < 33) (by decide)) hl2 (fun i y H=>∃ s q,srt[i]?=some s∧y=.ref q∧H q=some (.tup (xbu (gWay wy ht s)))) (fun i y H H' tp ⟨s,q,e1,e2,e3⟩=>⟨s,q,e1,e2,tp _ _ e3⟩) (fun i y H3 hy s3 N hN=>?_) (fun ys H3 s3 el3 ly f3=>?_)
    ·rw [List.getElem?_map] at hy
     obtain ⟨o,ho,rfl⟩:=Option.map_eq_some_iff.mp hy
     obtain ⟨s0,hs0,ep⟩:=(sts2.keep (Same.tups s3)).get ho
     refine ⟨o,_,rfl,SqT.of ep,rfl,_,_,rfl,_,_,rfl,rfl,fun d0 hd0=>⟨xg,[(Sum.inr "left",V.str "right")],rfl,by decide,d0,rfl,.inl ⟨_,.inl xg⟩,_,rfl,valV (xb9 [] [(Sum.inr "left",V.str "right")]) (Sum.inr (x6 s0.1)),DGet.k (k:=.inr (x6 s0.1)) xg,_,rfl,(by show 2≤sizeLine; decide),fun r hr'=>?_⟩⟩
     rw [xcz] at hr'
     rw [xcz,xmi]
     refine hN _ _ (xm (xm (Same.refl _) hd0) hr') ⟨s0,r,hs0,rfl,?_⟩
     rw [show gWay wy ht s0=mirS s0 from if_pos e]
     exact xg
    obtain ⟨rs3,rfl,sl3⟩:=fin l2 ys H3 hl2 s3 el3 ly f3
    dsimp only [tNil]
    refine xd0 el3 sl3 nd len fun l4 srt4 qs4 fr4 sl4 pm4 pw4=>?_
    exact ⟨(by show 2≤sizeLine; decide),fun tq htq=>last H3 l4 srt4 qs4 s3 fr4 sl4 pm4 pw4 tq htq⟩
   ·have e:¬ wy=1:=by simpa using c
    refine ⟨_,rfl,_,rfl,th,_,1,_,rfl,rfl,SqT.of hth2,rfl,ls,rfl,⟨_,SqL.of hls2⟩,fun l2 hl2=>?_⟩
    refine xep (SqL.of hls2) (by rw [List.length_map]; exact Nat.lt_trans (by omega:rs.length < 33) (by decide)) hl2 (fun i y H=>∃ s q,srt[i]?=some s∧y=.ref q∧H q=some (.tup (xbu (gWay wy ht s)))) (fun i y H H' tp ⟨s,q,e1,e2,e3⟩=>⟨s,q,e1,e2,tp _ _ e3⟩) (fun i y H3 hy s3 N hN=>?_) (fun ys H3 s3 el3 ly f3=>?_)
    ·rw [List.getElem?_map] at hy
     obtain ⟨o,ho,rfl⟩:=Option.map_eq_some_iff.mp hy
     obtain ⟨s0,hs0,ep⟩:=(sts2.keep (Same.tups s3)).get ho
     refine ⟨o,_,rfl,SqT.of ep,rfl,_,_,rfl,_,_,rfl,rfl,_,rfl,_,rfl,_,_,rfl,rfl,_,rfl,_,_,rfl,rfl,(by show 2≤sizeLine; decide),fun r hr'=>?_⟩
     refine hN _ _ (xm (Same.refl _) hr') ⟨s0,r,hs0,rfl,?_⟩
     rw [show gWay wy ht s0=turS ht s0 from if_neg e]
     exact xg
    obtain ⟨rs3,rfl,sl3⟩:=fin l2 ys H3 hl2 s3 el3 ly f3
    dsimp only [tNil]
    refine xd0 el3 sl3 nd len fun l4 srt4 qs4 fr4 sl4 pm4 pw4=>?_
    exact ⟨(by show 2≤sizeLine; decide),fun tq htq=>last H3 l4 srt4 qs4 s3 fr4 sl4 pm4 pw4 tq htq⟩
end
end S08
set_option maxRecDepth 100000
set_option maxHeartbeats 4000000
namespace S08
open PySem L2 XL PyProof.Rows
structure A8 where
 a:Addr
 dp:Addr
 do_:Addr
 q:Addr
 lr:Addr
 ls:Addr
 w:Int
 h:Int
 ps:List Pt
 ss:List Seat
structure xbg (t:Adr) (H:Hp) (x:A8):Prop where
 pic:Pic t H x.a x.dp x.do_ x.w x.h x.ps
 st:Sts H x.do_ x.ss
 pok:xba x.w x.h x.ps
 sok:SsOk x.h x.ss
 q:H x.q=some (.tup [.ref x.lr,.ref x.ls])
 kp:Kept H x.lr x.ls x.ps x.ss
theorem xbg.same {t:Adr} {H H':Hp} {x:A8} (s:Same H H') (h:xbg t H x):xbg t H' x:=⟨Pic.same s h.pic,h.st.same s,h.pok,h.sok,s _ _ h.q,h.kp.same s⟩
theorem Kept.off {H H':Hp} {lr ls:Addr} {ps:List Pt} {ss:List Seat} (k:∀ b u,(∃ xs,u=.tup xs)∨b=lr∨b=ls→H b=some u→H' b=some u) (x:Kept H lr ls ps ss):Kept H' lr ls ps ss:=by
 have tp:Tups H H':=fun b xs e=>k _ _ (.inl ⟨xs,rfl⟩) e
 exact ⟨let ⟨qs,e,r⟩:=x.rl; ⟨qs,k _ _ (.inr (.inl rfl)) e,r.keep tp⟩,let ⟨srt,rs,a,b,e,r⟩:=x.sl; ⟨srt,rs,a,b,k _ _ (.inr (.inr rfl)) e,r.keep tp⟩⟩
theorem xbg.lst {t:Adr} {H H':Hp} {x:A8} {m:Addr} {xs:List V} (hm:H m=some (.lst xs)) (k:∀ b u,b≠m→H b=some u→H' b=some u) (n1:x.lr≠m) (n2:x.ls≠m) (h:xbg t H x):xbg t H' x:=by
 have tp:Tups H H':=fun b xs e=>k _ _ (xac e hm (fun z=>nomatch z)) e
 refine ⟨⟨let ⟨d,e⟩:=h.pic.ins; ⟨d,k _ _ (xac e hm (fun z=>nomatch z)) e⟩,let ⟨kk,e,q⟩:=h.pic.pl; ⟨kk,k _ _ (xac e hm (fun z=>nomatch z)) e,q.keep tp⟩,h.pic.w1,h.pic.w2,h.pic.h1,h.pic.h2,h.pic.len⟩,let ⟨k2,e,r⟩:=h.st; ⟨k2,k _ _ (xac e hm (fun z=>nomatch z)) e,r⟩,h.pok,h.sok,tp _ _ h.q,h.kp.off fun b u o e=>k _ _ ?_ e⟩
 rcases o with ⟨xs,rfl⟩ | rfl | rfl
 ·exact xac e hm (fun z=>nomatch z)
 ·exact n1
 ·exact n2
theorem xbg.dic {t:Adr} {H H':Hp} {x:A8} {d o:Addr} {k1:List (Key × V)} {k2:List (List Key × V)} (hd:H d=some (.dK k1)) (ho:H o=some (.dT k2)) (k:∀ b u,b≠d→b≠o→H b=some u→H' b=some u) (n1:x.dp≠d) (n2:x.do_≠o) (h:xbg t H x):xbg t H' x:=by
 have tp:Tups H H':=fun b xs e=>k _ _ (xac e hd (fun z=>nomatch z)) (xac e ho (fun z=>nomatch z)) e
 refine ⟨⟨let ⟨d,e⟩:=h.pic.ins; ⟨d,k _ _ (xac e hd (fun z=>nomatch z)) (xac e ho (fun z=>nomatch z)) e⟩,let ⟨kk,e,q⟩:=h.pic.pl; ⟨kk,k _ _ n1 (xac e ho (fun z=>nomatch z)) e,q.keep tp⟩,h.pic.w1,h.pic.w2,h.pic.h1,h.pic.h2,h.pic.len⟩,let ⟨k2,e,r⟩:=h.st; ⟨k2,k _ _ (xac e hd (fun z=>nomatch z)) n2 e,r⟩,h.pok,h.sok,tp _ _ h.q,?_⟩
 obtain ⟨qs,e1,r1⟩:=h.kp.rl
 obtain ⟨srt,rs,a,b,e2,r2⟩:=h.kp.sl
 exact ⟨⟨qs,k _ _ (xac e1 hd (fun z=>nomatch z)) (xac e1 ho (fun z=>nomatch z)) e1,r1.keep tp⟩,⟨srt,rs,a,b,k _ _ (xac e2 hd (fun z=>nomatch z)) (xac e2 ho (fun z=>nomatch z)) e2,r2.keep tp⟩⟩
structure Inv8 (t:Adr) (H0 H:Hp) (pl hl:Addr) (A:Bool→A8):Prop where
 half:∀ b,xbg t H (A b)
 ndp:∀ b,(A b).dp≠(A (!b)).dp
 ndo:∀ b,(A b).do_≠(A (!b)).do_
 fdp:∀ b,H0 (A b).dp=none
 fdo:∀ b,H0 (A b).do_=none
 nl:∀ b,(A b).lr≠pl∧(A b).lr≠hl∧(A b).ls≠pl∧(A b).ls≠hl
 hpl:H pl=some (.lst [.ref (A false).a,.ref (A true).a])
 hhl:H hl=some (.lst [.ref (A false).q,.ref (A true).q])
 fpl:H0 pl=none
 fhl:H0 hl=none
 nph:pl≠hl
 same:Same H0 H
theorem Inv8.keep {t:Adr} {H0 H H':Hp} {pl hl:Addr} {A:Bool→A8} (s:Same H H') (i:Inv8 t H0 H pl hl A):Inv8 t H0 H' pl hl A:=⟨fun b=>(i.half b).same s,i.ndp,i.ndo,i.fdp,i.fdo,i.nl,s _ _ i.hpl,s _ _ i.hhl,i.fpl,i.fhl,i.nph,i.same.trans s⟩
theorem Inv8.put {t:Adr} {H0 H H':Hp} {pl hl:Addr} {A:Bool→A8} (i:Inv8 t H0 H pl hl A) (b:Bool) (x:A8) (hx:xbg t H' x) (ho:xbg t H' (A (!b))) (s:Same H0 H') (n1:x.dp≠(A (!b)).dp) (n2:x.do_≠(A (!b)).do_) (f1:H0 x.dp=none) (f2:H0 x.do_=none) (nl:x.lr≠pl∧x.lr≠hl∧x.ls≠pl∧x.ls≠hl)
    (e1:H' pl=some (.lst [cond b (.ref (A false).a) (.ref x.a),cond b (.ref x.a) (.ref (A true).a)])) (e2:H' hl=some (.lst [cond b (.ref (A false).q) (.ref x.q),cond b (.ref x.q) (.ref (A true).q)])):Inv8 t H0 H' pl hl (fun c=>if c=b then x else A c):=by
  refine ⟨fun c=>?_,fun c=>?_,fun c=>?_,fun c=>?_,fun c=>?_,fun c=>?_,?_,?_,i.fpl,i.fhl,i.nph,s⟩
  all_goals try (cases b <;> cases c <;> simp only [if_true,if_false,Bool.not_false,Bool.not_true,reduceCtorEq,Bool.false_eq_true,Bool.true_eq_false] at *)
  all_goals try first | exact hx | exact ho | exact n1 | exact n1.symm | exact n2 | exact n2.symm | exact f1 | exact f2 | exact nl | exact i.fdp _ | exact i.fdo _ | exact i.nl _
  · cases b <;> exact e1
  · cases b <;> exact e2
theorem at8 (n:Int):∃ b:Bool,(∀ f:Bool→V,atI [f false,f true] (n % 2)=some (f b))∧ixN 2 (n % 2)=some (cond b 1 0)∧∀ (f:Bool→V) (v:V),[f false,f true].set (cond b 1 0) v=[cond b (f false) v,cond b v (f true)]:=by
 have z:=xbd n (show (0:Int) < 2 by decide)
 have:n % 2=0∨n % 2=1:=by omega
 rcases this with e | e <;> rw [e]
 ·exact ⟨false,fun f=>rfl,rfl,fun f v=>rfl⟩
 ·exact ⟨true,fun f=>rfl,rfl,fun f v=>rfl⟩
theorem Kept.perm {H:Hp} {lr ls:Addr} {ps:List Pt} {ss ss':List Seat} (p:ss.Perm ss') (k:Kept H lr ls ps ss):Kept H lr ls ps ss':=⟨k.rl,let ⟨srt,rs,a,b,e,r⟩:=k.sl; ⟨srt,rs,a.trans p,b,e,r⟩⟩
def xm9 (t:Adr):Sp:=fun vs H Q _=>∃ (H0:Hp) (pl hl:Addr) (n:Int) (A:Bool→A8),vs=[.ref pl,.ref hl,.int n]∧Inv8 t H0 H pl hl A∧∀ (H':Hp) (A':Bool→A8),Inv8 t H0 H' pl hl A'→Q .non H'
section
variable {P:Program} {w:World} {K:PySem.W.Frag} {mg:Str→Option Value} {base:Heap} {t:Adr}
theorem ok_ae (T:Txt w K mg t):FnOk true P w K mg base (CXo P w) 9 t.f_ae t.d_ae ["_law_pictures", "_law_held", "_law_number"] (xm9 t):=by
 refine T.F_ae.okn (k:=8) sc_ae (fun vs H Q E h=>?_) (fun cdv A outer s H vs Q E hr h=>?_)
 ·obtain ⟨H0,pl,hl,n,A,rfl,_⟩:=h
  rfl
 ·obtain ⟨H0,pl,hl,n,A,rfl,h⟩:=h
  refine ⟨_,xi (xae (i:=3) sc_ae.nd rfl (Or.inl rfl) (xu xa5 (pv 2) (xo)))
   (xi (xae (i:=4) sc_ae.nd rfl (Or.inl rfl) (xu xa5 (xu xb6 (pv 2) (xo)) (xo)))
   (xi (xae (i:=5) sc_ae.nd rfl (Or.inl rfl) (xu xa5 (xu xb6 (pv 2) (xo)) (xo)))
   (xk (xaa (x8 xa6 (pv 5) (xo) (xab _)) (xi (xbx (xa8 (xw xak (pv 0) (pv 4) (fun _ _=>rfl)) T.c_e T.m_aa (ok_aa T) (hr.mono (by decide)) T.b_aa .nil xp) (xd8 (pv 0) (pv 3) xcw))
   (xk (xbx (xw xak (pv 1) (pv 4) (fun _ _=>rfl)) (xd8 (pv 1) (pv 3) xcw)))) (xi (xbx (xao (ok_an T) (hr.mono (by decide)) rfl T.g_an T.F_an.kp T.b_an .nil xp (xf (xw xak (pv 1) (pv 4) (fun _ _=>rfl)) (xf (pv 5) (xf (xah (xw xak (pv 0) (pv 4) (fun _ _=>rfl)) rfl) (xf (xah (xw xak (pv 0) (pv 4) (fun _ _=>rfl)) rfl) (xh)))))) (xd8 (pv 1) (pv 3) xcw))
   (xk (xaa (x8 xa6 (pv 5) (xo) (xab _)) (xk (xbx (xa8 (xw xak (pv 0) (pv 4) (fun _ _=>rfl)) T.c_e T.m_m (ok_m T) (hr.mono (by decide)) T.b_m .nil xp) (xd8 (pv 0) (pv 3) xcw))) (xk (xbx (xa8 (xw xak (pv 0) (pv 4) (fun _ _=>rfl)) T.c_e T.m_v (ok_v T) (hr.mono (by decide)) T.b_v .nil xp) (xd8 (pv 0) (pv 3) xcw)))))))))),?_⟩
  obtain ⟨I,q⟩:=h
  obtain ⟨b,eb,ib,sb⟩:=at8 n
  obtain ⟨c,ec,_,_⟩:=at8 (n / 2)
  have hc:=I.half c
  obtain ⟨dx,hp⟩:=hc.pic.ins
  have wb:=xbd (n / 4) (show (0:Int) < 3 by decide)
  refine ⟨_,rfl,_,_,rfl,rfl,(by show (0:Int) < 2; decide),?_⟩
  refine ⟨_,rfl,_,_,rfl,rfl,⟨by decide,by decide⟩,_,_,rfl,rfl,(by show (0:Int) < 2; decide),?_⟩
  refine ⟨_,rfl,_,_,rfl,rfl,⟨by decide,by decide⟩,_,_,rfl,rfl,(by show (0:Int) < 3; decide),?_⟩
  obtain ⟨wy,ewy⟩:∃ wy,wy=n / 4 % 3:=⟨_,rfl⟩
  dsimp only
  rw [← ewy] at wb ⊢
  have npl:=I.nl
  have fin:∀ (H3:Hp) (x:A8),xbg t H3 x→xbg t H3 (A (!b))→Same H0 H3→H x.dp=none→H x.do_=none→(x.lr≠pl∧x.lr≠hl∧x.ls≠pl∧x.ls≠hl)→H3 pl=some (.lst [cond b (.ref (A false).a) (.ref x.a),cond b (.ref x.a) (.ref (A true).a)])→H3 hl=some (.lst [cond b (.ref (A false).q) (.ref x.q),cond b (.ref x.q) (.ref (A true).q)])→Q .non H3:=fun H3 x hx ho s f1 f2 nl e1 e2=>by
   obtain ⟨kd,hkd,_⟩:=(I.half (!b)).pic.pl
   obtain ⟨ko,hko,_⟩:=(I.half (!b)).st
   exact q H3 _ (I.put b x hx ho s (Ne.symm (xn hkd f1)) (Ne.symm (xn hko f2)) (I.same.free f1) (I.same.free f2) nl e1 e2)
  refine ⟨_,rfl,rfl,_,rfl,ite2 (fun c0=>?_) (fun c0=>?_)⟩
  ·refine ⟨_,rfl,_,rfl,pl,_,_,.ref (A c).a,rfl,rfl,SqL.of I.hpl,ec fun b=>V.ref (A b).a,(A c).a,dx,_,rfl,hp,xap (by decide +kernel),(A c).a,(A c).dp,(A c).do_,(A c).w,(A c).h,(A c).ps,(A c).ss,rfl,hc.pic,hc.st,hc.pok,hc.sok,fun H1 a' dp' do' ss' s1 fa fdp fdo pm pw' pic' st'=>?_⟩
   have I1:=I.keep s1
   refine ⟨_,rfl,_,rfl,pl,_,_,cond b 1 0,rfl,rfl,I1.hpl,ib,?_⟩
   rw [sb fun b=>V.ref (A b).a]
   have k1:∀ x u,x≠pl→H1 x=some u→upd H1 pl (.lst [cond b (V.ref (A false).a) (.ref a'),cond b (.ref a') (.ref (A true).a)]) x=some u:=fun x u nx e=>by
    rw [xl nx]
    exact e
   have g1:upd H1 pl (.lst [cond b (V.ref (A false).a) (.ref a'),cond b (.ref a') (.ref (A true).a)]) pl=some (.lst [cond b (V.ref (A false).a) (.ref a'),cond b (.ref a') (.ref (A true).a)]):=xg
   generalize upd H1 pl (.lst [cond b (V.ref (A false).a) (.ref a'),cond b (.ref a') (.ref (A true).a)])=H2 at k1 g1 ⊢
   have hl2:=k1 _ _ (Ne.symm I.nph) I1.hhl
   refine ⟨_,rfl,_,rfl,hl,_,_,.ref (A c).q,rfl,rfl,SqL.of hl2,ec fun b=>V.ref (A b).q,_,rfl,_,rfl,hl,_,_,cond b 1 0,rfl,rfl,hl2,ib,?_⟩
   rw [sb fun b=>V.ref (A b).q]
   have k2:∀ x u,x≠hl→H2 x=some u→upd H2 hl (.lst [cond b (V.ref (A false).q) (.ref (A c).q),cond b (.ref (A c).q) (.ref (A true).q)]) x=some u:=fun x u nx e=>by
    rw [xl nx]
    exact e
   have g2:upd H2 hl (.lst [cond b (V.ref (A false).q) (.ref (A c).q),cond b (.ref (A c).q) (.ref (A true).q)]) hl=some (.lst [cond b (V.ref (A false).q) (.ref (A c).q),cond b (.ref (A c).q) (.ref (A true).q)]):=xg
   generalize upd H2 hl (.lst [cond b (V.ref (A false).q) (.ref (A c).q),cond b (.ref (A c).q) (.ref (A true).q)])=H3 at k2 g2 ⊢
   have hx1:xbg t H1 ⟨a',dp',do',(A c).q,(A c).lr,(A c).ls,(A c).w,(A c).h,(A c).ps,ss'⟩:=⟨by rw [List.map_id'] at pic'; exact pic',by rw [List.map_id'] at st'; exact st',hc.pok,hc.sok.perm pm,s1 _ _ hc.q,((hc.kp.same s1).perm pm.symm)⟩
   obtain ⟨m1,m2,m3,m4⟩:=npl c
   obtain ⟨o1,o2,o3,o4⟩:=npl (!b)
   refine fin H3 ⟨a',dp',do',(A c).q,(A c).lr,(A c).ls,(A c).w,(A c).h,(A c).ps,ss'⟩ (xbg.lst (x:=⟨a',dp',do',(A c).q,(A c).lr,(A c).ls,(A c).w,(A c).h,(A c).ps,ss'⟩) hl2 k2 m2 m4 (xbg.lst (x:=⟨a',dp',do',(A c).q,(A c).lr,(A c).ls,(A c).w,(A c).h,(A c).ps,ss'⟩) I1.hpl k1 m1 m3 hx1)) (((I1.half (!b)).lst I1.hpl k1 o1 o3).lst hl2 k2 o2 o4) (fun x u e=>k2 _ _ (xn e I.fhl) (k1 _ _ (xn e I.fpl) (I1.same _ _ e))) fdp fdo ⟨m1,m2,m3,m4⟩ (k2 _ _ I.nph g1) g2
  ·have hwy:wy=1∨wy=2:=by
    have:¬ wy=0:=by simpa using c0
    omega
   refine ⟨_,rfl,_,rfl,hl,_,_,.ref (A c).q,rfl,rfl,SqL.of I.hhl,ec fun b=>V.ref (A b).q,_,rfl,_,rfl,_,rfl,pl,_,_,.ref (A c).a,rfl,rfl,SqL.of I.hpl,ec fun b=>V.ref (A b).a,(A c).a,_,_,_,_,rfl,hp,T.c_e,T.n_bn,lkW,_,rfl,_,rfl,pl,_,_,.ref (A c).a,rfl,rfl,SqL.of I.hpl,ec fun b=>V.ref (A b).a,(A c).a,_,_,_,_,rfl,hp,T.c_e,T.n_bk,lkH,(A c).q,(A c).lr,(A c).ls,wy,(A c).w,(A c).h,(A c).ps,(A c).ss,rfl,hc.q,hc.kp,hc.pok,hc.sok,hwy,fun H1 tq lr' ls' s1 htq f1 f2 kp'=>?_⟩
   have I1:=I.keep s1
   refine ⟨_,rfl,_,rfl,hl,_,_,cond b 1 0,rfl,rfl,I1.hhl,ib,?_⟩
   rw [sb fun b=>V.ref (A b).q]
   have k1:∀ x u,x≠hl→H1 x=some u→upd H1 hl (.lst [cond b (V.ref (A false).q) (.ref tq),cond b (.ref tq) (.ref (A true).q)]) x=some u:=fun x u nx e=>by
    rw [xl nx]
    exact e
   have g1:upd H1 hl (.lst [cond b (V.ref (A false).q) (.ref tq),cond b (.ref tq) (.ref (A true).q)]) hl=some (.lst [cond b (V.ref (A false).q) (.ref tq),cond b (.ref tq) (.ref (A true).q)]):=xg
   generalize upd H1 hl (.lst [cond b (V.ref (A false).q) (.ref tq),cond b (.ref tq) (.ref (A true).q)])=H2 at k1 g1 ⊢
   have pl2:=k1 _ _ I.nph I1.hpl
   obtain ⟨m1,m2,m3,m4⟩:=npl c
   obtain ⟨o1,o2,o3,o4⟩:=npl (!b)
   have hc2:=(I1.half c).lst I1.hhl k1 m2 m4
   have ho2:=(I1.half (!b)).lst I1.hhl k1 o2 o4
   obtain ⟨dx2,hp2⟩:=hc2.pic.ins
   have r1:lr'≠pl:=Ne.symm (xn I.hpl f1)
   have r2:lr'≠hl:=Ne.symm (xn I.hhl f1)
   have r3:ls'≠pl:=Ne.symm (xn I.hpl f2)
   have r4:ls'≠hl:=Ne.symm (xn I.hhl f2)
   have t12:Tups H1 H2:=fun x xs e=>k1 _ _ (xac e I1.hhl (fun z=>nomatch z)) e
   have kp2:Kept H2 lr' ls' ((A c).ps.map (fWay wy (A c).w (A c).h)) ((A c).ss.map (gWay wy (A c).h)):=kp'.off fun x u o e=>k1 _ _ (by
    rcases o with ⟨xs,rfl⟩ | rfl | rfl
    ·exact xac e I1.hhl (fun z=>nomatch z)
    ·exact r2
    ·exact r4) e
   have last:∀ (H3:Hp) (a' dp' do':Addr) (ss':List Seat),Same H2 H3→H2 dp'=none→H2 do'=none→ss'.Perm (A c).ss→Pic t H3 a' dp' do' (A c).w (A c).h ((A c).ps.map (fWay wy (A c).w (A c).h))→Sts H3 do' (ss'.map (gWay wy (A c).h))→xba (A c).w (A c).h ((A c).ps.map (fWay wy (A c).w (A c).h))→SsOk (A c).h (ss'.map (gWay wy (A c).h))→Q .non (upd H3 pl (.lst [cond b (V.ref (A false).a) (.ref a'),cond b (.ref a') (.ref (A true).a)])):=fun H3 a' dp' do' ss' s3 fdp fdo pm pic' st' pok' sok'=>by
    have pl3:=s3 _ _ pl2
    have k3:∀ x u,x≠pl→H3 x=some u→upd H3 pl (.lst [cond b (V.ref (A false).a) (.ref a'),cond b (.ref a') (.ref (A true).a)]) x=some u:=fun x u nx e=>by
     rw [xl nx]
     exact e
    have hx3:xbg t H3 ⟨a',dp',do',tq,lr',ls',(A c).w,(A c).h,(A c).ps.map (fWay wy (A c).w (A c).h),ss'.map (gWay wy (A c).h)⟩:=⟨pic',st',pok',sok',s3 _ _ (t12 _ _ htq),(kp2.same s3).perm (pm.map _).symm⟩
    have fr:∀ x,H2 x=none→H x=none:=fun x e=>by
     cases z:H x with
     | none=>rfl
     | some u =>
      by_cases y:x=hl
      ·rw [y,g1] at e; cases e
      ·rw [k1 _ _ y (s1 _ _ z)] at e; cases e
    exact fin _ ⟨a',dp',do',tq,lr',ls',(A c).w,(A c).h,(A c).ps.map (fWay wy (A c).w (A c).h),ss'.map (gWay wy (A c).h)⟩ (xbg.lst (x:=⟨a',dp',do',tq,lr',ls',(A c).w,(A c).h,(A c).ps.map (fWay wy (A c).w (A c).h),ss'.map (gWay wy (A c).h)⟩) pl3 k3 r1 r3 hx3) ((ho2.same s3).lst pl3 k3 o1 o3) (fun x u e=>k3 _ _ (xn e I.fpl) (s3 _ _ (k1 _ _ (xn e I.fhl) (I1.same _ _ e)))) (fr _ fdp) (fr _ fdo) ⟨r1,r2,r3,r4⟩ xg (k3 _ _ (Ne.symm I.nph) (s3 _ _ g1))
   refine ⟨_,rfl,rfl,_,rfl,ite2 (fun c1=>?_) (fun c1=>?_)⟩
   ·have e:wy=1:=by simpa using c1
    have ef:fWay wy (A c).w (A c).h=mirP (A c).w:=funext fun p=>if_pos e
    have eg:gWay wy (A c).h=mirS:=funext fun p=>if_pos e
    refine ⟨_,rfl,_,rfl,pl,_,_,.ref (A c).a,rfl,rfl,SqL.of pl2,ec fun b=>V.ref (A b).a,(A c).a,dx2,_,rfl,hp2,xap (by decide +kernel),(A c).a,(A c).dp,(A c).do_,(A c).w,(A c).h,(A c).ps,(A c).ss,rfl,hc2.pic,hc2.st,hc.pok,hc.sok,fun H3 a' dp' do' ss' s3 fa fdp fdo pm pw' pic' st'=>?_⟩
    refine ⟨_,rfl,_,rfl,pl,_,_,cond b 1 0,rfl,rfl,s3 _ _ pl2,ib,?_⟩
    rw [sb fun b=>V.ref (A b).a]
    exact last H3 a' dp' do' ss' s3 fdp fdo pm (by rw [ef]; exact pic') (by rw [eg]; exact st') (by rw [ef]; exact xjg hc.pok) (by rw [eg]; exact xjf (hc.sok.perm pm))
   ·have e:¬ wy=1:=by simpa using c1
    have ef:fWay wy (A c).w (A c).h=turP (A c).h:=funext fun p=>if_neg e
    have eg:gWay wy (A c).h=turS (A c).h:=funext fun p=>if_neg e
    refine ⟨_,rfl,_,rfl,pl,_,_,.ref (A c).a,rfl,rfl,SqL.of pl2,ec fun b=>V.ref (A b).a,(A c).a,dx2,_,rfl,hp2,xap (by decide +kernel),(A c).a,(A c).dp,(A c).do_,(A c).w,(A c).h,(A c).ps,(A c).ss,rfl,hc2.pic,hc2.st,hc.pok,hc.sok,fun H3 a' dp' do' ss' s3 fa fdp fdo pm pw' pic' st'=>?_⟩
    refine ⟨_,rfl,_,rfl,pl,_,_,cond b 1 0,rfl,rfl,s3 _ _ pl2,ib,?_⟩
    rw [sb fun b=>V.ref (A b).a]
    exact last H3 a' dp' do' ss' s3 fdp fdo pm (by rw [ef]; exact pic') (by rw [eg]; exact st') (by rw [ef]; exact xje hc.pok) (by rw [eg]; exact xjo (hc.sok.perm pm))
end
end S08
set_option maxRecDepth 100000
set_option maxHeartbeats 4000000
namespace S08
open PySem L2 XL PyProof.Rows
def xo1 (t:Adr):Sp:=fun vs H Q _=>∃ (x:A8),vs=[.ref x.a,.ref x.q]∧xbg t H x∧∀ H',Same H H'→Q (.bl true) H'
theorem xkp (b:Bool) (x w:Int):∃ ac,atI [V.int x,.int (w + 1 - x)] (if decide (V.str (x6 b)=V.str "right") then 1 else 0)=some (.int ac)∧ac=if b then x else w + 1 - x:=by
 cases b with
 | true=>exact ⟨x,by rw [decide_eq_false (by intro e; exact absurd (V.str.inj e) (by decide +kernel))]; rfl,rfl⟩
 | false=>exact ⟨w + 1 - x,by rw [decide_eq_true (by rw [show x6 false=("right":Str) by decide +kernel])]; rfl,rfl⟩
theorem xi2 {wy:Str} {ps:List Pt} {ss:List Seat} {p:Pt} {z:Seat} {er:Er} (w:Way wy) (h:out8 wy ps ss p z=some er):er.told.all scV=true:=by
 have cl:∀ {nm x y},xbk ps nm x y=some er→er.told.all scV=true:=fun {nm x y} h=>by
  unfold xbk at h
  split at h
  ·cases h; rfl
  ·split at h
   ·cases h; rfl
   ·cases h
 rcases w with rfl | rfl | rfl | rfl | rfl
 ·rw [xcx] at h
  unfold xbq at h
  split at h
  ·cases h; rfl
  ·split at h
   ·cases h; rfl
   ·exact cl h
 ·rw [xc6] at h
  unfold xca at h
  split at h
  ·exact cl h
  ·cases h; rfl
 ·rw [xc5] at h
  unfold xc2 at h
  split at h
  ·cases h
  ·cases h; rfl
 ·rw [xcj] at h
  unfold xcp at h
  split at h
  ·cases h; rfl
  ·cases h
 ·rw [xc7] at h
  unfold xc9 at h
  split at h
  ·cases h
  ·cases h; rfl
theorem xna (er:Er):∃ d ds,er.told.map scD=d :: ds:=by cases er <;> exact ⟨_,_,rfl⟩
def xhm (K:PySem.W.Frag):Sp:=fun vs H Q _=>∃ (a:Addr) (ns:List Int),vs=[.ref a]∧SqL K H a (ns.map V.int)∧ns.length≤63∧∀ H',Q (.bl true) H'
def Fp8 (t:Adr) (H0:Hp) (pl:Addr) (H:Hp):Nat→Prop
 | 0=>H pl=some (.lst [])
 | 1=>∃ (a p o:Addr) (w h:Int),H pl=some (.lst [.ref a])∧Pic t H a p o w h []∧H o=some (.dT [])∧H0 p=none∧H0 o=none
 | _=>∃ (a0 p0 o0 a1 p1 o1:Addr) (w0 h0 w1 h1:Int),H pl=some (.lst [.ref a0,.ref a1])∧Pic t H a0 p0 o0 w0 h0 []∧H o0=some (.dT [])∧H0 p0=none∧H0 o0=none∧Pic t H a1 p1 o1 w1 h1 []∧H o1=some (.dT [])∧H0 p1=none∧H0 o1=none∧p0≠p1∧o0≠o1
theorem Pic.atL {t:Adr} {H H':Hp} {a dp do_ m:Addr} {w h:Int} {ps:List Pt} {xs:List V} (e:H m=some (.lst xs)) (s:∀ c u,c≠m→H c=some u→H' c=some u) (p:Pic t H a dp do_ w h ps):Pic t H' a dp do_ w h ps :=
 ⟨let ⟨dx,x⟩:=p.ins; ⟨dx,s _ _ (xac x e (fun z=>nomatch z)) x⟩,let ⟨k,x,q⟩:=p.pl; ⟨k,s _ _ (xac x e (fun z=>nomatch z)) x,q.keep fun b xs x=>s _ _ (xac x e (fun z=>nomatch z)) x⟩,p.w1,p.w2,p.h1,p.h2,p.len⟩
section
variable {P:Program} {w:World} {K:PySem.W.Frag} {mg:Str→Option Value} {base:Heap} {t:Adr}
theorem ok_a1 (T:Txt w K mg t):FnOk true P w K mg base (CXo P w) 7 t.f_a1 t.d_a1 ["_law_picture", "_law_thing"] (xo1 t):=by
 refine T.F_a1.okn (k:=6) sc_a1 (fun vs H Q E h=>?_) (fun cdv A outer s H vs Q E hr h=>?_)
 ·obtain ⟨x,rfl,_⟩:=h
  rfl
 ·obtain ⟨x,rfl,h⟩:=h
  refine ⟨_,xi (xbx (pv 1) (xbn rfl (xv (xq (i:=2) sc_a1.nd rfl (Or.inl rfl)) (xv (xq (i:=3) sc_a1.nd rfl (Or.inl rfl)) (xa7)))))
   (xi (xaa (PW.pt (xb7 (x8 (xb1 (xbb hr)) (xa8 (pv 0) T.c_e T.m_i (ok_i T) (hr.mono (by decide)) T.b_i .nil xp) (pv 2) (xab _)) (xbw (x8 (xb1 (xbb hr)) (xa8 (pv 0) T.c_e T.m_q (ok_q T) (hr.mono (by decide)) T.b_q .nil xp) (pv 3) (xab _))))) (xk (xaf (xdv))) (xx))
   (xi (xbr PassesOwn.never rfl (xa0 (pv 2)) (xbn rfl (xv (xq (i:=4) sc_a1.nd rfl (Or.inl rfl)) (xv (xq (i:=5) sc_a1.nd rfl (Or.inl rfl)) (xv (xq (i:=6) sc_a1.nd rfl (Or.inl rfl)) (xv (xq (i:=7) sc_a1.nd rfl (Or.inr rfl)) (xv (xq (i:=8) sc_a1.nd rfl (Or.inr rfl)) (xv (xq (i:=9) sc_a1.nd rfl (Or.inr rfl)) (xa7)))))))) (xi (xch rfl (xbf (zs:=["_law_seat"]) (ys:=["_law_sides", "_law_low", "_law_high"]) (fr:=[7,8,9]) (N0:=["_law_picture", "_law_thing", "_law_rows", "_law_seats", "_law_name", "_law_x", "_law_y", "_law_sides", "_law_low", "_law_high", "_law_some", "_law_side", "_law_row", "_law_across"]) (sc0:=xj s_a1) (by decide +kernel) rfl rfl rfl) (xa0 (pv 3)) (fun _ _ _ _ _ ow nd=>xq (i:=0) nd rfl (Or.inl (ow _ (by simp))) (Or.inr (ow _ (by simp)))) (xb5 (by decide)) (fun _ _ _ _ _=>xdi (PW.pt (xd9 (x8 (r:=rIn K false) xg0 (pv 1) (xat (xf (x4) (xf (xw (r:=rIxT K) xad (pv 0) (xo) (fun _ _=>rfl)) (xh)))) (by rfl)) (xdf (xlt xff xff (pv 2) (xw (r:=rIxT K) xad (pv 0) (xo) (fun _ _=>rfl)) (pv 3)))))) (fun _ _ _ _ _=>pv 0) (j:=10) rfl (Or.inl rfl))
   (xi (xaa (PW.pt (xb7 (x8 (xb1 (xbb hr)) (xas (pv 0) T.c_e T.m_j (ok_j T) (hr.mono (by decide)) T.b_j .nil xp (xf (pv 4) (xh))) (pv 10) (xab _)) (xbw (x8 (xb1 (xbb hr)) (xas (pv 0) T.c_e T.m_l (ok_l T) (hr.mono (by decide)) T.b_l .nil xp (xf (pv 4) (xh))) (xat (xf (pv 5) (xf (pv 6) (xh)))) (xab _))))) (xk (xaf (xdv))) (xx))
   (xk (xbr PassesOwn.never rfl (xa0 (pv 10)) (xbn rfl (xv (xq (i:=11) sc_a1.nd rfl (Or.inl rfl)) (xv (xq (i:=12) sc_a1.nd rfl (Or.inl rfl)) (xa7)))) (xi (xae (i:=13) sc_a1.nd rfl (Or.inl rfl) (xw xak (xal (xf (pv 5) (xf (xu xbm (xu xa3 (xah (pv 0) rfl) (xo)) (pv 5)) (xh)))) (xlg xki rfl T.n_int boot_int (xf (xdg xa6 (pv 11) (x4) (xab _)) (xh))) (fun _ _=>rfl)))
   (xk (xaa (PW.pt (xb7 (xbi (xau (xas (pv 0) T.c_e T.m_af (ok_af T) (hr.mono (by decide)) T.b_af .nil xp (xf (pv 4) (xf (pv 11) (xf (pv 12) (xh))))))) (xbw (x8 xhr (xas (pv 0) T.c_e T.m_x (ok_x T) (hr.mono (by decide)) T.b_x .nil xp (xf (pv 4) (xf (pv 11) (xf (pv 12) (xh))))) (xu xa3 (xaj xh7 rfl T.n_abs boot_abs (xf (xu xbm (pv 6) (pv 12)) (xh))) (pv 13)) (xab _))))) (xk (xaf (xdv))) (xx)))))))))
   (xk (xaf (xdv))))),?_⟩
  obtain ⟨hx,q⟩:=h
  have pic:=hx.pic
  obtain ⟨⟨dx,hp⟩,_,w1,w2,h1,h2,_⟩:=id pic
  obtain ⟨qs,hlr,pts⟩:=hx.kp.rl
  obtain ⟨srt,rs,pm,pw',hls,sts⟩:=hx.kp.sl
  have ql:=pts.len
  have rl:=sts.len
  have ple:=hx.pok.le
  have sl:srt.length≤32:=by rw [pm.length_eq]; exact hx.sok.2.1
  refine ⟨_,rfl,x.q,_,rfl,SqT.of hx.q,rfl,_,_,rfl,_,_,rfl,rfl,?_⟩
  refine ⟨_,rfl,x.a,dx,_,rfl,hp,xap (by decide +kernel),x.a,x.dp,x.do_,x.w,x.h,x.ps,rfl,pic,fun H1 l1 qs1 s1 hl1 pt1=>?_⟩
  refine ⟨_,rfl,2,2,.lst (x.ps.map ptD),.lst (x.ps.map ptD),pt1.dv hl1,(pts.keep (Same.tups s1)).dv (s1 _ _ hlr),by decide,by decide,_,rfl,ifN (by rw [xbt]; rfl) ?_⟩
  refine ⟨_,rfl,x.a,dx,_,rfl,s1 _ _ hp,xap (by decide +kernel),x.a,x.dp,x.do_,x.w,x.h,x.ps,x.ss,rfl,Pic.same s1 pic,hx.st.same s1,fun l2 ss2 rs2 fr2 sl2 pm2 pw2=>?_⟩
  have s2:Same H1 (upd H1 l2 (.lst (rs2.map V.ref))):=xm (Same.refl _) fr2
  have g2:upd H1 l2 (.lst (rs2.map V.ref)) l2=some (.lst (rs2.map V.ref)):=xg
  revert s2 g2
  generalize upd H1 l2 (.lst (rs2.map V.ref))=H2
  intro s2 g2
  obtain rfl:ss2=srt:=xc3 xeq (pm2.trans pm.symm) pw2 pw'
  have s02:=s1.trans s2
  refine ⟨_,rfl,2,2,.lst (ss2.map xbl),.lst (ss2.map xbl),(sl2.keep (Same.tups s2)).dv g2,(sts.keep (Same.tups s02)).dv (s02 _ _ hls),by decide,by decide,_,rfl,ifN (by rw [xbt]; rfl) ?_⟩
  refine ⟨_,rfl,x.lr,rfl,⟨_,SqL.of (s02 _ _ hlr)⟩,xbo (xs:=qs.map V.ref) (Pv:=fun i σ H3=>∃ (v4 v5 v6 v7 v8 v9 v10 v11 v12 v13:Option V),σ=[some (.ref x.a),some (.ref x.q),some (.ref x.lr),some (.ref x.ls),v4,v5,v6,v7,v8,v9,v10,v11,v12,v13]∧Same H H3) ⟨_,_,_,_,_,_,_,_,_,_,rfl,s02⟩ (fun _ _ _ _ ⟨_,_,_,_,_,_,_,_,_,_,_,z⟩=>SqL.of (z _ _ hlr)) ?_ ?_⟩
  ·rintro i v σ H3 hv ⟨v4,v5,v6,v7,v8,v9,v10,v11,v12,v13,rfl,s3⟩
   rw [List.getElem?_map] at hv
   obtain ⟨o,ho,rfl⟩:=Option.map_eq_some_iff.mp hv
   obtain ⟨p,hpp,ep⟩:=(pts.keep (Same.tups s3)).get ho
   have pmem:=List.mem_of_getElem? hpp
   have po:=hx.pok.ok p pmem
   have fnd:=xnz hx.pok.nn pmem
   refine ⟨o,_,rfl,SqT.of ep,rfl,_,_,rfl,_,_,rfl,_,_,rfl,_,_,rfl,_,_,rfl,_,_,rfl,rfl,?_⟩
   have hls3:=s3 _ _ hls
   have sts3:=sts.keep (Same.tups s3)
   refine ⟨_,rfl,x.ls,rfl,⟨_,SqL.of hls3⟩,fun lz hlz=>?_⟩
   refine xb8 (SqL.of hls3) (by rw [List.length_map]; exact Nat.lt_trans (by omega:rs.length < 33) (by decide)) hlz (xcr ss2 p) (fun i y H=>∃ s q,ss2[i]?=some s∧y=.ref q∧H q=some (.tup (xbu s))) (fun i y H H' tp ⟨s,q,e1,e2,e3⟩=>⟨s,q,e1,e2,tp _ _ e3⟩) (fun i y H4 hy s4 N M hN hM=>?_) (fun ys H4 s4 el4 ly f4=>?_)
   ·rw [List.getElem?_map] at hy
    obtain ⟨o2,ho2,rfl⟩:=Option.map_eq_some_iff.mp hy
    obtain ⟨s0,hs0,ep0⟩:=(sts3.keep (Same.tups s4)).get ho2
    have wx:xcr ss2 p i=xb0 p s0:=xda hs0
    unfold xb0 at wx
    refine ⟨_,rfl,_,rfl,o2,_,0,_,rfl,rfl,SqT.of ep0,rfl,(by show 2≤sizeLine; decide),fun q5 hq5=>?_⟩
    have s5:Same H4 (upd H4 q5 (.tup [.str "both",.str (x6 s0.1)])):=xm (Same.refl _) hq5
    have g5:upd H4 q5 (.tup [.str "both",.str (x6 s0.1)]) q5=some (.tup [.str "both",.str (x6 s0.1)]):=xg
    revert s5 g5
    generalize upd H4 q5 (.tup [.str "both",.str (x6 s0.1)])=H5
    intro s5 g5
    have ep5:=s5 _ _ ep0
    refine ⟨q5,_,rfl,.inr (SqT.of g5),rfl,rfl,_,rfl,ite2 (fun c=>?_) (fun c=>?_)⟩
    ·rw [if_neg (by decide),xf3] at c
     rw [c,Bool.true_and] at wx
     refine ⟨_,rfl,_,rfl,o2,_,1,_,rfl,rfl,SqT.of ep5,rfl,_,_,rfl,rfl,_,rfl,ite2 (fun c2=>?_) (fun c2=>?_)⟩
     ·rw [c2,Bool.true_and] at wx
      refine ⟨_,rfl,_,_,rfl,rfl,_,rfl,ite2 (fun c3=>?_) (fun c3=>?_)⟩
      ·exact ⟨_,rfl,hN _ _ s5 (by rw [wx]; exact c3) ⟨s0,o2,hs0,rfl,ep5⟩⟩
      ·exact hM _ s5 (by rw [wx]; exact Bool.eq_false_iff.mpr c3)
     ·exact ⟨_,rfl,iteF (hM _ s5 (by rw [wx,Bool.eq_false_iff.mpr c2]; rfl))⟩
    ·rw [if_neg (by decide),xf3] at c
     exact hM _ s5 (by rw [wx,Bool.eq_false_iff.mpr c]; rfl)
   have fi:=xd6 (xb0 p) (as:=ss2) (p:=xcr ss2 p) (fun i s hs=>xda hs)
   rw [List.length_map,rl] at ly f4
   obtain ⟨rz,ez,slz⟩:=xam.pick (H:=H4) (ss:=ss2.filter (xb0 p)) (ys:=ys) (by rw [ly,fi.1]) (fun j y s hy hs=>by
    have hj:j < ((List.range ss2.length).filter (xcr ss2 p)).length:=by
     rw [← ly]
     exact (List.getElem?_eq_some_iff.mp hy).1
    obtain ⟨s',q',h1,h2,h3⟩:=f4 j y _ hy (List.getElem?_eq_getElem hj)
    rw [fi.2 j _ (List.getElem?_eq_getElem hj),hs] at h1
    cases h1
    exact ⟨q',h2,h3⟩)
   subst ez
   have s04:=s3.trans s4
   have rzl:=slz.len
   refine ⟨_,rfl,x.a,dx,_,rfl,s04 _ _ hp,xap (by decide +kernel),_,rfl,x.a,x.dp,x.do_,x.w,x.h,x.ps,x.ss,p,rfl,Pic.same s04 pic,hx.st.same s04,hx.sok,po.nm,fnd,fun H5 l5 srt5 rs5 s5 pm5 pw5 hl5 sl5=>?_⟩
   obtain rfl:srt5=ss2:=xc3 xeq (pm5.trans pm.symm) pw5 pw'
   refine ⟨_,rfl,2,2,.lst ((srt5.filter (xb0 p)).map xbl),.lst ((srt5.filter (xb0 p)).map xbl),sl5.dv hl5,(slz.keep (Same.tups s5)).dv (s5 _ _ el4),by decide,by decide,_,rfl,ifN (by rw [xbt]; rfl) ?_⟩
   have s05:=s04.trans s5
   refine ⟨_,rfl,x.a,dx,_,rfl,s05 _ _ hp,xap (by decide +kernel),_,rfl,x.a,x.dp,x.do_,x.w,x.h,x.ps,p.nm,p,rfl,Pic.same s05 pic,po.nm,fnd,fun H6 q6 s6 hq6=>?_⟩
   refine ⟨_,rfl,_,rfl,(by show 2≤sizeLine; decide),fun q7 hq7=>?_⟩
   have s7:Same H6 (upd H6 q7 (.tup [.int p.x,.int p.y])):=xm (Same.refl _) hq7
   have g7:upd H6 q7 (.tup [.int p.x,.int p.y]) q7=some (.tup [.int p.x,.int p.y]):=xg
   revert s7 g7
   generalize upd H6 q7 (.tup [.int p.x,.int p.y])=H7
   intro s7 g7
   refine ⟨1,1,.tup [.int p.x,.int p.y],.tup [.int p.x,.int p.y],xkn (s7 _ _ hq6),xkn g7,by decide,by decide,_,rfl,ifN (by rw [xbt]; rfl) ?_⟩
   have s07:=s05.trans (s6.trans s7)
   have s47:=s5.trans (s6.trans s7)
   have el7:=s47 _ _ el4
   refine ⟨_,rfl,lz,rfl,⟨_,SqL.of el7⟩,xbo (xs:=rz.map V.ref) (Pv:=fun i σ H8=>∃ (v11 v12 v13:Option V),σ=[some (.ref x.a),some (.ref x.q),some (.ref x.lr),some (.ref x.ls),some (.str p.nm),some (.int p.x),some (.int p.y),some (.str p.sd),some (.int p.lo),some (.int p.hi),some (.ref lz),v11,v12,v13]∧Same H7 H8) ⟨_,_,_,rfl,Same.refl _⟩ (fun _ _ _ _ ⟨_,_,_,_,z⟩=>SqL.of (z _ _ el7)) ?_ ?_⟩
   ·rintro j v σ H8 hv ⟨v11,v12,v13,rfl,s8⟩
    rw [List.getElem?_map] at hv
    obtain ⟨o2,ho2,rfl⟩:=Option.map_eq_some_iff.mp hv
    obtain ⟨s0,hs0,ep0⟩:=(slz.keep (Same.tups (s47.trans s8))).get ho2
    obtain ⟨m1,m2⟩:=List.mem_filter.mp (List.mem_of_getElem? hs0)
    have min:s0 ∈ x.ss:=pm.mem_iff.mp m1
    obtain ⟨sr1,sr2⟩:=hx.sok.2.2 s0 min
    refine ⟨o2,_,rfl,SqT.of ep0,rfl,_,_,rfl,_,_,rfl,rfl,?_⟩
    have s08:=s07.trans s8
    obtain ⟨ac,eac,hac⟩:=xkp s0.1 p.x x.w
    refine ⟨_,rfl,_,rfl,x.a,_,_,_,_,rfl,s08 _ _ hp,T.c_e,T.n_bn,lkW,_,_,rfl,rfl,_,rfl,_,_,rfl,rfl,(by show 2≤sizeLine; decide),fun qa hqa=>?_⟩
    dsimp only
    have s9:Same H8 (upd H8 qa (.lst [.int p.x,.int (x.w + 1 - p.x)])):=xm (Same.refl _) hqa
    have g9:upd H8 qa (.lst [.int p.x,.int (x.w + 1 - p.x)]) qa=some (.lst [.int p.x,.int (x.w + 1 - p.x)]):=xg
    revert s9 g9
    generalize upd H8 qa (.lst [.int p.x,.int (x.w + 1 - p.x)])=H9
    intro s9 g9
    refine ⟨_,rfl,rfl,.inr ⟨_,rfl,qa,_,_,.int ac,rfl,rfl,SqL.of g9,eac,?_⟩⟩
    have s09:=s08.trans s9
    refine ⟨_,rfl,x.a,dx,_,rfl,s09 _ _ hp,xap (by decide +kernel),_,rfl,_,rfl,_,rfl,x.a,x.dp,x.do_,x.w,x.h,x.ps,x.ss,p,s0.1,s0.2,rfl,Pic.same s09 pic,hx.st.same s09,po.nm,fnd,sr1,sr2,fun HA sA=>⟨_,rfl,?_⟩⟩
    rw [decide_eq_true (show (s0.1,s0.2) ∈ x.ss from min),show xb0 p (s0.1,s0.2)=true from m2]
    refine iteF ?_
    have s0A:=s09.trans sA
    refine ⟨_,rfl,x.a,dx,_,rfl,s0A _ _ hp,xap (by decide +kernel),_,rfl,_,rfl,_,rfl,x.a,x.dp,x.do_,x.w,x.h,x.ps,p.nm,p,s0.1,s0.2,rfl,Pic.same s0A pic,po.nm,fnd,sr1,sr2,fun HB sB=>?_⟩
    refine ⟨_,rfl,_,rfl,_,_,rfl,rfl,_,rfl,_,rfl,_,_,rfl,rfl,rfl,_,rfl,?_⟩
    have el:(if p.y - s0.2 < 0 then -(p.y - s0.2) else p.y - s0.2) + ac=lenI x.w p.x p.y s0.1 s0.2:=by
     rw [hac,Int.add_comm]
     rfl
    exact ifN (by dsimp only; rw [decide_eq_true (congrArg V.int el.symm)]; rfl) ⟨_,_,_,rfl,s8.trans (s9.trans (sA.trans sB))⟩
   ·rintro σ H8 ⟨v11,v12,v13,rfl,s8⟩
    exact ⟨_,_,_,_,_,_,_,_,_,_,rfl,s07.trans s8⟩
  ·rintro σ H3 ⟨v4,v5,v6,v7,v8,v9,v10,v11,v12,v13,rfl,s3⟩
   exact q _ s3
theorem xoh (T:Txt w K mg t):FnOk true P w K mg base (CXo P w) 10 t.f_law t.d_law ["_law_script"] (xhm K):=by
 refine T.F_law.okn (k:=9) xbs (fun vs H Q E h=>?_) (fun cdv A outer s H vs Q E hr h=>?_)
 ·obtain ⟨sc,ns,rfl,_⟩:=h
  rfl
 ·obtain ⟨sc,ns,rfl,h⟩:=h
  refine ⟨_,xi (xae (i:=1) xbs.nd rfl (Or.inl rfl) (xal (xh)))
   (xi (xbr PassesOwn.never rfl (xe2 rfl T.n_range (xf (xo) (xh))) (xq (i:=2) xbs.nd rfl (Or.inl rfl)) (xi (xae (i:=3) xbs.nd rfl (Or.inl rfl) (xao (ok_ap T) (hr.mono (by decide)) rfl T.g_ap T.F_ap.kp T.b_ap .nil xp (xf (xao (ok_a4 T) (hr.mono (by decide)) rfl T.g_a4 T.F_a4.kp T.b_a4 .nil xp (xf (pv 0) (xf (xo) (xh)))) (xf (pv 2) (xh)))))
   (xk (xaq (xf2 PySem.F.plainAttrs_list PySem.F.slot_list_append PySem.F.type_list_append xck (pv 1) (xf (xe9 T.k_e (ok_ai T) (hr.mono (by decide)) rfl T.g_e T.b_ai .nil xp (xf (xu xa3 (xo) (xu xa5 (pv 3) (xo))) (xf (xu xa3 (xo) (xu xa5 (xu xb6 (pv 3) (xo)) (xo))) (xh)))) (xh)))))))
   (xi (xae (i:=4) xbs.nd rfl (Or.inl rfl) (xal (xf (xat (xf (xal (xh)) (xf (xal (xh)) (xh)))) (xf (xat (xf (xal (xh)) (xf (xal (xh)) (xh)))) (xh)))))
   (xi (xae (i:=5) xbs.nd rfl (Or.inl rfl) (xo))
   (xi (xbr PassesOwn.never rfl (xkq rfl T.n_range (xf (xo) (xf (xaj (xkf rfl) rfl T.n_min boot_min (xf (xaj xco rfl T.n_len boot_len (xf (pv 0) (xh))) (xf (xo) (xh)))) (xh)))) (xq (i:=6) xbs.nd rfl (Or.inl rfl)) (xi (xae (i:=3) xbs.nd rfl (Or.inl rfl) (xao (ok_ap T) (hr.mono (by decide)) rfl T.g_ap T.F_ap.kp T.b_ap .nil xp (xf (xw xak (pv 0) (pv 6) (fun _ _=>rfl)) (xf (xu xa3 (xo) (pv 6)) (xh)))))
   (xi (xae (i:=7) xbs.nd rfl (Or.inl rfl) (xu xa5 (pv 3) (xo)))
   (xi (xew (xaa (PW.pt (xd9 (x8 xa6 (xu xa5 (xu xb6 (pv 3) (xo)) (xo)) (xo) (xab _)) (xdf (x8 xj8 (pv 5) (xo) (xab _))))) (xi (xae (i:=5) xbs.nd rfl (Or.inl rfl) (xu xbm (pv 5) (xo)))
   (xk (xaq (xao (ok_ae T) (hr.mono (by decide)) rfl T.g_ae T.F_ae.kp T.b_ae .nil xp (xf (pv 1) (xf (pv 4) (xf (xu xb6 (pv 3) (xo)) (xh)))))))) (xi (xbx (xw xak (pv 4) (pv 7) (fun _ _=>rfl)) (xbn rfl (xv (xq (i:=8) xbs.nd rfl (Or.inl rfl)) (xv (xq (i:=9) xbs.nd rfl (Or.inl rfl)) (xa7)))))
   (xi (xae (i:=10) xbs.nd rfl (Or.inl rfl) (xao (ok_ax T) (hr.mono (by decide)) rfl T.g_ax T.F_ax.kp T.b_ax .nil xp (xf (xw xak (pv 0) (pv 6) (fun _ _=>rfl)) (xf (pv 6) (xf (xat (xf (xah (xw xak (pv 1) (pv 7) (fun _ _=>rfl)) rfl) (xf (xah (xw xak (pv 1) (pv 7) (fun _ _=>rfl)) rfl) (xh)))) (xf (pv 8) (xh)))))))
   (xi (xae (i:=11) xbs.nd rfl (Or.inl rfl) (xao (ok_bc T) (hr.mono (by decide)) rfl T.g_bc T.F_bc.kp T.b_bc .nil xp (xf (pv 8) (xf (pv 9) (xf (pv 10) (xh))))))
   (xi (xew (xaa (x8 (xb1 (xbb hr)) (xao (ok_a0 T) (hr.mono (by decide)) rfl T.g_a0 T.F_a0.kp T.b_a0 .nil xp (xf (xw xak (pv 1) (pv 7) (fun _ _=>rfl)) (xf (pv 10) (xh)))) (pv 11) (xab _)) (xk (xaf (xdv))) (xx)))
   (xk (xew (xaa (x8 (xii (xbb hr)) (pv 11) (xal (xh)) (xab _)) (xk (xbx (xao (ok_az T) (hr.mono (by decide)) rfl T.g_az T.F_az.kp T.b_az .nil xp (xf (pv 8) (xf (pv 9) (xf (pv 10) (xh))))) (xd8 (pv 4) (pv 7) xcw))) (xx))))))))))
   (xk (xew (xaa (PW.pt (xb7 (x8 (xb1 (xbb hr)) (xa8 (xw xak (pv 1) (pv 7) (fun _ _=>rfl)) T.c_e T.m_i (ok_i T) (hr.mono (by decide)) T.b_i .nil xp) (xw xad (xw xak (pv 4) (pv 7) (fun _ _=>rfl)) (xo) (fun _ _=>rfl)) (xab _)) (xbw (x8 (xb1 (xbb hr)) (xa8 (xw xak (pv 1) (pv 7) (fun _ _=>rfl)) T.c_e T.m_q (ok_q T) (hr.mono (by decide)) T.b_q .nil xp) (xw xad (xw xak (pv 4) (pv 7) (fun _ _=>rfl)) (xo) (fun _ _=>rfl)) (xab _))))) (xk (xaf (xdv))) (xx))))))))
   (xk (xaf (xdn (xao (ok_a1 T) (hr.mono (by decide)) rfl T.g_a1 T.F_a1.kp T.b_a1 .nil xp (xf (xw xak (pv 1) (xo) (fun _ _=>rfl)) (xf (xw xak (pv 4) (xo) (fun _ _=>rfl)) (xh)))) (xgd (xao (ok_a1 T) (hr.mono (by decide)) rfl T.g_a1 T.F_a1.kp T.b_a1 .nil xp (xf (xw xak (pv 1) (xo) (fun _ _=>rfl)) (xf (xw xak (pv 4) (xo) (fun _ _=>rfl)) (xh)))))))))))),?_⟩
  obtain ⟨hs,nl,q⟩:=h
  refine ⟨(by show 0≤sizeLine; exact Nat.zero_le _),fun pl hpl=>?_⟩
  have s1:Same H (upd H pl (.lst [])):=xm (Same.refl _) hpl
  have g1:upd H pl (.lst []) pl=some (.lst []):=xg
  revert s1 g1
  generalize upd H pl (.lst [])=H1
  intro s1 g1
  refine ⟨2,rfl,by decide,by decide,?_⟩
  refine xg1 (n:=2) (Pv:=fun i σ H'=>∃ (v2 v3:Option V),σ=[some (.ref sc),some (.ref pl),v2,v3,none,none,none,none,none,none,none,none]∧Same H H'∧Fp8 t H pl H' i) ⟨_,_,rfl,s1,g1⟩ ?_ ?_
  ·rintro i σ H2 hi ⟨v2,v3,rfl,s2,fp⟩
   refine ⟨_,rfl,sc,ns,0,rfl,s2.seq hs,by decide,by decide,fun c=>⟨_,rfl,c,_,rfl,fun n n0 n1=>?_⟩⟩
   obtain ⟨vs0,hvs0⟩:∃ vs0,H2 pl=some (.lst vs0):=by
    have:i=0∨i=1:=by omega
    rcases this with rfl | rfl
    ·exact ⟨_,fp⟩
    ·obtain ⟨_,_,_,_,_,e,_⟩:=fp
     exact ⟨_,e⟩
   have b1:=xbd n (show (0:Int) < 30 by decide)
   have b2:=xbd (n / 30) (show (0:Int) < 16 by decide)
   refine ⟨_,rfl,.inl ⟨rfl,_,SqL.of hvs0⟩,_,rfl,_,_,rfl,rfl,(by show (0:Int) < 30; decide),_,_,rfl,rfl,_,rfl,_,_,rfl,rfl,⟨by decide,by decide⟩,_,_,rfl,rfl,(by show (0:Int) < 16; decide),_,_,rfl,rfl,fun a dx hx hdx ne=>?_⟩
   refine ⟨a,dx,1 + n % 30,1 + n / 30 % 16,rfl,xg,by omega,by omega,by omega,by omega,fun H5 dp do_ hdp5 hdo5 s6 pic5 hdt=>⟨rfl,?_⟩⟩
   have k5:Same H2 H5:=fun b u e=>s6 b u (xn e hx) (by rw [xl (xn e hx),xl (xn e hdx)]; exact e)
   have up:∀ b,upd (upd H2 dx (.own a)) a (.ins t.C_e dx []) b=none→H2 b=none:=fun b z=>by
    cases e:H2 b with
    | none=>rfl
    | some u=>rw [xl (xn e hx),xl (xn e hdx),e] at z; cases z
   have fdp:=up _ hdp5
   have fdo:=up _ hdo5
   have hv5:=k5 _ _ hvs0
   have bt:∀ c u,c≠pl→H5 c=some u→upd H5 pl (.lst (vs0 ++ [.ref a])) c=some u:=fun c u nc e=>by
    rw [xl nc]
    exact e
   have same5:Same H (upd H5 pl (.lst (vs0 ++ [.ref a]))):=fun b u e=>bt _ _ (xn e hpl) (k5 _ _ (s2 _ _ e))
   have hdtB:=bt _ _ (xac hdt hv5 (fun z=>nomatch z)) hdt
   have this:i=0∨i=1:=by omega
   rcases this with rfl | rfl
   ·have e0:vs0=[]:=by
     have:H2 pl=some (.lst []):=fp
     rw [hvs0] at this
     cases this
     rfl
    subst e0
    exact ⟨pl,_,_,rfl,rfl,hv5,(by show 0 < sizeLine; decide),_,_,rfl,same5,a,dp,do_,_,_,xg,pic5.atL hv5 bt,hdtB,s2.free fdp,s2.free fdo⟩
   ·obtain ⟨a0,p0,o0,w0,h0,e0,pc0,eo0,fp0,fo0⟩:=fp
    rw [e0] at hvs0
    cases hvs0
    obtain ⟨k0,hk0,_⟩:=id pc0.pl
    have eo5:=k5 _ _ eo0
    exact ⟨pl,_,_,rfl,rfl,hv5,(by show 1 < sizeLine; decide),_,_,rfl,same5,a0,p0,o0,a,dp,do_,w0,h0,_,_,xg,(Pic.same k5 pc0).atL hv5 bt,bt _ _ (xac eo5 hv5 (fun z=>nomatch z)) eo5,fp0,fo0,pic5.atL hv5 bt,hdtB,s2.free fdp,s2.free fdo,xn hk0 fdp,xn eo0 fdo⟩
  rintro σ H2 ⟨v2,v3,rfl,s2,a0,p0,o0,a1,p1,o1,w0,h0,w1,h1,e2,pc0,eo0,fp0,fo0,pc1,eo1,fp1,fo1,np,no⟩
  refine ⟨(by show 0≤sizeLine; exact Nat.zero_le _),fun m0 hm0=>?_⟩
  have s3:Same H2 (upd H2 m0 (.lst [])):=xm (Same.refl _) hm0
  have g3:upd H2 m0 (.lst []) m0=some (.lst []):=xg
  revert s3 g3
  generalize upd H2 m0 (.lst [])=H3
  intro s3 g3
  refine ⟨(by show 0≤sizeLine; exact Nat.zero_le _),fun m1 hm1=>?_⟩
  have s4:Same H3 (upd H3 m1 (.lst [])):=xm (Same.refl _) hm1
  have g4:upd H3 m1 (.lst []) m1=some (.lst []):=xg
  revert s4 g4
  generalize upd H3 m1 (.lst [])=H4
  intro s4 g4
  refine ⟨(by show 2≤sizeLine; decide),fun q0 hq0=>?_⟩
  have s5:Same H4 (upd H4 q0 (.tup [.ref m0,.ref m1])):=xm (Same.refl _) hq0
  have g5:upd H4 q0 (.tup [.ref m0,.ref m1]) q0=some (.tup [.ref m0,.ref m1]):=xg
  revert s5 g5
  generalize upd H4 q0 (.tup [.ref m0,.ref m1])=H5
  intro s5 g5
  refine ⟨(by show 0≤sizeLine; exact Nat.zero_le _),fun m2 hm2=>?_⟩
  have s6:Same H5 (upd H5 m2 (.lst [])):=xm (Same.refl _) hm2
  have g6:upd H5 m2 (.lst []) m2=some (.lst []):=xg
  revert s6 g6
  generalize upd H5 m2 (.lst [])=H6
  intro s6 g6
  refine ⟨(by show 0≤sizeLine; exact Nat.zero_le _),fun m3 hm3=>?_⟩
  have s7:Same H6 (upd H6 m3 (.lst [])):=xm (Same.refl _) hm3
  have g7:upd H6 m3 (.lst []) m3=some (.lst []):=xg
  revert s7 g7
  generalize upd H6 m3 (.lst [])=H7
  intro s7 g7
  refine ⟨(by show 2≤sizeLine; decide),fun q1 hq1=>?_⟩
  have s8:Same H7 (upd H7 q1 (.tup [.ref m2,.ref m3])):=xm (Same.refl _) hq1
  have g8:upd H7 q1 (.tup [.ref m2,.ref m3]) q1=some (.tup [.ref m2,.ref m3]):=xg
  revert s8 g8
  generalize upd H7 q1 (.tup [.ref m2,.ref m3])=H8
  intro s8 g8
  refine ⟨(by show 2≤sizeLine; decide),fun hl hhl=>?_⟩
  have s9:Same H8 (upd H8 hl (.lst [.ref q0,.ref q1])):=xm (Same.refl _) hhl
  have g9:upd H8 hl (.lst [.ref q0,.ref q1]) hl=some (.lst [.ref q0,.ref q1]):=xg
  revert s9 g9
  generalize upd H8 hl (.lst [.ref q0,.ref q1])=H9
  intro s9 g9
  have s89:=s9
  have s69:=s7.trans (s8.trans s9)
  have s59:=s6.trans s69
  have s49:=s5.trans s59
  have s39:=s4.trans s49
  have s29:=s3.trans s39
  have pok0:∀ w h:Int,xba w h []:=fun w h=>⟨(fun p hp=>nomatch hp),List.nodup_nil,List.nodup_nil,List.nodup_nil,Nat.zero_le _⟩
  have sok0:∀ h:Int,SsOk h []:=fun h=>⟨List.nodup_nil,Nat.zero_le _,fun s hs=>(nomatch hs)⟩
  have st0:∀ {o:Addr},H2 o=some (.dT [])→Sts H9 o []:=fun {o} e=>⟨[],s29 _ _ e,rfl,List.nodup_nil,Nat.zero_le _⟩
  have kp0:∀ {lr ls:Addr},H9 lr=some (.lst [])→H9 ls=some (.lst [])→Kept H9 lr ls [] []:=fun {lr ls} e1 e2=>⟨⟨[],e1,.nil⟩,⟨[],[],List.Perm.refl _,List.Pairwise.nil,e2,.nil⟩⟩
  have inv0:Inv8 t H H9 pl hl (fun b=>cond b ⟨a1,p1,o1,q1,m2,m3,w1,h1,[],[]⟩ ⟨a0,p0,o0,q0,m0,m1,w0,h0,[],[]⟩):=by
   have hl':∀ {m:Addr},H8 m=some (.lst [])→m≠hl:=fun {m} e=>xn e hhl
   refine ⟨fun b=>?_,fun b=>?_,fun b=>?_,fun b=>?_,fun b=>?_,fun b=>?_,s29 _ _ e2,g9,hpl,(s2.trans (s3.trans (s4.trans (s5.trans (s6.trans (s7.trans s8)))))).free hhl,xn ((s3.trans (s4.trans (s5.trans (s6.trans (s7.trans s8))))) _ _ e2) hhl,s2.trans s29⟩
   ·cases b
    ·exact ⟨Pic.same s29 pc0,st0 eo0,pok0 _ _,sok0 _,s59 _ _ g5,kp0 (s39 _ _ g3) (s49 _ _ g4)⟩
    ·exact ⟨Pic.same s29 pc1,st0 eo1,pok0 _ _,sok0 _,s9 _ _ g8,kp0 (s69 _ _ g6) (s9 _ _ (s8 _ _ g7))⟩
   ·cases b
    ·exact np
    ·exact Ne.symm np
   ·cases b
    ·exact no
    ·exact Ne.symm no
   ·cases b
    ·exact fp0
    ·exact fp1
   ·cases b
    ·exact fo0
    ·exact fo1
   ·cases b
    ·exact ⟨Ne.symm (xn e2 hm0),hl' ((s4.trans (s5.trans (s6.trans (s7.trans s8)))) _ _ g3),Ne.symm (xn (s3 _ _ e2) hm1),hl' ((s5.trans (s6.trans (s7.trans s8))) _ _ g4)⟩
    ·exact ⟨Ne.symm (xn ((s3.trans (s4.trans s5)) _ _ e2) hm2),hl' ((s7.trans s8) _ _ g6),Ne.symm (xn ((s3.trans (s4.trans (s5.trans s6))) _ _ e2) hm3),hl' (s8 _ _ g7)⟩
  clear s3 s4 s5 s6 s7 s8 s9 g3 g4 g5 g6 g7 g8 g9 s89 s69 s59 s49 s39 st0 kp0 pc0 pc1 eo0 eo1 e2
  refine ⟨_,rfl,sc,_,rfl,.inl (inv0.same.seq hs),_,_,rfl,1,_,rfl,?_,?_⟩
  ·refine ⟨by decide,by decide,?_,?_⟩ <;> (repeat' split) <;> simp only [List.length_map] at * <;> omega
  refine xg1 (Pv:=fun i σ H'=>∃ (v2 v3 v6 v7 v8 v9 v10 v11:Option V) (lf:Int) (A:Bool→A8),σ=[some (.ref sc),some (.ref pl),v2,v3,some (.ref hl),some (.int lf),v6,v7,v8,v9,v10,v11]∧Inv8 t H H' pl hl A) ⟨_,_,_,_,_,_,_,_,3,_,rfl,inv0⟩ ?_ ?_
  ·clear inv0
   rintro i σ H1 hi ⟨v2,v3,v6,v7,v8,v9,v10,v11,lf,A,rfl,I⟩
   have kl:1 + i < ns.length:=by
    revert hi
    (repeat' split) <;> simp only [List.length_map] at * <;> omega
   have hsc:=I.same.seq hs
   have cell:atI (ns.map V.int) (1 + (i:Int))=some (.int ns[1 + i]):=by
    rw [show 1 + (i:Int)=((1 + i:Nat):Int) by omega]
    exact xfa (by rw [List.getElem?_map,List.getElem?_eq_getElem kl]; rfl)
   refine ⟨_,rfl,_,rfl,sc,_,_,_,rfl,rfl,hsc,cell,_,rfl,_,_,rfl,rfl,_,_,rfl,fun n n0 n1=>?_⟩
   refine ⟨_,rfl,_,_,rfl,rfl,(by show (0:Int) < 2; decide),?_⟩
   obtain ⟨b,eb,ib,sb⟩:=at8 n
   refine ⟨fun σ H'=>∃ (v8 v9 v10 v11:Option V) (lf:Int) (A:Bool→A8),σ=[some (.ref sc),some (.ref pl),v2,some (.int n),some (.ref hl),some (.int lf),some (.int (1 + (i:Int))),some (.int (n % 2)),v8,v9,v10,v11]∧Inv8 t H H' pl hl A,?_,?_⟩
   ·refine (fun els=>⟨_,rfl,_,_,rfl,rfl,⟨by decide,by decide⟩,_,_,rfl,rfl,(by show (0:Int) < 12; decide),rfl,_,rfl,ite2 (fun c1=>⟨_,rfl,_,_,rfl,rfl,_,rfl,ite2 (fun c2=>?thn) (fun c2=>els)⟩) (fun c1=>els)⟩) ?els
    case thn=>exact ⟨_,rfl,_,_,rfl,rfl,_,rfl,_,rfl,_,rfl,_,_,rfl,rfl,⟨by decide,by decide⟩,H,pl,hl,_,A,rfl,I,fun H2 A2 I2=>⟨_,_,_,_,_,A2,rfl,I2⟩⟩
    have hx:=I.half b
    obtain ⟨⟨dx,hp⟩,_,w1,_,h1,h2,_⟩:=id hx.pic
    obtain ⟨qs,hlr,pts⟩:=hx.kp.rl
    refine ⟨_,rfl,_,rfl,hl,_,_,.ref (A b).q,rfl,rfl,SqL.of I.hhl,eb fun b=>V.ref (A b).q,(A b).q,_,rfl,SqT.of hx.q,rfl,_,_,rfl,_,_,rfl,rfl,?_⟩
    refine ⟨_,rfl,_,rfl,sc,_,_,_,rfl,rfl,hsc,cell,_,rfl,_,rfl,_,rfl,pl,_,_,.ref (A b).a,rfl,rfl,SqL.of I.hpl,eb fun b=>V.ref (A b).a,(A b).a,_,_,_,_,rfl,hp,T.c_e,T.n_bn,lkW,_,rfl,_,rfl,pl,_,_,.ref (A b).a,rfl,rfl,SqL.of I.hpl,eb fun b=>V.ref (A b).a,(A b).a,_,_,_,_,rfl,hp,T.c_e,T.n_bk,lkH,(by show 2≤sizeLine; decide),fun sz hsz=>?_⟩
    have s3:Same H1 (upd H1 sz (.tup [.int (A b).w,.int (A b).h])):=xm (Same.refl _) hsz
    have g3:upd H1 sz (.tup [.int (A b).w,.int (A b).h]) sz=some (.tup [.int (A b).w,.int (A b).h]):=xg
    revert s3 g3
    generalize upd H1 sz (.tup [.int (A b).w,.int (A b).h])=H3
    intro s3 g3
    refine ⟨_,rfl,_,_,(A b).w,(A b).h,sz,(A b).lr,(A b).ps,qs,rfl,g3,w1,h1,s3 _ _ hlr,pts.keep (Same.tups s3),hx.pok,fun H4 dq qr qz wy p z s4 hdq hqr hqz hwy po z1 z2=>?_⟩
    have s14:=s3.trans s4
    refine ⟨_,rfl,_,rfl,_,rfl,(A b).lr,(A b).ls,dq,qr,qz,(A b).ps,(A b).ss,wy,p,z,rfl,hx.kp.same s14,hx.pok.le,⟨hdq,hqr,hqz⟩,hwy,fun H5 du s5 hdu=>?_⟩
    have I5:=I.keep (s14.trans s5)
    have deed5:xcq H5 dq qr qz wy p z:=xcq.same s5 ⟨hdq,hqr,hqz⟩
    have hx5:=I5.half b
    obtain ⟨kd,hkd,_⟩:=hx5.pic.pl
    obtain ⟨ko,hko,_⟩:=hx5.st
    refine ⟨fun σ H'=>σ=[some (.ref sc),some (.ref pl),v2,some (.int n),some (.ref hl),some (.int lf),some (.int (1 + (i:Int))),some (.int (n % 2)),some (.ref (A b).lr),some (.ref (A b).ls),some (.ref dq),some (.ref du)]∧((∃ er,out8 wy (A b).ps (A b).ss p z=some er∧H' du=some (.lst er.told)∧Inv8 t H H' pl hl A)∨(out8 wy (A b).ps (A b).ss p z=none∧H' du=some (.lst [])∧xcq H' dq qr qz wy p z∧(∀ c u,c≠(A b).dp→c≠(A b).do_→H5 c=some u→H' c=some u)∧Pic t H' (A b).a (A b).dp (A b).do_ (A b).w (A b).h (xcb wy (A b).ps p)∧Sts H' (A b).do_ (xcc wy (A b).ss z)∧xba (A b).w (A b).h (xcb wy (A b).ps p)∧SsOk (A b).h (xcc wy (A b).ss z))),?_,?_⟩
    ·refine ⟨_,rfl,_,rfl,pl,_,_,.ref (A b).a,rfl,rfl,SqL.of I5.hpl,eb fun b=>V.ref (A b).a,_,rfl,(A b).a,(A b).dp,(A b).do_,dq,qr,qz,(A b).w,(A b).h,(A b).ps,(A b).ss,wy,p,z,rfl,hx5.pic,hx5.st,hx.pok,hx.sok,deed5,hwy,po,z1,z2,fun H6 m6 er her s6 hm6=>?_,fun H6 m6 out k6 hm6 pic6 st6 pok6 sok6=>?_⟩
     ·have sc8:=xi2 hwy her
      rw [her] at hdu
      have hdu6:=s6 _ _ hdu
      exact ⟨_,rfl,1,1,.lst (er.told.map scD),.lst (er.told.map scD),.lst (SqL.of hm6) (by rw [List.length_map]) (xh1 sc8),.lst (SqL.of hdu6) (by show er.told.length=_; rw [List.length_map]) (xh1 sc8),by decide,by decide,_,rfl,ifN (by rw [xbt]; rfl) ⟨rfl,.inl ⟨er,her,hdu6,I5.keep s6⟩⟩⟩
     ·rw [out] at hdu
      have tp:Tups H5 H6:=fun c xs e=>k6 _ _ (xac e hkd (fun z=>nomatch z)) (xac e hko (fun z=>nomatch z)) e
      have hdu6:=k6 _ _ (xac hdu hkd (fun z=>nomatch z)) (xac hdu hko (fun z=>nomatch z)) hdu
      have dq6:=k6 _ _ (xac deed5.1 hkd (fun z=>nomatch z)) (xac deed5.1 hko (fun z=>nomatch z)) deed5.1
      exact ⟨_,rfl,1,1,.lst [],.lst [],xdh hm6,xdh hdu6,by decide,by decide,_,rfl,ifN (by rfl) ⟨rfl,.inr ⟨out,hdu6,⟨dq6,tp _ _ deed5.2.1,tp _ _ deed5.2.2⟩,k6,pic6,st6,pok6,sok6⟩⟩⟩
    rintro σ H6 ⟨rfl,⟨er,her,hdu6,I6⟩ | ⟨out,hdu6,deed6,k6,pic6,st6,pok6,sok6⟩⟩
    ·refine ⟨fun σ H'=>∃ (v8 v9 v10 v11:Option V) (lf:Int) (A:Bool→A8),σ=[some (.ref sc),some (.ref pl),v2,some (.int n),some (.ref hl),some (.int lf),some (.int (1 + (i:Int))),some (.int (n % 2)),v8,v9,v10,v11]∧Inv8 t H H' pl hl A,?_,fun σ H' z=>z⟩
     refine ⟨_,rfl,(by show 0≤sizeLine; exact Nat.zero_le _),fun e0 he0=>?_⟩
     have s7:Same H6 (upd H6 e0 (.lst [])):=xm (Same.refl _) he0
     have g7:upd H6 e0 (.lst []) e0=some (.lst []):=xg
     revert s7 g7
     generalize upd H6 e0 (.lst [])=H7
     intro s7 g7
     have sc8:=xi2 hwy her
     obtain ⟨d0,ds0,ed⟩:=xna er
     exact ⟨1,1,.lst (er.told.map scD),.lst [],.lst (SqL.of (s7 _ _ hdu6)) (by rw [List.length_map]) (xh1 sc8),xdh g7,by decide,by decide,_,rfl,ifN (by rw [ed]; rfl) ⟨_,_,_,_,_,A,rfl,I6.keep s7⟩⟩
    ·refine ⟨fun σ H'=>∃ (v8 v9 v10 v11:Option V) (lf:Int) (A:Bool→A8),σ=[some (.ref sc),some (.ref pl),v2,some (.int n),some (.ref hl),some (.int lf),some (.int (1 + (i:Int))),some (.int (n % 2)),v8,v9,v10,v11]∧Inv8 t H H' pl hl A,?_,fun σ H' z=>z⟩
     refine ⟨_,rfl,(by show 0≤sizeLine; exact Nat.zero_le _),fun e0 he0=>?_⟩
     have s7:Same H6 (upd H6 e0 (.lst [])):=xm (Same.refl _) he0
     have g7:upd H6 e0 (.lst []) e0=some (.lst []):=xg
     revert s7 g7
     generalize upd H6 e0 (.lst [])=H7
     intro s7 g7
     refine ⟨1,1,.lst [],.lst [],xdh (s7 _ _ hdu6),xdh g7,by decide,by decide,_,rfl,ifP (by rfl) ?_⟩
     have kp6:Kept H6 (A b).lr (A b).ls (A b).ps (A b).ss:=hx5.kp.off fun c u o e=>by
      obtain ⟨qs5,e1,_⟩:=hx5.kp.rl
      obtain ⟨srt5,rs5,_,_,e2,_⟩:=hx5.kp.sl
      rcases o with ⟨xs,rfl⟩ | rfl | rfl
      ·exact k6 _ _ (xac e hkd (fun z=>nomatch z)) (xac e hko (fun z=>nomatch z)) e
      ·exact k6 _ _ (xac e1 hkd (fun z=>nomatch z)) (xac e1 hko (fun z=>nomatch z)) e
      ·exact k6 _ _ (xac e2 hkd (fun z=>nomatch z)) (xac e2 hko (fun z=>nomatch z)) e
     have hop:wy="open"→z ∉ (A b).ss∧(A b).ss.length < 32:=fun e=>by
      rw [e,xcj] at out
      have nin:z ∉ (A b).ss:=fun m=>by
       rw [show xcp (A b).ss z=some (.oldSeat (.str (x6 z.1)) (.int z.2)) from if_pos m] at out
       cases out
      refine ⟨nin,?_⟩
      have le:=hx.sok.2.1
      by_cases c32:(A b).ss.length < 32
      ·exact c32
      ·exact absurd (xf4 h2 hx.sok (by omega) z z1 z2) nin
     refine ⟨_,rfl,_,rfl,_,rfl,(A b).lr,(A b).ls,dq,qr,qz,(A b).ps,(A b).ss,wy,p,z,(A b).w,(A b).h,rfl,kp6.same s7,hx.pok,hx.sok,deed6.same s7,hwy,hop,fun H8 tq lr' ls' s8 htq o1 o2 kp8=>?_⟩
     have s68:=s7.trans s8
     have offk:∀ c xs,H5 c=some (.lst xs)→H6 c=some (.lst xs):=fun c xs e=>k6 _ _ (xac e hkd (fun z=>nomatch z)) (xac e hko (fun z=>nomatch z)) e
     have hl8:=s68 _ _ (offk _ _ I5.hhl)
     have pl8:=s68 _ _ (offk _ _ I5.hpl)
     refine ⟨_,rfl,_,rfl,hl,_,_,cond b 1 0,rfl,rfl,hl8,ib,?_⟩
     rw [sb fun b=>V.ref (A b).q]
     have k9:∀ x u,x≠hl→H8 x=some u→upd H8 hl (.lst [cond b (V.ref (A false).q) (.ref tq),cond b (.ref tq) (.ref (A true).q)]) x=some u:=fun x u nx e=>by
      rw [xl nx]
      exact e
     have g9:upd H8 hl (.lst [cond b (V.ref (A false).q) (.ref tq),cond b (.ref tq) (.ref (A true).q)]) hl=some (.lst [cond b (V.ref (A false).q) (.ref tq),cond b (.ref tq) (.ref (A true).q)]):=xg
     generalize upd H8 hl (.lst [cond b (V.ref (A false).q) (.ref tq),cond b (.ref tq) (.ref (A true).q)])=H9 at k9 g9 ⊢
     obtain ⟨n1,n2,n3,n4⟩:=I.nl b
     obtain ⟨r1,r2,r3,r4⟩:=I.nl (!b)
     have fr6:∀ {x:Addr} {u:HO},H7 x=none→H6 x=some u→False:=fun {x u} e e'=>by rw [s7 _ _ e'] at e; cases e
     have nlr:lr'≠pl∧lr'≠hl:=by
      rcases o1 with rfl | f
      ·exact ⟨n1,n2⟩
      ·exact ⟨fun e=>fr6 (e ▸ f) (offk _ _ I5.hpl),fun e=>fr6 (e ▸ f) (offk _ _ I5.hhl)⟩
     have nls:ls'≠pl∧ls'≠hl:=by
      rcases o2 with rfl | f
      ·exact ⟨n3,n4⟩
      ·exact ⟨fun e=>fr6 (e ▸ f) (offk _ _ I5.hpl),fun e=>fr6 (e ▸ f) (offk _ _ I5.hhl)⟩
     have hx8:xbg t H8 ⟨(A b).a,(A b).dp,(A b).do_,tq,lr',ls',(A b).w,(A b).h,xcb wy (A b).ps p,xcc wy (A b).ss z⟩:=⟨Pic.same s68 pic6,st6.same s68,pok6,sok6,htq,kp8⟩
     have hx9:=xbg.lst (x:=⟨(A b).a,(A b).dp,(A b).do_,tq,lr',ls',(A b).w,(A b).h,xcb wy (A b).ps p,xcc wy (A b).ss z⟩) hl8 k9 nlr.2 nls.2 hx8
     have ho6:=(I5.half (!b)).dic hkd hko k6 (Ne.symm (I.ndp b)) (Ne.symm (I.ndo b))
     have ho9:=(ho6.same s68).lst hl8 k9 r2 r4
     exact ⟨_,_,_,_,_,_,rfl,I5.put b _ hx9 ho9 (fun x u e=>k9 _ _ (xn e I.fhl) (s68 _ _ (k6 _ _ (xn e (I.fdp b)) (xn e (I.fdo b)) (I5.same _ _ e)))) (I.ndp b) (I.ndo b) (I.fdp b) (I.fdo b) ⟨nlr.1,nlr.2,nls.1,nls.2⟩ (by have:=k9 _ _ I.nph pl8; cases b <;> exact this) g9⟩
   rintro σ H2 ⟨v8,v9,v10,v11,lf,A,rfl,I⟩
   have hx:=I.half b
   obtain ⟨dx,hp⟩:=hx.pic.ins
   obtain ⟨qs,hlr,pts⟩:=hx.kp.rl
   obtain ⟨srt,rs,pm,pw',hls,sts⟩:=hx.kp.sl
   refine ⟨fun σ H'=>∃ (v2 v3 v6 v7 v8 v9 v10 v11:Option V) (lf:Int) (A:Bool→A8),σ=[some (.ref sc),some (.ref pl),v2,v3,some (.ref hl),some (.int lf),v6,v7,v8,v9,v10,v11]∧Inv8 t H H' pl hl A,?_,fun σ H' z=>z⟩
   refine ⟨_,rfl,_,rfl,pl,_,_,.ref (A b).a,rfl,rfl,SqL.of I.hpl,eb fun b=>V.ref (A b).a,(A b).a,dx,_,rfl,hp,xap (by decide +kernel),(A b).a,(A b).dp,(A b).do_,(A b).w,(A b).h,(A b).ps,rfl,hx.pic,fun H3 l3 qs3 s3 hl3 pt3=>?_⟩
   refine ⟨_,rfl,_,rfl,hl,_,_,.ref (A b).q,rfl,rfl,SqL.of (s3 _ _ I.hhl),eb fun b=>V.ref (A b).q,(A b).q,_,0,_,rfl,rfl,SqT.of (s3 _ _ hx.q),rfl,2,2,.lst ((A b).ps.map ptD),.lst ((A b).ps.map ptD),pt3.dv hl3,(pts.keep (Same.tups s3)).dv (s3 _ _ hlr),by decide,by decide,_,rfl,ifN (by rw [xbt]; rfl) ?_⟩
   have I3:=I.keep s3
   refine ⟨_,rfl,_,rfl,pl,_,_,.ref (A b).a,rfl,rfl,SqL.of I3.hpl,eb fun b=>V.ref (A b).a,(A b).a,dx,_,rfl,s3 _ _ hp,xap (by decide +kernel),(A b).a,(A b).dp,(A b).do_,(A b).w,(A b).h,(A b).ps,(A b).ss,rfl,(I3.half b).pic,(I3.half b).st,fun l4 ss4 rs4 fr4 sl4 pm4 pw4=>?_⟩
   obtain rfl:ss4=srt:=xc3 xeq (pm4.trans pm.symm) pw4 pw'
   have s4:Same H3 (upd H3 l4 (.lst (rs4.map V.ref))):=xm (Same.refl _) fr4
   have g4:upd H3 l4 (.lst (rs4.map V.ref)) l4=some (.lst (rs4.map V.ref)):=xg
   revert s4 g4
   generalize upd H3 l4 (.lst (rs4.map V.ref))=H4
   intro s4 g4
   have s24:=s3.trans s4
   exact ⟨_,rfl,_,rfl,hl,_,_,.ref (A b).q,rfl,rfl,SqL.of (s24 _ _ I.hhl),eb fun b=>V.ref (A b).q,(A b).q,_,1,_,rfl,rfl,SqT.of (s24 _ _ hx.q),rfl,2,2,.lst (ss4.map xbl),.lst (ss4.map xbl),(sl4.keep (Same.tups s4)).dv g4,(sts.keep (Same.tups s24)).dv (s24 _ _ hls),by decide,by decide,_,rfl,ifN (by rw [xbt]; rfl) ⟨_,_,_,_,_,_,_,_,lf,A,rfl,I.keep s24⟩⟩
  ·rintro σ H1 ⟨v2,v3,v6,v7,v8,v9,v10,v11,lf,A,rfl,I⟩
   refine ⟨_,rfl,pl,_,0,_,rfl,rfl,SqL.of I.hpl,rfl,_,rfl,hl,_,0,_,rfl,rfl,SqL.of I.hhl,rfl,A false,rfl,I.half false,fun H2 s2=>?_⟩
   have I2:=I.keep s2
   refine ⟨true,rfl,iteT ?_⟩
   exact ⟨_,rfl,pl,_,1,_,rfl,rfl,SqL.of I2.hpl,rfl,_,rfl,hl,_,1,_,rfl,rfl,SqL.of I2.hhl,rfl,A true,rfl,I2.half true,fun H3 s3=>q _⟩
end
end S08
namespace PySem.W.Fast
def tw4260545684460793075:=0
def tw13789065943457163260:=0
def tw10291668791379818772:=0
def tw9122034652145905448:=0
def tw16048378715855990295:=0
def tw18087095113322371980:=0
def tw1812968392131899498:=0
def tw13422254642681852303:=0
def tw17108260392749100075:=0
def tw12464302039843605309:=0
def tw7406504912770714325:=0
def tw5134801057864724353:=0
def tw8879925118315192639:=0
def tw17414836653109074203:=0
def tw7825420132290634028:=0
def tw15483224706339188053:=0
def tw1001346055503283752:=0
def tw3352566397509393505:=0
def tw8304164089413143461:=0
def tw15478195048517730910:=0
def tw10149048334495160508:=0
def tw11674226167091438917:=0
def tw3019856444221004957:=0
def tw322987775152618863:=0
def tw11140260486194060928:=0
def tw10638252458047563444:=0
def tw5431188802878143481:=0
def tw3223684408240810145:=0
def tw8262456892047701803:=0
def tw13998891079401808157:=0
def tw17236731309469624353:=0
def tw3307038156418576522:=0
def tw3339685226544436917:=0
def tw14651985461126885679:=0
def tw12226294713294494181:=0
def tw7172921383458451577:=0
def tw11437071772678288005:=0
def tw8962466649941943901:=0
def tw10371718008373490841:=0
def tw18298837296382235407:=0
def tw12989895661468642785:=0
def tw6598233323213671346:=0
def tw4772117981104486787:=0
def tw771889865472829467:=0
def tw13468290377310324496:=0
def tw15447616267772757655:=0
def tw6975376632049100394:=0
def tw1295570553752211777:=0
def tw6236635106966723389:=0
def tw1740028227276463917:=0
def tw13306564037475814630:=0
def tw2012730851012775264:=0
def tw8096822173430164706:=0
def tw16369289188076068917:=0
def tw3478737009249260426:=0
def tw2443361253121667647:=0
def tw9156130729713836601:=0
def tw2307339797677175572:=0
def tw17782775376205929022:=0
def tw10201403767642462759:=0
def tw15073155954552689193:=0
def tw5758826338471638162:=0
def tw14659626698351202633:=0
def tw15060594278547600029:=0
def tw15668588939399290830:=0
def tw7045091876905644521:=0
def tw16372009511955394735:=0
def tw12413813408805316033:=0
def tw6657882208815132989:=0
def tw11148378062169179741:=0
def tw2588480441475650206:=0
def tw7366827005216768203:=0
def tw671392534328723890:=0
def tw17419023422403526971:=0
def tw3591053206439074631:=0
def tw8659383924442908097:=0
def tw3785751251046428782:=0
def tw7279255115320030696:=0
def tw1906418493758956641:=0
def tw3304462890448773461:=0
def tw2855366316961934967:=0
def tw4662164408074795171:=0
def tw7147156102159374182:=0
def tw15543094019956584855:=0
def tw6796889934565973544:=0
def tw13937967399203869679:=0
def tw17587719252197325682:=0
def tw6678146397730445721:=0
def tw7927290422639997847:=0
def tw17307483589484226013:=0
def tw11057236213511816450:=0
def tw8292112401381960089:=0
def tw16028147134002772133:=0
def tw2119971065933445974:=0
def tw13987529953626749679:=0
def tw4697675581185161122:=0
def tw7168502619146132352:=0
def tw3296387707289051325:=0
def tw4348883258988899140:=0
def tw6325994793615675385:=0
def tw8018037022843426934:=0
def tw12967798534280707947:=0
def tw10793239541117653206:=0
def tw3950119109660293192:=0
def tw6385597510989163133:=0
def tw8948381809161275730:=0
def tw12299990290833410312:=0
def tw15338468880526324344:=0
def tw9036236471421780019:=0
def tw12800358878509209756:=0
def tw6674722412482970116:=0
def tw4265220046980139135:=0
def tw2232919768396711006:=0
def tw16106981807990221969:=0
def tw11186371493578730276:=0
def tw2605685921264291776:=0
def tw17137742855130306476:=0
def tw18338461449984690242:=0
def tw16079340201810242870:=0
def tw14267322632977706652:=0
def tw16425973440222025699:=0
def tw16276548051464363432:=0
def tw3384349414574541209:=0
def tw3007711887427112895:=0
def tw1225643599532462486:=0
def tw8292949999037757535:=0
def tw8261058128583377153:=0
def tw16942275710591200827:=0
def tw3101263104128845665:=0
def tw13160806819246008507:=0
def tw13425326533269588866:=0
def tw7393357304157995644:=0
def tw13738249683606340666:=0
def tw2645665518160154542:=0
def tw3499516624229418775:=0
def tw2042650198641863719:=0
def tw15856391433596868305:=0
def tw4735888426537196264:=0
def tw10126175350097660978:=0
def tw851362858525154035:=0
def tw18393608187041152800:=0
def tw14784189782920935894:=0
def tw10031016751019493800:=0
def tw9532633125490878815:=0
def tw8509125188978255535:=0
def tw9851793972583377485:=0
def tw193430743245794893:=0
def tw4943293544189573830:=0
def tw7778885154731401906:=0
def tw5476811674962313111:=0
def tw18088039461829670346:=0
def tw8774299672841814184:=0
def tw16754401466392929181:=0
def tw6927583252582866548:=0
def tw8309275545042124803:=0
def tw12415871611043999032:=0
def tw115069739630981107:=0
def tw16021633390255864295:=0
def tw14521074992922032520:=0
def tw13301953649655481350:=0
def tw4152428716942674566:=0
def tw3067865622247795262:=0
def tw293466164731279415:=0
def tw1480020127310366582:=0
def tw12691009066817650398:=0
def tw1410378357055109035:=0
def tw12900043401808237557:=0
def tw5846332409391789216:=0
def tw12320394145142581209:=0
def tw1899440199230993348:=0
def tw448930906315505460:=0
def tw12771884639655747189:=0
def tw8650749023262413312:=0
def tw988618636701851577:=0
def tw16537612269157265240:=0
def tw12455228678878362251:=0
def tw8100974254365841375:=0
def tw4328128574787470886:=0
def tw9312762785498771637:=0
def tw11599928801492983420:=0
def tw3342979522612855970:=0
def tw13680720940166316062:=0
def tw11497804507645381036:=0
def tw13254086831397408273:=0
def tw11011775725053220113:=0
def tw2764321517212373862:=0
def tw1501460657360151204:=0
def tw14165329524827251847:=0
def tw6921371770375079021:=0
def tw7430482963311953290:=0
def tw14680016432802018893:=0
def tw9521737261259891528:=0
def tw11357984824736159873:=0
def tw862260339794560201:=0
def tw1288153130215102193:=0
def tw373213059797635987:=0
def tw2024227005455618819:=0
def tw17612727364792323211:=0
def tw1480812169053111098:=0
def tw14346369857866488015:=0
def tw8991488382988172283:=0
def tw18036007167437450576:=0
def tw2268368667066425801:=0
def tw8660787694502235452:=0
def tw5725077372138229384:=0
def tw18206666235960307196:=0
def tw14426343255235416119:=0
def tw6107549823145299994:=0
def tw12605890442938534700:=0
def tw14993427723091369796:=0
def tw7996363978458180419:=0
def tw2801880817703820240:=0
def tw3914986615565061918:=0
def tw3100739238404038809:=0
def tw7680274068188714303:=0
def tw15087709268393370136:=0
def tw16774178528957880493:=0
def tw14127424073579707888:=0
def tw14669599550064501383:=0
def tw18017514866816370211:=0
def tw7403174680208494829:=0
def tw6894424961961120535:=0
def tw1632965167210284002:=0
def tw4971171260424386746:=0
def tw1389411151648063152:=0
def tw6047973965329279325:=0
def tw7167103243299746809:=0
def tw9388061790567751136:=0
def tw1742893029222775022:=0
def tw12446301747712031002:=0
def tw18405477185929632832:=0
def tw304837069632938535:=0
def tw17804160940121550090:=0
def tw8845536678378932576:=0
def tw14080525902238925676:=0
def tw15190293470754418359:=0
def tw16941805831426529902:=0
def tw17590679118233265761:=0
def tw936060204646994957:=0
def tw15476487678489810381:=0
def tw16760523856855818957:=0
def tw17856503226923450019:=0
def tw11350510635744713302:=0
def tw15908994814987889437:=0
def tw139228335724172317:=0
def tw17268156520839033417:=0
def tw8071662005710330297:=0
def tw485497105315683972:=0
def tw1803785539747503376:=0
def tw4432073485932418092:=0
def tw16950225738966861539:=0
def tw4255516827564316303:=0
def tw8437622430930729704:=0
def tw1780342491052707177:=0
def tw8375866618519542508:=0
def tw17887416997790462048:=0
def tw12647866359492597650:=0
def tw10991535769785192709:=0
def tw2544208390069816763:=0
def tw11797071508655104560:=0
def tw14587174794601632378:=0
def tw2933774342422874991:=0
def tw15614756396851475521:=0
def tw10294737271833166970:=0
def tw16513807857680967116:=0
def tw3699805977258585417:=0
def tw10495544912618632543:=0
def tw2794364882877207215:=0
def tw15140067879844516456:=0
def tw3393493724652769785:=0
def tw2829626530053212963:=0
def tw8200523735808781455:=0
def tw18162650599703707174:=0
def tw16971814630762416498:=0
def tw10279550471327456928:=0
def tw16738127080704278101:=0
def tw18407210039646103162:=0
def tw6689691990871426021:=0
def tw5313614423163490734:=0
def tw6607402681038205297:=0
def tw3962584804543979423:=0
def tw47471751370181320:=0
def tw8018888361846186946:=0
def tw3775353125835162732:=0
def tw10049507199249828886:=0
def tw18240463630606297999:=0
def tw3127415319420765402:=0
def tw10551984513441075619:=0
def tw978748187001824347:=0
def tw2784661821604051944:=0
def tw8165026670685652815:=0
def tw11713105747663537751:=0
def tw7960478120800426235:=0
def tw8789571104062777893:=0
def tw15577437882007491452:=0
def tw5712390581524843481:=0
def tw5440061873586934349:=0
def tw2524754932601800783:=0
def tw17812803655827832757:=0
def tw7260026247190171448:=0
def tw2405108164192063565:=0
def tw14172755158498106715:=0
def tw4096578368757076090:=0
def tw12919178181393982018:=0
def tw16076573306567928389:=0
def tw16681258778912290760:=0
def tw9954856795621302994:=0
def tw4276248096366896641:=0
def tw4535582823895865446:=0
def tw10978614218267956124:=0
def tw7336152117418989214:=0
def tw18019606408196444915:=0
def tw1982282958006532589:=0
def tw13503900170147725123:=0
def tw2441432009605069929:=0
def tw6949233405633776326:=0
def tw6390833155731205438:=0
def tw10007865031539824530:=0
def tw6998217016698693748:=0
def tw12040711590663800684:=0
def tw17051387303270713626:=0
def tw173117209389465838:=0
def tw15241982202669687782:=0
def tw11187536117380141308:=0
def tw12383687974224625080:=0
def tw7022456489595781405:=0
def tw11067721535657437400:=0
def tw11327654163018025762:=0
def tw17966961445455022755:=0
def tw18440456454057664728:=0
def tw14665696886489237864:=0
def tw6633922757629783221:=0
def tw2271689068128278526:=0
def tw16049062066359992116:=0
def tw14552269111047305747:=0
def tw18112036000331415024:=0
def tw14111216533471510192:=0
def tw9050845737261318162:=0
def tw8122284459110525734:=0
def tw11303993586592858799:=0
def tw2584406820702267779:=0
def tw6209690859203156047:=0
def tw8339741094274142632:=0
def tw1106939226606158958:=0
def tw10923799257695091595:=0
def tw5129565613703708919:=0
def tw6628025140852576862:=0
def tw3024724293330550070:=0
def tw15995271550459507565:=0
def tw3246034837064778138:=0
def tw14502225372204933532:=0
def tw7150554005083394806:=0
def tw12615998389235232676:=0
def tw2757507536070828336:=0
def tw17079745753706813960:=0
def tw3481460842747746985:=0
def tw6162413577507448420:=0
def tw7414954509754928544:=0
def tw6197232441074957293:=0
def tw177662521305463201:=0
def tw16251914270891526059:=0
def tw9763867504304812956:=0
def tw11591821503490065149:=0
def tw7220992363412180208:=0
def tw1422123954343179089:=0
def tw13683698678370919342:=0
def tw11930139075969959432:=0
def tw13763706980736058948:=0
def tw6602530590593795389:=0
def tw13459194386568528924:=0
def tw12013888898579117084:=0
def tw16524590903612180402:=0
def tw15678502519139462641:=0
def tw9534029972006604409:=0
def tw10537367230592040051:=0
def tw4023738877804681745:=0
def tw11698069145456473431:=0
def tw4773400448636699877:=0
def tw1794598664353308603:=0
def tw11701795308104910527:=0
def tw9800916374264428203:=0
def tw8439199369935872093:=0
def tw1679764693152850177:=0
def tw4783847582003464005:=0
def tw3008632393558953527:=0
def tw12663930204358448052:=0
def tw15532506994553394069:=0
def tw7815702611530819111:=0
def tw4462943798883506720:=0
def tw3366554082483646572:=0
def tw11296016739577547688:=0
def tw7712357061228667670:=0
def tw5514663949785371255:=0
def tw1332204415824677801:=0
def tw16767320629691561012:=0
def tw17858897145308536203:=0
def tw9820696017937054614:=0
def tw2443550159124910378:=0
def tw4268545643836524479:=0
def tw14618317492942381179:=0
def tw5338490524222466120:=0
def tw12771121032884988769:=0
def tw3362529721160089609:=0
def tw9029303630846465393:=0
def tw5690722082492146589:=0
def tw14955795154761509556:=0
def tw15133587697660058106:=0
def tw1706858754234942491:=0
def tw6430726328217491268:=0
def tw15877304422267131345:=0
def tw6615079726062270397:=0
def tw3967071630926061351:=0
def tw9363338529494493091:=0
def tw4928495445250668456:=0
def tw12101088713845393122:=0
def tw1858154828169020749:=0
def tw15003632354237747043:=0
def tw618572664129087634:=0
def tw13987295129309550506:=0
def tw17697815595111828050:=0
def tw9116933042290302677:=0
def tw4511871668589960235:=0
def tw489540482912894123:=0
def tw3860622641556375039:=0
def tw3073703424386212248:=0
def tw12229276647831001190:=0
def tw1732903558350503566:=0
def tw10016850924076205983:=0
def tw10205357981525088284:=0
def tw7290994471938292392:=0
def tw8017895158005271813:=0
def tw2622127519074764856:=0
def tw3483341104900816336:=0
def tw668411636436477744:=0
def tw4730955661019776768:=0
def tw11427189101323029884:=0
def tw5947658883321601731:=0
def tw11200800263011824371:=0
def tw18252846970081823217:=0
def tw15131100023126769098:=0
def tw15380519003485566634:=0
def tw11305646676415065500:=0
def tw7052779166281184668:=0
def tw8607369623130839590:=0
def tw13188177067114158797:=0
def tw7561419278127253461:=0
def tw16012076523413341133:=0
def tw7130086869385797782:=0
def tw8258977347008911510:=0
def tw8688851624790931512:=0
def tw4689304375882143688:=0
def tw2302354235311916873:=0
def tw5834474048928447903:=0
def tw17317884603665565464:=0
def tw5135473358756717660:=0
def tw12963405285151844630:=0
def tw16625139537332730595:=0
def tw15355493965166350558:=0
def tw9574926618632788540:=0
def tw10547376029769078552:=0
def tw10646524046432800063:=0
def tw11348200588163302024:=0
def tw8248932677189035472:=0
def tw201852539032774930:=0
def tw10863830103890995376:=0
def tw1051480576056656615:=0
def tw7455145534227330627:=0
def tw15116789234214955271:=0
def tw15316723552028101794:=0
def tw3232632365222365960:=0
def tw10137704783150196693:=0
def tw8091478273830712671:=0
def tw17680057978080728025:=0
def tw6806830324168291032:=0
def tw88518219806852035:=0
def tw649831271032013302:=0
def tw14665438927131212635:=0
def tw9165318378057965392:=0
def tw6975358482646220934:=0
def tw977524382588759528:=0
def tw17436168917978080529:=0
def tw10173674681594104088:=0
def tw16797245673231150436:=0
def tw4129453918280696708:=0
def tw2134890389532483726:=0
def tw3972127943957178668:=0
def tw15490422362138170269:=0
def tw16985992214153727878:=0
def tw10519592423985811334:=0
def tw6424040808987795013:=0
def tw16281905789825745882:=0
def tw11297429014999317899:=0
def tw4732525391906190013:=0
def tw867012160290776200:=0
def tw12254895213780291455:=0
def tw4062509829866803541:=0
def tw14674713158058132087:=0
def tw9513447663316987130:=0
def tw9904187524595543134:=0
def tw315362006313380705:=0
def tw1369442432347676538:=0
def tw8989655701268755254:=0
def tw6354829247021132406:=0
def tw6779869757222265118:=0
def tw9089885538746332402:=0
def tw5762282087379761411:=0
def tw13794576038898392134:=0
def tw14219322657725459465:=0
def tw1918413942963950610:=0
def tw644921007333318741:=0
def tw14657986493441591076:=0
def tw577181036302400279:=0
def tw9203192731207431012:=0
def tw16293967798832996720:=0
def tw5685808584967013277:=0
def tw630140533861219435:=0
def tw16657525309681187079:=0
def tw11549280694422827078:=0
def tw15706980553240274908:=0
def tw714985253073950165:=0
def tw2809856538091758955:=0
def tw15725943688764739983:=0
def tw14173167940690526122:=0
def tw7830309519209626007:=0
def tw3605116622844289356:=0
def tw15394440347213748744:=0
def tw15429321668470636797:=0
def tw15600334026421941591:=0
def tw12909680399411977198:=0
def tw532208570041946202:=0
def tw14396758964274317849:=0
def tw17118322647711684658:=0
def tw16624423728022141298:=0
def tw16190448100813821853:=0
def tw11630746247825967935:=0
def tw14251933287306014369:=0
def tw6515276874228068277:=0
def tw6396890939951914543:=0
def tw15635781638512106850:=0
def tw2195476057075756544:=0
def tw6581944456281118623:=0
def tw15963666644957421352:=0
def tw15832369028162924548:=0
def tw8839008403045378308:=0
def tw17957004398176891874:=0
def tw4126982517189550125:=0
def tw7777418894342089972:=0
def tw2594779960969712754:=0
def tw12721792872074414048:=0
def tw1245176491392928708:=0
def tw9241118848092177449:=0
def tw5186454765314923989:=0
def tw4979492895647338420:=0
def tw5081496811132410984:=0
def tw7902172391456724254:=0
def tw10681885121231629771:=0
def tw5701822287861784198:=0
def tw8497365789877354234:=0
def tw1833637592476915290:=0
def tw16245875633853309905:=0
def tw9983773813953289665:=0
def tw10534366002645644399:=0
def tw710118227996229976:=0
def tw5218082579266090510:=0
def tw13369538792341104008:=0
def tw17789331906296068294:=0
def tw11951309021744438946:=0
def tw17475031606315226359:=0
def tw5534788684098362545:=0
def tw10108633817402857463:=0
def tw12787655704342682190:=0
def tw11912100136646157899:=0
def tw16998821503069473404:=0
def tw7359166164535455346:=0
def tw1628855597051960358:=0
def tw5613819489875041391:=0
def tw18200441552911513725:=0
def tw2528299593474694826:=0
def tw6004830212833792536:=0
def tw13920185401706973255:=0
def tw14302194789215668335:=0
def tw13505042002924585163:=0
def tw16664588235423787711:=0
def tw14430038149139972130:=0
def tw15749072637259100525:=0
def tw18274427544956264713:=0
def tw14373055528072893594:=0
def tw1142511285942341658:=0
def tw4877354327637507083:=0
def tw13972963763319050759:=0
def tw11153792507551026437:=0
def tw11993581458275914972:=0
def tw7269447053620209918:=0
def tw12465190909229682136:=0
def tw6487515208772920966:=0
def tw14361656467366749332:=0
def tw1716205568819420184:=0
def tw11144958666870840819:=0
def tw12625010752407963568:=0
def tw14235706717295128959:=0
def tw8486246990893665797:=0
def tw10067827193789776371:=0
def tw12409642080052523568:=0
def tw10775254192487228383:=0
def tw5461041120968736773:=0
def tw18184758054456202762:=0
def tw6503179521613543739:=0
def tw4262338858340931453:=0
def tw1369379827780311671:=0
def tw12348584518660374227:=0
def tw8151683528612857260:=0
def tw10101406291233334920:=0
def tw14241538854635397345:=0
def tw1163471526483062525:=0
def tw11201092486472900244:=0
def tw12688582630432304686:=0
def tw10889134758454348054:=0
def tw10231636643775728078:=0
def tw10971920635364613714:=0
def tw10117524850991374901:=0
def tw3570068170644656658:=0
def tw13690541038164820084:=0
def tw15452184824510533703:=0
def tw4360893463908292273:=0
def tw10653296614666063500:=0
def tw3561331466290663470:=0
def tw17149223466056515337:=0
def tw13752268811514632725:=0
def tw8371977256506440378:=0
def tw11072071713918262837:=0
def tw11810301644672358:=0
def tw10923301072163165780:=0
def tw2163266155500479359:=0
def tw2552347164707383860:=0
def tw12075392512865231439:=0
def tw14549680603871686458:=0
def tw5240833356383150557:=0
def tw10047197744981079288:=0
def tw813793750581413905:=0
def tw14171540719068254225:=0
def tw15623180087998727740:=0
def tw16858176902429259356:=0
def tw14749501059494078861:=0
def tw13917054556483006084:=0
def tw8307398880842128815:=0
def tw937492637717942706:=0
def tw5437310628202093049:=0
def tw15188095026675200463:=0
def tw16007722552103872346:=0
def tw3381559354793488512:=0
def tw14184965177176508583:=0
def tw4624708791776790699:=0
def tw4974316544489299218:=0
def tw11714649822303323496:=0
def tw17816302396230347094:=0
def tw10028262924218448347:=0
def tw8239833412043497236:=0
def tw5112588767488074973:=0
def tw9027412312011373745:=0
def tw13665430498733872369:=0
def tw400541483265079342:=0
def tw11169679599905807858:=0
def tw10556518532042934746:=0
def tw12900851843703512214:=0
def tw12402247024137853578:=0
def tw3995483617829356484:=0
def tw13181046169066148264:=0
def tw2405573015247045006:=0
def tw9406209437184452590:=0
def tw3461187951765923888:=0
def tw3021641494571831873:=0
def tw7682998665717806783:=0
def tw8202353654403127144:=0
def tw15724628762559510218:=0
def tw8725215201661872981:=0
def tw988898879188030102:=0
def tw8668667044127178582:=0
def tw5059944694651594661:=0
def tw9313055076843204862:=0
def tw399912392627809627:=0
def tw1201643481930820689:=0
def tw16382992217606397181:=0
def tw9576062543619388983:=0
def tw14666226932623004329:=0
def tw6344962585963923178:=0
def tw3565502509838754371:=0
def tw16895163008467202570:=0
def tw7243659271658192776:=0
def tw1097819862151972652:=0
def tw14484266733029404047:=0
def tw1547243544418483537:=0
def tw6523345580507556406:=0
def tw18302521778708118968:=0
def tw7273353299196598338:=0
def tw4229868131782901290:=0
def tw1094959477613971716:=0
def tw9629911819687804201:=0
def tw13727395890048550554:=0
def tw8425746048747109209:=0
def tw9322040972664284397:=0
def tw13643819608448207181:=0
def tw15664794603984379746:=0
def tw15904079598951041377:=0
def tw14414874352787560915:=0
def tw14542105539127049126:=0
def tw14537804900612034182:=0
def tw13006184355085614086:=0
def tw1485073233784507770:=0
def tw11080120458528829888:=0
def tw870976449817226589:=0
def tw7798562435224868104:=0
def tw15668111648595854:=0
def tw9430182244979254830:=0
def tw6903836869873822021:=0
def tw7489134967719457598:=0
def tw4417440452709768713:=0
def tw16887624495609318381:=0
def tw13146690630266306990:=0
def tw6223355641412122959:=0
def tw17129892080550746159:=0
def tw1591459324595094665:=0
def tw1007649186792031111:=0
def tw18130708082558643070:=0
def tw16310936631299951318:=0
def tw15294051541558775944:=0
def tw13508011318390612221:=0
def tw12438837336701036361:=0
def tw3210218113745225371:=0
def tw8969615258688578649:=0
def tw8988493766710942664:=0
def tw13887555148008603731:=0
def tw17264195705567655379:=0
def tw8362684864141604145:=0
def tw10965311012465963825:=0
def tw16503191941246149679:=0
def tw10330246728955006682:=0
def tw6702080474196019142:=0
def tw10216534829615480832:=0
def tw14081199419453293407:=0
def tw8722686184177229313:=0
def tw16214006719137214183:=0
def tw2068807251532438431:=0
def tw6008690592472195580:=0
def tw8011912537361953243:=0
def tw8125901993190192224:=0
def tw7475322575202910467:=0
def tw13398851106915443907:=0
def tw13803456395897725178:=0
def tw18167296040979069083:=0
def tw5064139555245677628:=0
def tw1585711688830159545:=0
def tw4270875441375417741:=0
def tw6675662029753026007:=0
def tw17548036278352098239:=0
def tw8816136034590615856:=0
def tw12491283985685482621:=0
def tw8743822181852580683:=0
def tw712215535564347560:=0
def tw17894779325730695613:=0
def tw13288961729360245476:=0
def tw13155884813550129817:=0
def tw10961399683203439480:=0
def tw7317168019456753723:=0
def tw5506383612164560702:=0
def tw17789901959271042739:=0
def tw463041648460543963:=0
def tw4407674672652939006:=0
def tw15997377805665931617:=0
def tw10570847241166802246:=0
def tw16599397256339979562:=0
def tw7789475615576529865:=0
def tw2627340854248404129:=0
def tw5023516157060596450:=0
def tw15599812717237396269:=0
def tw5046868832680605064:=0
def tw266136315755213205:=0
def tw6412147030123996945:=0
def tw2118581755001668896:=0
def tw9678856268063975665:=0
def tw7472198118720819450:=0
def tw39080254300432587:=0
def tw2274447360188975363:=0
def tw4927859331471555089:=0
def tw9178361374074353547:=0
def tw7613088564528672933:=0
def tw7738841759150769367:=0
def tw11194493142695455104:=0
def tw8044890395378016095:=0
def tw15312020976216758990:=0
def tw8740544939146086825:=0
def tw5249207941777300635:=0
def tw9069920450736672776:=0
def tw7607115870786079319:=0
def tw17023283017303746562:=0
def tw3010223583028187991:=0
def tw6333308510946030010:=0
def tw18007143700820307156:=0
def tw3160807840067653529:=0
def tw16124674449474083216:=0
def tw14233101407836904860:=0
def tw6216082151258958714:=0
def tw14353754932123831939:=0
def tw14273427966535656968:=0
def tw4484860308138638958:=0
def tw3690393277102542648:=0
def tw1101291746064930165:=0
def tw8694300304211444055:=0
def tw4566332150464524541:=0
def tw1135593139720130624:=0
def tw835594242255960218:=0
def tw9812022253809504999:=0
def tw8551751402889395023:=0
def tw11036182585681842324:=0
def tw1406303160238192344:=0
def tw3854428318447612833:=0
def tw9634728396101561144:=0
def tw641128860171009373:=0
end PySem.W.Fast
namespace S08
open PySem L2 XL
theorem walk {l:PySem.W.OpenLaw} {q:Program} {loose:List Str} {XP:(Str→Option Value)→Heap→Prop} {YP:World→Heap→Prop} {d:DefRec} {K:Params→PySem.W.Frag} (hn:l.most=some 63) (hdf:d.params.defaults=[])
    (hY:∀ (w:World) (h:Heap),YP w h→(K w.params).In h)
    (F:∀ (w:World) (mg:Str→Option Value) (fa:Addr) (h:Heap),(K w.params).In h→h.Ns mainGlobals mg→mg d.name=some (.ref fa) →
      ∃ fd:FuncData,(∀ (s:Shared) (u:Value),BindsTo s fd ⟨[u],[]⟩ [("_law_script",u)])∧∀ base:Heap,(K w.params).In base→base.Ns mainGlobals mg→FnOk true l.prog w (K w.params) mg base (CXo l.prog w) 10 fa fd ["_law_script"] (xhm (K w.params))) :
    PySem.W.WalkO q loose XP YP l.row.toRowW d [] (fun f vs=>PySem.call f vs) :=
  L2.walk_of (q0:=true) (n:=63) (k:=10) (x:="_law_script") (CX:=fun w=>CXo l.prog w) (sp:=fun w=>xhm (K w.params)) hn (by decide) hdf ⟨fun _=>rfl,by decide,by decide⟩ hY F (fun _ _ a ns hl _ hS=>⟨a,ns,rfl,hS,hl,fun _=>rfl⟩)
    fun w H s e s' z=>by obtain ⟨_,_,_,_,_,_,_,_,_,_,_,_,_,_,q⟩:=z; exact q
theorem all_mk {l:PySem.W.OpenLaw} {w:World} {K:PySem.W.Frag} {h:Heap} {mg:Str→Option Value} {fa:Addr} (hfa:mg "law"=some (.ref fa)) (TT:∃ t,Txt w K mg t) :
    ∃ fd:FuncData,(∀ (s:Shared) (v:Value),BindsTo s fd ⟨[v],[]⟩ [("_law_script",v)])∧∀ base:Heap,K.In base→base.Ns mainGlobals mg→FnOk true l.prog w K mg base (CXo l.prog w) 10 fa fd ["_law_script"] (xhm K):=by
  obtain ⟨t,T⟩:=TT
  have e:=hfa.symm.trans T.g_law
  cases e
  refine ⟨t.d_law,fun s v=>?_,fun base _ _=>xoh T⟩
  obtain ⟨oc,od,kV,doc,pm,an,cdv,ct,osl,e,lk,hcd⟩:=T.F_law.ex
  rw [e]
  exact .of_eq rfl
end S08
open PySem PySem.W PyProof.Rows
set_option maxRecDepth 100000 in
set_option maxHeartbeats 0 in
theorem PySem.Challenge.cw_rimnotes_k08_whole_picture_holds : PySem.Challenge.rw_rimnotes_k08_whole_picture.Holds := by
 w_on; o_law; k_head; (case hw=>w_witness2)
 k_fill
 refine S08.walk (l:=PySem.Challenge.rw_rimnotes_k08_whole_picture) rfl rfl (fun w h Y=>PySem.W.kIn_of Y) ?F
 case F =>
  intro w mg fa h KX G hmg
  refine S08.all_mk (h:=h) hmg ?TT
  refine' S08.txt_mk (w:=w) KX G ?g_bb ?g_a6 ?g_bf ?g_bg ?g_be ?g_bd ?g_h ?g_s ?g_r ?g_c ?g_t ?g_bh ?g_bj ?g_o ?g_ab ?g_a7 ?g_as ?g_at ?g_au ?g_av ?g_ac ?g_a8 ?g_bl ?g_a9 ?g_ay ?g_e ?a_ad ?l_ad ?c_ad ?k_ad ?i_ad ?a_aj ?l_aj ?c_aj ?k_aj ?i_aj ?a_y ?l_y ?c_y ?k_y ?i_y ?a_ak ?l_ak ?c_ak ?k_ak ?i_ak ?a_al ?l_al ?c_al ?k_al ?i_al ?a_ao ?l_ao ?c_ao ?k_ao ?i_ao ?a_aq ?l_aq ?c_aq ?k_aq ?i_aq ?a_u ?l_u ?c_u ?k_u ?i_u ?a_n ?l_n ?c_n ?k_n ?i_n ?a_a5 ?l_a5 ?c_a5 ?k_a5 ?i_a5 ?a_am ?l_am ?c_am ?k_am ?i_am ?a_a3 ?l_a3 ?c_a3 ?k_a3 ?i_a3 ?a_ai ?l_ai ?c_ai ?k_ai ?i_ai ?a_p ?l_p ?c_p ?k_p ?i_p ?t_p ?a_ag ?l_ag ?c_ag ?k_ag ?i_ag ?a_ah ?l_ah ?c_ah ?k_ah ?i_ah ?a_g ?l_g ?c_g ?k_g ?i_g ?a_k ?l_k ?c_k ?k_k ?i_k ?a_i ?l_i ?c_i ?k_i ?i_i ?a_q ?l_q ?c_q ?k_q ?i_q ?a_l ?l_l ?c_l ?k_l ?i_l ?a_af ?l_af ?c_af ?k_af ?i_af ?a_x ?l_x ?c_x ?k_x ?i_x ?a_j ?l_j ?c_j ?k_j ?i_j ?a_aa ?l_aa ?c_aa ?k_aa ?i_aa ?a_m ?l_m ?c_m ?k_m ?i_m ?a_v ?l_v ?c_v ?k_v ?i_v ?a_b ?l_b ?c_b ?k_b ?i_b ?a_f ?l_f ?c_f ?k_f ?i_f ?a_a ?l_a ?c_a ?k_a ?i_a ?a_d ?l_d ?c_d ?k_d ?i_d ?a_w ?l_w ?c_w ?k_w ?i_w ?a_a4 ?l_a4 ?c_a4 ?k_a4 ?i_a4 ?a_ap ?l_ap ?c_ap ?k_ap ?i_ap ?a_aw ?l_aw ?c_aw ?k_aw ?i_aw ?a_z ?l_z ?c_z ?k_z ?i_z ?a_ar ?l_ar ?c_ar ?k_ar ?i_ar ?a_ax ?l_ax ?c_ax ?k_ax ?i_ax ?a_ba ?l_ba ?c_ba ?k_ba ?i_ba ?a_bc ?l_bc ?c_bc ?k_bc ?i_bc ?a_a0 ?l_a0 ?c_a0 ?k_a0 ?i_a0 ?a_az ?l_az ?c_az ?k_az ?i_az ?a_an ?l_an ?c_an ?k_an ?i_an ?a_ae ?l_ae ?c_ae ?k_ae ?i_ae ?a_a1 ?l_a1 ?c_a1 ?k_a1 ?i_a1 ?a_law ?l_law ?c_law ?k_law ?i_law ?kc_bb ?ov_bb ?hd_bb ?sa_bb ?ga_bb ?gh_bb ?ca_bb ?mk_bb ?kc_a6 ?ov_a6 ?hd_a6 ?sa_a6 ?ga_a6 ?gh_a6 ?ca_a6 ?mk_a6 ?kc_bf ?ov_bf ?hd_bf ?sa_bf ?ga_bf ?gh_bf ?ca_bf ?mk_bf ?kc_bg ?ov_bg ?hd_bg ?sa_bg ?ga_bg ?gh_bg ?ca_bg ?mk_bg ?kc_be ?ov_be ?hd_be ?sa_be ?ga_be ?gh_be ?ca_be ?mk_be ?kc_bd ?ov_bd ?hd_bd ?sa_bd ?ga_bd ?gh_bd ?ca_bd ?mk_bd ?kc_h ?ov_h ?hd_h ?sa_h ?ga_h ?gh_h ?ca_h ?mk_h ?kc_s ?ov_s ?hd_s ?sa_s ?ga_s ?gh_s ?ca_s ?mk_s ?kc_r ?ov_r ?hd_r ?sa_r ?ga_r ?gh_r ?ca_r ?mk_r ?kc_c ?ov_c ?hd_c ?sa_c ?ga_c ?gh_c ?ca_c ?mk_c ?kc_t ?ov_t ?hd_t ?sa_t ?ga_t ?gh_t ?ca_t ?mk_t ?kc_bh ?ov_bh ?hd_bh ?sa_bh ?ga_bh ?gh_bh ?ca_bh ?mk_bh ?kc_bj ?ov_bj ?hd_bj ?sa_bj ?ga_bj ?gh_bj ?ca_bj ?mk_bj ?kc_o ?ov_o ?hd_o ?sa_o ?ga_o ?gh_o ?ca_o ?mk_o ?kc_ab ?ov_ab ?hd_ab ?sa_ab ?ga_ab ?gh_ab ?ca_ab ?mk_ab ?kc_a7 ?ov_a7 ?hd_a7 ?sa_a7 ?ga_a7 ?gh_a7 ?ca_a7 ?mk_a7 ?kc_as ?ov_as ?hd_as ?sa_as ?ga_as ?gh_as ?ca_as ?mk_as ?kc_at ?ov_at ?hd_at ?sa_at ?ga_at ?gh_at ?ca_at ?mk_at ?kc_au ?ov_au ?hd_au ?sa_au ?ga_au ?gh_au ?ca_au ?mk_au ?kc_av ?ov_av ?hd_av ?sa_av ?ga_av ?gh_av ?ca_av ?mk_av ?kc_ac ?ov_ac ?hd_ac ?sa_ac ?ga_ac ?gh_ac ?ca_ac ?mk_ac ?kc_a8 ?ov_a8 ?hd_a8 ?sa_a8 ?ga_a8 ?gh_a8 ?ca_a8 ?mk_a8 ?kc_bl ?pg_bl ?hd_bl ?po_bl ?sa_bl ?mk_bl ?ca_bl ?mo_bl ?kc_a9 ?pg_a9 ?hd_a9 ?po_a9 ?sa_a9 ?mk_a9 ?ca_a9 ?mo_a9 ?a_LeftSide_init ?kc_ay ?pg_ay ?hd_ay ?po_ay ?sa_ay ?mk_ay ?ca_ay ?mo_ay ?a_RightSide_init ?kc_e ?pg_e ?hd_e ?po_e ?sa_e ?mk_e ?ca_e ?mo_e ?cg ?ct ?n_b1 ?n_bi ?n_bk ?n_bn ?n_bm ?n_ew ?n_eq ?n_dg ?n_er ?n_ex ?n_ek ?n_fl ?n_fm ?n_fb ?n_ey ?n_ez ?n_e0 ?n_fc ?n_es ?n_fp ?n_fq ?n_el ?n_eg ?n_b2 ?n_eh ?n_em ?n_d4 ?n_e1 ?n_e2 ?n_fd ?n_e3 ?n_d5 ?n_e4 ?n_fe ?n_et ?n_fr ?n_fs ?n_ff ?n_e5 ?n_d6 ?n_e6 ?n_fg ?n_eu ?n_ft ?n_fu ?n_ei ?n_d7 ?n_e7 ?n_e8 ?n_fh ?n_ev ?n_fv ?n_fw ?n_ep ?n_ej ?n_fi ?n_fj ?n_fn ?n_e9 ?n_fx ?n_fy ?n_fo ?n_dh ?n_fa ?n_abs ?n_bool ?n_int ?n_isinstance ?n_len ?n_min ?n_range ?n_sorted ?n_str ?kit_cq ?kit_cr ?kit_ca ?kit_b3 ?kit_b4 ?kit_cb ?kit_bp ?kit_cc ?kit_cd ?kit_cs ?kit_di ?kit_ce ?kit_ct ?kany_h ?kitv_h ?mro_h ?kit_dj ?kit_dk ?kit_cu ?kit_cf ?kit_cg ?kit_cv ?kit_bs ?kit_cw ?kit_cx ?kit_dl ?kit_d8 ?kit_cy ?kit_dm ?kany_r ?kitv_r ?mro_r ?ns_r ?ns_fk ?kit_b5 ?kit_b6 ?kit_bt ?kit_bq ?kit_br ?kit_bu ?kit_bo ?kit_bv ?kit_bw ?kit_b7 ?kit_ch ?kit_bx ?kit_b8 ?kany_c ?kitv_c ?mro_c ?kit_dn ?kit_do ?kit_cz ?kit_ci ?kit_cj ?kit_c0 ?kit_by ?kit_c1 ?kit_c2 ?kit_dp ?kit_d9 ?kit_c3 ?kit_dq ?kany_t ?kitv_t ?mro_t ?kit_dr ?kit_ds ?kit_c4 ?kit_ck ?kit_cl ?kit_c5 ?kit_bz ?kit_c6 ?kit_c7 ?kit_dt ?kit_ea ?kit_c8 ?kit_du ?kany_s ?kitv_s ?mro_s ?kit_dv ?kit_dw ?kit_c9 ?kit_cm ?kit_cn ?kit_da ?kit_b0 ?kit_db ?kit_dc ?kit_dx ?kit_eb ?kit_dd ?kit_dy ?kany_o ?kitv_o ?mro_o ?kit_ec ?kit_ed ?kit_dz ?kit_de ?kit_df ?kit_d0 ?kit_b9 ?kit_d1 ?kit_d2 ?kit_ee ?kit_en ?kit_d3 ?kit_ef ?kany_ab ?kitv_ab ?mro_ab ?v_eo ?v_cp ?v_co ?g_a2 ?l_a2 ?ns_a2
  (case g_bb=>k_is)
  (case g_a6=>k_is)
  (case g_bf=>k_is)
  (case g_bg=>k_is)
  (case g_be=>k_is)
  (case g_bd=>k_is)
  (case g_h=>k_is)
  (case g_s=>k_is)
  (case g_r=>k_is)
  (case g_c=>k_is)
  (case g_t=>k_is)
  (case g_bh=>k_is)
  (case g_bj=>k_is)
  (case g_o=>k_is)
  (case g_ab=>k_is)
  (case g_a7=>k_is)
  (case g_as=>k_is)
  (case g_at=>k_is)
  (case g_au=>k_is)
  (case g_av=>k_is)
  (case g_ac=>k_is)
  (case g_a8=>k_is)
  (case g_bl=>k_is)
  (case g_a9=>k_is)
  (case g_ay=>k_is)
  (case g_e=>k_is)
  (case a_ad=>k_is)
  (case l_ad=>k_is)
  (case c_ad=>k_is)
  (case k_ad=>k_is)
  (case i_ad=>k_is)
  (case a_aj=>k_is)
  (case l_aj=>k_is)
  (case c_aj=>k_is)
  (case k_aj=>k_is)
  (case i_aj=>k_is)
  (case a_y=>k_is)
  (case l_y=>k_is)
  (case c_y=>k_is)
  (case k_y=>k_is)
  (case i_y=>k_is)
  (case a_ak=>k_is)
  (case l_ak=>k_is)
  (case c_ak=>k_is)
  (case k_ak=>k_is)
  (case i_ak=>k_is)
  (case a_al=>k_is)
  (case l_al=>k_is)
  (case c_al=>k_is)
  (case k_al=>k_is)
  (case i_al=>k_is)
  (case a_ao=>k_is)
  (case l_ao=>k_is)
  (case c_ao=>k_is)
  (case k_ao=>k_is)
  (case i_ao=>k_is)
  (case a_aq=>k_is)
  (case l_aq=>k_is)
  (case c_aq=>k_is)
  (case k_aq=>k_is)
  (case i_aq=>k_is)
  (case a_u=>k_is)
  (case l_u=>k_is)
  (case c_u=>k_is)
  (case k_u=>k_is)
  (case i_u=>k_is)
  (case a_n=>k_is)
  (case l_n=>k_is)
  (case c_n=>k_is)
  (case k_n=>k_is)
  (case i_n=>k_is)
  (case a_a5=>k_is)
  (case l_a5=>k_is)
  (case c_a5=>k_is)
  (case k_a5=>k_is)
  (case i_a5=>k_is)
  (case a_am=>k_is)
  (case l_am=>k_is)
  (case c_am=>k_is)
  (case k_am=>k_is)
  (case i_am=>k_is)
  (case a_a3=>k_is)
  (case l_a3=>k_is)
  (case c_a3=>k_is)
  (case k_a3=>k_is)
  (case i_a3=>k_is)
  (case a_ai=>k_is)
  (case l_ai=>k_is)
  (case c_ai=>k_is)
  (case k_ai=>k_is)
  (case i_ai=>k_is)
  (case a_p=>k_is)
  (case l_p=>k_is)
  (case c_p=>k_is)
  (case k_p=>k_is)
  (case i_p=>k_is)
  (case t_p=>k_is)
  (case a_ag=>k_is)
  (case l_ag=>k_is)
  (case c_ag=>k_is)
  (case k_ag=>k_is)
  (case i_ag=>k_is)
  (case a_ah=>k_is)
  (case l_ah=>k_is)
  (case c_ah=>k_is)
  (case k_ah=>k_is)
  (case i_ah=>k_is)
  (case a_g=>k_is)
  (case l_g=>k_is)
  (case c_g=>k_is)
  (case k_g=>k_is)
  (case i_g=>k_is)
  (case a_k=>k_is)
  (case l_k=>k_is)
  (case c_k=>k_is)
  (case k_k=>k_is)
  (case i_k=>k_is)
  (case a_i=>k_is)
  (case l_i=>k_is)
  (case c_i=>k_is)
  (case k_i=>k_is)
  (case i_i=>k_is)
  (case a_q=>k_is)
  (case l_q=>k_is)
  (case c_q=>k_is)
  (case k_q=>k_is)
  (case i_q=>k_is)
  (case a_l=>k_is)
  (case l_l=>k_is)
  (case c_l=>k_is)
  (case k_l=>k_is)
  (case i_l=>k_is)
  (case a_af=>k_is)
  (case l_af=>k_is)
  (case c_af=>k_is)
  (case k_af=>k_is)
  (case i_af=>k_is)
  (case a_x=>k_is)
  (case l_x=>k_is)
  (case c_x=>k_is)
  (case k_x=>k_is)
  (case i_x=>k_is)
  (case a_j=>k_is)
  (case l_j=>k_is)
  (case c_j=>k_is)
  (case k_j=>k_is)
  (case i_j=>k_is)
  (case a_aa=>k_is)
  (case l_aa=>k_is)
  (case c_aa=>k_is)
  (case k_aa=>k_is)
  (case i_aa=>k_is)
  (case a_m=>k_is)
  (case l_m=>k_is)
  (case c_m=>k_is)
  (case k_m=>k_is)
  (case i_m=>k_is)
  (case a_v=>k_is)
  (case l_v=>k_is)
  (case c_v=>k_is)
  (case k_v=>k_is)
  (case i_v=>k_is)
  (case a_b=>k_is)
  (case l_b=>k_is)
  (case c_b=>k_is)
  (case k_b=>k_is)
  (case i_b=>k_is)
  (case a_f=>k_is)
  (case l_f=>k_is)
  (case c_f=>k_is)
  (case k_f=>k_is)
  (case i_f=>k_is)
  (case a_a=>k_is)
  (case l_a=>k_is)
  (case c_a=>k_is)
  (case k_a=>k_is)
  (case i_a=>k_is)
  (case a_d=>k_is)
  (case l_d=>k_is)
  (case c_d=>k_is)
  (case k_d=>k_is)
  (case i_d=>k_is)
  (case a_w=>k_is)
  (case l_w=>k_is)
  (case c_w=>k_is)
  (case k_w=>k_is)
  (case i_w=>k_is)
  (case a_a4=>k_is)
  (case l_a4=>k_is)
  (case c_a4=>k_is)
  (case k_a4=>k_is)
  (case i_a4=>k_is)
  (case a_ap=>k_is)
  (case l_ap=>k_is)
  (case c_ap=>k_is)
  (case k_ap=>k_is)
  (case i_ap=>k_is)
  (case a_aw=>k_is)
  (case l_aw=>k_is)
  (case c_aw=>k_is)
  (case k_aw=>k_is)
  (case i_aw=>k_is)
  (case a_z=>k_is)
  (case l_z=>k_is)
  (case c_z=>k_is)
  (case k_z=>k_is)
  (case i_z=>k_is)
  (case a_ar=>k_is)
  (case l_ar=>k_is)
  (case c_ar=>k_is)
  (case k_ar=>k_is)
  (case i_ar=>k_is)
  (case a_ax=>k_is)
  (case l_ax=>k_is)
  (case c_ax=>k_is)
  (case k_ax=>k_is)
  (case i_ax=>k_is)
  (case a_ba=>k_is)
  (case l_ba=>k_is)
  (case c_ba=>k_is)
  (case k_ba=>k_is)
  (case i_ba=>k_is)
  (case a_bc=>k_is)
  (case l_bc=>k_is)
  (case c_bc=>k_is)
  (case k_bc=>k_is)
  (case i_bc=>k_is)
  (case a_a0=>k_is)
  (case l_a0=>k_is)
  (case c_a0=>k_is)
  (case k_a0=>k_is)
  (case i_a0=>k_is)
  (case a_az=>k_is)
  (case l_az=>k_is)
  (case c_az=>k_is)
  (case k_az=>k_is)
  (case i_az=>k_is)
  (case a_an=>k_is)
  (case l_an=>k_is)
  (case c_an=>k_is)
  (case k_an=>k_is)
  (case i_an=>k_is)
  (case a_ae=>k_is)
  (case l_ae=>k_is)
  (case c_ae=>k_is)
  (case k_ae=>k_is)
  (case i_ae=>k_is)
  (case a_a1=>k_is)
  (case l_a1=>k_is)
  (case c_a1=>k_is)
  (case k_a1=>k_is)
  (case i_a1=>k_is)
  (case a_law=>k_is)
  (case l_law=>k_is)
  (case c_law=>k_is)
  (case k_law=>k_is)
  (case i_law=>k_is)
  (case kc_bb=>k_is)
  (case ov_bb=>kernel_rfl)
  (case hd_bb=>k_is)
  (case sa_bb=>k_is)
  (case ga_bb=>k_is)
  (case gh_bb=>k_is)
  (case ca_bb=>k_is)
  (case mk_bb=>first | k_is | kernel_rfl)
  (case kc_a6=>k_is)
  (case ov_a6=>kernel_rfl)
  (case hd_a6=>k_is)
  (case sa_a6=>k_is)
  (case ga_a6=>k_is)
  (case gh_a6=>k_is)
  (case ca_a6=>k_is)
  (case mk_a6=>first | k_is | kernel_rfl)
  (case kc_bf=>k_is)
  (case ov_bf=>kernel_rfl)
  (case hd_bf=>k_is)
  (case sa_bf=>k_is)
  (case ga_bf=>k_is)
  (case gh_bf=>k_is)
  (case ca_bf=>k_is)
  (case mk_bf=>first | k_is | kernel_rfl)
  (case kc_bg=>k_is)
  (case ov_bg=>kernel_rfl)
  (case hd_bg=>k_is)
  (case sa_bg=>k_is)
  (case ga_bg=>k_is)
  (case gh_bg=>k_is)
  (case ca_bg=>k_is)
  (case mk_bg=>first | k_is | kernel_rfl)
  (case kc_be=>k_is)
  (case ov_be=>kernel_rfl)
  (case hd_be=>k_is)
  (case sa_be=>k_is)
  (case ga_be=>k_is)
  (case gh_be=>k_is)
  (case ca_be=>k_is)
  (case mk_be=>first | k_is | kernel_rfl)
  (case kc_bd=>k_is)
  (case ov_bd=>kernel_rfl)
  (case hd_bd=>k_is)
  (case sa_bd=>k_is)
  (case ga_bd=>k_is)
  (case gh_bd=>k_is)
  (case ca_bd=>k_is)
  (case mk_bd=>first | k_is | kernel_rfl)
  (case kc_h=>k_is)
  (case ov_h=>kernel_rfl)
  (case hd_h=>k_is)
  (case sa_h=>k_is)
  (case ga_h=>k_is)
  (case gh_h=>k_is)
  (case ca_h=>k_is)
  (case mk_h=>first | k_is | kernel_rfl)
  (case kc_s=>k_is)
  (case ov_s=>kernel_rfl)
  (case hd_s=>k_is)
  (case sa_s=>k_is)
  (case ga_s=>k_is)
  (case gh_s=>k_is)
  (case ca_s=>k_is)
  (case mk_s=>first | k_is | kernel_rfl)
  (case kc_r=>k_is)
  (case ov_r=>kernel_rfl)
  (case hd_r=>k_is)
  (case sa_r=>k_is)
  (case ga_r=>k_is)
  (case gh_r=>k_is)
  (case ca_r=>k_is)
  (case mk_r=>first | k_is | kernel_rfl)
  (case kc_c=>k_is)
  (case ov_c=>kernel_rfl)
  (case hd_c=>k_is)
  (case sa_c=>k_is)
  (case ga_c=>k_is)
  (case gh_c=>k_is)
  (case ca_c=>k_is)
  (case mk_c=>first | k_is | kernel_rfl)
  (case kc_t=>k_is)
  (case ov_t=>kernel_rfl)
  (case hd_t=>k_is)
  (case sa_t=>k_is)
  (case ga_t=>k_is)
  (case gh_t=>k_is)
  (case ca_t=>k_is)
  (case mk_t=>first | k_is | kernel_rfl)
  (case kc_bh=>k_is)
  (case ov_bh=>kernel_rfl)
  (case hd_bh=>k_is)
  (case sa_bh=>k_is)
  (case ga_bh=>k_is)
  (case gh_bh=>k_is)
  (case ca_bh=>k_is)
  (case mk_bh=>first | k_is | kernel_rfl)
  (case kc_bj=>k_is)
  (case ov_bj=>kernel_rfl)
  (case hd_bj=>k_is)
  (case sa_bj=>k_is)
  (case ga_bj=>k_is)
  (case gh_bj=>k_is)
  (case ca_bj=>k_is)
  (case mk_bj=>first | k_is | kernel_rfl)
  (case kc_o=>k_is)
  (case ov_o=>kernel_rfl)
  (case hd_o=>k_is)
  (case sa_o=>k_is)
  (case ga_o=>k_is)
  (case gh_o=>k_is)
  (case ca_o=>k_is)
  (case mk_o=>first | k_is | kernel_rfl)
  (case kc_ab=>k_is)
  (case ov_ab=>kernel_rfl)
  (case hd_ab=>k_is)
  (case sa_ab=>k_is)
  (case ga_ab=>k_is)
  (case gh_ab=>k_is)
  (case ca_ab=>k_is)
  (case mk_ab=>first | k_is | kernel_rfl)
  (case kc_a7=>k_is)
  (case ov_a7=>kernel_rfl)
  (case hd_a7=>k_is)
  (case sa_a7=>k_is)
  (case ga_a7=>k_is)
  (case gh_a7=>k_is)
  (case ca_a7=>k_is)
  (case mk_a7=>first | k_is | kernel_rfl)
  (case kc_as=>k_is)
  (case ov_as=>kernel_rfl)
  (case hd_as=>k_is)
  (case sa_as=>k_is)
  (case ga_as=>k_is)
  (case gh_as=>k_is)
  (case ca_as=>k_is)
  (case mk_as=>first | k_is | kernel_rfl)
  (case kc_at=>k_is)
  (case ov_at=>kernel_rfl)
  (case hd_at=>k_is)
  (case sa_at=>k_is)
  (case ga_at=>k_is)
  (case gh_at=>k_is)
  (case ca_at=>k_is)
  (case mk_at=>first | k_is | kernel_rfl)
  (case kc_au=>k_is)
  (case ov_au=>kernel_rfl)
  (case hd_au=>k_is)
  (case sa_au=>k_is)
  (case ga_au=>k_is)
  (case gh_au=>k_is)
  (case ca_au=>k_is)
  (case mk_au=>first | k_is | kernel_rfl)
  (case kc_av=>k_is)
  (case ov_av=>kernel_rfl)
  (case hd_av=>k_is)
  (case sa_av=>k_is)
  (case ga_av=>k_is)
  (case gh_av=>k_is)
  (case ca_av=>k_is)
  (case mk_av=>first | k_is | kernel_rfl)
  (case kc_ac=>k_is)
  (case ov_ac=>kernel_rfl)
  (case hd_ac=>k_is)
  (case sa_ac=>k_is)
  (case ga_ac=>k_is)
  (case gh_ac=>k_is)
  (case ca_ac=>k_is)
  (case mk_ac=>first | k_is | kernel_rfl)
  (case kc_a8=>k_is)
  (case ov_a8=>kernel_rfl)
  (case hd_a8=>k_is)
  (case sa_a8=>k_is)
  (case ga_a8=>k_is)
  (case gh_a8=>k_is)
  (case ca_a8=>k_is)
  (case mk_a8=>first | k_is | kernel_rfl)
  (case kc_bl=>k_is)
  (case pg_bl=>k_is)
  (case hd_bl=>k_is)
  (case po_bl=>k_is)
  (case sa_bl=>k_is)
  (case mk_bl=>first | k_is | kernel_rfl)
  (case ca_bl=>k_is)
  (case mo_bl=>k_is)
  (case kc_a9=>k_is)
  (case pg_a9=>k_is)
  (case hd_a9=>k_is)
  (case po_a9=>k_is)
  (case sa_a9=>k_is)
  (case mk_a9=>first | k_is | kernel_rfl)
  (case ca_a9=>k_is)
  (case mo_a9=>k_is)
  (case a_LeftSide_init=>k_is)
  (case kc_ay=>k_is)
  (case pg_ay=>k_is)
  (case hd_ay=>k_is)
  (case po_ay=>k_is)
  (case sa_ay=>k_is)
  (case mk_ay=>first | k_is | kernel_rfl)
  (case ca_ay=>k_is)
  (case mo_ay=>k_is)
  (case a_RightSide_init=>k_is)
  (case kc_e=>k_is)
  (case pg_e=>k_is)
  (case hd_e=>k_is)
  (case po_e=>k_is)
  (case sa_e=>k_is)
  (case mk_e=>first | k_is | kernel_rfl)
  (case ca_e=>k_is)
  (case mo_e=>k_is)
  (case cg=>k_is)
  (case ct=>k_is)
  (case n_b1=>k_is)
  (case n_bi=>k_is)
  (case n_bk=>k_is)
  (case n_bn=>k_is)
  (case n_bm=>k_is)
  (case n_ew=>k_is)
  (case n_eq=>k_is)
  (case n_dg=>k_is)
  (case n_er=>k_is)
  (case n_ex=>k_is)
  (case n_ek=>k_is)
  (case n_fl=>k_is)
  (case n_fm=>k_is)
  (case n_fb=>k_is)
  (case n_ey=>k_is)
  (case n_ez=>k_is)
  (case n_e0=>k_is)
  (case n_fc=>k_is)
  (case n_es=>k_is)
  (case n_fp=>k_is)
  (case n_fq=>k_is)
  (case n_el=>k_is)
  (case n_eg=>k_is)
  (case n_b2=>k_is)
  (case n_eh=>k_is)
  (case n_em=>k_is)
  (case n_d4=>k_is)
  (case n_e1=>k_is)
  (case n_e2=>k_is)
  (case n_fd=>k_is)
  (case n_e3=>k_is)
  (case n_d5=>k_is)
  (case n_e4=>k_is)
  (case n_fe=>k_is)
  (case n_et=>k_is)
  (case n_fr=>k_is)
  (case n_fs=>k_is)
  (case n_ff=>k_is)
  (case n_e5=>k_is)
  (case n_d6=>k_is)
  (case n_e6=>k_is)
  (case n_fg=>k_is)
  (case n_eu=>k_is)
  (case n_ft=>k_is)
  (case n_fu=>k_is)
  (case n_ei=>k_is)
  (case n_d7=>k_is)
  (case n_e7=>k_is)
  (case n_e8=>k_is)
  (case n_fh=>k_is)
  (case n_ev=>k_is)
  (case n_fv=>k_is)
  (case n_fw=>k_is)
  (case n_ep=>k_is)
  (case n_ej=>k_is)
  (case n_fi=>k_is)
  (case n_fj=>k_is)
  (case n_fn=>k_is)
  (case n_e9=>k_is)
  (case n_fx=>k_is)
  (case n_fy=>k_is)
  (case n_fo=>k_is)
  (case n_dh=>k_is)
  (case n_fa=>k_is)
  (case n_abs=>k_is)
  (case n_bool=>k_is)
  (case n_int=>k_is)
  (case n_isinstance=>k_is)
  (case n_len=>k_is)
  (case n_min=>k_is)
  (case n_range=>k_is)
  (case n_sorted=>k_is)
  (case n_str=>k_is)
  (case kit_cq=>kernel_rfl)
  (case kit_cr=>kernel_rfl)
  (case kit_ca=>kernel_rfl)
  (case kit_b3=>kernel_rfl)
  (case kit_b4=>kernel_rfl)
  (case kit_cb=>kernel_rfl)
  (case kit_bp=>kernel_rfl)
  (case kit_cc=>kernel_rfl)
  (case kit_cd=>kernel_rfl)
  (case kit_cs=>kernel_rfl)
  (case kit_di=>kernel_rfl)
  (case kit_ce=>kernel_rfl)
  (case kit_ct=>kernel_rfl)
  (case kany_h=>kernel_rfl)
  (case kitv_h=>kernel_rfl)
  (case mro_h=>k_is)
  (case kit_dj=>kernel_rfl)
  (case kit_dk=>kernel_rfl)
  (case kit_cu=>kernel_rfl)
  (case kit_cf=>kernel_rfl)
  (case kit_cg=>kernel_rfl)
  (case kit_cv=>kernel_rfl)
  (case kit_bs=>kernel_rfl)
  (case kit_cw=>kernel_rfl)
  (case kit_cx=>kernel_rfl)
  (case kit_dl=>kernel_rfl)
  (case kit_d8=>kernel_rfl)
  (case kit_cy=>kernel_rfl)
  (case kit_dm=>kernel_rfl)
  (case kany_r=>kernel_rfl)
  (case kitv_r=>kernel_rfl)
  (case mro_r=>k_is)
  (case ns_r=>kernel_rfl)
  (case ns_fk=>kernel_rfl)
  (case kit_b5=>kernel_rfl)
  (case kit_b6=>kernel_rfl)
  (case kit_bt=>kernel_rfl)
  (case kit_bq=>kernel_rfl)
  (case kit_br=>kernel_rfl)
  (case kit_bu=>kernel_rfl)
  (case kit_bo=>kernel_rfl)
  (case kit_bv=>kernel_rfl)
  (case kit_bw=>kernel_rfl)
  (case kit_b7=>kernel_rfl)
  (case kit_ch=>kernel_rfl)
  (case kit_bx=>kernel_rfl)
  (case kit_b8=>kernel_rfl)
  (case kany_c=>kernel_rfl)
  (case kitv_c=>kernel_rfl)
  (case mro_c=>k_is)
  (case kit_dn=>kernel_rfl)
  (case kit_do=>kernel_rfl)
  (case kit_cz=>kernel_rfl)
  (case kit_ci=>kernel_rfl)
  (case kit_cj=>kernel_rfl)
  (case kit_c0=>kernel_rfl)
  (case kit_by=>kernel_rfl)
  (case kit_c1=>kernel_rfl)
  (case kit_c2=>kernel_rfl)
  (case kit_dp=>kernel_rfl)
  (case kit_d9=>kernel_rfl)
  (case kit_c3=>kernel_rfl)
  (case kit_dq=>kernel_rfl)
  (case kany_t=>kernel_rfl)
  (case kitv_t=>kernel_rfl)
  (case mro_t=>k_is)
  (case kit_dr=>kernel_rfl)
  (case kit_ds=>kernel_rfl)
  (case kit_c4=>kernel_rfl)
  (case kit_ck=>kernel_rfl)
  (case kit_cl=>kernel_rfl)
  (case kit_c5=>kernel_rfl)
  (case kit_bz=>kernel_rfl)
  (case kit_c6=>kernel_rfl)
  (case kit_c7=>kernel_rfl)
  (case kit_dt=>kernel_rfl)
  (case kit_ea=>kernel_rfl)
  (case kit_c8=>kernel_rfl)
  (case kit_du=>kernel_rfl)
  (case kany_s=>kernel_rfl)
  (case kitv_s=>kernel_rfl)
  (case mro_s=>k_is)
  (case kit_dv=>kernel_rfl)
  (case kit_dw=>kernel_rfl)
  (case kit_c9=>kernel_rfl)
  (case kit_cm=>kernel_rfl)
  (case kit_cn=>kernel_rfl)
  (case kit_da=>kernel_rfl)
  (case kit_b0=>kernel_rfl)
  (case kit_db=>kernel_rfl)
  (case kit_dc=>kernel_rfl)
  (case kit_dx=>kernel_rfl)
  (case kit_eb=>kernel_rfl)
  (case kit_dd=>kernel_rfl)
  (case kit_dy=>kernel_rfl)
  (case kany_o=>kernel_rfl)
  (case kitv_o=>kernel_rfl)
  (case mro_o=>k_is)
  (case kit_ec=>kernel_rfl)
  (case kit_ed=>kernel_rfl)
  (case kit_dz=>kernel_rfl)
  (case kit_de=>kernel_rfl)
  (case kit_df=>kernel_rfl)
  (case kit_d0=>kernel_rfl)
  (case kit_b9=>kernel_rfl)
  (case kit_d1=>kernel_rfl)
  (case kit_d2=>kernel_rfl)
  (case kit_ee=>kernel_rfl)
  (case kit_en=>kernel_rfl)
  (case kit_d3=>kernel_rfl)
  (case kit_ef=>kernel_rfl)
  (case kany_ab=>kernel_rfl)
  (case kitv_ab=>kernel_rfl)
  (case mro_ab=>k_is)
  (case v_eo=>k_is)
  (case v_cp=>k_is)
  (case v_co=>k_is)
  (case g_a2=>k_is)
  (case l_a2=>first | k_is | kernel_rfl)
  (case ns_a2=>kernel_rfl)
