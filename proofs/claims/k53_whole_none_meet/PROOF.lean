import PyProof.Rows.All
import Wide.All
import OpenK.AllK
import Wide.FinOn
import Lean
import PyProof.EqAt
import PyProof.EqKinds
import PyProof.TupleCall
import PyProof.StationsW
import PyProof.ExcClass2
import PyProof.RulesAs
import PyProof.ExcBaseAll.ValueError
import OpenK.KDescr
import OpenK.KWalk
import PyProof.ExcAttrAll.ValueError
import PyProof.Comp
import PyProof.ListRange
import PyProof.DictItems
import KE.KPairComp
import KE.KDictOf
import PyProof.AttrMissHeap
import PyProof.Rows.Range3
import KE.KRevIter
import PyProof.ZipIter
import OpenK.KEqL
import PyProof.AutoListH
import PyProof.EnumMake
import PyProof.WalksEnum
import PyProof.NeKinds
import PyProof.MaxThree
import KE.KSortTup
import PyProof.StrLawsIn
import PyProof.DictValues
import PyProof.DictIter
import PyProof.Draws
import PyProof.DictWalks
import PyProof.ListNew
import PyProof.ListStr
import PySem.Challenge.RW_rimnotes_k53_whole_none_meet
set_option Elab.async false
set_option linter.all false
set_option maxRecDepth 100000
set_option maxHeartbeats 4000000
set_option maxRecDepth 100000
namespace L2
open PySem PySem.Spec PyProof.Rows
variable {q0:Bool}
abbrev Key:=Sum Int Str
def xds:Key→Value→Bool
 | .inl k,v=>Value.isInt k v
 | .inr x,v=>Value.isStrOf x v
def keyH (w:World):Key→Int
 | .inl k=>hashInt k
 | .inr x=>hashStr w x
theorem xa0:∀ {k:Key} {v:Value},xds k v=true→(∃ i t,k=Sum.inl i∧v=Value.int i t)∨(∃ x t,k=Sum.inr x∧v=Value.str x t)
 | .inl i,v,h=>by
  obtain ⟨t,e⟩:=Value.isInt_shape (k:=i) (v:=v) h
  exact .inl ⟨i,t,rfl,e⟩
 | .inr x,v,h=>by
  obtain ⟨t,e⟩:=Value.isStrOf_shape (x:=x) (v:=v) h
  exact .inr ⟨x,t,rfl,e⟩
theorem xlg (i:Int) (t:Tok):xds (.inl i) (.int i t)=true:=by simp [xds,Value.isInt]
theorem xkm (x:Str) (t:Tok):xds (.inr x) (.str x t)=true:=by simp [xds,Value.isStrOf]
theorem xos (a b:Int):decide ((Sum.inl a:Key)=Sum.inl b)=(a == b):=by
 by_cases e:a=b
 ·subst e; simp
 ·have h:¬ (Sum.inl a:Key)=Sum.inl b:=fun q=>e (Sum.inl.inj q)
  rw [decide_eq_false h]
  exact (beq_eq_false_iff_ne.mpr e).symm
theorem xpa (a b:Str):decide ((Sum.inr a:Key)=Sum.inr b)=decide (a=b):=by
 by_cases e:a=b
 ·subst e; simp
 ·have h:¬ (Sum.inr a:Key)=Sum.inr b:=fun q=>e (Sum.inr.inj q)
  rw [decide_eq_false h,decide_eq_false e]
theorem xog (a:Int) (b:Str):decide ((Sum.inl a:Key)=Sum.inr b)=false:=decide_eq_false (fun q=>nomatch q)
theorem xo2 (a:Str) (b:Int):decide ((Sum.inr a:Key)=Sum.inl b)=false:=decide_eq_false (fun q=>nomatch q)
def xab (prog:Program) (w:World):PySem.KeyKind prog w Key where
 is:=xds
 hash:=keyH w
 inj:=fun v a b ha hb=>by
  rcases xa0 ha with ⟨i,t,rfl,rfl⟩ | ⟨x,t,rfl,rfl⟩
  ·rcases xa0 hb with ⟨j,u,rfl,e⟩ | ⟨y,u,rfl,e⟩
   ·injection e with e1 _; rw [e1]
   ·exact nomatch e
  ·rcases xa0 hb with ⟨j,u,rfl,e⟩ | ⟨y,u,rfl,e⟩
   ·exact nomatch e
   ·injection e with e1 _; rw [e1]
 byValue:=fun k v h=>by
  rcases xa0 h with ⟨i,t,rfl,rfl⟩ | ⟨x,t,rfl,rfl⟩ <;> rfl
 pyHash:=fun hv h=>by
  rcases xa0 hv with ⟨i,t,rfl,rfl⟩ | ⟨x,t,rfl,rfl⟩
  ·exact wpAny_pyHash_int h
  ·exact wpAny_pyHash_str h
 eqBool:=fun hu hv h=>by
  rcases xa0 hu with ⟨i,t,rfl,rfl⟩ | ⟨x,t,rfl,rfl⟩
  ·rcases xa0 hv with ⟨j,u,rfl,rfl⟩ | ⟨y,u,rfl,rfl⟩
   ·rw [xos] at h; exact wpAny_eqBool_int h
   ·rw [xog] at h; exact SeqAt.EqAt.int_str i t y u _ _ _ _ h
  ·rcases xa0 hv with ⟨j,u,rfl,rfl⟩ | ⟨y,u,rfl,rfl⟩
   ·rw [xo2] at h; exact SeqAt.EqAt.str_int x t j u _ _ _ _ h
   ·rw [xpa] at h; exact wpAny_eqBool_str h
 «strs»:=fun k x t v h=>by
  rcases xa0 h with ⟨i,u,rfl,e⟩ | ⟨y,u,rfl,e⟩
  ·exact nomatch e
  ·injection e with e1 _
   subst e1
   cases v <;> rfl
theorem xid (prog:Program) (w:World) (i:Int) (t:Tok):(xab prog w).is (.inl i) (.int i t)=true:=xlg i t
theorem xih (prog:Program) (w:World) (x:Str) (t:Tok):(xab prog w).is (.inr x) (.str x t)=true:=xkm x t
end L2
namespace L2
open PySem PySem.Spec PyProof.Rows
variable {q0:Bool}
inductive V where
 | non | bl (b:Bool) | int (i:Int) | str (x:Str) | byt (b:Array UInt8) | flt (b:UInt64) | ref (a:Addr) | ty (n:String)
 deriving DecidableEq
def RelV:V→Value→Prop
 | .non,u=>u=Value.none
 | .bl b,u=>u=Value.bool b
 | .int i,u=>∃ t,u=Value.int i t
 | .str x,u=>∃ t,u=Value.str x t
 | .byt b,u=>∃ t,u=Value.bytes b t
 | .flt b,u=>∃ t,u=Value.float b t
 | .ref a,u=>u=Value.ref a
 | .ty n,u=>u=Value.type n
abbrev Vals:List V→List Value→Prop:=Paired RelV
theorem Vals.length {xs:List V} {us:List Value} (r:Vals xs us):xs.length=us.length:=Paired.length r
theorem Vals.get:∀ {xs:List V} {us:List Value} {i:Nat} {x:V},Vals xs us→xs[i]?=some x→∃ u,us[i]?=some u∧RelV x u
 | _,_,_,_,.nil,e=>by simp at e
 | _,_,0,_,.cons r _,e=>by simp at e; subst e; exact ⟨_,rfl,r⟩
 | _,_,i + 1,x,.cons _ t,e=>by
  obtain ⟨u,h1,h2⟩:=Vals.get (i:=i) (x:=x) t (by simpa using e)
  exact ⟨u,by simpa using h1,h2⟩
theorem Vals.set {x:V} {u:Value} (r:RelV x u):∀ {xs:List V} {us:List Value} (i:Nat),Vals xs us→Vals (xs.set i x) (us.set i u)
 | _,_,_,.nil=>.nil
 | _,_,0,.cons _ t=>.cons r t
 | _,_,i + 1,.cons q t=>.cons q (Vals.set r i t)
theorem Vals.append:∀ {xs ys:List V} {us ws:List Value},Vals xs us→Vals ys ws→Vals (xs ++ ys) (us ++ ws)
 | _,_,_,_,.nil,s=>s
 | _,_,_,_,.cons r t,s=>.cons r (Vals.append t s)
theorem Vals.take:∀ {xs:List V} {us:List Value} (n:Nat),Vals xs us→Vals (xs.take n) (us.take n)
 | _,_,0,_=>.nil
 | _,_,_ + 1,.nil=>.nil
 | _,_,n + 1,.cons r t=>.cons r (Vals.take n t)
theorem Vals.drop:∀ {xs:List V} {us:List Value} (n:Nat),Vals xs us→Vals (xs.drop n) (us.drop n)
 | _,_,0,r=>r
 | _,_,_ + 1,.nil=>.nil
 | _,_,n + 1,.cons _ t=>Vals.drop n t
def RelO:Option V→Option Value→Prop
 | some v,some u=>RelV v u
 | none,none=>True
 | _,_=>False
def KV {κ:Type}:List (κ × V)→List (κ × Value)→Prop:=Paired fun (p:κ × V) (q:κ × Value)=>p.1=q.1∧RelV p.2 q.2
def kV:Key→V
 | .inl i=>.int i
 | .inr x=>.str x
inductive HO where
 /-- a list -/
 | lst (xs:List V)
 /-- a tuple (never changes) -/
 | tup (xs:List V)
 /-- a dict whose keys are ints and texts; one whose keys are tuples of ints and texts (the empty one is both) -/
 | dK (kvs:List (Key × V)) | dT (kvs:List (List Key × V))
 /-- a set of ints: its members,its size -/
 | set (S:Int→Bool) (n:Nat)
 /-- an instance of the class at C,its dict at dx,its attributes -/
 | ins (C dx:Addr) (fs:List (Str × V))
 /-- the dict of the instance at x -/
 | own (x:Addr)
 /-- the dict of an exception -/
 | xd (fs:List (Str × V))
 /-- a bound method,f of x -/
 | met (f x:Addr)
 /-- a range object lo,lo + 1,.. below hi -/
 | rng (lo hi:Int)
 /-- a thing that is known to the object (the script; a dict while a loop walks it): read,never written while it is so -/
 | frz (o:Obj) (u:HO)
 /-- a code object's table -/
 | tbl (ps:Array Value)
 /-- any other thing,by what is true of its one object (a def of one's own: SetO a S n:=HO.ext fun h=>..) -/
 | ext (φ:Heap→Prop)
abbrev Hp:=Addr→Option HO
def upd (H:Hp) (a:Addr) (o:HO):Hp:=fun b=>if b=a then some o else H b
theorem xb {H:Hp} {a:Addr} {o:HO}:upd H a o a=some o:=by unfold upd; rw [if_pos rfl]
theorem xg {H:Hp} {a b:Addr} {o:HO} (h:b≠a):upd H a o b=H b:=by unfold upd; rw [if_neg h]
theorem xcu {H:Hp} {a:Addr} {o u:HO}:upd (upd H a o) a u=upd H a u:=by
 funext b; unfold upd; split <;> rfl
theorem x3 {H:Hp} {a b:Addr} {o u:HO} (h:H a=some o) (h':H b=some u) (d:o≠u):a≠b:=by
 intro e; subst e; rw [h] at h'; exact d (Option.some.inj h')
theorem xk {H:Hp} {a b:Addr} {o:HO} (h:H a=some o) (h':H b=none):a≠b:=by
 intro e; subst e; rw [h] at h'; cases h'
section
variable (P:Program) (w:World)
def xak (H:Hp) (h:Heap) (a:Addr):HO→Prop
  | .lst xs=>xs.length≤sizeLine∧∃ (its:List Value) (n:Nat),Vals xs its∧h.get? a=some { cls:=.type "list",data:=.seq its.toArray n }
  | .tup xs=>xs.length≤sizeLine∧∃ its:List Value,Vals xs its∧IsTup h a its.toArray
  | .dK kvs=>kvs.length≤sizeLine∧(a == sysModules)=false∧∃ vs,KV kvs vs∧h.DictOf (xab P w) a vs
  | .dT kvs=>kvs.length≤sizeLine∧(a == sysModules)=false∧∃ xs:List (List Key × Addr × Value),
      Paired (fun (p:List Key × V) (q:List Key × Addr × Value)=>p.1=q.1∧H q.2.1=some (.tup (p.1.map kV))∧RelV p.2 q.2.2) kvs xs ∧
      ∃ o es ep,h.get? a=some o∧o.ExactDict∧o.data=.dict es ep∧es.toList=xs.map (entryOfKey (tupleKind (xab P w)))∧(xs.map (·.1)).Nodup
  | .set S n=>h.SetOf (intKind P w) a S n
  | .ins C dx fs=>H dx=some (.own a)∧fs.length≤1000∧dx≠a∧h.get? a=some (PySem.W.instObj C dx) ∧
      ∃ mA,h.Ns1 dx mA∧(∀ f,RelO (fs.lookup f) (mA f))∧PySem.Within mA (fs.map (·.1))
  | .own _=>∃ o,h.get? a=some o
  | .xd fs=>∃ mA,h.Ns1 a mA∧∀ f,RelO (fs.lookup f) (mA f)
  | .rng lo hi=>∃ t u v,h.get? a=some { cls:=.type "range",data:=.fields #[.int lo t,.int hi u,.int 1 v] }
  | .frz o u=>h.get? a=some o∧xak H h a u
  | .tbl ps=>h.get? a=some { cls:=.none,data:=.fields ps }
  | .met f x=>h.get? a=some (PySem.W.methodObj (.ref f) (.ref x))
  | .ext φ=>φ h∧(∃ o,h.get? a=some o)∧∀ h1 h2:Heap,φ h1→(∀ o,h1.get? a=some o→h2.get? a=some o)→φ h2
def HOk (H:Hp) (h:Heap):Prop:=∀ a o,H a=some o→xak P w H h a o
end
section
variable {P:Program} {w:World} {H H':Hp} {h h':Heap} {a:Addr} {o:HO}
theorem xak.lt (x:xak P w H h a o):a < h.objs.size:=by
 cases o with
 | lst xs=>obtain ⟨_,_,_,_,e⟩:=x; exact Heap.lt_size e
 | tup xs=>obtain ⟨_,_,_,p⟩:=x; exact p.lt
 | dK kvs=>obtain ⟨_,_,_,_,o,_,_,e,_⟩:=x; exact Heap.lt_size e
 | dT kvs=>obtain ⟨_,_,_,_,o,_,_,e,_⟩:=x; exact Heap.lt_size e
 | set S n=>obtain ⟨o,_,_,_,e,_⟩:=x; exact Heap.lt_size e
 | ins C dx fs=>obtain ⟨_,_,_,e,_⟩:=x; exact Heap.lt_size e
 | own y=>obtain ⟨_,e⟩:=x; exact Heap.lt_size e
 | xd fs=>obtain ⟨_,⟨_,_,_,e,_⟩,_⟩:=x; exact Heap.lt_size e
 | rng lo hi=>obtain ⟨_,_,_,e⟩:=x; exact Heap.lt_size e
 | frz ob u=>obtain ⟨e,_⟩:=x; exact Heap.lt_size e
 | tbl ps=>exact Heap.lt_size (show h.get? a=some _ from x)
 | met f y=>exact Heap.lt_size (show h.get? a=some _ from x)
 | ext φ=>obtain ⟨_,⟨_,e⟩,_⟩:=x; exact Heap.lt_size e
theorem Paired.mapP {α β:Type} {F G:α→β→Prop}:∀ {l₁:List α} {l₂:List β},Paired F l₁ l₂→(∀ a b,F a b→G a b)→Paired G l₁ l₂
 | _,_,.nil,_=>.nil
 | _,_,.cons r t,f=>.cons (f _ _ r) (Paired.mapP t f)
theorem xak.stay (x:xak P w H h a o) (k:∀ b u,(b=a∨H b=some (.own a))→h.get? b=some u→h'.get? b=some u)
    (ho:∀ b,H b=some (.own a)→H' b=some (.own a)) (ht:∀ b xs,H b=some (.tup xs)→H' b=some (.tup xs)):xak P w H' h' a o:=by
  induction o with
  | lst xs=>obtain ⟨z,its,n,r,e⟩:=x; exact ⟨z,its,n,r,k _ _ (.inl rfl) e⟩
  | tup xs=>obtain ⟨z,its,r,ob,e,c⟩:=x; exact ⟨z,its,r,ob,k _ _ (.inl rfl) e,c⟩
  | dK kvs=>obtain ⟨z,y,vs,r,ob,es,ep,e,c⟩:=x; exact ⟨z,y,vs,r,ob,es,ep,k _ _ (.inl rfl) e,c⟩
  | dT kvs =>
    obtain ⟨z,y,xs,r,ob,es,ep,e,c⟩:=x
    exact ⟨z,y,xs,Paired.mapP r fun p q z=>⟨z.1,ht _ _ z.2.1,z.2.2⟩,ob,es,ep,k _ _ (.inl rfl) e,c⟩
  | set S n=>obtain ⟨ob,es,ep,t,e,c⟩:=x; exact ⟨ob,es,ep,t,k _ _ (.inl rfl) e,c⟩
  | ins C dx fs =>
    obtain ⟨d,z,ne,e,mA,⟨od,es,ep,e2,c⟩,r⟩:=x
    exact ⟨ho _ d,z,ne,k _ _ (.inl rfl) e,mA,⟨od,es,ep,k _ _ (.inr d) e2,c⟩,r⟩
  | own y=>obtain ⟨ob,e⟩:=x; exact ⟨ob,k _ _ (.inl rfl) e⟩
  | xd fs=>obtain ⟨mA,⟨od,es,ep,e,c⟩,r⟩:=x; exact ⟨mA,⟨od,es,ep,k _ _ (.inl rfl) e,c⟩,r⟩
  | rng lo hi=>obtain ⟨t,u,v,e⟩:=x; exact ⟨t,u,v,k _ _ (.inl rfl) e⟩
  | frz ob u ih=>obtain ⟨e,q⟩:=x; exact ⟨k _ _ (.inl rfl) e,ih q⟩
  | tbl ps =>
    have e:h.get? a=some { cls:=.none,data:=.fields ps }:=x
    show h'.get? a=some { cls:=.none,data:=.fields ps }
    exact k a _ (.inl rfl) e
  | met f y =>
    have e:h.get? a=some (PySem.W.methodObj (.ref f) (.ref y)):=x
    show h'.get? a=some (PySem.W.methodObj (.ref f) (.ref y))
    exact k a _ (.inl rfl) e
  | ext φ=>obtain ⟨p,⟨o,e⟩,st⟩:=x; exact ⟨st _ _ p fun o q=>k _ _ (.inl rfl) q,⟨o,k _ _ (.inl rfl) e⟩,st⟩
theorem HOk.lt (x:HOk P w H h) (e:H a=some o):a < h.objs.size:=(x a o e).lt
theorem HOk.fresh (x:HOk P w H h) (e:h.objs.size≤a):H a=none:=by
 cases q:H a with
 | none=>rfl
 | some u=>exact absurd (Nat.lt_of_lt_of_le (x.lt q) e) (Nat.lt_irrefl _)
theorem HOk.kept (x:HOk P w H h) (k:∀ b u,h.get? b=some u→h'.get? b=some u):HOk P w H h':=fun a o e =>
 (x a o e).stay (fun b u _ q=>k b u q) (fun _ q=>q) fun _ _ q=>q
theorem HOk.laid (x:HOk P w H h) (k:∀ b u,h.get? b=some u→h'.get? b=some u) (hp:h.objs.size≤a) (new:xak P w (upd H a o) h' a o):HOk P w (upd H a o) h':=fun b u e=>by
 have hn:=x.fresh hp
 by_cases hb:b=a
 ·subst hb; rw [xb] at e; cases e; exact new
 ·rw [xg hb] at e
  exact (x b u e).stay (fun c v _ q=>k c v q) (fun c q=>by rw [xg (xk q hn)]; exact q) fun c xs q=>by rw [xg (xk q hn)]; exact q
end
def Rd (H:Hp) (a:Addr) (u:HO):Prop:=H a=some u∨∃ o,H a=some (.frz o u)
theorem Rd.ok {P:Program} {w:World} {H:Hp} {h:Heap} {a:Addr} {u:HO} (r:Rd H a u) (x:HOk P w H h):xak P w H h a u:=by
 rcases r with r | ⟨o,r⟩
 ·exact x a u r
 ·obtain ⟨_,q⟩:=x a _ r
  exact q
def Mut:Option HO→Prop
 | some (.lst _)=>True
 | some (.dK _)=>True
 | some (.dT _)=>True
 | some (.set _ _)=>True
 | some (.ins _ _ _)=>True
 | some (.ext _)=>True
 | _=>False
section
variable {P:Program} {w:World} {H:Hp} {h h':Heap} {x e:Addr} {o':HO}
theorem HOk.write (ok:HOk P w H h) (mu:Mut (H x)) (he:e=x∨H e=some (.own x)) (k:∀ b u,b≠e→h.get? b=some u→h'.get? b=some u) (heo:∃ u,h'.get? e=some u)
    (new:xak P w (upd H x o') h' x o'):HOk P w (upd H x o') h':=fun b u q=>by
  have nown:∀ c y,H c=some (.own y)→c≠x:=fun c y r z=>by subst z; rw [r] at mu; exact mu
  have ntup:∀ c xs,H c=some (.tup xs)→c≠x:=fun c xs r z=>by subst z; rw [r] at mu; exact mu
  by_cases hb:b=x
  · subst hb; rw [xb] at q; cases q; exact new
  · rw [xg hb] at q
    by_cases hbe:b=e
    · have q':H b=some (.own x):=by
        rcases he with z | z
        · exact absurd (hbe.trans z) hb
        · rw [hbe]; exact z
      rw [q] at q'; cases q'
      obtain ⟨v,hv⟩:=heo
      exact ⟨v,by rw [hbe]; exact hv⟩
    · refine (ok b u q).stay (fun c v hc r=>k c v ?_ r) (fun c r=>by rw [xg (nown c b r)]; exact r) fun c xs r=>by rw [xg (ntup c xs r)]; exact r
      rcases hc with rfl | hc
      · exact hbe
      · rintro rfl
        rcases he with z | z
        · exact nown c b hc z
        · rw [hc] at z; cases z; exact hb rfl
end
structure Un (fs ex:List Addr) (H H':Hp) (h h':Heap):Prop where
 keep:∀ b o,h.get? b=some o→H b=none→b ∉ fs→b ∉ ex→h'.get? b=some o
 slot:∀ b o,h.get? b=some o→H b=none→b ∈ fs→b ∉ ex→∃ sl,h'.get? b=some { o with slots:=sl }
 free:∀ b o,h.get? b=some o→H b=none→b ∉ ex→H' b=none
 there:∀ b o,h.get? b=some o→b ∉ ex→∃ o',h'.get? b=some o'
 tups:∀ b xs,H b=some (.tup xs)→H' b=some (.tup xs)
 frzs:∀ b o u,H b=some (.frz o u)→H' b=some (.frz o u)
 tbls:∀ b ps,H b=some (.tbl ps)→∃ more,H' b=some (.tbl (ps ++ more))
section
variable {fs fs' ex ex':List Addr} {H H1 H2:Hp} {h h1 h2 h':Heap} {a x e:Addr} {o:HO}
theorem Un.any (u:Un fs ex H H1 h h1) {b:Addr} {ob:Obj} (q:h.get? b=some ob) (n:H b=none) (hx:b ∉ ex):∃ sl,h1.get? b=some { ob with slots:=sl }:=by
 by_cases hb:b ∈ fs
 ·exact u.slot b ob q n hb hx
 ·exact ⟨ob.slots,u.keep b ob q n hb hx⟩
theorem Un.kept (k:∀ b u,h.get? b=some u→h'.get? b=some u):Un fs ex H H h h' :=
 ⟨fun b ob q _ _ _=>k b ob q,fun b ob q _ _ _=>⟨ob.slots,k b ob q⟩,fun _ _ _ n _=>n,fun b ob q _=>⟨ob,k b ob q⟩,fun _ _ q=>q,fun _ _ _ q=>q,fun _ ps q=>⟨#[],by rw [q]; simp⟩⟩
theorem Un.refl:Un fs ex H H h h:=Un.kept fun _ _ q=>q
theorem Un.laid (k:∀ b u,h.get? b=some u→h'.get? b=some u) (hp:h.objs.size≤a) (hn:H a=none):Un fs ex H (upd H a o) h h' where
 keep:=fun b u q _ _ _=>k b u q
 slot:=fun b u q _ _ _=>⟨u.slots,k b u q⟩
 free:=fun b u q n _=>by rw [xg (Nat.ne_of_lt (Nat.lt_of_lt_of_le (Heap.lt_size q) hp))]; exact n
 there:=fun b u q _=>⟨u,k b u q⟩
 tups:=fun b xs q=>by rw [xg (xk q hn)]; exact q
 frzs:=fun b u xs q=>by rw [xg (xk q hn)]; exact q
 tbls:=fun b ps q=>⟨#[],by rw [xg (xk q hn),q]; simp⟩
theorem Un.write (mu:Mut (H x)) (he:e=x∨H e=some (.own x)) (k:∀ b u,b≠e→h.get? b=some u→h'.get? b=some u) (heo:∃ u,h'.get? e=some u):Un fs ex H (upd H x o) h h':=by
 have hx:∀ b,H b=none→b≠x:=fun b n z=>by subst z; rw [n] at mu; exact mu
 have hb:∀ b,H b=none→b≠e:=fun b n z=>by
  subst z
  rcases he with r | r
  ·exact hx b n r
  ·rw [n] at r; cases r
 have hm:∀ b u,H b=some u→¬ Mut (some u)→b≠x:=fun b u q nm z=>by subst z; rw [q] at mu; exact nm mu
 refine ⟨fun b u q n _ _=>k b u (hb b n) q,fun b u q n _ _=>⟨u.slots,k b u (hb b n) q⟩,fun b u q n _=>by rw [xg (hx b n)]; exact n,fun b u q _=>?_,
  fun b xs q=>by rw [xg (hm b _ q fun z=>z)]; exact q,fun b u xs q=>by rw [xg (hm b _ q fun z=>z)]; exact q,fun b ps q=>⟨#[],by rw [xg (hm b _ q fun z=>z),q]; simp⟩⟩
 by_cases hbe:b=e
 ·subst hbe; exact heo
 ·exact ⟨u,k b u hbe q⟩
end
def trk (h:Heap) (H:Hp):List Addr:=(List.range h.objs.size).filter fun a=>(H a).isSome
def hidT (h:Heap) (H:Hp):Heap:=PySem.W.hideAll h (trk h H)
theorem xkq (h:Heap) (H:Hp):(hidT h H).objs.size=h.objs.size:=PySem.W.hideAll_size _ _
theorem xmh {h:Heap} {H:Hp} {b:Addr} {o:Obj} (e:h.get? b=some o) (n:H b=none):(hidT h H).get? b=some o :=
 PySem.W.hideAll_get _ e fun hm=>by
  have q:(H b).isSome=true:=(List.mem_filter.mp hm).2
  rw [n] at q; simp at q
theorem xnc {h:Heap} {H:Hp} {b:Addr} {o:Obj} (e:(hidT h H).get? b=some o):h.get? b=some o∧H b=none:=by
 have e':h.get? b=some o:=PySem.W.of_hideAll (trk h H) e
 refine ⟨e',?_⟩
 cases q:H b with
 | none=>rfl
 | some x =>
  have hm:b ∈ trk h H:=List.mem_filter.mpr ⟨List.mem_range.mpr (Heap.lt_size e'),by simp [q]⟩
  have z:(hidT h H).get? b=none:=PySem.W.hideAll_none (trk h H) hm
  rw [z] at e; cases e
def xnb (g h:Heap) (L:Addr):List (Addr × Obj):=(List.range h.objs.size).filterMap fun a=>if a=L∨(g.get? a).isSome=true then none else (h.get? a).map fun o=>(a,o)
def rest (g h:Heap) (L d:Addr):List (Addr × Obj):=(xnb g h L).filter fun p=>decide (p.1≠d)
end L2
namespace L2
open PySem PySem.Spec PyProof.Rows
variable {q0:Bool}
structure Mod (K:PySem.W.Frag) (mg:Str→Option Value) (base:Heap):Prop where
 kin:K.In base
 glob:base.Ns mainGlobals mg
 blt:∃ mb,base.Ns builtinsNs mb∧∀ x:Str,x≠"__name__"→mb x=bootBuiltins x
 nolimit:base.NoLimit
structure Cx where
 prog:Program
 w:World
 K:PySem.W.Frag
 mg:Str→Option Value
 base:Heap
 A:Around
 N:List Str
 s₀:Shared
 H₀:Hp
 env:Env
 outer:List Env
 stack:List Env
 ex:List Addr
 fn:Str→Bool
 calm:Bool
 pn:List (Addr × Obj)
 xe:Value→Shared→Prop
def frs (l:List Env):List Addr:=l.filterMap (·.frame)
abbrev Cx.fs (X:Cx):List Addr:=frs X.outer
def Vis (sc:Scope) (x:Str):Prop:=sc.names.lookup x=some .local∨sc.names.lookup x=some .cell∨sc.names.lookup x=some .free
def Loc (sc:Scope) (x:Str):Prop:=sc.names.lookup x=some .local∨sc.names.lookup x=some .cell
def Look (env:Env) (h:Heap) (m:Str→Option Value) (x:Str) (u:Value):Prop :=
 (env.kindOf x=some .local∧m x=some u)∨((env.kindOf x=some .cell∨env.kindOf x=some .free)∧∃ c,env.cells.lookup x=some c∧h.IsCell c (some u))
structure Cx.Ok (X:Cx):Prop where
 mod:Mod X.K X.mg X.base
 kind:X.env.scope.kind=.function
 glob:X.env.globals=mainGlobals
 blt:X.env.builtins=builtinsNs
 above:X.s₀.heap.objs.size≤X.env.locals
 inj:∀ x y c,X.env.cells.lookup x=some c→X.env.cells.lookup y=some c→x=y
 has:∀ x,(X.env.kindOf x=some .cell∨X.env.kindOf x=some .free)→∃ c,X.env.cells.lookup x=some c
 cab:∀ x c,X.fn x=true→X.env.cells.lookup x=some c→X.s₀.heap.objs.size≤c
 hd:X.calm=true→X.A.handled=none
 frames:X.A.frames=some X.stack
 stk:X.stack=X.outer∨(X.stack=X.env :: X.outer∧X.env.frame=some X.env.locals)
 exf:∀ b ∈ X.ex,b≠X.env.locals∧∀ x c,X.env.cells.lookup x=some c→c≠b
 bs:∀ b o,X.base.get? b=some o→X.s₀.heap.get? b=some o∧X.H₀ b=none
 bsz:X.base.objs.size≤X.s₀.heap.objs.size
 noex:∀ b o,X.base.get? b=some o→b ∉ X.ex
 exfs:∀ b ∈ X.ex,b ∉ X.fs
 funs:X.s₀.heap.FunFrames X.base X.outer
 frf:∀ b ∈ X.fs,X.H₀ b=none
structure Inv (X:Cx) (pins:List (Addr × Obj)) (σ:List (Option V)) (H:Hp) (s:Shared):Prop where
 ok:X.Ok
 os:s.os=X.s₀.os
 bare:AllBare s.gens
 base:Un X.fs X.ex X.H₀ H X.s₀.heap s.heap
 loc:∃ m,s.heap.Ns X.env.locals m∧∀ (i:Nat) (x:Str) (v:V),X.N[i]?=some x→σ[i]?=some (some v)→Vis X.env.scope x→∃ u,RelV v u∧Look X.env s.heap m x u
 cell:∀ x c,X.env.cells.lookup x=some c→∃ v,s.heap.IsCell c v
 free:H X.env.locals=none
 freeC:∀ x c,X.env.cells.lookup x=some c→H c=none
 pin:∀ p ∈ X.pn ++ pins,s.heap.get? p.1=some p.2∧H p.1=none∧p.1≠X.env.locals∧p.1 ∉ X.fs∧∀ v,p.2.data≠.cell v
 hok:HOk X.prog X.w H s.heap
 len:σ.length=X.N.length
section
variable {X:Cx} {pins:List (Addr × Obj)} {σ:List (Option V)} {H H':Hp} {s:Shared} {h':Heap}
theorem Cx.Ok.nofr (ok:X.Ok) {b:Addr} {o:Obj} (e:X.base.get? b=some o):b ∉ X.fs:=fun hb=>by
 have:=(ok.funs.mem hb).1
 rw [e] at this; cases this
theorem Inv.bs (I:Inv X pins σ H s):∀ b o,X.base.get? b=some o→s.heap.get? b=some o∧H b=none:=fun b o e =>
 ⟨I.base.keep b o (I.ok.bs b o e).1 (I.ok.bs b o e).2 (I.ok.nofr e) (I.ok.noex b o e),I.base.free b o (I.ok.bs b o e).1 (I.ok.bs b o e).2 (I.ok.noex b o e)⟩
theorem Inv.bk (I:Inv X pins σ H s):∀ b o,X.base.get? b=some o→s.heap.get? b=some o:=fun b o e=>(I.bs b o e).1
theorem Inv.mod (I:Inv X pins σ H s):Mod X.K X.mg X.base:=I.ok.mod
theorem Inv.kIn (I:Inv X pins σ H s):X.K.In s.heap:=I.ok.mod.kin.keeps I.bk
theorem Inv.fr (I:Inv X pins σ H s):∃ m,Fr X.base X.env.locals s.heap m :=
 let ⟨m,hn,_⟩:=I.loc
 ⟨m,hn,I.bk,Nat.le_trans I.ok.bsz I.ok.above⟩
theorem Inv.lt (I:Inv X pins σ H s):X.env.locals < s.heap.objs.size:=let ⟨_,hn,_⟩:=I.loc; hn.lt
theorem Inv.sz (I:Inv X pins σ H s):X.s₀.heap.objs.size≤s.heap.objs.size:=Nat.le_trans I.ok.above (Nat.le_of_lt I.lt)
theorem Inv.nofs (I:Inv X pins σ H s) {a:Addr} (h:s.heap.objs.size≤a):a ∉ X.fs:=fun hb=>by
 obtain ⟨_,o,ho,_⟩:=I.ok.funs.mem hb
 exact absurd (Nat.lt_of_lt_of_le (Heap.lt_size ho) (Nat.le_trans I.sz h)) (Nat.lt_irrefl _)
theorem Inv.cne (I:Inv X pins σ H s):∀ x c,X.env.cells.lookup x=some c→c≠X.env.locals:=fun x c e z=>by
 obtain ⟨v,o,ho,hd⟩:=I.cell x c e
 obtain ⟨m,⟨o',es,ep,ho',hd',_⟩,_⟩:=I.loc
 rw [z,ho'] at ho; cases ho; rw [hd'] at hd; cases hd
theorem Inv.funs (I:Inv X pins σ H s):s.heap.FunFrames X.base X.outer:=by
 have all:∀ (l:List Env),(∀ b ∈ frs l,b ∈ X.fs)→X.s₀.heap.FunFrames X.base l→s.heap.FunFrames X.base l:=by
  intro l
  induction l with
  | nil=>intro _ _; trivial
  | cons env r ih =>
   intro hs hl
   obtain ⟨hk,⟨L,o,hf,hn,ho,hd⟩,hr⟩:=hl
   have hL:L ∈ X.fs:=hs L (by unfold frs; rw [List.filterMap_cons,hf]; exact List.mem_cons_self)
   obtain ⟨sl,e⟩:=I.base.slot L o ho (I.ok.frf L hL) hL fun z=>I.ok.exfs L z hL
   exact ⟨hk,⟨L,_,hf,hn,e,hd⟩,ih (fun b hb=>hs b (by unfold frs; rw [List.filterMap_cons,hf]; exact List.mem_cons_of_mem _ hb)) hr⟩
 exact all X.outer (fun _ hb=>hb) I.ok.funs
theorem Inv.stack (I:Inv X pins σ H s):s.heap.FunFrames X.base X.stack:=by
 rcases I.ok.stk with e | ⟨e,hf⟩
 ·rw [e]; exact I.funs
 ·rw [e]
  obtain ⟨m,hn,_⟩:=I.loc
  refine .cons (by rw [I.ok.kind]; decide) hf hn ?_ I.funs
  exact Heap.get?_none_of_le (Nat.le_trans I.ok.bsz I.ok.above)
theorem Inv.stkSub (I:Inv X pins σ H s):∀ b ∈ frs X.stack,b ∈ X.env.locals :: X.fs:=fun b hb=>by
 rcases I.ok.stk with e | ⟨e,hf⟩
 ·rw [e] at hb; exact List.mem_cons_of_mem _ hb
 ·rw [e] at hb
  unfold frs at hb
  rw [List.filterMap_cons,hf] at hb
  exact hb
theorem Inv.stkFree (I:Inv X pins σ H s):∀ b ∈ frs X.stack,H b=none:=fun b hb=>by
 rcases List.mem_cons.mp (I.stkSub b hb) with e | hb
 ·rw [e]; exact I.free
 ·obtain ⟨_,o,ho,_⟩:=I.ok.funs.mem hb
  exact I.base.free b o ho (I.ok.frf b hb) fun z=>I.ok.exfs b z hb
theorem Inv.step {g':Array GenState} {t':Nat} {d':Drawn} {ch:List Addr} (I:Inv X pins σ H s)
    (hch:∀ b ∈ ch,(b ∈ X.ex∨X.s₀.heap.objs.size≤b)∧b≠X.env.locals∧(∀ x c,X.env.cells.lookup x=some c→c≠b)∧∀ p ∈ X.pn ++ pins,p.1≠b)
    (keep:∀ b o,b≠X.env.locals→b ∉ X.fs→b ∉ ch→s.heap.get? b=some o→H b=none→h'.get? b=some o)
    (slot:∀ b o,b≠X.env.locals→b ∈ X.fs→b ∉ ch→s.heap.get? b=some o→H b=none→∃ sl,h'.get? b=some { o with slots:=sl }) (free:∀ b o,b ∉ ch→s.heap.get? b=some o→H b=none→H' b=none)
    (there:∀ b o,b ∉ ch→s.heap.get? b=some o→∃ o',h'.get? b=some o')
    (tups:∀ b xs,H b=some (.tup xs)→H' b=some (.tup xs)) (frzs:∀ b o u,H b=some (.frz o u)→H' b=some (.frz o u)) (tbls:∀ b ps,H b=some (.tbl ps)→∃ more,H' b=some (.tbl (ps ++ more)))
    (ns:∀ m,s.heap.Ns X.env.locals m→h'.Ns X.env.locals m) (hok:HOk X.prog X.w H' h') (hg:AllBare g') :
    Inv X pins σ H' { s with heap:=h',gens:=g',drawn:=d',toks:=t' }:=by
  have neL:∀ b o,X.s₀.heap.get? b=some o→b≠X.env.locals:=fun b o e=>Nat.ne_of_lt (Nat.lt_of_lt_of_le (Heap.lt_size e) I.ok.above)
  have neC:∀ b o,X.s₀.heap.get? b=some o→b ∉ X.ex→b ∉ ch:=fun b o e hx hb=>by
    rcases (hch b hb).1 with z | z
    · exact hx z
    · exact absurd (Nat.lt_of_lt_of_le (Heap.lt_size e) z) (Nat.lt_irrefl _)
  have cellK:∀ x c,X.env.cells.lookup x=some c→∀ v,s.heap.IsCell c v→h'.IsCell c v:=fun x c e v ⟨o,ho,hd⟩=>by
    have nch:c ∉ ch:=fun z=>(hch c z).2.2.1 x c e rfl
    by_cases hc:c ∈ X.fs
    · obtain ⟨sl,q⟩:=slot c o (I.cne x c e) hc nch ho (I.freeC x c e)
      exact ⟨_,q,hd⟩
    · exact ⟨o,keep c o (I.cne x c e) hc nch ho (I.freeC x c e),hd⟩
  refine ⟨I.ok,I.os,hg,⟨fun b o e n hb hx=>?_,fun b o e n hb hx=>?_,fun b o e n hx=>?_,fun b o e hx=>?_,fun b xs e=>tups b xs (I.base.tups b xs e),fun b o xs e=>frzs b o xs (I.base.frzs b o xs e),fun b ps e=>?_⟩,?_,fun x c e=>?_,?_,fun x c e=>?_,fun p hp=>?_,hok,I.len⟩
  · exact keep b o (neL b o e) hb (neC b o e hx) (I.base.keep b o e n hb hx) (I.base.free b o e n hx)
  · obtain ⟨sl,e1⟩:=I.base.slot b o e n hb hx
    obtain ⟨sl',e2⟩:=slot b _ (neL b o e) hb (neC b o e hx) e1 (I.base.free b o e n hx)
    exact ⟨sl',e2⟩
  · obtain ⟨o',e1⟩:=I.base.there b o e hx
    exact free b o' (neC b o e hx) e1 (I.base.free b o e n hx)
  · obtain ⟨o',e1⟩:=I.base.there b o e hx
    exact there b o' (neC b o e hx) e1
  · obtain ⟨m1,e1⟩:=I.base.tbls b ps e
    obtain ⟨m2,e2⟩:=tbls b _ e1
    exact ⟨m1 ++ m2,by rw [e2,Array.append_assoc]⟩
  · obtain ⟨m,hn,hl⟩:=I.loc
    refine ⟨m,ns m hn,fun i x v e1 e2 e3=>?_⟩
    obtain ⟨u,r,l⟩:=hl i x v e1 e2 e3
    refine ⟨u,r,?_⟩
    rcases l with l | ⟨k,c,e,z⟩
    · exact .inl l
    · exact .inr ⟨k,c,e,cellK x c e _ z⟩
  · obtain ⟨v,z⟩:=I.cell x c e
    exact ⟨v,cellK x c e v z⟩
  · obtain ⟨m,⟨o,_,_,ho,_⟩,_⟩:=I.loc
    exact free _ o (fun z=>(hch _ z).2.1 rfl) ho I.free
  · obtain ⟨v,o,ho,hd⟩:=I.cell x c e
    exact free c o (fun z=>(hch c z).2.2.1 x c e rfl) ho (I.freeC x c e)
  · obtain ⟨e,n,ne,nf,d⟩:=I.pin p hp
    have nch:p.1 ∉ ch:=fun z=>(hch p.1 z).2.2.2 p hp rfl
    exact ⟨keep p.1 p.2 ne nf nch e n,free p.1 p.2 nch e n,ne,nf,d⟩
theorem Inv.un {t':Nat} (I:Inv X pins σ H s) (u:Un X.fs [] H H' s.heap h') (hok:HOk X.prog X.w H' h'):Inv X pins σ H' { s with heap:=h',toks:=t' }:=by
 obtain ⟨m,⟨o,es,ep,ho,r⟩,_⟩:=id I.loc
 obtain ⟨sl,hL⟩:=u.any ho I.free (by simp)
 exact I.step (g':=s.gens) (d':=s.drawn) (ch:=[]) (fun _ z=>nomatch z) (fun b o _ hb _ e n=>u.keep b o e n hb (by simp)) (fun b o _ hb _ e n=>u.slot b o e n hb (by simp)) (fun b o _ e n=>u.free b o e n (by simp)) (fun b o _ e=>u.there b o e (by simp)) u.tups u.frzs u.tbls (fun m' hm=>by
  obtain ⟨o',es',ep',ho',r'⟩:=hm
  rw [ho] at ho'; cases ho'
  exact ⟨_,es',ep',hL,r'⟩) hok I.bare
theorem Inv.call {g':Array GenState} {t':Nat} {d':Drawn} {ch:List Addr} (I:Inv X pins σ H s) (u:Un (frs X.stack) ch H H' s.heap h') (hok:HOk X.prog X.w H' h') (hg:AllBare g')
    (hch:∀ b ∈ ch,(b ∈ X.ex∨X.s₀.heap.objs.size≤b)∧b≠X.env.locals∧(∀ x c,X.env.cells.lookup x=some c→c≠b)∧∀ p ∈ X.pn ++ pins,p.1≠b) :
    Inv X pins σ H' { s with heap:=h',gens:=g',drawn:=d',toks:=t' }:=by
  obtain ⟨m,⟨o,es,ep,ho,r⟩,_⟩:=id I.loc
  obtain ⟨sl,hL⟩:=u.any ho I.free fun z=>(hch _ z).2.1 rfl
  exact I.step (ch:=ch) hch (fun b o hL hb hc e n=>u.keep b o e n (fun z=>(List.mem_cons.mp (I.stkSub b z)).elim hL hb) hc) (fun b o _ _ hc e n=>u.any e n hc) (fun b o hc e n=>u.free b o e n hc) (fun b o hc e=>u.there b o e hc) u.tups u.frzs u.tbls (fun m' hm=>by
    obtain ⟨o',es',ep',ho',r'⟩:=hm
    rw [ho] at ho'; cases ho'
    exact ⟨_,es',ep',hL,r'⟩) hok hg
theorem Inv.turned {t':Nat} {it:Addr} (I:Inv X pins σ H s) (k:∀ b o,b≠it→s.heap.get? b=some o→h'.get? b=some o) (hn:H it=none) (hL:it≠X.env.locals)
    (h1:it ∈ X.ex∨X.s₀.heap.objs.size≤it) (h2:∀ x c,X.env.cells.lookup x=some c→c≠it) (h3:∀ p ∈ X.pn ++ pins,p.1≠it):Inv X pins σ H { s with heap:=h',toks:=t' }:=by
  have nit:∀ b u,H b=some u→b≠it:=fun b u e z=>by rw [z,hn] at e; cases e
  refine I.step (g':=s.gens) (d':=s.drawn) (ch:=[it]) (fun b hb=>?_) (fun b o _ _ hc e _=>k b o (fun z=>hc (by simp [z])) e) (fun b o _ _ hc e _=>⟨o.slots,k b o (fun z=>hc (by simp [z])) e⟩) (fun _ _ _ _ n=>n)
    (fun b o hc e=>⟨o,k b o (fun z=>hc (by simp [z])) e⟩) (fun _ _ e=>e) (fun _ _ _ e=>e) (fun b ps e=>⟨#[],by rw [e]; simp⟩) (fun m hm=>?_) (fun b u e=>?_) I.bare
  · have e:b=it:=by simpa using hb
    subst e
    exact ⟨h1,hL,h2,h3⟩
  · obtain ⟨o,es,ep,ho,r⟩:=hm
    exact ⟨o,es,ep,k _ o (Ne.symm hL) ho,r⟩
  · refine (I.hok b u e).stay (fun c v hc q=>k c v ?_ q) (fun _ q=>q) fun _ _ q=>q
    rcases hc with z | z
    · rw [z]; exact nit b u e
    · exact nit c _ z
theorem Inv.tok (I:Inv X pins σ H s) (t:Nat):Inv X pins σ H { s with toks:=t }:=I.un (h':=s.heap) (t':=t) Un.refl I.hok
theorem Inv.kept {t':Nat} (I:Inv X pins σ H s) (k:∀ b u,s.heap.get? b=some u→h'.get? b=some u):Inv X pins σ H { s with heap:=h',toks:=t' }:=I.un (Un.kept k) (I.hok.kept k)
theorem Inv.laid {a:Addr} {o:HO} {t':Nat} (I:Inv X pins σ H s) (k:∀ b u,s.heap.get? b=some u→h'.get? b=some u) (hp:s.heap.objs.size≤a) (new:xak X.prog X.w (upd H a o) h' a o) :
    Inv X pins σ (upd H a o) { s with heap:=h',toks:=t' }:=I.un (Un.laid k hp (I.hok.fresh hp)) (I.hok.laid k hp new)
theorem Inv.write {x e:Addr} {o:HO} {t':Nat} (I:Inv X pins σ H s) (mu:Mut (H x)) (he:e=x∨H e=some (.own x)) (k:∀ b u,b≠e→s.heap.get? b=some u→h'.get? b=some u) (heo:∃ u,h'.get? e=some u)
    (new:xak X.prog X.w (upd H x o) h' x o):Inv X pins σ (upd H x o) { s with heap:=h',toks:=t' }:=I.un (Un.write mu he k heo) (I.hok.write mu he k heo new)
theorem Inv.weak {σ':List (Option V)} (I:Inv X pins σ H s) (hl:σ'.length=σ.length) (w:∀ (i:Nat) v,σ'[i]?=some (some v)→σ[i]?=some (some v)):Inv X pins σ' H s :=
 ⟨I.ok,I.os,I.bare,I.base,let ⟨m,hn,hl'⟩:=I.loc; ⟨m,hn,fun i x v e1 e2 e3=>hl' i x v e1 (w i v e2) e3⟩,I.cell,I.free,I.freeC,I.pin,I.hok,hl.trans I.len⟩
theorem Inv.pins_of {pins':List (Addr × Obj)} (I:Inv X pins σ H s) (h:∀ p ∈ pins',s.heap.get? p.1=some p.2∧H p.1=none∧p.1≠X.env.locals∧p.1 ∉ X.fs∧∀ v,p.2.data≠.cell v):Inv X pins' σ H s :=
 ⟨I.ok,I.os,I.bare,I.base,I.loc,I.cell,I.free,I.freeC,fun p hp=>(List.mem_append.mp hp).elim (fun z=>I.pin p (List.mem_append_left _ z)) (h p),I.hok,I.len⟩
theorem xhr {N:List Str} (hN:N.Nodup) {i j:Nat} {x:Str} (a:N[i]?=some x) (b:N[j]?=some x):i=j:=by
 obtain ⟨h1,e1⟩:=List.getElem?_eq_some_iff.mp a
 obtain ⟨h2,e2⟩:=List.getElem?_eq_some_iff.mp b
 exact (List.getElem_inj hN).mp (e1.trans e2.symm)
theorem xgh {M:Model} {A:Around} {E:Value→Shared→Prop} {i:Nat} {x:Str} {v:V} {u:Value} {Q:Unit→Shared→Prop} (I:Inv X pins σ H s) (hN:X.N.Nodup) (hi:X.N[i]?=some x) (hx:Loc X.env.scope x) (r:RelV v u)
    (h:∀ s',Inv X pins (σ.set i (some v)) H s'→(∃ a,Heap.SameBut a s.heap s'.heap∧(a=X.env.locals∨X.env.cells.lookup x=some a))→Q () s') (hf:X.fn x=true∨X.env.scope.names.lookup x=some .local:=by first | exact .inl rfl | exact .inr rfl | assumption):wpAny M A (storeName X.env x u) Q E s:=by
  obtain ⟨m,hn,hl⟩:=id I.loc
  have hcls:(X.env.scope.kind == .class || (X.env.scope.kind == .module && X.env.locals != X.env.globals))=false:=by rw [I.ok.kind]; rfl
  have hiσ:i < σ.length:=by rw [I.len]; exact (List.getElem?_eq_some_iff.mp hi).1
  have cne:=I.cne
  have tracked:∀ {a:Addr} {h':Heap},(∃ o,s.heap.get? a=some o∧H a=none)→Heap.SameBut a s.heap h'→HOk X.prog X.w H h':=fun {a h'} ha hs b ob e=>by
    obtain ⟨_,_,hfree⟩:=ha
    refine (I.hok b ob e).stay (fun c w' hc q=>(hs.2 c ?_).trans q) (fun _ q=>q) fun _ _ q=>q
    rintro rfl
    rcases hc with rfl | hc
    · rw [hfree] at e; cases e
    · rw [hfree] at hc; cases hc
  rcases hx with hk | hk
  · refine wpAny_storeName_local hk hn (fun h' hn' hs=>?_) hcls
    obtain ⟨oL,_,_,hoL,_⟩:=id hn
    refine h _ ⟨I.ok,I.os,I.bare,⟨fun b o e n hb hx=>?_,fun b o e n hb hx=>?_,I.base.free,fun b o e hx=>?_,I.base.tups,I.base.frzs,I.base.tbls⟩,⟨_,hn',fun j y v' e1 e2 e3=>?_⟩,fun y c e=>?_,I.free,I.freeC,fun p hp=>?_,tracked ⟨oL,hoL,I.free⟩ hs,by simpa using I.len⟩ ⟨_,hs,.inl rfl⟩
    · exact (hs.2 b (Nat.ne_of_lt (Nat.lt_of_lt_of_le (Heap.lt_size e) I.ok.above))).trans (I.base.keep b o e n hb hx)
    · obtain ⟨sl,e1⟩:=I.base.slot b o e n hb hx
      exact ⟨sl,(hs.2 b (Nat.ne_of_lt (Nat.lt_of_lt_of_le (Heap.lt_size e) I.ok.above))).trans e1⟩
    · obtain ⟨o',e1⟩:=I.base.there b o e hx
      exact ⟨o',(hs.2 b (Nat.ne_of_lt (Nat.lt_of_lt_of_le (Heap.lt_size e) I.ok.above))).trans e1⟩
    · by_cases hj:j=i
      · subst hj
        rw [hi] at e1; cases e1
        rw [List.getElem?_set_self hiσ] at e2
        cases e2
        exact ⟨u,r,.inl ⟨hk,by simp⟩⟩
      · rw [List.getElem?_set_ne (Ne.symm hj)] at e2
        obtain ⟨u',r',q⟩:=hl j y v' e1 e2 e3
        refine ⟨u',r',?_⟩
        rcases q with ⟨k,e⟩ | ⟨k,c,e,z⟩
        · refine .inl ⟨k,?_⟩
          have:y≠x:=fun e=>hj (xhr hN e1 (e ▸ hi))
          simp [this,e]
        · exact .inr ⟨k,c,e,z.sameBut hs (cne y c e)⟩
    · obtain ⟨w',z⟩:=I.cell y c e
      exact ⟨w',z.sameBut hs (cne y c e)⟩
    · obtain ⟨e,n,ne,nf,d⟩:=I.pin p hp
      exact ⟨(hs.2 p.1 ne).trans e,n,ne,nf,d⟩
  · have hfn:X.fn x=true:=by
      rcases hf with z | z
      · exact z
      · rw [z] at hk; cases hk
    obtain ⟨c,hc⟩:=I.ok.has x (.inl hk)
    obtain ⟨w',z⟩:=I.cell x c hc
    refine wpAny_storeName_cell I.ok.kind hk hc z (fun h' hc' hs=>?_)
    obtain ⟨oc,hoc,hocd⟩:=id z
    refine h { s with heap:=h' } ⟨I.ok,I.os,I.bare,⟨fun b o e n hb hx=>?_,fun b o e n hb hx=>?_,I.base.free,fun b o e hx=>?_,I.base.tups,I.base.frzs,I.base.tbls⟩,⟨m,hn.sameBut hs (Ne.symm (cne x c hc)),fun j y v' e1 e2 e3=>?_⟩,fun y c' e=>?_,I.free,I.freeC,fun p hp=>?_,tracked ⟨oc,hoc,I.freeC x c hc⟩ hs,by simpa using I.len⟩ ⟨c,hs,.inr hc⟩
    · exact (hs.2 b (Nat.ne_of_lt (Nat.lt_of_lt_of_le (Heap.lt_size e) (I.ok.cab x c hfn hc)))).trans (I.base.keep b o e n hb hx)
    · obtain ⟨sl,e1⟩:=I.base.slot b o e n hb hx
      exact ⟨sl,(hs.2 b (Nat.ne_of_lt (Nat.lt_of_lt_of_le (Heap.lt_size e) (I.ok.cab x c hfn hc)))).trans e1⟩
    · obtain ⟨o',e1⟩:=I.base.there b o e hx
      exact ⟨o',(hs.2 b (Nat.ne_of_lt (Nat.lt_of_lt_of_le (Heap.lt_size e) (I.ok.cab x c hfn hc)))).trans e1⟩
    · by_cases hj:j=i
      · subst hj
        rw [hi] at e1; cases e1
        rw [List.getElem?_set_self hiσ] at e2
        cases e2
        exact ⟨u,r,.inr ⟨.inl hk,c,hc,hc'⟩⟩
      · rw [List.getElem?_set_ne (Ne.symm hj)] at e2
        obtain ⟨u',r',q⟩:=hl j y v' e1 e2 e3
        refine ⟨u',r',?_⟩
        rcases q with q | ⟨k,c',e,z'⟩
        · exact .inl q
        · refine .inr ⟨k,c',e,z'.sameBut hs ?_⟩
          rintro rfl
          exact hj (xhr hN e1 (I.ok.inj _ _ _ e hc ▸ hi))
    · by_cases hcc:c'=c
      · subst hcc; exact ⟨_,hc'⟩
      · obtain ⟨w2,z2⟩:=I.cell y c' e
        exact ⟨w2,z2.sameBut hs hcc⟩
    · obtain ⟨e,n,ne,nf,d⟩:=I.pin p hp
      refine ⟨(hs.2 p.1 ?_).trans e,n,ne,nf,d⟩
      intro q
      rw [q,hoc] at e
      have q':oc=p.2:=Option.some.inj e
      exact d w' (by rw [← q']; exact hocd)
theorem xdr {M:Model} {A:Around} {E:Value→Shared→Prop} {i:Nat} {x:Str} {v:V} {u:Value} {Q:Unit→Shared→Prop} (I:Inv X pins σ H s) (hN:X.N.Nodup) (hi:X.N[i]?=some x) (hx:Loc X.env.scope x) (r:RelV v u)
    (h:∀ s',Inv X pins (σ.set i (some v)) H s'→Q () s') (hf:X.fn x=true∨X.env.scope.names.lookup x=some .local:=by first | exact .inl rfl | exact .inr rfl | assumption):wpAny M A (storeName X.env x u) Q E s :=
  xgh I hN hi hx r (fun s' I' _=>h s' I') hf
theorem Inv.call' {s':Shared} {ch:List Addr} (I:Inv X pins σ H s) (ho:s'.os=s.os) (u:Un (frs X.stack) ch H H' s.heap s'.heap) (hok:HOk X.prog X.w H' s'.heap) (hg:AllBare s'.gens)
    (hch:∀ b ∈ ch,(b ∈ X.ex∨X.s₀.heap.objs.size≤b)∧b≠X.env.locals∧(∀ x c,X.env.cells.lookup x=some c→c≠b)∧∀ p ∈ X.pn ++ pins,p.1≠b):Inv X pins σ H' s':=by
  obtain ⟨h',g',d',t',o'⟩:=s'
  have e:o'=s.os:=ho
  subst e
  exact I.call (g':=g') (t':=t') (d':=d') u hok hg hch
end
abbrev XK:=Addr→Addr→Hp→Prop
abbrev St:=List (Option V)
abbrev VK:=V→Hp→Prop
abbrev TE:=St→Hp→VK→Prop
abbrev TT:=St→Hp→(Bool→Hp→Prop)→Prop
abbrev TA:=St→Hp→(List V→Hp→Prop)→Prop
structure Ends where
 nx:St→Hp→Prop
 rt:VK
 bk:St→Hp→Prop:=fun _ _=>False
 ct:St→Hp→Prop:=fun _ _=>False
abbrev TS:=Ends→St→Hp→Prop
def EP (X:Cx) (pins:List (Addr × Obj)) (σ:St) (Q:VK) (u:Value) (s':Shared):Prop:=∃ v H',Inv X pins σ H' s'∧RelV v u∧Q v H'
def TP (X:Cx) (pins:List (Addr × Obj)) (σ:St) (Q:Bool→Hp→Prop) (b:Bool) (s':Shared):Prop:=∃ H',Inv X pins σ H' s'∧Q b H'
def AP (X:Cx) (pins:List (Addr × Obj)) (σ:St) (Q:List V→Hp→Prop) (us:List Value) (s':Shared):Prop:=∃ vs H',Inv X pins σ H' s'∧Vals vs us∧Q vs H'
def SP (X:Cx) (pins:List (Addr × Obj)) (D:Ends) (f:Flow) (s':Shared):Prop :=
 match f with
 | .next=>∃ σ' H',Inv X pins σ' H' s'∧D.nx σ' H'
 | .brk=>∃ σ' H',Inv X pins σ' H' s'∧D.bk σ' H'
 | .cont=>∃ σ' H',Inv X pins σ' H' s'∧D.ct σ' H'
 | .ret u=>∃ v σ' H',Inv X pins σ' H' s'∧RelV v u∧D.rt v H'
def PE (X:Cx) (e:Expr) (t:TE):Prop :=
 ∀ (pins:List (Addr × Obj)) (s:Shared) (σ:St) (H:Hp) (Q:VK),Inv X pins σ H s→t σ H Q→wpAny (model X.prog X.w) X.A (eval e X.env) (EP X pins σ Q) X.xe s
def PT (X:Cx) (e:Expr) (t:TT):Prop :=
 ∀ (pins:List (Addr × Obj)) (s:Shared) (σ:St) (H:Hp) (Q:Bool→Hp→Prop),Inv X pins σ H s→t σ H Q→wpAny (model X.prog X.w) X.A (isTrue e X.env (eval e X.env)) (TP X pins σ Q) X.xe s
def PW (X:Cx) (e:Expr) (t:TT):Prop :=
 ∀ (whole:Sem Value) (pins:List (Addr × Obj)) (s:Shared) (σ:St) (H:Hp) (Q:Bool→Hp→Prop),Inv X pins σ H s→t σ H Q→wpAny (model X.prog X.w) X.A (isTrue e X.env whole) (TP X pins σ Q) X.xe s
theorem PW.pt {X:Cx} {e:Expr} {t:TT} (h:PW X e t):PT X e t:=h _
def PA (X:Cx) (es:List Expr) (t:TA):Prop :=
 ∀ (pos:Pos) (pins:List (Addr × Obj)) (s:Shared) (σ:St) (H:Hp) (Q:List V→Hp→Prop),Inv X pins σ H s→t σ H Q→wpAny (model X.prog X.w) X.A (spliced (backTo pos (starEach es X.env))) (AP X pins σ Q) X.xe s
def PS (X:Cx) (st:Stmt) (t:TS):Prop :=
 ∀ (pins:List (Addr × Obj)) (s:Shared) (σ:St) (H:Hp) (D:Ends),Inv X pins σ H s→t D σ H→wpAny (model X.prog X.w) X.A (exec st X.env) (SP X pins D) X.xe s
def PSs (X:Cx) (st:List Stmt) (t:TS):Prop :=
 ∀ (pins:List (Addr × Obj)) (s:Shared) (σ:St) (H:Hp) (D:Ends),Inv X pins σ H s→t D σ H→wpAny (model X.prog X.w) X.A (execs st X.env) (SP X pins D) X.xe s
theorem thn {α:Type} {t:Sem α} {Q Q':α→Shared→Prop} {M:Model} {A:Around} {E:Value→Shared→Prop} {s:Shared} (h:wpAny M A t Q E s) (hQ:∀ a s,Q a s→Q' a s):wpAny M A t Q' E s:=wpAny_mono h hQ fun _ _ x=>x
end L2
namespace L2
open PySem PySem.Spec PyProof.Rows
variable {q0:Bool}
section
variable {X:Cx}
def tVar (i:Nat):TE:=fun σ H Q=>∃ v,σ[i]?=some (some v)∧Q v H
def tC (v:V):TE:=fun _ H Q=>Q v H
theorem xoh {i:Nat} {x:Str} {pos:Pos} (hN:X.N[i]?=some x) (hv:Vis X.env.scope x) (hd:(x == ("__debug__":Str))=false:=by decide) (hcd:(x == ("__classdict__":Str))=false:=by decide):PE X (.Name x pos) (tVar i):=by
 intro pins s σ H Q I h
 obtain ⟨v,e,h⟩:=h
 obtain ⟨m,hn,hl⟩:=I.loc
 obtain ⟨u,r,l⟩:=hl i x v hN e hv
 have fin:EP X pins σ Q u s:=⟨v,H,I,r,h⟩
 rcases l with ⟨hk,hm⟩ | ⟨hk,c,hc,hcell⟩
 ·exact wpAny_Name (wpAny_loadName_local I.ok.kind hk hn hm fin) hd
 ·rcases hk with hk | hk
  ·exact wpAny_Name (wpAny_loadName_cell I.ok.kind hk hc hcell fin) hd
  ·exact wpAny_Name (wpAny_loadName_free I.ok.kind hk hc hcell fin hcd) hd
theorem xl {i j pos}:PE X (.Constant (.int i) j pos) (tC (.int i)):=fun _ _ _ H _ I h=>wpAny_Constant_int ⟨.int i,H,I.tok _,⟨_,rfl⟩,h⟩
theorem xb9 {b j pos}:PE X (.Constant (.bool b) j pos) (tC (.bl b)):=fun _ _ _ H _ I h=>Constant_bool ⟨.bl b,H,I,rfl,h⟩
theorem xeg {j pos}:PE X (.Constant .none j pos) (tC .non):=fun _ _ _ H _ I h=>Constant_none ⟨.non,H,I,rfl,h⟩
theorem xba {x j pos}:PE X (.Constant (.str x) j pos) (tC (.str x)):=fun _ _ _ H _ I h=>Calls.Constant_str ⟨.str x,H,I.tok _,⟨_,rfl⟩,h⟩
def Gl (X:Cx) (x:Str):Prop:=X.env.kindOf x=some .globalImplicit
theorem xf2 {E:Value→Shared→Prop} {pins:List (Addr × Obj)} {s:Shared} {σ:St} {H:Hp} {x:Str} {u:Value} {pos:Pos} {Q:Value→Shared→Prop} (I:Inv X pins σ H s) (hg:Gl X x) (hm:X.mg x=some u) (h:Q u s)
    (hd:(x == ("__debug__":Str))=false:=by decide):wpAny (model X.prog X.w) X.A (eval (.Name x pos) X.env) Q E s :=
  Calls.Name_function_global I.ok.kind hg (Calls.loadGlobal_global (by rw [I.ok.glob]; exact I.mod.glob.keeps I.bk) hm h) hd
theorem xb1 {E:Value→Shared→Prop} {pins:List (Addr × Obj)} {s:Shared} {σ:St} {H:Hp} {x:Str} {u:Value} {pos:Pos} {Q:Value→Shared→Prop} (I:Inv X pins σ H s) (hg:Gl X x) (hm:X.mg x=none) (hv:bootBuiltins x=some u) (h:Q u s)
    (hn:x≠"__name__":=by decide) (hd:(x == ("__debug__":Str))=false:=by decide):wpAny (model X.prog X.w) X.A (eval (.Name x pos) X.env) Q E s:=by
  obtain ⟨mb,h1,h2⟩:=I.mod.blt
  exact Calls.Name_function_global I.ok.kind hg (Calls.loadGlobal_builtin (by rw [I.ok.glob]; exact I.mod.glob.keeps I.bk) hm (by rw [I.ok.blt]; exact h1.keeps I.bk) ((h2 x hn).trans hv) h) hd
theorem xel {x:Str} {v:V} {u:Value} {pos:Pos} (hg:Gl X x) (hm:X.mg x=some u) (r:RelV v u) (hd:(x == ("__debug__":Str))=false:=by decide):PE X (.Name x pos) (tC v) :=
 fun _ _ _ H _ I h=>xf2 I hg hm ⟨v,H,I,r,h⟩ hd
theorem xc0 {x:Str} {v:V} {u:Value} {pos:Pos} (hg:Gl X x) (hm:X.mg x=none) (hv:bootBuiltins x=some u) (r:RelV v u) (hn:x≠"__name__":=by decide) (hd:(x == ("__debug__":Str))=false:=by decide):PE X (.Name x pos) (tC v) :=
 fun _ _ _ H _ I h=>xb1 I hg hm hv ⟨v,H,I,r,h⟩ hn hd
variable {a b:Expr} {ta tb:TE} {pos:Pos}
def PC (X:Cx) (op:CmpOp) (a b:Expr) (t:TE):Prop :=
 ∀ (pins:List (Addr × Obj)) (s:Shared) (σ:St) (H:Hp) (Q:VK),Inv X pins σ H s→t σ H Q →
  wpAny (model X.prog X.w) X.A (eval a X.env) (fun v s₁=>wpAny (model X.prog X.w) X.A (eval b X.env) (fun u s₂=>wpAny (model X.prog X.w) X.A (compareOp op v u) (EP X pins σ Q) X.xe s₂) X.xe s₁) X.xe s
theorem xhg (b:Expr) {op:CmpOp} (h:op≠.In) (h2:op≠.NotIn):behindInMarks op b=false:=by
 have e1:(op == CmpOp.In)=false:=by cases op <;> first | rfl | exact absurd rfl h
 have e2:(op == CmpOp.NotIn)=false:=by cases op <;> first | rfl | exact absurd rfl h2
 cases b <;> simp [behindInMarks,e1,e2]
def tB (t:TE):TT:=fun σ H Q=>t σ H fun x H1=>∃ c,x=.bl c∧Q c H1
theorem xow {op:CmpOp} {t:TE} (h:PC X op a b t) (h1:behindInMarks op b=false:=by first | exact xhg _ (by decide) (by decide) | rfl):PE X (.Compare a [op] [b] pos) t:=fun pins s σ H Q I hw=>wpAny_Compare1 (h pins s σ H Q I hw) h1
theorem xdn {op:CmpOp} {t:TE} (h:PC X op a b t) (h1:behindInMarks op b=false:=by first | exact xhg _ (by decide) (by decide) | rfl):PT X (.Compare a [op] [b] pos) (tB t):=by
 intro pins s σ H Q I hw
 refine wpAny_isTrue_Compare1 (thn (h pins s σ H _ I hw) fun v s1 h1=>thn h1 fun u s2 h2=>thn h2 fun c s3 ⟨x,H1,I1,r1,q1⟩=>?_) h1
 obtain ⟨d,rfl,q⟩:=q1
 cases r1
 exact wpAny_truthy_bool ⟨H1,I1,q⟩
theorem xa9 {e:Expr} {t:TE} (h:PE X e t) (he:∀ whole,isTrue e X.env whole=(do let v ← whole; standAt e.pos; holding [v] (truthy v)):=by intro _; rfl):PT X e (tB t):=by
 intro pins s σ H Q I hw
 refine isTrue_plain (thn (h pins s σ H _ I hw) fun v s1 ⟨x,H1,I1,r1,q1⟩=>?_) (he _)
 obtain ⟨d,rfl,q⟩:=q1
 cases r1
 exact wpAny_truthy_bool ⟨H1,I1,q⟩
variable {tA tB':TT} {rest:List Expr}
def tAnd (t u:TT):TT:=fun σ H Q=>t σ H fun c H1=>if c=true then u σ H1 Q else Q false H1
def tOr (t u:TT):TT:=fun σ H Q=>t σ H fun c H1=>if c=true then Q true H1 else u σ H1 Q
def tNot (t:TT):TT:=fun σ H Q=>t σ H fun c H1=>Q (!c) H1
theorem xfz (ha:PT X a tA):PW X (.BoolOp .And [a] pos) tA:=by
 intro wh pins s σ H Q I h
 refine isTrue_and (thn (ha pins s σ H Q I h) fun c s1 e=>?_)
 cases c with
 | true=>exact isTrue_and_nil e
 | false=>exact e
theorem xc7 (ha:PT X a tA):PW X (.BoolOp .Or [a] pos) tA:=by
 intro wh pins s σ H Q I h
 refine isTrue_or (thn (ha pins s σ H Q I h) fun c s1 e=>?_)
 cases c with
 | false=>exact isTrue_or_nil e
 | true=>exact e
theorem xhv (ha:PT X a tA) (hb:PW X (.BoolOp .And (b :: rest) pos) tB'):PW X (.BoolOp .And (a :: b :: rest) pos) (tAnd tA tB'):=by
 intro wh pins s σ H Q I h
 refine isTrue_and (thn (ha pins s σ H _ I h) fun c s1 ⟨H1,I1,q1⟩=>?_)
 cases c with
 | true=>exact hb wh pins s1 σ H1 Q I1 q1
 | false=>exact ⟨H1,I1,q1⟩
theorem xdt (ha:PT X a tA) (hb:PW X (.BoolOp .Or (b :: rest) pos) tB'):PW X (.BoolOp .Or (a :: b :: rest) pos) (tOr tA tB'):=by
 intro wh pins s σ H Q I h
 refine isTrue_or (thn (ha pins s σ H _ I h) fun c s1 ⟨H1,I1,q1⟩=>?_)
 cases c with
 | true=>exact ⟨H1,I1,q1⟩
 | false=>exact hb wh pins s1 σ H1 Q I1 q1
theorem xbr (ha:PT X a tA):PT X (.UnaryOp .Not a pos) (tNot tA):=by
 intro pins s σ H Q I h
 exact isTrue_not (ha pins s σ H (fun c H1=>Q (!c) H1) I h)
def xqb (ta tb:TE):TE:=fun σ H Q=>ta σ H fun x H1=>∃ c,x=.bl c∧if c=true then tb σ H1 Q else Q (.bl false) H1
def xpp (ta:TE):TE:=fun σ H Q=>ta σ H fun x H1=>∃ c,x=.bl c∧Q (.bl (!c)) H1
theorem xd7 {op} {t:TE} (h:PE X a t):PE X (.BoolOp op [a] pos) t:=fun pins s σ H Q I hw=>BoolOp_one (h pins s σ H Q I hw)
theorem xca (ha:PE X a ta) (hb:PE X (.BoolOp .And (b :: rest) pos) tb):PE X (.BoolOp .And (a :: b :: rest) pos) (xqb ta tb):=by
 intro pins s σ H Q I h
 refine BoolOp_and (thn (ha pins s σ H _ I h) fun v s1 ⟨x,H1,I1,r1,q1⟩=>?_)
 obtain ⟨c,rfl,q1⟩:=q1
 cases r1
 refine wpAny_truthy_bool ?_
 cases c with
 | true=>exact hb pins s1 σ H1 Q I1 q1
 | false=>exact ⟨.bl false,H1,I1,rfl,q1⟩
theorem xn4 (ha:PE X a ta):PE X (.UnaryOp .Not a pos) (xpp ta):=by
 intro pins s σ H Q I h
 refine UnaryOp_ (thn (ha pins s σ H _ I h) fun v s1 ⟨x,H1,I1,r1,q1⟩=>?_)
 obtain ⟨c,rfl,q1⟩:=q1
 cases r1
 exact not_of (wpAny_truthy_bool ⟨.bl (!c),H1,I1,rfl,q1⟩)
def tIf (t:TT) (ta tb:TE):TE:=fun σ H Q=>t σ H fun c H1=>if c=true then ta σ H1 Q else tb σ H1 Q
theorem xh2 {c:Expr} (hc:PT X c tA) (ha:PE X a ta) (hb:PE X b tb):PE X (.IfExp c a b pos) (tIf tA ta tb):=by
 intro pins s σ H Q I h
 refine wpAny_IfExp (thn (hc pins s σ H _ I h) fun d s1 ⟨H1,I1,q1⟩=>?_)
 cases d with
 | true=>exact ha pins s1 σ H1 Q I1 q1
 | false=>exact hb pins s1 σ H1 Q I1 q1
end
end L2
namespace L2
open PySem PySem.Spec PyProof.Rows
variable {q0:Bool}
def SqL (K:PySem.W.Frag) (H:Hp) (a:Addr) (xs:List V):Prop :=
 Rd H a (.lst xs) ∨
  ∃ (o:Obj) (its:Array Value) (n:Nat),K.lookup a=some o∧o.cls=.type "list"∧o.dict=none∧o.data=.seq its n∧its.size≤sizeLine∧Vals xs its.toList
def SqT (K:PySem.W.Frag) (H:Hp) (a:Addr) (xs:List V):Prop :=
 Rd H a (.tup xs) ∨
  ∃ (o:Obj) (its:Array Value) (n:Nat),K.lookup a=some o∧o.cls=.type "tuple"∧o.data=.seq its n∧its.size≤sizeLine∧Vals xs its.toList
def absV:Value→Option V
 | .none=>some .non
 | .bool b=>some (.bl b)
 | .int i _=>some (.int i)
 | .str x _=>some (.str x)
 | .bytes b _=>some (.byt b)
 | .float b _=>some (.flt b)
 | .ref a=>some (.ref a)
 | .type n=>some (.ty n)
 | _=>none
theorem RelV.abs {x:V} {u:Value} (r:RelV x u):absV u=some x:=by
 cases x with
 | non=>cases r; rfl
 | bl _=>cases r; rfl
 | int _=>obtain ⟨t,rfl⟩:=r; rfl
 | str _=>obtain ⟨t,rfl⟩:=r; rfl
 | byt _=>obtain ⟨t,rfl⟩:=r; rfl
 | flt _=>obtain ⟨t,rfl⟩:=r; rfl
 | ref _=>cases r; rfl
 | ty _=>cases r; rfl
theorem RelV.inj {x y:V} {u:Value} (r:RelV x u) (q:RelV y u):x=y:=Option.some.inj (r.abs.symm.trans q.abs)
theorem Vals.inj:∀ {xs ys:List V} {us:List Value},Vals xs us→Vals ys us→xs=ys
 | _,_,_,.nil,.nil=>rfl
 | _,_,_,.cons r t,.cons r' t'=>by rw [r.inj r',Vals.inj t t']
section
variable {X:Cx} {pins:List (Addr × Obj)} {σ:St} {H:Hp} {s:Shared} {a:Addr} {xs ys:List V}
theorem SqL.of {K:PySem.W.Frag} (h:H a=some (.lst xs)):SqL K H a xs:=.inl (.inl h)
theorem SqT.of {K:PySem.W.Frag} (h:H a=some (.tup xs)):SqT K H a xs:=.inl (.inl h)
theorem Inv.list (I:Inv X pins σ H s) (h:SqL X.K H a xs):∃ its:List Value,Vals xs its∧PlainL s.heap a its.toArray∧xs.length≤sizeLine:=by
 rcases h with h | ⟨o,its,n,hk,hc,hd,hs,hz,r⟩
 ·obtain ⟨z,its,n,r,e⟩:=h.ok I.hok
  exact ⟨its,r,⟨_,n,e,rfl,rfl,rfl⟩,z⟩
 ·refine ⟨its.toList,r,⟨o,n,I.kIn a o hk,hc,hd,by simpa using hs⟩,?_⟩
  have e:=r.length
  simp only [Array.length_toList] at e
  omega
theorem Inv.tuple (I:Inv X pins σ H s) (h:SqT X.K H a xs):∃ its:List Value,Vals xs its∧IsTup s.heap a its.toArray∧xs.length≤sizeLine:=by
 rcases h with h | ⟨o,its,n,hk,hc,hs,hz,r⟩
 ·obtain ⟨z,its,r,p⟩:=h.ok I.hok
  exact ⟨its,r,p,z⟩
 ·refine ⟨its.toList,r,⟨o,I.kIn a o hk,hc,n,by simpa using hs⟩,?_⟩
  have e:=r.length
  simp only [Array.length_toList] at e
  omega
theorem Inv.list_inj (I:Inv X pins σ H s) (h:SqL X.K H a xs) (h':SqL X.K H a ys):xs=ys:=by
 obtain ⟨its,r,⟨o,n,e,_,_,d⟩,_⟩:=I.list h
 obtain ⟨its',r',⟨o',n',e',_,_,d'⟩,_⟩:=I.list h'
 rw [e] at e'; cases e'
 rw [d] at d'
 injection d' with d1 _
 have:its=its':=by simpa using congrArg Array.toList d1
 subst this
 exact r.inj r'
theorem Inv.tuple_inj (I:Inv X pins σ H s) (h:SqT X.K H a xs) (h':SqT X.K H a ys):xs=ys:=by
 obtain ⟨its,r,⟨o,e,_,n,d⟩,_⟩:=I.tuple h
 obtain ⟨its',r',⟨o',e',_,n',d'⟩,_⟩:=I.tuple h'
 rw [e] at e'; cases e'
 rw [d] at d'
 injection d' with d1 _
 have:its=its':=by simpa using congrArg Array.toList d1
 subst this
 exact r.inj r'
end
abbrev Cx.wish (X:Cx) (E:Value→Shared→Prop):Cx:={ X with xe:=E }
abbrev Cx.nox (X:Cx):Cx:=X.wish fun _ _=>False
theorem Cx.Ok.wish {X:Cx} (ok:X.Ok) (E:Value→Shared→Prop):(X.wish E).Ok :=
 ⟨ok.mod,ok.kind,ok.glob,ok.blt,ok.above,ok.inj,ok.has,ok.cab,ok.hd,ok.frames,ok.stk,ok.exf,ok.bs,ok.bsz,ok.noex,ok.exfs,ok.funs,ok.frf⟩
theorem Cx.Ok.unwish {X:Cx} {E:Value→Shared→Prop} (ok:(X.wish E).Ok):X.Ok :=
 ⟨ok.mod,ok.kind,ok.glob,ok.blt,ok.above,ok.inj,ok.has,ok.cab,ok.hd,ok.frames,ok.stk,ok.exf,ok.bs,ok.bsz,ok.noex,ok.exfs,ok.funs,ok.frf⟩
section
variable {X:Cx} {pins:List (Addr × Obj)} {σ:St} {H:Hp} {s:Shared} {E:Value→Shared→Prop}
theorem Inv.wish (I:Inv X pins σ H s) (E:Value→Shared→Prop):Inv (X.wish E) pins σ H s:=⟨I.ok.wish E,I.os,I.bare,I.base,I.loc,I.cell,I.free,I.freeC,I.pin,I.hok,I.len⟩
theorem Inv.unwish (I:Inv (X.wish E) pins σ H s):Inv X pins σ H s:=⟨I.ok.unwish,I.os,I.bare,I.base,I.loc,I.cell,I.free,I.freeC,I.pin,I.hok,I.len⟩
theorem SP.unwish {D:Ends} {f:Flow} {s':Shared} (h:SP (X.wish E) pins D f s'):SP X pins D f s':=by
 cases f with
 | next=>obtain ⟨σ',H',I,q⟩:=h; exact ⟨σ',H',I.unwish,q⟩
 | brk=>obtain ⟨σ',H',I,q⟩:=h; exact ⟨σ',H',I.unwish,q⟩
 | cont=>obtain ⟨σ',H',I,q⟩:=h; exact ⟨σ',H',I.unwish,q⟩
 | ret u=>obtain ⟨v,σ',H',I,r,q⟩:=h; exact ⟨v,σ',H',I.unwish,r,q⟩
theorem PSs.nox {st:List Stmt} {t:TS} (h:PSs X.nox st t):PSs X st t:=fun pins s σ H D I hw =>
 wpAny_mono (h pins s σ H D (I.wish _) hw) (fun _ _ q=>q.unwish) fun _ _ z=>False.elim z
end
section
variable {X:Cx} {st:Stmt} {rest:List Stmt} {t u:TS} {e:Expr} {te:TE} {pos:Pos}
def xpj:TS:=fun D σ H=>D.nx σ H
def tSeq (t u:TS):TS:=fun D σ H=>t { D with nx:=u D } σ H
theorem xaa:PSs X [] xpj:=fun _ _ σ H _ I h=>wpAny_execs_nil ⟨σ,H,I,h⟩
theorem xj (h1:PS X st t) (h2:PSs X rest u):PSs X (st :: rest) (tSeq t u):=by
 intro pins s σ H D I h
 refine wpAny_execs_cons (thn (h1 pins s σ H { D with nx:=u D } I h) fun f s1 q=>?_)
 cases f with
 | next =>
  obtain ⟨σ',H',I',q⟩:=q
  exact h2 pins s1 σ' H' D I' q
 | ret v=>exact q
 | brk=>exact q
 | cont=>exact q
theorem xo (h1:PS X st t):PSs X [st] t:=by
 intro pins s σ H D I h
 refine wpAny_execs_cons (thn (h1 pins s σ H D I h) fun f s1 q=>?_)
 cases f with
 | next=>exact wpAny_execs_nil q
 | ret v=>exact q
 | brk=>exact q
 | cont=>exact q
theorem Inv.quiet {pins:List (Addr × Obj)} {σ:St} {H:Hp} {s:Shared} (I:Inv X pins σ H s):interactive X.env=false:=by simp [interactive,I.ok.kind]
def xpz (te:TE):TS:=fun D σ H=>te σ H fun _ H1=>D.nx σ H1
theorem xaz (he:PE X e te) (hs:swapsWith e none pos.line X.env=pure false:=by rfl):PS X (.Expr e pos) (xpz te):=by
 intro pins s σ H D I h
 exact wpAny_Expr_any (thn (he pins s σ H _ I h) fun v s1 ⟨x,H1,I1,r1,q1⟩=>⟨σ,H1,I1,q1⟩) I.quiet hs
def tRet (te:TE):TS:=fun D σ H=>te σ H D.rt
theorem x4 (he:PE X e te):PS X (.Return (some e) pos) (tRet te):=by
 intro pins s σ H D I h
 exact wpAny_Return_some (thn (he pins s σ H _ I h) fun v s1 ⟨x,H1,I1,r1,q1⟩=>⟨x,σ,H1,I1,r1,q1⟩)
def tIfS (c:TT) (t u:TS):TS:=fun D σ H=>c σ H fun b H1=>if b=true then t D σ H1 else u D σ H1
theorem xal {c:Expr} {a b:List Stmt} {tc:TT} (hc:PT X c tc) (ha:PSs X a t) (hb:PSs X b u):PS X (.If c a b pos) (tIfS tc t u):=by
 intro pins s σ H D I h
 refine wpAny_If (thn (hc pins s σ H _ I h) fun d s1 ⟨H1,I1,q1⟩=>?_)
 cases d with
 | true=>exact ha pins s1 σ H1 D I1 q1
 | false=>exact hb pins s1 σ H1 D I1 q1
def xor:TS:=fun _ _ _=>False
theorem xa6:PS X st xor:=fun _ _ _ _ _ _ h=>h.elim
end
abbrev TG:=V→St→Hp→(St→Hp→Prop)→Prop
abbrev TGs:=List V→St→Hp→(St→Hp→Prop)→Prop
def PG (X:Cx) (target:Expr) (t:TG):Prop :=
 ∀ (pins:List (Addr × Obj)) (s:Shared) (σ:St) (H:Hp) (v:V) (u:Value) (Q:St→Hp→Prop),Inv X pins σ H s→RelV v u→t v σ H Q →
  wpAny (model X.prog X.w) X.A (assign target X.env u) (fun _ s'=>∃ σ' H',Inv X pins σ' H' s'∧Q σ' H') X.xe s
def PGs (X:Cx) (ts:List Expr) (t:TGs):Prop :=
 ∀ (pins:List (Addr × Obj)) (s:Shared) (σ:St) (H:Hp) (vs:List V) (us:List Value) (Q:St→Hp→Prop),Inv X pins σ H s→Vals vs us→t vs σ H Q →
  wpAny (model X.prog X.w) X.A (assignInOrder ((assignEach ts X.env).map (·.2)) us) (fun _ s'=>∃ σ' H',Inv X pins σ' H' s'∧Q σ' H') X.xe s
abbrev TSet:=V→V→V→Hp→(Hp→Prop)→Prop
def PSet (X:Cx) (t:TSet):Prop :=
 ∀ (pins:List (Addr × Obj)) (s:Shared) (σ:St) (H:Hp) (o i v:V) (ov iv u:Value) (Q:Hp→Prop),Inv X pins σ H s→RelV o ov→RelV i iv→RelV v u→t o i v H Q →
  wpAny (model X.prog X.w) X.A (setItem ov iv u) (fun _ s'=>∃ H',Inv X pins σ H' s'∧Q H') X.xe s
section
variable {X:Cx} {pos:Pos}
def xce (i:Nat):TG:=fun v σ H Q=>Q (σ.set i (some v)) H
theorem xq {i:Nat} {x:Str} (hN:X.N.Nodup) (hi:X.N[i]?=some x) (hx:Loc X.env.scope x) (hf:X.fn x=true∨X.env.scope.names.lookup x=some .local:=by first | exact .inl rfl | exact .inr rfl | assumption):PG X (.Name x pos) (xce i):=by
 intro pins s σ H v u Q I r h
 exact wpAny_assign_Name (xdr I hN hi hx r (fun s' I'=>⟨_,H,I',h⟩) hf)
def gNil:TGs:=fun vs σ H Q=>vs=[]∧Q σ H
def xjv (t:TG) (u:TGs):TGs:=fun vs σ H Q=>∃ v r,vs=v :: r∧t v σ H fun σ' H'=>u r σ' H' Q
theorem xas:PGs X [] gNil:=by
 intro pins s σ H vs us Q I r h
 obtain ⟨e,h⟩:=h
 subst e
 cases r
 exact assignInOrder_nil ⟨σ,H,I,h⟩
theorem xu {e:Expr} {es:List Expr} {t:TG} {u:TGs} (h1:PG X e t) (h2:PGs X es u)
    (hs:(assignEach (e :: es) X.env).map (·.2)=assign e X.env :: (assignEach es X.env).map (·.2):=by rfl):PGs X (e :: es) (xjv t u):=by
  intro pins s σ H vs us Q I r h
  obtain ⟨v,vr,e1,h⟩:=h
  subst e1
  cases r with
  | cons r rr =>
    rw [hs]
    refine assignInOrder_cons (thn (h1 pins s σ H _ _ _ I r h) fun _ s1 ⟨σ1,H1,I1,q1⟩=>?_)
    exact h2 pins s1 σ1 H1 _ _ Q I1 rr q1
def gTup (K:PySem.W.Frag) (n:Nat) (t:TGs):TG:=fun v σ H Q=>∃ a xs,v=.ref a∧SqT K H a xs∧xs.length=n∧t xs σ H Q
theorem xa3 {es:List Expr} {k:Nat} {t:TGs} {n:Nat} (hc:X.calm=true) (h:PGs X es t)
    (hn:(assignEach es X.env).length=n:=by rfl) (hst:(assignEach es X.env).findIdx? (·.1)=none:=by rfl):PG X (.Tuple es k pos) (gTup X.K n t):=by
  intro pins s σ H v u Q I r hw
  obtain ⟨a,xs,e1,hq,hl,hw⟩:=hw
  subst e1
  cases r
  obtain ⟨its,rv,ht,hz⟩:=I.tuple hq
  refine assign_Tuple_tuple (I.ok.hd hc) ht (by simp [hn,← hl,rv.length]) hst fun h' hx=>?_
  have I1:Inv X pins σ H { s with heap:=h' }:=I.kept (t':=s.toks) fun b o e=>hx b o (Nat.ne_of_lt (Heap.lt_size e)) e
  exact h pins _ σ H xs _ Q I1 (by simpa using rv) hw
def gSub (to ti:TE) (t:TSet):TG:=fun v σ H Q=>to σ H fun o H1=>ti σ H1 fun i H2=>t o i v H2 fun H3=>Q σ H3
theorem xfi {o i:Expr} {to ti:TE} {t:TSet} (ho:PE X o to) (hi:PE X i ti) (hs:PSet X t)
    (ha:∀ v,assign (.Subscript o i pos) X.env v=(do
      let ov ← holding [v] (eval o X.env)
      let iv ← holding [v,ov] (eval i X.env)
      standAt pos
      holding [v,ov,iv] (setItem ov iv v)
      release [v,ov,iv] []):=by intro _; rfl):PG X (.Subscript o i pos) (gSub to ti t):=by
  intro pins s σ H v u Q I r h
  rw [ha]
  refine wpAny_bind (wpAny_holding (thn (ho pins s σ H _ I h) fun ov s1 ⟨x,H1,I1,r1,q1⟩=>?_))
  refine wpAny_bind (wpAny_holding (thn (hi pins s1 σ H1 _ I1 q1) fun iv s2 ⟨y,H2,I2,r2,q2⟩=>?_))
  refine wpAny_bind (wpAny_standAt (wpAny_bind (wpAny_holding (thn (hs pins s2 σ H2 x y v ov iv u _ I2 r1 r2 r q2) fun _ s3 ⟨H3,I3,q3⟩=>?_))))
  exact wpAny_release ⟨σ,H3,I3,q3⟩
def tAsg (te:TE) (g:TG):TS:=fun D σ H=>te σ H fun x H1=>g x σ H1 D.nx
theorem xbe {tg e:Expr} {te:TE} {g:TG} (he:PE X e te) (hg:PG X tg g) (hs:swapsWithSole [tg] e pos.line X.env=pure false:=by rfl) (hw:swappedStores [tg] e X.env=pure none:=by rfl)
    (h1:(assignEach [tg] X.env).map (·.2)=[assign tg X.env]:=by rfl):PS X (.Assign [tg] e pos) (tAsg te g):=by
  intro pins s σ H D I h
  refine wpAny_Assign_stores (thn (he pins s σ H _ I h) fun v s1 ⟨x,H1,I1,r1,q1⟩=>?_) hs hw
  rw [h1]
  exact thn (hg pins s1 σ H1 x v _ I1 r1 q1) fun _ s2 q=>q
theorem x8 {i:Nat} {x:Str} {e:Expr} {te:TE} {pos':Pos} (hN:X.N.Nodup) (hi:X.N[i]?=some x) (hx:Loc X.env.scope x) (he:PE X e te) (hs:swapsWith e (some (.Name x pos')) pos.line X.env=pure false:=by rfl) (hf:X.fn x=true∨X.env.scope.names.lookup x=some .local:=by first | exact .inl rfl | exact .inr rfl | assumption) :
    PS X (.Assign [.Name x pos'] e pos) (tAsg te (xce i)):=by
  intro pins s σ H D I h
  refine wpAny_Assign_Name (thn (he pins s σ H _ I h) fun v s1 ⟨y,H1,I1,r1,q1⟩=>?_) hs
  exact xdr I1 hN hi hx r1 (fun s2 I2=>⟨_,H1,I2,q1⟩) hf
def tPar (i j:Nat) (ta:TA):TS:=fun D σ H=>ta σ H fun vs H1=>∃ v w,vs=[v,w]∧D.nx ((σ.set i (some v)).set j (some w)) H1
theorem xok {i j:Nat} {x y:Str} {a b:Expr} {ta:TA} {px py pt:Pos} {kt k2 pt2} (hc:X.calm=true) (hN:X.N.Nodup) (hi:X.N[i]?=some x) (hj:X.N[j]?=some y) (hij:i≠j)
    (hx:X.env.scope.names.lookup x=some .local) (hy:X.env.scope.names.lookup y=some .local) (ha:PA X [a,b] ta)
    (hw:swappedStores [.Tuple [.Name x px,.Name y py] kt pt] (.Tuple [a,b] k2 pt2) X.env=pure (some [x,y]))
    (hs:swapsWithSole [.Tuple [.Name x px,.Name y py] kt pt] (.Tuple [a,b] k2 pt2) pos.line X.env=pure false:=by rfl) :
    PS X (.Assign [.Tuple [.Name x px,.Name y py] kt pt] (.Tuple [a,b] k2 pt2) pos) (tPar i j ta):=by
  intro pins s σ H D I h
  rw [exec_Assign_arm]
  refine wpAny_bind (wpAny_standAt ?_)
  rw [hs]
  refine wpAny_bind (wpAny_pure ?_)
  rw [if_neg (by decide)]
  refine wpAny_bind (Tuple_ (thn (ha _ pins s σ H _ I h) fun us s1 ⟨vs,H1,I1,r1,q1⟩=>?_))
  obtain ⟨v,w,e1,q1⟩:=q1
  subst e1
  obtain ⟨u1,u2,rfl,rv,rw'⟩:∃ u1 u2,us=[u1,u2]∧RelV v u1∧RelV w u2:=by
    cases r1 with
    | cons p q =>
      cases q with
      | cons p' q' =>
        cases q'
        exact ⟨_,_,rfl,p,p'⟩
  refine wpAny_newObj_type ?_ (by show 2≤sizeLine; decide)
  have I2:Inv X pins σ H1 { s1 with heap:=s1.heap.push { cls:=.type "tuple",data:=.seq [u1,u2].toArray } }:=I1.kept (t':=s1.toks) fun b o e=>Heap.get?_push_of_some _ e
  rw [hw]
  refine wpAny_bind (wpAny_pure ?_)
  show wpAny (model X.prog X.w) X.A (do rule "assign.swapped-stores"; let items ← unpackItems (.ref s1.heap.objs.size) 2 none; assignInOrder [fun v=>bindName X.env y v,fun v=>bindName X.env x v] items.reverse; pure Flow.next) _ _ _
  refine wpAny_bind (wpAny_rule (wpAny_bind (unpackItems_tuple (items:=#[u1,u2]) (I.ok.hd hc) (IsTup.new s1.heap _) fun h' hx'=>?_)))
  have I3:=I2.kept (h':=h') (t':=s1.toks) fun b o e=>hx' b o (Nat.ne_of_lt (Heap.lt_size e)) e
  show wpAny _ _ (assignInOrder [fun v=>bindName X.env y v,fun v=>bindName X.env x v] [u2,u1] >>= fun _=>pure Flow.next) _ _ _
  refine wpAny_bind (assignInOrder_cons (wpAny_bindName (xdr I3 hN hj (.inl hy) rw' (fun s2 I4=>?_) (.inr hy))))
  refine assignInOrder_cons (wpAny_bindName (xdr I4 hN hi (.inl hx) rv (fun s3 I5=>assignInOrder_nil (wpAny_pure ?_)) (.inr hx)))
  rw [List.set_comm _ _ (Ne.symm hij)] at I5
  exact ⟨_,H1,I5,q1⟩
end
section
variable {X:Cx} {pos:Pos}
def xoj (c:TT) (tb:TS):TS:=fun D σ H=>∃ W:Nat→St→Hp→Prop,(∃ m,W m σ H)∧∀ m σ H,W m σ H →
 c σ H fun b H1=>if b=true then ∃ N:St→Hp→Prop,(∀ σ' H',N σ' H'→∃ m',m' < m∧W m' σ' H')∧tb { D with nx:=N,ct:=N,bk:=D.nx } σ H1 else D.nx σ H1
theorem xhi {c:Expr} {body:List Stmt} {tc:TT} {tb:TS} (hp:PassesOwn (model X.prog X.w) X.A X.env X.xe) (hc:PT X c tc) (hb:PSs X body tb):PS X (.While c body [] pos) (xoj tc tb):=by
 intro pins s σ H D I h
 obtain ⟨W,⟨m0,w0⟩,turn⟩:=h
 refine wpAny_While (codeAny_whileLoop (fun n s'=>∃ σ' H',Inv X pins σ' H' s'∧W n σ' H') ?_ m0 ⟨σ,H,I,w0⟩)
 rintro n s1 ⟨σ1,H1,I1,w1⟩
 refine wpAny_passesOwn hp (thn (hc pins s1 σ1 H1 _ I1 (turn n σ1 H1 w1)) fun b s2 ⟨H2,I2,q2⟩=>?_)
 cases b with
 | true =>
  obtain ⟨N,hN,q2⟩:=q2
  rw [if_pos rfl]
  refine wpAny_passesOwn hp (thn (hb pins s2 σ1 H2 _ I2 q2) fun f s3 q3=>?_)
  cases f with
  | next =>
   obtain ⟨σ3,H3,I3,n3⟩:=q3
   obtain ⟨m',hm,w3⟩:=hN σ3 H3 n3
   exact ⟨m',hm,σ3,H3,I3,w3⟩
  | cont =>
   obtain ⟨σ3,H3,I3,n3⟩:=q3
   obtain ⟨m',hm,w3⟩:=hN σ3 H3 n3
   exact ⟨m',hm,σ3,H3,I3,w3⟩
  | brk=>exact q3
  | ret v=>exact q3
 | false =>
  rw [if_neg Bool.false_ne_true]
  exact wpAny_execs_nil ⟨σ1,H2,I2,q2⟩
end
structure It where
 go:Nat→Hp→Prop
 yld:Nat→Hp→V→Hp→Prop
 stop:Nat→Hp→Prop
def FpOk (X:Cx) (pins:List (Addr × Obj)) (H:Hp) (b:Addr):Prop :=
 H b=none∧b≠X.env.locals∧b ∉ X.fs∧(b ∈ X.ex∨X.s₀.heap.objs.size≤b)∧(∀ x c,X.env.cells.lookup x=some c→c≠b)∧∀ p ∈ X.pn ++ pins,p.1≠b
theorem Inv.fpOk {X:Cx} {pins:List (Addr × Obj)} {σ:St} {H H':Hp} {s:Shared} {b:Addr} (I:Inv X pins σ H s) (hb:s.heap.objs.size≤b) (hn:H' b=none):FpOk X pins H' b:=by
 refine ⟨hn,Nat.ne_of_gt (Nat.lt_of_lt_of_le I.lt hb),I.nofs hb,.inr (Nat.le_trans I.sz hb),fun x c e z=>?_,fun p hp z=>?_⟩
 ·obtain ⟨v,q⟩:=I.cell x c e
  exact absurd (Nat.lt_of_lt_of_le q.lt (by rw [z]; exact hb)) (Nat.lt_irrefl _)
 ·exact absurd (Nat.lt_of_lt_of_le (Heap.lt_size (I.pin p hp).1) (by rw [z]; exact hb)) (Nat.lt_irrefl _)
structure Turn (P:Program) (w:World) (K:PySem.W.Frag) (tg:Expr) (J:It) (fp:List Addr) (it:Addr) (tn:Nat→Heap→Prop):Prop where
 mem:it ∈ fp
 obj:∀ i h,tn i h→∀ b ∈ fp,∃ o,h.get? b=some o∧∀ v,o.data≠.cell v
 keep:∀ i h h',tn i h→(∀ b ∈ fp,∀ o,h.get? b=some o→h'.get? b=some o)→tn i h'
 item:∀ (X:Cx),X.prog=P→X.w=w→X.K=K→X.calm=true→∀ (i:Nat) (pins:List (Addr × Obj)) (s:Shared) (σ:St) (H:Hp) (E:Value→Shared→Prop),Inv X pins σ H s→(∀ b ∈ fp,FpOk X pins H b)→tn i s.heap→J.go i H →
  wpAny (model P w) X.A (pyNext (.ref it)) (fun r s1=>∃ u,r=some u ∧
   wpAny (model P w) X.A (letOwnedTupleGo tg (.ref it) u) (fun _ s2=>∃ x H',Inv X pins σ H' s2∧RelV x u∧J.yld i H x H'∧tn (i + 1) s2.heap∧∀ b ∈ fp,H' b=none) E s1) E s
 done:∀ (X:Cx),X.prog=P→X.w=w→X.K=K→X.calm=true→∀ (i:Nat) (pins:List (Addr × Obj)) (s:Shared) (σ:St) (H:Hp) (E:Value→Shared→Prop),Inv X pins σ H s→(∀ b ∈ fp,FpOk X pins H b)→tn i s.heap→J.stop i H →
  wpAny (model P w) X.A (pyNext (.ref it)) (fun r s1=>r=none∧Inv X pins σ H s1) E s
 self:∀ (A:Around) (i:Nat) (s:Shared) (Q:Value→Shared→Prop) (E:Value→Shared→Prop),tn i s.heap→Q (.ref it) s→wpAny (model P w) A (pyIter (.ref it)) Q E s
abbrev TI:=St→Hp→(It→Hp→Prop)→Prop
def PIE (X:Cx) (pins:List (Addr × Obj)) (σ:St) (tg:Expr) (R:It→Hp→Prop) (itv:Value) (s2:Shared):Prop :=
 ∃ (it:Addr) (fp:List Addr) (tn:Nat→Heap→Prop) (J:It) (H':Hp),itv=.ref it∧Inv X pins σ H' s2∧Turn X.prog X.w X.K tg J fp it tn∧tn 0 s2.heap∧(∀ b ∈ fp,FpOk X pins H' b)∧R J H'
def PI (X:Cx) (tg iter:Expr) (wi:TI):Prop :=
 ∀ (pins:List (Addr × Obj)) (s:Shared) (σ:St) (H:Hp) (R:It→Hp→Prop),Inv X pins σ H s→wi σ H R →
  wpAny (model X.prog X.w) X.A (eval iter X.env) (fun v s1=>wpAny (model X.prog X.w) X.A (pyIter v) (PIE X pins σ tg R) X.xe s1) X.xe s
theorem xfg {M:Model} {A:Around} {E:Value→Shared→Prop} {s:Shared} {tg:Expr} {it:Addr} {u:Value} {o:Obj} {n:String} {vs:Array Value} {Q:Unit→Shared→Prop} (ho:s.heap.get? it=some o) (hc:o.cls=.type n) (hd:o.data=.fields vs)
    (hn:["enumerate", "zip", "dict_itemiterator", "dict_reverseitemiterator", "odict_iterator", "itertools.zip_longest", "itertools.pairwise"].contains n=false) (hQ:Q () s):wpAny M A (letOwnedTupleGo tg (.ref it) u) Q E s:=by
  unfold letOwnedTupleGo
  cases tg <;> first
    | exact wpAny_pure hQ
    | (cases u <;> first
        | exact wpAny_pure hQ
        | (refine wpAny_bind (wpAny_load ho ?_)
           rw [hc,hd]
           show wpAny M A (if (["enumerate", "zip", "dict_itemiterator", "dict_reverseitemiterator", "odict_iterator", "itertools.zip_longest", "itertools.pairwise"].contains n && vs[0]? == some (rawInt _))=true then _ else _) Q E s
           rw [if_neg (by intro h; rw [hn,Bool.false_and] at h; cases h)]
           exact wpAny_pure hQ))
def Itl (K:PySem.W.Frag) (a:Addr):It :=
 ⟨fun i H=>∃ xs x,SqL K H a xs∧xs[i]?=some x,fun i H x H'=>H'=H∧∀ xs,SqL K H a xs→xs[i]?=some x,fun i H=>∃ xs,SqL K H a xs∧xs.length≤i⟩
def Itr (lo:Int) (n:Nat):It:=⟨fun i _=>i < n,fun i H x H'=>H'=H∧x=.int (lo + i),fun i _=>n≤i⟩
theorem xlm {P:Program} {w:World} {K:PySem.W.Frag} {tg:Expr} (a it:Addr):Turn P w K tg (Itl K a) [it] it (fun i h=>h.IsListIter it a i) where
 mem:=by simp
 obj:=fun i h st b hb=>by
  have e:b=it:=by simpa using hb
  subst e
  obtain ⟨o,e,c,d⟩:=st
  exact ⟨o,e,fun v z=>by rw [d] at z; cases z⟩
 keep:=fun i h h' st k=>st.at fun o e=>k it (by simp) o e
 item:=by
  intro X hP hw hK hc i pins s σ H E I hf st hg
  subst hP hw hK
  obtain ⟨xs,x,hq,hx⟩:=hg
  obtain ⟨its,rv,p,hz⟩:=I.list hq
  obtain ⟨u,hu,ru⟩:=rv.get hx
  obtain ⟨f0,f1,f2,f3,f4,f5⟩:=hf it (by simp)
  refine wpAny_pyNext_list_item st p.isList (x:=u) (by simpa using hu) fun h' st' sb=>?_
  have I1:Inv X pins σ H { s with heap:=h' }:=I.turned (t':=s.toks) (fun b o hb e=>(sb.2 b hb).trans e) f0 f1 f3 f4 f5
  obtain ⟨o,e,c,d⟩:=id st'
  exact ⟨u,rfl,xfg (s:={ s with heap:=h' }) e c d (by decide) ⟨x,H,I1,ru,⟨rfl,fun ys hy=>by rw [I.list_inj hy hq]; exact hx⟩,st',fun b hb=>(hf b hb).1⟩⟩
 done:=by
  intro X hP hw hK hc i pins s σ H E I hf st hg
  subst hP hw hK
  obtain ⟨xs,hq,hx⟩:=hg
  obtain ⟨its,rv,p,hz⟩:=I.list hq
  obtain ⟨f0,f1,f2,f3,f4,f5⟩:=hf it (by simp)
  have hl:=rv.length
  exact wpAny_pyNext_list_end (I.ok.hd hc) st p.isList (by simp; omega) fun h' eb=>⟨rfl,I.turned (t':=s.toks) (fun b o hb e=>eb b o hb e) f0 f1 f3 f4 f5⟩
 self:=fun _ _ _ _ _ st h=>wpAny_pyIter_listiter st h
theorem xjg {P:Program} {w:World} {K:PySem.W.Frag} {tg:Expr} (it:Addr) (lo:Int) (n:Nat):Turn P w K tg (Itr lo n) [it] it (fun i h=>IsRangeIter h it (lo + (i:Nat) * 1) ((n:Int) - (i:Nat)) 1) where
 mem:=by simp
 obj:=fun i h st b hb=>by
  have e:b=it:=by simpa using hb
  subst e
  exact ⟨_,st,fun v z=>by
   have z':Data.fields _=Data.cell v:=z
   cases z'⟩
 keep:=fun i h h' st k=>k it (by simp) _ st
 item:=by
  intro X hP hw hK hc i pins s σ H E I hf st hg
  subst hP hw hK
  obtain ⟨f0,f1,f2,f3,f4,f5⟩:=hf it (by simp)
  have W:=Walks.range (prog:=X.prog) (w:=X.w) (I.ok.hd hc) it lo 1 n
  refine W.item i s _ _ hg st fun v h' tk hv st' kk=>?_
  obtain ⟨t,rfl⟩:=hv
  have I1:Inv X pins σ H { s with heap:=h',toks:=tk }:=I.turned (fun b o hb e=>kk b o (by simpa using hb) e) f0 f1 f3 f4 f5
  refine ⟨_,rfl,xfg (s:={ s with heap:=h',toks:=tk }) (n:="range_iterator") st' rfl rfl (by decide) ⟨.int (lo + i),H,I1,⟨t,?_⟩,⟨rfl,rfl⟩,st',fun b hb=>(hf b hb).1⟩⟩
  rw [Int.mul_one]
 done:=by
  intro X hP hw hK hc i pins s σ H E I hf st hg
  subst hP hw hK
  obtain ⟨f0,f1,f2,f3,f4,f5⟩:=hf it (by simp)
  exact wpAny_pyNext_range_end (I.ok.hd hc) st (by have:n≤i:=hg; omega) fun h' eb=>⟨rfl,I.turned (t':=s.toks) (fun b o hb e=>eb b o hb e) f0 f1 f3 f4 f5⟩
 self:=fun _ _ _ _ _ st h=>wpAny_pyIter_rangeiter st h
end L2
namespace L2
open PySem PySem.Spec PyProof.Rows
variable {q0:Bool}
section
variable {X:Cx} {tg:Expr}
def xph (K:PySem.W.Frag) (tl:TE):TI:=fun σ H R=>tl σ H fun x H1=>∃ a,x=.ref a∧(∃ xs,SqL K H1 a xs)∧R (Itl K a) H1
theorem xax {l:Expr} {tl:TE} (hl:PE X l tl):PI X tg l (xph X.K tl):=by
 intro pins s σ H R I h
 refine thn (hl pins s σ H _ I h) fun v s1 ⟨x,H1,I1,r1,q1⟩=>?_
 obtain ⟨a,e,⟨xs,hq⟩,q⟩:=q1
 subst e
 cases r1
 obtain ⟨its,rv,p,hz⟩:=I1.list hq
 refine wpAny_pyIter_list p.isList ?_
 refine ⟨s1.heap.objs.size,[s1.heap.objs.size],_,_,H1,rfl,I1.kept (t':=s1.toks) fun b o e=>Heap.get?_push_of_some _ e,xlm a _,⟨_,Heap.get?_push_size _ rfl,rfl,rfl⟩,fun b hb=>?_,q⟩
 have e:b=s1.heap.objs.size:=by simpa using hb
 subst e
 exact I1.fpOk (Nat.le_refl _) (I1.hok.fresh (Nat.le_refl _))
theorem xh0 {pins:List (Addr × Obj)} {σ:St} {H:Hp} {s:Shared} {R:It→Hp→Prop} {E:Value→Shared→Prop} {lo hi:Int} {t u v:Tok} {tk:Nat} (I:Inv X pins σ H s) (h1:-(2 ^ 62)≤lo) (h2:lo < 2 ^ 62) (h3:-(2 ^ 62)≤hi) (h4:hi < 2 ^ 62)
    (q:R (Itr lo (hi - lo).toNat) H):wpAny (model X.prog X.w) X.A (pyIter (.ref s.heap.objs.size)) (PIE X pins σ tg R) E { s with heap:=s.heap.push { cls:=.type "range",data:=.fields #[.int lo t,.int hi u,.int 1 v] },toks:=tk }:=by
  refine wpAny_pyIter_range (IsRange.new ..) (small_one h1 h2 h3 h4) ?_
  have I1:Inv X pins σ H { s with heap:=s.heap.push { cls:=.type "range",data:=.fields #[.int lo t,.int hi u,.int 1 v] },toks:=tk }:=I.kept fun b o e=>Heap.get?_push_of_some _ e
  refine ⟨(s.heap.push { cls:=.type "range",data:=.fields #[.int lo t,.int hi u,.int 1 v] }).objs.size,[(s.heap.push { cls:=.type "range",data:=.fields #[.int lo t,.int hi u,.int 1 v] }).objs.size],_,_,H,rfl,
    I1.kept (t':=tk) fun b o e=>Heap.get?_push_of_some _ e,xjg _ lo (hi - lo).toNat,?_,fun b hb=>?_,q⟩
  · have e1:lo + ((0:Nat):Int) * 1=lo:=by simp
    have e2:(((hi - lo).toNat:Nat):Int) - ((0:Nat):Int)=Builtin.Range.rangeSize lo hi 1:=by rw [rangeSize_one]; split <;> omega
    show IsRangeIter _ _ (lo + ((0:Nat):Int) * 1) ((((hi - lo).toNat:Nat):Int) - ((0:Nat):Int)) 1
    rw [e1,e2]
    exact Heap.get?_push_size _ rfl
  · have e:b=(s.heap.push { cls:=.type "range",data:=.fields #[.int lo t,.int hi u,.int 1 v] }).objs.size:=by simpa using hb
    subst e
    exact I1.fpOk (Nat.le_refl _) (I1.hok.fresh (Nat.le_refl _))
def xpk (ta:TA):TI:=fun σ H R=>ta σ H fun vs H1=>∃ j:Int,vs=[.int j]∧-(2 ^ 62)≤j∧j < 2 ^ 62∧R (Itr 0 j.toNat) H1
def xp7 (ta:TA):TI:=fun σ H R=>ta σ H fun vs H1=>∃ i j:Int,vs=[.int i,.int j]∧(-(2 ^ 62)≤i∧i < 2 ^ 62∧-(2 ^ 62)≤j∧j < 2 ^ 62)∧R (Itr i (j - i).toNat) H1
theorem xgf {a:Expr} {ta:TA} {p pos:Pos} (hg:Gl X "range") (hm:X.mg "range"=none) (ha:PA X [a] ta) (hs:starEach [a] X.env=[(false,eval a X.env)]:=by rfl):PI X tg (.Call (.Name "range" p) [a] [] pos) (xpk ta):=by
 intro pins s σ H R I h
 refine Call_ (xb1 I hg hm boot_range (PyProof.Rows.callWith_type1 (thn (ha pos pins s σ H _ I h) fun us s1 ⟨vs,H1,I1,r1,q1⟩=>?_) hs rfl))
 obtain ⟨j,e,q1,q2,q⟩:=q1
 subst e
 cases r1 with
 | cons r rr =>
  cases rr
  obtain ⟨t,rfl⟩:=r
  exact call_range_1 (xh0 I1 (by omega) (by omega) q1 q2 (by simpa using q))
theorem xgj {a b:Expr} {ta:TA} {p pos:Pos} (hg:Gl X "range") (hm:X.mg "range"=none) (ha:PA X [a,b] ta) (hs:starEach [a,b] X.env=[(false,eval a X.env),(false,eval b X.env)]:=by rfl) (hs2:starEach [b] X.env=[(false,eval b X.env)]:=by rfl) :
    PI X tg (.Call (.Name "range" p) [a,b] [] pos) (xp7 ta):=by
  intro pins s σ H R I h
  refine Call_ (xb1 I hg hm boot_range (PyProof.Rows.callWith_type1 (thn (ha pos pins s σ H _ I h) fun us s1 ⟨vs,H1,I1,r1,q1⟩=>?_) (by rw [hs,hs2]) (by rw [hs2]; rfl)))
  obtain ⟨i,j,e,⟨q1,q2,q3,q4⟩,q⟩:=q1
  subst e
  cases r1 with
  | cons r rr =>
    cases rr with
    | cons r' rr =>
      cases rr
      obtain ⟨t,rfl⟩:=r
      obtain ⟨t',rfl⟩:=r'
      exact call_range_2 (xh0 I1 q1 q2 q3 q4 q)
def tFor (wi:TI) (g:TG) (tb:TS):TS:=fun D σ H=>wi σ H fun J H1=>∃ W:Nat→Nat→St→Hp→Prop,(∃ m,W 0 m σ H1)∧∀ i m σ H,W i m σ H →
 (J.stop i H∧D.nx σ H)∨(J.go i H∧∃ N:St→Hp→Prop,(∀ σ' H',N σ' H'→∃ m',m' < m∧W (i + 1) m' σ' H')∧∀ x H',J.yld i H x H'→g x σ H' fun σ2 H2=>tb { D with nx:=N,ct:=N,bk:=D.nx } σ2 H2)
def xeh (fp:List Addr) (h:Heap):List (Addr × Obj):=fp.filterMap fun b=>(h.get? b).map fun o=>(b,o)
theorem xcb {fp:List Addr} {h:Heap} {b:Addr} {o:Obj} (hb:b ∈ fp) (e:h.get? b=some o):(b,o) ∈ xeh fp h:=List.mem_filterMap.mpr ⟨b,hb,by rw [e]; rfl⟩
theorem xkl {fp:List Addr} {h:Heap} {p:Addr × Obj} (hp:p ∈ xeh fp h):p.1 ∈ fp∧h.get? p.1=some p.2:=by
 obtain ⟨b,hb,e⟩:=List.mem_filterMap.mp hp
 cases q:h.get? b with
 | none=>rw [q] at e; cases e
 | some o =>
  rw [q] at e
  have e':(b,o)=p:=Option.some.inj e
  subst e'
  exact ⟨hb,q⟩
theorem Inv.pinned {pins:List (Addr × Obj)} {σ:St} {H:Hp} {s:Shared} {fp:List Addr} (I:Inv X pins σ H s) (hf:∀ b ∈ fp,FpOk X pins H b) (ho:∀ b ∈ fp,∃ o,s.heap.get? b=some o∧∀ v,o.data≠.cell v):Inv X (pins ++ xeh fp s.heap) σ H s :=
 I.pins_of fun p hp=>(List.mem_append.mp hp).elim (fun z=>I.pin p (List.mem_append_right _ z)) fun z=>by
  obtain ⟨hb,e⟩:=xkl z
  obtain ⟨f0,f1,f2,_⟩:=hf p.1 hb
  obtain ⟨o,e',d⟩:=ho p.1 hb
  rw [e] at e'; cases e'
  exact ⟨e,f0,f1,f2,d⟩
theorem Inv.unpinned {pins pl:List (Addr × Obj)} {σ:St} {H:Hp} {s:Shared} (I:Inv X (pins ++ pl) σ H s):Inv X pins σ H s:=I.pins_of fun p hp=>I.pin p (List.mem_append_right _ (List.mem_append_left _ hp))
theorem xbl {iter:Expr} {body:List Stmt} {wi:TI} {g:TG} {tb:TS} {pos:Pos} (hp:PassesOwn (model X.prog X.w) X.A X.env X.xe) (hc:X.calm=true) (hi:PI X tg iter wi) (hg:PG X tg g) (hb:PSs X body tb)
    (hs:∀ x,foldedSetIterable iter X.env x=pure x:=by intro _; rfl):PS X (.For tg iter body [] pos) (tFor wi g tb):=by
  intro pins s σ H D I h
  refine wpAny_For (thn (hi pins s σ H _ I h) fun v s1 h1=>thn h1 fun itv s2 h2=>?_) hs
  obtain ⟨it,fp,tn,J,H2,e,I2,T,st2,f2,W,⟨m0,w0⟩,turn⟩:=h2
  subst e
  -- what stays true of the iterator's objects through the loop
  have stat:∀ {H':Hp},(∀ b ∈ fp,H' b=none)→∀ b ∈ fp,FpOk X pins H' b:=fun hn b hb=>⟨hn b hb,(f2 b hb).2⟩
  refine codeAny_forLoop_any (fun n s'=>∃ i σ' H',Inv X pins σ' H' s'∧tn i s'.heap∧(∀ b ∈ fp,H' b=none)∧W i n σ' H') ?_ m0 ⟨0,σ,H2,I2,st2,fun b hb=>(f2 b hb).1,w0⟩
  rintro n s3 ⟨i,σ3,H3,I3,st3,fr3,w3⟩
  rcases turn i n σ3 H3 w3 with ⟨stop,qn⟩ | ⟨go,N,hN,step⟩
  · refine wpAny_passesOwn hp (thn (T.done X rfl rfl rfl hc i pins s3 σ3 H3 X.xe I3 (stat fr3) st3 stop) fun r s4 ⟨hr,I4⟩=>?_)
    subst hr
    exact wpAny_execs_nil ⟨σ3,H3,I4,qn⟩
  · refine wpAny_passesOwn hp (thn (T.item X rfl rfl rfl hc i pins s3 σ3 H3 X.xe I3 (stat fr3) st3 go) fun r s4 ⟨u,hr,h4⟩=>?_)
    subst hr
    refine wpAny_passesOwn hp (thn h4 fun _ s5 ⟨x,H5,I5,r5,y5,st5,fr5⟩=>?_)
    have I5':=I5.pinned (stat fr5) (T.obj _ _ st5)
    refine wpAny_passesOwn hp (thn (hg _ s5 σ3 H5 x u _ I5' r5 (step x H5 y5)) fun _ s6 ⟨σ6,H6,I6,q6⟩=>?_)
    refine wpAny_passesOwn hp (thn (hb _ s6 σ6 H6 _ I6 q6) fun f s7 q7=>?_)
    have again:∀ {σ7:St} {H7:Hp},Inv X (pins ++ xeh fp s5.heap) σ7 H7 s7→N σ7 H7→∃ m,m < n∧∃ i σ' H',Inv X pins σ' H' s7∧tn i s7.heap∧(∀ b ∈ fp,H' b=none)∧W i m σ' H':=fun {σ7 H7} I7 n7=>by
      obtain ⟨m',hm,w7⟩:=hN σ7 H7 n7
      refine ⟨m',hm,i + 1,σ7,H7,I7.unpinned,T.keep _ _ _ st5 fun b hb o e=>(I7.pin (b,o) (List.mem_append_right _ (List.mem_append_right _ (xcb hb e)))).1,fun b hb=>?_,w7⟩
      obtain ⟨o,e,d⟩:=T.obj _ _ st5 b hb
      exact (I7.pin (b,o) (List.mem_append_right _ (List.mem_append_right _ (xcb hb e)))).2.1
    cases f with
    | next=>obtain ⟨σ7,H7,I7,n7⟩:=q7; exact again I7 n7
    | cont=>obtain ⟨σ7,H7,I7,n7⟩:=q7; exact again I7 n7
    | brk=>obtain ⟨σ7,H7,I7,q7⟩:=q7; exact ⟨σ7,H7,I7.unpinned,q7⟩
    | ret v=>obtain ⟨x7,σ7,H7,I7,r7,q7⟩:=q7; exact ⟨x7,σ7,H7,I7.unpinned,r7,q7⟩
end
theorem xch {K:PySem.W.Frag} {a:Addr} {xs:List V} {g:TG} {tb:TS} {D:Ends} {σ:St} {H:Hp} (Pv:Nat→St→Hp→Prop) (h0:Pv 0 σ H) (hl:∀ i σ H,i≤xs.length→Pv i σ H→SqL K H a xs)
    (hs:∀ i x σ H,xs[i]?=some x→Pv i σ H→g x σ H fun σ2 H2=>tb { D with nx:=Pv (i + 1),ct:=Pv (i + 1),bk:=D.nx } σ2 H2) (hd:∀ σ H,Pv xs.length σ H→D.nx σ H) :
    ∃ W:Nat→Nat→St→Hp→Prop,(∃ m,W 0 m σ H)∧∀ i m σ H,W i m σ H →
      ((Itl K a).stop i H∧D.nx σ H)∨((Itl K a).go i H∧∃ N:St→Hp→Prop,(∀ σ' H',N σ' H'→∃ m',m' < m∧W (i + 1) m' σ' H')∧∀ x H',(Itl K a).yld i H x H'→g x σ H' fun σ2 H2=>tb { D with nx:=N,ct:=N,bk:=D.nx } σ2 H2):=by
  refine ⟨fun i m σ H=>m=xs.length - i∧i≤xs.length∧Pv i σ H,⟨xs.length,by simp,Nat.zero_le _,h0⟩,?_⟩
  rintro i m σ H ⟨rfl,hi,p⟩
  have q:=hl i σ H hi p
  by_cases hlt:i < xs.length
  · refine .inr ⟨⟨xs,xs[i],q,by simp [hlt]⟩,Pv (i + 1),fun σ' H' p'=>⟨xs.length - (i + 1),by omega,rfl,hlt,p'⟩,fun x H' y=>?_⟩
    obtain ⟨e,y⟩:=y
    subst e
    exact hs i x σ _ (y xs q) p
  · have e:i=xs.length:=by omega
    subst e
    exact .inl ⟨⟨xs,q,Nat.le_refl _⟩,hd σ H p⟩
theorem xdb {lo:Int} {n:Nat} {g:TG} {tb:TS} {D:Ends} {σ:St} {H:Hp} (Pv:Nat→St→Hp→Prop) (h0:Pv 0 σ H)
    (hs:∀ i σ H,i < n→Pv i σ H→g (.int (lo + i)) σ H fun σ2 H2=>tb { D with nx:=Pv (i + 1),ct:=Pv (i + 1),bk:=D.nx } σ2 H2) (hd:∀ σ H,Pv n σ H→D.nx σ H) :
    ∃ W:Nat→Nat→St→Hp→Prop,(∃ m,W 0 m σ H)∧∀ i m σ H,W i m σ H →
      ((Itr lo n).stop i H∧D.nx σ H)∨((Itr lo n).go i H∧∃ N:St→Hp→Prop,(∀ σ' H',N σ' H'→∃ m',m' < m∧W (i + 1) m' σ' H')∧∀ x H',(Itr lo n).yld i H x H'→g x σ H' fun σ2 H2=>tb { D with nx:=N,ct:=N,bk:=D.nx } σ2 H2):=by
  refine ⟨fun i m σ H=>m=n - i∧i≤n∧Pv i σ H,⟨n,by simp,Nat.zero_le _,h0⟩,?_⟩
  rintro i m σ H ⟨rfl,hi,p⟩
  by_cases hlt:i < n
  · refine .inr ⟨hlt,Pv (i + 1),fun σ' H' p'=>⟨n - (i + 1),by omega,rfl,hlt,p'⟩,fun x H' y=>?_⟩
    obtain ⟨e,y⟩:=y
    subst e y
    exact hs i σ _ hlt p
  · have e:i=n:=by omega
    subst e
    exact .inl ⟨Nat.le_refl _,hd σ H p⟩
end L2
namespace L2
open PySem PySem.Spec PyProof.Rows
variable {q0:Bool}
abbrev R2:=V→V→Hp→VK→Prop
def OpR (X:Cx) (f:Value→Value→Sem Value) (r:R2):Prop :=
 ∀ (pins:List (Addr × Obj)) (s:Shared) (σ:St) (H:Hp) (x y:V) (v u:Value) (Q:VK),Inv X pins σ H s→RelV x v→RelV y u→r x y H Q →
  wpAny (model X.prog X.w) X.A (f v u) (EP X pins σ Q) X.xe s
def UnR (X:Cx) (f:Value→Sem Value) (r:V→Hp→VK→Prop):Prop :=
 ∀ (pins:List (Addr × Obj)) (s:Shared) (σ:St) (H:Hp) (x:V) (v:Value) (Q:VK),Inv X pins σ H s→RelV x v→r x H Q →
  wpAny (model X.prog X.w) X.A (f v) (EP X pins σ Q) X.xe s
def xbs (X:Cx) (f:Value) (r:List V→Hp→VK→Prop):Prop :=
 ∀ (pins:List (Addr × Obj)) (s:Shared) (σ:St) (H:Hp) (xs:List V) (us:List Value) (Q:VK),Inv X pins σ H s→Vals xs us→r xs H Q →
  wpAny (model X.prog X.w) X.A (call f us) (EP X pins σ Q) X.xe s
def tOp (r:R2) (ta tb:TE):TE:=fun σ H Q=>ta σ H fun x H1=>tb σ H1 fun y H2=>r x y H2 Q
def tUn (r:V→Hp→VK→Prop) (ta:TE):TE:=fun σ H Q=>ta σ H fun x H1=>r x H1 Q
def rI (C:Int→Int→Prop) (g:Int→Int→V):R2:=fun x y H Q=>∃ i j,x=.int i∧y=.int j∧C i j∧Q (g i j) H
def rI0 (g:Int→Int→V):R2:=fun x y H Q=>∃ i j,x=.int i∧y=.int j∧Q (g i j) H
def rU (g:Int→V):V→Hp→VK→Prop:=fun x H Q=>∃ i,x=.int i∧Q (g i) H
section
variable {X:Cx} {a b c:Expr} {ta tb tc:TE} {pos:Pos}
theorem binT (ha:PE X a ta) (hb:PE X b tb) {pins:List (Addr × Obj)} {s:Shared} {σ:St} {H:Hp} {R:V→V→Hp→Prop} (I:Inv X pins σ H s)
    (h:ta σ H fun x H1=>tb σ H1 fun y H2=>R x y H2) {Q:Value→Shared→Prop} {f:Value→Value→Sem Value}
    (hf:∀ v u s2 x y H2,Inv X pins σ H2 s2→RelV x v→RelV y u→R x y H2→wpAny (model X.prog X.w) X.A (f v u) Q X.xe s2) :
    wpAny (model X.prog X.w) X.A (eval a X.env) (fun v s₁=>wpAny (model X.prog X.w) X.A (eval b X.env) (fun u s₂=>wpAny (model X.prog X.w) X.A (f v u) Q X.xe s₂) X.xe s₁) X.xe s:=by
  refine thn (ha pins s σ H _ I h) fun v s1 ⟨x,H1,I1,r1,q1⟩=>?_
  refine thn (hb pins s1 σ H1 _ I1 q1) fun u s2 ⟨y,H2,I2,r2,q2⟩=>?_
  exact hf v u s2 x y H2 I2 r1 r2 q2
theorem xt {op:Operator} {r:R2} (ho:OpR X (binaryOp op) r) (ha:PE X a ta) (hb:PE X b tb):PE X (.BinOp a op b pos) (tOp r ta tb):=by
 intro pins s σ H Q I h
 exact wpAny_BinOp (binT ha hb I h fun v u s2 x y H2 I2 rx ry q=>ho pins s2 σ H2 x y v u Q I2 rx ry q)
theorem xg2 {op:UnaryOp} {r:V→Hp→VK→Prop} (ho:UnR X (unaryOp op) r) (ha:PE X a ta):PE X (.UnaryOp op a pos) (tUn r ta):=by
 intro pins s σ H Q I h
 exact UnaryOp_ (thn (ha pins s σ H _ I h) fun v s1 ⟨x,H1,I1,r1,q1⟩=>ho pins s1 σ H1 x v Q I1 r1 q1)
theorem opI {f:Value→Value→Sem Value} {C:Int→Int→Prop} {g:Int→Int→Int}
    (rule:∀ (i j:Int) (t u:Tok) (s:Shared) (Q:Value→Shared→Prop) (E:Value→Shared→Prop),C i j→Q (.int (g i j) s.toks) { s with toks:=s.toks + 1 }→wpAny (model X.prog X.w) X.A (f (.int i t) (.int j u)) Q E s) :
    OpR X f (rI C fun i j=>.int (g i j)):=by
  intro pins s σ H x y v u Q I rx ry h
  obtain ⟨i,j,rfl,rfl,hc,q⟩:=h
  obtain ⟨t,rfl⟩:=rx
  obtain ⟨t',rfl⟩:=ry
  exact rule i j t t' s _ _ hc ⟨.int (g i j),H,I.tok _,⟨_,rfl⟩,q⟩
theorem opI0 {f:Value→Value→Sem Value} {g:Int→Int→Int}
    (rule:∀ (i j:Int) (t u:Tok) (s:Shared) (Q:Value→Shared→Prop) (E:Value→Shared→Prop),Q (.int (g i j) s.toks) { s with toks:=s.toks + 1 }→wpAny (model X.prog X.w) X.A (f (.int i t) (.int j u)) Q E s) :
    OpR X f (rI0 fun i j=>.int (g i j)):=by
  intro pins s σ H x y v u Q I rx ry h
  obtain ⟨i,j,rfl,rfl,q⟩:=h
  obtain ⟨t,rfl⟩:=rx
  obtain ⟨t',rfl⟩:=ry
  exact rule i j t t' s _ _ ⟨.int (g i j),H,I.tok _,⟨_,rfl⟩,q⟩
theorem opB0 {f:Value→Value→Sem Value} {g:Int→Int→Bool}
    (rule:∀ (i j:Int) (t u:Tok) (s:Shared) (Q:Value→Shared→Prop) (E:Value→Shared→Prop),Q (.bool (g i j)) s→wpAny (model X.prog X.w) X.A (f (.int i t) (.int j u)) Q E s) :
    OpR X f (rI0 fun i j=>.bl (g i j)):=by
  intro pins s σ H x y v u Q I rx ry h
  obtain ⟨i,j,rfl,rfl,q⟩:=h
  obtain ⟨t,rfl⟩:=rx
  obtain ⟨t',rfl⟩:=ry
  exact rule i j t t' s _ _ ⟨.bl (g i j),H,I,rfl,q⟩
def CDiv (i j:Int):Prop:=0 < j∧j < 1073741824
def CPow (i j:Int):Prop:=0≤j∧j≤1000000∧i.natAbs < 2 ^ 64
def CMul (i j:Int):Prop:=(-(2 ^ 64) < i∧i < 2 ^ 64)∨(-(2 ^ 64) < j∧j < 2 ^ 64)
theorem CMul.ok {i j:Int} (h:CMul i j):IntMulOk i j:=by
 rcases h with ⟨h1,h2⟩ | ⟨h1,h2⟩
 ·exact .of_left (intBits_le_64 h1 h2)
 ·exact .of_right (intBits_le_64 h1 h2)
theorem xjd (k:Nat):(0:Int)≤2 ^ k:=by
 rw [two_pow_cast]
 exact Int.natCast_nonneg _
theorem xah:OpR X (binaryOp .Add) (rI0 fun i j=>.int (i + j)):=opI0 fun _ _ _ _ _ _ _ q=>add_int q
theorem xdo:OpR X (binaryOp .Sub) (rI0 fun i j=>.int (i - j)):=opI0 fun _ _ _ _ _ _ _ q=>sub_int q
theorem xbt:OpR X (binaryOp .Mult) (rI CMul fun i j=>.int (i * j)):=opI fun _ _ _ _ _ _ _ hc q=>mul_int q hc.ok
theorem xcx:OpR X (binaryOp .FloorDiv) (rI CDiv fun i j=>.int (i / j)):=opI fun i j _ _ _ _ _ hc q=>by
 have h1:(0:Int) < j:=hc.1
 have h2:j < 1073741824:=hc.2
 exact floordiv_int (by omega) (by rw [Int.fdiv_eq_ediv_of_nonneg i (by omega)]; exact q) (.inl (PyProof.noPylong_small (by omega)))
theorem xar:OpR X (binaryOp .Mod) (rI (fun _ j=>0 < j) fun i j=>.int (i % j)):=opI fun i j _ _ _ _ _ hc q=>by
 have h1:(0:Int) < j:=hc
 exact mod_int' (by omega) (by rw [Int.fmod_eq_emod_of_nonneg i (by omega)]; exact q)
theorem xn8:OpR X (binaryOp .Pow) (rI CPow fun i j=>.int (i ^ j.toNat)):=opI fun _ _ _ _ _ _ _ hc q=>pow_int_small hc.1 hc.2.1 hc.2.2 q
theorem xln:OpR X (binaryOp .RShift) (rI (fun _ j=>0≤j) fun i j=>.int (i / 2 ^ j.toNat)):=opI fun i j _ _ _ _ _ hc q =>
 rshift_int hc (by rw [Int.fdiv_eq_ediv_of_nonneg i (xjd _)]; exact q)
theorem xo0:OpR X (binaryOp .BitAnd) (rI0 fun i j=>.int (Builtin.bitAnd i j)):=opI0 fun _ _ _ _ _ _ _ q=>and_int q
theorem unI {f:Value→Sem Value} {g:Int→Int}
    (rule:∀ (i:Int) (t:Tok) (s:Shared) (Q:Value→Shared→Prop) (E:Value→Shared→Prop),Q (.int (g i) s.toks) { s with toks:=s.toks + 1 }→wpAny (model X.prog X.w) X.A (f (.int i t)) Q E s) :
    UnR X f (rU fun i=>.int (g i)):=by
  intro pins s σ H x v Q I rx h
  obtain ⟨i,rfl,q⟩:=h
  obtain ⟨t,rfl⟩:=rx
  exact rule i t s _ _ ⟨.int (g i),H,I.tok _,⟨_,rfl⟩,q⟩
theorem xfa:UnR X (unaryOp .USub) (rU fun i=>.int (-i)):=unI fun _ _ _ _ _ q=>neg_int q
end
def scal:V→V→Bool
 | .non,.non=>true | .non,.int _=>true | .int _,.non=>true | .non,.bl _=>true | .bl _,.non=>true | .non,.str _=>true | .str _,.non=>true
 | .int _,.int _=>true | .bl _,.bl _=>true | .str _,.str _=>true | .byt _,.byt _=>true
 | .int _,.str _=>true | .str _,.int _=>true | .bl _,.str _=>true | .str _,.bl _=>true
 | _,_=>false
def rEq:R2:=fun x y H Q=>scal x y=true∧Q (.bl (decide (x=y))) H
def rNe:R2:=fun x y H Q=>scal x y=true∧Q (.bl (!decide (x=y))) H
theorem xiv {i j:Int}:decide (V.int i=V.int j)=(i == j):=by
 rw [Bool.eq_iff_iff]
 simp
theorem xkf {i j:Bool}:decide (V.bl i=V.bl j)=(i == j):=by
 rw [Bool.eq_iff_iff]
 simp
theorem xio {i j:Str}:decide (V.str i=V.str j)=(i == j):=by
 rw [Bool.eq_iff_iff]
 simp
theorem xik {i j:Array UInt8}:decide (V.byt i=V.byt j)=(i.toList == j.toList):=by
 rw [Bool.eq_iff_iff]
 cases i
 cases j
 simp
section
variable {X:Cx} {a b c:Expr} {ta tb tc:TE} {pos:Pos}
theorem xad {pins:List (Addr × Obj)} {σ:St} {H:Hp} {s:Shared} {Q:VK} {k k':Bool} (I:Inv X pins σ H s) (q:Q (.bl k) H) (e:k=k'):EP X pins σ Q (.bool k') s:=by
 subst e
 exact ⟨.bl k,H,I,rfl,q⟩
theorem xct:OpR X (compareOp .Eq) rEq:=by
 intro pins s σ H x y v u Q I rx ry h
 obtain ⟨hs,q⟩:=h
 cases x with
 | non =>
  cases rx
  cases y with
  | non=>cases ry; exact PySem.EqNone.eq_none_none (xad I q (by simp))
  | bl j=>cases ry; exact PySem.EqNone.eq_none_bool (xad I q (by simp))
  | int j=>obtain ⟨t',rfl⟩:=ry; exact PySem.EqNone.eq_none_int (xad I q (by simp))
  | str j=>obtain ⟨t',rfl⟩:=ry; exact PySem.EqNone.eq_none_str (xad I q (by simp))
  | _=>exact absurd (show false=true from hs) Bool.false_ne_true
 | bl i =>
  cases rx
  cases y with
  | non=>cases ry; exact PySem.EqNone.eq_bool_none (xad I q (by simp))
  | bl j=>cases ry; exact eq_bool (xad I q xkf)
  | str j=>obtain ⟨t',rfl⟩:=ry; exact PySem.EqMixed.eq_bool_str (xad I q (by simp))
  | _=>exact absurd (show false=true from hs) Bool.false_ne_true
 | int i =>
  obtain ⟨t,rfl⟩:=rx
  cases y with
  | non=>cases ry; exact PySem.EqNone.eq_int_none (xad I q (by simp))
  | int j=>obtain ⟨t',rfl⟩:=ry; exact eq_int (xad I q xiv)
  | str j=>obtain ⟨t',rfl⟩:=ry; exact PySem.EqMixed.eq_int_str (xad I q (by simp))
  | _=>exact absurd (show false=true from hs) Bool.false_ne_true
 | str i =>
  obtain ⟨t,rfl⟩:=rx
  cases y with
  | non=>cases ry; exact PySem.EqNone.eq_str_none (xad I q (by simp))
  | bl j=>cases ry; exact PySem.EqMixed.eq_str_bool (xad I q (by simp))
  | int j=>obtain ⟨t',rfl⟩:=ry; exact PySem.EqMixed.eq_str_int (xad I q (by simp))
  | str j=>obtain ⟨t',rfl⟩:=ry; exact eq_str (xad I q xio)
  | _=>exact absurd (show false=true from hs) Bool.false_ne_true
 | byt i =>
  obtain ⟨t,rfl⟩:=rx
  cases y with
  | byt j=>obtain ⟨t',rfl⟩:=ry; exact PySem.W.eq_bytes (xad I q xik)
  | _=>exact absurd (show false=true from hs) Bool.false_ne_true
 | _=>cases y <;> exact absurd (show false=true from hs) Bool.false_ne_true
theorem xmq:OpR X (compareOp .NotEq) rNe:=by
 intro pins s σ H x y v u Q I rx ry h
 obtain ⟨hs,q⟩:=h
 cases x with
 | non =>
  cases rx
  cases y with
  | non=>cases ry; exact PySem.EqNone.ne_none_none (xad I q (by simp))
  | bl j=>cases ry; exact PySem.EqNone.ne_none_bool (xad I q (by simp))
  | int j=>obtain ⟨t',rfl⟩:=ry; exact PySem.EqNone.ne_none_int (xad I q (by simp))
  | str j=>obtain ⟨t',rfl⟩:=ry; exact PySem.EqNone.ne_none_str (xad I q (by simp))
  | _=>exact absurd (show false=true from hs) Bool.false_ne_true
 | bl i =>
  cases rx
  cases y with
  | non=>cases ry; exact PySem.EqNone.ne_bool_none (xad I q (by simp))
  | bl j=>cases ry; exact ne_bool (xad I q (congrArg not xkf))
  | str j=>obtain ⟨t',rfl⟩:=ry; exact PySem.EqMixed.ne_bool_str (xad I q (by simp))
  | _=>exact absurd (show false=true from hs) Bool.false_ne_true
 | int i =>
  obtain ⟨t,rfl⟩:=rx
  cases y with
  | non=>cases ry; exact PySem.EqNone.ne_int_none (xad I q (by simp))
  | int j=>obtain ⟨t',rfl⟩:=ry; exact ne_int (xad I q (congrArg not xiv))
  | str j=>obtain ⟨t',rfl⟩:=ry; exact PySem.EqMixed.ne_int_str (xad I q (by simp))
  | _=>exact absurd (show false=true from hs) Bool.false_ne_true
 | str i =>
  obtain ⟨t,rfl⟩:=rx
  cases y with
  | non=>cases ry; exact PySem.EqNone.ne_str_none (xad I q (by simp))
  | bl j=>cases ry; exact PySem.EqMixed.ne_str_bool (xad I q (by simp))
  | int j=>obtain ⟨t',rfl⟩:=ry; exact PySem.EqMixed.ne_str_int (xad I q (by simp))
  | str j=>obtain ⟨t',rfl⟩:=ry; exact ne_str (xad I q (congrArg not xio))
  | _=>exact absurd (show false=true from hs) Bool.false_ne_true
 | byt i =>
  obtain ⟨t,rfl⟩:=rx
  cases y with
  | byt j=>obtain ⟨t',rfl⟩:=ry; exact PySem.W.ne_bytes (xad I q (congrArg not xik))
  | _=>exact absurd (show false=true from hs) Bool.false_ne_true
 | _=>cases y <;> exact absurd (show false=true from hs) Bool.false_ne_true
theorem xjs:OpR X (compareOp .Lt) (rI0 fun i j=>.bl (decide (i < j))):=opB0 fun _ _ _ _ _ _ _ q=>lt_int q
theorem xeq:OpR X (compareOp .LtE) (rI0 fun i j=>.bl (decide (i≤j))):=opB0 fun _ _ _ _ _ _ _ q=>le_int q
theorem xjj:OpR X (compareOp .Gt) (rI0 fun i j=>.bl (decide (j < i))):=opB0 fun _ _ _ _ _ _ _ q=>gt_int q
theorem xpq:OpR X (compareOp .GtE) (rI0 fun i j=>.bl (decide (j≤i))):=opB0 fun _ _ _ _ _ _ _ q=>ge_int q
theorem xoa:OpR X (compareOp .Is) (fun x y H Q=>y=.non∧Q (.bl (decide (x=.non))) H):=by
 intro pins s σ H x y v u Q I rx ry h
 obtain ⟨rfl,q⟩:=h
 cases ry
 refine is_none_gen (xad I q ?_)
 cases x <;> first
  | (cases rx; rfl)
  | (obtain ⟨t,rfl⟩:=rx; rfl)
theorem xit:OpR X (compareOp .IsNot) (fun x y H Q=>y=.non∧Q (.bl (!decide (x=.non))) H):=by
 intro pins s σ H x y v u Q I rx ry h
 obtain ⟨rfl,q⟩:=h
 cases ry
 refine isnot_none_gen (xad I q ?_)
 cases x <;> first
  | (cases rx; rfl)
  | (obtain ⟨t,rfl⟩:=rx; rfl)
def isObj:HO→Bool
 | .lst _=>true
 | .ins _ _ _=>true
 | _=>false
theorem xan (b:Expr) {op:CmpOp} (h:op≠.In:=by decide) (h2:op≠.NotIn:=by decide):behindInMarks op b=false:=by
 have e1:(op == CmpOp.In)=false:=by cases op <;> first | rfl | exact absurd rfl h
 have e2:(op == CmpOp.NotIn)=false:=by cases op <;> first | rfl | exact absurd rfl h2
 cases b <;> simp [behindInMarks,e1,e2]
theorem xcz {op:CmpOp} {r:R2} (ho:OpR X (compareOp op) r) (ha:PE X a ta) (hb:PE X b tb) (hm:behindInMarks op b=false):PE X (.Compare a [op] [b] pos) (tOp r ta tb):=by
 intro pins s σ H Q I h
 exact wpAny_Compare1 (binT ha hb I h fun v u s2 x y H2 I2 rx ry q=>ho pins s2 σ H2 x y v u Q I2 rx ry q) hm
def xp3 (t:TE):TT:=fun σ H Q=>t σ H fun x H'=>∃ k,x=.bl k∧Q k H'
theorem xag {op:CmpOp} {r:R2} (ho:OpR X (compareOp op) r) (ha:PE X a ta) (hb:PE X b tb) (hm:behindInMarks op b=false):PT X (.Compare a [op] [b] pos) (xp3 (tOp r ta tb)):=by
 intro pins s σ H Q I h
 refine wpAny_isTrue_Compare1 (thn (ha pins s σ H _ I h) fun v s1 ⟨x,H1,I1,r1,q1⟩=>thn (hb pins s1 σ H1 _ I1 q1) fun u s2 ⟨y,H2,I2,r2,q2⟩ =>
  thn (ho pins s2 σ H2 x y v u _ I2 r1 r2 q2) fun c s3 ⟨z,H3,I3,r3,k,e,q3⟩=>?_) hm
 subst e
 cases r3
 exact wpAny_truthy_bool ⟨H3,I3,q3⟩
def xoo (r r':R2) (ta tb tc:TE):TE:=fun σ H Q=>ta σ H fun x H1=>tb σ H1 fun y H2=>r x y H2 fun z H3=>∃ k,z=.bl k ∧
 (if k=true then tc σ H3 fun w' H4=>r' y w' H4 Q else Q (.bl false) H3)
theorem xdx {op op':CmpOp} {r r':R2} (ho:OpR X (compareOp op) r) (ho':OpR X (compareOp op') r') (ha:PE X a ta) (hb:PE X b tb) (hc:PE X c tc)
    (hm:lastMarks [op,op'] [b,c]=false:=by with_unfolding_all rfl):PE X (.Compare a [op,op'] [b,c] pos) (xoo r r' ta tb tc):=by
  intro pins s σ H Q I h
  refine Compare_chain (thn (ha pins s σ H _ I h) fun v s1 ⟨x,H1,I1,r1,q1⟩=>chain_link (thn (hb pins s1 σ H1 _ I1 q1) fun u s2 ⟨y,H2,I2,r2,q2⟩ =>
    thn (ho pins s2 σ H2 x y v u _ I2 r1 r2 q2) fun d s3 ⟨z,H3,I3,r3,k,e,q3⟩=>?_)) hm
  subst e
  cases r3
  refine wpAny_truthy_bool ?_
  cases k with
  | false=>exact ite_ff ⟨.bl false,H3,I3,rfl,q3⟩
  | true=>exact ite_tt (chain_last (thn (hc pins s3 σ H3 _ I3 q3) fun w' s4 ⟨z',H4,I4,r4,q4⟩=>ho' pins s4 σ H4 y z' u w' Q I4 r2 r4 q4))
theorem xdj:(sizeLine:Nat) < 2 ^ 63:=by rw [sizeLine_eq]; decide
theorem xbz {x:V} {us:List Value} (r:Vals [x] us):∃ u,us=[u]∧RelV x u:=by
 cases r with
 | cons r1 r2=>cases r2; exact ⟨_,rfl,r1⟩
theorem xg0 {x y:V} {us:List Value} (r:Vals [x,y] us):∃ u w',us=[u,w']∧RelV x u∧RelV y w':=by
 cases r with
 | cons r1 r2 =>
  cases r2 with
  | cons r3 r4=>cases r4; exact ⟨_,_,rfl,r1,r3⟩
theorem xg9:xbs X (.builtin "abs") (fun xs H Q=>∃ i,xs=[.int i]∧Q (.int (if i < 0 then -i else i)) H):=by
 intro pins s σ H xs us Q I r h
 obtain ⟨i,rfl,q⟩:=h
 obtain ⟨u,rfl,t,rfl⟩:=xbz r
 exact call_abs_int fun u tk=>⟨.int (if i < 0 then -i else i),H,I.tok _,⟨_,rfl⟩,q⟩
theorem xgq (hc:X.calm=true):xbs X (.builtin "max") (fun xs H Q=>∃ i j,xs=[.int i,.int j]∧Q (.int (if j > i then j else i)) H):=by
 intro pins s σ H xs us Q I r h
 obtain ⟨i,j,rfl,q⟩:=h
 obtain ⟨u,w',rfl,⟨t,rfl⟩,⟨t',rfl⟩⟩:=xg0 r
 refine max_two_ints (I.ok.hd hc) fun h' tk k=>⟨_,H,I.kept k,?_,q⟩
 by_cases hj:j > i
 ·rw [if_pos hj,if_pos hj]; exact ⟨_,rfl⟩
 ·rw [if_neg hj,if_neg hj]; exact ⟨_,rfl⟩
theorem xf8 (hc:X.calm=true):xbs X (.builtin "min") (fun xs H Q=>∃ i j,xs=[.int i,.int j]∧Q (.int (if j < i then j else i)) H):=by
 intro pins s σ H xs us Q I r h
 obtain ⟨i,j,rfl,q⟩:=h
 obtain ⟨u,w',rfl,⟨t,rfl⟩,⟨t',rfl⟩⟩:=xg0 r
 refine min_two_ints (I.ok.hd hc) fun h' tk k=>⟨_,H,I.kept k,?_,q⟩
 by_cases hj:j < i
 ·rw [if_pos hj,if_pos hj]; exact ⟨_,rfl⟩
 ·rw [if_neg hj,if_neg hj]; exact ⟨_,rfl⟩
theorem xgl:xbs X (.type "int") (fun xs H Q=>(∃ i,xs=[.int i]∧Q (.int i) H)∨∃ k,xs=[.bl k]∧Q (.int (if k then 1 else 0)) H):=by
 intro pins s σ H xs us Q I r h
 rcases h with ⟨i,rfl,q⟩ | ⟨k,rfl,q⟩
 ·obtain ⟨u,rfl,t,rfl⟩:=xbz r
  exact call_int_int ⟨.int i,H,I,⟨_,rfl⟩,q⟩
 ·obtain ⟨u,rfl,r1⟩:=xbz r
  cases r1
  exact call_int_bool ⟨.int (if k then 1 else 0),H,I.tok _,⟨_,rfl⟩,q⟩
end
end L2
namespace L2
open PySem PySem.Spec PyProof.Rows
variable {q0:Bool}
structure ObjM (h:Heap) (x dx C:Addr) (mA:Str→Option Value):Prop where
 obj:h.get? x=some (PySem.W.instObj C dx)
 ns:h.Ns1 dx mA
 ne:dx≠x
theorem xlj {h:Heap} {dx:Addr} {mA:Str→Option Value} (n:h.Ns1 dx mA):∃ od,h.get? dx=some od∧∀ name,PySem.W.lookIn name od=some (mA name):=by
 obtain ⟨o,es,ep,ho,hd,hk,_,hm⟩:=n
 refine ⟨o,ho,fun name=>?_⟩
 have e:=hm name
 unfold nsFind findBy at e
 rw [← Array.find?_toList] at e
 unfold PySem.W.lookIn
 rw [hd]
 dsimp only
 split
 ·rename_i y q
  rw [q] at e
  exact congrArg some e
 ·rename_i q
  rw [q] at e
  have a:es.toList.any (·.refKey)=false:=by
   rw [List.any_eq_false]
   intro y hy
   obtain ⟨z,t,hkey⟩:=hk y (Array.mem_toList_iff.mp hy)
   simp [DictEntry.refKey,hkey]
  have a':¬ es.toList.any (·.refKey)=true:=by rw [a]; exact Bool.false_ne_true
  rw [if_neg a']
  exact congrArg some e
theorem ObjM.look {h:Heap} {x dx C:Addr} {mA:Str→Option Value} (I:ObjM h x dx C mA):∃ od,PySem.W.InstAt h x (PySem.W.instObj C dx) C (some od)∧∀ name,PySem.W.lookIn name od=some (mA name) :=
 let ⟨od,ho,hl⟩:=xlj I.ns
 ⟨od,⟨I.obj,rfl,rfl,ho⟩,hl⟩
section
variable {prog:Program} {w:World} {A:Around} {E:Value→Shared→Prop} {s:Shared} {K:PySem.W.Frag} {x dx C f:Addr} {mA:Str→Option Value} {name:Str} {v:Value}
theorem xm8 {expr:Bool} {Q:Value→Shared→Prop} (X:K.In s.heap) (I:ObjM s.heap x dx C mA) (hg:PySem.W.plainGet K C name=true) (hh:PySem.W.hasDictIn K C=true)
    (ha:PySem.W.findIn K (.ref C) name=some none) (hv:mA name=some v) (hv':PySem.W.handedIn v=true) (h:Q v { s with toks:=s.toks + 1 }) :
    wpAny (model prog w) A (getAttr (.ref x) name expr) Q E s:=by
  obtain ⟨od,J,hl⟩:=I.look
  exact PySem.W.get_value X J (PySem.W.plainGet_of hg).1 (PySem.W.findObj_own hh ha rfl (by rw [hl,hv])) hv' h
theorem xlt {pl:Sem Bool} {Q:Value × List Value→Shared→Prop} (X:K.In s.heap) (I:ObjM s.heap x dx C mA) (hg:PySem.W.plainGet K C name=true)
    (hf:PySem.W.findIn K (.ref C) name=some (some (.ref f))) (ht:PySem.W.isFn K (.ref f)=true) (hv:mA name=none) (h:Q (.ref f,[.ref x]) s) :
    wpAny (model prog w) A (getMethod (.ref x) name pl) Q E s:=by
  obtain ⟨od,J,hl⟩:=I.look
  exact PySem.W.method_fn X J (PySem.W.plainGet_of hg).1 (PySem.W.plainGet_of hg).2 hf (beq_iff_eq.mp ht) (by show (PySem.W.lookIn name od).map (·.isSome)=some false; rw [hl,hv]; rfl) h
theorem xnw {ns:List Str} {Q:Unit→Shared→Prop} (X:K.In s.heap) (I:ObjM s.heap x dx C mA)
    (hs:PySem.W.findIn K (.ref C) "__setattr__"=some (some (.builtin "object.__setattr__"))) (hp:PySem.W.plainOver K C=true) (ht:PySem.W.takerIn K C name=some none) (hh:PySem.W.hasDictIn K C=true)
    (hw:PySem.Within mA ns) (hsz:ns.length≤sizeLine)
    (h:∀ h',ObjM h' x dx C (fun y=>if y=name then some v else mA y)→Heap.SameBut dx s.heap h'→Q () { s with heap:=h',toks:=s.toks + 2 }) :
    wpAny (model prog w) A (setAttr (.ref x) name v) Q E s:=by
  obtain ⟨od,J,hl⟩:=I.look
  refine PySem.W.set_plain X J hs (PySem.W.osa_open (s:={ s with toks:=s.toks + 1 }) (r:=none) X J hp ht fun b=>?_)
  obtain ⟨cd,hc,hd'⟩:=PySem.W.any_some hh
  have hx:s.heap.get? x=some ⟨.ref C,some dx,.plain,#[]⟩:=I.obj
  refine wpAny_bind (wpAny_pure (wpAny_bind (wpAny_bind (wpAny_loadPart hx (wpAny_bind (PySem.W.Looks.here (s:={ s with toks:=s.toks + 1 }) (PySem.W.looks_clsIn X hc) ?_))))))
  rw [hd']
  refine wpAny_pure (a:=some dx) (wpAny_bind (wpAny_pure (wpAny_bind ?_)))
  refine wpAny_nsSet1 (s:={ s with toks:=s.toks + 1 }) I.ns fun h' hn2 hs2=>?_
  obtain ⟨oD,esD,epD,hoD,hdD,hcD⟩:=hn2.count (PySem.Within.cons name v hw)
  refine wpAny_bind (wpAny_lookBehind hoD (by rw [hdD]; exact pastItsLine_dict (Nat.le_trans hcD (by rw [List.length_cons]; omega))) ?_)
  exact wpAny_pure (h _ ⟨(hs2.2 _ (Ne.symm I.ne)).trans I.obj,hn2,I.ne⟩ hs2)
theorem xlx {R:Result→Shared→Prop} {vs:List Value} {kw:List (Str × Value)} (X:K.In s.heap) (hm:PySem.W.makesIn K C=true)
    (hi:PySem.W.findIn K (.ref C) "__init__"=some (some (.ref f))) (hf:PySem.W.typeIn K (.ref f)=some (.type "function"))
    (h:codeAny (model prog w) (A.under (.builtin "type.__call__" ⟨.ref C :: vs,kw⟩)) (.call (.ref f) ⟨.ref (s.heap.objs.size + 1) :: vs,kw⟩) (PySem.W.InitBack (s.heap.objs.size + 1) R)
      { s with heap:=(s.heap.push PySem.W.emptyDict).push (PySem.W.instObj C s.heap.objs.size) }) :
    codeAny (model prog w) A (.call (.ref C) ⟨vs,kw⟩) R s:=by
  obtain ⟨hh,g,d,t,os⟩:=s
  exact PySem.W.make_core (PySem.W.makes_of X hm) (PySem.W.looks_findIn X hi) (fun self=>PySem.W.bind_fn X self hf) (.inl rfl) h
end
def putF (f:Str) (v:V):List (Str × V)→List (Str × V)
 | []=>[(f,v)]
 | (g,x) :: r=>if g=f then (g,v) :: r else (g,x) :: putF f v r
theorem xev (f g:Str) (v:V):∀ fs:List (Str × V),(putF f v fs).lookup g=if g=f then some v else fs.lookup g
 | []=>by
  show List.lookup g [(f,v)]=_
  by_cases h:g=f
  ·have hb:(g == f)=true:=beq_iff_eq.mpr h
   simp only [List.lookup,hb,if_pos h]
  ·have hb:(g == f)=false:=beq_eq_false_iff_ne.mpr h
   simp only [List.lookup,hb,if_neg h]
 | (k,x) :: r=>by
  have ih:=xev f g v r
  rw [show putF f v ((k,x) :: r)=(if k=f then (k,v) :: r else (k,x) :: putF f v r) from rfl]
  by_cases hk:k=f
  ·rw [if_pos hk]
   by_cases h:g=k
   ·have hb:(g == k)=true:=beq_iff_eq.mpr h
    simp only [List.lookup,hb,if_pos (h.trans hk)]
   ·have hb:(g == k)=false:=beq_eq_false_iff_ne.mpr h
    simp only [List.lookup,hb,if_neg (fun e:g=f=>h (e.trans hk.symm))]
  ·rw [if_neg hk]
   by_cases h:g=k
   ·have hb:(g == k)=true:=beq_iff_eq.mpr h
    simp only [List.lookup,hb,if_neg (fun e:g=f=>hk (h.symm.trans e))]
   ·have hb:(g == k)=false:=beq_eq_false_iff_ne.mpr h
    simp only [List.lookup,hb]
    exact ih
theorem xei (f:Str) (v:V):∀ fs:List (Str × V),f ∈ (putF f v fs).map (·.1)∧∀ g,g ∈ fs.map (·.1)→g ∈ (putF f v fs).map (·.1)
 | []=>⟨by simp [putF],fun g h=>by simp at h⟩
 | (k,x) :: r=>by
  obtain ⟨i1,i2⟩:=xei f v r
  rw [show putF f v ((k,x) :: r)=(if k=f then (k,v) :: r else (k,x) :: putF f v r) from rfl]
  by_cases hk:k=f
  ·rw [if_pos hk]
   subst hk
   exact ⟨by simp,fun g h=>by simpa using h⟩
  ·rw [if_neg hk]
   refine ⟨?_,fun g h=>?_⟩
   ·rw [List.map_cons]
    exact List.mem_cons_of_mem _ i1
   ·rw [List.map_cons] at h ⊢
    rcases List.mem_cons.mp h with e | e
    ·exact List.mem_cons.mpr (.inl e)
    ·exact List.mem_cons_of_mem _ (i2 g e)
theorem xex (f:Str) (v:V):∀ fs:List (Str × V),(putF f v fs).length≤fs.length + 1
 | []=>by simp [putF]
 | (k,x) :: r=>by
  have ih:=xex f v r
  rw [show putF f v ((k,x) :: r)=(if k=f then (k,v) :: r else (k,x) :: putF f v r) from rfl]
  by_cases hk:k=f
  ·rw [if_pos hk,List.length_cons,List.length_cons]; omega
  ·rw [if_neg hk,List.length_cons,List.length_cons]; omega
theorem RelO.some_of {v:V} {o:Option Value} (r:RelO (some v) o):∃ u,o=some u∧RelV v u:=by
 cases o with
 | none=>exact (show False from r).elim
 | some u=>exact ⟨u,rfl,r⟩
theorem RelO.none_of {o:Option Value} (r:RelO none o):o=none:=by
 cases o with
 | none=>rfl
 | some u=>exact (show False from r).elim
theorem xle {v:V} {u:Value} (r:RelV v u):PySem.W.handedIn u=true:=by
 cases v with
 | non=>cases (show u=Value.none from r); rfl
 | bl b=>cases (show u=Value.bool b from r); rfl
 | int i=>obtain ⟨t,e⟩:=(show ∃ t,u=Value.int i t from r); cases e; rfl
 | str x=>obtain ⟨t,e⟩:=(show ∃ t,u=Value.str x t from r); cases e; rfl
 | byt b=>obtain ⟨t,e⟩:=(show ∃ t,u=Value.bytes b t from r); cases e; rfl
 | flt b=>obtain ⟨t,e⟩:=(show ∃ t,u=Value.float b t from r); cases e; rfl
 | ref a=>cases (show u=Value.ref a from r); rfl
 | ty n=>cases (show u=Value.type n from r); rfl
section
variable {P:Program} {w:World} {H H':Hp} {h h':Heap} {a C dx:Addr} {fs fs':List (Str × V)}
theorem xep (hok:HOk P w H h) (e:H a=some (.ins C dx fs)):∃ mA,ObjM h a dx C mA∧(∀ f,RelO (fs.lookup f) (mA f))∧PySem.Within mA (fs.map (·.1))∧fs.length≤1000∧H dx=some (.own a):=by
 obtain ⟨d,z,ne,ob,mA,n,r,q⟩:=(show xak P w H h a (.ins C dx fs) from hok a _ e)
 exact ⟨mA,⟨ob,n,ne⟩,r,q,z,d⟩
end
structure Cls (K:PySem.W.Frag) (C:Addr):Prop where
 pg:PySem.W.plainGet K C Str.empty=true
 hd:PySem.W.hasDictIn K C=true
 po:PySem.W.plainOver K C=true
 sa:PySem.W.findIn K (.ref C) "__setattr__"=some (some (.builtin "object.__setattr__"))
theorem Cls.get {K:PySem.W.Frag} {C:Addr} (c:Cls K C) (f:Str):PySem.W.plainGet K C f=true:=c.pg
def xc9 (K:PySem.W.Frag) (C:Addr) (f:Str):Prop:=PySem.W.findIn K (.ref C) f=some none
theorem xc9.taker {K:PySem.W.Frag} {C:Addr} {f:Str} (n:xc9 K C f):PySem.W.takerIn K C f=some none:=by
 unfold PySem.W.takerIn
 rw [show PySem.W.findIn K (.ref C) f=some none from n]
 rfl
structure Meth (K:PySem.W.Frag) (C:Addr) (m:Str) (f:Addr):Prop where
 at_:PySem.W.findIn K (.ref C) m=some (some (.ref f))
 fn:PySem.W.isFn K (.ref f)=true
 kp:PySem.W.keepIn K (.ref f)=true
section
variable {X:Cx} {pins:List (Addr × Obj)} {σ:St} {H:Hp} {s:Shared} {a C dx:Addr} {fs:List (Str × V)} {f:Str} {v:V} {A:Around} {E:Value→Shared→Prop}
theorem xju {b:Bool} {Q:Value→Shared→Prop} (I:Inv X pins σ H s) (e:H a=some (.ins C dx fs)) (c:Cls X.K C) (n:xc9 X.K C f) (l:fs.lookup f=some v)
    (h:∀ u s',Inv X pins σ H s'→RelV v u→Q u s'):wpAny (model X.prog X.w) A (getAttr (.ref a) f b) Q E s:=by
  obtain ⟨mA,O,r,_,_,_⟩:=xep I.hok e
  obtain ⟨u,hu,ru⟩:=RelO.some_of (v:=v) (o:=mA f) (by rw [← l]; exact r f)
  exact xm8 I.kIn O (c.get f) c.hd n hu (xle ru) (h u _ (I.tok _) ru)
theorem xfr {m:Str} {g:Addr} {pl:Sem Bool} {Q:Value × List Value→Shared→Prop} (I:Inv X pins σ H s) (e:H a=some (.ins C dx fs)) (c:Cls X.K C) (k:Meth X.K C m g) (l:fs.lookup m=none)
    (h:Q (.ref g,[.ref a]) s):wpAny (model X.prog X.w) A (getMethod (.ref a) m pl) Q E s:=by
  obtain ⟨mA,O,r,_,_,_⟩:=xep I.hok e
  have hn:mA m=none:=RelO.none_of (by rw [← l]; exact r m)
  exact xlt I.kIn O (c.get m) k.at_ k.fn hn h
theorem xj3 {y:V} {u:Value} {Q:Unit→Shared→Prop} (I:Inv X pins σ H s) (e:H a=some (.ins C dx fs)) (c:Cls X.K C) (n:xc9 X.K C f) (hl:fs.length < 1000) (ry:RelV y u)
    (h:∀ s',Inv X pins σ (upd H a (.ins C dx (putF f y fs))) s'→Q () s'):wpAny (model X.prog X.w) A (setAttr (.ref a) f u) Q E s:=by
  obtain ⟨mA,O,r,wi,_,ho⟩:=xep I.hok e
  have hz:(fs.map (·.1)).length≤sizeLine:=by rw [List.length_map,sizeLine_eq]; omega
  refine xnw I.kIn O c.sa c.po n.taker c.hd wi hz fun h' O' sb=>h _ ?_
  have hd:∃ o,h'.get? dx=some o:=let ⟨o,_,_,e',_⟩:=O'.ns; ⟨o,e'⟩
  refine I.write (x:=a) (e:=dx) (by rw [e]; exact True.intro) (.inr ho) (fun b q hb z=>(sb.2 b hb).trans z) hd ?_
  refine ⟨by rw [xg O.ne]; exact ho,?_,O.ne,O'.obj,_,O'.ns,fun g=>?_,fun g hg=>?_⟩
  · have:=xex f y fs; omega
  · show RelO ((putF f y fs).lookup g) (if g=f then some u else mA g)
    rw [xev]
    by_cases q:g=f
    · rw [if_pos q,if_pos q]; exact ry
    · rw [if_neg q,if_neg q]; exact r g
  · by_cases q:g=f
    · rw [q]; exact (xei f y fs).1
    · refine (xei f y fs).2 g (wi g fun z=>hg ?_)
      show (if g=f then some u else mA g)=none
      rw [if_neg q]; exact z
theorem Inv.made (I:Inv X pins σ H s):Inv X pins σ (upd (upd H s.heap.objs.size (.own (s.heap.objs.size + 1))) (s.heap.objs.size + 1) (.ins C s.heap.objs.size []))
    { s with heap:=(s.heap.push PySem.W.emptyDict).push (PySem.W.instObj C s.heap.objs.size) }:=by
  have e1:(s.heap.push PySem.W.emptyDict).get? s.heap.objs.size=some PySem.W.emptyDict:=Heap.get?_push_size s.heap rfl
  have e2:((s.heap.push PySem.W.emptyDict).push (PySem.W.instObj C s.heap.objs.size)).get? (s.heap.objs.size + 1)=some (PySem.W.instObj C s.heap.objs.size):=by
    have:=Heap.get?_push_size (s.heap.push PySem.W.emptyDict) (o:=PySem.W.instObj C s.heap.objs.size) rfl
    rwa [Heap.size_push] at this
  have e3:(s.heap.push PySem.W.emptyDict).Ns s.heap.objs.size (fun _=>none):=⟨PySem.W.emptyDict,#[],_,e1,rfl,(fun e he=>absurd he (by simp)),fun _=>rfl⟩
  have I1:=I.laid (a:=s.heap.objs.size) (o:=.own (s.heap.objs.size + 1)) (h':=s.heap.push PySem.W.emptyDict) (t':=s.toks) (fun b u q=>Heap.get?_push_of_some _ q) (Nat.le_refl _) ⟨_,e1⟩
  refine I1.laid (a:=s.heap.objs.size + 1) (o:=.ins C s.heap.objs.size []) (t':=s.toks) (fun b u q=>Heap.get?_push_of_some _ q) (Nat.le_of_eq (Heap.size_push _ _)) ?_
  have ne:s.heap.objs.size≠s.heap.objs.size + 1:=Nat.ne_of_lt (Nat.lt_succ_self _)
  refine ⟨by rw [xg ne,xb],Nat.zero_le _,ne,e2,fun _=>none,(Heap.Ns1.of_empty e3).at fun o q=>Heap.get?_push_of_some _ q,fun _=>True.intro,fun y hy=>absurd rfl hy⟩
theorem xnu {prog:Program} {w:World} {env:Env} {e:Expr} {f:Str} {pos:Pos} {s:Shared} {Q:Value→Shared→Prop} (hb:attributeBase e f env (eval e env)=eval e env)
    (h:wpAny (model prog w) A (eval e env) (fun o s₁=>wpAny (model prog w) A (getAttr o f true) Q E s₁) E s):wpAny (model prog w) A (eval (.Attribute e f pos) env) Q E s :=
  Attribute_any_ h (by rw [arm_eval_Attribute,hb])
end
def tFld (K:PySem.W.Frag) (ta:TE) (f:Str):TE:=fun σ H Q=>ta σ H fun x H1=>∃ a C dx fs v,x=.ref a∧H1 a=some (.ins C dx fs)∧Cls K C∧xc9 K C f∧fs.lookup f=some v∧Q v H1
def sFld (K:PySem.W.Frag) (ta tv:TE) (f:Str):TS:=fun D σ H=>tv σ H fun y H1=>ta σ H1 fun x H2=>∃ a C dx fs,x=.ref a∧H2 a=some (.ins C dx fs)∧Cls K C∧xc9 K C f∧fs.length < 1000 ∧
 D.nx σ (upd H2 a (.ins C dx (putF f y fs)))
section
variable {X:Cx} {o e value:Expr} {f:Str} {pos pos' tpos:Pos} {ta tv:TE}
theorem xac (he:PE X e ta) (hb:attributeBase e f X.env (eval e X.env)=eval e X.env):PE X (.Attribute e f pos) (tFld X.K ta f):=by
 intro pins s σ H Q I h
 refine xnu hb (thn (he pins s σ H _ I h) fun u s1 ⟨x,H1,I1,rx,a,C,dx,fs,v,ex,ea,c,n,l,q⟩=>?_)
 subst ex
 obtain rfl:u=Value.ref a:=rx
 exact xju I1 ea c n l fun u' s2 I2 ru=>⟨v,H1,I2,ru,q⟩
theorem xd5 (ha:PE X o ta) (hv:PE X value tv) (hs:swapsWith value (some (.Attribute o f pos')) pos.line X.env=pure false):PS X (.Assign [.Attribute o f pos'] value pos) (sFld X.K ta tv f):=by
 intro pins s σ H D I h
 refine plainObj_wpAny_Assign_Attribute (thn (hv pins s σ H _ I h) fun u s1 ⟨y,H1,I1,ry,q⟩=>thn (ha pins s1 σ H1 _ I1 q) fun ov s2 ⟨x,H2,I2,rx,a,C,dx,fs,ex,ea,c,n,l,q2⟩=>?_) hs
 subst ex
 obtain rfl:ov=Value.ref a:=rx
 exact xj3 I2 ea c n l ry fun s3 I3=>⟨σ,_,I3,q2⟩
end
section
variable {X:Cx} {pins:List (Addr × Obj)} {σ:St} {H:Hp} {s:Shared} {A:Around} {E:Value→Shared→Prop} {Q:Value→Shared→Prop} {c:Value} {b:Bool}
inductive TyOf (K:PySem.W.Frag) (H:Hp):V→Value→Prop where
  | non:TyOf K H .non (.type "NoneType")
  | bl (x:Bool):TyOf K H (.bl x) (.type "bool")
  | int (i:Int):TyOf K H (.int i) (.type "int")
  | str (x:Str):TyOf K H (.str x) (.type "str")
  | flt (x:UInt64):TyOf K H (.flt x) (.type "float")
  | lst {a:Addr} {xs:List V} (e:H a=some (.lst xs)):TyOf K H (.ref a) (.type "list")
  | frz {a:Addr} {o:Obj} {xs:List V} (e:H a=some (.frz o (.lst xs))):TyOf K H (.ref a) (.type "list")
  | tup {a:Addr} {xs:List V} (e:H a=some (.tup xs)):TyOf K H (.ref a) (.type "tuple")
  | dK {a:Addr} {kvs:List (Key × V)} (e:H a=some (.dK kvs)):TyOf K H (.ref a) (.type "dict")
  | dT {a:Addr} {kvs:List (List Key × V)} (e:H a=some (.dT kvs)):TyOf K H (.ref a) (.type "dict")
  | ins {a C dx:Addr} {fs:List (Str × V)} (e:H a=some (.ins C dx fs)) (cl:Cls K C) (ha:PySem.W.findIn K (.ref C) "__class__"=some (some (.builtin "object.__class__")))
      (hn:PySem.W.specialIn K (.builtin "object.__class__") "__get__"=some (some (.builtin "getset_descriptor.__get__"))) (htk:PySem.W.takesIn K (.builtin "object.__class__")=some true)
      (hm:PySem.W.mroIn K C (.type "object")=some true):TyOf K H (.ref a) (.ref C)
theorem xlf {x:V} {u t:Value} (I:Inv X pins σ H s) (rx:RelV x u) (ty:TyOf X.K H x t) (e:PySem.W.kitOne X.K t c=some b) (h:∀ tk,Q (.bool b) { s with toks:=tk }) :
    wpAny (model X.prog X.w) A (call (.builtin "isinstance") [u,c]) Q E s:=by
  cases ty with
  | non=>cases (show u=Value.none from rx); exact PySem.W.kia_one PySem.W.kitx_none I.kIn True.intro e (fun z=>nomatch z) h
  | bl y=>cases (show u=Value.bool y from rx); exact PySem.W.kia_one PySem.W.kitx_bool I.kIn True.intro e (fun z=>nomatch z) h
  | int i=>obtain ⟨t,q⟩:=(show ∃ t,u=Value.int i t from rx); cases q; exact PySem.W.kia_one PySem.W.kitx_int I.kIn True.intro e (fun z=>nomatch z) h
  | str y=>obtain ⟨t,q⟩:=(show ∃ t,u=Value.str y t from rx); cases q; exact PySem.W.kia_one PySem.W.kitx_str I.kIn True.intro e (fun z=>nomatch z) h
  | flt y=>obtain ⟨t,q⟩:=(show ∃ t,u=Value.float y t from rx); cases q; exact PySem.W.kia_one PySem.W.kitx_float I.kIn True.intro e (fun z=>nomatch z) h
  | @lst a xs ea =>
    cases (show u=Value.ref a from rx)
    obtain ⟨_,_,n,_,h1⟩:=(show xak X.prog X.w H s.heap a (.lst xs) from I.hok a _ ea)
    exact PySem.W.kia_one PySem.W.kitx_list I.kIn ⟨_,h1,rfl⟩ e (fun z=>nomatch z) h
  | @frz a ob xs ea =>
    cases (show u=Value.ref a from rx)
    obtain ⟨_,_,_,n,_,h1⟩:=(show xak X.prog X.w H s.heap a (.frz ob (.lst xs)) from I.hok a _ ea)
    exact PySem.W.kia_one PySem.W.kitx_list I.kIn ⟨_,h1,rfl⟩ e (fun z=>nomatch z) h
  | @tup a xs ea =>
    cases (show u=Value.ref a from rx)
    obtain ⟨_,_,_,p⟩:=(show xak X.prog X.w H s.heap a (.tup xs) from I.hok a _ ea)
    obtain ⟨o,h1,h2,_⟩:=p
    exact PySem.W.kia_one PySem.W.kitx_tuple I.kIn ⟨o,h1,h2⟩ e (fun z=>nomatch z) h
  | @dK a kvs ea =>
    cases (show u=Value.ref a from rx)
    obtain ⟨_,_,vs,_,p⟩:=(show xak X.prog X.w H s.heap a (.dK kvs) from I.hok a _ ea)
    obtain ⟨o,es,ep,h1,h2,_⟩:=p
    exact PySem.W.kia_one PySem.W.kitx_dict I.kIn ⟨o,h1,h2.1⟩ e (fun z=>nomatch z) h
  | @dT a kvs ea =>
    cases (show u=Value.ref a from rx)
    obtain ⟨_,_,xs,_,o,es,ep,h1,h2,_⟩:=(show xak X.prog X.w H s.heap a (.dT kvs) from I.hok a _ ea)
    exact PySem.W.kia_one PySem.W.kitx_dict I.kIn ⟨o,h1,h2.1⟩ e (fun z=>nomatch z) h
  | @ins a C dx fs ea cl ha hn htk hm =>
    cases (show u=Value.ref a from rx)
    obtain ⟨mA,O,_⟩:=xep I.hok ea
    obtain ⟨od,J,_⟩:=O.look
    exact PySem.W.kia_one (PySem.W.kitx_own (cl.get _) cl.hd ha hn htk hm) I.kIn J e (fun z=>nomatch z) h
end
end L2
namespace L2
open PySem PySem.Spec PyProof.Rows
variable {q0:Bool}
structure Room (q0:Bool) (k:Nat) (A:Around):Prop where
 hd:q0=true→A.handled=none
 dp:A.depth + 3 * k + 5 < recursionLimit
 un:A.units + 16 * k + 200 < cLine
theorem Room.mono {j k:Nat} {A:Around} (r:Room q0 k A) (h:j≤k):Room q0 j A:=⟨r.hd,by have:=r.dp; omega,by have:=r.un; omega⟩
theorem Room.deeper {k:Nat} {A:Around} (r:Room q0 (k + 1) A) (env:Env):Room q0 k (A.deeper env) :=
 ⟨r.hd,by have:=r.dp; show A.depth + 1 + 3 * k + 5 < _; omega,by have:=r.un; show A.units + 3 + 16 * k + 200 < _; omega⟩
theorem xjm {A:Around} {C:Addr} {us:List Value} {kw:List (Str × Value)}:(A.under (.builtin "type.__call__" ⟨.ref C :: us,kw⟩)).depth=A.depth + 1:=by
 first | rfl | simp [Around.under,Code.weight,Code.isCreation,Code.isGuard,Code.isCaller,Code.frames,Code.isFrame,guardIds]
theorem xjc {A:Around} {C:Addr} {us:List Value} {kw:List (Str × Value)}:(A.under (.builtin "type.__call__" ⟨.ref C :: us,kw⟩)).units=A.units + 1:=by
 first | rfl | simp [Around.under,Code.cUnits,Code.frames,Code.isFrame]
theorem Room.make {k:Nat} {A:Around} (r:Room q0 (k + 1) A) (C:Addr) (us:List Value) (kw:List (Str × Value)):Room q0 k (A.under (.builtin "type.__call__" ⟨.ref C :: us,kw⟩)) :=
 ⟨r.hd,by have:=r.dp; rw [xjm]; omega,by have:=r.un; rw [xjc]; omega⟩
theorem Room.depth {k:Nat} {A:Around} (r:Room q0 k A):A.depth < recursionLimit:=by have:=r.dp; omega
theorem Room.units {k:Nat} {A:Around} (r:Room q0 k A):A.units + 64 < cLine:=by have:=r.un; omega
def tNil:TA:=fun _ H Q=>Q [] H
def xmo (ta:TE) (tr:TA):TA:=fun σ H Q=>ta σ H fun x H1=>tr σ H1 fun xs H2=>Q (x :: xs) H2
section
variable {X:Cx} {e:Expr} {es:List Expr} {te:TE} {t:TA} {pos:Pos}
theorem xi:PA X [] tNil:=fun _ _ _ _ H Q I h=>Calls.spliced_nil ⟨[],H,I,.nil,h⟩
theorem xa (ha:PE X e te) (hr:PA X es t) (hs:starEach (e :: es) X.env=(false,eval e X.env) :: starEach es X.env:=by rfl):PA X (e :: es) (xmo te t):=by
 intro pos pins s σ H Q I h
 rw [hs]
 show wpAny _ _ (spliced ((false,eval e X.env) :: backTo pos (starEach es X.env))) _ _ s
 refine Calls.spliced_cons (thn (ha pins s σ H _ I h) fun u s1 ⟨x,H1,I1,r1,q1⟩=>?_)
 exact thn (hr pos pins s1 σ H1 _ I1 q1) fun us s2 ⟨xs,H2,I2,r2,q2⟩=>⟨x :: xs,H2,I2,.cons r1 r2,q2⟩
def tTup (t:TA):TE:=fun σ H Q=>t σ H fun xs H1=>xs.length≤sizeLine∧∀ p,H1 p=none→Q (.ref p) (upd H1 p (.tup xs))
def tLst (t:TA):TE:=fun σ H Q=>t σ H fun xs H1=>xs.length≤sizeLine∧∀ p,H1 p=none→Q (.ref p) (upd H1 p (.lst xs))
theorem xap {x1} (h:PA X es t):PE X (.Tuple es x1 pos) (tTup t):=by
 intro pins s σ H Q I hq
 refine wpAny_Tuple_spliced (thn (h pos pins s σ H _ I hq) fun us s1 ⟨xs,H1,I1,r,z,q⟩=>⟨by rw [← r.length]; exact z,?_⟩)
 have hf:H1 s1.heap.objs.size=none:=I1.hok.fresh (Nat.le_refl _)
 refine ⟨.ref s1.heap.objs.size,upd H1 s1.heap.objs.size (.tup xs),I1.laid (t':=s1.toks) (fun b u e=>Heap.get?_push_of_some _ e) (Nat.le_refl _) ?_,rfl,q _ hf⟩
 exact ⟨z,us,r,⟨_,Heap.get?_push_size _ rfl,rfl,_,rfl⟩⟩
theorem xbq (h:PA X es t):PE X (.List es pos) (tLst t):=by
 intro pins s σ H Q I hq
 refine wpAny_List_spliced (thn (h pos pins s σ H _ I hq) fun us s1 ⟨xs,H1,I1,r,z,q⟩=>⟨by rw [← r.length]; exact z,?_⟩)
 have hf:H1 s1.heap.objs.size=none:=I1.hok.fresh (Nat.le_refl _)
 refine ⟨.ref s1.heap.objs.size,upd H1 s1.heap.objs.size (.lst xs),I1.laid (t':=s1.toks) (fun b u e=>Heap.get?_push_of_some _ e) (Nat.le_refl _) ?_,rfl,q _ hf⟩
 exact ⟨z,us,0,r,Heap.get?_push_size _ rfl⟩
end
abbrev Sp:=List V→Hp→VK→XK→Prop
abbrev CXT:=List Env→Hp→Shared→XK→Value→Shared→Prop
structure Env0 (P:Program) (w:World) (K:PySem.W.Frag) (mg:Str→Option Value) (base:Heap) (A:Around) (outer:List Env) (s:Shared) (H:Hp):Prop where
 frames:A.frames=some outer
 mod:Mod K mg base
 bs:∀ b o,base.get? b=some o→s.heap.get? b=some o∧H b=none
 bsz:base.objs.size≤s.heap.objs.size
 funs:s.heap.FunFrames base outer
 frf:∀ b ∈ frs outer,H b=none
 hok:HOk P w H s.heap
 bare:AllBare s.gens
def CE (outer:List Env) (P:Program) (w:World) (H:Hp) (s:Shared) (Q:VK) (u:Value) (s':Shared):Prop :=
 ∃ v H',s'.os=s.os∧AllBare s'.gens∧Un (frs outer) [] H H' s.heap s'.heap∧HOk P w H' s'.heap∧RelV v u∧Q v H'
def CR (CX:CXT) (outer:List Env) (P:Program) (w:World) (H:Hp) (s:Shared) (Q:VK) (E:XK) (r:Result) (s':Shared):Prop :=
 match r with
 | .ok (.ret u)=>CE outer P w H s Q u s'
 | .ok _=>False
 | .error e=>CX outer H s E e s'
structure FnOk (q0:Bool) (P:Program) (w:World) (K:PySem.W.Frag) (mg:Str→Option Value) (base:Heap) (CX:CXT) (k:Nat) (f:Addr) (fd:FuncData) (ps:List Str) (sp:Sp):Prop where
 len:∀ vs H Q E,sp vs H Q E→vs.length=ps.length
 run:∀ (A:Around) (outer:List Env) (s:Shared) (H:Hp) (args:Args) (us:List Value) (vs:List V) (Q:VK) (E:XK),Room q0 k A→Env0 P w K mg base A outer s H→BindsTo s fd args (ps.zip us)→Vals vs us→sp vs H Q E →
  codeAny (model P w) A (.call (.ref f) args) (CR CX outer P w H s Q E) s
theorem Env0.make {P:Program} {w:World} {K:PySem.W.Frag} {mg:Str→Option Value} {base:Heap} {A:Around} {outer:List Env} {s:Shared} {H:Hp} (e:Env0 P w K mg base A outer s H) (C:Addr) (us:List Value) (kw:List (Str × Value)) :
    Env0 P w K mg base (A.under (.builtin "type.__call__" ⟨.ref C :: us,kw⟩)) outer s H:=⟨by first | exact e.frames | (simpa [Around.under,Code.envs,Code.isFrame,pushEnvs] using e.frames),e.mod,e.bs,e.bsz,e.funs,e.frf,e.hok,e.bare⟩
section
variable {X:Cx} {pins:List (Addr × Obj)} {σ:St} {H:Hp} {s s':Shared}
theorem Inv.env0 (I:Inv X pins σ H s):Env0 X.prog X.w X.K X.mg X.base X.A X.stack s H :=
 ⟨I.ok.frames,I.ok.mod,I.bs,Nat.le_trans I.ok.bsz I.sz,I.stack,I.stkFree,I.hok,I.bare⟩
theorem Inv.after {Q:VK} {u:Value} (I:Inv X pins σ H s) (h:CE X.stack X.prog X.w H s Q u s'):EP X pins σ Q u s':=by
 obtain ⟨v,H',os,bare,un,hok,r,q⟩:=h
 obtain ⟨hh,g,d,t,os'⟩:=s'
 obtain rfl:os'=s.os:=os
 exact ⟨v,H',I.call (h':=hh) (g':=g) (d':=d) (t':=t) (ch:=[]) un hok bare (fun b z=>absurd z (by simp)),r,q⟩
end
def xpb (sp:Sp) (dvs:List V) (E:St→XK) (t:TA):TE:=fun σ H Q=>t σ H fun vs H1=>sp (vs ++ dvs) H1 Q (E σ)
def xmv (C:Addr) (m:Str) (sp:Sp) (dvs:List V) (E:St→XK) (ta:TE) (t:TA):TE:=fun σ H Q=>ta σ H fun x H1=>∃ a dx fs,x=.ref a∧H1 a=some (.ins C dx fs)∧fs.lookup m=none ∧
 t σ H1 fun vs H2=>sp (x :: (vs ++ dvs)) H2 Q (E σ)
def xpg (C:Addr) (sp:Sp) (dvs:List V) (E:St→XK) (t:TA):TE:=fun σ H Q=>t σ H fun vs H1=>∀ x dx,H1 x=none→H1 dx=none→dx≠x →
 sp (.ref x :: (vs ++ dvs)) (upd (upd H1 dx (.own x)) x (.ins C dx [])) (fun v H2=>v=.non∧Q (.ref x) H2) (E σ)
def x5 (K:PySem.W.Frag) (fd:FuncData) (ps:List Str) (ds:List Value):Prop :=
 ∀ (s:Shared) (us:List Value),K.In s.heap→(us ++ ds).length=ps.length→BindsTo s fd ⟨us,[]⟩ (ps.zip (us ++ ds))
theorem x5.all {K:PySem.W.Frag} {fd:FuncData} {ps:List Str} (h:∀ us:List Value,us.length=ps.length→bindArgs fd ⟨us,[]⟩=pure (ps.zip us)):x5 K fd ps []:=fun s us _ hl=>by
 rw [List.append_nil] at hl ⊢
 exact .of_eq (h us hl)
def xc2 (CX:CXT) (X:Cx) (E:St→XK):Prop:=∀ (pins:List (Addr × Obj)) (σ:St) (H:Hp) (s:Shared) (e:Value) (s':Shared),Inv X pins σ H s→CX X.stack H s (E σ) e s'→X.xe e s'
section
variable {X:Cx} {CX:CXT} {k:Nat} {f C:Addr} {fd:FuncData} {ps:List Str} {sp:Sp} {dvs:List V} {ds:List Value} {E:St→XK} {x m:Str} {p pos apos:Pos} {e o:Expr} {es:List Expr} {ta:TE} {t:TA}
theorem xh7 {pins:List (Addr × Obj)} {σ:St} {H:Hp} {s:Shared} {Q:VK} {us:List Value} {vs:List V} (F:FnOk q0 X.prog X.w X.K X.mg X.base CX k f fd ps sp) (hr:Room q0 k X.A) (hb:x5 X.K fd ps ds) (hd:Vals dvs ds) (hx:xc2 CX X E)
    (I:Inv X pins σ H s) (r:Vals vs us) (h:sp (vs ++ dvs) H Q (E σ)):wpAny (model X.prog X.w) X.A (call (.ref f) us) (EP X pins σ Q) X.xe s:=by
  have r2:Vals (vs ++ dvs) (us ++ ds):=r.append hd
  have hl:(us ++ ds).length=ps.length:=by rw [← r2.length]; exact F.len _ _ _ _ h
  refine wpAny_call (codeAny_mono (F.run X.A X.stack s H ⟨us,[]⟩ (us ++ ds) (vs ++ dvs) Q (E σ) hr I.env0 (hb s us I.kIn hl) r2 h) fun r s' hq=>?_)
  cases r with
  | error e=>exact hx pins σ H s e s' I hq
  | ok fl =>
    cases fl with
    | ret u=>exact I.after hq
    | next=>exact False.elim hq
    | brk=>exact False.elim hq
    | cont=>exact False.elim hq
theorem xz (F:FnOk q0 X.prog X.w X.K X.mg X.base CX k f fd ps sp) (hr:Room q0 k X.A) (hg:Gl X x) (hm:X.mg x=some (.ref f)) (hk:PySem.W.keepIn X.K (.ref f)=true) (hb:x5 X.K fd ps ds) (hd:Vals dvs ds) (hx:xc2 CX X E)
    (ha:PA X (e :: es) t) (hdb:(x == ("__debug__":Str))=false:=by decide) (he:starEach (e :: es) X.env=(false,eval e X.env) :: starEach es X.env:=by rfl) (hpl:(backTo pos (starEach es X.env)).any (·.1)=false:=by rfl) :
    PE X (.Call (.Name x p) (e :: es) [] pos) (xpb sp dvs E t):=by
  intro pins s σ H Q I h
  refine wpAny_Call_Name_kw (xf2 I hg hm ?_ hdb)
  refine PySem.W.callWith_K (h₀:=X.base) I.ok.mod.kin hk (thn (ha pos pins s σ H _ I h) fun us s1 ⟨vs,H1,I1,r,q⟩=>⟨I1.kIn,?_⟩) he hpl
  exact xh7 F hr hb hd hx I1 r q
theorem xao {pl:Sem Bool} (he:PE X o ta) (c:Cls X.K C) (hm:Meth X.K C m f) (F:FnOk q0 X.prog X.w X.K X.mg X.base CX k f fd ps sp) (hr:Room q0 k X.A) (hb:x5 X.K fd ps ds) (hd:Vals dvs ds) (hx:xc2 CX X E) (ha:PA X (e :: es) t)
    (hst:starEach (e :: es) X.env=(false,eval e X.env) :: starEach es X.env:=by rfl) (hpl:(backTo pos (starEach es X.env)).any (·.1)=false:=by rfl)
    (ht:eval (.Call (.Attribute o m apos) (e :: es) [] pos) X.env=(do
      let ov ← eval o X.env
      standAt apos.atName
      let (f,first) ← holding [ov] (getMethod ov m pl)
      callWith pos f first (backTo pos (starEach (e :: es) X.env)) (backToKw pos (keywordEach [] X.env))):=by rfl) :
    PE X (.Call (.Attribute o m apos) (e :: es) [] pos) (xmv C m sp dvs E ta t):=by
  intro pins s σ H Q I h
  refine PySem.W.methodCall_KW (pl:=pl) (thn (he pins s σ H _ I h) fun u s1 ⟨x,H1,I1,rx,a,dx,fs,ex,ea,l,q⟩=>?_) ht
  subst ex
  obtain rfl:u=Value.ref a:=rx
  refine xfr I1 ea c hm l ?_
  refine PySem.W.callWith_K (first:=[.ref a]) (h₀:=X.base) I.ok.mod.kin hm.kp (thn (ha pos pins s1 σ H1 _ I1 q) fun us s2 ⟨vs,H2,I2,r,q2⟩=>⟨I2.kIn,?_⟩) hst hpl
  exact xh7 (us:=.ref a :: us) (vs:=.ref a :: vs) F hr hb hd hx I2 (.cons rfl r) q2
theorem xb2 {pl:Sem Bool} (he:PE X o ta) (c:Cls X.K C) (hm:Meth X.K C m f) (F:FnOk q0 X.prog X.w X.K X.mg X.base CX k f fd ps sp) (hr:Room q0 k X.A) (hb:x5 X.K fd ps ds) (hd:Vals dvs ds) (hx:xc2 CX X E)
    (ht:eval (.Call (.Attribute o m apos) [] [] pos) X.env=(do
      let ov ← eval o X.env
      standAt apos.atName
      let (f,first) ← holding [ov] (getMethod ov m pl)
      callWith pos f first (backTo pos (starEach [] X.env)) (backToKw pos (keywordEach [] X.env))):=by rfl) :
    PE X (.Call (.Attribute o m apos) [] [] pos) (xmv C m sp dvs E ta tNil):=by
  intro pins s σ H Q I h
  refine PySem.W.methodCall_KW (pl:=pl) (thn (he pins s σ H _ I h) fun u s1 ⟨x,H1,I1,rx,a,dx,fs,ex,ea,l,q⟩=>?_) ht
  subst ex
  obtain rfl:u=Value.ref a:=rx
  refine xfr I1 ea c hm l ?_
  exact PySem.W.callWith_K0 (first:=[.ref a]) I1.kIn hm.kp (xh7 (us:=[.ref a]) (vs:=[.ref a]) F hr hb hd hx I1 (.cons rfl .nil) q)
structure Mk (K:PySem.W.Frag) (C f:Addr):Prop where
 makes:PySem.W.makesIn K C=true
 init:PySem.W.findIn K (.ref C) "__init__"=some (some (.ref f))
 fn:PySem.W.isFn K (.ref f)=true
 kp:PySem.W.keepIn K (.ref C)=true
theorem xl6 {pins:List (Addr × Obj)} {σ:St} {H:Hp} {s:Shared} {Q:VK} {us:List Value} {vs:List V} (M:Mk X.K C f) (F:FnOk q0 X.prog X.w X.K X.mg X.base CX k f fd ps sp) (hr:Room q0 (k + 1) X.A) (hb:x5 X.K fd ps ds) (hd:Vals dvs ds)
    (hx:xc2 CX X E) (I:Inv X pins σ H s) (r:Vals vs us)
    (h:∀ x dx,H x=none→H dx=none→dx≠x→sp (.ref x :: (vs ++ dvs)) (upd (upd H dx (.own x)) x (.ins C dx [])) (fun v H2=>v=.non∧Q (.ref x) H2) (E σ)) :
    wpAny (model X.prog X.w) X.A (call (.ref C) us) (EP X pins σ Q) X.xe s:=by
  have hq:=h (s.heap.objs.size + 1) s.heap.objs.size (I.hok.fresh (Nat.le_succ _)) (I.hok.fresh (Nat.le_refl _)) (Nat.ne_of_lt (Nat.lt_succ_self _))
  have I2:=Inv.made (C:=C) I
  have r2:Vals (V.ref (s.heap.objs.size + 1) :: (vs ++ dvs)) (Value.ref (s.heap.objs.size + 1) :: (us ++ ds)):=.cons rfl (r.append hd)
  have hl:(Value.ref (s.heap.objs.size + 1) :: us ++ ds).length=ps.length:=by
    have e:=r2.length
    rw [F.len _ _ _ _ hq] at e
    exact e.symm
  refine wpAny_call (xlx (f:=f) I.kIn M.makes M.init (beq_iff_eq.mp M.fn) (codeAny_mono (F.run _ X.stack _ _ ⟨Value.ref (s.heap.objs.size + 1) :: us,[]⟩ (Value.ref (s.heap.objs.size + 1) :: (us ++ ds)) _ _ (E σ) (hr.make C us [])
    (I2.env0.make C us []) (hb _ (Value.ref (s.heap.objs.size + 1) :: us) I2.kIn hl) r2 hq) fun r s' hq'=>?_))
  cases r with
  | error e=>exact hx pins σ _ _ e s' I2 hq'
  | ok fl =>
    cases fl with
    | ret u =>
      obtain ⟨v,H',I3,rv,ev,q3⟩:=I2.after hq'
      subst ev
      exact ⟨rv,⟨V.ref (s.heap.objs.size + 1),H',I3,rfl,q3⟩⟩
    | next=>exact False.elim hq'
    | brk=>exact False.elim hq'
    | cont=>exact False.elim hq'
theorem xf0 (M:Mk X.K C f) (F:FnOk q0 X.prog X.w X.K X.mg X.base CX k f fd ps sp) (hr:Room q0 (k + 1) X.A) (hg:Gl X x) (hm:X.mg x=some (.ref C)) (hb:x5 X.K fd ps ds) (hd:Vals dvs ds) (hx:xc2 CX X E)
    (ha:PA X (e :: es) t) (hdb:(x == ("__debug__":Str))=false:=by decide) (he:starEach (e :: es) X.env=(false,eval e X.env) :: starEach es X.env:=by rfl) (hpl:(backTo pos (starEach es X.env)).any (·.1)=false:=by rfl) :
    PE X (.Call (.Name x p) (e :: es) [] pos) (xpg C sp dvs E t):=by
  intro pins s σ H Q I h
  refine wpAny_Call_Name_kw (xf2 I hg hm ?_ hdb)
  refine PySem.W.callWith_K (h₀:=X.base) I.ok.mod.kin M.kp (thn (ha pos pins s σ H _ I h) fun us s1 ⟨vs,H1,I1,r,q⟩=>⟨I1.kIn,?_⟩) he hpl
  exact xl6 M F hr hb hd hx I1 r q
end
section
variable {X:Cx} {CX:CXT} {k:Nat} {f C:Addr} {fd:FuncData} {ps ks:List Str} {sp:Sp} {E:St→XK} {x m:Str} {p pos apos kpos:Pos} {e o:Expr} {es:List Expr} {kws:List Keyword} {te ta:TE} {t tk:TA} {nm:Option Str}
variable {g:List Value→List Value→List Value} {gV:List V→List V→List V}
end
structure x0 (N P:List Str) (sc:Scope):Prop where
 kind:sc.kind=.function
 co:sc.isCoroutine=false
 gen:sc.isGenerator=false
 nd:N.Nodup
 pre:N.take P.length=P
 par:∀ x ∈ P,sc.names.lookup x=some .local∨sc.names.lookup x=some .cell
 nofree:∀ y ∈ sc.names,y.2≠.free
theorem xge {kindOf:Str→Option NameKind} {x:Str}:∀ {binds:List (Str × Value)} {m:Str→Option Value},(∀ v,(x,v) ∉ binds)→bindL kindOf binds m x=m x
 | [],_,_=>rfl
 | (n,v) :: r,m,h=>by
  unfold bindL
  rw [xge fun w hw=>h w (List.mem_cons_of_mem _ hw)]
  split
  ·have:x≠n:=by rintro rfl; exact h v List.mem_cons_self
   simp [this]
  ·rfl
theorem xgd {kindOf:Str→Option NameKind} {x:Str}:∀ {binds:List (Str × Value)} {m:Str→Option Value},(∀ v,(x,v) ∉ binds)→bindC kindOf binds m x=m x
 | [],_,_=>rfl
 | (n,v) :: r,m,h=>by
  unfold bindC
  rw [xgd fun w hw=>h w (List.mem_cons_of_mem _ hw)]
  split
  ·rfl
  ·have:x≠n:=by rintro rfl; exact h v List.mem_cons_self
   simp [this]
theorem xgn {kindOf:Str→Option NameKind} {x:Str} {v:Value}:∀ {P:List Str} {vs:List Value} {i:Nat} {m:Str→Option Value},P.Nodup→P[i]?=some x→vs[i]?=some v→kindOf x=some .local →
    bindL kindOf (P.zip vs) m x=some v
  | [],_,_,_,_,h,_,_=>by simp at h
  | _ :: _,[],_,_,_,_,h,_=>by simp at h
  | p :: P,w :: vs,0,m,nd,h1,h2,hk=>by
    simp at h1 h2; subst h1; subst h2
    show bindL kindOf ((p,w) :: P.zip vs) m p=_
    unfold bindL
    rw [xge fun v hv=>(List.nodup_cons.mp nd).1 (List.of_mem_zip hv).1,if_pos hk]
    simp
  | p :: P,w :: vs,i + 1,m,nd,h1,h2,hk=>by
    show bindL kindOf ((p,w) :: P.zip vs) m x=_
    unfold bindL
    exact xgn (i:=i) (List.nodup_cons.mp nd).2 (by simpa using h1) (by simpa using h2) hk
theorem xgm {kindOf:Str→Option NameKind} {x:Str} {v:Value}:∀ {P:List Str} {vs:List Value} {i:Nat} {m:Str→Option Value},P.Nodup→P[i]?=some x→vs[i]?=some v→kindOf x≠some .local →
    bindC kindOf (P.zip vs) m x=some v
  | [],_,_,_,_,h,_,_=>by simp at h
  | _ :: _,[],_,_,_,_,h,_=>by simp at h
  | p :: P,w :: vs,0,m,nd,h1,h2,hk=>by
    simp at h1 h2; subst h1; subst h2
    show bindC kindOf ((p,w) :: P.zip vs) m p=_
    unfold bindC
    rw [xgd fun v hv=>(List.nodup_cons.mp nd).1 (List.of_mem_zip hv).1,if_neg hk]
    simp
  | p :: P,w :: vs,i + 1,m,nd,h1,h2,hk=>by
    show bindC kindOf ((p,w) :: P.zip vs) m x=_
    unfold bindC
    exact xgm (i:=i) (List.nodup_cons.mp nd).2 (by simpa using h1) (by simpa using h2) hk
def xcn (N:List Str) (vs:List V):St:=vs.map some ++ List.replicate (N.length - vs.length) none
def cxOf (q0:Bool) (CX:CXT) (P:Program) (w:World) (K:PySem.W.Frag) (mg:Str→Option Value) (base:Heap) (N:List Str) (qual:Str) (scope:Scope) (f:Addr) (cd:Value) (A:Around) (outer:List Env) (s:Shared) (H:Hp) (E:XK):Cx where
 prog:=P
 w:=w
 K:=K
 mg:=mg
 base:=base
 A:=A.deeper (envOfC qual scope s.heap.objs.size f cd)
 N:=N
 s₀:=s
 H₀:=H
 env:=envOfC qual scope s.heap.objs.size f cd
 outer:=outer
 stack:=envOfC qual scope s.heap.objs.size f cd :: outer
 ex:=[]
 calm:=q0
 fn:=fun _=>true
 pn:=[]
 xe:=fun e s'=>wpAny (model P w) (A.deeper (envOfC qual scope s.heap.objs.size f cd)) (leaving (envOfC qual scope s.heap.objs.size f cd) e) (fun _ s''=>CX outer H s E e s'') (fun e' s''=>CX outer H s E e' s'') s'
theorem xhs {sc:Scope} {n:Nat} {x:Str} (h:sc.names.lookup x=some .cell):∃ c,(cellsFrom n sc.names []).lookup x=some c:=by
 have q:=PySem.W.cellsFrom_some sc.names n [] (.inl h)
 exact Option.isSome_iff_exists.mp q
theorem xkg {CX:CXT} {P:Program} {w:World} {K:PySem.W.Frag} {mg:Str→Option Value} {base:Heap} {N ps:List Str} {qual:Str} {scope:Scope} {f:Addr} {cd:Value} {A:Around} {outer:List Env} {s s1:Shared} {H:Hp} {E:XK} {us:List Value} {vs:List V}
    (S:x0 N ps scope) (hd:q0=true→A.handled=none) (e0:Env0 P w K mg base A outer s H) (hl:vs.length=ps.length) (r:Vals vs us)
    (x:InCallC s s.heap.objs.size (bindL (envOfC qual scope s.heap.objs.size f cd).kindOf (ps.zip us) fun _=>none) (cellsFrom (s.heap.objs.size + 1) scope.names []) (bindC (envOfC qual scope s.heap.objs.size f cd).kindOf (ps.zip us) fun _=>none) s1) :
    Inv (cxOf q0 CX P w K mg base N qual scope f cd A outer s H E) [] (xcn N vs) H s1:=by
  have hpl:ps.length≤N.length:=by have:=congrArg List.length S.pre; rw [List.length_take] at this; omega
  obtain ⟨h1,tk,rfl,hk⟩:=x.done
  have noA:∀ b:Addr,b ∉ (cxOf q0 CX P w K mg base N qual scope f cd A outer s H E).ex:=fun b z=>absurd (show b ∈ ([]:List Addr) from z) (by simp)
  refine ⟨⟨e0.mod,S.kind,rfl,rfl,Nat.le_refl _,fun y z c h1 h2=>?_,fun y hy=>?_,fun y c _ h=>?_,hd,Around.frames_deeper e0.frames,.inr ⟨rfl,rfl⟩,fun b z=>absurd z (noA b),e0.bs,e0.bsz,fun b _ _=>noA b,fun b z=>absurd z (noA b),e0.funs,e0.frf⟩,
    rfl,e0.bare,Un.kept hk,⟨_,x.toInCall.ns,fun i y v h1 h2 h3=>?_⟩,fun y c h=>⟨_,x.cell y c h⟩,e0.hok.fresh (Nat.le_refl _),fun y c h=>?_,fun p hp=>absurd (show p ∈ ([]:List (Addr × Obj)) from hp) (by simp),e0.hok.kept hk,?_⟩
  · exact name_of_addr x.apart (PySem.mem_of_lookup h1) (PySem.mem_of_lookup h2)
  · have hy:scope.names.lookup y=some .cell∨scope.names.lookup y=some .free:=hy
    rcases hy with hy | hy
    · exact xhs hy
    · exact absurd rfl (S.nofree _ (PySem.mem_of_lookup hy))
  · exact Nat.le_of_lt (x.above y c (PySem.mem_of_lookup h))
  · have hi:i < vs.length:=by
      unfold xcn at h2
      by_cases hi:i < vs.length
      · exact hi
      · rw [List.getElem?_append_right (by simpa using hi)] at h2
        rw [List.getElem?_replicate] at h2
        split at h2 <;> cases h2
    have ha:vs[i]?=some v:=by
      unfold xcn at h2
      rw [List.getElem?_append_left (by simpa using hi),List.getElem?_map] at h2
      cases e:vs[i]? with
      | none=>rw [e] at h2; cases h2
      | some a=>rw [e] at h2; cases h2; rfl
    obtain ⟨u,hu,rv⟩:=r.get ha
    have hp:ps[i]?=some y:=by
      rw [← S.pre,List.getElem?_take_of_lt (by omega)]; exact h1
    have ndP:ps.Nodup:=by rw [← S.pre]; exact S.nd.sublist (List.take_sublist _ _)
    refine ⟨u,rv,?_⟩
    rcases S.par y (List.mem_of_getElem? hp) with k | k
    · exact .inl ⟨k,xgn ndP hp hu k⟩
    · obtain ⟨c,e⟩:=xhs (n:=s.heap.objs.size + 1) k
      refine .inr ⟨.inl k,c,e,?_⟩
      have q:=x.cell y c e
      rw [xgm ndP hp hu (by show scope.names.lookup y≠_; rw [k]; decide)] at q
      exact q
  · exact e0.hok.fresh (Nat.le_of_lt (x.above y c (PySem.mem_of_lookup h)))
  · unfold xcn
    show _=N.length
    rw [List.length_append,List.length_map,List.length_replicate]
    omega
theorem xi8 {CX:CXT} {P:Program} {w:World} {K:PySem.W.Frag} {mg:Str→Option Value} {base:Heap} {k:Nat} {f:Addr} {name qual:Str} {params:Arguments} {body:List Stmt} {scope:Scope} {dV kV doc pm cdv ct oc:Value} {an od:Option Addr}
    {osl:Array (Option Value)} {N ps:List Str} {sp:Sp} (lk:K.lookup f=some ⟨oc,od,.func (PySem.W.fnOf name qual params body scope dV kV doc pm an cdv ct),osl⟩) (hcd:PySem.W.codeIn K cdv qual=true) (S:x0 N ps scope)
    (len:∀ vs H Q E,sp vs H Q E→vs.length=ps.length)
    (hbody:∀ (A:Around) (outer:List Env) (s:Shared) (H:Hp) (vs:List V) (Q:VK) (E:XK),Room q0 k (A.deeper (envOfC qual scope s.heap.objs.size f cdv))→sp vs H Q E →
      ∃ t,PSs (cxOf q0 CX P w K mg base N qual scope f cdv A outer s H E) body t∧t { nx:=fun _ H'=>Q .non H',rt:=Q } (xcn N vs) H) :
    FnOk q0 P w K mg base CX (k + 1) f (PySem.W.fnOf name qual params body scope dV kV doc pm an cdv ct) ps sp:=by
  refine ⟨len,fun A outer s H args us vs Q E hr e0 hb r hsp=>?_⟩
  have hl:=len _ _ _ _ hsp
  have KX:K.In s.heap:=e0.mod.kin.keeps fun b o e=>(e0.bs b o e).1
  have lim:s.heap.NoLimit:=e0.mod.nolimit.keeps fun b o e=>(e0.bs b o e).1
  have hkind:∀ y ∈ ps.zip us,scope.names.lookup y.1=some .local∨(scope.names.lookup y.1=some .cell∧((cellsFrom (s.heap.objs.size + 1) scope.names []).lookup y.1).isSome=true):=fun ⟨n,v⟩ hy=>by
    rcases S.par n (List.of_mem_zip hy).1 with q | q
    · exact .inl q
    · exact .inr ⟨q,PySem.W.cellsFrom_some _ _ _ (.inl q)⟩
  refine codeAny_call_function hr.depth (KX _ _ lk) rfl S.co S.gen rfl (PySem.W.codeRec_of KX hcd) (hb _ _ _ _ ?_)
  refine wpAny_newFunctionEnv_cells S.kind hkind fun env he s1 x=>?_
  subst he
  refine ⟨lim.keeps x.toInCall.keep,codeAny_func ?_⟩
  obtain ⟨t,ht,hq⟩:=hbody A outer s H vs Q E (hr.deeper _) hsp
  have I:Inv (cxOf q0 CX P w K mg base N qual scope f cdv A outer s H E) [] (xcn N vs) H s1:=xkg S hr.hd e0 hl r x
  refine wpAny_mono (ht [] s1 (xcn N vs) H _ I hq) (fun fl s' hs=>?_) fun e s' hs=>hs
  have fin:∀ {σ':St} {H':Hp} {v:V} {u:Value},Inv (cxOf q0 CX P w K mg base N qual scope f cdv A outer s H E) [] σ' H' s'→RelV v u→Q v H'→CE outer P w H s Q u s' :=
    fun {σ' H' v u} J rv q=>⟨v,H',J.os,J.bare,J.base,J.hok,rv,q⟩
  cases fl with
  | ret u =>
    obtain ⟨v,σ',H',J,rv,q⟩:=hs
    exact fin J rv q
  | next =>
    obtain ⟨σ',H',J,q⟩:=hs
    exact fin (v:=V.non) (u:=Value.none) J rfl q
  | brk =>
    obtain ⟨_,_,_,q⟩:=hs
    exact False.elim q
  | cont =>
    obtain ⟨_,_,_,q⟩:=hs
    exact False.elim q
end L2
namespace L2
open PySem PySem.Spec PyProof.Rows
variable {q0:Bool}
section
variable {X:Cx} {x:Str} {p pos:Pos} {e:Expr} {es:List Expr} {t:TA} {id T:String} {r:List V→Hp→VK→Prop}
def tCB (r:List V→Hp→VK→Prop) (t:TA):TE:=fun σ H Q=>t σ H fun vs H1=>r vs H1 Q
theorem xae (hc:xbs X (.builtin id) r) (hg:Gl X x) (hm:X.mg x=none) (hv:bootBuiltins x=some (.builtin id)) (ha:PA X (e :: es) t) (hn:x≠"__name__":=by decide) (hdb:(x == ("__debug__":Str))=false:=by decide)
    (he:starEach (e :: es) X.env=(false,eval e X.env) :: starEach es X.env:=by rfl) (hpl:(backTo pos (starEach es X.env)).any (·.1)=false:=by rfl):PE X (.Call (.Name x p) (e :: es) [] pos) (tCB r t):=by
  intro pins s σ H Q I h
  refine wpAny_Call_Name_kw (xb1 I hg hm hv ?_ hn hdb)
  exact PyProof.Rows.callWith_builtin1 (thn (ha pos pins s σ H _ I h) fun us s1 ⟨vs,H1,I1,r1,q1⟩=>hc pins s1 σ H1 vs us Q I1 r1 q1) he hpl
theorem xb7 (hc:xbs X (.type T) r) (hg:Gl X x) (hm:X.mg x=none) (hv:bootBuiltins x=some (.type T)) (ha:PA X (e :: es) t) (hn:x≠"__name__":=by decide) (hdb:(x == ("__debug__":Str))=false:=by decide)
    (he:starEach (e :: es) X.env=(false,eval e X.env) :: starEach es X.env:=by rfl) (hpl:(backTo pos (starEach es X.env)).any (·.1)=false:=by rfl):PE X (.Call (.Name x p) (e :: es) [] pos) (tCB r t):=by
  intro pins s σ H Q I h
  refine wpAny_Call_Name_kw (xb1 I hg hm hv ?_ hn hdb)
  exact PyProof.Rows.callWith_type1 (thn (ha pos pins s σ H _ I h) fun us s1 ⟨vs,H1,I1,r1,q1⟩=>hc pins s1 σ H1 vs us Q I1 r1 q1) he hpl
end
end L2
namespace HT
open PySem PyProof.Rows
section
open PySem.SeqAt
open PySem.AutoSeq1 (wpAny_loadPart')
open PySem.MeetsSeq PySem.MeetsSeq2 PySem.MeetsSeq3
end
section
variable {prog:Program} {w:World} {A:Around} {E:Value→Shared→Prop} {s:Shared}
theorem cat_tup {t b:Addr} {vs ws:List Value} {Q:Value→Shared→Prop} (ht:IsTup s.heap t vs.toArray) (hb:IsTup s.heap b ws.toArray) (hv:vs≠[])
    (h1:ws=[]→Q (.ref t) s) (h2:ws≠[]→Q (.ref s.heap.objs.size) { s with heap:=s.heap.push { cls:=.type "tuple",data:=.seq (vs ++ ws).toArray } })
    (hsz:vs.length + ws.length≤sizeLine):wpAny (model prog w) A (binaryOp .Add (.ref t) (.ref b)) Q E s:=by
  obtain ⟨⟨cls,dd,data,sl⟩,ho,hc,n,hd⟩:=id ht
  obtain ⟨⟨cls2,dd2,data2,sl2⟩,ho2,hc2,n2,hd2⟩:=id hb
  simp only at hc hd hc2 hd2
  subst hc hd hc2 hd2
  have e:vs.toArray ++ ws.toArray=(vs ++ ws).toArray:=by simp
  by_cases hw:ws=[]
  · exact concat_meets ⟨_,ho,rfl⟩ ⟨_,ho2,rfl⟩ noFill_tuple_add seq_tuple_add PySem.F.slot_tuple_add PySem.F.entry_tuple_add (PySem.F.args_tuple_add_2 _ _)
      (tuple_addW1 t b vs.toArray ws.toArray n n2 dd dd2 sl sl2 (by simpa using hv) (by simp [hw])) ⟨ho,ho2,h1 hw⟩
  · refine concat_meets ⟨_,ho,rfl⟩ ⟨_,ho2,rfl⟩ noFill_tuple_add seq_tuple_add PySem.F.slot_tuple_add PySem.F.entry_tuple_add (PySem.F.args_tuple_add_2 _ _)
      (tuple_addW2 t b vs.toArray ws.toArray n n2 dd dd2 sl sl2 (by simpa using hv) (by simpa using hw) (by rw [List.size_toArray,List.size_toArray]; exact hsz)) ⟨ho,ho2,?_⟩
    rw [e]
    exact h2 hw
def sIx (n d:Nat):Option Int→Nat
 | none=>d
 | some v=>if v < 0 then (v + (n:Int)).toNat else min v.toNat n
theorem sIx_none (n d:Nat):sIx n d none=d:=rfl
theorem sIx_nat (n d k:Nat):sIx n d (some (k:Int))=min k n:=by
 show (if (k:Int) < 0 then ((k:Int) + (n:Int)).toNat else min (k:Int).toNat n)=min k n
 rw [if_neg (by omega),Int.toNat_natCast]
theorem xoc (n d:Nat) (hd:d≤n) (o:Option Int):sIx n d o≤n:=by
 cases o with
 | none=>exact hd
 | some v =>
  show (if v < 0 then (v + (n:Int)).toNat else min v.toNat n)≤n
  by_cases hv:v < 0
  ·rw [if_pos hv]; omega
  ·rw [if_neg hv]; exact Nat.min_le_right _ _
theorem xiq (v:Int) (n d:Nat):(if v < 0 then max (v + (n:Int)) 0 else min v (n:Int))=((sIx n d (some v):Nat):Int):=by
 show (if v < 0 then max (v + (n:Int)) 0 else min v (n:Int))=(((if v < 0 then (v + (n:Int)).toNat else min v.toNat n):Nat):Int)
 by_cases hv:v < 0
 ·simp only [if_pos hv]; omega
 ·simp only [if_neg hv]; omega
theorem xj2 (lo hi:Option Int) (n:Nat):Builtin.Slice.sliceAdjust lo hi 1 (n:Int)=(((sIx n 0 lo:Nat):Int),((sIx n n hi:Nat):Int)):=by
 have h1:¬ ((1:Int) < 0):=by omega
 unfold Builtin.Slice.sliceAdjust
 simp only [h1,if_false]
 refine Prod.ext ?_ ?_
 ·cases lo with
  | none=>rfl
  | some v=>exact xiq v n 0
 ·cases hi with
  | none=>rfl
  | some v=>exact xiq v n n
theorem xj5 (i j:Nat):Builtin.Slice.slicePlaces (i:Int) (j:Int) 1=j - i:=by
 unfold Builtin.Slice.slicePlaces
 have h1:(1:Int) > 0:=by omega
 simp only [h1,if_true,Int.ediv_one]
 split <;> omega
theorem xfo {v:Value} {o:Option Int} {Q:Option Int→Shared→Prop} (p:IsPart v o) (h:Q o s):wpAny (model prog w) A (Builtin.Slice.slicePartIndex v) Q E s:=by
 cases p with
 | none=>exact slicePart_none h
 | int i t=>exact slicePart_int h
theorem xe9 {sl:Addr} {vl vu:Value} {lo hi:Option Int} {n:Nat} {Q:Int × Int × Nat→Shared→Prop} (hs:s.heap.IsSliceOf sl vl vu .none) (pl:IsPart vl lo) (pu:IsPart vu hi)
    (h:Q (((sIx n 0 lo:Nat):Int),1,sIx n n hi - sIx n 0 lo) s):wpAny (model prog w) A (Builtin.Slice.sliceApplied (.ref sl) (pure (n:Int))) Q E s:=by
  obtain ⟨os,hos,hcs,hds⟩:=id hs
  unfold Builtin.Slice.sliceApplied Builtin.Slice.sliceFields
  refine wpAny_bind (wpAny_bind (wpAny_field hos hds (x:=vl) rfl (wpAny_bind (wpAny_field hos hds (x:=vu) rfl (wpAny_bind (wpAny_field hos hds (x:=.none) rfl (wpAny_pure ?_)))))))
  refine wpAny_bind (slicePart_none ?_)
  show wpAny _ _ (if ((1:Int) == 0)=true then _ else _) _ _ s
  rw [if_neg (by decide)]
  refine wpAny_bind (xfo pl (wpAny_bind (xfo pu (wpAny_bind (wpAny_pure ?_)))))
  show wpAny _ _ (match Builtin.Slice.sliceAdjust lo hi 1 (n:Int) with | (lo,hi)=>pure (lo,(1:Int),Builtin.Slice.slicePlaces lo hi 1)) _ _ s
  rw [xj2 lo hi n]
  show wpAny _ _ (pure (((sIx n 0 lo:Nat):Int),(1:Int),Builtin.Slice.slicePlaces ((sIx n 0 lo:Nat):Int) ((sIx n n hi:Nat):Int) 1)) _ _ s
  rw [xj5]
  exact wpAny_pure h
theorem xmg (xs:Array Value) (i k:Nat):((List.range k).filterMap fun (m:Nat)=>xs[((i:Int) + (m:Int) * 1).toNat]?).toArray=((xs.toList.drop i).take k).toArray:=by
 have e:(fun (m:Nat)=>xs[((i:Int) + (m:Int) * 1).toNat]?)=fun m=>xs[i + m]?:=by
  funext m
  have:((i:Int) + (m:Int) * 1).toNat=i + m:=by omega
  rw [this]
 rw [e]
 have:=pick_run xs i k
 rw [List.filterMap_map] at this
 have e2:((fun x=>xs[x]?) ∘ fun x=>i + x)=fun m=>xs[i + m]?:=rfl
 rw [e2] at this
 rw [this]
theorem getItem_tuple_cut {t sl:Addr} {items:Array Value} {vl vu:Value} {lo hi:Option Int} {Q:Value→Shared→Prop} (ht:IsTup s.heap t items) (hs:s.heap.IsSliceOf sl vl vu .none) (pl:IsPart vl lo) (pu:IsPart vu hi)
    (hw:¬ (sIx items.size 0 lo=0∧sIx items.size items.size hi=items.size))
    (h:Q (.ref s.heap.objs.size) { s with heap:=s.heap.push { cls:=.type "tuple",data:=.seq ((items.toList.drop (sIx items.size 0 lo)).take (sIx items.size items.size hi - sIx items.size 0 lo)).toArray } })
    (hsz:items.size≤sizeLine):wpAny (model prog w) A (getItem (.ref t) (.ref sl)) Q E s:=by
  have htake:sizeOk (.seq ((items.toList.drop (sIx items.size 0 lo)).take (sIx items.size items.size hi - sIx items.size 0 lo)).toArray):=by
    show ((items.toList.drop (sIx items.size 0 lo)).take (sIx items.size items.size hi - sIx items.size 0 lo)).toArray.size≤sizeLine
    rw [List.size_toArray,List.length_take,List.length_drop,Array.length_toList]
    omega
  have hj:sIx items.size items.size hi≤items.size:=xoc _ _ (Nat.le_refl _) hi
  obtain ⟨os,hos,hcs,hds⟩:=id hs
  have hTs:s.TypeIs (.ref sl) "slice":=⟨os,hos,hcs⟩
  unfold getItem
  try with_reducible refine wpAny_holding ?_
  first | refine wpAny_bind (wpAny_pure ?_) | skip
  refine wpAny_bind (wpAny_sequenceKey ht.typeIs (by decide) ?_)
  refine wpAny_bind (wpAny_callSpecial?_slot (name:=Str.ofString "__getitem__") ht.typeIs PyProof.Rows.slot_tuple_getitem
    (wpAny_call_entry PyProof.Rows.slot_tuple_getitem ht.typeIs entry_tuple_getitem ?_ (args_tuple_getitem _ _)))
  show wpAny _ _ (Builtin.Tuple.tupleItemsOf (.ref t) >>= _) _ _ s
  refine wpAny_bind (tupleItemsOf_ ht ?_)
  refine wpAny_bind (wpAny_typeOf hTs ?_)
  rw [if_pos (by decide)]
  refine wpAny_bind (xe9 hs pl pu ?_)
  have hno:¬ ((((sIx items.size 0 lo:Nat):Int) == 0 && (1:Int) == 1 && (sIx items.size items.size hi - sIx items.size 0 lo) == items.size)=true):=by
    intro q
    rw [Bool.and_eq_true,Bool.and_eq_true] at q
    have q1:((sIx items.size 0 lo:Nat):Int)=0:=eq_of_beq q.1.1
    have q2:sIx items.size items.size hi - sIx items.size 0 lo=items.size:=eq_of_beq q.2
    exact hw ⟨by omega,by omega⟩
  show wpAny _ _ (if (((sIx items.size 0 lo:Nat):Int) == 0 && (1:Int) == 1 && (sIx items.size items.size hi - sIx items.size 0 lo) == items.size)=true then _ else _) _ _ s
  rw [if_neg hno,xmg]
  first
    | exact wpAny_bind (m:=Builtin.Tuple.tupleExact _) (wpAny_newObj_type (wpAny_pure ⟨_,rfl,wpAny_pure h⟩) htake)
    | exact wpAny_bind (m:=Builtin.Tuple.tupleExact _) (wpAny_newObj_type (wpAny_bind (wpAny_pure (wpAny_pure ⟨_,rfl,wpAny_pure h⟩))) htake)
    | exact wpAny_bind (wpAny_bind (m:=Builtin.Tuple.tupleExact _) (wpAny_newObj_type (wpAny_pure (wpAny_pure ⟨_,rfl,wpAny_pure h⟩)) htake))
    | exact wpAny_bind (wpAny_bind (m:=Builtin.Tuple.tupleExact _) (wpAny_newObj_type (wpAny_pure ⟨_,rfl,wpAny_pure h⟩) htake))
end
end HT
namespace L2
open PySem PySem.Spec PyProof.Rows
variable {q0:Bool}
abbrev TO:=St→Hp→(Option Int→Hp→Prop)→Prop
def PO (X:Cx) (e:Option Expr) (t:TO):Prop :=
 ∀ (pins:List (Addr × Obj)) (s:Shared) (σ:St) (H:Hp) (Q:Option Int→Hp→Prop),Inv X pins σ H s→t σ H Q →
  wpAny (model X.prog X.w) X.A (evalPart e X.env) (fun u s'=>∃ o H',Inv X pins σ H' s'∧IsPart u o∧Q o H') X.xe s
def xnv:TO:=fun _ H Q=>Q none H
def xpx (t:TE):TO:=fun σ H Q=>t σ H fun x H1=>∃ i,x=.int i∧Q (some i) H1
theorem xj0 {ns:List Int}:∀ {us:List Value},Vals (ns.map V.int) us→IntsAre us ns:=by
 induction ns with
 | nil=>intro us r; rw [List.map_nil] at r; cases r; exact .nil
 | cons n ns ih =>
  intro us r
  rw [List.map_cons] at r
  cases r with
  | cons r1 r2 =>
   obtain ⟨t,e⟩:=r1
   subst e
   exact .cons n t (ih r2)
section
variable {X:Cx} {e:Expr} {te:TE} {lo hi:Option Expr} {tl th:TO} {pos p2:Pos}
theorem xcw:PO X none xnv:=by
 intro pins s σ H Q I h
 rw [evalPart_none]
 exact wpAny_pure ⟨none,H,I,.none,h⟩
theorem xcy (h:PE X e te):PO X (some e) (xpx te):=by
 intro pins s σ H Q I hw
 rw [evalPart_some]
 refine thn (h pins s σ H _ I hw) fun u s1 ⟨x,H1,I1,r1,q1⟩=>?_
 obtain ⟨i,rfl,q⟩:=q1
 obtain ⟨t,rfl⟩:=r1
 exact ⟨some i,H1,I1,.int i t,q⟩
def SlR (X:Cx) (r:V→Option Int→Option Int→Hp→VK→Prop):Prop :=
 ∀ (pins:List (Addr × Obj)) (s:Shared) (σ:St) (H:Hp) (x:V) (v vl vu:Value) (lo hi:Option Int) (sl:Addr) (Q:VK),Inv X pins σ H s→RelV x v→s.heap.IsSliceOf sl vl vu .none→IsPart vl lo→IsPart vu hi→r x lo hi H Q →
  ∃ T id,typeLookup (.type T) "__getitem__"=pure (some (.builtin id))∧s.TypeIs v T∧wpAny (model X.prog X.w) X.A (getItem v (.ref sl)) (EP X pins σ Q) X.xe s
def tSl (r:V→Option Int→Option Int→Hp→VK→Prop) (te:TE) (tl th:TO):TE:=fun σ H Q=>te σ H fun x H1=>tl σ H1 fun l H2=>th σ H2 fun u H3=>r x l u H3 Q
theorem xci {r:V→Option Int→Option Int→Hp→VK→Prop} (hr:SlR X r) (he:PE X e te) (hl:PO X lo tl) (hu:PO X hi th):PE X (.Subscript e (.Slice lo hi none p2) pos) (tSl r te tl th):=by
 intro pins s σ H Q I h
 refine Subscript_ (thn (he pins s σ H _ I h) fun v s1 ⟨x,H1,I1,r1,q1⟩=>?_)
 refine wpAny_Slice (thn (hl pins s1 σ H1 _ I1 q1) fun vl s2 ⟨l,H2,I2,pl,q2⟩=>thn (hu pins s2 σ H2 _ I2 q2) fun vu s3 ⟨u,H3,I3,pu,q3⟩=>?_)
 rw [evalPart_none]
 refine wpAny_pure ?_
 have I4:Inv X pins σ H3 { s3 with heap:=s3.heap.push { cls:=.type "slice",data:=.fields #[vl,vu,.none] } }:=I3.kept (t':=s3.toks) fun b ob q=>Heap.get?_push_of_some _ q
 obtain ⟨T,id,hT,ht,hg⟩:=hr pins { s3 with heap:=s3.heap.push { cls:=.type "slice",data:=.fields #[vl,vu,.none] } } σ H3 x v vl vu l u s3.heap.objs.size Q I4 r1 (Heap.IsSliceOf.new ..) pl pu q3
 show wpAny (model X.prog X.w) X.A (subscriptTail e (.Slice lo hi none p2) v (.ref s3.heap.objs.size)) (EP X pins σ Q) X.xe { s3 with heap:=s3.heap.push { cls:=.type "slice",data:=.fields #[vl,vu,.none] } }
 exact tail_any (ops:=[.ref s3.heap.objs.size,v]) ht hT hg (by with_unfolding_all rfl)
def cutV (xs:List V) (lo hi:Option Int):List V:=(xs.drop (HT.sIx xs.length 0 lo)).take (HT.sIx xs.length xs.length hi - HT.sIx xs.length 0 lo)
theorem xeu (xs:List V) (lo hi:Option Int):(cutV xs lo hi).length≤xs.length:=by
 unfold cutV
 rw [List.length_take,List.length_drop]
 omega
def rSlT (K:PySem.W.Frag):V→Option Int→Option Int→Hp→VK→Prop:=fun x lo hi H Q=>∃ a xs,x=.ref a∧SqT K H a xs ∧
 ¬ (HT.sIx xs.length 0 lo=0∧HT.sIx xs.length xs.length hi=xs.length)∧∀ p,H p=none→Q (.ref p) (upd H p (.tup (cutV xs lo hi)))
theorem xht:SlR X (rSlT X.K):=by
 intro pins s σ H x v vl vu lo hi sl Q I rx hs pl pu h
 obtain ⟨a,xs,rfl,hx,hw,q⟩:=h
 cases rx
 obtain ⟨its,r,ht,hz⟩:=I.tuple hx
 have hlen:its.toArray.size=xs.length:=by rw [List.size_toArray]; exact r.length.symm
 refine ⟨"tuple",_,PyProof.Rows.slot_tuple_getitem.lookup,ht.typeIs,?_⟩
 refine HT.getItem_tuple_cut ht hs pl pu (by rw [hlen]; exact hw) ?_ (by rw [hlen]; exact hz)
 rw [hlen]
 refine ⟨.ref s.heap.objs.size,_,I.laid (t':=s.toks) (o:=.tup (cutV xs lo hi)) (fun b ob q=>Heap.get?_push_of_some _ q) (Nat.le_refl _) ?_,rfl,q _ (I.hok.fresh (Nat.le_refl _))⟩
 exact ⟨Nat.le_trans (xeu xs lo hi) hz,_,(r.drop (HT.sIx xs.length 0 lo)).take (HT.sIx xs.length xs.length hi - HT.sIx xs.length 0 lo),IsTup.new _ _⟩
def xj6 (K:PySem.W.Frag):R2:=fun x y H Q=>∃ a b xs ys,x=.ref a∧y=.ref b∧SqT K H a xs∧SqT K H b ys∧xs≠[]∧xs.length + ys.length≤sizeLine ∧
 (ys=[]→Q (.ref a) H)∧(ys≠[]→∀ p,H p=none→Q (.ref p) (upd H p (.tup (xs ++ ys))))
theorem Vals.nil_iff {xs:List V} {us:List Value} (r:Vals xs us):us=[] ↔ xs=[]:=by
 cases r with
 | nil=>simp
 | cons _ _=>simp
theorem xix:OpR X (binaryOp .Add) (xj6 X.K):=by
 intro pins s σ H x y v u Q I rx ry h
 obtain ⟨a,b,xs,ys,rfl,rfl,ha,hb,hx,hz,q1,q2⟩:=h
 cases rx
 cases ry
 obtain ⟨its,r1,p1,_⟩:=I.tuple ha
 obtain ⟨its2,r2,p2,_⟩:=I.tuple hb
 refine HT.cat_tup p1 p2 (fun z=>hx (r1.nil_iff.mp z)) (fun z=>⟨.ref a,H,I,rfl,q1 (r2.nil_iff.mp z)⟩) (fun z=>?_) (by rw [← r1.length,← r2.length]; exact hz)
 refine ⟨.ref s.heap.objs.size,_,I.laid (t':=s.toks) (o:=.tup (xs ++ ys)) (fun b ob q=>Heap.get?_push_of_some _ q) (Nat.le_refl _) ?_,rfl,q2 (fun w=>z (r2.nil_iff.mpr w)) _ (I.hok.fresh (Nat.le_refl _))⟩
 exact ⟨by rw [List.length_append]; exact hz,_,r1.append r2,IsTup.new _ _⟩
end
end L2
namespace L2
open PySem PySem.Spec PyProof.Rows
variable {q0:Bool}
def ixN (n:Nat) (i:Int):Option Nat:=if 0≤i then (if i < n then some i.toNat else none) else if -(n:Int)≤i then some (i + n).toNat else none
def atI {α:Type} (xs:List α) (i:Int):Option α:=(ixN xs.length i).bind fun j=>xs[j]?
theorem xi7 {n:Nat} {i:Int} {j:Nat} (h:ixN n i=some j):seqIndex? i n=some j∧j < n∧-(n:Int)≤i∧i < n:=by
 unfold ixN at h
 by_cases h0:0≤i
 ·rw [if_pos h0] at h
  by_cases h1:i < n
  ·rw [if_pos h1] at h
   have e:i.toNat=j:=Option.some.inj h
   exact ⟨by rw [seqIndex_of h0 h1,e],by omega,by omega,h1⟩
  ·rw [if_neg h1] at h; cases h
 ·rw [if_neg h0] at h
  by_cases h1:-(n:Int)≤i
  ·rw [if_pos h1] at h
   have e:(i + n).toNat=j:=Option.some.inj h
   exact ⟨by rw [seqIndex_neg (by omega) h1,e],by omega,h1,by omega⟩
  ·rw [if_neg h1] at h; cases h
theorem xfv {α:Type} {xs:List α} {i:Int} {v:α} (h:atI xs i=some v):∃ j,seqIndex? i xs.length=some j∧xs[j]?=some v∧j < xs.length∧-(xs.length:Int)≤i∧i < xs.length:=by
 unfold atI at h
 cases e:ixN xs.length i with
 | none=>rw [e] at h; cases h
 | some j =>
  rw [e] at h
  obtain ⟨h1,h2,h3,h4⟩:=xi7 e
  exact ⟨j,h1,h,h2,h3,h4⟩
theorem xf3 {α:Type} {xs:List α} {j:Nat} {v:α} (h:xs[j]?=some v):atI xs (j:Int)=some v:=by
 have hj:j < xs.length:=(List.getElem?_eq_some_iff.mp h).1
 have e:ixN xs.length (j:Int)=some j:=by
  unfold ixN
  rw [if_pos (by omega),if_pos (by omega)]; simp
 unfold atI; rw [e]; exact h
def xmx (b:Expr):Prop:=∀ o i,subscripted b false o i=operate [o,i] (getItem o i)
def IxR (X:Cx) (r:R2):Prop :=
 ∀ (value slice:Expr) (pins:List (Addr × Obj)) (s:Shared) (σ:St) (H:Hp) (x y:V) (v u:Value) (Q:VK),Inv X pins σ H s→RelV x v→RelV y u→r x y H Q →
  subscripted slice false v u=operate [v,u] (getItem v u)→wpAny (model X.prog X.w) X.A (subscriptTail value slice v u) (EP X pins σ Q) X.xe s
def MtR (X:Cx) (id:String) (r:V→List V→Hp→VK→Prop):Prop :=
 ∀ (pins:List (Addr × Obj)) (s:Shared) (σ:St) (H:Hp) (x:V) (xs:List V) (v:Value) (us:List Value) (Q:VK),Inv X pins σ H s→RelV x v→Vals xs us→r x xs H Q →
  wpAny (model X.prog X.w) X.A (call (.builtin id) (v :: us)) (EP X pins σ Q) X.xe s
section
variable {X:Cx} {a b:Expr} {ta tb:TE} {pos:Pos}
theorem xaf {r:R2} (hr:IxR X r) (ha:PE X a ta) (hb:PE X b tb) (hs:xmx b):PE X (.Subscript a b pos) (tOp r ta tb):=by
 intro pins s σ H Q I h
 exact Subscript_ (binT ha hb I h fun v u s2 x y H2 I2 rx ry q=>hr a b pins s2 σ H2 x y v u Q I2 rx ry q (hs _ _))
def rIxL (K:PySem.W.Frag):R2:=fun x y H Q=>∃ p xs i v,x=.ref p∧y=.int i∧SqL K H p xs∧atI xs i=some v∧Q v H
def rIxT (K:PySem.W.Frag):R2:=fun x y H Q=>∃ p xs i v,x=.ref p∧y=.int i∧SqT K H p xs∧atI xs i=some v∧Q v H
def rIxS:R2:=fun x y H Q=>∃ z i c,x=.str z∧y=.int i∧z.length≤sizeLine∧atI z.cps.toList i=some c∧Q (.str ⟨#[c]⟩) H
theorem xaq:IxR X (rIxL X.K):=by
 intro value slice pins s σ H x y v u Q I rx ry h hs
 obtain ⟨p,xs,i,z,rfl,rfl,hq,he,q⟩:=h
 cases rx
 obtain ⟨t,rfl⟩:=ry
 obtain ⟨its,r,pl,hz⟩:=I.list hq
 obtain ⟨j,h1,h2,h3,h4,h5⟩:=xfv he
 obtain ⟨w,ew,rw'⟩:=r.get h2
 have hl:=r.length
 have hn:=xdj
 have fin:EP X pins σ Q w s:=⟨z,H,I,rw',q⟩
 by_cases h0:0≤i
 ·have hj:i.toNat=j:=by
   rw [seqIndex_of h0 h5] at h1
   exact Option.some.inj h1
  exact item_listR pl.isList h0 (by omega) (by rw [hj]; simpa using ew) fin hs
 ·have hj:(i + (its.toArray.size:Int)).toNat=j:=by
   rw [seqIndex_neg (by omega) h4] at h1
   rw [List.size_toArray,← hl]
   exact Option.some.inj h1
  exact subscriptTail_builtinR (x:=w) pl.isList.typeIs slot_list_getitem.lookup
   (wpAny_getItem_list_neg (Q:=fun r s'=>r=w∧EP X pins σ Q r s') pl.isList (by omega) (by rw [List.size_toArray] <;> omega) (by omega) (by rw [hj]; simpa using ew) ⟨rfl,fin⟩) hs
theorem xbd:IxR X (rIxT X.K):=by
 intro value slice pins s σ H x y v u Q I rx ry h hs
 obtain ⟨p,xs,i,z,rfl,rfl,hq,he,q⟩:=h
 cases rx
 obtain ⟨t,rfl⟩:=ry
 obtain ⟨its,r,pl,hz⟩:=I.tuple hq
 obtain ⟨j,h1,h2,h3,h4,h5⟩:=xfv he
 obtain ⟨w,ew,rw'⟩:=r.get h2
 have hl:=r.length
 have hn:=xdj
 have fin:EP X pins σ Q w s:=⟨z,H,I,rw',q⟩
 exact subscriptTail_builtinR (x:=w) pl.typeIs slot_tuple_getitem.lookup
  (getItem_tuple (j:=j) (Q:=fun r s'=>r=w∧EP X pins σ Q r s') pl (by omega) (by omega) (by rw [List.size_toArray,← hl]; exact h1) (by simpa using ew) ⟨rfl,fin⟩) hs
theorem xo7:IxR X rIxS:=by
 intro value slice pins s σ H x y v u Q I rx ry h hs
 obtain ⟨z,i,c,rfl,rfl,hz,he,q⟩:=h
 obtain ⟨t,rfl⟩:=rx
 obtain ⟨t',rfl⟩:=ry
 obtain ⟨j,h1,h2,h3,h4,h5⟩:=xfv he
 have hl:z.cps.toList.length=z.length:=by simp [Str.length]
 rw [hl] at h1 h4 h5
 have hn:=xdj
 exact tail_any (typeIs_str s z t) slot_str_getitem.lookup (getItem_str (c:=c) (by
  have e1:decide (i < -(2 ^ 63:Int))=false:=decide_eq_false (by omega)
  have e2:decide (i ≥ 2 ^ 63)=false:=decide_eq_false (by omega)
  rw [e1,e2,Bool.or_false]) (by rw [h1]; simpa using h2) ⟨.str ⟨#[c]⟩,H,I.tok _,⟨_,rfl⟩,q⟩) hs
theorem xja (its:List Value) (n j:Nat) (u:Value):Obj.mapSeq (·.setIfInBounds j u) { cls:=.type "list",data:=.seq its.toArray n }={ cls:=.type "list",data:=.seq (its.set j u).toArray n }:=by
 simp [Obj.mapSeq]
theorem Inv.lst {pins:List (Addr × Obj)} {σ:St} {H:Hp} {s:Shared} {p:Addr} {xs:List V} (I:Inv X pins σ H s) (h:H p=some (.lst xs)) :
    ∃ (its:List Value) (n:Nat),Vals xs its∧s.heap.get? p=some { cls:=.type "list",data:=.seq its.toArray n }∧xs.length≤sizeLine:=by
  obtain ⟨z,its,n,r,e⟩:=I.hok p _ h
  exact ⟨its,n,r,e,z⟩
theorem Inv.lstUpd {pins:List (Addr × Obj)} {σ:St} {H:Hp} {s:Shared} {p:Addr} {xs ys:List V} {its its':List Value} {n n':Nat} {f:Obj→Obj} (I:Inv X pins σ H s) (h:H p=some (.lst xs))
    (ho:s.heap.get? p=some { cls:=.type "list",data:=.seq its.toArray n }) (hf:f { cls:=.type "list",data:=.seq its.toArray n }={ cls:=.type "list",data:=.seq its'.toArray n' }) (r:Vals ys its') (hz:ys.length≤sizeLine) (t:Nat) :
    Inv X pins σ (upd H p (.lst ys)) { s with heap:=s.heap.update p f,toks:=t }:=by
  have e:(s.heap.update p f).get? p=some { cls:=.type "list",data:=.seq its'.toArray n' }:=by
    rw [Heap.get?_update_self f ho (by rw [hf] <;> rfl),hf]
  refine I.write (x:=p) (e:=p) (by rw [h]; trivial) (.inl rfl) (fun b u hb q=>(Heap.get?_update_other _ _ (Ne.symm hb)).trans q) ⟨_,e⟩ ?_
  exact ⟨hz,its',n',r,e⟩
def xp0:V→V→V→Hp→(Hp→Prop)→Prop:=fun o i v H Q=>∃ p xs k j,o=.ref p∧i=.int k∧H p=some (.lst xs)∧ixN xs.length k=some j∧Q (upd H p (.lst (xs.set j v)))
theorem xdw:PSet X xp0:=by
 intro pins s σ H o i v ov iv u Q I ro ri rv h
 obtain ⟨p,xs,k,j,rfl,rfl,hp,hj,q⟩:=h
 cases ro
 obtain ⟨t,rfl⟩:=ri
 obtain ⟨its,n,r,ho,hz⟩:=I.lst hp
 obtain ⟨h1,h2,h3,h4⟩:=xi7 hj
 have hl:=r.length
 have hn:=xdj
 have I':Inv X pins σ (upd H p (.lst (xs.set j v))) { s with heap:=s.heap.update p (Obj.mapSeq (·.setIfInBounds j u)) } :=
  I.lstUpd hp ho (xja its n j u) (r.set rv j) (by rw [List.length_set]; exact hz) s.toks
 by_cases h0:0≤k
 ·have hk:k.toNat=j:=by
   rw [seqIndex_of h0 h4] at h1
   exact Option.some.inj h1
  exact PySem.W.ki_setAt ho h0 (by omega) (by rw [List.size_toArray,← hl]; exact h4) (by rw [hk]; exact ⟨_,I',q⟩)
 ·have hk:(k + (its.toArray.size:Int)).toNat=j:=by
   rw [seqIndex_neg (by omega) h3] at h1
   rw [List.size_toArray,← hl]
   exact Option.some.inj h1
  exact PySem.W.ki_setBack ho (by omega) (by rw [List.size_toArray,← hl]; exact h3) (by omega) (by rw [hk]; exact ⟨_,I',q⟩)
theorem xh8 (lo hi:Option Int) (n:Nat):(sliceBounds lo hi none n).1=((HT.sIx n 0 lo:Nat):Int)∧(sliceBounds lo hi none n).2.1=((HT.sIx n n hi:Nat):Int)∧(sliceBounds lo hi none n).2.2=1:=by
 refine ⟨?_,?_,rfl⟩
 ·cases lo with
  | none=>simp [sliceBounds,HT.sIx]
  | some i =>
   simp only [sliceBounds,HT.sIx,Option.getD_none,show (1:Int) > 0 by decide,if_true]
   by_cases h:i < 0
   ·simp only [h,if_true] <;> omega
   ·simp only [h,if_false] <;> omega
 ·cases hi with
  | none=>simp [sliceBounds,HT.sIx]
  | some i =>
   simp only [sliceBounds,HT.sIx,Option.getD_none,show (1:Int) > 0 by decide,if_true]
   by_cases h:i < 0
   ·simp only [h,if_true] <;> omega
   ·simp only [h,if_false] <;> omega
theorem xgv (its:List Value) (lo hi:Option Int):slicePick its.toArray lo hi none=((its.drop (HT.sIx its.length 0 lo)).take (HT.sIx its.length its.length hi - HT.sIx its.length 0 lo)).toArray:=by
 obtain ⟨h1,h2,h3⟩:=xh8 lo hi its.toArray.size
 unfold slicePick
 rw [h1,h2,h3]
 simp only [sliceRange_one,pick_run,List.size_toArray] <;> rfl
def rSlL (K:PySem.W.Frag):V→Option Int→Option Int→Hp→VK→Prop:=fun x lo hi H Q=>∃ a xs,x=.ref a∧SqL K H a xs∧∀ p,H p=none→Q (.ref p) (upd H p (.lst (cutV xs lo hi)))
theorem xfu:SlR X (rSlL X.K):=by
 intro pins s σ H x v vl vu lo hi sl Q I rx hs pl pu h
 obtain ⟨a,xs,rfl,hx,q⟩:=h
 cases rx
 obtain ⟨its,r,ht,hz⟩:=I.list hx
 have hlen:=r.length
 refine ⟨"list",_,slot_list_getitem.lookup,ht.isList.typeIs,?_⟩
 refine wpAny_getItem_list_slice ht.isList hs pl pu .none (by simp) ?_ (by rw [List.size_toArray] <;> omega)
 rw [xgv,← hlen]
 refine ⟨.ref s.heap.objs.size,_,I.laid (t':=s.toks) (o:=.lst (cutV xs lo hi)) (fun b ob q=>Heap.get?_push_of_some _ q) (Nat.le_refl _) ?_,rfl,q _ (I.hok.fresh (Nat.le_refl _))⟩
 exact ⟨Nat.le_trans (xeu xs lo hi) hz,_,0,(r.drop (HT.sIx xs.length 0 lo)).take (HT.sIx xs.length xs.length hi - HT.sIx xs.length 0 lo),Heap.get?_push_size _ rfl⟩
def xcs:V→Bool
 | .non=>true
 | .bl _=>true
 | .int _=>true
 | .str _=>true
 | _=>false
def eqV:V→V→Bool
 | .non,.non=>true
 | .bl a,.bl b=>a == b
 | .bl a,.int b=>(if a then 1 else 0) == b
 | .int a,.bl b=>a == (if b then 1 else 0)
 | .int a,.int b=>a == b
 | .str a,.str b=>a == b
 | _,_=>false
theorem xoq {A:Around} {s:Shared} {y x:V} {u v:Value} (ry:RelV y u) (rx:RelV x v) (fy:xcs y=true) (fx:xcs x=true):SeqAt.EqAt A s u v (eqV y x):=by
 cases y with
 | non =>
  cases ry
  cases x with
  | non=>cases rx; exact SeqAt.EqAt.same _
  | bl b=>cases rx; exact SeqAt.EqAt.none_bool b
  | int b=>obtain ⟨t,rfl⟩:=rx; exact SeqAt.EqAt.none_int b t
  | str b=>obtain ⟨t,rfl⟩:=rx; exact SeqAt.EqAt.none_str b t
  | _=>exact absurd (show false=true from fx) Bool.false_ne_true
 | bl a =>
  cases ry
  cases x with
  | non=>cases rx; exact SeqAt.EqAt.bool_none a
  | bl b=>cases rx; exact SeqAt.EqAt.bool_bool a b
  | int b=>obtain ⟨t,rfl⟩:=rx; exact SeqAt.EqAt.bool_int a b t
  | str b=>obtain ⟨t,rfl⟩:=rx; exact SeqAt.EqAt.bool_str a b t
  | _=>exact absurd (show false=true from fx) Bool.false_ne_true
 | int a =>
  obtain ⟨t',rfl⟩:=ry
  cases x with
  | non=>cases rx; exact SeqAt.EqAt.int_none a t'
  | bl b=>cases rx; exact SeqAt.EqAt.int_bool a t' b
  | int b=>obtain ⟨t,rfl⟩:=rx; exact SeqAt.EqAt.int_int a t' b t
  | str b=>obtain ⟨t,rfl⟩:=rx; exact SeqAt.EqAt.int_str a t' b t
  | _=>exact absurd (show false=true from fx) Bool.false_ne_true
 | str a =>
  obtain ⟨t',rfl⟩:=ry
  cases x with
  | non=>cases rx; exact SeqAt.EqAt.str_none a t'
  | bl b=>cases rx; exact SeqAt.EqAt.str_bool a t' b
  | int b=>obtain ⟨t,rfl⟩:=rx; exact SeqAt.EqAt.str_int a t' b t
  | str b=>obtain ⟨t,rfl⟩:=rx; exact SeqAt.EqAt.str_str a t' b t
  | _=>exact absurd (show false=true from fx) Bool.false_ne_true
 | _=>exact absurd (show false=true from fy) Bool.false_ne_true
def eqU (x:V) (u:Value):Bool:=match u with
 | .none=>eqV .non x
 | .bool b=>eqV (.bl b) x
 | .int i _=>eqV (.int i) x
 | .str z _=>eqV (.str z) x
 | _=>false
theorem xk1 {x y:V} {u:Value} (r:RelV y u) (f:xcs y=true):eqU x u=eqV y x:=by
 cases y with
 | non=>cases r; rfl
 | bl b=>cases r; rfl
 | int i=>obtain ⟨t,rfl⟩:=r; rfl
 | str z=>obtain ⟨t,rfl⟩:=r; rfl
 | _=>exact absurd (show false=true from f) Bool.false_ne_true
theorem xdm {x:V}:∀ {xs:List V} {us:List Value},Vals xs us→xs.all xcs=true→us.any (eqU x)=xs.any fun y=>eqV y x
 | _,_,.nil,_=>rfl
 | y :: xs,u :: us,.cons r t,f=>by
  rw [List.all_cons,Bool.and_eq_true] at f
  rw [List.any_cons,List.any_cons,xk1 r f.1,xdm t f.2]
theorem xc6 {A:Around} {s:Shared} {x:V} {v:Value} (rx:RelV x v) (fx:xcs x=true):∀ {xs:List V} {us:List Value},Vals xs us→xs.all xcs=true→∀ u ∈ us,SeqAt.EqAt A s u v (eqU x u)
 | _,_,.nil,_=>fun u hu=>by cases hu
 | y :: xs,u :: us,.cons r t,f=>fun u' hu=>by
  rw [List.all_cons,Bool.and_eq_true] at f
  rcases List.mem_cons.mp hu with rfl | hu
  ·rw [xk1 r f.1]; exact xoq r rx f.1 fx
  ·exact xc6 rx fx t f.2 u' hu
def inV (x:V) (xs:List V):Bool:=xs.any fun y=>eqV y x
def rIn (K:PySem.W.Frag) (neg:Bool):R2:=fun x y H Q=>∃ p xs,y=.ref p∧(SqL K H p xs∨SqT K H p xs)∧xcs x=true∧xs.all xcs=true∧Q (.bl (if neg then !inV x xs else inV x xs)) H
theorem xgr:OpR X (compareOp .In) (rIn X.K false):=by
 intro pins s σ H x y v u Q I rx ry h
 obtain ⟨p,xs,rfl,hq,fx,fs,q⟩:=h
 cases ry
 rcases hq with hq | hq
 ·obtain ⟨its,r,pl,hz⟩:=I.list hq
  refine SeqAt.in_listAt (eqU x) pl.isList (fun w hw=>xc6 rx fx r fs w (by simpa using hw)) ⟨.bl _,H,I,rfl,?_⟩
  rw [show its.toArray.any (eqU x)=its.any (eqU x) by simp,xdm r fs]
  exact q
 ·obtain ⟨its,r,pl,hz⟩:=I.tuple hq
  refine SeqAt.in_tupleAt (eqU x) pl (fun w hw=>xc6 rx fx r fs w (by simpa using hw)) ⟨.bl _,H,I,rfl,?_⟩
  rw [show its.toArray.any (eqU x)=its.any (eqU x) by simp,xdm r fs]
  exact q
theorem xd6:OpR X (compareOp .NotIn) (rIn X.K true):=by
 intro pins s σ H x y v u Q I rx ry h
 obtain ⟨p,xs,rfl,hq,fx,fs,q⟩:=h
 cases ry
 rcases hq with hq | hq
 ·obtain ⟨its,r,pl,hz⟩:=I.list hq
  refine SeqAt.notIn_listAt (eqU x) pl.isList (fun w hw=>xc6 rx fx r fs w (by simpa using hw)) ⟨.bl _,H,I,rfl,?_⟩
  rw [show its.toArray.any (eqU x)=its.any (eqU x) by simp,xdm r fs]
  exact q
 ·obtain ⟨its,r,pl,hz⟩:=I.tuple hq
  refine SeqAt.notIn_tupleAt (eqU x) pl (fun w hw=>xc6 rx fx r fs w (by simpa using hw)) ⟨.bl _,H,I,rfl,?_⟩
  rw [show its.toArray.any (eqU x)=its.any (eqU x) by simp,xdm r fs]
  exact q
theorem xbx:xbs X (.builtin "len") (fun xs H Q=>∃ p ys,xs=[.ref p]∧(SqL X.K H p ys∨SqT X.K H p ys)∧Q (.int ys.length) H):=by
 intro pins s σ H xs us Q I r h
 obtain ⟨p,ys,rfl,hq,q⟩:=h
 obtain ⟨u,rfl,rx⟩:=xbz r
 cases rx
 have hn:=xdj
 rcases hq with hq | hq
 ·obtain ⟨its,r',pl,hz⟩:=I.list hq
  have hlen:=r'.length
  exact Calls.call_len_list pl.isList (by simp only [List.size_toArray] <;> omega) ⟨.int ys.length,H,I.tok _,⟨s.toks + 1,by rw [List.size_toArray,hlen]⟩,q⟩
 ·obtain ⟨its,r',pl,hz⟩:=I.tuple hq
  have hlen:=r'.length
  exact len_tuple pl (by simp only [List.size_toArray] <;> omega) ⟨.int ys.length,H,I.tok _,⟨s.toks + 1,by rw [List.size_toArray,hlen]⟩,q⟩
theorem xh5:xbs X (.builtin "len") (fun xs H Q=>∃ z,xs=[.str z]∧z.length≤sizeLine∧Q (.int z.length) H):=by
 intro pins s σ H xs us Q I r h
 obtain ⟨z,rfl,hz,q⟩:=h
 obtain ⟨u,rfl,t,rfl⟩:=xbz r
 have hn:=xdj
 exact len_str (by omega) ⟨.int z.length,H,I.tok _,⟨_,rfl⟩,q⟩
theorem xd8:xbs X (.type "list") (fun xs H Q=>∃ p ys,xs=[.ref p]∧(SqL X.K H p ys∨SqT X.K H p ys)∧∀ l,H l=none→Q (.ref l) (upd H l (.lst ys))):=by
  intro pins s σ H xs us Q I r h
  obtain ⟨p,ys,rfl,hq,q⟩:=h
  obtain ⟨u,rfl,rx⟩:=xbz r
  cases rx
  have fin:∀ (its:List Value),Vals ys its→ys.length≤sizeLine→∀ (h':Heap) (c':Nat),(∀ b o',s.heap.get? b=some o'→h'.get? b=some o') →
      h'.get? s.heap.objs.size=some { cls:=.type "list",dict:=none,data:=.seq its.toArray c',slots:=#[] }→EP X pins σ Q (.ref s.heap.objs.size) { s with heap:=h' }:=fun its r' hz h' c' kp e =>
    ⟨.ref s.heap.objs.size,_,I.laid (t':=s.toks) kp (Nat.le_refl _) (show xak X.prog X.w _ h' _ (.lst ys) from ⟨hz,its,c',r',e⟩),rfl,q _ (I.hok.fresh (Nat.le_refl _))⟩
  rcases hq with hq | hq
  · obtain ⟨its,r',pl,hz⟩:=I.list hq
    have hlen:=r'.length
    obtain ⟨o,ho,hc,n,hd⟩:=pl.isList
    exact call_list_seq p (.inl rfl) ho hc hd (fun h' c' kp e=>fin its r' hz h' c' kp e) (by simp only [List.size_toArray] <;> omega)
  · obtain ⟨its,r',pl,hz⟩:=I.tuple hq
    have hlen:=r'.length
    obtain ⟨o,ho,hc,n,hd⟩:=pl
    exact call_list_seq p (.inr rfl) ho hc hd (fun h' c' kp e=>fin its r' hz h' c' kp e) (by simp only [List.size_toArray] <;> omega)
def tyV (K:PySem.W.Frag) (T:String) (x:V) (H:Hp):Prop:=match x with
  | .str _=>T="str"
  | .int _=>T="int"
  | .ref p=>(T="list"∧∃ xs,SqL K H p xs)∨(T="tuple"∧∃ o,K.lookup p=some o∧o.cls=.type "tuple"∧o.dict=none) ∨
      (T="dict"∧((∃ kvs,H p=some (.dK kvs))∨∃ kvs,H p=some (.dT kvs)))∨(T="set"∧∃ S n,H p=some (.set S n))
  | _=>False
theorem xo5 {pins:List (Addr × Obj)} {σ:St} {H:Hp} {s:Shared} {T:String} {x:V} {v:Value} (I:Inv X pins σ H s) (r:RelV x v) (ty:tyV X.K T x H) :
    s.TypeIs v T∧∀ a,v=.ref a→∃ ob,s.heap.get? a=some ob∧ob.dict=none:=by
  cases x with
  | str z =>
    obtain ⟨t,rfl⟩:=r
    cases (show T="str" from ty)
    exact ⟨typeIs_str s z t,fun _ e=>nomatch e⟩
  | int i =>
    obtain ⟨t,rfl⟩:=r
    cases (show T="int" from ty)
    exact ⟨typeIs_int s i t,fun _ e=>nomatch e⟩
  | ref p =>
    cases r
    rcases ty with ⟨rfl,xs,hq⟩ | ⟨rfl,o,hk,hc,hd⟩ | ⟨rfl,hk⟩ | ⟨rfl,S,n,hk⟩
    · obtain ⟨its,_,pl,_⟩:=I.list hq
      refine ⟨pl.isList.typeIs,fun a e=>?_⟩
      cases e
      obtain ⟨o,n,e,c,hd,_⟩:=pl
      exact ⟨o,e,hd⟩
    · refine ⟨⟨o,I.kIn p o hk,hc⟩,fun a e=>?_⟩
      cases e
      exact ⟨o,I.kIn _ o hk,hd⟩
    · have z:∃ o,s.heap.get? p=some o∧o.ExactDict:=by
        rcases hk with ⟨kvs,hk⟩ | ⟨kvs,hk⟩
        · obtain ⟨_,_,_,_,o,_,_,e,ex,_⟩:=I.hok p _ hk
          exact ⟨o,e,ex⟩
        · obtain ⟨_,_,_,_,o,_,_,e,ex,_⟩:=I.hok p _ hk
          exact ⟨o,e,ex⟩
      obtain ⟨o,e,ex⟩:=z
      refine ⟨⟨o,e,ex.1⟩,fun a e2=>?_⟩
      cases e2
      exact ⟨o,e,ex.2.1⟩
    · obtain ⟨o,_,_,_,e,ex,_⟩:=I.hok p _ hk
      refine ⟨⟨o,e,ex.1⟩,fun a e2=>?_⟩
      cases e2
      exact ⟨o,e,ex.2.1⟩
  | _=>exact False.elim ty
def tBM (K:PySem.W.Frag) (T:String) (r:V→List V→Hp→VK→Prop) (to:TE) (t:TA):TE:=fun σ H Q=>to σ H fun x H1=>tyV K T x H1∧t σ H1 fun xs H2=>r x xs H2 Q
variable {o e:Expr} {es:List Expr} {to:TE} {t:TA} {name:Str} {apos cpos:Pos} {T id:String} {r:V→List V→Hp→VK→Prop}
theorem xeo (pa:PlainAttrs T) (slot:Slot T name id) (hty:typeOf (.builtin id)=pure (.type "method_descriptor")) (hm:MtR X id r) (ho:PE X o to) (ha:PA X (e :: es) t)
    (hbase:attributeBase o name X.env (eval o X.env)=eval o X.env:=by rfl)
    (hfew:((backTo cpos (starEach (e :: es) X.env)).all (fun x=>!x.1) && (backToKw cpos (keywordEach [] X.env)).all (fun x=>x.1.isSome)
      && decide ((e :: es).length + ([]:List Keyword).length + (if ([]:List Keyword).isEmpty then 0 else 1) < 30))=true:=by rfl)
    (hline:(apos.endLine == cpos.line)=true:=by rfl) (hs:starEach (e :: es) X.env=(false,eval e X.env) :: starEach es X.env:=by rfl) (hplain:(backTo cpos (starEach es X.env)).any (·.1)=false:=by rfl) :
    PE X (.Call (.Attribute o name apos) (e :: es) [] cpos) (tBM X.K T r to t):=by
  intro pins s σ H Q I h
  refine wpAny_Call_method_late hbase hfew hline rfl (thn (ho pins s σ H _ I h) fun v s1 ⟨x,H1,I1,r1,ty,q1⟩=>?_)
  obtain ⟨h1,h2⟩:=xo5 I1 r1 ty
  refine ⟨T,id,pa,slot,hty,h1,h2,?_⟩
  have hA:=ha cpos pins s1 σ H1 _ I1 q1
  rw [hs] at hA ⊢
  refine Calls.callWith_builtin (by show (false || (backTo cpos (starEach es X.env)).any (·.1))=false; rw [hplain] <;> rfl) (Calls.evalArgs_plain ?_)
  exact thn hA fun us s2 ⟨vs,H2,I2,r2,q2⟩=>hm pins s2 σ H2 x vs v us Q I2 r1 r2 q2
end
end L2
namespace L2
open PySem PySem.Spec PyProof.Rows
variable {q0:Bool}
def MtM (X:Cx) (id:String) (r:V→List V→Hp→VK→Prop):Prop :=
 ∀ (pins:List (Addr × Obj)) (s:Shared) (σ:St) (H:Hp) (x:V) (xs:List V) (v:Value) (us:List Value) (Q:VK),Inv X pins σ H s→RelV x v→Vals xs us→r x xs H Q →
  wpAny (model X.prog X.w) X.A (call (.builtin id) (v :: us)) (EP X pins σ Q) X.xe s
theorem Vals.one:∀ {x:V} {us:List Value},Vals [x] us→∃ u,us=[u]∧RelV x u
 | _,_,.cons r .nil=>⟨_,rfl,r⟩
section
variable {X:Cx} {pins:List (Addr × Obj)} {σ:St} {H:Hp} {s:Shared} {l b:Addr} {xs ys zs:List V}
theorem Inv.lset {its its':List Value} {n:Nat} {f:Array Value→Array Value} {t':Nat} (I:Inv X pins σ H s) (hH:H l=some (.lst xs))
    (e:s.heap.get? l=some { cls:=.type "list",data:=.seq its.toArray n }) (hf:f its.toArray=its'.toArray) (hv:Vals ys its') (hz:ys.length≤sizeLine) :
    Inv X pins σ (upd H l (.lst ys)) { s with heap:=s.heap.update l (Obj.mapSeq f),toks:=t' }:=by
  have q:=PySem.IsL.update e f
  rw [hf] at q
  refine I.write (x:=l) (e:=l) (by rw [hH]; exact trivial) (.inl rfl) (fun b' u hb hu=>(Heap.get?_update_other s.heap (Obj.mapSeq f) (Ne.symm hb)).trans hu) ⟨_,q⟩ ?_
  exact ⟨hz,its',_,hv,q⟩
theorem Inv.lnew {its:List Value} {t':Nat} (I:Inv X pins σ H s) (hv:Vals ys its) (hz:ys.length≤sizeLine) :
    Inv X pins σ (upd H s.heap.objs.size (.lst ys)) { s with heap:=s.heap.push { cls:=.type "list",data:=.seq its.toArray },toks:=t' } :=
  I.laid (fun _ _ q=>Heap.get?_push_of_some _ q) (Nat.le_refl _) ⟨hz,its,0,hv,Heap.get?_push_size _ rfl⟩
theorem Inv.fresh (I:Inv X pins σ H s):H s.heap.objs.size=none:=I.hok.fresh (Nat.le_refl _)
theorem Inv.lstM (I:Inv X pins σ H s) (hH:H l=some (.lst xs)):xs.length≤sizeLine∧∃ (its:List Value) (n:Nat),Vals xs its∧xs.length=its.length∧s.heap.get? l=some { cls:=.type "list",data:=.seq its.toArray n }:=by
 obtain ⟨z,its,n,r,e⟩:=I.hok l _ hH
 exact ⟨z,its,n,r,r.length,e⟩
end
section
variable {X:Cx}
def xnm:V→List V→Hp→VK→Prop:=fun x vs H Q=>∃ l xs y,x=.ref l∧vs=[y]∧H l=some (.lst xs)∧xs.length < sizeLine∧Q .non (upd H l (.lst (xs ++ [y])))
theorem xbu:MtM X "list.append" xnm:=by
 intro pins s σ H x vs v us Q I rx rv h
 obtain ⟨l,xs,y,rfl,rfl,hH,hz,q⟩:=h
 cases rx
 obtain ⟨u,rfl,ru⟩:=rv.one
 obtain ⟨z,its,n,r,hl,e⟩:=I.lstM hH
 refine call_meets F.slot_list_append ⟨_,e,rfl⟩ F.entry_list_append (F.args_list_append_2 _ _) (PySem.list_append l its.toArray n u (by rw [List.size_toArray]; omega)) ⟨e,?_⟩
 refine ⟨.non,_,I.lset (its':=its ++ [u]) hH e (by simp) (r.append (.cons ru .nil)) ?_,rfl,q⟩
 rw [List.length_append,List.length_singleton]
 omega
def rCat:R2:=fun x y H Q=>∃ l b xs zs,x=.ref l∧y=.ref b∧H l=some (.lst xs)∧H b=some (.lst zs)∧xs.length + zs.length≤sizeLine∧∀ p,H p=none→Q (.ref p) (upd H p (.lst (xs ++ zs)))
theorem xkc:OpR X (binaryOp .Add) rCat:=by
 intro pins s σ H x y v u Q I rx ry h
 obtain ⟨l,b,xs,zs,rfl,rfl,hH,hB,hz,q⟩:=h
 cases rx
 cases ry
 obtain ⟨z,its,n,r,hl,e⟩:=I.lstM hH
 obtain ⟨z2,its2,n2,r2,hl2,e2⟩:=I.lstM hB
 refine PySem.P.add_list e e2 ?_ (by rw [List.size_toArray,List.size_toArray]; omega)
 have ea:its.toArray ++ its2.toArray=(its ++ its2).toArray:=by simp
 rw [ea]
 exact ⟨.ref _,_,I.lnew (t':=s.toks) (r.append r2) (by rw [List.length_append]; omega),rfl,q _ I.fresh⟩
end
section
variable {prog:Program} {w:World} {A:Around} {E:Value→Shared→Prop} {s:Shared}
end
section
variable {X:Cx}
end
end L2
namespace L2
open PySem PySem.Spec PyProof.Rows
variable {q0:Bool}
section
variable {κ:Type} [DecidableEq κ]
def valV (kvs:List (κ × V)) (k:κ):Option V:=(kvs.find? fun kv=>decide (kv.1=k)).map (·.2)
def putK (kvs:List (κ × V)) (k:κ) (v:V):List (κ × V) :=
 if (kvs.any fun kv=>decide (kv.1=k))=true then kvs.map (fun kv=>if kv.1=k then (kv.1,v) else kv) else kvs ++ [(k,v)]
theorem xaw {p:κ × V} {r:List (κ × V)} {k:κ} (e:p.1=k):valV (p :: r) k=some p.2:=by simp [valV,List.find?_cons,e]
theorem xam {p:κ × V} {r:List (κ × V)} {k:κ} (e:¬ p.1=k):valV (p :: r) k=valV r k:=by simp [valV,List.find?_cons,e]
theorem xcj (k:κ):∀ kvs:List (κ × V),(kvs.any fun kv=>decide (kv.1=k))=(valV kvs k).isSome
 | []=>rfl
 | p :: r=>by
  rw [List.any_cons]
  by_cases e:p.1=k
  ·simp only [xaw e,decide_eq_true e,Bool.true_or,Option.isSome_some]
  ·rw [xam e,decide_eq_false e,Bool.false_or]; exact xcj k r
theorem xhy (k j:κ) (y:V):∀ kvs:List (κ × V),valV (kvs.map fun kv=>if kv.1=k then (kv.1,y) else kv) j=(valV kvs j).map fun x=>if j=k then y else x
 | []=>rfl
 | p :: r=>by
  have ih:=xhy k j y r
  rw [List.map_cons]
  by_cases h:p.1=k
  ·rw [if_pos h]
   by_cases e:p.1=j
   ·rw [xaw (p:=(p.1,y)) e,xaw e,Option.map_some,if_pos (e.symm.trans h)]
   ·rw [xam (p:=(p.1,y)) e,xam e,ih]
  ·rw [if_neg h]
   by_cases e:p.1=j
   ·rw [xaw (p:=p) e,xaw e,Option.map_some,if_neg (fun z=>h (e.trans z))]
   ·rw [xam (p:=p) e,xam e,ih]
theorem xf9 (k j:κ) (y:V):∀ kvs:List (κ × V),valV kvs k=none→valV (kvs ++ [(k,y)]) j=if j=k then some y else valV kvs j
 | [],_=>by
  by_cases e:k=j
  ·rw [if_pos e.symm]; exact xaw (p:=(k,y)) e
  ·rw [if_neg (fun z=>e z.symm)]; exact xam (p:=(k,y)) e
 | p :: r,hn=>by
  rw [List.cons_append]
  have hk:¬ p.1=k:=fun z=>by rw [xaw z] at hn; cases hn
  rw [xam hk] at hn
  have ih:=xf9 k j y r hn
  by_cases e:p.1=j
  ·rw [xaw e,xaw e,if_neg (fun z=>hk (e.trans z))]
  ·rw [xam e,xam e,ih]
theorem xdp (kvs:List (κ × V)) (k j:κ) (y:V):valV (putK kvs k y) j=if j=k then some y else valV kvs j:=by
 unfold putK
 by_cases a:(kvs.any fun kv=>decide (kv.1=k))=true
 ·rw [if_pos a,xhy]
  rw [xcj] at a
  by_cases e:j=k
  ·obtain ⟨x,hx⟩:=Option.isSome_iff_exists.mp a
   rw [if_pos e,e,hx,Option.map_some,if_pos rfl]
  ·rw [if_neg e]
   cases valV kvs j with
   | none=>rfl
   | some x=>rw [Option.map_some,if_neg e]
 ·rw [if_neg a]
  refine xf9 k j y kvs ?_
  rw [xcj] at a
  cases q:valV kvs k with
  | none=>rfl
  | some x=>rw [q] at a; exact (a rfl).elim
theorem xbj (kvs:List (κ × V)) (k:κ) (v:V):(putK kvs k v).length≤kvs.length + 1:=by
 unfold putK
 split
 ·rw [List.length_map]; omega
 ·rw [List.length_append,List.length_cons,List.length_nil]; omega
theorem xc1 {kvs:List (κ × V)} {k:κ} (v:V) (h:valV kvs k=none):putK kvs k v=kvs ++ [(k,v)]:=by
 unfold putK
 rw [xcj,h]
 exact if_neg (by decide)
theorem RelO.isSome_eq {o:Option V} {u:Option Value} (r:RelO o u):o.isSome=u.isSome:=by
 cases o with
 | none=>cases u with
  | none=>rfl
  | some _=>exact (show False from r).elim
 | some _=>cases u with
  | none=>exact (show False from r).elim
  | some _=>rfl
theorem RelO.getD {o:Option V} {u:Option Value} {d:V} {d':Value} (r:RelO o u) (rd:RelV d d'):RelV (o.getD d) (u.getD d'):=by
 cases o with
 | none=>cases u with
  | none=>exact rd
  | some _=>exact (show False from r).elim
 | some _=>cases u with
  | none=>exact (show False from r).elim
  | some _=>exact r
theorem KV.val {kvs:List (κ × V)} {vs:List (κ × Value)} (r:KV kvs vs) (k:κ):RelO (valV kvs k) (valueAt vs k):=by
 unfold KV at r
 induction r with
 | nil=>exact True.intro
 | @cons p q ps qs h t ih =>
  obtain ⟨h1,h2⟩:=h
  by_cases e:p.1=k
  ·have e':q.1=k:=h1.symm.trans e
   have b:valueAt (q :: qs) k=some q.2:=by simp [valueAt,List.find?_cons,e']
   rw [xaw e,b]; exact h2
  ·have e':¬ q.1=k:=fun z=>e (h1.trans z)
   have b:valueAt (q :: qs) k=valueAt qs k:=by simp [valueAt,List.find?_cons,e']
   rw [xam e,b]; exact ih
theorem KV.any {kvs:List (κ × V)} {vs:List (κ × Value)} (r:KV kvs vs) (k:κ):(kvs.any fun kv=>decide (kv.1=k))=vs.any fun kv=>decide (kv.1=k):=by
 unfold KV at r
 induction r with
 | nil=>rfl
 | cons h t ih=>rw [List.any_cons,List.any_cons,ih,h.1]
theorem KV.repl {kvs:List (κ × V)} {vs:List (κ × Value)} (r:KV kvs vs) (k:κ) {y:V} {u:Value} (ry:RelV y u) :
    KV (kvs.map fun kv=>if kv.1=k then (kv.1,y) else kv) (vs.map fun kv=>if kv.1=k then (kv.1,u) else kv):=by
  unfold KV at r ⊢
  induction r with
  | nil=>exact .nil
  | @cons p q ps qs h t ih =>
    rw [List.map_cons,List.map_cons]
    refine .cons ?_ ih
    obtain ⟨h1,h2⟩:=h
    by_cases e:p.1=k
    · rw [if_pos e,if_pos (h1.symm.trans e)]; exact ⟨h1,ry⟩
    · rw [if_neg e,if_neg (fun z=>e (h1.trans z))]; exact ⟨h1,h2⟩
theorem KV.put {kvs:List (κ × V)} {vs:List (κ × Value)} (r:KV kvs vs) (k:κ) {y:V} {u:Value} (ry:RelV y u):KV (putK kvs k y) (stored vs k u):=by
 unfold putK stored
 rw [r.any k]
 by_cases e:(vs.any fun kv=>decide (kv.1=k))=true
 ·rw [if_pos e,if_pos e]; exact r.repl k ry
 ·rw [if_neg e,if_neg e]; exact Paired.snoc r ⟨rfl,ry⟩
theorem KV.keys {kvs:List (κ × V)} {vs:List (κ × Value)} (r:KV kvs vs):kvs.map (·.1)=vs.map (·.1):=by
 unfold KV at r
 induction r with
 | nil=>rfl
 | cons h t ih=>rw [List.map_cons,List.map_cons,ih,h.1]
theorem KV.length {kvs:List (κ × V)} {vs:List (κ × Value)} (r:KV kvs vs):kvs.length=vs.length:=Paired.length r
end
theorem xcg {P:Program} {w:World} {k:Key} {u:Value} (r:RelV (kV k) u):(xab P w).is k u=true:=by
 cases k with
 | inl i=>obtain ⟨t,e⟩:=(show ∃ t,u=Value.int i t from r); subst e; exact xid P w i t
 | inr x=>obtain ⟨t,e⟩:=(show ∃ t,u=Value.str x t from r); subst e; exact xih P w x t
theorem xgo {P:Program} {w:World}:∀ {ks:List Key} {us:List Value},Vals (ks.map kV) us→ItemsAre (xab P w) ks us
 | [],_,r=>by rw [List.map_nil] at r; cases r; exact .nil
 | k :: ks,_,r=>by
  rw [List.map_cons] at r
  cases r with
  | cons h t=>exact .cons (xcg h) (xgo t)
abbrev KT (H:Hp):List (List Key × V)→List (List Key × Addr × Value)→Prop:=Paired fun p q=>p.1=q.1∧H q.2.1=some (.tup (p.1.map kV))∧RelV p.2 q.2.2
theorem KT.val {H:Hp} {kvs:List (List Key × V)} {xs:List (List Key × Addr × Value)} (r:KT H kvs xs) (k:List Key):RelO (valV kvs k) ((atKey xs k).map (·.2)):=by
 induction r with
 | nil=>exact True.intro
 | @cons p q ps qs h t ih =>
  obtain ⟨h1,_,h2⟩:=h
  by_cases e:p.1=k
  ·have e':q.1=k:=h1.symm.trans e
   have b:atKey (q :: qs) k=some q.2:=by simp [atKey,List.find?_cons,e']
   rw [xaw e,b]; exact h2
  ·have e':¬ q.1=k:=fun z=>e (h1.trans z)
   have b:atKey (q :: qs) k=atKey qs k:=by simp [atKey,List.find?_cons,e']
   rw [xam e,b]; exact ih
theorem KT.repl {H:Hp} {kvs:List (List Key × V)} {xs:List (List Key × Addr × Value)} (r:KT H kvs xs) (k:List Key) {y:V} {u:Value} (ry:RelV y u) :
    KT H (kvs.map fun kv=>if kv.1=k then (kv.1,y) else kv) (xs.map (putAt k u)):=by
  induction r with
  | nil=>exact .nil
  | @cons p q ps qs h t ih =>
    rw [List.map_cons,List.map_cons]
    refine .cons ?_ ih
    obtain ⟨h1,h2,h3⟩:=h
    unfold putAt
    by_cases e:p.1=k
    · rw [if_pos e,if_pos (h1.symm.trans e)]; exact ⟨h1,h2,ry⟩
    · rw [if_neg e,if_neg (fun z=>e (h1.trans z))]; exact ⟨h1,h2,h3⟩
theorem KT.put {H:Hp} {kvs:List (List Key × V)} {xs:List (List Key × Addr × Value)} (r:KT H kvs xs) (k:List Key) {b:Addr} {y:V} {u:Value} (hb:H b=some (.tup (k.map kV))) (ry:RelV y u) :
    KT H (putK kvs k y) (storedH xs k b u):=by
  have e:(kvs.any fun kv=>decide (kv.1=k))=(atKey xs k).isSome:=by
    rw [xcj,(r.val k).isSome_eq,Option.isSome_map]
  unfold putK storedH
  rw [e]
  by_cases q:(atKey xs k).isSome=true
  · rw [if_pos q,if_pos q]; exact r.repl k ry
  · rw [if_neg q,if_neg q]; exact Paired.snoc r ⟨rfl,hb,ry⟩
theorem KT.keeps {H H':Hp} {kvs:List (List Key × V)} {xs:List (List Key × Addr × Value)} (r:KT H kvs xs) (ht:∀ b ys,H b=some (.tup ys)→H' b=some (.tup ys)):KT H' kvs xs :=
 Paired.mapP r fun _ _ z=>⟨z.1,ht _ _ z.2.1,z.2.2⟩
section
variable {P:Program} {w:World} {H:Hp} {h:Heap} {a:Addr}
theorem xmw {u:HO} (ok:HOk P w H h) (e:Rd H a u):xak P w H h a u:=e.ok ok
theorem xcr {kvs:List (Key × V)} (ok:HOk P w H h) (e:Rd H a (.dK kvs)):kvs.length≤sizeLine∧(a == sysModules)=false∧∃ vs,KV kvs vs∧h.DictOf (xab P w) a vs :=
 show xak P w H h a (.dK kvs) from xmw ok e
theorem xdq {kvs:List (Key × V)} (ok:HOk P w H h) (e:H a=some (.dK kvs)):kvs.length≤sizeLine∧(a == sysModules)=false∧∃ vs,KV kvs vs∧h.DictOf (xab P w) a vs:=xcr ok (.inl e)
theorem xda {ks:List Key} (ok:HOk P w H h) (e:H a=some (.tup (ks.map kV))):(tupleKind (xab P w)).is h ks a:=by
 obtain ⟨_,its,r,o,h1,h2,n,h3⟩:=(show xak P w H h a (.tup (ks.map kV)) from ok a _ e)
 exact ⟨o,its.toArray,n,h1,h2,h3,by simpa using xgo r⟩
theorem xdu {kvs:List (List Key × V)} (ok:HOk P w H h) (e:Rd H a (.dT kvs)):kvs.length≤sizeLine∧(a == sysModules)=false ∧
    ∃ xs,KT H kvs xs∧h.DictOfH (tupleKind (xab P w)) a xs:=by
  obtain ⟨z,y,xs,r,o,es,ep,h1,h2,h3,h4,h5⟩:=(show xak P w H h a (.dT kvs) from xmw ok e)
  refine ⟨z,y,xs,r,o,es,ep,h1,h2,h3,h4,fun x hx=>?_,h5⟩
  have all:∀ {l:List (List Key × V)} {m:List (List Key × Addr × Value)},KT H l m→∀ x ∈ m,(tupleKind (xab P w)).is h x.1 x.2.1:=by
    intro l m q
    induction q with
    | nil=>intro x hx; exact nomatch hx
    | @cons p q ps qs hq t ih =>
      intro x hx
      rcases List.mem_cons.mp hx with e | hx
      · subst e
        exact xda ok (by rw [← hq.1]; exact hq.2.1)
      · exact ih x hx
  exact all r x hx
theorem xmu {kvs:List (List Key × V)} (ok:HOk P w H h) (e:H a=some (.dT kvs)):kvs.length≤sizeLine∧(a == sysModules)=false ∧
    ∃ xs,KT H kvs xs∧h.DictOfH (tupleKind (xab P w)) a xs:=xdu ok (.inl e)
end
def DGet (H:Hp) (a:Addr) (y:V) (r:Option V):Prop :=
 (∃ kvs k,Rd H a (.dK kvs)∧y=kV k∧r=valV kvs k)∨∃ kvs k b,Rd H a (.dT kvs)∧y=.ref b∧H b=some (.tup (k.map kV))∧r=valV kvs k
def DPut (H:Hp) (a:Addr) (y v:V) (H':Hp):Prop :=
 (∃ kvs k,H a=some (.dK kvs)∧y=kV k∧kvs.length < sizeLine∧H'=upd H a (.dK (putK kvs k v))) ∨
 ∃ kvs k b,H a=some (.dT kvs)∧y=.ref b∧H b=some (.tup (k.map kV))∧kvs.length < sizeLine∧H'=upd H a (.dT (putK kvs k v))
theorem DGet.k {H:Hp} {a:Addr} {kvs:List (Key × V)} {k:Key} (e:H a=some (.dK kvs)):DGet H a (kV k) (valV kvs k):=.inl ⟨kvs,k,.inl e,rfl,rfl⟩
theorem DGet.t {H:Hp} {a b:Addr} {kvs:List (List Key × V)} {k:List Key} (e:H a=some (.dT kvs)) (eb:H b=some (.tup (k.map kV))):DGet H a (.ref b) (valV kvs k):=.inr ⟨kvs,k,b,.inl e,rfl,eb,rfl⟩
theorem DPut.k {H:Hp} {a:Addr} {kvs:List (Key × V)} {k:Key} {v:V} (e:H a=some (.dK kvs)) (hl:kvs.length < sizeLine):DPut H a (kV k) v (upd H a (.dK (putK kvs k v))):=.inl ⟨kvs,k,e,rfl,hl,rfl⟩
theorem DPut.t {H:Hp} {a b:Addr} {kvs:List (List Key × V)} {k:List Key} {v:V} (e:H a=some (.dT kvs)) (eb:H b=some (.tup (k.map kV))) (hl:kvs.length < sizeLine) :
    DPut H a (.ref b) v (upd H a (.dT (putK kvs k v))):=.inr ⟨kvs,k,b,e,rfl,eb,hl,rfl⟩
section
variable {X:Cx} {pins:List (Addr × Obj)} {σ:St} {H:Hp} {s:Shared} {a:Addr} {y v:V} {u r:Value} {o:Option V} {A:Around} {E:Value→Shared→Prop}
theorem Inv.big (I:Inv X pins σ H s):sysModules < s.heap.objs.size:=by
 have h:mainGlobals < s.heap.objs.size:=(I.mod.glob.keeps I.bk).lt
 exact Nat.lt_trans (by decide) h
theorem xki {Q:Value→Shared→Prop} (hu:A.units + 1 < cLine) (I:Inv X pins σ H s) (g:DGet H a y (some v)) (ry:RelV y u) (h:∀ w' s',Inv X pins σ H s'→RelV v w'→Q w' s') :
    wpAny (model X.prog X.w) A (getItem (.ref a) u) Q E s:=by
  rcases g with ⟨kvs,k,e,ey,l⟩ | ⟨kvs,k,b,e,ey,eb,l⟩
  · subst ey
    obtain ⟨z,hd,vs,rel,dd⟩:=xcr I.hok e
    obtain ⟨w',hw,rw'⟩:=RelO.some_of (v:=v) (o:=valueAt vs k) (by rw [l]; exact rel.val k)
    exact wpAny_getItem_of (xcg ry) dd.mapOf hw (h w' _ (I.tok _) rw')
  · subst ey
    cases (show u=Value.ref b from ry)
    obtain ⟨z,hd,xs,rel,dd⟩:=xdu I.hok e
    obtain ⟨w',hw,rw'⟩:=RelO.some_of (v:=v) (o:=(atKey xs k).map (·.2)) (by rw [l]; exact rel.val k)
    obtain ⟨p,hp,hp2⟩:=Option.map_eq_some_iff.mp hw
    refine wpAny_getItem_heap (tupleKind_room_in1 hu) (xda I.hok eb) dd hp ?_
    rw [hp2]
    exact h w' _ (I.tok _) rw'
theorem d_in {Q:Value→Shared→Prop} (hu:A.units + 1 < cLine) (I:Inv X pins σ H s) (g:DGet H a y o) (ry:RelV y u) (h:∀ s',Inv X pins σ H s'→Q (.bool o.isSome) s') :
    wpAny (model X.prog X.w) A (compareOp .In u (.ref a)) Q E s:=by
  rcases g with ⟨kvs,k,e,ey,l⟩ | ⟨kvs,k,b,e,ey,eb,l⟩
  · subst ey
    obtain ⟨z,hd,vs,rel,dd⟩:=xcr I.hok e
    refine wpAny_in_of (xcg ry) hd dd.mapOf ?_
    rw [← (rel.val k).isSome_eq,← l]
    exact h _ (I.tok _)
  · subst ey
    cases (show u=Value.ref b from ry)
    obtain ⟨z,hd,xs,rel,dd⟩:=xdu I.hok e
    refine wpAny_in_heap (tupleKind_room_in1 hu) (xda I.hok eb) hd dd ?_
    have q:=(rel.val k).isSome_eq
    rw [Option.isSome_map] at q
    rw [← q,← l]
    exact h _ (I.tok _)
theorem xm2 {Q:Value→Shared→Prop} (hu:A.units + 1 < cLine) (I:Inv X pins σ H s) (g:DGet H a y o) (ry:RelV y u) (h:∀ s',Inv X pins σ H s'→Q (.bool (!o.isSome)) s') :
    wpAny (model X.prog X.w) A (compareOp .NotIn u (.ref a)) Q E s:=by
  rcases g with ⟨kvs,k,e,ey,l⟩ | ⟨kvs,k,b,e,ey,eb,l⟩
  · subst ey
    obtain ⟨z,hd,vs,rel,dd⟩:=xcr I.hok e
    refine wpAny_notIn_of (xcg ry) hd dd.mapOf ?_
    rw [← (rel.val k).isSome_eq,← l]
    exact h _ (I.tok _)
  · subst ey
    cases (show u=Value.ref b from ry)
    obtain ⟨z,hd,xs,rel,dd⟩:=xdu I.hok e
    refine wpAny_notIn_heap (tupleKind_room_in1 hu) (xda I.hok eb) hd dd ?_
    have q:=(rel.val k).isSome_eq
    rw [Option.isSome_map] at q
    rw [← q,← l]
    exact h _ (I.tok _)
theorem xdi {h':Heap} {t':Nat} {ob:HO} (I:Inv X pins σ H s) (mu:Mut (H a)) (hs:Heap.SameBut a s.heap h') (he:∃ q,h'.get? a=some q) (new:xak X.prog X.w (upd H a ob) h' a ob) :
    Inv X pins σ (upd H a ob) { s with heap:=h',toks:=t' } :=
  I.write (x:=a) (e:=a) mu (.inl rfl) (fun b q hb z=>(hs.2 b hb).trans z) he new
theorem xic {P:Program} {w:World} {H':Hp} {h':Heap} {kvs:List (Key × V)} {vs:List (Key × Value)} (z:kvs.length≤sizeLine) (hd:(a == sysModules)=false) (rel:KV kvs vs) (dd:h'.DictOf (xab P w) a vs) :
    xak P w H' h' a (.dK kvs):=⟨z,hd,vs,rel,dd⟩
theorem xkr {H':Hp} {Q:Unit→Shared→Prop} (hu:A.units + 1 < cLine) (I:Inv X pins σ H s) (g:DPut H a y v H') (ry:RelV y u) (rv:RelV v r) (h:∀ s',Inv X pins σ H' s'→Q () s') :
    wpAny (model X.prog X.w) A (setItem (.ref a) u r) Q E s:=by
  rcases g with ⟨kvs,k,e,ey,l,eH⟩ | ⟨kvs,k,b,e,ey,eb,l,eH⟩
  · subst ey eH
    obtain ⟨z,hd,vs,rel,dd⟩:=xdq I.hok e
    have hz:vs.length≤sizeLine:=by rw [← rel.length]; exact z
    have hl:(putK kvs k v).length≤sizeLine:=by have:=xbj kvs k v; omega
    refine wpAny_setItem_pairs (hsz:=hz) (xcg ry) dd fun h' dd' hs=>h _ ?_
    have he:∃ q,h'.get? a=some q:=let ⟨q,_,_,hq,_⟩:=dd'; ⟨q,hq⟩
    exact xdi I (by rw [e]; exact True.intro) hs he (xic hl hd (rel.put k rv) dd')
  · subst ey eH
    cases (show u=Value.ref b from ry)
    obtain ⟨z,hd,xs,rel,dd⟩:=xmu I.hok e
    have hz:xs.length≤sizeLine:=by rw [← Paired.length rel]; exact z
    have hl:(putK kvs k v).length≤sizeLine:=by have:=xbj kvs k v; omega
    refine wpAny_setItem_heap (hsz:=hz) (tupleKind_room_in1 hu) (xda I.hok eb) dd fun h' dd' hs=>h _ ?_
    obtain ⟨q,es,ep,hq,h2,h3,h4,_,h5⟩:=dd'
    refine xdi I (by rw [e]; exact True.intro) hs ⟨q,hq⟩ ⟨hl,hd,_,(rel.put k eb rv).keeps fun c ys ec=>?_,q,es,ep,hq,h2,h3,h4,h5⟩
    rw [xg (x3 ec e (fun z=>nomatch z))]
    exact ec
end
section
variable {X:Cx} {pins:List (Addr × Obj)} {σ:St} {H:Hp} {s:Shared} {a:Addr} {kvs:List (Key × V)} {k:Key} {u:Value} {A:Around} {E:Value→Shared→Prop}
theorem xp8 {Q:Value→Shared→Prop} (I:Inv X pins σ H s) (e:Rd H a (.dK kvs)) (h:∀ t s',Inv X pins σ H s'→Q (.int kvs.length t) s'):wpAny (model X.prog X.w) A (call (.builtin "len") [.ref a]) Q E s:=by
 obtain ⟨z,hd,vs,rel,dd⟩:=xcr I.hok e
 refine call_len_dict hd dd (by rw [← rel.length]; rw [sizeLine_eq] at z; omega) ?_
 rw [← rel.length]
 exact h _ _ (I.tok _)
end
def NoSl (i:Expr):Prop:=∀ ov iv,subscripted i false ov iv=operate [ov,iv] (getItem ov iv)
theorem xnx {prog:Program} {w:World} {A:Around} {E:Value→Shared→Prop} {s:Shared} {env:Env} {value slice:Expr} {pos:Pos} {T id:String} {Q:Value→Shared→Prop}
    (hl:typeLookup (.type T) "__getitem__"=pure (some (.builtin id))) (hs:NoSl slice)
    (h:wpAny (model prog w) A (eval value env) (fun o s₁=>wpAny (model prog w) A (eval slice env) (fun i s₂=>s₂.TypeIs o T∧wpAny (model prog w) A (getItem o i) Q E s₂) E s₁) E s) :
    wpAny (model prog w) A (eval (.Subscript value slice pos) env) Q E s:=by
  refine Subscript_ (wpAny_mono h (fun o s₁ h₁=>wpAny_mono h₁ (fun i s₂ h₂=>?_) fun _ _ x=>x) fun _ _ x=>x)
  obtain ⟨hT,h₂⟩:=h₂
  unfold subscriptTail
  refine wpAny_bind ?_
  rw [getitemInPython_of_ne hT.not_modules]
  refine wpAny_bind (wpAny_specialOf hT hl ?_)
  have fin:wpAny (model prog w) A (subscripted slice false o i) (fun r s₃=>wpAny (model prog w) A (letTemporaryGo value o r >>= fun _=>pure r) Q E s₃) E s₂:=by
    rw [hs o i]
    exact wpAny_operating (wpAny_mono h₂ (fun r s₃ h₃=>wpAny_bind (wpAny_letTemporaryGo (wpAny_pure h₃))) fun _ _ x=>x)
  first
    | exact wpAny_pure (wpAny_bind fin)
    | exact wpAny_bind (wpAny_pure (wpAny_bind fin))
    | exact wpAny_bind fin
theorem xif {X:Cx} {pins:List (Addr × Obj)} {σ:St} {H:Hp} {s:Shared} {a:Addr} {y:V} {o:Option V} (I:Inv X pins σ H s) (g:DGet H a y o):s.TypeIs (.ref a) "dict":=by
 rcases g with ⟨kvs,k,e,_,_⟩ | ⟨kvs,k,b,e,_,_,_⟩
 ·obtain ⟨_,_,vs,_,dd⟩:=xcr I.hok e
  exact dd.typeIs
 ·obtain ⟨_,_,xs,_,dd⟩:=xdu I.hok e
  exact dd.typeIs
def xpm (td ty:TE):TE:=fun σ H Q=>td σ H fun x H1=>ty σ H1 fun y H2=>∃ a v,x=.ref a∧DGet H2 a y (some v)∧Q v H2
def tDIn (ty td:TE):TE:=fun σ H Q=>ty σ H fun y H1=>td σ H1 fun x H2=>∃ a o,x=.ref a∧DGet H2 a y o∧Q (.bl o.isSome) H2
def xno (ty td:TE):TE:=fun σ H Q=>ty σ H fun y H1=>td σ H1 fun x H2=>∃ a o,x=.ref a∧DGet H2 a y o∧Q (.bl (!o.isSome)) H2
def xqd (td ty tv:TE):TS:=fun D σ H=>tv σ H fun v H1=>td σ H1 fun x H2=>ty σ H2 fun y H3=>∃ a H4,x=.ref a∧DPut H3 a y v H4∧D.nx σ H4
section
variable {X:Cx} {o i e value:Expr} {pos pos' tpos:Pos} {td ty tv:TE}
theorem xcv (hu:X.A.units + 1 < cLine) (ho:PE X o td) (hi:PE X i ty) (hs:NoSl i):PE X (.Subscript o i pos) (xpm td ty):=by
 intro pins s σ H Q I h
 refine xnx PySem.F.slot_dict_getitem.lookup hs (thn (ho pins s σ H _ I h) fun u s1 ⟨x,H1,I1,rx,q1⟩=>thn (hi pins s1 σ H1 _ I1 q1) fun iv s2 ⟨y,H2,I2,ry,a,v,ex,g,q2⟩=>?_)
 subst ex
 obtain rfl:u=Value.ref a:=rx
 exact ⟨xif I2 g,xki hu I2 g ry fun w' s3 I3 rw'=>⟨v,H2,I3,rw',q2⟩⟩
theorem xef (hu:X.A.units + 1 < cLine) (hi:PE X i ty) (ho:PE X o td):PC X .In i o (tDIn ty td):=by
 intro pins s σ H Q I h
 refine thn (hi pins s σ H _ I h) fun iv s1 ⟨y,H1,I1,ry,q1⟩=>thn (ho pins s1 σ H1 _ I1 q1) fun u s2 ⟨x,H2,I2,rx,a,ov,ex,g,q2⟩=>?_
 subst ex
 obtain rfl:u=Value.ref a:=rx
 exact d_in hu I2 g ry fun s3 I3=>⟨.bl ov.isSome,H2,I3,rfl,q2⟩
theorem xkj (hu:X.A.units + 1 < cLine) (hi:PE X i ty) (ho:PE X o td):PC X .NotIn i o (xno ty td):=by
 intro pins s σ H Q I h
 refine thn (hi pins s σ H _ I h) fun iv s1 ⟨y,H1,I1,ry,q1⟩=>thn (ho pins s1 σ H1 _ I1 q1) fun u s2 ⟨x,H2,I2,rx,a,ov,ex,g,q2⟩=>?_
 subst ex
 obtain rfl:u=Value.ref a:=rx
 exact xm2 hu I2 g ry fun s3 I3=>⟨.bl (!ov.isSome),H2,I3,rfl,q2⟩
theorem xes (hu:X.A.units + 1 < cLine) (ho:PE X o td) (hi:PE X i ty) (hv:PE X value tv) (hs:swapsWith value (some (.Subscript o i pos')) pos.line X.env=pure false) :
    PS X (.Assign [.Subscript o i pos'] value pos) (xqd td ty tv):=by
  intro pins s σ H D I h
  refine wpAny_Assign_Subscript (thn (hv pins s σ H _ I h) fun r s1 ⟨v,H1,I1,rv,q1⟩=>thn (ho pins s1 σ H1 _ I1 q1) fun u s2 ⟨x,H2,I2,rx,q2⟩=>thn (hi pins s2 σ H2 _ I2 q2) fun iv s3 ⟨y,H3,I3,ry,a,H4,ex,g,q3⟩=>?_) hs
  subst ex
  obtain rfl:u=Value.ref a:=rx
  exact xkr hu I3 g ry rv fun s4 I4=>⟨σ,H4,I4,q3⟩
end
theorem xe1 {P:Program} {w:World} {H:Hp} (h:Heap) (hb:sysModules < h.objs.size):xak P w H (h.push { cls:=.type "dict",data:=.dict #[] }) h.objs.size (.dK []) :=
 ⟨Nat.zero_le _,beq_eq_false_iff_ne.mpr (Ne.symm (Nat.ne_of_lt hb)),[],.nil,Heap.DictOf.new h⟩
theorem xg8 {P:Program} {w:World} {H:Hp} (h:Heap) (hb:sysModules < h.objs.size):xak P w H (h.push { cls:=.type "dict",data:=.dict #[] }) h.objs.size (.dT []) :=
 ⟨Nat.zero_le _,beq_eq_false_iff_ne.mpr (Ne.symm (Nat.ne_of_lt hb)),[],.nil,_,#[],0,Heap.get?_push_size _ rfl,⟨rfl,rfl,rfl⟩,rfl,rfl,List.nodup_nil⟩
def xon:TE:=fun _ H Q=>∀ p,H p=none→Q (.ref p) (upd H p (.dK []))
def xo9:TE:=fun _ H Q=>∀ p,H p=none→Q (.ref p) (upd H p (.dT []))
section
variable {X:Cx} {pos:Pos}
theorem xia:PE X (.Dict [] [] pos) xon:=fun pins s σ H Q I h =>
 wpAny_Dict_empty ⟨.ref s.heap.objs.size,_,I.laid (a:=s.heap.objs.size) (o:=.dK []) (t':=s.toks) (fun _ _ q=>Heap.get?_push_of_some _ q) (Nat.le_refl _) (xe1 s.heap I.big),rfl,h _ (I.hok.fresh (Nat.le_refl _))⟩
theorem xhx:PE X (.Dict [] [] pos) xo9:=fun pins s σ H Q I h =>
 wpAny_Dict_empty ⟨.ref s.heap.objs.size,_,I.laid (a:=s.heap.objs.size) (o:=.dT []) (t':=s.toks) (fun _ _ q=>Heap.get?_push_of_some _ q) (Nat.le_refl _) (xg8 s.heap I.big),rfl,h _ (I.hok.fresh (Nat.le_refl _))⟩
end
def xhh:List (TE × TE)→St→Hp→(List (V × V)→Hp→Prop)→Prop
 | [],_,H,Q=>Q [] H
 | (tk,tv) :: r,σ,H,Q=>tk σ H fun x H1=>tv σ H1 fun y H2=>xhh r σ H2 fun ps H3=>Q ((x,y) :: ps) H3
abbrev VV:List (V × V)→List (Value × Value)→Prop:=Paired fun p q=>RelV p.1 q.1∧RelV p.2 q.2
def PPs (X:Cx) (pos:Pos) (keys:List (Option Expr)) (values:List Expr) (trs:List (TE × TE)):Prop :=
 ∀ (pins:List (Addr × Obj)) (s:Shared) (σ:St) (H:Hp) (Q:List (V × V)→Hp→Prop),Inv X pins σ H s→xhh trs σ H Q →
  wpAny (model X.prog X.w) X.A (evalPairs (pairTrees keys values X.env pos)) (fun vs s'=>∃ ps H',Inv X pins σ H' s'∧VV ps vs∧Q ps H') X.xe s
theorem xna {X:Cx} {pos:Pos}:PPs X pos [] [] []:=fun pins s σ H Q I h=>pairTrees_nil_walk ⟨[],H,I,.nil,h⟩
theorem xh1 {X:Cx} {pos:Pos} {k v:Expr} {ks:List (Option Expr)} {vs:List Expr} {tk tv:TE} {trs:List (TE × TE)} (hk:PE X k tk) (hv:PE X v tv) (hr:PPs X pos ks vs trs) :
    PPs X pos (some k :: ks) (v :: vs) ((tk,tv) :: trs):=fun pins s σ H Q I h =>
  pairTrees_cons_walk (thn (hk pins s σ H _ I h) fun u s1 ⟨x,H1,I1,rx,q1⟩=>thn (hv pins s1 σ H1 _ I1 q1) fun w2 s2 ⟨y,H2,I2,ry,q2⟩ =>
    thn (hr pins s2 σ H2 _ I2 q2) fun ws s3 ⟨ps,H3,I3,rel,q3⟩=>⟨(x,y) :: ps,H3,I3,.cons ⟨rx,ry⟩ rel,q3⟩)
def xb0 (kvs more:List (Key × V)):List (Key × V):=more.foldl (fun acc kv=>putK acc kv.1 kv.2) kvs
theorem KV.merge:∀ {more:List (Key × V)} {rs:List (Key × Value)} {kvs:List (Key × V)} {vs:List (Key × Value)},KV more rs→KV kvs vs→KV (xb0 kvs more) (merged vs rs):=by
 intro more rs kvs vs r
 unfold KV at r
 induction r generalizing kvs vs with
 | nil=>intro q; exact q
 | @cons p q ps qs h t ih =>
  intro r0
  have e:KV (putK kvs p.1 p.2) (stored vs q.1 q.2):=by
   have:=r0.put p.1 h.2
   rw [← h.1]; exact this
  exact ih e
theorem xd2:∀ (more kvs:List (Key × V)),(xb0 kvs more).length≤kvs.length + more.length
 | [],kvs=>by show kvs.length≤kvs.length + 0; omega
 | p :: r,kvs=>by
  have h1:=xd2 r (putK kvs p.1 p.2)
  have h2:=xbj kvs p.1 p.2
  show (xb0 (putK kvs p.1 p.2) r).length≤_
  rw [List.length_cons]; omega
theorem xfj {P:Program} {w:World}:∀ {kvs:List (Key × V)} {ws:List (Value × Value)},VV (kvs.map fun kv=>(kV kv.1,kv.2)) ws→∃ rs,Carries (xab P w) ws rs∧KV kvs rs
 | [],_,r=>by rw [List.map_nil] at r; cases r; exact ⟨[],True.intro,.nil⟩
 | p :: kvs,_,r=>by
  rw [List.map_cons] at r
  cases r with
  | @cons a b as bs h t =>
   obtain ⟨rs,c,q⟩:=xfj (P:=P) (w:=w) t
   obtain ⟨b1,b2⟩:=b
   exact ⟨(p.1,b2) :: rs,⟨xcg h.1,rfl,c⟩,.cons ⟨rfl,h.2⟩ q⟩
def xpl (trs:List (TE × TE)):TE:=fun σ H Q=>∀ p,H p=none→xhh trs σ (upd H p (.dK [])) fun ps H2=>H2 p=some (.dK [])∧∃ kvs:List (Key × V),ps=kvs.map (fun kv=>(kV kv.1,kv.2))∧kvs.length≤15∧Q (.ref p) (upd H2 p (.dK (xb0 [] kvs)))
theorem xns {X:Cx} {pos:Pos} {keys:List (Option Expr)} {values:List Expr} {trs:List (TE × TE)} (h:PPs X pos keys values trs) (hall:keys.all (·.isSome)=true) (hl:keys.length=values.length) (h0:keys≠[])
    (h15:keys.length≤15):PE X (.Dict keys values pos) (xpl trs):=by
  intro pins s σ H Q I q
  have hn:=I.hok.fresh (Nat.le_refl s.heap.objs.size)
  have I1:=I.laid (a:=s.heap.objs.size) (o:=.dK []) (h':=s.heap.push { cls:=.type "dict",data:=.dict #[] }) (t':=s.toks) (fun _ _ q=>Heap.get?_push_of_some _ q) (Nat.le_refl _) (xe1 s.heap I.big)
  refine wpAny_Dict_walk (knd:=xab X.prog X.w) hall hl h0 h15 (thn (h pins _ σ _ _ I1 (q _ hn)) fun ws s2 ⟨ps,H2,I2,rel,e,kvs,ep,lk,q2⟩=>?_)
  subst ep
  obtain ⟨rs,c,rk⟩:=xfj (P:=X.prog) (w:=X.w) rel
  obtain ⟨z,hd,vs0,r0,dd⟩:=xdq I2.hok e
  cases r0
  refine ⟨rs,c,dd,fun h' dd' hs=>⟨.ref s.heap.objs.size,_,?_,rfl,q2⟩⟩
  have hz:(xb0 [] kvs).length≤sizeLine:=by
    have h1:=xd2 kvs []
    rw [List.length_nil] at h1
    rw [sizeLine_eq]; omega
  have he:∃ q,h'.get? s.heap.objs.size=some q:=let ⟨q,_,_,hq,_⟩:=dd'; ⟨q,hq⟩
  exact xdi I2 (by rw [e]; exact True.intro) hs he (xic hz hd (rk.merge .nil) dd')
structure M2 (X:Cx) (o:Expr) (m:Str) (apos:Pos) (e f:Expr) (cpos:Pos):Prop where
 base:attributeBase o m X.env (eval o X.env)=eval o X.env
 few:((backTo cpos (starEach [e,f] X.env)).all (fun x=>!x.1) && (backToKw cpos (keywordEach [] X.env)).all (fun x=>x.1.isSome)
  && decide (([e,f]:List Expr).length + ([]:List Keyword).length + (if ([]:List Keyword).isEmpty then 0 else 1) < 30))=true
 line:(apos.endLine == cpos.line)=true
 trees:backTo cpos (starEach [e,f] X.env)=[(false,eval e X.env),(false,eval f X.env)]
def IsD (H:Hp) (a:Addr):Prop:=(∃ kvs,Rd H a (.dK kvs))∨∃ kvs,Rd H a (.dT kvs)
theorem xom {X:Cx} {pins:List (Addr × Obj)} {σ:St} {H:Hp} {s:Shared} {a:Addr} (I:Inv X pins σ H s) (d:IsD H a) :
    s.TypeIs (.ref a) "dict"∧(∀ b,Value.ref a=.ref b→∃ ob,s.heap.get? b=some ob∧ob.dict=none)∧(a == sysModules)=false:=by
  rcases d with ⟨kvs,e⟩ | ⟨kvs,e⟩
  · obtain ⟨_,hd,vs,_,dd⟩:=xcr I.hok e
    refine ⟨dd.typeIs,fun b q=>?_,hd⟩
    cases q
    obtain ⟨ob,_,_,h1,h2,_⟩:=dd
    exact ⟨ob,h1,h2.2.1⟩
  · obtain ⟨_,hd,xs,_,dd⟩:=xdu I.hok e
    refine ⟨dd.typeIs,fun b q=>?_,hd⟩
    cases q
    obtain ⟨ob,_,_,h1,h2,_⟩:=dd
    exact ⟨ob,h1,h2.2.1⟩
section
variable {X:Cx} {pins:List (Addr × Obj)} {σ:St} {H:Hp} {s:Shared} {a:Addr} {y d:V} {u r:Value} {o:Option V} {A:Around} {E:Value→Shared→Prop}
theorem xob {Q:Value→Shared→Prop} (hu:A.units + 1 < cLine) (I:Inv X pins σ H s) (g:DGet H a y o) (ry:RelV y u) (rd:RelV d r) (h:∀ w' s',Inv X pins σ H s'→RelV (o.getD d) w'→Q w' s') :
    wpAny (model X.prog X.w) A (call (.builtin "dict.get") [.ref a,u,r]) Q E s:=by
  rcases g with ⟨kvs,k,e,ey,l⟩ | ⟨kvs,k,b,e,ey,eb,l⟩
  · subst ey
    obtain ⟨z,hd,vs,rel,dd⟩:=xcr I.hok e
    refine call_meetsIn PySem.F.slot_dict_get dd.typeIs PySem.F.entry_dict_get (PySem.F.args_dict_get_3 _ _ _) (meets_dict_get_default (xab X.prog X.w) a (xcg ry) hd r) ⟨_,dd.mapOf,h _ _ (I.tok _) ?_⟩
    rw [l]
    exact (rel.val k).getD rd
  · subst ey
    cases (show u=Value.ref b from ry)
    obtain ⟨z,hd,xs,rel,dd⟩:=xdu I.hok e
    refine call_meetsIn PySem.F.slot_dict_get dd.typeIs PySem.F.entry_dict_get (PySem.F.args_dict_get_3 _ _ _) (meetsH_dict_get_default (tupleKind (xab X.prog X.w)) a b hd r) ⟨tupleKind_room_in1 hu,k,xs,xda I.hok eb,dd,h _ _ (I.tok _) ?_⟩
    rw [l]
    exact (rel.val k).getD rd
end
def xn7 (td ty tx:TE):TE:=fun σ H Q=>td σ H fun x H1=>∃ a,x=.ref a∧IsD H1 a∧ty σ H1 fun y H2=>tx σ H2 fun z H3=>∃ o,DGet H3 a y o∧Q (o.getD z) H3
section
variable {X:Cx} {o e f:Expr} {apos cpos:Pos} {td ty tx:TE}
theorem xl1 (hu:X.A.units + 1 < cLine) (ho:PE X o td) (he:PE X e ty) (hf:PE X f tx) (m:M2 X o "get" apos e f cpos):PE X (.Call (.Attribute o "get" apos) [e,f] [] cpos) (xn7 td ty tx):=by
 intro pins s σ H Q I h
 refine wpAny_Call_method m.base m.few m.line PySem.F.plainAttrs_dict PySem.F.slot_dict_get PySem.F.type_dict_get (thn (ho pins s σ H _ I h) fun u s1 ⟨x,H1,I1,rx,a,ex,d,q1⟩=>?_)
 subst ex
 obtain rfl:u=Value.ref a:=rx
 obtain ⟨t1,t2,_⟩:=xom I1 d
 refine ⟨t1,t2,?_⟩
 rw [m.trees]
 refine Calls.callWith_builtin rfl (Calls.evalArgs_plain (Calls.spliced_cons (thn (he pins s1 σ H1 _ I1 q1) fun iv s2 ⟨y,H2,I2,ry,q2⟩ =>
  Calls.spliced_cons (thn (hf pins s2 σ H2 _ I2 q2) fun fv s3 ⟨z,H3,I3,rz,ov,g,q3⟩=>Calls.spliced_nil ?_))))
 exact xob hu I3 g ry rz fun w' s4 I4 rw'=>⟨_,H3,I4,rw',q3⟩
end
section
variable {X:Cx} {pins:List (Addr × Obj)} {σ:St} {H:Hp} {s:Shared} {a:Addr} {kvs:List (Key × V)} {A:Around} {E:Value→Shared→Prop}
end
section
variable {X:Cx} {pins:List (Addr × Obj)} {σ:St} {H:Hp} {s:Shared} {a:Addr} {y:V} {u:Value} {A:Around} {E:Value→Shared→Prop}
end
end L2
namespace Att
open PySem PySem.W PySem.Calls PyProof.Rows
theorem xfe {P:Params} {h:Heap}:∀ (ns:List Int) (vs:List Value),WellAll P h vs (ns.map WData.int)→IntsAre vs ns:=by
 intro ns
 induction ns with
 | nil =>
  intro vs w
  rw [List.map_nil] at w
  cases w
  exact .nil
 | cons n ns ih =>
  intro vs w
  rw [List.map_cons] at w
  cases w with
  | cons a b =>
   cases a
   exact .cons _ _ (ih _ b)
theorem xkw {l:OpenLaw} {n:Nat} (hn:l.most=some n) {P:Params} {h:Heap} {args:List WData} {vals:List Value}
    (hpre:l.row.toRowW.claim.pre args=true) (hwl:WellAll P h vals args) :
    ∃ a vs ns,vals=[Value.ref a]∧args=[WData.list (ns.map WData.int)]∧h.get? a=some { cls:=.type "list",data:=.seq vs.toArray }∧IntsAre vs ns∧ns.length≤n:=by
  have hsh:WShape.hasAll [] args [.list .int]=true:=(pre_splitW hpre).1
  have hc:l.pre.holds [] { args:=args }=true:=(pre_splitW hpre).2
  obtain ⟨d,r,rfl,h1,h2⟩:=hasAllW_cons hsh
  obtain rfl:=hasAllW_nil h2
  obtain ⟨xs,rfl,h3⟩:=hasW_list h1
  obtain ⟨ns,rfl⟩:=items_int h3
  have hlen:ns.length≤n:=by
    unfold OpenLaw.pre at hc
    have h4:(WTm.not (.lt (.lit (.int (n:Int))) (.len (.arg 0)))).holds [] { args:=[.list (ns.map .int)] }=true:=by
      have h4:=(holds_andW hc).1
      rw [hn] at h4
      exact h4
    have h5:=condW_of h4 (w_not (w_lt w_lit (w_len_list (w_arg rfl))))
    rw [List.length_map] at h5
    refine Nat.le_of_not_lt fun q=>?_
    have q':(n:Int) < ((ns.length:Nat):Int):=by omega
    first
      | (rw [decide_eq_true q'] at h5; exact absurd h5 (by decide))
      | (simp at h5; omega)
  cases hwl with
  | cons w1 w2 =>
    cases w2
    cases w1 with
    | list ho hall=>exact ⟨_,_,ns,rfl,rfl,ho,xfe ns _ hall,hlen⟩
theorem xkv (l:OpenLaw) (args:List WData):l.row.toRowW.claim.post args (.bool true) args=true :=
 postW_of (r:=l.row.toRowW) (X:=(true == true))
  (show WShape.has [] (.bool true) .bool=true by first | rfl | decide | simp [WShape.has,WShape.arms,WShape.armsAll])
  (show (WTm.eq .res (.lit (.bool true))).value [] { args:=args,res:=some (.bool true),after:=args }=some (.bool (true == true)) from w_eq_bool (w_res rfl) w_lit) rfl
theorem attach_call {l:OpenLaw} {n:Nat} {q:Program} {loose:List Str} {XP:(Str→Option Value)→Heap→Prop} {YP:World→Heap→Prop} {d:DefRec}
    (hn:l.most=some n) (hdf:d.params.defaults=[])
    (call:∀ (w:World) (s₀ s₁:Shared) (mg mb:Str→Option Value) (fa:Addr) (o:Obj) (pm cd doc:Value) (a:Addr) (vs:List Value) (ns:List Int),
      Ground q loose [] XP w s₀ mg mb s₁.heap→YP w s₁.heap →
      s₁.heap.get? fa=some o→o.data=.func (docDef d.name d.params d.body d.scope pm cd doc)→s₁.heap.CodeRec cd d.name→mg d.name=some (.ref fa) →
      s₁.heap.get? a=some { cls:=.type "list",data:=.seq vs.toArray }→IntsAre vs ns→ns.length≤n→s₁.gens=#[] →
      codeAny (model l.prog w) callerA (.call (.ref fa) ⟨[.ref a],[]⟩) (fun r s'=>r=.ok (.ret (.bool true))∧OldK s₁.heap s'.heap∧s'.os=s₁.os∧AllBare s'.gens) s₁) :
    WalkO q loose XP YP l.row.toRowW d [] (fun f vs=>PySem.call f vs):=by
  intro w s₀ s₁ mg mb G Y fa o pm cd doc dV kV ho hd hcd hD hmg hg args vals as hpre hlay hrd hwl hlo
  obtain rfl:dV=.none:=Dflts.none hD hdf
  obtain rfl:kV=.none:=Dflts.noKw hD
  obtain ⟨a,vs,ns,rfl,rfl,hobj,hints,hlen⟩:=xkw hn hpre hwl
  refine enter_call (codeAny_mono (call w s₀ s₁ mg mb fa o pm cd doc a vs ns G Y ho (fd_plain hd) hcd hmg hobj hints hlen hg) fun r s' hq=>?_)
  obtain ⟨rfl,h2,h3,h4⟩:=hq
  exact ⟨.inl ⟨.bool true,.bool true,[],rfl,fun _=>rfl,.bool true,xkv l _,fun _=>⟨List.Pairwise.nil,fun _ hm=>(nomatch hm)⟩⟩,h2,h3,h4⟩
section
variable {prog:Program} {w:World} {A:Around} {E:Value→Shared→Prop} {s:Shared} {K:Frag}
def xqk (h:Heap) (L d:Addr):List (Addr × Obj):=(List.range h.objs.size).filterMap fun a=>if a=L∨a=d then none else (h.get? a).map fun o=>(a,o)
end
end Att
namespace L2
open PySem PySem.Spec PyProof.Rows
variable {q0:Bool}
theorem xgb:∀ {vs:List Value} {ns:List Int},IntsAre vs ns→Vals (ns.map V.int) vs
 | _,_,.nil=>.nil
 | _,_,.cons n t h=>.cons ⟨t,rfl⟩ (xgb h)
def Only (H:Hp):Prop:=∀ b,H b=none∨∃ o xs,H b=some (.frz o (.lst xs))
theorem xlv {P:Program} {w:World} {K:PySem.W.Frag} {mg mb:Str→Option Value} {CX:CXT} {k:Nat} {fa a:Addr} {fd:FuncData} {x:Str} {sp:Sp} {s₁:Shared} {vs:List Value} {ns:List Int}
    (KX:K.In s₁.heap) (hns:s₁.heap.Ns mainGlobals mg) (hb:s₁.heap.Ns builtinsNs mb) (hbb:∀ x:Str,x≠"__name__"→mb x=bootBuiltins x) (hlim:s₁.heap.NoLimit) (hg:s₁.gens=#[])
    (ha:s₁.heap.get? a=some { cls:=.type "list",data:=.seq vs.toArray }) (hi:IntsAre vs ns) (hl:ns.length≤sizeLine) (hr:Room q0 k callerA)
    (F:∀ base:Heap,K.In base→base.Ns mainGlobals mg→FnOk q0 P w K mg base CX k fa fd [x] sp) (hbind:∀ (s:Shared) (u:Value),BindsTo s fd ⟨[u],[]⟩ [(x,u)])
    (hsp:∀ H:Hp,Only H→SqL K H a (ns.map V.int)→sp [.ref a] H (fun v _=>v=.bl true) fun _ _ _=>False)
    (hCX:∀ H e s',CX [] H s₁ (fun _ _ _=>False) e s'→False) :
    codeAny (model P w) callerA (.call (.ref fa) ⟨[.ref a],[]⟩) (fun r s'=>r=.ok (.ret (.bool true))∧OldK s₁.heap s'.heap∧s'.os=s₁.os∧AllBare s'.gens) s₁:=by
  have rv:=xgb hi
  have lenV:=hi.length
  -- from an abstract heap in which nothing but the script may be tracked
  have core:∀ H:Hp,Only H→SqL K H a (ns.map V.int)→HOk P w H s₁.heap→(∀ b,H b≠none→b=a)→(H a≠none→K.lookup a=none) →
      codeAny (model P w) callerA (.call (.ref fa) ⟨[.ref a],[]⟩) (fun r s'=>r=.ok (.ret (.bool true))∧OldK s₁.heap s'.heap∧s'.os=s₁.os∧AllBare s'.gens) s₁:=by
    intro H hO hS hok hA hK
    have base_of:∀ {b:Addr} {o:Obj},s₁.heap.get? b=some o→H b=none→(hidT s₁.heap H).get? b=some o:=fun e n=>xmh e n
    have noA:∀ {b:Addr} {o:Obj} {es:Array DictEntry} {ep:Nat},s₁.heap.get? b=some o→o.data=.dict es ep→H b=none:=fun {b o es ep} e d=>by
      cases q:H b with
      | none=>rfl
      | some u =>
        have e':b=a:=hA b (by rw [q]; simp)
        subst e'
        rw [ha] at e; cases e
        have d':Data.seq vs.toArray _=Data.dict es ep:=d
        cases d'
    have nsK:∀ {b:Addr} {m:Str→Option Value},s₁.heap.Ns b m→(hidT s₁.heap H).Ns b m:=fun {b m} ⟨o,es,ep,e,d,r⟩=>⟨o,es,ep,base_of e (noA e d),d,r⟩
    have hKb:K.In (hidT s₁.heap H):=fun b o e=>base_of (KX b o e) (by
      cases q:H b with
      | none=>rfl
      | some u =>
        have e':b=a:=hA b (by rw [q]; simp)
        subst e'
        rw [hK (by rw [q]; simp)] at e; cases e)
    have hM:Mod K mg (hidT s₁.heap H):=⟨hKb,nsK hns,⟨mb,nsK hb,hbb⟩,let ⟨mc,h1,h2⟩:=hlim; ⟨mc,nsK h1,h2⟩⟩
    have e0:Env0 P w K mg (hidT s₁.heap H) callerA [] s₁ H:=⟨rfl,hM,fun b o e=>xnc e,Nat.le_of_eq (xkq _ _),trivial,fun b hb=>absurd (show b ∈ ([]:List Addr) from hb) (by simp),hok,.of_eq hg⟩
    refine codeAny_mono ((F _ hKb (nsK hns)).run callerA [] s₁ H ⟨[.ref a],[]⟩ [.ref a] [.ref a] _ _ hr e0 (hbind s₁ (.ref a)) (.cons rfl .nil) (hsp H hO hS)) fun r s' h=>?_
    cases r with
    | error e=>exact (hCX H e s' h).elim
    | ok fl =>
      cases fl with
      | next=>exact False.elim h
      | brk=>exact False.elim h
      | cont=>exact False.elim h
      | ret u =>
        obtain ⟨v,H',os,bare,un,hok',r',q⟩:=h
        have q':v=.bl true:=q
        subst q'
        obtain rfl:u=Value.bool true:=r'
        refine ⟨rfl,OldK.of_keep fun b o e=>?_,os,bare⟩
        cases q:H b with
        | none=>exact un.keep b o e q (by intro z; exact absurd (show b ∈ ([]:List Addr) from z) (by simp)) (by simp)
        | some u =>
          rcases hO b with z | ⟨ob,xs,z⟩
          · rw [q] at z; cases z
          · have z2:=un.frzs b ob _ z
            obtain ⟨e1,_⟩:=hok b _ z
            obtain ⟨e2,_⟩:=hok' b _ z2
            rw [e] at e1; cases e1
            exact e2
  cases hk:K.lookup a with
  | some o =>
    -- the script is one of the module's own objects
    have e:=KX a o hk
    rw [ha] at e
    cases e
    refine core (fun _=>none) (fun _=>.inl rfl) (.inr ⟨_,vs.toArray,_,hk,rfl,rfl,rfl,by rw [List.size_toArray,lenV]; exact hl,by simpa using rv⟩) (fun b u z=>by have z':(none:Option HO)=some u:=z; cases z') (fun b z=>absurd rfl z) fun z=>absurd rfl z
  | none =>
    refine core (fun b=>if b=a then some (.frz { cls:=.type "list",data:=.seq vs.toArray } (.lst (ns.map V.int))) else none) (fun b=>?_) (.inl (.inr ⟨{ cls:=.type "list",data:=.seq vs.toArray },if_pos rfl⟩)) (fun b u z=>?_) (fun b z=>?_) fun _=>hk
    · by_cases hb:b=a
      · exact .inr ⟨_,_,if_pos hb⟩
      · exact .inl (if_neg hb)
    · by_cases hb:b=a
      · have z':=(if_pos hb).symm.trans z
        cases z'
        subst hb
        exact ⟨ha,by rw [List.length_map]; exact hl,vs,_,rv,ha⟩
      · have z':=(if_neg hb).symm.trans z
        cases z'
    · by_cases hb:b=a
      · exact hb
      · exact absurd (if_neg hb) z
end L2
namespace L2
open PySem PySem.Spec PyProof.Rows
variable {q0:Bool}
abbrev KOf {K:PySem.W.Frag} {h:Heap} (_:K.In h):PySem.W.Frag:=K
theorem walk_of {l:PySem.W.OpenLaw} {n k:Nat} {q:Program} {loose:List Str} {XP:(Str→Option Value)→Heap→Prop} {YP:World→Heap→Prop} {d:DefRec} {K:Params→PySem.W.Frag} {CX:World→CXT} {sp:World→Sp} {x:Str}
    (hn:l.most=some n) (hn2:n≤sizeLine) (hdf:d.params.defaults=[]) (hr:Room q0 k callerA)
    (hY:∀ (w:World) (h:Heap),YP w h→(K w.params).In h)
    (F:∀ (w:World) (mg:Str→Option Value) (fa:Addr) (h:Heap),(K w.params).In h→h.Ns mainGlobals mg→mg d.name=some (.ref fa) →
      ∃ fd:FuncData,(∀ (s:Shared) (u:Value),BindsTo s fd ⟨[u],[]⟩ [(x,u)]) ∧
        ∀ base:Heap,(K w.params).In base→base.Ns mainGlobals mg→FnOk q0 l.prog w (K w.params) mg base (CX w) k fa fd [x] (sp w))
    (hsp:∀ (w:World) (H:Hp) (a:Addr) (ns:List Int),ns.length≤n→Only H→SqL (K w.params) H a (ns.map V.int)→sp w [.ref a] H (fun v _=>v=.bl true) fun _ _ _=>False)
    (hCX:∀ (w:World) (H:Hp) (s:Shared) (e:Value) (s':Shared),CX w [] H s (fun _ _ _=>False) e s'→False) :
    PySem.W.WalkO q loose XP YP l.row.toRowW d [] (fun f vs=>PySem.call f vs):=by
  refine Att.attach_call hn hdf fun w s₀ s₁ mg mb fa o pm cd doc a vs ns G Y ho hd hcd hmg hobj hints hlen hg=>?_
  have KX:=hY w _ Y
  obtain ⟨fd,hb,hF⟩:=F w mg fa _ KX G.T.g hmg
  exact xlv KX G.T.g G.T.b G.T.builtins G.T.nolimit hg hobj hints (Nat.le_trans hlen hn2) hr hF hb (fun H hO hS=>hsp w H a ns hlen hO hS) fun H e s'=>hCX w H s₁ e s'
end L2
namespace L2
open PySem PySem.Spec PyProof.Rows
variable {q0:Bool}
def xat (s:Stmt) (j:Nat):Stmt:=match s with
 | .ClassDef _ _ _ body _ _ _ _ _ _ _=>body.getD j (.Pass ⟨0,0,0,0⟩)
 | _=>.Pass ⟨0,0,0,0⟩
def xw (s:Stmt):Arguments:=match s with
 | .FunctionDef _ a _ _ _ _ _ _ _ _=>a
 | _=>{ posonlyargs:=[],args:=[],vararg:=none,kwonlyargs:=[],kw_defaults:=[],kwarg:=none,defaults:=[] }
def xv (s:Stmt):List Stmt:=match s with
 | .FunctionDef _ _ b _ _ _ _ _ _ _=>b
 | _=>[]
def xh (s:Stmt):Scope:=match s with
 | .FunctionDef _ _ _ _ _ _ sc _ _ _=>sc
 | _=>{ kind:=.function,names:=[],isGenerator:=false,isCoroutine:=false }
abbrev CX0:CXT:=fun _ _ _ _ _ _=>False
structure Fun (K:PySem.W.Frag) (x qual:Str) (st:Stmt) (f:Addr) (fd:FuncData):Prop where
 ex:∃ (oc:Value) (od:Option Addr) (kV doc pm:Value) (an:Option Addr) (cdv ct:Value) (osl:Array (Option Value)),
  fd=PySem.W.fnOf x qual (xw st) (xv st) (xh st) .none kV doc pm an cdv ct∧K.lookup f=some ⟨oc,od,.func fd,osl⟩∧PySem.W.codeIn K cdv qual=true
 kp:PySem.W.keepIn K (.ref f)=true
section
variable {P:Program} {w:World} {K:PySem.W.Frag} {mg:Str→Option Value} {base:Heap}
theorem Fun.ok {x qual:Str} {st:Stmt} {f:Addr} {fd:FuncData} {N ps:List Str} {k:Nat} {sp:Sp} (F:Fun K x qual st f fd) (S:x0 N ps (xh st)) (len:∀ vs H Q E,sp vs H Q E→vs.length=ps.length)
    (hbody:∀ (cdv:Value) (A:Around) (outer:List Env) (s:Shared) (H:Hp) (vs:List V) (Q:VK) (E:XK),Room q0 k (A.deeper (envOfC qual (xh st) s.heap.objs.size f cdv))→sp vs H Q E →
      ∃ t,PSs (cxOf q0 CX0 P w K mg base N qual (xh st) f cdv A outer s H E).nox (xv st) t∧t { nx:=fun _ H'=>Q .non H',rt:=Q } (xcn N vs) H):FnOk q0 P w K mg base CX0 (k + 1) f fd ps sp:=by
  obtain ⟨oc,od,kV,doc,pm,an,cdv,ct,osl,rfl,lk,hcd⟩:=F.ex
  refine xi8 lk hcd S len fun A outer s H vs Q E hr hsp=>?_
  obtain ⟨t,h,q⟩:=hbody cdv A outer s H vs Q E hr hsp
  exact ⟨t,h.nox,q⟩
theorem Fun.binds {x qual:Str} {st:Stmt} {f:Addr} {fd:FuncData} {ps:List Str} (F:Fun K x qual st f fd)
    (h:∀ (kV doc pm:Value) (an:Option Addr) (cdv ct:Value) (us:List Value),us.length=ps.length→bindArgs (PySem.W.fnOf x qual (xw st) (xv st) (xh st) .none kV doc pm an cdv ct) ⟨us,[]⟩=pure (ps.zip us)):x5 K fd ps []:=by
  obtain ⟨oc,od,kV,doc,pm,an,cdv,ct,osl,rfl,lk,hcd⟩:=F.ex
  exact .all (h kV doc pm an cdv ct)
theorem xr {x qual:Str} {st:Stmt} {f:Addr} {oc:Value} {od an:Option Addr} {osl:Array (Option Value)} {kV doc pm cdv ct:Value} (l:K.lookup f=some ⟨oc,od,.func (PySem.W.fnOf x qual (xw st) (xv st) (xh st) .none kV doc pm an cdv ct),osl⟩)
    (c:PySem.W.codeIn K cdv qual=true) (k:PySem.W.keepIn K (.ref f)=true):Fun K x qual st f (PySem.W.fnOf x qual (xw st) (xv st) (xh st) .none kV doc pm an cdv ct):=⟨⟨oc,od,kV,doc,pm,an,cdv,ct,osl,rfl,l,c⟩,k⟩
end
theorem xbh {A:Around} {k:Nat} (hr:Room q0 k A):A.units + 1 < cLine:=Nat.lt_of_le_of_lt (Nat.add_le_add_left (by decide:1≤64) _) hr.units
section
variable {X:Cx}
theorem pv (i:Nat) {x:Str} {pos:Pos} (hN:X.N[i]?=some x:=by rfl) (hv:Vis X.env.scope x:=by first | exact Or.inl rfl | exact Or.inr (Or.inl rfl) | exact Or.inr (Or.inr rfl)) (hd:(x == ("__debug__":Str))=false:=by decide)
    (hcd:(x == ("__classdict__":Str))=false:=by decide):PE X (.Name x pos) (tVar i):=xoh hN hv hd hcd
end
theorem iteF {A B:Prop} (h:B):if false=true then A else B:=by
 rw [if_neg Bool.false_ne_true]
 exact h
theorem iteT {A B:Prop} (h:A):if true=true then A else B:=by
 rw [if_pos rfl]
 exact h
theorem ite2 {c A B:Prop} [Decidable c] (h1:c→A) (h2:¬ c→B):if c then A else B:=by
 by_cases h:c
 ·rw [if_pos h]
  exact h1 h
 ·rw [if_neg h]
  exact h2 h
def Same (H H':Hp):Prop:=∀ b o,H b=some o→H' b=some o
theorem Same.refl (H:Hp):Same H H:=fun _ _ h=>h
theorem Same.trans {H H1 H2:Hp} (a:Same H H1) (b:Same H1 H2):Same H H2:=fun c o h=>b c o (a c o h)
theorem Same.free {H H':Hp} (e:Same H H') {l:Addr} (h:H' l=Option.none):H l=Option.none:=by
 cases q:H l with
 | none=>rfl
 | some o =>
  rw [e l o q] at h
  cases h
theorem Same.seq {K:PySem.W.Frag} {H H':Hp} {a:Addr} {xs:List V} (e:Same H H') (h:SqL K H a xs):SqL K H' a xs:=by
 rcases h with (h | ⟨o,h⟩) | h
 ·exact .inl (.inl (e _ _ h))
 ·exact .inl (.inr ⟨o,e _ _ h⟩)
 ·exact .inr h
end L2
namespace Srt
open PySem PySem.W PyProof.Rows
abbrev CM:=Nat→Nat→(Bool→Shared→Prop)→Shared→Prop
abbrev g (p:Array Nat) (i:Nat):Nat:=p.getD i 0
structure Ord (n:Nat) (lt:Nat→Nat→Bool):Prop where
 irr:∀ i,i < n→lt i i=false
 tr:∀ i j k,i < n→j < n→k < n→lt i j=true→lt j k=true→lt i k=true
 tot:∀ i j,i < n→j < n→i≠j→lt i j=false→lt j i=true
def Cmp (n:Nat) (lt:Nat→Nat→Bool) (cmp:CM) (s:Shared):Prop:=∀ i j,i < n→j < n→∀ Q:Bool→Shared→Prop,Q (lt i j) s→cmp i j Q s
theorem xby {α:Type} {cmp:CM} {a:α} {Q:α→Shared→Prop} {s:Shared} (h:Q a s):KasT.kasWp cmp (.ret a) Q s:=h
theorem xd4 {α:Type} {cmp:CM} {i j:Nat} {k:Bool→KasT α} {Q:α→Shared→Prop} {s:Shared} (h:cmp i j (fun c s'=>KasT.kasWp cmp (k c) Q s') s):KasT.kasWp cmp (.ask i j k) Q s:=h
theorem xqj {p:Array Nat} {n:Nat}:kas_asc p 0 n=.ret n:=by unfold kas_asc; rfl
theorem xpi {p:Array Nat} {f n:Nat}:kas_asc p (f + 1) n=.ask (p.getD n 0) (p.getD (n - 1) 0) fun c=>if c=true then .ret n else kas_asc p f (n + 1):=by rw [kas_asc]
theorem xp5 {p:Array Nat} {k:Nat}:kas_bin 0 p k=.ret p:=by unfold kas_bin; rfl
theorem xpe {f:Nat} {p:Array Nat} {k:Nat}:kas_bin (f + 1) p k=(kas_place p k k 0 k).bind fun l=>kas_bin f (bubble p k (k - l)) (k + 1):=by rw [kas_bin]
theorem xnl {p:Array Nat} {k l r:Nat}:kas_place p k 0 l r=.ret l:=by unfold kas_place; rfl
theorem xm1 {p:Array Nat} {k f l r:Nat}:kas_place p k (f + 1) l r=if l ≥ r then .ret l else .ask (p.getD k 0) (p.getD ((l + r) / 2) 0) fun c=>if c=true then kas_place p k f l ((l + r) / 2) else kas_place p k f ((l + r) / 2 + 1) r:=by rw [kas_place]
theorem xn3 {p:Array Nat} {k l:Nat}:kas_desc 0 p k l=.ret (p,k,l):=by unfold kas_desc; rfl
theorem xou {f:Nat} {p:Array Nat} {k l:Nat}:kas_desc (f + 1) p k l=.ask (p.getD k 0) (p.getD (k - 1) 0) fun c=>if c=true then (if l > 0 then kas_desc f (kas_rev p (k - (l + 1)) k) (k + 1) 0 else kas_desc f p (k + 1) 0) else .ask (p.getD (k - 1) 0) (p.getD k 0) fun d=>if d=true then .ret (p,k,l) else kas_desc f p (k + 1) (l + 1):=by rw [kas_desc]
section
variable {n:Nat} {lt:Nat→Nat→Bool} {cmp:CM} {s:Shared}
structure Arr (n:Nat) (p:Array Nat):Prop where
 sz:p.size=n
 lt:∀ i,i < n→g p i < n
 inj:∀ i j,i < n→j < n→g p i=g p j→i=j
 pm:p.Perm (List.range n).toArray
theorem g_at {p:Array Nat} {i:Nat} {v:Nat} (h:p[i]?=some v):g p i=v:=by
 show p.getD i 0=v
 rw [Array.getD_eq_getD_getElem?,h]
 rfl
theorem Arr.at {p:Array Nat} (a:Arr n p) {i:Nat} (h:i < n):p[i]?=some (g p i):=by
 have z:i < p.size:=by rw [a.sz]; exact h
 have e:p[i]?=some p[i]:=Array.getElem?_eq_getElem z
 rw [e,g_at e]
def Srtd (lt:Nat→Nat→Bool) (p:Array Nat) (m:Nat):Prop:=∀ i j,i < j→j < m→lt (g p i) (g p j)=true
theorem xi5 (o:Ord n lt) {p:Array Nat} (a:Arr n p) {m:Nat} (hm:m≤n) (h:∀ i,1≤i→i < m→lt (g p (i - 1)) (g p i)=true):Srtd lt p m:=by
 intro i j hij hj
 obtain ⟨d,rfl⟩:∃ d,j=i + 1 + d:=⟨j - (i + 1),by omega⟩
 induction d with
 | zero=>exact h (i + 1) (by omega) hj
 | succ d ih =>
  have h1:=ih (by omega) (by omega)
  have h2:=h (i + 1 + (d + 1)) (by omega) hj
  exact o.tr _ _ _ (a.lt _ (by omega)) (a.lt _ (by omega)) (a.lt _ (by omega)) h1 h2
theorem xhm (c:Cmp n lt cmp s) {p:Array Nat} (a:Arr n p) {G:Nat→Shared→Prop}:∀ (f k:Nat),1≤k→k + f≤n →
    (∀ m,k≤m→m≤k + f→(∀ i,k≤i→i < m→lt (g p i) (g p (i - 1))=false)→(m < k + f→lt (g p m) (g p (m - 1))=true)→G m s)→KasT.kasWp cmp (kas_asc p f k) G s
  | 0,k,h1,hf,hG=>by
    rw [xqj]
    exact xby (hG k (Nat.le_refl _) (by omega) (fun i h h'=>by omega) (fun h=>by omega))
  | f + 1,k,h1,hf,hG=>by
    rw [xpi]
    refine xd4 (c _ _ (a.lt k (by omega)) (a.lt (k - 1) (by omega)) _ ?_)
    cases e:lt (g p k) (g p (k - 1)) with
    | true =>
      exact xby (hG k (Nat.le_refl _) (by omega) (fun i h h'=>by omega) (fun _=>e))
    | false =>
      show KasT.kasWp cmp (kas_asc p f (k + 1)) G s
      refine xhm c a f (k + 1) (by omega) (by omega) fun m hm hm2 h3 h4=>hG m (by omega) (by omega) (fun i hi hi2=>?_) (fun h=>h4 (by omega))
      by_cases z:i=k
      · rw [z]; exact e
      · exact h3 i (by omega) hi2
theorem xij (o:Ord n lt) (c:Cmp n lt cmp s) {p:Array Nat} (a:Arr n p) {G:Array Nat × Nat × Nat→Shared→Prop}:∀ (f k:Nat),1≤k→k + f≤n →
    (∀ m,k≤m→m≤k + f→(∀ i,k≤i→i < m→lt (g p i) (g p (i - 1))=true)→G (p,m,0) s)→KasT.kasWp cmp (kas_desc f p k 0) G s
  | 0,k,h1,hf,hG=>by
    rw [xn3]
    exact xby (hG k (Nat.le_refl _) (by omega) (fun i h h'=>by omega))
  | f + 1,k,h1,hf,hG=>by
    rw [xou]
    refine xd4 (c _ _ (a.lt k (by omega)) (a.lt (k - 1) (by omega)) _ ?_)
    cases e:lt (g p k) (g p (k - 1)) with
    | true =>
      show KasT.kasWp cmp (kas_desc f p (k + 1) 0) G s
      refine xij o c a f (k + 1) (by omega) (by omega) fun m hm hm2 h3=>hG m (by omega) (by omega) fun i hi hi2=>?_
      by_cases z:i=k
      · rw [z]; exact e
      · exact h3 i (by omega) hi2
    | false =>
      refine xd4 (c _ _ (a.lt (k - 1) (by omega)) (a.lt k (by omega)) _ ?_)
      have ne:g p k≠g p (k - 1):=fun z=>by have:=a.inj _ _ (by omega) (by omega) z; omega
      rw [show lt (p.getD (k - 1) 0) (p.getD k 0)=true from o.tot _ _ (a.lt k (by omega)) (a.lt (k - 1) (by omega)) ne e]
      exact xby (hG k (Nat.le_refl _) (by omega) (fun i h h'=>by omega))
theorem Arr.rev {p:Array Nat} (a:Arr n p) {k:Nat} (hk:k≤n):Arr n (kas_rev p 0 k)∧∀ i,i < n→g (kas_rev p 0 k) i=if i < k then g p (k - 1 - i) else g p i:=by
 have ge:∀ i,i < n→g (kas_rev p 0 k) i=if i < k then g p (k - 1 - i) else g p i:=fun i hi=>by
  have z:=getElem?_mirror_all (xs:=p) (i:=0) (j:=k) (by rw [a.sz]; exact hk) i
  by_cases c:i < k
  ·rw [if_pos c]
   rw [if_pos ⟨Nat.zero_le _,c⟩,show 0 + k - 1 - i=k - 1 - i by omega,a.at (show k - 1 - i < n by omega)] at z
   exact g_at z
  ·rw [if_neg c]
   rw [if_neg (fun w=>c w.2),a.at hi] at z
   exact g_at z
 refine ⟨⟨by rw [kas_rev_size,a.sz],fun i hi=>?_,fun i j hi hj e=>?_,(mirror_perm _ _ _ _).trans a.pm⟩,ge⟩
 ·rw [ge i hi]
  split <;> exact a.lt _ (by omega)
 ·rw [ge i hi,ge j hj] at e
  split at e <;> split at e <;> have:=a.inj _ _ (by omega) (by omega) e <;> omega
theorem xl2 (o:Ord n lt) (c:Cmp n lt cmp s) {p:Array Nat} (a:Arr n p) (h2:2≤n) {G:Nat × Array Nat→Shared→Prop}
    (hG:∀ m p',1≤m→m≤n→Arr n p'→Srtd lt p' m→G (m,p') s):KasT.kasWp cmp (kas_count n p) G s:=by
  unfold kas_count
  rw [KasT.kasWp_bind]
  have up:∀ q,Arr n q→∀ i,1≤i→i < n→lt (g q i) (g q (i - 1))=false→lt (g q (i - 1)) (g q i)=true:=fun q b i h1 hi e =>
    o.tot _ _ (b.lt i hi) (b.lt (i - 1) (by omega)) (fun z=>by have:=b.inj _ _ hi (by omega) z; omega) e
  refine xhm c a (n - 1) 1 (Nat.le_refl _) (by omega) fun m hm hm2 h3 h4=>?_
  have sm:Srtd lt p m:=xi5 o a (by omega) fun i hi hi2=>up p a i hi (by omega) (h3 i hi hi2)
  show KasT.kasWp cmp (if (m == n)=true then _ else _) G s
  by_cases e1:m=n
  · rw [if_pos (by simpa using e1)]
    exact xby (hG m p hm (by omega) a sm)
  · rw [if_neg (by simpa using e1)]
    by_cases e2:m > 1
    · rw [if_pos e2]
      refine xd4 (c _ _ (a.lt 0 (by omega)) (a.lt (m - 1) (by omega)) _ ?_)
      rw [show lt (p.getD 0 0) (p.getD (m - 1) 0)=true from sm 0 (m - 1) (by omega) (by omega)]
      exact xby (hG m p hm (by omega) a sm)
    · rw [if_neg e2]
      have m1:m=1:=by omega
      subst m1
      have d1:=h4 (by omega)
      unfold kas_descPart
      rw [KasT.kasWp_bind]
      refine xij o c a (n - (1 + 1)) (1 + 1) (by omega) (by omega) fun k hk hk2 h5=>?_
      show KasT.kasWp cmp (if (0:Nat) > 0 then _ else kas_tail3 k n p) G s
      rw [if_neg (Nat.lt_irrefl 0)]
      unfold kas_tail3
      rw [KasT.kasWp_bind]
      obtain ⟨b,ge⟩:=a.rev (k:=k) (by omega)
      refine xhm c b (n - k) k (by omega) (by omega) fun m' hm' hm2' h6 _=>?_
      refine xby (hG m' _ (by omega) (by omega) b (xi5 o b (by omega) fun i hi hi2=>?_))
      by_cases ik:i < k
      · rw [ge i (by omega),ge (i - 1) (by omega),if_pos ik,if_pos (by omega)]
        have e3:k - 1 - (i - 1) - 1=k - 1 - i:=by omega
        by_cases z:k - 1 - (i - 1)=1
        · have z':k - 1 - i=0:=by omega
          rw [z,z']
          exact d1
        · have:=h5 (k - 1 - (i - 1)) (by omega) (by omega)
          rw [e3] at this
          exact this
      · exact up _ b i hi (by omega) (h6 i (by omega) hi2)
theorem xe2 (o:Ord n lt) (c:Cmp n lt cmp s) {p:Array Nat} (a:Arr n p) {k:Nat} (hk:k < n) (sk:Srtd lt p k) {G:Nat→Shared→Prop}:∀ (f l r:Nat),l≤r→r≤k→r - l≤f →
    (∀ j,j < l→lt (g p k) (g p j)=false)→(∀ j,r≤j→j < k→lt (g p k) (g p j)=true) →
    (∀ m,m≤k→(∀ j,j < m→lt (g p k) (g p j)=false)→(∀ j,m≤j→j < k→lt (g p k) (g p j)=true)→G m s)→KasT.kasWp cmp (kas_place p k f l r) G s
  | 0,l,r,h1,h2,h3,lo,hi,hG=>by
    rw [xnl]
    exact xby (hG l (by omega) lo fun j hj hj2=>hi j (by omega) hj2)
  | f + 1,l,r,h1,h2,h3,lo,hi,hG=>by
    rw [xm1]
    by_cases e:l ≥ r
    · rw [if_pos e]
      exact xby (hG l (by omega) lo fun j hj hj2=>hi j (by omega) hj2)
    · rw [if_neg e]
      have m1:(l + r) / 2 < r:=by omega
      have m2:l≤(l + r) / 2:=by omega
      refine xd4 (c _ _ (a.lt k hk) (a.lt _ (by omega)) _ ?_)
      cases e2:lt (g p k) (g p ((l + r) / 2)) with
      | true =>
        show KasT.kasWp cmp (kas_place p k f l ((l + r) / 2)) G s
        refine xe2 o c a hk sk f l _ m2 (by omega) (by omega) lo (fun j hj hj2=>?_) hG
        by_cases z:j=(l + r) / 2
        · rw [z]; exact e2
        · exact o.tr _ _ _ (a.lt k hk) (a.lt _ (by omega)) (a.lt _ (by omega)) e2 (sk _ _ (by omega) hj2)
      | false =>
        show KasT.kasWp cmp (kas_place p k f ((l + r) / 2 + 1) r) G s
        refine xe2 o c a hk sk f _ r (by omega) h2 (by omega) (fun j hj=>?_) hi hG
        by_cases z:j=(l + r) / 2
        · rw [z]; exact e2
        · cases e3:lt (g p k) (g p j) with
          | false=>rfl
          | true =>
            have:=o.tr _ _ _ (a.lt k hk) (a.lt _ (by omega)) (a.lt _ (by omega)) e3 (sk j ((l + r) / 2) (by omega) (by omega))
            rw [e2] at this
            cases this
theorem Arr.bub {p:Array Nat} (a:Arr n p) {k m:Nat} (hk:k < n) (hm:m≤k):Arr n (bubble p k (k - m))∧∀ i,i < n→g (bubble p k (k - m)) i=if i=m then g p k else if m < i∧i≤k then g p (i - 1) else g p i:=by
 have ge:∀ i,i < n→g (bubble p k (k - m)) i=if i=m then g p k else if m < i∧i≤k then g p (i - 1) else g p i:=fun i hi=>by
  have z:=getElem?_bubble (xs:=p) (src:=k) (by rw [a.sz]; exact hk) (k - m) (by omega) i
  rw [show k - (k - m)=m by omega] at z
  by_cases c:i=m
  ·rw [if_pos c]
   rw [if_pos c,a.at hk] at z
   exact g_at z
  ·rw [if_neg c]
   rw [if_neg c] at z
   by_cases d:m < i∧i≤k
   ·rw [if_pos d]
    rw [if_pos d,a.at (show i - 1 < n by omega)] at z
    exact g_at z
   ·rw [if_neg d]
    rw [if_neg d,a.at hi] at z
    exact g_at z
 refine ⟨⟨by rw [bubble_size,a.sz],fun i hi=>?_,fun i j hi hj e=>?_,(bubble_perm _ _ _).trans a.pm⟩,ge⟩
 ·rw [ge i hi]
  split
  ·exact a.lt _ hk
  ·split <;> exact a.lt _ (by omega)
 ·rw [ge i hi,ge j hj] at e
  split at e <;> (try split at e) <;> (try split at e) <;> (try split at e) <;> first | omega | (have:=a.inj _ _ (by omega) (by omega) e; omega)
theorem xlh (o:Ord n lt) (c:Cmp n lt cmp s) {G:Array Nat→Shared→Prop}:∀ (f k:Nat) (p:Array Nat),k + f=n→Arr n p→Srtd lt p k→(∀ p',Arr n p'→Srtd lt p' n→G p' s)→KasT.kasWp cmp (kas_bin f p k) G s
 | 0,k,p,h,a,sk,hG=>by
  rw [xp5]
  have:k=n:=by omega
  subst this
  exact xby (hG p a sk)
 | f + 1,k,p,h,a,sk,hG=>by
  have hk:k < n:=by omega
  rw [xpe,KasT.kasWp_bind]
  refine xe2 o c a hk sk k 0 k (Nat.zero_le _) (Nat.le_refl _) (by omega) (fun j hj=>by omega) (fun j hj hj2=>by omega) fun m hm lo hi=>?_
  obtain ⟨b,ge⟩:=a.bub hk hm
  refine xlh o c f (k + 1) _ (by omega) b (fun i j hij hj=>?_) hG
  have inS:∀ i,i < m→lt (g p i) (g p k)=true:=fun i hi'=>o.tot _ _ (a.lt k hk) (a.lt i (by omega)) (fun z=>by have:=a.inj _ _ hk (by omega) z; omega) (lo i hi')
  have g1:∀ i,i < n→i=m→g (bubble p k (k - m)) i=g p k:=fun i hi z=>by rw [ge i hi,if_pos z]
  have g2:∀ i,i < n→m < i→i≤k→g (bubble p k (k - m)) i=g p (i - 1):=fun i hi z z2=>by rw [ge i hi,if_neg (by omega),if_pos ⟨z,z2⟩]
  have g3:∀ i,i < n→i < m→g (bubble p k (k - m)) i=g p i:=fun i hi z=>by rw [ge i hi,if_neg (by omega),if_neg (by omega)]
  by_cases j1:j=m
  ·rw [g1 j (by omega) j1,g3 i (by omega) (by omega)]
   exact inS i (by omega)
  ·by_cases i1:i=m
   ·rw [g1 i (by omega) i1,g2 j (by omega) (by omega) (by omega)]
    exact hi (j - 1) (by omega) (by omega)
   ·by_cases j2:m < j
    ·rw [g2 j (by omega) j2 (by omega)]
     by_cases i2:m < i
     ·rw [g2 i (by omega) i2 (by omega)]
      exact sk _ _ (by omega) (by omega)
     ·rw [g3 i (by omega) (by omega)]
      by_cases z:i=j - 1
      ·omega
      ·exact sk _ _ (by omega) (by omega)
    ·rw [g3 j (by omega) (by omega),g3 i (by omega) (by omega)]
     exact sk _ _ hij (by omega)
theorem xk0:Arr n (List.range n).toArray:=by
 have e:∀ i,i < n→g (List.range n).toArray i=i:=fun i hi=>g_at (by rw [List.getElem?_toArray,List.getElem?_range hi])
 exact ⟨by simp,fun i hi=>by rw [e i hi]; exact hi,fun i j hi hj z=>by rw [e i hi,e j hj] at z; exact z,Array.Perm.refl _⟩
theorem sort_wp (o:Ord n lt) (c:Cmp n lt cmp s) (h2:2≤n) {G:Array Nat→Shared→Prop} (hG:∀ p,Arr n p→Srtd lt p n→G p s):KasT.kasWp cmp (kas_sort n) G s:=by
 unfold kas_sort
 rw [KasT.kasWp_bind]
 refine xl2 o c xk0 h2 fun m p hm hm2 a sm=>?_
 show KasT.kasWp cmp (if m < n then _ else _) G s
 by_cases e:m < n
 ·rw [if_pos e]
  show KasT.kasWp cmp (kas_bin (n - max m 1) p (max m 1)) G s
  rw [Nat.max_eq_left hm]
  exact xlh o c (n - m) m p (by omega) a sm hG
 ·rw [if_neg e]
  have:m=n:=by omega
  subst this
  exact xby (hG p a sm)
end
end Srt
set_option maxRecDepth 100000
namespace XL
open PySem
def Xat (h:Heap) (e:Addr) (cls:Value) (od tb:Option Addr):Prop :=
 ∃ oe vs,h.get? e=some oe∧oe.cls=cls∧oe.dict=od∧oe.data=.fields vs∧1 < vs.size ∧
  ((tb=none∧vs[1]?=some Value.none)∨∃ T oT ts,tb=some T∧vs[1]?=some (.ref T)∧T≠e∧h.get? T=some oT∧oT.data=.fields ts∧ts[3]?=some Value.none)
section
variable {M:Model} {A:Around} {E:Value→Shared→Prop} {s:Shared}
end
end XL
set_option maxRecDepth 100000
namespace XL
open PySem
section
variable {prog:Program} {w:World} {A:Around} {E:Value→Shared→Prop} {h:Heap} {g:Array GenState} {d:Drawn} {t:Nat} {os:OsState}
variable {nm qn:Str} {C N:Addr} {bs bm bmB:List Value} {hz:Bool} {sn:List Str} {sub:List Value} {ab:Bool} {col:Option Bool} {dd:Option Addr} {k0 k1 k2 k3 k5:Option Value} {B ni ii:String}
end
end XL
set_option maxRecDepth 100000
namespace XL
open PySem PySem.W PySem.Calls PyProof.Rows Builtin Builtin.ObjectAttr
def vErr:List Value:=[.type "ValueError",.type "Exception",.type "BaseException",.type "object"]
def xen:List Value→Bool
 | []=>false
 | .ref c :: r=>xen r || ((.ref c :: r:List Value) == vErr)
 | v :: r=>(v :: r) == vErr
def xnh (K:Frag) (C:Addr):Bool:=(clsIn K C).any fun cd=>xen cd.mro
theorem xe4:∀ {l:List Value},xen l=true→l.contains (.type "object")=true∧l.contains (.type "BaseException")=true∧l.isEmpty=false
 | [],e=>by cases e
 | v :: r,e=>by
  have last:((v :: r:List Value) == vErr)=true→(v :: r).contains (.type "object")=true∧(v :: r).contains (.type "BaseException")=true∧(v :: r).isEmpty=false:=fun z=>by
   rw [eq_of_beq z]
   exact ⟨by decide +kernel,by decide +kernel,rfl⟩
  cases v with
  | ref c =>
   rcases Bool.or_eq_true_iff.mp e with z | z
   ·obtain ⟨a,b,_⟩:=xe4 z
    exact ⟨by rw [List.contains_cons,a,Bool.or_true],by rw [List.contains_cons,b,Bool.or_true],rfl⟩
   ·exact last z
  | _=>exact last e
structure XC (K:Frag) (C:Addr):Prop where
 over:xnh K C=true
 hd:hasDictIn K C=true
 sa:findIn K (.ref C) "__setattr__"=some (some (.builtin "object.__setattr__"))
 ga:findIn K (.ref C) "__getattribute__"=some (some (.builtin "BaseException.__getattribute__"))
 gh:findIn K (.ref C) "__getattr__"=some none
 ca:findIn K (.ref C) "__class__"=some (some (.builtin "object.__class__"))
 cg:specialIn K (.builtin "object.__class__") "__get__"=some (some (.builtin "getset_descriptor.__get__"))
 ct:takesIn K (.builtin "object.__class__")=some true
section
variable {prog:Program} {w:World} {A:Around} {E:Value→Shared→Prop} {s:Shared} {K:Frag} {x C dx:Addr} {ox:Obj} {od:Option Obj} {name:Str} {v:Value} {R:Result→Shared→Prop}
theorem XC.mro (c:XC K C):∃ cd,clsIn K C=some cd∧xen cd.mro=true∧cd.hasDict=true:=by
 obtain ⟨cd,h1,h2⟩:=any_some c.over
 obtain ⟨cd',h3,h4⟩:=any_some c.hd
 rw [h1] at h3
 cases h3
 exact ⟨cd,h1,h2,h4⟩
theorem XC.isObj (c:XC K C):mroIn K C (.type "object")=some true:=by
 obtain ⟨cd,h1,h2,_⟩:=c.mro
 obtain ⟨a,_,b⟩:=xe4 h2
 unfold mroIn
 rw [h1,Option.bind_some,if_neg (by rw [b]; decide),a]
theorem XC.isExc (c:XC K C):mroIn K C (.type "BaseException")=some true:=by
 obtain ⟨cd,h1,h2,_⟩:=c.mro
 obtain ⟨_,a,b⟩:=xe4 h2
 unfold mroIn
 rw [h1,Option.bind_some,if_neg (by rw [b]; decide),a]
theorem xmz (v:Value):bindSpecial (.builtin "BaseException.__getattribute__") v=pure (.builtin "BaseException.__getattribute__",[v]):=by
 have f:=PySem.F.attr_ValueError.ga.bind v
 exact f
theorem xl7:plainId "BaseException.__getattribute__"=true:=PySem.F.attr_ValueError.ga.plain
theorem xo4 {Q:Value→Shared→Prop} {expr fill:Bool} {tk:Tok} (X:K.In s.heap) (c:XC K C) (I:InstAt s.heap x ox C od)
    (h:wpAny (model prog w) A.in1 (Builtin.«object.__getattribute__» ⟨[.ref x,.str name tk],[]⟩)
      (fun fin s'=>match fin with | .done (.ret v)=>wpAny (model prog w) A (handedOut v) Q E s' | _=>False) (fun _ _=>False) s) :
    wpAny (model prog w) A (getAttrBy (.ref x) (.str name tk) fill expr) Q E s:=by
  obtain ⟨hh,g,d,t,os⟩:=s
  have L0:=I.type (M:=model prog w)
  have L1:=looks_findIn (M:=model prog w) X c.ga
  have L2:=looks_findIn (M:=model prog w) X c.gh
  have sub:Looks (model prog w) hh (isInstance (.ref x) (.type "BaseException")) true:=I.type.andThen (looks_mroIn X c.isExc)
  have f2:(onTheHeap (Value.ref C) && Value.builtin "BaseException.__getattribute__" == Value.builtin "object.__getattribute__")=false:=by
    rw [show (Value.builtin "BaseException.__getattribute__" == Value.builtin "object.__getattribute__")=false from by decide +kernel]; rfl
  have f3:(expr && onTheHeap (Value.builtin "BaseException.__getattribute__"))=false:=by cases expr <;> rfl
  unfold getAttrBy
  refine wpAny_holding (wpAny_bind (L0.at (wpAny_bind (L1.at ?_))))
  dsimp only
  rw [f2]
  simp only [Bool.false_eq_true,if_false]
  unfold getAttrByItsOwn hookBefore
  refine wpAny_bind (L2.at (wpAny_bind (wpAny_attempt (wpAny_holding ?_))))
  unfold callGetattribute
  rw [f3]
  simp only [Bool.false_eq_true,if_false]
  unfold boundAndCalled
  rw [xmz]
  refine wpAny_bind (wpAny_pure (wpAny_call (codeAny_call_builtin xl7 PySem.F.entry_bexc_ga
    (@check_slot (model prog w) _ _ ⟨hh,g,d,t,os⟩ "BaseException.__getattribute__" "BaseException" "__getattribute__" (.ref x) [.str name tk] [] _ (by decide +kernel) (by decide +kernel) sub (PySem.F.args_bexc_ga _ _) ?_))))
  refine wpAny_mono h (fun fin s' z=>?_) fun e s' z=>z.elim
  rcases fin with (_ | _ | _ | _) | _ <;> first | exact z | exact z.elim
theorem xl8 {Q:Option Value→Shared→Prop} (X:K.In s.heap) (c:XC K C) (I:InstAt s.heap x ox C od) (h:Q (some (.ref C)) { s with toks:=s.toks + 1 }) :
    wpAny (model prog w) A (getAttr? (.ref x) "__class__") Q E s:=by
  obtain ⟨cd,h1,_,h2⟩:=c.mro
  have hf:findObj K C od "__class__"=some (.bind (.builtin "getset_descriptor.__get__") (.builtin "object.__class__")):=by
    unfold findObj
    rw [h1,Option.bind_some,c.ca,Option.bind_some]
    simp [c.cg,c.ct]
  unfold getAttr? getAttrBy?
  refine wpAny_bind (wpAny_mkText (wpAny_bind (wpAny_attempt ?_)))
  refine xo4 (s:={ s with toks:=s.toks + 1 }) X c I ?_
  have L0:=I.type (M:=model prog w)
  have L1:=looks_find (M:=model prog w) X I hf
  refine wpAny_bind (wpAny_pure (wpAny_bind (wpAny_pure (wpAny_bind (L0.here (s:={ s with toks:=s.toks + 1 }) (wpAny_bind (L1.here (s:={ s with toks:=s.toks + 1 }) ?_)))))))
  show wpAny _ _ (holding [_] (call _ [_,.ref x,.ref C]) >>= ret) _ _ _
  refine wpAny_bind (wpAny_holding (wpAny_call (class_get (s:={ s with toks:=s.toks + 1 }) (ox:=ox) (od:=od) X I c.isObj ?_)))
  refine wpAny_pure ?_
  show wpAny _ _ (handedOut (.ref C)) _ _ _
  exact wpAny_pure (wpAny_pure h)
end
end XL
set_option maxRecDepth 100000
namespace XL
open PySem
section
variable {M:Model} {A:Around} {E:Value→Shared→Prop} {s:Shared} {env:Env}
end
end XL
set_option maxRecDepth 100000
namespace L2
open PySem PySem.Spec PyProof.Rows XL
variable {q0:Bool}
def XO (e C:Addr) (od:Option Addr):HO:=.ext fun h=>∃ ox vs,h.get? e=some ox∧ox.cls=.ref C∧ox.dict=od∧ox.data=.fields vs
def XD (dx:Addr) (fs:List (Str × V)):HO:=.ext fun h=>fs.length≤1000∧∃ mA,h.Ns1 dx mA∧(∀ f,RelO (fs.lookup f) (mA f))∧PySem.Within mA (fs.map (·.1))
section
variable {P:Program} {w:World} {H:Hp} {h:Heap} {e C dx:Addr} {od:Option Addr} {fs:List (Str × V)}
end
def CXo (P:Program) (w:World):CXT:=fun outer H s E u s'=>∃ e C od H' T,u=.ref e∧s'.os=s.os∧AllBare s'.gens∧Un (frs outer) [] H H' s.heap s'.heap∧HOk P w H' s'.heap ∧
 Xat s'.heap e (.ref C) od (some T)∧H' e=some (XO e C od)∧s.heap.objs.size≤T∧H' T=none∧E e C H'
section
variable {X:Cx} {pins:List (Addr × Obj)} {σ:St} {H:Hp} {s:Shared} {e C:Addr} {od tb:Option Addr}
theorem Inv.size_lt (I:Inv X pins σ H s) {b:Addr} (h:s.heap.objs.size≤b):H b=none∧b≠X.env.locals∧(∀ x c,X.env.cells.lookup x=some c→c≠b)∧∀ p ∈ X.pn ++ pins,p.1≠b:=by
 refine ⟨I.hok.fresh h,fun z=>?_,fun x c hc z=>?_,fun p hp z=>?_⟩
 ·rw [z] at h
  exact absurd I.lt (Nat.not_lt.mpr h)
 ·obtain ⟨v,o,ho,_⟩:=I.cell x c hc
  rw [z] at ho
  exact absurd (Heap.lt_size ho) (Nat.not_lt.mpr h)
 ·have g:=(I.pin p hp).1
  rw [z] at g
  exact absurd (Heap.lt_size g) (Nat.not_lt.mpr h)
theorem xm:xc2 (CXo X.prog X.w) X (fun _ _ _ _=>False):=fun pins σ H s u s' I h=>by
 obtain ⟨e,C,od,H',T,_,_,_,_,_,_,_,_,_,q⟩:=h
 exact q.elim
end
end L2
set_option maxRecDepth 100000
namespace XL
open PySem PySem.W
end XL
namespace L2
open PySem PySem.Spec PyProof.Rows XL
variable {q0:Bool}
section
variable {X:Cx} {pins:List (Addr × Obj)} {σ:St} {H:Hp} {s:Shared} {a C dx:Addr} {od:Option Addr} {fs:List (Str × V)} {f:Str} {v y:V} {u:Value} {A:Around} {E:Value→Shared→Prop}
theorem xqf (I:Inv X pins σ H s) (e:H a=some (XO a C od)):∃ ox vs,s.heap.get? a=some ox∧ox.cls=.ref C∧ox.dict=od∧ox.data=.fields vs:=(I.hok a _ e).1
theorem xmn (I:Inv X pins σ H s) (e:H dx=some (XD dx fs)):fs.length≤1000∧∃ mA,s.heap.Ns1 dx mA∧(∀ f,RelO (fs.lookup f) (mA f))∧PySem.Within mA (fs.map (·.1)):=(I.hok dx _ e).1
theorem xhz {o:Obj} {vs:Array Value} (d:o.data=.fields vs):PySem.W.notCls o=true:=by
 unfold PySem.W.notCls
 rw [d]
end
section
variable {X:Cx} {o e value:Expr} {f:Str} {pos pos' tpos:Pos} {ta tv te:TE}
end
section
variable {X:Cx} {k:Nat} {f C:Addr} {fd:FuncData} {ps:List Str} {sp:Sp} {dvs:List V} {ds:List Value} {E:St→XK} {x m:Str} {p pos apos:Pos} {e o:Expr} {es:List Expr} {ta te:TE} {t:TA}
end
end L2
set_option maxRecDepth 100000
namespace XL
open PySem PySem.W
section
variable {M:Model} {A:Around} {E:Value→Shared→Prop} {s:Shared}
variable {nm qn nm' qn':Str} {C N C' N':Addr} {bs bm bs' bm':List Value} {hz hz':Bool} {sn sn':List Str} {sub sub':List Value} {ab ab':Bool} {col col':Option Bool} {dd dd':Option Addr} {k0 k1 k2 k3 k5 j0 j1 j2 j3 j5:Option Value} {ni ni':String}
end
end XL
namespace L2
open PySem PySem.Spec PyProof.Rows XL
variable {q0:Bool}
section
variable {X:Cx} {pins:List (Addr × Obj)} {σ:St} {H:Hp} {s:Shared}
end
section
variable {X:Cx} {pos np hpos:Pos} {body hbody:List Stmt} {b0:Stmt} {cx n:Str} {C0:Addr} {j:Nat} {E:St→XK} {tb th:TS}
end
end L2
set_option maxRecDepth 100000
namespace XL
open PySem PySem.W
theorem xku {K:Frag} {x C:Addr} (c:XC K C):KitX K (.ref x) (.ref C) (fun h=>∃ ox od,InstAt h x ox C od) where
 ty:=fun _ _ _ ⟨_,_,I⟩=>I.type
 it:=fun _ _ X _=>by
  obtain ⟨cd,hc,_,_⟩:=c.mro
  unfold clsIn at hc
  split at hc
  ·rename_i c' d' cd' sl' ho
   intro A' Q' E' s' k q
   unfold isType loadHead
   exact wpAny_bind (wpAny_loadPart (k _ _ (X _ _ ho)) (wpAny_pure q))
  ·cases hc
 ne:=fun h tp dd its n sl X htp=>by
  obtain ⟨cd,hc,_,_⟩:=c.mro
  refine Bool.eq_false_iff.mpr fun q=>?_
  have e:C=tp:=Value.ref.inj (beq_iff_eq.mp q)
  subst e
  unfold clsIn at hc
  split at hc
  ·rename_i c' d' cd' sl' ho
   have z:=(X _ _ ho).symm.trans htp
   cases z
  ·cases hc
 ca:=fun X ⟨ox,od,I⟩ k=>xl8 X c I k
end XL
namespace L2
open PySem PySem.Spec PyProof.Rows XL
variable {q0:Bool}
def clsV:V→Option Value
 | .ty n=>some (.type n)
 | .ref a=>some (.ref a)
 | _=>none
theorem xe3 {c:V} {u cv:Value} (e:clsV c=some cv) (r:RelV c u):u=cv:=by
 cases c <;> first | (cases e; exact r) | cases e
def xjw:List V→Option (List Value)
 | []=>some []
 | c :: r=>(clsV c).bind fun a=>(xjw r).map (a :: ·)
theorem xgg:∀ {cs:List V} {us cv:List Value},xjw cs=some cv→Vals cs us→us=cv
 | [],_,_,e,.nil=>by cases e; rfl
 | c :: r,_,_,e,.cons rc rr=>by
  obtain ⟨a,e1,e2⟩:=Option.bind_eq_some_iff.mp e
  obtain ⟨b,e3,rfl⟩:=Option.map_eq_some_iff.mp e2
  rw [xe3 e1 rc,xgg e3 rr]
section
variable {X:Cx} {pins:List (Addr × Obj)} {σ:St} {H:Hp} {s:Shared} {A:Around} {E:Value→Shared→Prop} {Q:Value→Shared→Prop}
theorem xi4 {a C:Addr} {od:Option Addr} (I:Inv X pins σ H s) (h:H a=some (XO a C od)) (hd:∀ d,od=some d→∃ o,s.heap.get? d=some o):∃ ox odx,PySem.W.InstAt s.heap a ox C odx:=by
 obtain ⟨ox,vs,g,ce,oo,de⟩:=xqf I h
 cases e:od with
 | none=>exact ⟨ox,none,g,ce,xhz de,by rw [oo,e]; trivial⟩
 | some d =>
  obtain ⟨o,go⟩:=hd d e
  exact ⟨ox,some o,g,ce,xhz de,by rw [oo,e]; exact go⟩
end
def xqe (K:PySem.W.Frag):List V→Hp→VK→Prop:=fun xs H Q=>∃ x c,xs=[x,c]∧((∃ t cv b,TyOf K H x t∧clsV c=some cv∧PySem.W.kitOne K t cv=some b∧Q (.bl b) H) ∨
 (∃ a C od cv b,x=.ref a∧H a=some (XO a C od)∧(∀ d,od=some d→∃ fs,H d=some (XD d fs))∧XC K C∧clsV c=some cv∧PySem.W.kitOne K (.ref C) cv=some b∧Q (.bl b) H) ∨
 (∃ a C od p cs cv b,x=.ref a∧H a=some (XO a C od)∧(∀ d,od=some d→∃ fs,H d=some (XD d fs))∧XC K C∧c=.ref p∧SqT K H p cs∧xjw cs=some cv∧PySem.W.kitAny K (.ref C) cv=some b∧Q (.bl b) H))
section
variable {X:Cx}
theorem xb5:xbs X (.builtin "isinstance") (xqe X.K):=by
 intro pins s σ H us xs Q I r h
 obtain ⟨x,c,rfl,h⟩:=h
 obtain ⟨u,v,rfl,ru,rv⟩:=xg0 r
 rcases h with ⟨t,cv,b,ty,ec,ek,q⟩ | ⟨a,C,od,cv,b,rfl,ha,hd,xc,ec,ek,q⟩ | ⟨a,C,od,p,cs,cv,b,rfl,ha,hd,xc,rfl,hp,ec,ek,q⟩
 ·obtain rfl:=xe3 ec rv
  exact xlf I ru ty ek fun tk=>⟨.bl b,H,I.tok tk,rfl,q⟩
 ·obtain rfl:=xe3 ec rv
  obtain rfl:u=Value.ref a:=ru
  refine PySem.W.kia_one (xku xc) I.kIn (xi4 I ha fun d e=>?_) ek (fun z=>nomatch z) fun tk=>⟨.bl b,H,I.tok tk,rfl,q⟩
  obtain ⟨fs,hw⟩:=hd d e
  obtain ⟨_,_,⟨o,_,_,go,_⟩,_⟩:=xmn I hw
  exact ⟨o,go⟩
 ·obtain rfl:u=Value.ref a:=ru
  obtain rfl:v=Value.ref p:=rv
  obtain ⟨its,vi,it,_⟩:=I.tuple hp
  obtain rfl:=xgg ec vi
  obtain ⟨o,g,oc,n,od'⟩:=it
  obtain ⟨c1,d1,dt1,sl1⟩:=o
  dsimp only at oc od'
  subst oc od'
  refine PySem.W.kia_tup (xku xc) I.kIn (xi4 I ha fun d e=>?_) g ek (fun z=>nomatch z) fun tk=>⟨.bl b,H,I.tok tk,rfl,q⟩
  obtain ⟨fs,hw⟩:=hd d e
  obtain ⟨_,_,⟨o,_,_,go,_⟩,_⟩:=xmn I hw
  exact ⟨o,go⟩
end
end L2
set_option maxRecDepth 100000
namespace L2
open PySem PySem.Spec PyProof.Rows XL
variable {q0:Bool}
def xcc (scope:Scope):List Str:=(scope.names.filter fun x=>x.2 == .free).map (·.1)
def Cx.clo (X:Cx) (scope:Scope):List (Str × Addr):=(xcc scope).reverse.map fun n=>(n,(X.env.cells.lookup n).getD 0)
theorem xfq {env:Env} {f:Str→Addr}:∀ (l:List (Str × NameKind)) (acc:List (Str × Addr)),(∀ x ∈ l,x.2=.free→env.cells.lookup x.1=some (f x.1)) →
    (forIn l acc fun x cs=>(if x.2 == .free then do let c ← cellOf env x.1; pure (ForInStep.yield ((x.1,c) :: cs)) else pure (ForInStep.yield cs):Sem (ForInStep (List (Str × Addr))))) =
      pure ((((l.filter fun x=>x.2 == .free).map (·.1)).reverse.map fun n=>(n,f n)) ++ acc)
  | [],acc,_=>rfl
  | x :: r,acc,h=>by
    have ih:=fun a=>xfq r a fun y hy=>h y (List.mem_cons_of_mem _ hy)
    rw [List.forIn_cons]
    by_cases q:x.2=.free
    · have e:=h x List.mem_cons_self q
      have qb:(x.2 == NameKind.free)=true:=by rw [q]; rfl
      rw [if_pos qb,List.filter_cons,if_pos qb]
      have ec:cellOf env x.1=pure (f x.1):=by unfold cellOf; rw [e]
      rw [ec]
      simp only [pure_bind]
      rw [ih]
      simp
    · have qb:(x.2 == NameKind.free)=false:=by simpa using q
      rw [if_neg (by rw [qb]; decide),List.filter_cons,if_neg (by rw [qb]; decide)]
      simp only [pure_bind]
      rw [ih]
theorem xk2 {X:Cx} {scope:Scope} (h:∀ n ∈ xcc scope,∃ c,X.env.cells.lookup n=some c):closureFor scope X.env=pure (X.clo scope):=by
 unfold closureFor
 have z:=xfq (env:=X.env) (f:=fun n=>(X.env.cells.lookup n).getD 0) scope.names [] fun x hx hf=>by
  obtain ⟨c,e⟩:=h x.1 (List.mem_map.mpr ⟨x,List.mem_filter.mpr ⟨hx,by simp [hf]⟩,rfl⟩)
  rw [e]
  rfl
 rw [List.append_nil] at z
 refine (bind_pure (m:=Sem) _).trans ?_
 exact z
theorem xm6 {X:Cx} {scope:Scope} {n:Str} {c:Addr} (h:(X.clo scope).lookup n=some c):n ∈ xcc scope∧c=(X.env.cells.lookup n).getD 0:=by
 have z:=PySem.mem_of_lookup h
 unfold Cx.clo at z
 obtain ⟨y,hy,e⟩:=List.mem_map.mp z
 injection e with e1 e2
 subst e1
 exact ⟨List.mem_reverse.mp hy,e2.symm⟩
theorem xdg {f:Str→Addr} {n:Str}:∀ {l:List Str},n ∈ l→(l.map fun y=>(y,f y)).lookup n=some (f n)
 | [],h=>by simp at h
 | y :: r,h=>by
  rw [List.map_cons,List.lookup_cons]
  by_cases q:n=y
  ·subst q
   simp
  ·rw [show (n == y)=false from by simpa using q]
   exact xdg ((List.mem_cons.mp h).resolve_left q)
theorem xil {X:Cx} {scope:Scope} {n:Str} {c:Addr} (hn:n ∈ xcc scope) (h:X.env.cells.lookup n=some c):(X.clo scope).lookup n=some c:=by
 have z:=xdg (f:=fun n=>(X.env.cells.lookup n).getD 0) (List.mem_reverse.mpr hn)
 unfold Cx.clo
 rw [z,h]
 rfl
section
variable {X:Cx} {pins:List (Addr × Obj)} {σ:St} {H:Hp} {s:Shared} {scope:Scope} {x:Str} {ys:List Str} {fr:List Nat} {fp:List Addr}
end
section
variable {X:Cx} {pins:List (Addr × Obj)} {σ:St} {H:Hp} {s:Shared} {scope:Scope} {x:Str} {ys:List Str} {fr:List Nat} {fp:List Addr}
end
def xcm:TT:=fun _ H Q=>Q true H
def PIf (X:Cx) (ifs:List Expr) (t:TT):Prop :=
 ∀ (pins:List (Addr × Obj)) (s:Shared) (σ:St) (H:Hp) (Q:Bool→Hp→Prop),Inv X pins σ H s→t σ H Q →
  wpAny (model X.prog X.w) X.A (forIn ifs true fun c r=>if r=true then do let ok ← isTrue c X.env (eval c X.env); pure (ForInStep.yield ok) else pure (ForInStep.yield r)) (TP X pins σ Q) X.xe s
theorem xa5 {X:Cx}:PIf X [] xcm:=fun pins s σ H Q I h=>wpAny_pure ⟨H,I,h⟩
theorem xir {X:Cx} {c:Expr} {t:TT} (hc:PT X c t):PIf X [c] t:=fun pins s σ H Q I h=>by
 rw [List.forIn_cons]
 refine wpAny_bind ?_
 rw [if_pos rfl]
 refine wpAny_bind (wpAny_mono (hc pins s σ H Q I h) (fun b s1 q=>wpAny_pure ?_) fun _ _ z=>z)
 exact wpAny_pure q
section
variable {X:Cx} {scope:Scope} {x:Str} {ys:List Str} {fr:List Nat} {elt iter:Expr} {ifs:List Expr} {px pos:Pos} {wi:TI} {tc:TT} {te:TE}
end
end L2
set_option maxRecDepth 100000
namespace L2
open PySem PySem.Spec PyProof.Rows XL
variable {q0:Bool}
theorem xlr {env:Env} {scope:Scope} (nc:∀ y ∈ scope.names,y.2≠.cell) (n:Str) (h:(relabel scope env).names.lookup n=some .cell∨(relabel scope env).names.lookup n=some .free):n ∈ xcc scope:=by
 have key:∀ k,(relabel scope env).names.lookup n=some k→(k=.cell∨k=.free)→n ∈ xcc scope:=fun k e hk=>by
  obtain ⟨y,hy,ey⟩:=List.mem_map.mp (PySem.mem_of_lookup e)
  obtain ⟨m,j⟩:=y
  dsimp only at ey
  split at ey
  ·rename_i q
   injection ey with e1 e2
   subst e1
   have:j=.free:=by
    simp only [Bool.and_eq_true,beq_iff_eq] at q
    exact q.1.1
   subst this
   exact List.mem_map.mpr ⟨_,List.mem_filter.mpr ⟨hy,by simp⟩,rfl⟩
  ·injection ey with e1 e2
   subst e1 e2
   rcases hk with z | z
   ·exact absurd z (nc _ hy)
   ·subst z
    exact List.mem_map.mpr ⟨_,List.mem_filter.mpr ⟨hy,by simp⟩,rfl⟩
 rcases h with h | h
 ·exact key _ h (.inl rfl)
 ·exact key _ h (.inr rfl)
theorem xjk {env:Env} {scope:Scope} {n:Str} (h:scope.names.lookup n=some .free):(relabel scope env).names.lookup n=some .cell∨(relabel scope env).names.lookup n=some .free:=by
  have key:∀ (l:List (Str × NameKind)),l.lookup n=some .free→(l.map fun (m,k)=>if (k == NameKind.free && env.scope.kind == .function && env.kindOf m == some .cell) then (m,NameKind.cell) else (m,k)).lookup n=some .cell ∨
      (l.map fun (m,k)=>if (k == NameKind.free && env.scope.kind == .function && env.kindOf m == some .cell) then (m,NameKind.cell) else (m,k)).lookup n=some .free:=fun l=>by
    induction l with
    | nil=>intro e; simp at e
    | cons y r ih =>
      intro e
      obtain ⟨m,k⟩:=y
      rw [List.map_cons]
      rw [List.lookup_cons] at e
      cases q:n == m with
      | true =>
        rw [q] at e
        cases e
        dsimp only
        split
        · left; rw [List.lookup_cons,q]
        · right; rw [List.lookup_cons,q]
      | false =>
        rw [q] at e
        have z:=ih e
        dsimp only
        split <;> (rw [List.lookup_cons,q]; exact z)
  exact key _ h
section
variable {P:Program} {w:World} {K:PySem.W.Frag} {mg:Str→Option Value} {base:Heap}
theorem Fun.okn {x qual:Str} {st:Stmt} {f:Addr} {fd:FuncData} {N ps:List Str} {k:Nat} {sp:Sp} (F:Fun K x qual st f fd) (S:x0 N ps (xh st)) (len:∀ vs H Q E,sp vs H Q E→vs.length=ps.length)
    (hbody:∀ (cdv:Value) (A:Around) (outer:List Env) (s:Shared) (H:Hp) (vs:List V) (Q:VK) (E:XK),Room q0 k (A.deeper (envOfC qual (xh st) s.heap.objs.size f cdv))→sp vs H Q E →
      ∃ t,PSs (cxOf q0 (CXo P w) P w K mg base N qual (xh st) f cdv A outer s H E).nox (xv st) t∧t { nx:=fun _ H'=>Q .non H',rt:=Q } (xcn N vs) H):FnOk q0 P w K mg base (CXo P w) (k + 1) f fd ps sp:=by
  obtain ⟨oc,od,kV,doc,pm,an,cdv,ct,osl,rfl,lk,hcd⟩:=F.ex
  refine xi8 lk hcd S len fun A outer s H vs Q E hr hsp=>?_
  obtain ⟨t,h,q⟩:=hbody cdv A outer s H vs Q E hr hsp
  exact ⟨t,h.nox,q⟩
end
end L2
set_option maxRecDepth 100000
namespace L2
open PySem PySem.Spec PyProof.Rows XL
theorem ifP {b:Bool} {A B:Prop} (h:b=true) (q:A):if b=true then A else B:=by
 rw [if_pos h]
 exact q
theorem ifN {b:Bool} {A B:Prop} (h:b=false) (q:B):if b=true then A else B:=by
 rw [if_neg (by rw [h]; decide)]
 exact q
end L2
set_option maxRecDepth 100000
namespace L2
open PySem PySem.Spec PyProof.Rows XL
section
variable {X:Cx}
theorem xgu:OpR X (compareOp .LtE) (fun x y H Q=>∃ i j,x=.str i∧y=.str j∧Q (.bl (!decide (j.cps.toList < i.cps.toList))) H):=by
 intro pins s σ H x y v u Q I rx ry h
 obtain ⟨i,j,rfl,rfl,q⟩:=h
 obtain ⟨t,rfl⟩:=rx
 obtain ⟨t',rfl⟩:=ry
 exact PySem.P.le_str (xad I q rfl)
end
end L2
set_option maxRecDepth 100000
namespace L2
open PySem PySem.Spec PyProof.Rows
variable {q0:Bool}
section
variable {X:Cx}
theorem xiw:∀ {us:List Value} {ys:List V},us.length=ys.length→(∀ (j:Nat) (y:V) (u:Value),ys[j]?=some y→us[j]?=some u→RelV y u)→Vals ys us
 | [],[],_,_=>.nil
 | u :: us,y :: ys,hl,h=>.cons (h 0 y u rfl rfl) (xiw (Nat.succ.inj hl) fun j y' u' e e'=>h (j + 1) y' u' e e')
end
end L2
set_option maxRecDepth 100000
namespace L2
open PySem PySem.Spec PyProof.Rows
variable {q0:Bool}
structure FunD (K:PySem.W.Frag) (x qual:Str) (st:Stmt) (T f:Addr) (fd:FuncData):Prop where
 ex:∃ (oc:Value) (od:Option Addr) (kV doc pm:Value) (an:Option Addr) (cdv ct:Value) (osl:Array (Option Value)),
  fd=PySem.W.fnOf x qual (xw st) (xv st) (xh st) (.ref T) kV doc pm an cdv ct∧K.lookup f=some ⟨oc,od,.func fd,osl⟩∧PySem.W.codeIn K cdv qual=true
 kp:PySem.W.keepIn K (.ref f)=true
section
variable {P:Program} {w:World} {K:PySem.W.Frag} {mg:Str→Option Value} {base:Heap}
theorem FunD.okn {x qual:Str} {st:Stmt} {T f:Addr} {fd:FuncData} {N ps:List Str} {k:Nat} {sp:Sp} (F:FunD K x qual st T f fd) (S:x0 N ps (xh st)) (len:∀ vs H Q E,sp vs H Q E→vs.length=ps.length)
    (hbody:∀ (cdv:Value) (A:Around) (outer:List Env) (s:Shared) (H:Hp) (vs:List V) (Q:VK) (E:XK),Room q0 k (A.deeper (envOfC qual (xh st) s.heap.objs.size f cdv))→sp vs H Q E →
      ∃ t,PSs (cxOf q0 (CXo P w) P w K mg base N qual (xh st) f cdv A outer s H E).nox (xv st) t∧t { nx:=fun _ H'=>Q .non H',rt:=Q } (xcn N vs) H):FnOk q0 P w K mg base (CXo P w) (k + 1) f fd ps sp:=by
  obtain ⟨oc,od,kV,doc,pm,an,cdv,ct,osl,rfl,lk,hcd⟩:=F.ex
  refine xi8 lk hcd S len fun A outer s H vs Q E hr hsp=>?_
  obtain ⟨t,h,q⟩:=hbody cdv A outer s H vs Q E hr hsp
  exact ⟨t,h.nox,q⟩
theorem FunD.binds {x qual:Str} {st:Stmt} {T f:Addr} {fd:FuncData} {ps:List Str} {o:Obj} {items:Array Value} {n:Nat} {ds:List Value} (F:FunD K x qual st T f fd) (ho:K.lookup T=some o) (hs:o.data=.seq items n) (m:Nat) (hm:m + ds.length=ps.length)
    (h:∀ (kV doc pm:Value) (an:Option Addr) (cdv ct:Value) (us:List Value),us.length=m →
      ∃ k,bindArgs (PySem.W.fnOf x qual (xw st) (xv st) (xh st) (.ref T) kV doc pm an cdv ct) ⟨us,[]⟩=seqItems? (.ref T) >>= k∧k (some items)=pure (ps.zip (us ++ ds))):x5 K fd ps ds:=by
  obtain ⟨oc,od,kV,doc,pm,an,cdv,ct,osl,rfl,lk,hcd⟩:=F.ex
  intro s us hK hl
  rw [List.length_append] at hl
  obtain ⟨k,h1,h2⟩:=h kV doc pm an cdv ct us (by omega)
  exact BindsTo.of_defaults rfl (hK _ _ ho) hs h1 h2
theorem xiu {x qual:Str} {st:Stmt} {T f:Addr} {oc:Value} {od an:Option Addr} {osl:Array (Option Value)} {kV doc pm cdv ct:Value} (l:K.lookup f=some ⟨oc,od,.func (PySem.W.fnOf x qual (xw st) (xv st) (xh st) (.ref T) kV doc pm an cdv ct),osl⟩)
    (c:PySem.W.codeIn K cdv qual=true) (k:PySem.W.keepIn K (.ref f)=true):FunD K x qual st T f (PySem.W.fnOf x qual (xw st) (xv st) (xh st) (.ref T) kV doc pm an cdv ct):=⟨⟨oc,od,kV,doc,pm,an,cdv,ct,osl,rfl,l,c⟩,k⟩
end
end L2
set_option maxRecDepth 100000
namespace L2
open PySem PySem.Spec PyProof.Rows XL
variable {q0:Bool}
abbrev Cx.blkG (X:Cx) (scope:Scope) (zs:List Str) (ys:List Str) (C:Addr) (ex:List Addr) (s:Shared) (H:Hp) (pn:List (Addr × Obj)):Cx where
 prog:=X.prog
 w:=X.w
 K:=X.K
 mg:=X.mg
 base:=X.base
 A:=X.A
 N:=zs ++ ys
 s₀:=s
 H₀:=H
 env:=compEnvC scope (X.clo scope) C X.env
 outer:=X.stack
 stack:=X.stack
 ex:=ex
 fn:=fun _=>false
 calm:=X.calm
 pn:=pn
 xe:=fun _ _=>False
theorem xfh {prog:Program} {w:World} {A:Around} {R:Result→Shared→Prop} {s:Shared} {elt target iter:Expr} {ifs:List Expr} {scope:Scope} {pos:Pos} {it acc:Value} {env:Env} (I:Nat→Shared→Prop)
    (turn:∀ n s,I n s→wpAny (model prog w) A (pyNext it) (fun r s₁=>match r with
      | none=>R (.ok .next) s₁
      | some v=>wpAny (model prog w) A (letOwnedTupleGo target it v) (fun _ s₀=>wpAny (model prog w) A (assign target env v) (fun _ s₂ =>
          wpAny (model prog w) A (forIn ifs true fun c r=>if r=true then do let ok ← isTrue c env (eval c env); pure (ForInStep.yield ok) else pure (ForInStep.yield r)) (fun ok s₃ =>
            if ok=true then wpAny (model prog w) A (eval elt env) (fun x s₄ =>
              wpAny (model prog w) A (call (.builtin "list.append") [acc,x]) (fun _ s₅=>∃ m,m < n∧I m s₅) (notedBy (model prog w) A env fun e s'=>R (.error e) s') s₄) (notedBy (model prog w) A env fun e s'=>R (.error e) s') s₃
            else ∃ m,m < n∧I m s₃) (notedBy (model prog w) A env fun e s'=>R (.error e) s') s₂) (notedBy (model prog w) A env fun e s'=>R (.error e) s') s₀) (notedBy (model prog w) A env fun e s'=>R (.error e) s') s₁) (notedBy (model prog w) A env fun e s'=>R (.error e) s') s)
    (n:Nat) (h:I n s):codeAny (model prog w) A (.compLoop (.ListComp elt [⟨target,iter,ifs,0⟩] scope pos) 0 it acc env) R s:=by
  refine codeAny_loop rfl I (fun n s hI=>?_) n h
  show wpAny _ A ((compTurn (.ListComp elt [⟨target,iter,ifs,0⟩] scope pos) 0 it acc env).onRaise (fun x=>do noteFrame x env; theTreesLotGoes x)) _ _ s
  refine wpAny_noted ?_
  rw [compTurn_list]
  refine wpAny_bind (wpAny_standAt (wpAny_bind (wpAny_mono (turn n s hI) (fun r s₁ h₁=>?_) fun _ _ h'=>h')))
  cases r with
  | none=>exact wpAny_pure h₁
  | some v =>
    refine wpAny_bind (wpAny_mono h₁ (fun _ s₀ h₀=>wpAny_bind (wpAny_mono h₀ (fun _ s₂ h₂=>wpAny_bind (wpAny_mono h₂ (fun ok s₃ h₃=>?_) fun _ _ h'=>h')) fun _ _ h'=>h')) fun _ _ h'=>h')
    cases ok with
    | false=>exact wpAny_pure ⟨rfl,h₃⟩
    | true =>
      exact wpAny_bind (wpAny_bind (wpAny_mono h₃ (fun x s₄ h₄=>wpAny_bind (wpAny_mono h₄ (fun _ s₅ h₅=>wpAny_pure (wpAny_pure ⟨rfl,h₅⟩)) fun _ _ h'=>h')) fun _ _ h'=>h'))
structure BlkG (X:Cx) (scope:Scope) (zs:List Str) (ys:List Str) (fr:List Nat):Prop where
 kind:scope.kind=.function
 own:∀ x ∈ zs,scope.names.lookup x=some .local
 ncell:∀ y ∈ scope.names,y.2≠.cell
 names:∀ y ∈ scope.names,y.2=.local→scope.names.lookup y.1=some .local
 free:∀ n ∈ xcc scope,X.env.scope.names.lookup n=some .cell
 has:∀ n,((relabel scope X.env).names.lookup n=some .cell∨(relabel scope X.env).names.lookup n=some .free)→n ∈ xcc scope
 slots:fr.map (fun i=>X.N[i]?)=ys.map some
 ysf:∀ y ∈ ys,y ∈ xcc scope
 ysc:∀ y ∈ ys,(relabel scope X.env).names.lookup y=some .cell∨(relabel scope X.env).names.lookup y=some .free
 st:X.stack=X.env :: X.outer
 nd:X.N.Nodup
 ndb:(zs ++ ys).Nodup
def blk0 (σ:St) (fr:List Nat) (n:Nat):St:=List.replicate n none ++ fr.map fun i=>(σ[i]?).join
section
variable {X:Cx} {pins:List (Addr × Obj)} {σ:St} {H:Hp} {s:Shared} {scope:Scope} {zs:List Str} {ys:List Str} {fr:List Nat} {fp:List Addr}
theorem BlkG.cells (B:BlkG X scope zs ys fr) (I:Inv X pins σ H s):∀ n ∈ xcc scope,∃ c,X.env.cells.lookup n=some c:=fun n hn=>I.ok.has n (.inl (B.free n hn))
theorem BlkG.sub (B:BlkG X scope zs ys fr) (I:Inv X pins σ H s) {n:Str} {c:Addr} (h:(X.clo scope).lookup n=some c):X.env.cells.lookup n=some c:=by
 obtain ⟨a,b⟩:=xm6 h
 obtain ⟨d,e⟩:=B.cells I n a
 rw [e] at b
 rw [b,e]
 rfl
theorem Inv.blkG {h1:Heap} {m1:Str→Option Value} {t':Nat} (B:BlkG X scope zs ys fr) (I:Inv X pins σ H s) (hf:∀ b ∈ fp,FpOk X pins H b) (hz:∀ b ∈ fp,b < s.heap.objs.size) (n1:h1.Ns s.heap.objs.size m1) (k1:∀ b o,s.heap.get? b=some o→h1.get? b=some o) :
    Inv (X.blkG scope zs ys s.heap.objs.size fp s H (X.pn ++ pins)) [] (blk0 σ fr zs.length) H { s with heap:=h1,toks:=t' }:=by
  have sub:∀ n c,(X.clo scope).lookup n=some c→X.env.cells.lookup n=some c:=fun n c h=>B.sub I h
  have cz:∀ n c,X.env.cells.lookup n=some c→c < s.heap.objs.size:=fun n c e=>by
    obtain ⟨v,o,ho,_⟩:=I.cell n c e
    exact Heap.lt_size ho
  have nfs:∀ b ∈ fp,b ∉ frs X.stack:=fun b hb z=>(List.mem_cons.mp (I.stkSub b z)).elim (hf b hb).2.1 (hf b hb).2.2.1
  have fz:∀ b,b ∈ frs X.stack→b < s.heap.objs.size:=fun b hb=>by
    obtain ⟨_,o,ho,_⟩:=I.stack.mem hb
    exact Heap.lt_size ho
  refine ⟨⟨I.ok.mod,B.kind,I.ok.glob,I.ok.blt,Nat.le_refl _,fun y z c h1 h2=>I.ok.inj y z c (sub y c h1) (sub z c h2),fun y hy=>?_,(fun y c hy _=>nomatch hy),I.ok.hd,I.ok.frames,.inl rfl,fun b hb=>⟨?_,fun y c h=>(hf b hb).2.2.2.2.1 y c (sub y c h)⟩,
      I.bs,Nat.le_trans I.ok.bsz I.sz,fun b o e hb=>?_,fun b hb=>nfs b hb,I.stack,I.stkFree⟩,
    rfl,I.bare,Un.kept k1,⟨m1,n1,fun i y v e1 e2 e3=>?_⟩,fun y c h=>?_,I.hok.fresh (Nat.le_refl _),fun y c h=>I.freeC y c (sub y c h),fun p hp=>?_,I.hok.kept k1,?_⟩
  · obtain ⟨c,e⟩:=B.cells I y (B.has y hy)
    exact ⟨c,xil (B.has y hy) e⟩
  · exact Nat.ne_of_lt (hz b hb)
  · rcases (hf b hb).2.2.2.1 with z | z
    · exact I.ok.noex b o e z
    · exact absurd (Nat.lt_of_lt_of_le (Heap.lt_size (I.ok.bs b o e).1) z) (Nat.lt_irrefl _)
  · have ln:(List.replicate zs.length (none:Option V)).length=zs.length:=List.length_replicate
    by_cases lt:i < zs.length
    · have e2':(blk0 σ fr zs.length)[i]?=some (some v):=e2
      unfold blk0 at e2'
      rw [List.getElem?_append_left (by rw [ln]; exact lt),List.getElem?_replicate] at e2'
      split at e2' <;> cases e2'
    · obtain ⟨k,rfl⟩:∃ k,i=zs.length + k:=⟨i - zs.length,by omega⟩
      have e2':(fr.map fun i=>(σ[i]?).join)[k]?=some (some v):=by
        have z:(blk0 σ fr zs.length)[zs.length + k]?=some (some v):=e2
        unfold blk0 at z
        rw [List.getElem?_append_right (by rw [ln]; omega),ln] at z
        simpa using z
      have e1':ys[k]?=some y:=by
        have z:(zs ++ ys)[zs.length + k]?=some y:=e1
        rw [List.getElem?_append_right (by omega)] at z
        simpa using z
      rw [List.getElem?_map] at e2'
      obtain ⟨j,hj,ej⟩:=Option.map_eq_some_iff.mp e2'
      have ev:σ[j]?=some (some v):=by
        cases q:σ[j]? with
        | none=>rw [q] at ej; cases ej
        | some w=>rw [q] at ej; exact congrArg some ej
      have eN:X.N[j]?=some y:=by
        have z:=congrArg (fun l=>l[k]?) B.slots
        simp only [List.getElem?_map,hj,e1',Option.map_some] at z
        exact Option.some.inj z
      have my:y ∈ ys:=List.mem_of_getElem? e1'
      obtain ⟨m,_,lk⟩:=I.loc
      obtain ⟨u,r,l⟩:=lk j y v eN ev (.inr (.inl (B.free y (B.ysf y my))))
      refine ⟨u,r,.inr ⟨B.ysc y my,?_⟩⟩
      rcases l with ⟨kk,_⟩ | ⟨_,c,e,o,ho,hd⟩
      · have z:=B.free y (B.ysf y my)
        rw [show X.env.scope.names.lookup y=some .local from kk] at z
        cases z
      · exact ⟨c,xil (B.ysf y my) e,o,k1 c o ho,hd⟩
  · obtain ⟨v,o,ho,hd⟩:=I.cell y c (sub y c h)
    exact ⟨v,o,k1 c o ho,hd⟩
  · have hp':p ∈ X.pn ++ pins:=by simpa using hp
    obtain ⟨a1,a2,a3,a4,a5⟩:=I.pin p hp'
    exact ⟨k1 _ _ a1,a2,Nat.ne_of_lt (Heap.lt_size a1),fun z=>(List.mem_cons.mp (I.stkSub _ z)).elim a3 a4,a5⟩
  · have z:=congrArg List.length B.slots
    simp only [List.length_map] at z
    simp [blk0,z]
end
section
variable {X:Cx} {pins:List (Addr × Obj)} {σ:St} {H:Hp} {s:Shared} {scope:Scope} {zs:List Str} {ys:List Str} {fr:List Nat} {fp:List Addr}
theorem Inv.unblkG {C:Addr} {s':Shared} {h2:Heap} {σ':St} {H':Hp} {pl:List (Addr × Obj)} (I:Inv X pins σ H s) (hf:∀ b ∈ fp,FpOk X pins H b) (hC:s.heap.objs.size≤C) (J:Inv (X.blkG scope zs ys C fp s H (X.pn ++ pins)) pl σ' H' s') (sb:Heap.SameBut C s'.heap h2) :
    Inv X pins σ H' { s' with heap:=h2 }:=by
  have kp:∀ b o,b≠C→s'.heap.get? b=some o→h2.get? b=some o:=fun b o nb g=>(sb.2 b nb).trans g
  have old:∀ b o,s.heap.get? b=some o→b≠C:=fun b o g=>Nat.ne_of_lt (Nat.lt_of_lt_of_le (Heap.lt_size g) hC)
  have trk:∀ b u,H' b=some u→b≠C:=fun b u hb z=>by
    have f:H' C=none:=J.free
    rw [z,f] at hb
    cases hb
  refine I.call' (s':={ s' with heap:=h2 }) J.os (ch:=fp) ⟨fun b o e n hb hx=>kp b o (old b o e) (J.base.keep b o e n hb hx),fun b o e n hb hx=>?_,fun b o e n hx=>J.base.free b o e n hx,fun b o e hx=>?_,J.base.tups,J.base.frzs,J.base.tbls⟩ (fun b u hb=>?_) J.bare fun b hb=>?_
  · obtain ⟨sl,q⟩:=J.base.slot b o e n hb hx
    exact ⟨sl,kp b _ (old b o e) q⟩
  · obtain ⟨o',q⟩:=J.base.there b o e hx
    exact ⟨o',kp b o' (old b o e) q⟩
  · refine (J.hok b u hb).stay (fun c v hc q=>?_) (fun c q=>q) fun c xs q=>q
    rcases hc with rfl | hc
    · exact kp c v (trk c u hb) q
    · exact kp c v (trk c _ hc) q
  · obtain ⟨_,a1,_,a3,a4,a5⟩:=hf b hb
    exact ⟨a3,a1,a4,a5⟩
end
def GOk (n:Nat) (g:TG):Prop:=∀ v σ H Q,g v σ H Q→g v σ H (fun σ' H'=>Q σ' H'∧σ'.length=σ.length∧∀ i,n≤i→σ'[i]?=σ[i]?)
theorem xa2 {i n:Nat} (h:i < n):GOk n (xce i):=fun v σ H Q q=>⟨q,by simp,fun j hj=>by rw [List.getElem?_set_ne (by omega)]⟩
def xcq (J:It) (n:Nat) (g:TG) (σ:St) (fr:List Nat) (tc:TT) (te:TE) (l:Addr) (H1:Hp) (Q:VK):Prop:=∃ W:Nat→Nat→List V→Hp→Prop,(∃ m,W 0 m [] (upd H1 l (.lst [])))∧∀ i m xs H2,W i m xs H2 →
 (J.stop i H2∧Q (.ref l) H2)∨(J.go i H2∧∀ v H3,J.yld i H2 v H3→g v (blk0 σ fr n) H3 fun σ' H3'=>tc σ' H3' fun b H4=>if b=true then
  (te σ' H4 fun y H5=>H5 l=some (.lst xs)∧xs.length < sizeLine∧∃ m',m' < m∧W (i + 1) m' (xs ++ [y]) (upd H5 l (.lst (xs ++ [y])))) else ∃ m',m' < m∧W (i + 1) m' xs H4)
def xhk (wi:TI) (n:Nat) (g:TG) (fr:List Nat) (tc:TT) (te:TE):TE:=fun σ H Q=>wi σ H fun J H1=>∀ l,H1 l=none→xcq J n g σ fr tc te l H1 Q
section
variable {X:Cx} {scope:Scope} {zs:List Str} {ys:List Str} {fr:List Nat} {elt iter tg:Expr} {g:TG} {ifs:List Expr} {px pos:Pos} {wi:TI} {tc:TT} {te:TE}
theorem xfs {pins:List (Addr × Obj)} {s:Shared} {σ:St} {H:Hp} {Q:VK} {U:Option (Value→Sem Unit)} {R:Value→Shared→Prop} (hc:X.calm=true) (B:BlkG X scope zs ys fr) (hi:PI X tg iter wi) (hg:∀ C ex s H pn,(∀ x ∈ zs,(relabel scope X.env).names.lookup x=some .local)→(zs ++ ys).Nodup→PG (X.blkG scope zs ys C ex s H pn) tg g) (gok:GOk zs.length g)
    (hif:∀ C ex s H pn,PIf (X.blkG scope zs ys C ex s H pn) ifs tc) (he:∀ C ex s H pn,PE (X.blkG scope zs ys C ex s H pn) elt te) (I:Inv X pins σ H s) (h:xhk wi zs.length g fr tc te σ H Q)
    (fin:∀ C l H' s' m,(X.s₀.heap.objs.size≤C∧C≠X.env.locals∧(∀ x c,X.env.cells.lookup x=some c→c≠C)∧∀ p ∈ X.pn ++ pins,p.1≠C)→H' C=none→s'.heap.Ns C m→(∀ h2,Heap.SameBut C s'.heap h2→Inv X pins σ H' { s' with heap:=h2 })→Q (.ref l) H'→compPost (model X.prog X.w) X.A X.xe U R (.ref l) C (.ok .next) s') :
    wpAny (model X.prog X.w) X.A (eval iter X.env) (fun v s1=>wpAny (model X.prog X.w) X.A (pyIter v) (fun it s2=>wpAny (model X.prog X.w) X.A (newList []) (fun acc s3 =>
      wpAny (model X.prog X.w) X.A (newFunctionEnv scope X.env.globals (X.clo scope) [] X.env.qual none .none (some X.env)) (fun cenv s4 =>
        codeAny (model X.prog X.w) X.A (.compStart (.ListComp elt [⟨tg,iter,ifs,0⟩] scope pos) 0 it acc { cenv with scope:=relabel scope X.env }) (compPost (model X.prog X.w) X.A X.xe U R acc cenv.locals) s4) X.xe s3) X.xe s2) X.xe s1) X.xe s:=by
  refine thn (hi pins s σ H _ I h) fun v s1 h1=>thn h1 fun itv s2 h2=>?_
  obtain ⟨it,fp,tn,J,H2,rfl,I2,T,st2,f2,body⟩:=h2
  have hN:H2 s2.heap.objs.size=none:=I2.hok.fresh (Nat.le_refl _)
  obtain ⟨W,⟨m0,w0⟩,turn⟩:=body s2.heap.objs.size hN
  refine wpAny_newObj_type ?_
  generalize hs3:({ s2 with heap:=s2.heap.push { cls:=.type "list",data:=.seq ([]:List Value).toArray } }:Shared)=s3
  have k3:∀ b o,s2.heap.get? b=some o→s3.heap.get? b=some o:=fun b o g=>by rw [← hs3]; exact Heap.get?_push_of_some _ g
  have I3:Inv X pins σ (upd H2 s2.heap.objs.size (.lst [])) s3:=by
    rw [← hs3]
    exact I2.laid (t':=s2.toks) (fun b u e=>Heap.get?_push_of_some _ e) (Nat.le_refl _) ⟨Nat.zero_le _,[],0,.nil,Heap.get?_push_size _ rfl⟩
  have z2:∀ b ∈ fp,b < s2.heap.objs.size:=fun b hb=>by
    obtain ⟨o,g,_⟩:=T.obj 0 _ st2 b hb
    exact Heap.lt_size g
  have z3:∀ b ∈ fp,b < s3.heap.objs.size:=fun b hb=>by
    obtain ⟨o,g,_⟩:=T.obj 0 _ st2 b hb
    exact Heap.lt_size (k3 b o g)
  have f3:∀ b ∈ fp,FpOk X pins (upd H2 s2.heap.objs.size (.lst [])) b:=fun b hb=>⟨by rw [xg (Nat.ne_of_lt (z2 b hb))]; exact (f2 b hb).1,(f2 b hb).2⟩
  have st3:tn 0 s3.heap:=T.keep _ _ _ st2 fun b _ o g=>k3 b o g
  refine wpAny_newFunctionEnv B.ncell (by intro y hy; simp at hy) (fun h1 n1 sb1=>?_) B.kind
  have k4:∀ b o,s3.heap.get? b=some o→h1.get? b=some o:=fun b o g=>sb1.extBut b o (Nat.ne_of_lt (Heap.lt_size g)) (Heap.get?_push_of_some _ g)
  have I4:=I3.blkG (t':=s3.toks + ([]:List (Str × Value)).length) B f3 z3 n1 k4
  have st4:tn 0 h1:=T.keep _ _ _ st3 fun b _ o g=>k4 b o g
  have own':∀ x ∈ zs,(relabel scope X.env).names.lookup x=some .local:=fun x hx=>lookup_relabel_local (B.own x hx)
  -- the iterator's objects,through the loop
  have stat:∀ {H':Hp},(∀ b ∈ fp,H' b=none)→∀ b ∈ fp,FpOk (X.blkG scope zs ys s3.heap.objs.size fp s3 (upd H2 s2.heap.objs.size (.lst [])) (X.pn ++ pins)) [] H' b:=fun hn b hb=>by
    obtain ⟨_,a1,a2,a3,a4,a5⟩:=f3 b hb
    exact ⟨hn b hb,Nat.ne_of_lt (z3 b hb),fun z=>(List.mem_cons.mp (I3.stkSub b z)).elim a1 a2,.inl hb,fun y c h=>a4 y c (B.sub I3 h),fun p hp=>a5 p (by simpa using hp)⟩
  have loop:∀ s4:Shared,s4={ s3 with heap:=h1,toks:=s3.toks + ([]:List (Str × Value)).length } →
      codeAny (model X.prog X.w) X.A (.compLoop (.ListComp elt [⟨tg,iter,ifs,0⟩] scope pos) 0 (.ref it) (.ref s2.heap.objs.size) (compEnvC scope (X.clo scope) s3.heap.objs.size X.env))
        (compPost (model X.prog X.w) X.A X.xe U R (.ref s2.heap.objs.size) s3.heap.objs.size) s4:=by
    rintro s4 rfl
    refine xfh (fun n s'=>∃ i xs H',Inv (X.blkG scope zs ys s3.heap.objs.size fp s3 (upd H2 s2.heap.objs.size (.lst [])) (X.pn ++ pins)) [] (blk0 σ fr zs.length) H' s'∧tn i s'.heap∧(∀ b ∈ fp,H' b=none)∧W i n xs H') ?_ m0
      ⟨0,[],_,I4,st4,fun b hb=>(f3 b hb).1,w0⟩
    rintro n s5 ⟨i,xs,H5,I5,st5,fr5,w5⟩
    rcases turn i n xs H5 w5 with ⟨stop,q⟩ | ⟨go,step⟩
    · refine wpAny_mono (T.done (X.blkG scope zs ys s3.heap.objs.size fp s3 (upd H2 s2.heap.objs.size (.lst [])) (X.pn ++ pins)) rfl rfl rfl hc i [] s5 _ H5 (fun _ _=>False) I5 (stat fr5) st5 stop) (fun r s6 ⟨hr,I6⟩=>?_) fun _ _ z=>z.elim
      subst hr
      obtain ⟨m,hm,_⟩:=I6.loc
      exact fin _ _ H5 s6 m ⟨I3.sz,(I3.size_lt (Nat.le_refl _)).2⟩ I6.free hm (fun h2 sb=>I3.unblkG f3 (Nat.le_refl _) I6 sb) q
    · refine wpAny_mono (T.item (X.blkG scope zs ys s3.heap.objs.size fp s3 (upd H2 s2.heap.objs.size (.lst [])) (X.pn ++ pins)) rfl rfl rfl hc i [] s5 _ H5 (fun _ _=>False) I5 (stat fr5) st5 go) (fun r s6 ⟨u,hr,h6⟩=>?_) fun _ _ z=>z.elim
      subst hr
      refine wpAny_mono h6 (fun _ s7 ⟨y,H7,I7,r7,y7,st7,fr7⟩=>?_) fun _ _ z=>z.elim
      have I7':=I7.pinned (stat fr7) (T.obj _ _ st7)
      refine wpAny_mono (hg _ _ _ _ _ own' B.ndb _ s7 _ H7 y u _ I7' r7 (gok _ _ _ _ (step y H7 y7))) (fun _ s8 ⟨σ8,H8,I8,q8,l8,k8⟩=>?_) fun _ _ z=>z.elim
      have back:∀ {s9:Shared} {H9:Hp} {xs':List V},Inv (X.blkG scope zs ys s3.heap.objs.size fp s3 (upd H2 s2.heap.objs.size (.lst [])) (X.pn ++ pins)) ([] ++ xeh fp s7.heap) σ8 H9 s9→(∃ m',m' < n∧W (i + 1) m' xs' H9) →
          ∃ m,m < n∧∃ i xs H',Inv (X.blkG scope zs ys s3.heap.objs.size fp s3 (upd H2 s2.heap.objs.size (.lst [])) (X.pn ++ pins)) [] (blk0 σ fr zs.length) H' s9∧tn i s9.heap∧(∀ b ∈ fp,H' b=none)∧W i m xs H':=fun {s9 H9 xs'} I9 ⟨m',lt,w9⟩=>by
        refine ⟨m',lt,i + 1,xs',H9,I9.unpinned.weak l8.symm (fun j v e=>?_),T.keep _ _ _ st7 fun b hb o e=>(I9.pin (b,o) (List.mem_append_right _ (List.mem_append_right _ (xcb hb e)))).1,fun b hb=>?_,w9⟩
        · by_cases lj:j < zs.length
          · unfold blk0 at e
            rw [List.getElem?_append_left (by rw [List.length_replicate]; exact lj),List.getElem?_replicate] at e
            split at e <;> cases e
          · rw [k8 j (by omega)]
            exact e
        obtain ⟨o,e,d⟩:=T.obj _ _ st7 b hb
        exact (I9.pin (b,o) (List.mem_append_right _ (List.mem_append_right _ (xcb hb e)))).2.1
      refine wpAny_mono (hif _ _ _ _ _ _ s8 _ H8 _ I8 q8) (fun ok s9 ⟨H9,I9,q9⟩=>?_) fun _ _ z=>z.elim
      cases ok with
      | false =>
        rw [if_neg (by decide)] at q9 ⊢
        exact back I9 q9
      | true =>
        rw [if_pos rfl] at q9 ⊢
        refine wpAny_mono (he _ _ _ _ _ _ s9 _ H9 _ I9 q9) (fun ev s10 ⟨yv,H10,I10,r10,hl,len,w10⟩=>?_) fun _ _ z=>z.elim
        refine wpAny_mono (xbu (X:=X.blkG scope zs ys s3.heap.objs.size fp s3 (upd H2 s2.heap.objs.size (.lst [])) (X.pn ++ pins)) _ s10 _ H10 (.ref s2.heap.objs.size) [yv] (.ref s2.heap.objs.size) [ev] (fun v H'=>H'=upd H10 s2.heap.objs.size (.lst (xs ++ [yv]))) I10 rfl (.cons r10 .nil) ⟨_,xs,yv,rfl,rfl,hl,len,rfl⟩)
          (fun _ s11 ⟨_,H11,I11,_,e11⟩=>?_) fun _ _ z=>z.elim
        subst e11
        exact back I11 w10
  exact codeAny_compStart_list (loop _ rfl) (T.self _ 0 _ _ _ st4 (loop _ rfl))
theorem xa7 (hc:X.calm=true) (B:BlkG X scope zs ys fr) (hi:PI X tg iter wi) (hg:∀ C ex s H pn,(∀ x ∈ zs,(relabel scope X.env).names.lookup x=some .local)→(zs ++ ys).Nodup→PG (X.blkG scope zs ys C ex s H pn) tg g) (gok:GOk zs.length g) (hif:∀ C ex s H pn,PIf (X.blkG scope zs ys C ex s H pn) ifs tc) (he:∀ C ex s H pn,PE (X.blkG scope zs ys C ex s H pn) elt te)
    (hs:∀ x,foldedSetIterable iter X.env x=pure x:=by intro _; rfl):PE X (.ListComp elt [⟨tg,iter,ifs,0⟩] scope pos) (xhk wi zs.length g fr tc te):=by
  intro pins s σ H Q I h
  rw [eval_ListComp]
  refine wpAny_comprehension_free (use:=none) rfl hs (xk2 (B.cells I)) B.kind B.names (xfs hc B hi hg gok hif he I h fun C l H' s' m _ _ hm iv q=>?_)
  exact ⟨m,hm,fun h2 sb=>⟨.ref l,H',iv h2 sb,rfl,q⟩⟩
theorem xd1 {j:Nat} {y:Str} {py spos:Pos} (hc:X.calm=true) (B:BlkG X scope zs ys fr) (hi:PI X tg iter wi) (hg:∀ C ex s H pn,(∀ x ∈ zs,(relabel scope X.env).names.lookup x=some .local)→(zs ++ ys).Nodup→PG (X.blkG scope zs ys C ex s H pn) tg g) (gok:GOk zs.length g) (hif:∀ C ex s H pn,PIf (X.blkG scope zs ys C ex s H pn) ifs tc) (he:∀ C ex s H pn,PE (X.blkG scope zs ys C ex s H pn) elt te)
    (hj:X.N[j]?=some y) (hy:Loc X.env.scope y) (hf:X.fn y=true∨X.env.scope.names.lookup y=some .local:=by first | exact .inl rfl | exact .inr rfl | assumption)
    (hsw:swapsWith (.ListComp elt [⟨tg,iter,ifs,0⟩] scope pos) (some (.Name y py)) spos.line X.env=pure true:=by rfl)
    (hs:∀ x,foldedSetIterable iter X.env x=pure x:=by intro _; rfl):PS X (.Assign [.Name y py] (.ListComp elt [⟨tg,iter,ifs,0⟩] scope pos) spos) (tAsg (xhk wi zs.length g fr tc te) (xce j)):=by
  intro pins s σ H D I h
  rw [exec_Assign_Name_used _ _ _ _ hsw]
  refine wpAny_bind (wpAny_standAt (wpAny_bind ?_))
  show wpAny _ _ (do let _ ← comprehension (.ListComp elt [⟨tg,iter,ifs,0⟩] scope pos) scope X.env _ (newList []) false (eval iter X.env) (some (assign (.Name y py) X.env))) _ _ s
  refine wpAny_bind (wpAny_mono (wpAny_comprehension_free (use:=some (assign (.Name y py) X.env)) (Q:=fun _ s'=>SP X pins D .next s') rfl hs (xk2 (B.cells I)) B.kind B.names
    (xfs hc B hi hg gok hif he I h fun C l H' s' m hC hn hm iv q=>?_)) (fun _ s' z=>wpAny_pure (wpAny_pure z)) fun _ _ e=>e)
  show wpAny _ _ (assign (.Name y py) X.env (.ref l)) _ _ _
  have J:Inv X pins σ H' s':=iv s'.heap (.refl ..)
  refine wpAny_assign_Name (xgh (v:=V.ref l) J B.nd hj hy rfl (fun s2 J2 ⟨a,sb,ha⟩=>?_) hf)
  have na:a≠C:=by
    rcases ha with z | z
    · rw [z]; exact Ne.symm hC.2.1
    · exact hC.2.2.1 _ _ z
  refine ⟨m,?_,fun h2 s3=>?_⟩
  · obtain ⟨o,es,ep,g,r⟩:=hm
    exact ⟨o,es,ep,(sb.2 C (Ne.symm na)).trans g,r⟩
  · exact ⟨_,H',J2.turned (t':=s2.toks) (fun b o nb g=>(s3.2 b nb).trans g) hn (hC.2.1) (.inr hC.1) hC.2.2.1 hC.2.2.2,q⟩
end
def xkh (scope sc0:Scope) (N0:List Str) (zs:List Str) (ys:List Str) (fr:List Nat):Bool :=
 scope.kind == .function && zs.all (fun x=>scope.names.lookup x == some .local) && scope.names.all (fun y=>y.2 != .cell) && scope.names.all (fun y=>y.2 != .local || scope.names.lookup y.1 == some .local) &&
 (xcc scope).all (fun n=>sc0.names.lookup n == some .cell) && fr.map (fun i=>N0[i]?) == ys.map some && ys.all (fun y=>scope.names.lookup y == some .free) && decide N0.Nodup && decide (zs ++ ys).Nodup
theorem xay {X:Cx} {scope sc0:Scope} {N0:List Str} {zs:List Str} {ys:List Str} {fr:List Nat} (chk:xkh scope sc0 N0 zs ys fr=true) (es:X.env.scope=sc0) (eN:X.N=N0) (st:X.stack=X.env :: X.outer):BlkG X scope zs ys fr:=by
 unfold xkh at chk
 simp only [Bool.and_eq_true,beq_iff_eq,List.all_eq_true,decide_eq_true_eq] at chk
 obtain ⟨⟨⟨⟨⟨⟨⟨⟨a1,a2⟩,a3⟩,a4⟩,a5⟩,a6⟩,a7⟩,a8⟩,a9⟩:=chk
 have nc:∀ y ∈ scope.names,y.2≠.cell:=fun y hy=>by simpa using a3 y hy
 refine ⟨a1,a2,nc,fun y hy hl=>?_,fun n hn=>by rw [es]; exact a5 n hn,fun n h=>xlr nc n h,by rw [eN]; exact a6,fun y hy=>?_,fun y hy=>xjk (a7 y hy),st,by rw [eN]; exact a8,a9⟩
 ·have z:=a4 y hy
  rw [hl] at z
  simpa using z
 ·exact List.mem_map.mpr ⟨(y,.free),List.mem_filter.mpr ⟨PySem.mem_of_lookup (a7 y hy),by simp⟩,rfl⟩
theorem xf4 {K:PySem.W.Frag} {m n:Nat} {t:TGs} (h:∀ vs σ H Q,t vs σ H Q→t vs σ H (fun σ' H'=>Q σ' H'∧σ'.length=σ.length∧∀ i,n≤i→σ'[i]?=σ[i]?)):GOk n (gTup K m t):=fun v σ H Q q=>by
 obtain ⟨a,xs,e,hs,hl,q⟩:=q
 exact ⟨a,xs,e,hs,hl,h _ _ _ _ q⟩
theorem xe6 {n:Nat}:∀ vs σ H Q,gNil vs σ H Q→gNil vs σ H (fun σ' H'=>Q σ' H'∧σ'.length=σ.length∧∀ i,n≤i→σ'[i]?=σ[i]?):=fun vs σ H Q q=>⟨q.1,q.2,rfl,fun _ _=>rfl⟩
theorem xbp {i n:Nat} (hi:i < n) {t:TGs} (h:∀ vs σ H Q,t vs σ H Q→t vs σ H (fun σ' H'=>Q σ' H'∧σ'.length=σ.length∧∀ i,n≤i→σ'[i]?=σ[i]?)) :
    ∀ vs σ H Q,xjv (xce i) t vs σ H Q→xjv (xce i) t vs σ H (fun σ' H'=>Q σ' H'∧σ'.length=σ.length∧∀ i,n≤i→σ'[i]?=σ[i]?):=fun vs σ H Q q=>by
  obtain ⟨v,r,e,q⟩:=q
  refine ⟨v,r,e,?_⟩
  have z:=h _ _ _ _ q
  have e2:∀ (j:Nat),n≤j→(σ.set i (some v))[j]?=σ[j]?:=fun j hj=>by rw [List.getElem?_set_ne (by omega)]
  have e1:(σ.set i (some v)).length=σ.length:=by simp
  have key:(fun σ' H'=>Q σ' H'∧σ'.length=(σ.set i (some v)).length∧∀ j,n≤j→σ'[j]?=(σ.set i (some v))[j]?)=(fun σ' (H':Hp)=>Q σ' H'∧σ'.length=σ.length∧∀ j,n≤j→σ'[j]?=σ[j]?):=by
    funext σ' H'
    rw [e1]
    refine propext ⟨fun ⟨a,b,c⟩=>⟨a,b,fun j hj=>(c j hj).trans (e2 j hj)⟩,fun ⟨a,b,c⟩=>⟨a,b,fun j hj=>(c j hj).trans (e2 j hj).symm⟩⟩
  rw [key] at z
  exact z
theorem xb3 {J:It} {n:Nat} {g:TG} {σ:St} {fr:List Nat} {tc:TT} {te:TE} {l:Addr} {H1:Hp} {Q:VK} (len:Nat) (Pv:Nat→List V→Hp→Prop) (h0:Pv 0 [] (upd H1 l (.lst []))) (hgo:∀ i xs H,i < len→Pv i xs H→J.go i H)
    (step:∀ i xs H2 v H3,i < len→Pv i xs H2→J.yld i H2 v H3→∀ N:List V→Hp→Prop,(∀ xs' H',Pv (i + 1) xs' H'→N xs' H')→g v (blk0 σ fr n) H3 fun σ' H3'=>tc σ' H3' fun b H4=>if b=true then
      (te σ' H4 fun y H5=>H5 l=some (.lst xs)∧xs.length < sizeLine∧N (xs ++ [y]) (upd H5 l (.lst (xs ++ [y])))) else N xs H4)
    (fin:∀ xs H2,Pv len xs H2→J.stop len H2∧Q (.ref l) H2):xcq J n g σ fr tc te l H1 Q:=by
  refine ⟨fun i m xs H=>m=len - i∧i≤len∧Pv i xs H,⟨len,by simp,Nat.zero_le _,h0⟩,?_⟩
  rintro i m xs H2 ⟨rfl,hi,p⟩
  by_cases lt:i < len
  · exact .inr ⟨hgo i xs H2 lt p,fun v H3 y=>step i xs H2 v H3 lt p y (fun xs' H'=>∃ m',m' < len - i∧m'=len - (i + 1)∧i + 1≤len∧Pv (i + 1) xs' H') fun xs' H' q=>⟨_,by omega,rfl,lt,q⟩⟩
  · have e:i=len:=by omega
    subst e
    exact .inl (fin xs H2 p)
end L2
set_option maxRecDepth 100000
namespace L2
open PySem PySem.Spec PyProof.Rows XL
variable {q0:Bool}
section
variable {X:Cx} {pins:List (Addr × Obj)} {σ:St} {H:Hp} {s:Shared}
theorem Inv.adopt {p:Addr} {o:HO} (I:Inv X pins σ H s) (n:H p=none) (h0:X.s₀.heap.objs.size≤p) (hL:p≠X.env.locals) (hC:∀ x c,X.env.cells.lookup x=some c→c≠p) (hp:∀ q ∈ X.pn ++ pins,q.1≠p)
    (new:xak X.prog X.w (upd H p o) s.heap p o):Inv X pins σ (upd H p o) s:=by
  have ne:∀ b u,H b=some u→b≠p:=fun b u e=>xk e n
  refine ⟨I.ok,I.os,I.bare,⟨I.base.keep,I.base.slot,fun b ob e hn hx=>?_,I.base.there,fun b xs e=>?_,fun b ob u e=>?_,fun b ps e=>?_⟩,I.loc,I.cell,?_,fun x c e=>?_,fun q hq=>?_,fun b u e=>?_,I.len⟩
  · rw [xg (Nat.ne_of_lt (Nat.lt_of_lt_of_le (Heap.lt_size e) h0))]
    exact I.base.free b ob e hn hx
  · have z:=I.base.tups b xs e
    rw [xg (ne b _ z)]
    exact z
  · have z:=I.base.frzs b ob u e
    rw [xg (ne b _ z)]
    exact z
  · obtain ⟨m,z⟩:=I.base.tbls b ps e
    exact ⟨m,by rw [xg (ne b _ z)]; exact z⟩
  · rw [xg (Ne.symm hL)]
    exact I.free
  · rw [xg (hC x c e)]
    exact I.freeC x c e
  · obtain ⟨a1,a2,a3⟩:=I.pin q hq
    exact ⟨a1,by rw [xg (hp q hq)]; exact a2,a3⟩
  · by_cases hb:b=p
    · subst hb
      rw [xb] at e
      cases e
      exact new
    · rw [xg hb] at e
      exact (I.hok b u e).stay (fun c v _ q=>q) (fun c q=>by rw [xg (ne c _ q)]; exact q) fun c xs q=>by rw [xg (ne c _ q)]; exact q
theorem Inv.thaw {d:Addr} {o:Obj} {u:HO} (I:Inv X pins σ H s) (e:H d=some (.frz o u)) (nf:∀ o' u',X.H₀ d≠some (.frz o' u')):Inv X pins σ (upd H d u) s:=by
 have ne:∀ b v,H b=some v→(∀ o' u',v≠.frz o' u')→b≠d:=fun b v h1 h2 z=>by
  subst z
  rw [e] at h1
  cases h1
  exact h2 _ _ rfl
 have ne0:∀ b,H b=none→b≠d:=fun b h1 z=>by
  subst z
  rw [e] at h1
  cases h1
 refine ⟨I.ok,I.os,I.bare,⟨I.base.keep,I.base.slot,fun b ob q hn hx=>?_,I.base.there,fun b xs q=>?_,fun b ob v q=>?_,fun b ps q=>?_⟩,I.loc,I.cell,?_,fun x c q=>?_,fun p hp=>?_,fun b v q=>?_,I.len⟩
 ·have z:=I.base.free b ob q hn hx
  rw [xg (ne0 b z)]
  exact z
 ·have z:=I.base.tups b xs q
  rw [xg (ne b _ z (fun _ _ h=>nomatch h))]
  exact z
 ·have z:=I.base.frzs b ob v q
  have hb:b≠d:=fun w=>by
   subst w
   exact nf _ _ q
  rw [xg hb]
  exact z
 ·obtain ⟨m,z⟩:=I.base.tbls b ps q
  exact ⟨m,by rw [xg (ne b _ z (fun _ _ h=>nomatch h))]; exact z⟩
 ·rw [xg (ne0 _ I.free)]
  exact I.free
 ·rw [xg (ne0 _ (I.freeC x c q))]
  exact I.freeC x c q
 ·obtain ⟨a1,a2,a3⟩:=I.pin p hp
  exact ⟨a1,by rw [xg (ne0 _ a2)]; exact a2,a3⟩
 ·have st:∀ (a:Addr) (v:HO),xak X.prog X.w H s.heap a v→xak X.prog X.w (upd H d u) s.heap a v:=fun a v k =>
   k.stay (fun c v _ q=>q) (fun c q=>by rw [xg (ne c _ q (fun _ _ h=>nomatch h))]; exact q) fun c xs q=>by rw [xg (ne c _ q (fun _ _ h=>nomatch h))]; exact q
  by_cases hb:b=d
  ·subst hb
   rw [xb] at q
   cases q
   obtain ⟨g,ok⟩:=I.hok b _ e
   exact st _ _ ok
  ·rw [xg hb] at q
   exact st _ _ (I.hok b v q)
theorem Inv.nofrz {d:Addr} {kvs:List (Key × V)} (I:Inv X pins σ H s) (e:H d=some (.dK kvs)):∀ o' u',X.H₀ d≠some (.frz o' u'):=fun o' u' z=>by
 have q:=I.base.frzs d o' u' z
 rw [e] at q
 cases q
theorem KV.get:∀ {kvs:List (Key × V)} {vs:List (Key × Value)} {i:Nat} {k:Key} {x:V},KV kvs vs→kvs[i]?=some (k,x)→∃ u,vs[i]?=some (k,u)∧RelV x u
 | _,_,_,_,_,.nil,e=>by simp at e
 | _,(_,_) :: _,0,_,_,.cons r _,e=>by
  simp at e
  subst e
  obtain ⟨r1,r2⟩:=r
  dsimp only at r1 r2
  subst r1
  exact ⟨_,rfl,r2⟩
 | _,_,i + 1,k,x,.cons _ t,e=>by
  obtain ⟨u,h1,h2⟩:=KV.get (i:=i) (k:=k) (x:=x) t (by simpa using e)
  exact ⟨u,by simpa using h1,h2⟩
theorem xhu {P:Program} {w:World} {k:Key} {u:Value} (h:(xab P w).is k u=true):RelV (kV k) u:=by
 rcases xa0 (show xds k u=true from h) with ⟨i,t,rfl,rfl⟩ | ⟨x,t,rfl,rfl⟩
 ·exact ⟨t,rfl⟩
 ·exact ⟨t,rfl⟩
theorem xco {d:Addr} {o:Obj} {kvs:List (Key × V)} {ep:Nat} (I:Inv X pins σ H s) (e:H d=some (.frz o (.dK kvs))) (hep:∃ es,o.data=.dict es ep):∃ vs,KV kvs vs∧s.heap.DictAt (xab X.prog X.w) d vs ep:=by
 obtain ⟨g,_,_,vs,rel,o',es',ep',g',ex,hdat,hk,hp,hn⟩:=I.hok d _ e
 rw [g] at g'
 cases g'
 obtain ⟨es,he⟩:=hep
 rw [he] at hdat
 cases hdat
 exact ⟨vs,rel,o,_,g,ex,he,hk,hp,hn⟩
end
def Iti (d:Addr) (o:Obj) (kvs:List (Key × V)):It :=
 ⟨fun i H=>H d=some (.frz o (.dK kvs))∧i < kvs.length,fun i H v H'=>∃ p k x,kvs[i]?=some (k,x)∧v=.ref p∧H p=none∧H'=upd H p (.tup [kV k,x]),fun i H=>H d=some (.frz o (.dK kvs))∧kvs.length≤i⟩
theorem xjo {P:Program} {w:World} {K:PySem.W.Frag} {elts:List Expr} {x1} {tpos:Pos} (d it:Addr) (o:Obj) (kvs:List (Key × V)) (ep:Nat) (hep:∃ es,o.data=.dict es ep) :
    Turn P w K (.Tuple elts x1 tpos) (Iti d o kvs) [it] it (fun i h=>∃ ok ov,IsItemIter h it d i kvs.length ep ok ov) where
  mem:=by simp
  obj:=fun i h st b hb=>by
    have e:b=it:=by simpa using hb
    subst e
    obtain ⟨ok,ov,st⟩:=st
    exact ⟨_,st,fun v z=>by
      have z':Data.fields _=Data.cell v:=z
      cases z'⟩
  keep:=fun i h h' ⟨ok,ov,st⟩ k=>⟨ok,ov,k it (by simp) _ st⟩
  item:=by
    intro X hP hw hK hc i pins s σ H E I hf st hg
    subst hP hw hK
    obtain ⟨ok,ov,st⟩:=st
    obtain ⟨e,lt⟩:=hg
    obtain ⟨vs,rel,da⟩:=xco I e hep
    obtain ⟨f0,f1,f2,f3,f4,f5⟩:=hf it (by simp)
    have hl:kvs.length=vs.length:=rel.length
    obtain ⟨⟨k,x⟩,q⟩:∃ y,kvs[i]=y:=⟨_,rfl⟩
    have hx:kvs[i]?=some (k,x):=by rw [List.getElem?_eq_getElem lt,q]
    obtain ⟨u,hv,ru⟩:=rel.get hx
    rw [hl] at st
    refine wpAny_pyNext_items_item st da hv fun key h' hkey hout ht hz hkp=>?_
    refine ⟨_,rfl,wpAny_letOwnedTupleGo_items hout fun h'' hit' hsb=>?_⟩
    have kk:∀ b o,b≠it→s.heap.get? b=some o→h''.get? b=some o:=fun b o hb g=>(hsb.2 b hb).trans (hkp b o hb g)
    have I1:Inv X pins σ H { s with heap:=h'' }:=I.turned (t':=s.toks) kk f0 f1 f3 f4 f5
    obtain ⟨n0,nL,nC,nP⟩:=I.size_lt (Nat.le_refl s.heap.objs.size)
    have itlt:it < s.heap.objs.size:=Heap.lt_size st
    have pne:s.heap.objs.size≠it:=Nat.ne_of_gt itlt
    have hp:h''.get? s.heap.objs.size=some { cls:=.type "tuple",data:=.seq #[key,u] }:=(hsb.2 _ pne).trans ht
    refine ⟨.ref s.heap.objs.size,upd H s.heap.objs.size (.tup [kV k,x]),I1.adopt n0 I.sz nL nC nP ⟨by show 2≤sizeLine; decide,[key,u],.cons (xhu hkey) (.cons ru .nil),_,hp,rfl,_,rfl⟩,rfl,⟨_,k,x,hx,rfl,n0,rfl⟩,?_,fun b hb=>?_⟩
    · rw [← hl] at hit'
      exact ⟨_,_,hit'⟩
    · have e:b=it:=by simpa using hb
      subst e
      rw [xg (Ne.symm pne)]
      exact f0
  done:=by
    intro X hP hw hK hc i pins s σ H E I hf st hg
    subst hP hw hK
    obtain ⟨ok,ov,st⟩:=st
    obtain ⟨e,le⟩:=hg
    obtain ⟨vs,rel,da⟩:=xco I e hep
    obtain ⟨f0,f1,f2,f3,f4,f5⟩:=hf it (by simp)
    have hl:kvs.length=vs.length:=rel.length
    rw [hl] at st
    exact wpAny_pyNext_items_end (I.ok.hd hc) st da (by simpa using (by omega:vs.length≤i)) fun h' eb=>⟨rfl,I.turned (t':=s.toks) (fun b o hb e=>eb b o hb e) f0 f1 f3 f4 f5⟩
  self:=fun _ _ _ _ _ ⟨ok,ov,st⟩ h=>PySem.W.kcp_self st h
def xn1 (X:Cx) (to:TE):TI:=fun σ H R=>to σ H fun x H1=>∃ d kvs,x=.ref d∧H1 d=some (.dK kvs)∧∀ ob,(∀ o' u',X.H₀ d≠some (.frz o' u'))→R (Iti d ob kvs) (upd H1 d (.frz ob (.dK kvs)))
section
variable {X:Cx} {o:Expr} {to:TE} {elts:List Expr} {x1:_} {tpos apos cpos:Pos}
theorem xmi (ho:PE X o to) (hbase:attributeBase o "items" X.env (eval o X.env)=eval o X.env:=by rfl) (hline:(apos.endLine == cpos.line)=true:=by rfl) :
    PI X (.Tuple elts x1 tpos) (.Call (.Attribute o "items" apos) [] [] cpos) (xn1 X to):=by
  intro pins s σ H R I h
  refine wpAny_Call_method0_late hbase hline (thn (ho pins s σ H _ I h) fun v s1 ⟨x,H1,I1,r1,q1⟩=>?_)
  obtain ⟨d,kvs,e1,e,q⟩:=q1
  subst e1
  cases r1
  obtain ⟨z,hd,vs,rel,dd⟩:=xdq I1.hok e
  obtain ⟨ob,es,ep,g,ex,hdat,hk,hp,hn⟩:=id dd
  refine ⟨"dict", "dict.items",PySem.F.plainAttrs_dict,PySem.F.slot_dict_items,PySem.F.type_dict_items,dd.typeIs,fun a e2=>?_,Calls.callWith_builtin rfl (PySem.evalArgs_none ?_)⟩
  · cases e2
    exact ⟨ob,g,ex.2.1⟩
  refine call_meetsIn PySem.F.slot_dict_items dd.typeIs PySem.F.entry_dict_items (PySem.F.args_dict_items_1 _) (meets_dict_items (xab X.prog X.w) d hd) ⟨⟨vs,dd⟩,?_⟩
  have da:(s1.heap.push { cls:=.type "dict_items",data:=.fields #[.ref d] }).DictAt (xab X.prog X.w) d vs ep:=⟨ob,es,Heap.get?_push_of_some _ g,ex,hdat,hk,hp,hn⟩
  refine wpAny_pyIter_items (s:={ s1 with heap:=s1.heap.push { cls:=.type "dict_items",data:=.fields #[.ref d] } }) ⟨_,Heap.get?_push_size _ rfl,rfl,rfl⟩ da ?_
  have I2:Inv X pins σ H1 { s1 with heap:=s1.heap.push { cls:=.type "dict_items",data:=.fields #[.ref d] } }:=I1.kept (t':=s1.toks) fun b o e=>Heap.get?_push_of_some _ e
  generalize hs2:({ s1 with heap:=s1.heap.push { cls:=.type "dict_items",data:=.fields #[.ref d] } }:Shared)=s2 at I2
  have g2:s2.heap.get? d=some ob:=by rw [← hs2]; exact Heap.get?_push_of_some _ g
  have I3:Inv X pins σ (upd H1 d (.frz ob (.dK kvs))) s2:=I2.write (t':=s2.toks) (x:=d) (e:=d) (by rw [e]; exact True.intro) (.inl rfl) (fun b u _ q=>q) ⟨ob,g2⟩ ⟨g2,I2.hok d _ e⟩
  have I4:Inv X pins σ (upd H1 d (.frz ob (.dK kvs))) { s2 with heap:=s2.heap.push { cls:=.type "dict_itemiterator",data:=.fields #[.none,.bool false,.ref d,.int 0 0,.int vs.length 0,.int ep 0,.none,.none] } } :=
    I3.kept (t':=s2.toks) fun b o e=>Heap.get?_push_of_some _ e
  have fin:PIE X pins σ (.Tuple elts x1 tpos) R (.ref s2.heap.objs.size) { s2 with heap:=s2.heap.push { cls:=.type "dict_itemiterator",data:=.fields #[.none,.bool false,.ref d,.int 0 0,.int vs.length 0,.int ep 0,.none,.none] } }:=by
    refine ⟨s2.heap.objs.size,[s2.heap.objs.size],_,_,upd H1 d (.frz ob (.dK kvs)),rfl,I4,xjo d _ ob kvs ep ⟨es,hdat⟩,⟨.none,.none,?_⟩,fun b hb=>?_,q ob (I1.nofrz e)⟩
    · have hl:kvs.length=vs.length:=rel.length
      show IsItemIter _ _ d 0 kvs.length ep .none .none
      rw [hl]
      exact Heap.get?_push_size _ rfl
    · have eb:b=s2.heap.objs.size:=by simpa using hb
      subst eb
      exact I3.fpOk (Nat.le_refl _) (I3.hok.fresh (Nat.le_refl _))
  exact fin
theorem xml {pins:List (Addr × Obj)} {σ:St} {Q:VK} {u:Value} {s:Shared} (h:EP X pins σ (fun v H2=>∃ d ob u,H2 d=some (.frz ob u)∧(∀ o' u',X.H₀ d≠some (.frz o' u'))∧Q v (upd H2 d u)) u s):EP X pins σ Q u s:=by
 obtain ⟨v,H2,I2,r2,d,ob,u',e,nf,q⟩:=h
 exact ⟨v,_,I2.thaw e nf,r2,q⟩
theorem xfw {e:Expr} {t:TE} (h:PE X e t):PE X e (fun σ H Q=>t σ H fun v H2=>∃ d ob u,H2 d=some (.frz ob u)∧(∀ o' u',X.H₀ d≠some (.frz o' u'))∧Q v (upd H2 d u)):=fun pins s σ H Q I q =>
 thn (h pins s σ H _ I q) fun _ _ z=>xml z
end
end L2
set_option maxRecDepth 100000
namespace PySem.F
theorem xl_plain_dict_loop:plainId "dict.update.loop"=true:=by decide +kernel
theorem xl_entry_dict_loop:entryFor table "dict.update.loop"=some Builtin.«dict.update.loop»:=entryFor_of_tree (by kernel_rfl)
theorem xl_list_nokeys:typeLookup (.type "list") "keys"=pure none:=by rw [typeLookup_type,builtinLookup_eq_fast]; kernel_rfl
end PySem.F
namespace L2
open PySem PySem.Spec PyProof.Rows XL
variable {q0:Bool}
theorem xj7 {prog:Program} {w:World} {A:Around} {E:Value→Shared→Prop} {s:Shared} {a:Addr} {o:Obj} {xs:Array Value} {k:Nat} {Q:Option Value→Shared→Prop}
    (hx:s.heap.get? a=some o) (hc:o.cls=.type "list") (hdat:o.data=.seq xs k) (hd:o.dict=none) (hA:A.handled=none)
    (h:∀ h' tk,(∀ b o,s.heap.get? b=some o→h'.get? b=some o)→Q none { s with heap:=h',toks:=tk }):wpAny (model prog w) A (getAttr? (.ref a) "keys") Q E s:=by
  obtain ⟨c,dct,dat,sl⟩:=o
  simp only at hc hdat hd
  subst hc hdat hd
  obtain ⟨hp,g,d,tk,os⟩:=s
  have hT:∀ tk',(⟨hp,g,d,tk',os⟩:Shared).TypeIs (.ref a) "list":=fun _=>⟨_,hx,rfl⟩
  have f1:=sub_AttributeError
  have f3:=F.slot_list_getattribute.lookup
  have f4:=F.slot_list_getattribute.bind (.ref a)
  have f5:=am_list_getattr_none
  unfold getAttr? getAttrBy? getAttrBy
  repeat (any_goals (first | assumption | exact hT _ | ((with_reducible show wpAny _ _ (call (Value.builtin "list.__getattribute__") _ _) _ _ _); refine call_meets F.slot_list_getattribute (hT _) am_entry_list_getattribute (F.args_list_getattribute_2 _ _) (meets_getattribute_miss_list a xs k sl "keys" _ F.xl_list_nokeys (by decide +kernel) (by size_fits)) ⟨hx,hA,fun h' tk' e hx'=>?_⟩) | wp_step))
  obtain ⟨t',u',he⟩:=hx'.there
  have hk:=hx'.of.keeps
  show wpAny _ _ (getattributeRaised _ _ _ _ _ _ _) _ _ _
  unfold getattributeRaised
  repeat (any_goals (first | assumption | wp_step))
  exact h _ _ hk
section
variable {X:Cx} {pins:List (Addr × Obj)} {σ:St} {H:Hp} {s:Shared} {a:Addr} {y v:V} {u r:Value} {A:Around} {E:Value→Shared→Prop}
theorem xke {H':Hp} {Q:Unit→Shared→Prop} (hu:A.units < cLine) (I:Inv X pins σ H s) (g:DPut H a y v H') (ry:RelV y u) (rv:RelV v r) (h:∀ s',Inv X pins σ H' s'→Q () s') :
    wpAny (model X.prog X.w) A (dictSet a u r) Q E s:=by
  rcases g with ⟨kvs,k,e,ey,l,eH⟩ | ⟨kvs,k,b,e,ey,eb,l,eH⟩
  · subst ey eH
    obtain ⟨z,hd,vs,rel,dd⟩:=xdq I.hok e
    have hz:vs.length≤sizeLine:=by rw [← rel.length]; exact z
    have hl:(putK kvs k v).length≤sizeLine:=by have:=xbj kvs k v; omega
    refine wpAny_dictSet_pairs (hsz:=hz) (xcg ry) dd fun h' dd' hs=>h _ ?_
    have he:∃ q,h'.get? a=some q:=let ⟨q,_,_,hq,_⟩:=dd'; ⟨q,hq⟩
    exact xdi I (by rw [e]; exact True.intro) hs he (xic hl hd (rel.put k rv) dd')
  · subst ey eH
    cases (show u=Value.ref b from ry)
    obtain ⟨z,hd,xs,rel,dd⟩:=xmu I.hok e
    have hz:xs.length≤sizeLine:=by rw [← Paired.length rel]; exact z
    have hl:(putK kvs k v).length≤sizeLine:=by have:=xbj kvs k v; omega
    refine wpAny_dictSet_heap (hsz:=hz) (show (tupleKind (xab X.prog X.w)).room A from hu) (xda I.hok eb) dd fun h' dd' hs=>h _ ?_
    obtain ⟨q,es,ep,hq,h2,h3,h4,_,h5⟩:=dd'
    refine xdi I (by rw [e]; exact True.intro) hs ⟨q,hq⟩ ⟨hl,hd,_,(rel.put k eb rv).keeps fun c ys ec=>?_,q,es,ep,hq,h2,h3,h4,h5⟩
    rw [xg (x3 ec e (fun z=>nomatch z))]
    exact ec
theorem DPut.stay {d b:Addr} {H':Hp} {o:HO} (g:DPut H d y v H') (e:H b=some o) (n1:∀ kvs,o≠.dK kvs) (n2:∀ kvs,o≠.dT kvs):H' b=some o:=by
 rcases g with ⟨kvs,k,e2,_,_,rfl⟩ | ⟨kvs,k,b2,e2,_,_,_,rfl⟩
 ·rw [xg (x3 e e2 (n1 _))]
  exact e
 ·rw [xg (x3 e e2 (n2 _))]
  exact e
theorem DPut.free {d b:Addr} {H':Hp} (g:DPut H d y v H') (e:H b=none):H' b=none:=by
 rcases g with ⟨kvs,k,e2,_,_,rfl⟩ | ⟨kvs,k,b2,e2,_,_,_,rfl⟩
 ·rw [xg (Ne.symm (xk e2 e))]
  exact e
 ·rw [xg (Ne.symm (xk e2 e))]
  exact e
end
inductive xd0 (d:Addr):Hp→List (V × V)→Hp→Prop
 | nil {H:Hp}:xd0 d H [] H
 | cons {H H1 H2:Hp} {y v:V} {r:List (V × V)}:DPut H d y v H1→xd0 d H1 r H2→xd0 d H ((y,v) :: r) H2
theorem xe0 {X:Cx} {pins:List (Addr × Obj)} {σ:St} {A:Around} {R:Result→Shared→Prop} (hh:A.in1.handled=none) (hu:A.in1.units < cLine) {l it d:Addr} :
    ∀ (ps:List (Addr × V × V)) (pre:List V) (j:Int) (H H2:Hp) (s:Shared),Inv X pins σ H s→H l=some (.lst (pre ++ ps.map fun p=>.ref p.1))→(∀ p ∈ ps,H p.1=some (.tup [p.2.1,p.2.2]))→xd0 d H (ps.map (·.2)) H2 →
      s.heap.IsListIter it l pre.length→FpOk X pins H it→(∀ s',Inv X pins σ H2 s'→R (.ok (.ret .none)) s') →
      codeAny (model X.prog X.w) A (.builtin "dict.update.loop" ⟨[.ref d,.ref it,rawInt j,.none],[]⟩) R s
  | [],pre,j,H,H2,s,I,hl,hp,dp,st,fo,fin=>by
    cases dp
    obtain ⟨z,its,n,r,hl2,e⟩:=I.lstM hl
    obtain ⟨f0,f1,f2,f3,f4,f5⟩:=fo
    refine codeAny_builtin F.xl_entry_dict_loop ?_
    rw [Around.under_plainId F.xl_plain_dict_loop _]
    show wpAny _ A.in1 (pyNext (.ref it) >>= _) _ _ s
    refine wpAny_bind (wpAny_pyNext_list_end hh st ⟨_,e,rfl,_,rfl⟩ (by simp at hl2 ⊢; omega) fun h' eb=>?_)
    show wpAny _ A.in1 (Builtin.Dict.addKeywords d [] >>= _) _ _ _
    exact wpAny_bind (wpAny_pure (wpAny_pure (fin _ (I.turned (t':=s.toks) (fun b o hb e=>eb b o hb e) f0 f1 f3 f4 f5))))
  | (a,y,v) :: ps,pre,j,H,H2,s,I,hl,hp,dp,st,fo,fin=>by
    have fo':=fo
    obtain ⟨f0,f1,f2,f3,f4,f5⟩:=fo
    cases dp with
    | @cons _ H1 _ _ _ _ g dp =>
    obtain ⟨z,its,n,r,hl2,e⟩:=I.lstM hl
    obtain ⟨u,hu1,ru⟩:=r.get (i:=pre.length) (x:=.ref a) (by simp)
    obtain rfl:u=Value.ref a:=ru
    refine codeAny_builtin F.xl_entry_dict_loop ?_
    rw [Around.under_plainId F.xl_plain_dict_loop _]
    show wpAny _ A.in1 (pyNext (.ref it) >>= _) _ _ s
    refine wpAny_bind (wpAny_pyNext_list_item st ⟨_,e,rfl,_,rfl⟩ (x:=.ref a) (by simpa using hu1) fun h' st' sb=>?_)
    have I1:Inv X pins σ H { s with heap:=h' }:=I.turned (t':=s.toks) (fun b o hb e=>(sb.2 b hb).trans e) f0 f1 f3 f4 f5
    obtain ⟨z2,ts,rt,ot,et,ct,nt,dt⟩:=I1.hok a _ (hp _ List.mem_cons_self)
    obtain ⟨uk,uv,rfl,rk,rv⟩:=xg0 rt
    show wpAny _ A.in1 (holding [.ref a] _ >>= _) _ _ _
    refine wpAny_bind (wpAny_holding ?_)
    refine wpAny_bind (wpAny_tryCatch ?_)
    unfold Builtin.Dict.pairItems
    refine wpAny_bind (wpAny_typeOf (T:="tuple") ⟨ot,et,ct⟩ ?_)
    rw [if_pos (by decide)]
    refine wpAny_bind (wpAny_seqItems et dt (wpAny_pure ?_))
    show wpAny _ A.in1 (holding [uk,uv] (dictSet d uk uv)) _ _ _
    have ob:∀ b ∈ [it],∃ o,h'.get? b=some o∧∀ v,o.data≠.cell v:=fun b hb=>by
      have e:b=it:=by simpa using hb
      subst e
      obtain ⟨o,e,c,d⟩:=id st'
      exact ⟨o,e,fun v z=>by rw [d] at z; cases z⟩
    have I1':=I1.pinned (fp:=[it]) (fun b hb=>by
      have e:b=it:=by simpa using hb
      subst e
      exact fo') ob
    refine wpAny_holding (xke hu I1' g rk rv fun s' I2=>?_)
    refine wpAny_pure ⟨plainId_quiet F.xl_plain_dict_loop _,?_⟩
    have fo2:FpOk X pins H1 it:=⟨g.free f0,f1,f2,f3,f4,f5⟩
    have st2:s'.heap.IsListIter it l (pre ++ [V.ref a]).length:=by
      rw [List.length_append]
      exact st'.at fun o e=>(I2.pin (it,o) (List.mem_append_right _ (List.mem_append_right _ (xcb (by simp) e)))).1
    refine xe0 hh hu ps (pre ++ [V.ref a]) (j + 1) H1 H2 s' I2.unpinned ?_ (fun p hp'=>?_) dp st2 fo2 fin
    · have z:=g.stay hl (fun _ q=>nomatch q) (fun _ q=>nomatch q)
      rw [z]
      simp
    · exact g.stay (hp p (List.mem_cons_of_mem _ hp')) (fun _ q=>nomatch q) (fun _ q=>nomatch q)
def xnj:List V→Hp→VK→Prop:=fun xs H Q=>∃ (l:Addr) (ps:List (Addr × V × V)),xs=[.ref l]∧H l=some (.lst (ps.map fun p=>.ref p.1))∧(∀ p ∈ ps,H p.1=some (.tup [p.2.1,p.2.2])) ∧
 ∀ d,H d=none→∃ e H2,(e=.dK []∨e=.dT [])∧xd0 d (upd H d e) (ps.map (·.2)) H2∧Q (.ref d) H2
theorem xew {X:Cx} (hc:X.calm=true) (hu:X.A.units + 3 < cLine):xbs X (.type "dict") xnj:=by
 intro pins s σ H xs us Q I r h
 obtain ⟨l,ps,rfl,hl,hp,q⟩:=h
 obtain ⟨u,rfl,rx⟩:=xbz r
 obtain rfl:u=Value.ref l:=rx
 refine callType_codes (Q₁:=fun obj s₁=>obj=.ref s.heap.objs.size∧s₁={ s with heap:=s.heap.push { cls:=.type "dict",data:=.dict #[] } }) F.kt_called_dict (F.kt_typeCall_dict_1 _) F.entry_dict_init (kt_code_dict_new _ ⟨rfl,rfl⟩) ?_
 rintro obj s₁ ⟨rfl,rfl⟩
 obtain ⟨e,H2,he,dps,q2⟩:=q s.heap.objs.size I.fresh
 have I1:Inv X pins σ (upd H s.heap.objs.size e) { s with heap:=s.heap.push { cls:=.type "dict",data:=.dict #[] } }:=by
  refine I.laid (t':=s.toks) (fun b u e=>Heap.get?_push_of_some _ e) (Nat.le_refl _) ?_
  rcases he with rfl | rfl
  ·exact xe1 s.heap I.big
  ·exact xg8 s.heap I.big
 have hT:(Shared.mk (s.heap.push { cls:=.type "dict",data:=.dict #[] }) s.gens s.drawn s.toks s.os).TypeIs (.ref s.heap.objs.size) "dict":=⟨_,Heap.get?_push_size _ rfl,rfl⟩
 have nl:l≠s.heap.objs.size:=fun z=>by
  rw [z,I.fresh] at hl
  cases hl
 have hl1:upd H s.heap.objs.size e l=some (.lst (ps.map fun p=>.ref p.1)):=by rw [xg nl]; exact hl
 obtain ⟨z,its,n,rr,hll,el⟩:=I1.lstM hl1
 refine ⟨hT,F.args_dict_init_2 _ _,?_⟩
 unfold Builtin.«dict.__init__»
 refine wpAny_bind ?_
 unfold Builtin.Dict.selfAndRest
 refine wpAny_bind (wpAny_notOrdered_dict hT ?_)
 show wpAny _ _ (pure (s.heap.objs.size,[Value.ref l])) _ _ _
 refine wpAny_pure ?_
 show wpAny _ _ (Builtin.Dict.updateFrom "dict.__init__" s.heap.objs.size (.ref l) [] .none) _ _ _
 unfold Builtin.Dict.updateFrom
 refine wpAny_bind (wpAny_typeOf (T:="list") ⟨_,el,rfl⟩ ?_)
 rw [if_pos (by decide)]
 refine wpAny_bind (xj7 el rfl rfl rfl (I.ok.hd hc) fun h' tk hk=>?_)
 have I2:=I1.kept (h':=h') (t':=tk) hk
 show wpAny _ _ (rule _ >>= _) _ _ _
 refine wpAny_bind (wpAny_rule ?_)
 refine wpAny_bind (wpAny_pyIter_list ⟨_,hk _ _ el,rfl,_,rfl⟩ ?_)
 refine wpAny_pure ⟨plainId_quiet F.xl_plain_dict_loop _,?_⟩
 have I3:Inv X pins σ (upd H s.heap.objs.size e) _:=I2.kept (t':=tk) (h':=h'.push { cls:=.type "list_iterator",data:=.fields #[.ref l,.int 0 0] }) fun b o e=>Heap.get?_push_of_some _ e
 refine xe0 (A:=X.A.in1) (I.ok.hd hc) (by show X.A.units + 1 + 1 < cLine; omega) ps [] 0 _ H2 _ I3 (by simpa using hl1) (fun p hp'=>?_) dps ?_ ?_ fun s' I'=>?_
 ·rw [xg (xk (hp p hp') I.fresh)]
  exact hp p hp'
 ·exact ⟨_,Heap.get?_push_size _ rfl,rfl,rfl⟩
 ·exact I2.fpOk (Nat.le_refl _) (I2.hok.fresh (Nat.le_refl _))
 ·exact ⟨rfl,⟨.ref _,H2,I',rfl,q2⟩⟩
end L2
set_option maxRecDepth 100000
namespace L2
open PySem PySem.Spec PyProof.Rows XL
variable {q0:Bool}
theorem xed {X:Cx} {e:Expr} {t1 t2:TE} (h1:PE X e t1) (h2:PE X e t2):PE X e (fun σ H Q=>t1 σ H Q∨t2 σ H Q):=fun pins s σ H Q I h=>h.elim (h1 pins s σ H Q I) (h2 pins s σ H Q I)
def Itrs (lo d:Int) (n:Nat):It:=⟨fun i _=>i < n,fun i H x H'=>H'=H∧x=.int (lo + (i:Int) * d),fun i _=>n≤i⟩
theorem xig {P:Program} {w:World} {K:PySem.W.Frag} {tg:Expr} (it:Addr) (lo d:Int) (n:Nat):Turn P w K tg (Itrs lo d n) [it] it (fun i h=>IsRangeIter h it (lo + (i:Nat) * d) ((n:Int) - (i:Nat)) d) where
 mem:=by simp
 obj:=fun i h st b hb=>by
  have e:b=it:=by simpa using hb
  subst e
  exact ⟨_,st,fun v z=>by
   have z':Data.fields _=Data.cell v:=z
   cases z'⟩
 keep:=fun i h h' st k=>k it (by simp) _ st
 item:=by
  intro X hP hw hK hc i pins s σ H E I hf st hg
  subst hP hw hK
  obtain ⟨f0,f1,f2,f3,f4,f5⟩:=hf it (by simp)
  have W:=Walks.range (prog:=X.prog) (w:=X.w) (I.ok.hd hc) it lo d n
  refine W.item i s _ _ hg st fun v h' tk hv st' kk=>?_
  obtain ⟨t,rfl⟩:=hv
  have I1:Inv X pins σ H { s with heap:=h',toks:=tk }:=I.turned (fun b o hb e=>kk b o (by simpa using hb) e) f0 f1 f3 f4 f5
  exact ⟨_,rfl,xfg (s:={ s with heap:=h',toks:=tk }) (n:="range_iterator") st' rfl rfl (by decide) ⟨.int (lo + (i:Int) * d),H,I1,⟨t,rfl⟩,⟨rfl,rfl⟩,st',fun b hb=>(hf b hb).1⟩⟩
 done:=by
  intro X hP hw hK hc i pins s σ H E I hf st hg
  subst hP hw hK
  obtain ⟨f0,f1,f2,f3,f4,f5⟩:=hf it (by simp)
  exact wpAny_pyNext_range_end (I.ok.hd hc) st (by have:n≤i:=hg; omega) fun h' eb=>⟨rfl,I.turned (t':=s.toks) (fun b o hb e=>eb b o hb e) f0 f1 f3 f4 f5⟩
 self:=fun _ _ _ _ _ st h=>wpAny_pyIter_rangeiter st h
theorem xdk (a b:Int):Builtin.Range.rangeSize a b (-1)=if b < a then a - b else 0:=by
 unfold Builtin.Range.rangeSize
 rw [if_neg (by decide)]
 simp only [Int.neg_neg,Int.ediv_one]
 split <;> omega
theorem xj4 {a b:Int} (ha:-(2 ^ 62)≤a) (ha':a < 2 ^ 62) (hb:-(2 ^ 62)≤b) (hb':b < 2 ^ 62):Builtin.Range.small a b (-1)=true:=by
 unfold Builtin.Range.small
 rw [xdk]
 simp only [Builtin.Range.rangeFitsLong,Bool.and_eq_true,Bool.or_eq_true,decide_eq_true_eq,beq_iff_eq,show ¬ ((-1:Int) > 0) by decide,if_false]
 split <;> omega
section
variable {X:Cx} {tg:Expr}
theorem xf5 {pins:List (Addr × Obj)} {σ:St} {H:Hp} {s:Shared} {R:It→Hp→Prop} {E:Value→Shared→Prop} {lo hi d:Int} {n:Nat} {t u v:Tok} {tk:Nat} (I:Inv X pins σ H s) (sm:Builtin.Range.small lo hi d=true) (sz:Builtin.Range.rangeSize lo hi d=n)
    (q:R (Itrs lo d n) H):wpAny (model X.prog X.w) X.A (pyIter (.ref s.heap.objs.size)) (PIE X pins σ tg R) E { s with heap:=s.heap.push { cls:=.type "range",data:=.fields #[.int lo t,.int hi u,.int d v] },toks:=tk }:=by
  refine wpAny_pyIter_range (IsRange.new ..) sm ?_
  have I1:Inv X pins σ H { s with heap:=s.heap.push { cls:=.type "range",data:=.fields #[.int lo t,.int hi u,.int d v] },toks:=tk }:=I.kept fun b o e=>Heap.get?_push_of_some _ e
  refine ⟨(s.heap.push { cls:=.type "range",data:=.fields #[.int lo t,.int hi u,.int d v] }).objs.size,[(s.heap.push { cls:=.type "range",data:=.fields #[.int lo t,.int hi u,.int d v] }).objs.size],_,_,H,rfl,
    I1.kept (t':=tk) fun b o e=>Heap.get?_push_of_some _ e,xig _ lo d n,?_,fun b hb=>?_,q⟩
  · have e1:lo + ((0:Nat):Int) * d=lo:=by simp
    have e2:((n:Nat):Int) - ((0:Nat):Int)=Builtin.Range.rangeSize lo hi d:=by rw [sz]; simp
    show IsRangeIter _ _ (lo + ((0:Nat):Int) * d) (((n:Nat):Int) - ((0:Nat):Int)) d
    rw [e1,e2]
    exact Heap.get?_push_size _ rfl
  · have e:b=(s.heap.push { cls:=.type "range",data:=.fields #[.int lo t,.int hi u,.int d v] }).objs.size:=by simpa using hb
    subst e
    exact I1.fpOk (Nat.le_refl _) (I1.hok.fresh (Nat.le_refl _))
def xqi (ta:TA):TI:=fun σ H R=>ta σ H fun vs H1=>∃ i j d:Int,vs=[.int i,.int j,.int d]∧(-(2 ^ 62)≤i∧i < 2 ^ 62∧-(2 ^ 62)≤j∧j < 2 ^ 62)∧((d=1∧R (Itrs i 1 (j - i).toNat) H1)∨(d=-1∧R (Itrs i (-1) (i - j).toNat) H1))
theorem xf7 {a b c:Expr} {ta:TA} {p pos:Pos} (hg:Gl X "range") (hm:X.mg "range"=none) (ha:PA X [a,b,c] ta) (hs:starEach [a,b,c] X.env=[(false,eval a X.env),(false,eval b X.env),(false,eval c X.env)]:=by rfl) (hs2:starEach [b,c] X.env=[(false,eval b X.env),(false,eval c X.env)]:=by rfl) :
    PI X tg (.Call (.Name "range" p) [a,b,c] [] pos) (xqi ta):=by
  intro pins s σ H R I h
  refine Call_ (xb1 I hg hm boot_range (PyProof.Rows.callWith_type1 (thn (ha pos pins s σ H _ I h) fun us s1 ⟨vs,H1,I1,r1,q1⟩=>?_) (by rw [hs,hs2]) (by rw [hs2]; rfl)))
  obtain ⟨i,j,d,e,⟨q1,q2,q3,q4⟩,q⟩:=q1
  subst e
  cases r1 with
  | cons r rr =>
    cases rr with
    | cons r' rr =>
      cases rr with
      | cons r'' rr =>
        cases rr
        obtain ⟨t,rfl⟩:=r
        obtain ⟨t',rfl⟩:=r'
        obtain ⟨t'',rfl⟩:=r''
        rcases q with ⟨rfl,q⟩ | ⟨rfl,q⟩
        · exact call_range_3 (by decide) (xf5 I1 (small_one q1 q2 q3 q4) (by rw [rangeSize_one]; split <;> omega) q) (Or.inl (PyProof.noPylong_small (by decide)))
        · exact call_range_3 (by decide) (xf5 I1 (xj4 q1 q2 q3 q4) (by rw [xdk]; split <;> omega) q) (Or.inl (PyProof.noPylong_small (by decide)))
end
theorem xer {xs:List V} {us:List Value} (r:Vals xs us) {j:Nat} (h:j < us.toArray.size):∃ x,xs[j]?=some x∧RelV x us.toArray[j]:=by
 have hl:=r.length
 have hj:j < xs.length:=by simp at h; omega
 obtain ⟨u,h1,h2⟩:=r.get (x:=xs[j]) (List.getElem?_eq_getElem hj)
 refine ⟨xs[j],List.getElem?_eq_getElem hj,?_⟩
 have:us.toArray[j]=u:=by
  have z:=List.getElem?_eq_some_iff.mp h1
  obtain ⟨z1,z2⟩:=z
  simpa using z2
 rw [this]
 exact h2
section
variable {X:Cx} {pins:List (Addr × Obj)} {σ:St} {H:Hp} {s:Shared}
end
theorem xj8 {A:Around} {k:Nat} (hr:Room q0 k A):A.units + 3 < cLine:=by have:=hr.un; omega
theorem xdh {A:Around} {k:Nat} (hr:Room q0 k A):A.units + 20 < cLine:=by have:=hr.un; omega
theorem xk4 {X:Cx}:xbs X (.builtin "len") (fun xs H Q=>∃ a kvs,xs=[.ref a]∧H a=some (.dK kvs)∧Q (.int kvs.length) H):=by
 intro pins s σ H xs us Q I r h
 obtain ⟨a,kvs,rfl,e,q⟩:=h
 obtain ⟨u,rfl,rx⟩:=xbz r
 obtain rfl:u=Value.ref a:=rx
 exact xp8 I (.inl e) fun t s' I'=>⟨.int _,H,I',⟨t,rfl⟩,q⟩
inductive Ents (w:World):List DictEntry→List (Key × V)→Prop
 | nil:Ents w [] []
 | cons {k:Key} {x:V} {key val:Value} {h:Int} {es:List DictEntry} {kvs:List (Key × V)} (hh:h=keyH w k) (hk:RelV (kV k) key) (hv:RelV x val) (r:Ents w es kvs):Ents w (⟨h,key,val⟩ :: es) ((k,x) :: kvs)
def xjn (w:World) (K:PySem.W.Frag) (D:Addr) (kvs:List (Key × V)):Prop:=(D == sysModules)=false∧∃ (es:Array DictEntry) (ep:Nat),K.lookup D=some ⟨.type "dict",none,.dict es ep,#[]⟩∧Ents w es.toList kvs∧(kvs.map (·.1)).Nodup
theorem Ents.ok {P:Program} {w:World} {es:List DictEntry} {kvs:List (Key × V)} (h:Ents w es kvs):∃ vs,KV kvs vs∧Pairs (xab P w) es vs∧∀ e ∈ es,∃ k,(xab P w).is k e.key=true∧e.hash=(xab P w).hash k:=by
 induction h with
 | nil=>exact ⟨[],.nil,.nil,fun e z=>nomatch z⟩
 | @cons k x key val h es kvs hh hk hv _ ih =>
  obtain ⟨vs,a,b,c⟩:=ih
  refine ⟨(k,val) :: vs,.cons ⟨rfl,hv⟩ a,.cons (xcg hk) rfl b,fun e he=>?_⟩
  rcases List.mem_cons.mp he with rfl | z
  ·exact ⟨k,xcg hk,hh⟩
  ·exact c e z
section
variable {X:Cx} {pins:List (Addr × Obj)} {σ:St} {H:Hp} {s:Shared} {D:Addr} {kvs:List (Key × V)}
theorem xly (I:Inv X pins σ H s) (g:xjn X.w X.K D kvs):∃ vs,KV kvs vs∧s.heap.DictOf (xab X.prog X.w) D vs:=by
 obtain ⟨_,es,ep,l,en,nd⟩:=g
 obtain ⟨vs,a,b,c⟩:=en.ok (P:=X.prog)
 refine ⟨vs,a,_,es,ep,I.kIn _ _ l,⟨rfl,rfl,rfl⟩,rfl,fun e he=>c e (by simpa using he),b,?_⟩
 rw [← a.keys]
 exact nd
def tGIn (kvs:List (Key × V)) (neg:Bool) (ty:TE):TE:=fun σ H Q=>ty σ H fun y H1=>∃ k:Key,y=kV k∧Q (.bl (if neg then !(valV kvs k).isSome else (valV kvs k).isSome)) H1
theorem xkb {i:Expr} {ty:TE} {x:Str} {p:Pos} (hi:PE X i ty) (hg:Gl X x) (hm:X.mg x=some (.ref D)) (g:xjn X.w X.K D kvs) (hd:(x == ("__debug__":Str))=false:=by decide):PC X .NotIn i (.Name x p) (tGIn kvs true ty):=by
 intro pins s σ H Q I h
 refine thn (hi pins s σ H _ I h) fun iv s1 ⟨y,H1,I1,ry,k,ey,q1⟩=>thn (xel (v:=.ref D) hg hm rfl hd pins s1 σ H1 (fun v H2=>v=.ref D∧H2=H1) I1 ⟨rfl,rfl⟩) fun u s2 ⟨x,H2,I2,rx,e1,e2⟩=>?_
 subst ey e1 e2
 obtain rfl:u=Value.ref D:=rx
 obtain ⟨vs,rel,dd⟩:=xly I2 g
 refine wpAny_notIn_of (xcg ry) g.1 dd.mapOf ?_
 rw [← (rel.val k).isSome_eq]
 exact ⟨.bl _,_,I2.tok _,rfl,q1⟩
end
end L2
set_option maxRecDepth 100000
namespace L2
open PySem PySem.Spec PyProof.Rows XL
variable {q0:Bool}
theorem xey {ns:List Int} {f:Nat→Int} (h:∀ j (l:j < ns.length),f j=ns[j]):∀ j,j≤ns.length→preSum f j=(ns.take j).sum:=by
 intro j
 induction j with
 | zero=>intro _; rfl
 | succ j ih =>
  intro l
  have l':j < ns.length:=l
  show preSum f j + f j=_
  rw [ih (Nat.le_of_lt l'),h j l',List.take_add_one,List.getElem?_eq_getElem l',List.sum_append]
  simp
theorem xn0 {ns:List Int} (B:Int) (hb:∀ n ∈ ns,-B≤n∧n≤B) (h0:0≤B):-(ns.length * B)≤ns.sum∧ns.sum≤ns.length * B:=by
 induction ns with
 | nil=>simp
 | cons a r ih =>
  have:=ih fun n hn=>hb n (List.mem_cons_of_mem _ hn)
  have:=hb a List.mem_cons_self
  rw [List.sum_cons,List.length_cons]
  have e:((r.length + 1:Nat):Int) * B=r.length * B + B:=by rw [Int.natCast_add,Int.add_mul]; simp
  rw [e]
  omega
def xp2 (K:PySem.W.Frag):List V→Hp→VK→Prop:=fun xs H Q=>∃ (p:Addr) (ns:List Int),xs=[.ref p]∧SqL K H p (ns.map V.int)∧(ns.length≤1000∧∀ n ∈ ns,-1000000≤n∧n≤1000000)∧Q (.int ns.sum) H
theorem xeb {X:Cx} (hc:X.calm=true):xbs X (.builtin "sum") (xp2 X.K):=by
 intro pins s σ H xs us Q I r h
 obtain ⟨p,ns,rfl,hs,⟨hlen,hb⟩,q⟩:=h
 obtain ⟨u,rfl,rx⟩:=xbz r
 obtain rfl:u=Value.ref p:=rx
 obtain ⟨its,vi,⟨o,n,g,c,_,d⟩,_⟩:=I.list hs
 have hi:IntsAre its ns:=xj0 vi
 have il:s.heap.IsList p its.toArray:=⟨o,g,c,n,d⟩
 obtain ⟨zs,e⟩:=hi.allInts.items
 have en:ns=zs.toList.map (·.1):=by rw [← hi.numsOf,← nums_intItems,← e]
 rw [e] at il
 have sz:zs.size=ns.length:=by rw [en,List.length_map,Array.length_toList]
 have hat:∀ j (l:j < ns.length),numAt zs j=ns[j]:=fun j l=>by
  rw [numAt_eq,← en]
  simp [List.getD,l]
 have bd:∀ j,j≤ns.length→InLong (ns.take j).sum:=fun j l=>by
  have:=xn0 1000000 (ns:=ns.take j) (fun n hn=>hb n (List.mem_of_mem_take hn)) (by decide)
  have hl:(ns.take j).length≤1000:=by rw [List.length_take]; omega
  unfold InLong
  omega
 refine sum_intList (I.ok.hd hc) il (fun j hj=>⟨?_,?_⟩) fun h' tk t' hk=>?_
 ·rw [hat j (by omega)]
  have:=hb ns[j] (List.getElem_mem _)
  unfold InLong
  omega
 ·rw [xey hat (j + 1) (by omega)]
  exact bd _ (by omega)
 ·refine ⟨.int _,H,I.kept hk,⟨t',rfl⟩,?_⟩
  rw [sz,xey hat _ (Nat.le_refl _),List.take_length]
  exact q
end L2
set_option maxRecDepth 100000
namespace L2
open PySem PySem.Spec PyProof.Rows XL
variable {q0:Bool}
section
variable {X:Cx} {pins:List (Addr × Obj)} {σ:St} {H:Hp} {s:Shared} {h':Heap}
theorem Inv.turnedL {t':Nat} {ch:List Addr} (I:Inv X pins σ H s) (k:∀ b o,b ∉ ch→s.heap.get? b=some o→h'.get? b=some o) (hf:∀ b ∈ ch,FpOk X pins H b):Inv X pins σ H { s with heap:=h',toks:=t' }:=by
 have nit:∀ b u,H b=some u→b ∉ ch:=fun b u e z=>by
  have:=(hf b z).1
  rw [this] at e
  cases e
 refine I.step (g':=s.gens) (d':=s.drawn) (ch:=ch) (fun b hb=>?_) (fun b o _ _ hc e _=>k b o hc e) (fun b o _ _ hc e _=>⟨o.slots,k b o hc e⟩) (fun _ _ _ _ n=>n)
  (fun b o hc e=>⟨o,k b o hc e⟩) (fun _ _ e=>e) (fun _ _ _ e=>e) (fun b ps e=>⟨#[],by rw [e]; simp⟩) (fun m hm=>?_) (fun b u e=>?_) I.bare
 ·obtain ⟨f0,f1,f2,f3,f4,f5⟩:=hf b hb
  exact ⟨f3,f1,f4,f5⟩
 ·obtain ⟨o,es,ep,ho,r⟩:=hm
  exact ⟨o,es,ep,k _ o (fun z=>(hf _ z).2.1 rfl) ho,r⟩
 ·refine (I.hok b u e).stay (fun c v hc q=>k c v ?_ q) (fun _ q=>q) fun _ _ q=>q
  rcases hc with z | z
  ·rw [z]; exact nit b u e
  ·exact nit c _ z
end
section
variable {X:Cx} {tg:Expr}
end
theorem xka {a b:Nat} (h:a≠b):(a:Addr)≠(b:Addr):=h
section
variable {X:Cx} {elts:List Expr} {x1:_} {tpos:Pos}
end
end L2
set_option maxRecDepth 100000
namespace L2
open PySem PySem.Spec PyProof.Rows XL
variable {q0:Bool}
def Ite (K:PySem.W.Frag) (a:Addr):It :=
 ⟨fun i H=>∃ xs x,SqL K H a xs∧xs[i]?=some x,fun i H v H'=>∃ p x,(∀ xs,SqL K H a xs→xs[i]?=some x)∧v=.ref p∧H p=none∧H'=upd H p (.tup [.int i,x]),fun i H=>∃ xs,SqL K H a xs∧xs.length≤i⟩
theorem xld {P:Program} {w:World} {K:PySem.W.Frag} {elts:List Expr} {x1} {tpos:Pos} (e it l:Addr) (hei:e≠it) :
    Turn P w K (.Tuple elts x1 tpos) (Ite K l) [e,it] e (fun i h=>(∃ old,IsEnum h e it i old)∧h.IsListIter it l i) where
  mem:=by simp
  obj:=fun i h st b hb=>by
    obtain ⟨⟨old,he⟩,⟨o1,e1,c1,d1⟩⟩:=st
    simp only [List.mem_cons,List.not_mem_nil,or_false] at hb
    rcases hb with rfl | rfl
    · exact ⟨_,he,fun v k=>by have k':Data.fields _=Data.cell v:=k; cases k'⟩
    · exact ⟨_,e1,fun v k=>by rw [d1] at k; cases k⟩
  keep:=fun i h h' ⟨⟨old,he⟩,h1⟩ k=>⟨⟨old,k e (by simp) _ he⟩,h1.at fun o z=>k it (by simp) o z⟩
  item:=by
    intro X hP hw hK hc i pins s σ H E I hf st hg
    subst hP hw hK
    obtain ⟨xs,x,hq,hx⟩:=hg
    obtain ⟨its,rv,p,hz1⟩:=I.list hq
    obtain ⟨u,hu,ru⟩:=rv.get hx
    obtain ⟨⟨old,he⟩,h1⟩:=id st
    refine wpAny_pyNext_enum_item he h1 p.isList (x:=u) (by simpa using hu) hei fun h' ho hit' hT hsz hk=>?_
    refine ⟨_,rfl,wpAny_letOwnedTupleGo_enum (s:={ s with heap:=h',toks:=s.toks + 1 }) ho fun h'' he' hs'=>?_⟩
    have elt:e < s.heap.objs.size:=Heap.lt_size he
    have pne:s.heap.objs.size≠e:=Nat.ne_of_gt elt
    have kk:∀ b o,b ∉ [e,it]→s.heap.get? b=some o→h''.get? b=some o:=fun b o hb g=>by
      simp only [List.mem_cons,List.not_mem_nil,or_false,not_or] at hb
      exact (hs'.2 b hb.1).trans (hk b o hb.1 hb.2 g)
    have I1:Inv X pins σ H { s with heap:=h'',toks:=s.toks + 1 }:=I.turnedL kk hf
    obtain ⟨n0,nL,nC,nP⟩:=I.size_lt (Nat.le_refl s.heap.objs.size)
    have hp:h''.get? s.heap.objs.size=some { cls:=.type "tuple",data:=.seq #[.int i s.toks,u] }:=(hs'.2 _ pne).trans hT
    refine ⟨.ref s.heap.objs.size,upd H s.heap.objs.size (.tup [.int i,x]),I1.adopt n0 I.sz nL nC nP ⟨by show 2≤sizeLine; decide,[.int i s.toks,u],.cons ⟨_,rfl⟩ (.cons ru .nil),_,hp,rfl,_,rfl⟩,rfl,
      ⟨_,x,fun zs hz=>by rw [I.list_inj hz hq]; exact hx,rfl,n0,rfl⟩,?_,fun b hb=>?_⟩
    · exact ⟨⟨_,by simpa using he'⟩,hit'.at fun o y=>(hs'.2 it (Ne.symm hei)).trans y⟩
    · obtain ⟨o,ho⟩:∃ o,s.heap.get? b=some o:=by
        obtain ⟨o1,e1,c1,d1⟩:=h1
        simp only [List.mem_cons,List.not_mem_nil,or_false] at hb
        rcases hb with rfl | rfl
        · exact ⟨_,he⟩
        · exact ⟨_,e1⟩
      rw [xg (Nat.ne_of_lt (Heap.lt_size ho))]
      exact (hf b hb).1
  done:=by
    intro X hP hw hK hc i pins s σ H E I hf st hg
    subst hP hw hK
    obtain ⟨xs,hq,hl⟩:=hg
    obtain ⟨its,rv,p,hz1⟩:=I.list hq
    have e1:=rv.length
    obtain ⟨⟨old,he⟩,h1⟩:=id st
    refine wpAny_pyNext_enum_end (I.ok.hd hc) he h1 p.isList (by simp; omega) fun h' hx=>⟨rfl,I.turnedL (t':=s.toks) (fun b o hb g=>?_) hf⟩
    simp only [List.mem_cons,List.not_mem_nil,or_false,not_or] at hb
    exact hx b o hb.2 g
  self:=fun _ _ _ _ _ ⟨⟨_,st⟩,_⟩ h=>wpAny_pyIter_enum st h
def xps (K:PySem.W.Frag) (ta:TA):TI:=fun σ H R=>ta σ H fun vs H1=>∃ a xs,vs=[.ref a]∧SqL K H1 a xs∧R (Ite K a) H1
section
variable {X:Cx} {elts:List Expr} {x1:_} {tpos:Pos}
theorem xec {a:Expr} {ta:TA} {p pos:Pos} (hg:Gl X "enumerate") (hm:X.mg "enumerate"=none) (ha:PA X [a] ta) (hs:starEach [a] X.env=[(false,eval a X.env)]:=by rfl) :
    PI X (.Tuple elts x1 tpos) (.Call (.Name "enumerate" p) [a] [] pos) (xps X.K ta):=by
  intro pins s σ H R I h
  refine Call_ (xb1 I hg hm PyProof.Rows.Boot.«enumerate» (PyProof.Rows.callWith_type1 (thn (ha pos pins s σ H _ I h) fun us s1 ⟨vs,H1,I1,r1,q1⟩=>?_) hs rfl))
  obtain ⟨l,xs,e,hq,q⟩:=q1
  subst e
  obtain ⟨u,rfl,ru⟩:=xbz r1
  obtain rfl:u=Value.ref l:=ru
  obtain ⟨its,rv,p1,hz1⟩:=I1.list hq
  refine call_enumerate_list p1.isList fun h' he h1 hsz hk=>?_
  refine wpAny_pyIter_enum (s:={ s1 with heap:=h' }) he ?_
  have I2:Inv X pins σ H1 { s1 with heap:=h' }:=I1.kept (t':=s1.toks) hk
  refine ⟨_,[s1.heap.objs.size + 1,s1.heap.objs.size],_,_,H1,rfl,I2,xld _ _ l (xka (by omega)),⟨⟨_,he⟩,h1⟩,fun b hb=>?_,q⟩
  have hb':s1.heap.objs.size≤b:=by
    simp only [List.mem_cons,List.not_mem_nil,or_false] at hb
    rcases hb with rfl | rfl
    · exact Nat.le_add_right _ 1
    · exact Nat.le_refl _
  exact I1.fpOk hb' (I1.hok.fresh hb')
end
theorem xhd {K:PySem.W.Frag} {a:Addr} {xs:List V} {g:TG} {tb:TS} {D:Ends} {σ:St} {H:Hp} (Pv:Nat→St→Hp→Prop) (h0:Pv 0 σ H) (hl:∀ i σ H,i≤xs.length→Pv i σ H→SqL K H a xs)
    (hs:∀ i x p σ H,xs[i]?=some x→H p=none→Pv i σ H→g (.ref p) σ (upd H p (.tup [.int i,x])) fun σ2 H2=>tb { D with nx:=Pv (i + 1),ct:=Pv (i + 1),bk:=D.nx } σ2 H2) (hd:∀ σ H,Pv xs.length σ H→D.nx σ H) :
    ∃ W:Nat→Nat→St→Hp→Prop,(∃ m,W 0 m σ H)∧∀ i m σ H,W i m σ H →
      ((Ite K a).stop i H∧D.nx σ H)∨((Ite K a).go i H∧∃ N:St→Hp→Prop,(∀ σ' H',N σ' H'→∃ m',m' < m∧W (i + 1) m' σ' H')∧∀ x H',(Ite K a).yld i H x H'→g x σ H' fun σ2 H2=>tb { D with nx:=N,ct:=N,bk:=D.nx } σ2 H2):=by
  refine ⟨fun i m σ H=>m=xs.length - i∧i≤xs.length∧Pv i σ H,⟨xs.length,by simp,Nat.zero_le _,h0⟩,?_⟩
  rintro i m σ H ⟨rfl,hi,p⟩
  have q:=hl i σ H hi p
  by_cases hlt:i < xs.length
  · refine .inr ⟨⟨xs,xs[i],q,by simp [hlt]⟩,Pv (i + 1),fun σ' H' p'=>⟨xs.length - (i + 1),by omega,rfl,hlt,p'⟩,fun x H' y=>?_⟩
    obtain ⟨r,x',e1,rfl,hr,rfl⟩:=y
    exact hs i x' r σ H (e1 _ q) hr p
  · have e:i=xs.length:=by omega
    subst e
    exact .inl ⟨⟨xs,q,Nat.le_refl _⟩,hd σ H p⟩
end L2
namespace L2
open PySem PySem.Spec PyProof.Rows XL
end L2
set_option maxRecDepth 100000
namespace L2
open PySem PySem.Spec PyProof.Rows XL
def tMid (t:TS):TS:=fun D σ H=>∃ Pv:St→Hp→Prop,t { D with nx:=Pv } σ H∧∀ σ' H',Pv σ' H'→D.nx σ' H'
theorem xfm {X:Cx} {st:Stmt} {t:TS} (h:PS X st t):PS X st (tMid t):=by
 intro pins s σ H D I q
 obtain ⟨Pv,q1,q2⟩:=q
 refine thn (h pins s σ H { D with nx:=Pv } I q1) fun fl s1 z=>?_
 cases fl with
 | next =>
  obtain ⟨σ',H',I',r⟩:=z
  exact ⟨σ',H',I',q2 _ _ r⟩
 | _=>exact z
end L2
set_option maxRecDepth 100000
namespace XL
open PySem PySem.W
section
variable {prog:Program} {w:World} {A:Around} {E:Value→Shared→Prop} {h:Heap} {g:Array GenState} {d:Drawn} {t:Nat} {os:OsState}
variable {nm qn:Str} {C N:Addr} {bs bm bmB:List Value} {hz:Bool} {sn:List Str} {sub:List Value} {ab:Bool} {col:Option Bool} {dd:Option Addr} {k0 k1 k2 k3 k5:Option Value} {B ni ii:String}
end
end XL
namespace L2
open PySem PySem.Spec PyProof.Rows XL
variable {q0:Bool}
section
variable {X:Cx} {C:Addr} {x:Str} {p pos:Pos}
end
section
variable {X:Cx} {pos np hpos np1 np2 hpos1 hpos2:Pos} {body hbody hbody1 hbody2:List Stmt} {b0 b1 b2:Stmt} {cx cx1 cx2 n:Str} {C0 C1 C2:Addr} {j:Nat} {E:St→XK} {tb th th1 th2:TS} {rest:List ExceptHandler}
end
end L2
set_option maxRecDepth 100000
namespace L2
open PySem PySem.Spec PyProof.Rows XL
section
variable {X:Cx} {a b c d:Expr} {ta tb tc td:TE} {pos:Pos}
end
end L2
set_option maxRecDepth 100000
set_option maxHeartbeats 4000000
namespace L2
open PySem PySem.Calls PyProof PyProof.Rows
def eU (e:V→Bool) (u:Value):Bool:=match absV u with | some y=>e y | none=>false
theorem xjh {e:V→Bool} {y:V} {u:Value} (r:RelV y u):eU e u=e y:=by unfold eU; rw [r.abs]
theorem xhc {e:V→Bool}:∀ {xs:List V} {us:List Value},Vals xs us→us.any (eU e)=xs.any e
 | _,_,.nil=>rfl
 | y :: xs,u :: us,.cons r t=>by rw [List.any_cons,List.any_cons,xjh r,xhc t]
theorem xft:∀ {xs:List V} {us:List Value},Vals xs us→∀ u ∈ us,∃ y ∈ xs,RelV y u
 | _,_,.nil=>fun u hu=>nomatch hu
 | y :: xs,u :: us,.cons r t=>fun u' hu=>by
  rcases List.mem_cons.mp hu with rfl | hu
  ·exact ⟨y,List.mem_cons_self,r⟩
  ·obtain ⟨z,h1,h2⟩:=xft t u' hu
   exact ⟨z,List.mem_cons_of_mem _ h1,h2⟩
section
variable {X:Cx}
end
end L2
set_option maxRecDepth 100000
namespace PySem.F
end PySem.F
namespace L2
open PySem PySem.Spec PyProof.Rows XL
variable {q0:Bool}
end L2
set_option maxRecDepth 100000
namespace L2
open PySem PySem.Spec PyProof.Rows XL
variable {q0:Bool}
section
variable {z TI TO i1 i2 l1 l2:Addr} {P:Nat→Prop} {i:Nat} {h:Heap}
end
end L2
set_option maxRecDepth 100000
namespace L2
open PySem PySem.Spec PyProof.Rows XL
variable {q0:Bool}
end L2
set_option maxRecDepth 100000
namespace L2
open PySem PySem.Spec PyProof.Rows XL
variable {q0:Bool}
section
variable {X:Cx} {pos np1 np2 np3 hpos1 hpos2 hpos3:Pos} {body hbody1 hbody2 hbody3:List Stmt} {rest:List ExceptHandler} {b1 b2 b3:Stmt} {cx1 cx2 cx3 n:Str} {C1 C2 C3:Addr} {j:Nat} {E:St→XK} {tb th1 th2 th3:TS}
end
end L2
set_option maxRecDepth 100000
namespace L2
open PySem PySem.Spec PyProof.Rows XL PySem.W
variable {q0:Bool}
theorem xf1 {prog:Program} {w:World} {A:Around} {E:Value→Shared→Prop} {s:Shared} {a:Addr} {vs:List Value} {n:Nat} {P:PySem.Fin→Shared→Prop}
    (h:s.heap.get? a=some (seqObj "list" vs.toArray n)) (h2:2≤vs.length) (h64:vs.length < 64)
    (hk:∀ s':Shared,s'.heap=(((s.heap.update a (Obj.mapSeq fun x=>#[])).push (seqObj "tuple" vs.toArray 0)).push (seqObj "list" #[] 0))→s'={ s with heap:=s'.heap } →
      wpAny (model prog w) A (keyKind' vs.toArray) (fun κ s''=>s''=s'∧KasT.kasWp (kas_ask prog w A κ vs) (kas_sort vs.length) (fun p s3=>s3=s'∧P (.done (.ret .none)) { s with heap:=sortedHeap s.heap a vs (p.map fun i=>vs.getD i .none) }) s'') (fun _ _=>False) s') :
    wpAny (model prog w) A (Builtin.«list.sort» { pos:=[.ref a] }) P E s:=by
  obtain ⟨hp,g,d,tk,os⟩:=s
  rw [list_sort_plain]
  repeat (any_goals (first | assumption | wp_step))
  have z:¬ vs.toArray.toList.toArray.size > sizeLine:=by
    simp
    exact Nat.le_of_lt (Nat.lt_trans h64 (by decide))
  rw [if_neg z]
  generalize keyKind' vs.toArray=kk at hk ⊢
  repeat (any_goals (first | assumption | wp_step))
  have hk':=hk { heap:=((hp.update a (Obj.mapSeq fun x=>#[])).push (seqObj "tuple" vs.toArray 0)).push (seqObj "list" #[] 0),gens:=g,drawn:=d,toks:=tk,os:=os } rfl rfl
  refine wpAny_mono hk' (fun κ s'' z=>?_) (fun _ _ z=>z.elim)
  obtain ⟨e,q⟩:=z
  subst e
  show wpAny _ _ (StateT.run (if vs.toArray.size < 2 then pure () else sortRuns') _ >>= _) _ _ _
  rw [if_neg (by simp; omega)]
  refine wpAny_bind (wpAny_mono (kat_run (E:=E) (Q:=fun st' s'=>∃ p:Array Nat,p.size=vs.length∧arrOf st'=Array.map (kas_item (vs.toArray.zip vs.toArray)) p∧failedOf st'=none∧s'=_∧P (.done (.ret .none)) { heap:=sortedHeap hp a vs (p.map fun i=>vs.getD i .none),gens:=g,drawn:=d,toks:=tk,os:=os }) rfl h2 h64 (fun p st' s' hp' e f q'=>⟨p,hp',e,f,q'.1,q'.2⟩) q) (fun r s' z=>?_) fun _ _ z=>z)
  obtain ⟨u,st⟩:=r
  obtain ⟨p,psz,e,f,rfl,q'⟩:=z
  have al:a < hp.objs.size:=Heap.lt_size h
  have g1:(((hp.update a (Obj.mapSeq fun x=>#[])).push (seqObj "tuple" vs.toArray 0)).push (seqObj "list" #[] 0)).get? a=some (seqObj "list" #[] (n + 1)):=by
    refine Heap.get?_push_of_some _ (Heap.get?_push_of_some _ ?_)
    rw [Heap.get?_update_self _ h rfl]
    have z:((0:Nat) == vs.length)=false:=by
      cases vs with
      | nil=>simp at h2
      | cons=>rfl
    simp [Obj.mapSeq,z]
  have e2:(if (((fun x=>#[]) vs.toArray:Array Value).size == vs.toArray.size)=true then n else n + 1)=n + 1:=by
    rw [if_neg]
    simp
    omega
  simp only [e2,f]
  have e3:Array.map (fun x=>x.snd) (arrOf st)=p.map fun i=>vs.getD i .none:=by
    rw [e,Array.map_map]
    congr 1
    funext i
    show (kas_item (vs.toArray.zip vs.toArray) i).snd=_
    unfold kas_item
    by_cases c:i < vs.length
    · simp [List.getElem?_eq_getElem c,c]
    · simp [List.getElem?_eq_none (by omega:vs.length≤i),c]
  simp only [e3]
  repeat (any_goals (first | assumption | wp_step))
  have e4:(Obj.mapSeq (fun x=>Array.map (fun i=>vs.getD i Value.none) p) (seqObj "list" #[] (n + 1))).data.pastItsLine=none:=by
    show (if (Array.map (fun i=>vs.getD i Value.none) p).size > sizeLine + 1 then _ else none)=none
    rw [if_neg]
    rw [Array.size_map,psz]
    have:vs.length < sizeLine:=Nat.lt_trans h64 (by decide)
    omega
  rw [e4]
  refine wpAny_pure ?_
  rw [f]
  show wpAny _ _ (if (n + 1 != n + 1)=true then _ else _) _ _ _
  rw [if_neg (by simp)]
  exact wpAny_pure q'
end L2
set_option maxRecDepth 100000
namespace L2
open PySem PySem.Spec PyProof.Rows XL PySem.W
variable {q0:Bool}
def xcf:Key→Key→Bool
 | .inl a,.inl b=>decide (a < b)
 | .inr a,.inr b=>decide (a.cps.toList < b.cps.toList)
 | _,_=>false
def lexK:List Key→List Key→Bool
 | [],[]=>false
 | [],_ :: _=>true
 | _ :: _,[]=>false
 | x :: xs,y :: ys=>if x=y then lexK xs ys else xcf x y
abbrev shp (k:List Key):List Bool:=k.map Sum.isLeft
theorem xnk {a b:Str} (h:a.cps.toList=b.cps.toList):a=b:=by
 cases a
 cases b
 simp at h
 rw [h]
theorem xk3 (x:Key):xcf x x=false:=by
 cases x with
 | inl a=>simp [xcf]
 | inr a=>exact PyProof.Rows.strKind.irrefl a.cps.toList
theorem xmk {x y z:Key} (h1:xcf x y=true) (h2:xcf y z=true):xcf x z=true:=by
 cases x <;> cases y <;> cases z <;> simp only [xcf,Bool.false_eq_true] at h1 h2
 ·have a:=of_decide_eq_true h1
  have b:=of_decide_eq_true h2
  exact decide_eq_true (Int.lt_trans a b)
 ·exact PyProof.Rows.strKind.trans _ _ _ h1 h2
theorem xk8 {x y:Key} (hs:x.isLeft=y.isLeft) (ne:x≠y) (h:xcf x y=false):xcf y x=true:=by
 cases x with
 | inl a =>
  cases y with
  | inl b =>
   have h':¬ a < b:=of_decide_eq_false h
   have n':a≠b:=fun e=>ne (by rw [e])
   exact decide_eq_true (show b < a by omega)
  | inr b=>cases hs
 | inr a =>
  cases y with
  | inl b=>cases hs
  | inr b =>
   cases e:xcf (.inr b) (.inr a) with
   | true=>rfl
   | false=>exact absurd (by rw [xnk (PyProof.Rows.strKind.total _ _ h e)]) ne
theorem xhp:∀ x:List Key,lexK x x=false
 | []=>rfl
 | x :: xs=>by
  unfold lexK
  rw [if_pos rfl]
  exact xhp xs
theorem xi2:∀ {x y z:List Key},shp x=shp y→shp y=shp z→lexK x y=true→lexK y z=true→lexK x z=true
 | [],[],_,_,_,h,_=>by cases h
 | [],_ :: _,_,h,_,_,_=>by cases h
 | _ :: _,[],_,h,_,_,_=>by cases h
 | _ :: _,_ :: _,[],_,h,_,_=>by cases h
 | x :: xs,y :: ys,z :: zs,h1,h2,h3,h4=>by
  simp only [shp,List.map_cons,List.cons.injEq] at h1 h2
  unfold lexK at h3 h4 ⊢
  by_cases xy:x=y
  ·subst xy
   rw [if_pos rfl] at h3
   by_cases yz:x=z
   ·rw [if_pos yz] at h4 ⊢
    exact xi2 h1.2 h2.2 h3 h4
   ·rw [if_neg yz] at h4 ⊢
    exact h4
  ·rw [if_neg xy] at h3
   by_cases yz:y=z
   ·subst yz
    rw [if_neg xy]
    exact h3
   ·rw [if_neg yz] at h4
    have h5:=xmk h3 h4
    rw [if_neg (fun e=>by rw [e,xk3] at h5; cases h5)]
    exact h5
theorem xhq:∀ {x y:List Key},shp x=shp y→x≠y→lexK x y=false→lexK y x=true
 | [],[],_,h,_=>absurd rfl h
 | [],_ :: _,h,_,_=>by cases h
 | _ :: _,[],h,_,_=>by cases h
 | x :: xs,y :: ys,h1,h2,h3=>by
  simp only [shp,List.map_cons,List.cons.injEq] at h1
  unfold lexK at h3 ⊢
  by_cases xy:x=y
  ·subst xy
   rw [if_pos rfl] at h3 ⊢
   exact xhq h1.2 (fun e=>h2 (by rw [e])) h3
  ·rw [if_neg xy] at h3
   rw [if_neg (fun e=>xy e.symm)]
   exact xk8 h1.1 xy h3
theorem xhj {prog:Program} {w:World} {A:Around} {s:Shared} {b:Bool} {Q:Bool→Shared→Prop}:∀ (xs ys:List Key) (us vs:List Value) (i:Nat),shp xs=shp ys→Vals (xs.map kV) us→Vals (ys.map kV) vs→Q (lexK xs ys) s→KatLex prog w A b false Q (us.zip vs) i s
 | [],[],_,_,i,_,.nil,.nil,q=>kat_nil q
 | [],_ :: _,_,_,_,h,_,_,_=>by cases h
 | _ :: _,[],_,_,_,h,_,_,_=>by cases h
 | x :: xs,y :: ys,_,_,i,h,.cons ru r,.cons rv r',q=>by
  simp only [shp,List.map_cons,List.cons.injEq] at h
  unfold lexK at q
  cases x with
  | inl a =>
   cases y with
   | inr c=>cases h.1
   | inl c =>
    obtain ⟨t,rfl⟩:=ru
    obtain ⟨t',rfl⟩:=rv
    refine kat_cons (wpAny_eqBool_int ?_)
    unfold KatGo
    by_cases e:a=c
    ·subst e
     rw [if_pos rfl] at q
     rw [if_pos (by simp)]
     exact xhj xs ys _ _ (i + 1) h.2 r r' q
    ·rw [if_neg (fun z=>e (Sum.inl.inj z))] at q
     rw [if_neg (by simpa using e)]
     cases (b && i == 0) with
     | true=>exact oneLt_int q
     | false=>exact kat_one _ _ (lt_int q)
  | inr a =>
   cases y with
   | inl c=>cases h.1
   | inr c =>
    obtain ⟨t,rfl⟩:=ru
    obtain ⟨t',rfl⟩:=rv
    refine kat_cons (wpAny_eqBool_str ?_)
    unfold KatGo
    by_cases e:a=c
    ·subst e
     rw [if_pos rfl] at q
     rw [if_pos (by simp)]
     exact xhj xs ys _ _ (i + 1) h.2 r r' q
    ·rw [if_neg (fun z=>e (Sum.inr.inj z))] at q
     rw [if_neg (by simpa using e)]
     cases (b && i == 0) with
     | true=>exact oneLt_str q
     | false=>exact kat_one _ _ (lt_str q)
theorem xgw {prog:Program} {w:World} {A:Around} {E:Value→Shared→Prop} {s:Shared} {a:Addr} {vs:List Value} {n:Nat} {P:PySem.Fin→Shared→Prop}
    (h:s.heap.get? a=some (seqObj "list" vs.toArray n)) (h2:vs.length < 2) (q':P (.done (.ret .none)) { s with heap:=sortedHeap s.heap a vs vs.toArray }) :
    wpAny (model prog w) A (Builtin.«list.sort» { pos:=[.ref a] }) P E s:=by
  obtain ⟨hp,g,d,tk,os⟩:=s
  rcases vs with _ | ⟨v,_ | ⟨v',r⟩⟩
  · rw [list_sort_plain]
    repeat (any_goals (first | assumption | wp_step))
    show wpAny _ _ (pure (PUnit.unit,SortSt.mk' general' ((#[]:Array Value).zip #[]) #[] 7 none)) _ _ _
    refine wpAny_pure ?_
    have e3:Array.map (fun x=>x.snd) (arrOf (SortSt.mk' general' ((#[]:Array Value).zip #[]) #[] 7 none))=#[]:=by
      show Array.map (fun x=>x.snd) ((#[]:Array Value).zip #[])=#[]
      simp
    simp only [e3]
    have g1:(((hp.update a (Obj.mapSeq fun x=>#[])).push (seqObj "tuple" #[] 0)).push (seqObj "list" #[] 0)).get? a=some (seqObj "list" #[] (n)):=by
      refine Heap.get?_push_of_some _ (Heap.get?_push_of_some _ ?_)
      rw [Heap.get?_update_self _ h rfl]
      rfl
    show wpAny _ _ (seqEpoch a >>= _) _ _ _
    repeat (any_goals (first | assumption | wp_step))
  · rw [list_sort_plain]
    repeat (any_goals (first | assumption | wp_step))
    show wpAny _ _ (pure (PUnit.unit,SortSt.mk' general' ((#[v]:Array Value).zip #[v]) #[] 7 none)) _ _ _
    refine wpAny_pure ?_
    have e3:Array.map (fun x=>x.snd) (arrOf (SortSt.mk' general' ((#[v]:Array Value).zip #[v]) #[] 7 none))=#[v]:=by
      show Array.map (fun x=>x.snd) ((#[v]:Array Value).zip #[v])=#[v]
      simp
    simp only [e3]
    have g1:(((hp.update a (Obj.mapSeq fun x=>#[])).push (seqObj "tuple" #[v] 0)).push (seqObj "list" #[] 0)).get? a=some (seqObj "list" #[] (n + 1)):=by
      refine Heap.get?_push_of_some _ (Heap.get?_push_of_some _ ?_)
      rw [Heap.get?_update_self _ h rfl]
      rfl
    show wpAny _ _ (seqEpoch a >>= _) _ _ _
    repeat (any_goals (first | assumption | wp_step))
  · simp at h2
    omega
theorem xek {α:Type} (f:α→Addr):∀ (es:List α),Vals (es.map fun x=>V.ref (f x)) (es.map fun x=>Value.ref (f x))
 | []=>.nil
 | x :: r=>.cons rfl (xek f r)
theorem xlb {P:Program} {w:World} {H:Hp} {h:Heap} (ok:HOk P w H h) {b:Bool} {sh:List Bool}:∀ (es:List (List Key × Addr × Value)),(∀ x ∈ es,H x.2.1=some (.tup (x.1.map kV)))→(∀ x ∈ es,shp x.1=b :: sh) →
    ∃ fs,KatTups h (es.map fun x=>Value.ref x.2.1) fs∧fs.length=es.length∧∀ v ∈ fs,if b=true then ∃ i t,v=Value.int i t else ∃ i t,v=Value.str i t
  | [],_,_=>⟨[],KatTups.nil,rfl,fun _ z=>nomatch z⟩
  | x :: es,h1,h2=>by
    obtain ⟨fs,k,l,m⟩:=xlb ok es (fun y hy=>h1 y (List.mem_cons_of_mem _ hy)) (fun y hy=>h2 y (List.mem_cons_of_mem _ hy))
    obtain ⟨z2,ts,rt,ot,et,ct,nt,dt⟩:=ok x.2.1 _ (h1 x List.mem_cons_self)
    have s1:=h2 x List.mem_cons_self
    obtain ⟨k1,a1,v1⟩:=x
    cases k1 with
    | nil=>cases s1
    | cons k0 kr =>
      simp only [shp,List.map_cons,List.cons.injEq] at s1
      simp only [List.map_cons] at rt
      cases rt with
      | @cons _ u _ us ru rr =>
        refine ⟨u :: fs,KatTups.cons et ct dt (by simp) k,by simp [l],fun v hv=>?_⟩
        rcases List.mem_cons.mp hv with rfl | hv'
        · cases k0 with
          | inl i =>
            obtain ⟨t,rfl⟩:=ru
            rw [if_pos (show b=true from s1.1.symm)]
            exact ⟨i,t,rfl⟩
          | inr i =>
            obtain ⟨t,rfl⟩:=ru
            rw [if_neg (show ¬ b=true by rw [← s1.1]; simp)]
            exact ⟨i,t,rfl⟩
        · exact m v hv'
theorem xko {X:Cx} {pins:List (Addr × Obj)} {σ:St} {H:Hp} {s:Shared} {h1:Heap} {tk:Nat} {Q:VK} {sh:List Bool} (es':List (List Key × Addr × Value)) (I1:Inv X pins σ H { s with heap:=h1,toks:=tk })
    (hl:es'.length < 64) (km:∀ x ∈ es',H x.2.1=some (.tup (x.1.map kV))) (shE:∀ x ∈ es',shp x.1=sh) (hpos:0 < sh.length) (hnd:(List.map (fun x=>x.fst) es').Nodup)
    (q:∀ (l:Addr) (ts:List (List Key × Addr)),H l=none→ts.Perm (es'.map fun x=>(x.1,x.2.1))→(ts.map (·.1)).Pairwise (fun x y=>lexK x y=true)→Q (.ref l) (upd H l (.lst (ts.map fun t=>.ref t.2)))) :
    wpAny (model X.prog X.w) X.A.in1 (newList (es'.map fun x=>Value.ref x.2.1) >>= fun l=>holding [l] (call (.builtin "list.sort") [l] []) >>= fun _=>ret l) (fun fin s'=>∃ v,fin=Fin.done (Flow.ret v)∧EP X pins σ Q v s') X.xe { s with heap:=h1,toks:=tk }:=by
  have hz:es'.length≤sizeLine:=Nat.le_of_lt (Nat.lt_trans hl (by decide))
  have vals:Vals (es'.map fun x=>V.ref x.2.1) (es'.map fun x=>Value.ref x.2.1):=xek (fun x=>x.2.1) es'
  have I2:=I1.lnew (t':=tk) vals (by rw [List.length_map]; exact hz)
  refine wpAny_bind (wpAny_newList ?_ (by rw [List.length_map]; exact hz))
  have fr:H h1.objs.size=none:=I1.fresh
  have gl:(h1.push { cls:=.type "list",data:=.seq (es'.map fun x=>Value.ref x.2.1).toArray }).get? h1.objs.size=some (seqObj "list" (es'.map fun x=>Value.ref x.2.1).toArray 0):=Heap.get?_push_size _ rfl
  refine wpAny_bind (wpAny_holding (wpAny_call_entry slot_list_sort ⟨_,gl,rfl⟩ entry_list_sort ?_ (args_list_sort _)))
  have J1:=I2.lset (l:=h1.objs.size) (its:=es'.map fun x=>Value.ref x.2.1) (its':=[]) (ys:=[]) (f:=fun _=>#[]) (t':=tk) xb gl rfl .nil (Nat.zero_le _)
  have J2:=J1.kept (t':=tk) (h':=(((h1.push { cls:=.type "list",data:=.seq (es'.map fun x=>Value.ref x.2.1).toArray }).update h1.objs.size (Obj.mapSeq fun _=>#[])).push (seqObj "tuple" (es'.map fun x=>Value.ref x.2.1).toArray 0)).push (seqObj "list" #[] 0)) fun b u e=>Heap.get?_push_of_some _ (Heap.get?_push_of_some _ e)
  obtain ⟨z9,its9,n9,r9,hl9,e9⟩:=J2.lstM xb
  have done:∀ (ts:List (List Key × Addr)),ts.Perm (es'.map fun x=>(x.1,x.2.1))→(ts.map (·.1)).Pairwise (fun x y=>lexK x y=true) →
      EP X pins σ Q (.ref h1.objs.size) { s with heap:=sortedHeap (h1.push { cls:=.type "list",data:=.seq (es'.map fun x=>Value.ref x.2.1).toArray }) h1.objs.size (es'.map fun x=>Value.ref x.2.1) (ts.map fun t=>Value.ref t.2).toArray,toks:=tk }:=by
    intro ts pm pw
    have tl:ts.length=es'.length:=by rw [pm.length_eq,List.length_map]
    have J3:=J2.lset (l:=h1.objs.size) (its:=its9) (its':=ts.map fun t=>Value.ref t.2) (ys:=ts.map fun t=>V.ref t.2) (f:=fun _=>(ts.map fun t=>Value.ref t.2).toArray) (t':=tk) xb e9 rfl (xek (fun t=>t.2) ts) (by rw [List.length_map,tl]; exact hz)
    rw [xcu,xcu] at J3
    exact ⟨.ref h1.objs.size,_,J3,rfl,q _ ts fr pm pw⟩
  by_cases few:es'.length < 2
  · refine xgw gl (by rw [List.length_map]; exact few) ⟨_,rfl,wpAny_pure ⟨_,rfl,?_⟩⟩
    have:=done (es'.map fun x=>(x.1,x.2.1)) (List.Perm.refl _) ?_
    · rw [List.map_map] at this
      exact this
    · match es',few with
      | [],_=>exact .nil
      | [x],_=>exact List.pairwise_singleton _ _
      | _ :: _ :: _,h=>exact absurd h (by simp)
  · refine xf1 gl (by rw [List.length_map]; omega) (by rw [List.length_map]; exact hl) fun s' es1 es2=>?_
    obtain ⟨b,sh0,rfl⟩:∃ b sh0,sh=b :: sh0:=by
      cases sh with
      | nil=>simp at hpos
      | cons b r=>exact ⟨b,r,rfl⟩
    rw [es1] at es2
    subst es2
    have km2:∀ x ∈ es',upd (upd H h1.objs.size (.lst (es'.map fun x=>V.ref x.2.1))) h1.objs.size (.lst []) x.2.1=some (.tup (x.1.map kV)):=fun x hx=>by
      rw [xg (xk (km x hx) fr),xg (xk (km x hx) fr)]
      exact km x hx
    obtain ⟨fs,kt,fl,fm⟩:=xlb J2.hok es' km2 shE
    have few':2≤es'.length:=by omega
    refine kat_kind (T:=if b=true then .type "int" else .type "str") kt (by omega) (fun v hv=>?_) (by cases b <;> rfl) ⟨rfl,?_⟩
    · have z:=fm v hv
      cases b with
      | true =>
        obtain ⟨i,t,rfl⟩:=z
        exact fun A Q E s _ q=>wpAny_typeOf (T:="int") rfl q
      | false =>
        obtain ⟨i,t,rfl⟩:=z
        exact fun A Q E s _ q=>wpAny_typeOf (T:="str") rfl q
    rw [List.length_map]
    have eAt:∀ i,i < es'.length→es'[i]?=some (es'.getD i ([],0,.none)):=fun i hi=>by
      rw [List.getD_eq_getElem?_getD,List.getElem?_eq_getElem hi]
      rfl
    have eM:∀ i,i < es'.length→es'.getD i ([],0,.none) ∈ es':=fun i hi=>List.mem_of_getElem? (eAt i hi)
    have vAt:∀ i,i < es'.length→(es'.map fun x=>Value.ref x.2.1).getD i .none=.ref (es'.getD i ([],0,.none)).2.1:=fun i hi=>by
      rw [List.getD_eq_getElem?_getD,List.getElem?_map,eAt i hi]
      rfl
    have shI:∀ i j,i < es'.length→j < es'.length→shp (es'.getD i ([],0,.none)).1=shp (es'.getD j ([],0,.none)).1:=fun i j hi hj=>by rw [shE _ (eM i hi),shE _ (eM j hj)]
    refine Srt.sort_wp (lt:=fun i j=>lexK (es'.getD i ([],0,.none)).1 (es'.getD j ([],0,.none)).1) ⟨fun i hi=>xhp _,fun i j k hi hj hk=>xi2 (shI i j hi hj) (shI j k hj hk),fun i j hi hj ne=>xhq (shI i j hi hj) fun e=>ne ?_⟩ (fun i j hi hj Q' q'=>?_) few' fun p arr srt=>⟨rfl,_,rfl,wpAny_pure ⟨_,rfl,?_⟩⟩
    · have e1:(es'.map (·.1))[i]?=(es'.map (·.1))[j]?:=by rw [List.getElem?_map,List.getElem?_map,eAt i hi,eAt j hj]; exact congrArg some e
      exact (List.getElem?_inj (by rw [List.length_map]; exact hi) hnd).mp e1
    · show wpAny _ _ (keyLt' _ ((es'.map fun x=>Value.ref x.2.1).getD i .none) ((es'.map fun x=>Value.ref x.2.1).getD j .none)) _ _ _
      rw [vAt i hi,vAt j hj]
      obtain ⟨_,ti,ri,oi,ei,_,ni,di⟩:=J2.hok _ _ (km2 _ (eM i hi))
      obtain ⟨_,tj,rj,oj,ej,_,nj,dj⟩:=J2.hok _ _ (km2 _ (eM j hj))
      have l1:=Vals.length ri
      have l2:=Vals.length rj
      have l3:=congrArg List.length (shI i j hi hj)
      simp only [List.length_map] at l1 l2 l3
      refine kat_lt ei di ej dj ?_
      rw [decide_eq_false (by simp; omega)]
      exact xhj _ _ _ _ 0 (shI i j hi hj) ri rj q'
    have pl:∀ i ∈ p.toList,i < es'.length:=fun i hi=>by
      have:=(Array.Perm.mem_iff arr.pm).mp (Array.mem_toList_iff.mp hi)
      simpa using this
    have:=done (p.toList.map fun i=>((es'.getD i ([],0,.none)).1,(es'.getD i ([],0,.none)).2.1)) ?_ ?_
    · rw [List.map_map] at this
      have e2:(p.map fun i=>(es'.map fun x=>Value.ref x.2.1).getD i .none)=(p.toList.map ((fun t:List Key × Addr=>Value.ref t.2) ∘ fun i=>((es'.getD i ([],0,.none)).1,(es'.getD i ([],0,.none)).2.1))).toArray:=by
        rw [← Array.toList_inj,Array.toList_map]
        exact List.map_congr_left fun i hi=>vAt i (pl i hi)
      rw [e2]
      exact this
    · have e3:(es'.map fun x=>(x.1,x.2.1))=(List.range es'.length).map fun i=>((es'.getD i ([],0,.none)).1,(es'.getD i ([],0,.none)).2.1):=by
        refine List.ext_getElem? fun i=>?_
        by_cases c:i < es'.length
        · rw [List.getElem?_map,eAt i c,List.getElem?_map,List.getElem?_range c]
          rfl
        · rw [List.getElem?_eq_none (by rw [List.length_map]; omega),List.getElem?_eq_none (by simp; omega)]
      rw [e3]
      refine List.Perm.map _ ?_
      have:=Array.Perm.toList arr.pm
      simpa using this
    · rw [List.map_map,List.pairwise_map,List.pairwise_iff_getElem]
      intro i j hi hj hij
      have z:=srt i j hij (by rw [← arr.sz]; simpa using hj)
      have gi:Srt.g p i=p.toList[i]:=Srt.g_at (by rw [← Array.getElem?_toList]; exact List.getElem?_eq_getElem hi)
      have gj:Srt.g p j=p.toList[j]:=Srt.g_at (by rw [← Array.getElem?_toList]; exact List.getElem?_eq_getElem hj)
      rw [gi,gj] at z
      exact z
def xh3:List V→Hp→VK→Prop:=fun xs H Q=>∃ (d:Addr) (ts0:List (List Key × Addr)) (sh:List Bool),xs=[.ref d]∧H d=some (.lst (ts0.map fun t=>.ref t.2))∧ts0.length < 64∧(∀ t ∈ ts0,H t.2=some (.tup (t.1.map kV)))∧(∀ t ∈ ts0,shp t.1=sh)∧0 < sh.length∧(ts0.map (·.1)).Nodup ∧
 ∀ (l:Addr) (ts:List (List Key × Addr)),H l=none→ts.Perm ts0→(ts.map (·.1)).Pairwise (fun x y=>lexK x y=true)→Q (.ref l) (upd H l (.lst (ts.map fun t=>.ref t.2)))
theorem xgs {α:Type} (f:α→Addr):∀ {es:List α} {us:List Value},Vals (es.map fun x=>V.ref (f x)) us→us=es.map fun x=>Value.ref (f x)
 | [],_,.nil=>rfl
 | x :: es,_,.cons r rs=>by
  cases r
  rw [xgs f rs]
  rfl
theorem xea {X:Cx} (hc:X.calm=true):xbs X (.builtin "sorted") xh3:=by
 intro pins s σ H xs us Q I r h
 obtain ⟨d,ts0,sh,rfl,hd,hl,km,hsh,hpos,hnd,q⟩:=h
 obtain ⟨u,rfl,ru⟩:=xbz r
 obtain rfl:u=Value.ref d:=ru
 obtain ⟨z,its,n,rv,hlen,el⟩:=I.lstM hd
 have eits:=xgs (fun t:List Key × Addr=>t.2) rv
 refine Calls.call_function_entry kind_sorted plain_sorted entry_sorted (args_sorted1 _) ?_
 unfold Builtin.sorted
 refine wpAny_bind (wpAny_pure ?_)
 show wpAny _ _ (collect (.ref d) >>= _) _ _ _
 refine wpAny_bind (wpAny_collect_seq d (T:="list") (.inl rfl) el rfl rfl (fun h1 keep=>?_) (by rw [List.size_toArray,eits,List.length_map]; exact Nat.le_of_lt (Nat.lt_trans hl (by decide))))
 have I1:Inv X pins σ H { s with heap:=h1,toks:=s.toks }:=I.kept keep
 have e0:its.toArray.toList=(ts0.map fun t=>(t.1,t.2,Value.none)).map fun x=>Value.ref x.2.1:=by
  rw [List.map_map,eits]
  rfl
 rw [e0]
 refine xko (ts0.map fun t=>(t.1,t.2,Value.none)) I1 (by rw [List.length_map]; exact hl) (fun x hx=>?_) (fun x hx=>?_) hpos (by rw [List.map_map]; exact hnd) fun l ts fr pm pw=>q l ts fr ?_ pw
 ·obtain ⟨t,ht,rfl⟩:=List.mem_map.mp hx
  exact km t ht
 ·obtain ⟨t,ht,rfl⟩:=List.mem_map.mp hx
  exact hsh t ht
 ·rw [List.map_map] at pm
  have e1:ts0.map ((fun x:List Key × Addr × Value=>(x.1,x.2.1)) ∘ fun t=>(t.1,t.2,Value.none))=ts0:=List.map_id _
  rw [e1] at pm
  exact pm
end L2
set_option maxRecDepth 100000
namespace L2
open PySem PySem.Spec PyProof.Rows XL PySem.W
variable {q0:Bool}
theorem xi1 {κ:Type} [DecidableEq κ]:∀ {kvs:List (κ × V)} {k:κ} {v:V},valV kvs k=some v→∃ i:Nat,kvs[i]?=some (k,v)
 | [],k,v,h=>by cases h
 | p :: r,k,v,h=>by
  by_cases e:p.1=k
  ·rw [xaw e] at h
   cases h
   exact ⟨0,by simp [← e]⟩
  ·rw [xam e] at h
   obtain ⟨i,hi⟩:=xi1 h
   exact ⟨i + 1,by simpa using hi⟩
section
variable {X:Cx} {o e:Expr} {td ty:TE} {apos cpos:Pos}
end
end L2
set_option maxRecDepth 100000
namespace L2
open PySem PySem.Spec PyProof.Rows XL PySem.W
variable {q0:Bool}
end L2
set_option maxRecDepth 100000
set_option maxHeartbeats 1000000
namespace L2
open PySem PySem.Spec PyProof.Rows XL PySem.W
inductive DV where
 | non
 | bl (b:Bool)
 | int (i:Int)
 | str (x:Str)
 | tup (xs:List DV)
 | lst (xs:List DV)
mutual
def dEq:DV→DV→Bool
 | .non,.non=>true
 | .bl a,.bl b=>a == b
 | .bl a,.int b=>(if a then 1 else 0) == b
 | .int a,.bl b=>a == (if b then 1 else 0)
 | .int a,.int b=>a == b
 | .str a,.str b=>a == b
 | .tup xs,.tup ys=>dEqs xs ys
 | .lst xs,.lst ys=>dEqs xs ys
 | _,_=>false
def dEqs:List DV→List DV→Bool
 | [],[]=>true
 | x :: xs,y :: ys=>dEq x y && dEqs xs ys
 | _,_=>false
end
mutual
theorem xc5:∀ d,dEq d d=true
 | .non=>rfl
 | .bl _=>by simp [dEq]
 | .int _=>by simp [dEq]
 | .str _=>by simp [dEq]
 | .tup xs=>by simp only [dEq]; exact xcp xs
 | .lst xs=>by simp only [dEq]; exact xcp xs
theorem xcp:∀ xs,dEqs xs xs=true
 | []=>rfl
 | x :: xs=>by simp only [dEqs,Bool.and_eq_true]; exact ⟨xc5 x,xcp xs⟩
end
mutual
def DV.pl:DV→Bool
 | .bl _=>false
 | .tup xs=>pls xs
 | .lst xs=>pls xs
 | _=>true
def pls:List DV→Bool
 | []=>true
 | x :: xs=>x.pl && pls xs
end
mutual
theorem xlo:∀ {d e:DV},d.pl=true→e.pl=true→dEq d e=true→d=e
 | .non,.non,_,_,_=>rfl
 | .int a,.int b,_,_,h=>by simp only [dEq,beq_iff_eq] at h; rw [h]
 | .str a,.str b,_,_,h=>by simp only [dEq,beq_iff_eq] at h; rw [h]
 | .tup xs,.tup ys,p,q,h=>by
  simp only [dEq] at h
  simp only [DV.pl] at p q
  rw [xfx p q h]
 | .lst xs,.lst ys,p,q,h=>by
  simp only [dEq] at h
  simp only [DV.pl] at p q
  rw [xfx p q h]
 | .bl _,_,p,_,_=>by simp [DV.pl] at p
 | .non,.bl _,_,q,_=>by simp [DV.pl] at q
 | .int _,.bl _,_,q,_=>by simp [DV.pl] at q
 | .str _,.bl _,_,q,_=>by simp [DV.pl] at q
 | .tup _,.bl _,_,q,_=>by simp [DV.pl] at q
 | .lst _,.bl _,_,q,_=>by simp [DV.pl] at q
 | .non,.int _,_,_,h=>by simp [dEq] at h
 | .non,.str _,_,_,h=>by simp [dEq] at h
 | .non,.tup _,_,_,h=>by simp [dEq] at h
 | .non,.lst _,_,_,h=>by simp [dEq] at h
 | .int _,.non,_,_,h=>by simp [dEq] at h
 | .int _,.str _,_,_,h=>by simp [dEq] at h
 | .int _,.tup _,_,_,h=>by simp [dEq] at h
 | .int _,.lst _,_,_,h=>by simp [dEq] at h
 | .str _,.non,_,_,h=>by simp [dEq] at h
 | .str _,.int _,_,_,h=>by simp [dEq] at h
 | .str _,.tup _,_,_,h=>by simp [dEq] at h
 | .str _,.lst _,_,_,h=>by simp [dEq] at h
 | .tup _,.non,_,_,h=>by simp [dEq] at h
 | .tup _,.int _,_,_,h=>by simp [dEq] at h
 | .tup _,.str _,_,_,h=>by simp [dEq] at h
 | .tup _,.lst _,_,_,h=>by simp [dEq] at h
 | .lst _,.non,_,_,h=>by simp [dEq] at h
 | .lst _,.int _,_,_,h=>by simp [dEq] at h
 | .lst _,.str _,_,_,h=>by simp [dEq] at h
 | .lst _,.tup _,_,_,h=>by simp [dEq] at h
theorem xfx:∀ {xs ys:List DV},pls xs=true→pls ys=true→dEqs xs ys=true→xs=ys
 | [],[],_,_,_=>rfl
 | x :: xs,y :: ys,p,q,h=>by
  simp only [pls,Bool.and_eq_true] at p q
  simp only [dEqs,Bool.and_eq_true] at h
  rw [xlo p.1 q.1 h.1,xfx p.2 q.2 h.2]
 | [],_ :: _,_,_,h=>by simp [dEqs] at h
 | _ :: _,[],_,_,h=>by simp [dEqs] at h
end
theorem xm5 {d e:DV} {α:Type} {x y:α} [DecidableEq α] (p:d.pl=true) (q:e.pl=true) (f:d=e ↔ x=y):dEq d e=decide (x=y):=by
 by_cases c:x=y
 ·rw [decide_eq_true c,f.mpr c]
  exact xc5 _
 ·rw [decide_eq_false c]
  cases z:dEq d e with
  | false=>rfl
  | true=>exact absurd (f.mp (xlo p q z)) c
theorem xe7:∀ {xs ys:List DV} {e:Nat→Bool},(∀ (j:Nat) (x y:DV),xs[j]?=some x→ys[j]?=some y→e j=dEq x y)→((List.range (min xs.length ys.length)).all e && xs.length == ys.length)=dEqs xs ys
 | [],[],_,_=>rfl
 | [],_ :: _,_,_=>by simp [dEqs]
 | _ :: _,[],_,_=>by simp [dEqs]
 | x :: xs,y :: ys,e,h=>by
  have ih:=xe7 (xs:=xs) (ys:=ys) (e:=fun j=>e (j + 1)) (fun j a b ha hb=>h (j + 1) a b (by simpa using ha) (by simpa using hb))
  have h0:=h 0 x y rfl rfl
  rw [List.length_cons,List.length_cons,show min (xs.length + 1) (ys.length + 1)=min xs.length ys.length + 1 by omega,List.range_succ_eq_map,List.all_cons,List.all_map]
  show _=(dEq x y && dEqs xs ys)
  rw [← ih,h0]
  have z:((xs.length + 1 == ys.length + 1):Bool)=(xs.length == ys.length):=by
   rw [Bool.eq_iff_iff]
   simp
  rw [z,Bool.and_assoc]
  rfl
theorem xg6:∀ {xs ys:List DV},xs.length≠ys.length→dEqs xs ys=false
 | [],[],h=>absurd rfl h
 | [],_ :: _,_=>rfl
 | _ :: _,[],_=>rfl
 | x :: xs,y :: ys,h=>by
  show (dEq x y && dEqs xs ys)=false
  rw [xg6 (xs:=xs) (ys:=ys) (fun z=>h (by simp [z]))]
  exact Bool.and_false _
inductive Dv (K:PySem.W.Frag) (H:Hp):Nat→V→DV→Prop
 | non {n:Nat}:Dv K H n .non .non
 | bl {n:Nat} {b:Bool}:Dv K H n (.bl b) (.bl b)
 | int {n:Nat} {b:Int}:Dv K H n (.int b) (.int b)
 | str {n:Nat} {b:Str}:Dv K H n (.str b) (.str b)
 | tup {n:Nat} {a:Addr} {xs:List V} {ds:List DV} (ha:SqT K H a xs) (hl:xs.length=ds.length) (h:∀ (j:Nat) (x:V) (d:DV),xs[j]?=some x→ds[j]?=some d→Dv K H n x d):Dv K H (n + 1) (.ref a) (.tup ds)
 | lst {n:Nat} {a:Addr} {xs:List V} {ds:List DV} (ha:SqL K H a xs) (hl:xs.length=ds.length) (h:∀ (j:Nat) (x:V) (d:DV),xs[j]?=some x→ds[j]?=some d→Dv K H n x d):Dv K H (n + 1) (.ref a) (.lst ds)
section
variable {X:Cx} {pins:List (Addr × Obj)} {σ:St} {H:Hp} {s:Shared}
theorem xgp {h:Heap} {a:Addr} {i j:Array Value} (p:h.IsTuple a i) (q:PlainL h a j):False:=by
 obtain ⟨o,e,c,_⟩:=p
 obtain ⟨o',n,e',c',_⟩:=q
 rw [e] at e'
 cases e'
 rw [c] at c'
 exact absurd c' (by decide)
theorem xlk {xs ys:List DV} (h:xs.length=ys.length) (f:∀ (j:Nat) (x y:DV),xs[j]?=some x→ys[j]?=some y→x=y):xs=ys:=by
 refine List.ext_getElem? fun j=>?_
 by_cases c:j < xs.length
 ·rw [List.getElem?_eq_getElem c,List.getElem?_eq_getElem (by omega),f j _ _ (List.getElem?_eq_getElem c) (List.getElem?_eq_getElem (by omega))]
 ·rw [List.getElem?_eq_none (by omega),List.getElem?_eq_none (by omega)]
theorem xhb (I:Inv X pins σ H s) {n:Nat} {x:V} {d:DV} (h:Dv X.K H n x d):∀ {m:Nat} {e:DV},Dv X.K H m x e→d=e:=by
 induction h with
 | non=>intro m e h; cases h; rfl
 | bl=>intro m e h; cases h; rfl
 | int=>intro m e h; cases h; rfl
 | str=>intro m e h; cases h; rfl
 | @tup n a xs ds ha hl h ih =>
  intro m e h2
  cases h2 with
  | @tup m _ ys es hb kl k =>
   obtain rfl:=I.tuple_inj ha hb
   refine congrArg DV.tup (xlk (by omega) fun j d e h1 h2=>?_)
   have lt:j < xs.length:=by
    have:=(List.getElem?_eq_some_iff.mp h1).1
    omega
   exact ih j xs[j] d (List.getElem?_eq_getElem lt) h1 (k j xs[j] e (List.getElem?_eq_getElem lt) h2)
  | @lst m _ ys es hb kl k =>
   obtain ⟨its,_,t1,_⟩:=I.tuple ha
   obtain ⟨its2,_,t2,_⟩:=I.list hb
   exact (xgp t1 t2).elim
 | @lst n a xs ds ha hl h ih =>
  intro m e h2
  cases h2 with
  | @lst m _ ys es hb kl k =>
   obtain rfl:=I.list_inj ha hb
   refine congrArg DV.lst (xlk (by omega) fun j d e h1 h2=>?_)
   have lt:j < xs.length:=by
    have:=(List.getElem?_eq_some_iff.mp h1).1
    omega
   exact ih j xs[j] d (List.getElem?_eq_getElem lt) h1 (k j xs[j] e (List.getElem?_eq_getElem lt) h2)
  | @tup m _ ys es hb kl k =>
   obtain ⟨its,_,t1,_⟩:=I.tuple hb
   obtain ⟨its2,_,t2,_⟩:=I.list ha
   exact (xgp t1 t2).elim
def at2 (f:DV→DV→Bool) (ds es:List DV) (j:Nat):Bool:=match ds[j]?,es[j]? with | some d,some e=>f d e | _,_=>false
theorem xfl {f:DV→DV→Bool} {ds es:List DV} {j:Nat} {d e:DV} (h:ds[j]?=some d) (h2:es[j]?=some e):at2 f ds es j=f d e:=by
 unfold at2
 rw [h,h2]
theorem xjp (I:Inv X pins σ H s) {n:Nat} {x:V} {d:DV} (h:Dv X.K H n x d):∀ {m:Nat} {y:V} {e:DV},Dv X.K H m y e→∀ {A:Around} {u v:Value},A.units + n + m < cLine→RelV x u→RelV y v →
    SeqAt.EqAt A s u v (dEq d e)∧SeqAt.RcAt A s u v (dEq d e)∧SeqAt.RcNeAt A s u v (!dEq d e):=by
  induction h with
  | @non n =>
    intro m y e h2 A u v hu rx ry
    obtain rfl:u=Value.none:=rx
    cases h2 with
    | @non  =>
      obtain rfl:v=Value.none:=ry
      exact ⟨SeqAt.EqAt.same _,SeqAt.RcAt.none_none,SeqAt.RcNeAt.none_none⟩
    | @bl _ b2 =>
      obtain rfl:v=Value.bool _:=ry
      exact ⟨SeqAt.EqAt.none_bool _,SeqAt.RcAt.none_bool _,SeqAt.RcNeAt.none_bool _⟩
    | @int _ b2 =>
      obtain ⟨_,rfl⟩:=ry
      exact ⟨SeqAt.EqAt.none_int _ _,SeqAt.RcAt.none_int _ _,SeqAt.RcNeAt.none_int _ _⟩
    | @str _ b2 =>
      obtain ⟨_,rfl⟩:=ry
      exact ⟨SeqAt.EqAt.none_str _ _,SeqAt.RcAt.none_str _ _,SeqAt.RcNeAt.none_str _ _⟩
    | @tup m b ys es hb kl k =>
      obtain rfl:v=Value.ref _:=ry
      obtain ⟨its2,r2,t2,z2⟩:=I.tuple hb
      have l2:=r2.length
      exact ⟨SeqAt.EqAt.none_tuple t2 (by omega),SeqAt.RcAt.none_tuple t2 (by omega),SeqAt.RcNeAt.none_tuple t2 (by omega)⟩
    | @lst m b ys es hb kl k =>
      obtain rfl:v=Value.ref _:=ry
      obtain ⟨its2,r2,t2,z2⟩:=I.list hb
      have l2:=r2.length
      exact ⟨SeqAt.EqAt.none_list t2.isList (by omega),SeqAt.RcAt.none_list t2.isList (by omega),SeqAt.RcNeAt.none_list t2.isList (by omega)⟩
  | @bl n b1 =>
    intro m y e h2 A u v hu rx ry
    obtain rfl:u=Value.bool _:=rx
    cases h2 with
    | @non  =>
      obtain rfl:v=Value.none:=ry
      exact ⟨SeqAt.EqAt.bool_none _,SeqAt.RcAt.bool_none _,SeqAt.RcNeAt.bool_none _⟩
    | @bl _ b2 =>
      obtain rfl:v=Value.bool _:=ry
      exact ⟨SeqAt.EqAt.bool_bool _ _,SeqAt.RcAt.bool_bool _ _,SeqAt.RcNeAt.bool_bool _ _⟩
    | @int _ b2 =>
      obtain ⟨_,rfl⟩:=ry
      exact ⟨SeqAt.EqAt.bool_int _ _ _,SeqAt.RcAt.bool_int _ _ _,SeqAt.RcNeAt.bool_int _ _ _⟩
    | @str _ b2 =>
      obtain ⟨_,rfl⟩:=ry
      exact ⟨SeqAt.EqAt.bool_str _ _ _,SeqAt.RcAt.bool_str _ _ _,SeqAt.RcNeAt.bool_str _ _ _⟩
    | @tup m b ys es hb kl k =>
      obtain rfl:v=Value.ref _:=ry
      obtain ⟨its2,r2,t2,z2⟩:=I.tuple hb
      have l2:=r2.length
      exact ⟨SeqAt.EqAt.bool_tuple _ t2 (by omega),SeqAt.RcAt.bool_tuple _ t2 (by omega),SeqAt.RcNeAt.bool_tuple _ t2 (by omega)⟩
    | @lst m b ys es hb kl k =>
      obtain rfl:v=Value.ref _:=ry
      obtain ⟨its2,r2,t2,z2⟩:=I.list hb
      have l2:=r2.length
      exact ⟨SeqAt.EqAt.bool_list _ t2.isList (by omega),SeqAt.RcAt.bool_list _ t2.isList (by omega),SeqAt.RcNeAt.bool_list _ t2.isList (by omega)⟩
  | @int n b1 =>
    intro m y e h2 A u v hu rx ry
    obtain ⟨_,rfl⟩:=rx
    cases h2 with
    | @non  =>
      obtain rfl:v=Value.none:=ry
      exact ⟨SeqAt.EqAt.int_none _ _,SeqAt.RcAt.int_none _ _,SeqAt.RcNeAt.int_none _ _⟩
    | @bl _ b2 =>
      obtain rfl:v=Value.bool _:=ry
      exact ⟨SeqAt.EqAt.int_bool _ _ _,SeqAt.RcAt.int_bool _ _ _,SeqAt.RcNeAt.int_bool _ _ _⟩
    | @int _ b2 =>
      obtain ⟨_,rfl⟩:=ry
      exact ⟨SeqAt.EqAt.int_int _ _ _ _,SeqAt.RcAt.int_int _ _ _ _,SeqAt.RcNeAt.int_int _ _ _ _⟩
    | @str _ b2 =>
      obtain ⟨_,rfl⟩:=ry
      exact ⟨SeqAt.EqAt.int_str _ _ _ _,SeqAt.RcAt.int_str _ _ _ _,SeqAt.RcNeAt.int_str _ _ _ _⟩
    | @tup m b ys es hb kl k =>
      obtain rfl:v=Value.ref _:=ry
      obtain ⟨its2,r2,t2,z2⟩:=I.tuple hb
      have l2:=r2.length
      exact ⟨SeqAt.EqAt.int_tuple _ _ t2 (by omega),SeqAt.RcAt.int_tuple _ _ t2 (by omega),SeqAt.RcNeAt.int_tuple _ _ t2 (by omega)⟩
    | @lst m b ys es hb kl k =>
      obtain rfl:v=Value.ref _:=ry
      obtain ⟨its2,r2,t2,z2⟩:=I.list hb
      have l2:=r2.length
      exact ⟨SeqAt.EqAt.int_list _ _ t2.isList (by omega),SeqAt.RcAt.int_list _ _ t2.isList (by omega),SeqAt.RcNeAt.int_list _ _ t2.isList (by omega)⟩
  | @str n b1 =>
    intro m y e h2 A u v hu rx ry
    obtain ⟨_,rfl⟩:=rx
    cases h2 with
    | @non  =>
      obtain rfl:v=Value.none:=ry
      exact ⟨SeqAt.EqAt.str_none _ _,SeqAt.RcAt.str_none _ _,SeqAt.RcNeAt.str_none _ _⟩
    | @bl _ b2 =>
      obtain rfl:v=Value.bool _:=ry
      exact ⟨SeqAt.EqAt.str_bool _ _ _,SeqAt.RcAt.str_bool _ _ _,SeqAt.RcNeAt.str_bool _ _ _⟩
    | @int _ b2 =>
      obtain ⟨_,rfl⟩:=ry
      exact ⟨SeqAt.EqAt.str_int _ _ _ _,SeqAt.RcAt.str_int _ _ _ _,SeqAt.RcNeAt.str_int _ _ _ _⟩
    | @str _ b2 =>
      obtain ⟨_,rfl⟩:=ry
      exact ⟨SeqAt.EqAt.str_str _ _ _ _,SeqAt.RcAt.str_str _ _ _ _,SeqAt.RcNeAt.str_str _ _ _ _⟩
    | @tup m b ys es hb kl k =>
      obtain rfl:v=Value.ref _:=ry
      obtain ⟨its2,r2,t2,z2⟩:=I.tuple hb
      have l2:=r2.length
      exact ⟨SeqAt.EqAt.str_tuple _ _ t2 (by omega),SeqAt.RcAt.str_tuple _ _ t2 (by omega),SeqAt.RcNeAt.str_tuple _ _ t2 (by omega)⟩
    | @lst m b ys es hb kl k =>
      obtain rfl:v=Value.ref _:=ry
      obtain ⟨its2,r2,t2,z2⟩:=I.list hb
      have l2:=r2.length
      exact ⟨SeqAt.EqAt.str_list _ _ t2.isList (by omega),SeqAt.RcAt.str_list _ _ t2.isList (by omega),SeqAt.RcNeAt.str_list _ _ t2.isList (by omega)⟩
  | @tup n a xs ds ha hl h ih =>
    intro m y e h2 A u v hu rx ry
    obtain rfl:u=Value.ref _:=rx
    obtain ⟨its,r1,t1,z1⟩:=I.tuple ha
    have l1:=r1.length
    cases h2 with
    | @non  =>
      obtain rfl:v=Value.none:=ry
      exact ⟨SeqAt.EqAt.tuple_none t1 (by omega),SeqAt.RcAt.tuple_none t1 (by omega),SeqAt.RcNeAt.tuple_none t1 (by omega)⟩
    | @bl _ b2 =>
      obtain rfl:v=Value.bool _:=ry
      exact ⟨SeqAt.EqAt.tuple_bool _ t1 (by omega),SeqAt.RcAt.tuple_bool _ t1 (by omega),SeqAt.RcNeAt.tuple_bool _ t1 (by omega)⟩
    | @int _ b2 =>
      obtain ⟨_,rfl⟩:=ry
      exact ⟨SeqAt.EqAt.tuple_int _ _ t1 (by omega),SeqAt.RcAt.tuple_int _ _ t1 (by omega),SeqAt.RcNeAt.tuple_int _ _ t1 (by omega)⟩
    | @str _ b2 =>
      obtain ⟨_,rfl⟩:=ry
      exact ⟨SeqAt.EqAt.tuple_str _ _ t1 (by omega),SeqAt.RcAt.tuple_str _ _ t1 (by omega),SeqAt.RcNeAt.tuple_str _ _ t1 (by omega)⟩
    | @tup m b ys es hb kl k =>
      obtain rfl:v=Value.ref _:=ry
      obtain ⟨its2,r2,t2,z2⟩:=I.tuple hb
      have l2:=r2.length
      have step:∀ (j:Nat) (h1:j < its.toArray.size) (h2:j < its2.toArray.size),SeqAt.EqAt A.in1 s its.toArray[j] its2.toArray[j] (at2 dEq ds es j):=fun j h1 h2=>by
        obtain ⟨x,hx,rx⟩:=xer r1 h1
        obtain ⟨y,hy,ry⟩:=xer r2 h2
        have j1:j < ds.length:=by simp at h1; omega
        have j2:j < es.length:=by simp at h2; omega
        rw [xfl (List.getElem?_eq_getElem j1) (List.getElem?_eq_getElem j2)]
        exact (ih j x _ hx (List.getElem?_eq_getElem j1) (k j y _ hy (List.getElem?_eq_getElem j2)) (A:=A.in1) (by show A.units + 1 + n + m < cLine; omega) rx ry).1
      have all:=xe7 (xs:=ds) (ys:=es) (e:=at2 dEq ds es) fun j x y h1 h2=>xfl h1 h2
      have both:SeqAt.RcAt A s (.ref a) (.ref b) (dEqs ds es)∧SeqAt.RcNeAt A s (.ref a) (.ref b) (!dEqs ds es):=by
        have z1:=SeqAt.RcAt.tuples (A:=A) (e:=at2 dEq ds es) (show s.heap.IsTuple a its.toArray from t1) (show s.heap.IsTuple b its2.toArray from t2) (by omega) step
        have z2:=SeqAt.RcNeAt.tuples (A:=A) (e:=at2 dEq ds es) (show s.heap.IsTuple a its.toArray from t1) (show s.heap.IsTuple b its2.toArray from t2) (by omega) step
        have e1:its.toArray.size=ds.length:=by simp; omega
        have e2:its2.toArray.size=es.length:=by simp; omega
        rw [e1,e2,all] at z1 z2
        exact ⟨z1,z2⟩
      simp only [dEq]
      refine ⟨?_,both⟩
      by_cases q:a=b
      · subst q
        have ed:DV.tup ds=DV.tup es:=xhb I (Dv.tup ha hl h) (Dv.tup hb kl k)
        rw [show es=ds by injection ed with z; exact z.symm,xcp]
        exact SeqAt.EqAt.same _
      · exact .of_refs q both.1
    | @lst m b ys es hb kl k =>
      obtain rfl:v=Value.ref _:=ry
      obtain ⟨its2,r2,t2,z2⟩:=I.list hb
      have l2:=r2.length
      exact ⟨SeqAt.EqAt.tuple_list t1 t2.isList (by omega),SeqAt.RcAt.tuple_list t1 t2.isList (by omega),SeqAt.RcNeAt.tuple_list t1 t2.isList (by omega)⟩
  | @lst n a xs ds ha hl h ih =>
    intro m y e h2 A u v hu rx ry
    obtain rfl:u=Value.ref _:=rx
    obtain ⟨its,r1,t1,z1⟩:=I.list ha
    have l1:=r1.length
    cases h2 with
    | @non  =>
      obtain rfl:v=Value.none:=ry
      exact ⟨SeqAt.EqAt.list_none t1.isList (by omega),SeqAt.RcAt.list_none t1.isList (by omega),SeqAt.RcNeAt.list_none t1.isList (by omega)⟩
    | @bl _ b2 =>
      obtain rfl:v=Value.bool _:=ry
      exact ⟨SeqAt.EqAt.list_bool _ t1.isList (by omega),SeqAt.RcAt.list_bool _ t1.isList (by omega),SeqAt.RcNeAt.list_bool _ t1.isList (by omega)⟩
    | @int _ b2 =>
      obtain ⟨_,rfl⟩:=ry
      exact ⟨SeqAt.EqAt.list_int _ _ t1.isList (by omega),SeqAt.RcAt.list_int _ _ t1.isList (by omega),SeqAt.RcNeAt.list_int _ _ t1.isList (by omega)⟩
    | @str _ b2 =>
      obtain ⟨_,rfl⟩:=ry
      exact ⟨SeqAt.EqAt.list_str _ _ t1.isList (by omega),SeqAt.RcAt.list_str _ _ t1.isList (by omega),SeqAt.RcNeAt.list_str _ _ t1.isList (by omega)⟩
    | @tup m b ys es hb kl k =>
      obtain rfl:v=Value.ref _:=ry
      obtain ⟨its2,r2,t2,z2⟩:=I.tuple hb
      have l2:=r2.length
      exact ⟨SeqAt.EqAt.list_tuple t1.isList t2 (by omega),SeqAt.RcAt.list_tuple t1.isList t2 (by omega),SeqAt.RcNeAt.list_tuple t1.isList t2 (by omega)⟩
    | @lst m b ys es hb kl k =>
      obtain rfl:v=Value.ref _:=ry
      obtain ⟨its2,r2,t2,z2⟩:=I.list hb
      have l2:=r2.length
      have step:∀ (j:Nat) (h1:j < its.toArray.size) (h2:j < its2.toArray.size),SeqAt.EqAt A.in1 s its.toArray[j] its2.toArray[j] (at2 dEq ds es j):=fun j h1 h2=>by
        obtain ⟨x,hx,rx⟩:=xer r1 h1
        obtain ⟨y,hy,ry⟩:=xer r2 h2
        have j1:j < ds.length:=by simp at h1; omega
        have j2:j < es.length:=by simp at h2; omega
        rw [xfl (List.getElem?_eq_getElem j1) (List.getElem?_eq_getElem j2)]
        exact (ih j x _ hx (List.getElem?_eq_getElem j1) (k j y _ hy (List.getElem?_eq_getElem j2)) (A:=A.in1) (by show A.units + 1 + n + m < cLine; omega) rx ry).1
      have all:=xe7 (xs:=ds) (ys:=es) (e:=at2 dEq ds es) fun j x y h1 h2=>xfl h1 h2
      have both:SeqAt.RcAt A s (.ref a) (.ref b) (dEqs ds es)∧SeqAt.RcNeAt A s (.ref a) (.ref b) (!dEqs ds es):=by
        have e1:its.toArray.size=ds.length:=by simp; omega
        have e2:its2.toArray.size=es.length:=by simp; omega
        by_cases c:ds.length=es.length
        · have z1:=SeqAt.RcAt.lists (A:=A) (e:=at2 dEq ds es) t1.isList t2.isList (by omega) (by omega) step
          have z2:=SeqAt.RcNeAt.lists (A:=A) (e:=at2 dEq ds es) t1.isList t2.isList (by omega) (by omega) step
          have all':(List.range ds.length).all (at2 dEq ds es)=dEqs ds es:=by
            rw [← all,c,Nat.min_self]
            simp
          rw [e1,all'] at z1 z2
          exact ⟨z1,z2⟩
        · rw [xg6 c]
          exact ⟨SeqAt.RcAt.lists_lengths (A:=A) t1.isList t2.isList (by rw [e1,e2]; simpa using c) (by omega),SeqAt.RcNeAt.lists_lengths (A:=A) t1.isList t2.isList (by rw [e1,e2]; simpa using c) (by omega)⟩
      simp only [dEq]
      refine ⟨?_,both⟩
      by_cases q:a=b
      · subst q
        have ed:DV.lst ds=DV.lst es:=xhb I (Dv.lst ha hl h) (Dv.lst hb kl k)
        rw [show es=ds by injection ed with z; exact z.symm,xcp]
        exact SeqAt.EqAt.same _
      · exact .of_refs q both.1
end
theorem Same.seqL {K:PySem.W.Frag} {H H':Hp} {a:Addr} {xs:List V} (s:Same H H') (h:SqL K H a xs):SqL K H' a xs:=by
 rcases h with (h | ⟨ob,h⟩) | h
 ·exact .inl (.inl (s _ _ h))
 ·exact .inl (.inr ⟨ob,s _ _ h⟩)
 ·exact .inr h
def rNeV (K:PySem.W.Frag):R2:=fun x y H Q=>∃ (n m:Nat) (d e:DV),Dv K H n x d∧Dv K H m y e∧n≤9∧m≤9∧Q (.bl (!dEq d e)) H
def rInV (K:PySem.W.Frag) (neg:Bool):R2:=fun x y H Q=>∃ (n m:Nat) (d:DV) (es:List DV),Dv K H n x d∧Dv K H m y (.lst es)∧n≤9∧m≤9∧Q (.bl (if neg then !es.any (fun z=>dEq z d) else es.any fun z=>dEq z d)) H
section
variable {X:Cx}
theorem xhf (hu:X.A.units + 20 < cLine):OpR X (compareOp .NotEq) (rNeV X.K):=by
 intro pins s σ H x y u v Q I rx ry h
 obtain ⟨n,m,d,e,h1,h2,hn,hm,q⟩:=h
 exact PySem.W.cmp_ofNotEq ((xjp I h1 h2 (A:=X.A) (by omega) rx ry).2.2 X.prog X.w X.xe _ ⟨.bl _,H,I,rfl,q⟩)
theorem xg5 {α β:Type} {f:α→Bool} {g:β→Bool}:∀ {xs:List α} {ys:List β},xs.length=ys.length→(∀ (j:Nat) (x:α) (y:β),xs[j]?=some x→ys[j]?=some y→f x=g y)→xs.any f=ys.any g
 | [],[],_,_=>rfl
 | [],_ :: _,h,_=>by cases h
 | _ :: _,[],h,_=>by cases h
 | x :: xs,y :: ys,h,k=>by
  rw [List.any_cons,List.any_cons,k 0 x y rfl rfl,xg5 (xs:=xs) (ys:=ys) (by simpa using h) fun j a b h1 h2=>k (j + 1) a b (by simpa using h1) (by simpa using h2)]
noncomputable def eOf (K:PySem.W.Frag) (H:Hp) (m:Nat) (d:DV) (z:V):Bool:=@dite Bool (∃ e,Dv K H m z e) (Classical.propDecidable _) (fun h=>dEq h.choose d) fun _=>false
theorem xfn {pins:List (Addr × Obj)} {σ:St} {H:Hp} {s:Shared} (I:Inv X pins σ H s) {m:Nat} {d e:DV} {z:V} (h:Dv X.K H m z e):eOf X.K H m d z=dEq e d:=by
 unfold eOf
 rw [dif_pos ⟨e,h⟩]
 have ex:∃ e,Dv X.K H m z e:=⟨e,h⟩
 rw [xhb I ex.choose_spec h]
theorem xoz (hu:X.A.units + 20 < cLine):OpR X (compareOp .In) (rInV X.K false):=by
 intro pins s σ H x y v u Q I rx ry h
 obtain ⟨n,m,d,es,h1,h2,hn,hm,q⟩:=h
 cases h2 with
 | @lst m a xs _ ha hl k =>
  cases ry
  obtain ⟨its,r,pl,hz⟩:=I.list ha
  have get:∀ z ∈ xs,∃ (j:Nat) (e:DV),xs[j]?=some z∧es[j]?=some e∧Dv X.K H m z e:=fun z hz=>by
   obtain ⟨j,hj⟩:=List.getElem?_of_mem hz
   have lt:j < es.length:=by rw [← hl]; exact (List.getElem?_eq_some_iff.mp hj).1
   exact ⟨j,es[j],hj,List.getElem?_eq_getElem lt,k j z _ hj (List.getElem?_eq_getElem lt)⟩
  refine SeqAt.in_listAt (eU (eOf X.K H m d)) pl.isList (fun w hw=>?_) ⟨.bl _,H,I,rfl,?_⟩
  ·obtain ⟨z,m1,m2⟩:=xft r w (by simpa using hw)
   obtain ⟨j,e,_,_,he⟩:=get z m1
   rw [xjh m2,xfn I he]
   exact (xjp I he h1 (A:=X.A.in1) (by show X.A.units + 1 + m + n < cLine; omega) m2 rx).1
  ·rw [show its.toArray.any (eU (eOf X.K H m d))=its.any (eU (eOf X.K H m d)) by simp,xhc r,xg5 (g:=fun z=>dEq z d) hl fun j z e g1 g2=>xfn I (k j z e g1 g2)]
   exact q
theorem xlq (hu:X.A.units + 20 < cLine):OpR X (compareOp .NotIn) (rInV X.K true):=by
 intro pins s σ H x y v u Q I rx ry h
 obtain ⟨n,m,d,es,h1,h2,hn,hm,q⟩:=h
 cases h2 with
 | @lst m a xs _ ha hl k =>
  cases ry
  obtain ⟨its,r,pl,hz⟩:=I.list ha
  have get:∀ z ∈ xs,∃ (j:Nat) (e:DV),xs[j]?=some z∧es[j]?=some e∧Dv X.K H m z e:=fun z hz=>by
   obtain ⟨j,hj⟩:=List.getElem?_of_mem hz
   have lt:j < es.length:=by rw [← hl]; exact (List.getElem?_eq_some_iff.mp hj).1
   exact ⟨j,es[j],hj,List.getElem?_eq_getElem lt,k j z _ hj (List.getElem?_eq_getElem lt)⟩
  refine SeqAt.notIn_listAt (eU (eOf X.K H m d)) pl.isList (fun w hw=>?_) ⟨.bl _,H,I,rfl,?_⟩
  ·obtain ⟨z,m1,m2⟩:=xft r w (by simpa using hw)
   obtain ⟨j,e,_,_,he⟩:=get z m1
   rw [xjh m2,xfn I he]
   exact (xjp I he h1 (A:=X.A.in1) (by show X.A.units + 1 + m + n < cLine; omega) m2 rx).1
  ·rw [show its.toArray.any (eU (eOf X.K H m d))=its.any (eU (eOf X.K H m d)) by simp,xhc r,xg5 (g:=fun z=>dEq z d) hl fun j z e g1 g2=>xfn I (k j z e g1 g2)]
   exact q
end
end L2
set_option maxRecDepth 100000
set_option maxHeartbeats 1000000
namespace L2
open PySem PySem.Spec PyProof.Rows XL PySem.W
def Tp (H H':Hp):Prop:=∀ b xs,H b=some (.tup xs)→H' b=some (.tup xs)
theorem Same.tp {H H':Hp} (s:Same H H'):Tp H H':=fun b xs e=>s b _ e
theorem Tp.trans {H H' H'':Hp} (s:Tp H H') (r:Tp H' H''):Tp H H'':=fun b xs e=>r b xs (s b xs e)
theorem xkt {H:Hp} {l:Addr} {xs ys:List V} (h:H l=some (.lst xs)):Tp H (upd H l (.lst ys)):=fun b zs e=>by
 rw [xg (fun z=>by rw [z,h] at e; cases e)]
 exact e
section
variable {J:It} {n:Nat} {g:TG} {σ:St} {fr:List Nat} {tc:TT} {te:TE} {l:Addr} {H1:Hp} {Q:VK}
theorem xin (len:Nat) (hlen:len < sizeLine) (hl:H1 l=none) (x:Nat→V) (hgo:∀ i H,i < len→Same H1 H→J.go i H) (hy:∀ i H v H',i < len→Same H1 H→J.yld i H v H'→H'=H∧v=x i) (hst:∀ H,Same H1 H→J.stop len H)
    (p:Nat→Bool) (F:Nat→V→Hp→Prop) (stab:∀ i y H H',Tp H H'→F i y H→F i y H')
    (step:∀ i H2,i < len→Same H1 H2→∀ (N:V→Hp→Prop) (M:Hp→Prop),(∀ y H',Same H2 H'→p i=true→F i y H'→N y H')→(∀ H',Same H2 H'→p i=false→M H') →
      g (x i) (blk0 σ fr n) H2 fun σ' H3=>tc σ' H3 fun b H4=>if b=true then te σ' H4 N else M H4)
    (fin:∀ ys H2,Same H1 H2→H2 l=some (.lst ys)→ys.length=((List.range len).filter p).length→(∀ (j:Nat) (y:V) (i:Nat),ys[j]?=some y→((List.range len).filter p)[j]?=some i→F i y H2)→Q (.ref l) H2):xcq J n g σ fr tc te l H1 Q:=by
  refine xb3 len (fun i ys H2=>Same H1 H2∧H2 l=some (.lst ys)∧ys.length=((List.range i).filter p).length∧∀ (j:Nat) (y:V) (k:Nat),ys[j]?=some y→((List.range i).filter p)[j]?=some k→F k y H2) ?_ ?_ ?_ ?_
  · refine ⟨fun b u e=>?_,xb,rfl,fun j y k e=>by simp at e⟩
    rw [xg (xk e hl)]
    exact e
  · rintro i ys H2 lt ⟨s,_⟩
    exact hgo i H2 lt s
  · rintro i ys H2 v H3 lt ⟨s,el,ly,f⟩ yl N hN
    obtain ⟨rfl,rfl⟩:=hy i H2 v H3 lt s yl
    refine step i H3 lt s _ _ (fun y H' s' pt hf=>?_) (fun H' s' pf=>?_)
    · have el':=s' _ _ el
      have ylen:ys.length < sizeLine:=by
        rw [ly]
        refine Nat.lt_of_le_of_lt (List.length_filter_le _ _) ?_
        rw [List.length_range]
        omega
      refine ⟨el',ylen,hN _ _ ⟨fun b u e=>?_,xb,?_,fun j z k e1 e2=>?_⟩⟩
      · rw [xg (xk e hl)]
        exact s' _ _ (s _ _ e)
      · rw [List.range_succ,List.filter_append,List.length_append,List.length_append,ly,List.filter_cons_of_pos pt]
        rfl
      · rw [List.range_succ,List.filter_append,List.filter_cons_of_pos pt] at e2
        by_cases c:j < ys.length
        · rw [List.getElem?_append_left c] at e1
          rw [List.getElem?_append_left (by omega)] at e2
          exact stab _ _ _ _ ((Same.tp s').trans (xkt el')) (f j z k e1 e2)
        · rw [List.getElem?_append_right (by omega)] at e1 e2
          rw [← ly] at e2
          cases hj:j - ys.length with
          | zero =>
            rw [hj] at e1 e2
            simp at e1 e2
            subst e1 e2
            exact stab _ _ _ _ (xkt el') hf
          | succ m =>
            rw [hj] at e1
            simp at e1
    · refine hN _ _ ⟨s.trans s',s' _ _ el,?_,fun j z k e1 e2=>?_⟩
      · rw [List.range_succ,List.filter_append,List.filter_cons_of_neg (by simp [pf])]
        simpa using ly
      · rw [List.range_succ,List.filter_append,List.filter_cons_of_neg (by simp [pf])] at e2
        simp only [List.filter_nil,List.append_nil] at e2
        exact stab _ _ _ _ (Same.tp s') (f j z k e1 e2)
  · rintro ys H2 ⟨s,el,ly,f⟩
    exact ⟨hst _ s,fin ys H2 s el ly f⟩
theorem xdz {K:PySem.W.Frag} {a:Addr} {xs:List V} (hs:SqL K H1 a xs) (hlen:xs.length < sizeLine) (hl:H1 l=none) (p:Nat→Bool) (F:Nat→V→Hp→Prop) (stab:∀ i y H H',Tp H H'→F i y H→F i y H')
    (step:∀ (i:Nat) (x:V) (H2:Hp),xs[i]?=some x→Same H1 H2→∀ (N:V→Hp→Prop) (M:Hp→Prop),(∀ y H',Same H2 H'→p i=true→F i y H'→N y H')→(∀ H',Same H2 H'→p i=false→M H') →
      g x (blk0 σ fr n) H2 fun σ' H3=>tc σ' H3 fun b H4=>if b=true then te σ' H4 N else M H4)
    (fin:∀ ys H2,Same H1 H2→H2 l=some (.lst ys)→ys.length=((List.range xs.length).filter p).length→(∀ (j:Nat) (y:V) (i:Nat),ys[j]?=some y→((List.range xs.length).filter p)[j]?=some i→F i y H2)→Q (.ref l) H2):xcq (Itl K a) n g σ fr tc te l H1 Q:=by
  refine xin xs.length hlen hl (fun i=>xs.getD i .non) (fun i H lt s=>⟨xs,xs[i],Same.seqL s hs,List.getElem?_eq_getElem lt⟩) (fun i H v H' lt s y=>?_) (fun H s=>⟨xs,Same.seqL s hs,Nat.le_refl _⟩) p F stab (fun i H2 lt s N M h1 h2=>?_) fin
  · obtain ⟨e,f⟩:=y
    have z:=f xs (Same.seqL s hs)
    refine ⟨e,?_⟩
    simp [z]
  · have e:xs[i]?=some (xs.getD i .non):=by simp [List.getElem?_eq_getElem lt]
    exact step i _ H2 e s N M h1 h2
theorem xh4 {i:Nat} {x:V} {σ0:St} {H2:Hp} {N:V→Hp→Prop} {M:Hp→Prop} {g:TG} {te:TE} (h:g x σ0 H2 fun σ' H3=>te σ' H3 N):g x σ0 H2 fun σ' H3=>xcm σ' H3 fun b H4=>if b=true then te σ' H4 N else M H4:=by
 have e:(fun (σ':St) (H3:Hp)=>xcm σ' H3 fun b H4=>if b=true then te σ' H4 N else M H4)=fun σ' H3=>te σ' H3 N:=by
  funext σ' H3
  show (if true=true then te σ' H3 N else M H3)=te σ' H3 N
  rw [if_pos rfl]
 rw [e]
 exact h
theorem filter_all (m:Nat):(List.range m).filter (fun _=>true)=List.range m:=by simp
theorem xbw {K:PySem.W.Frag} {a:Addr} {xs:List V} (hs:SqL K H1 a xs) (hlen:xs.length < sizeLine) (hl:H1 l=none) (F:Nat→V→Hp→Prop) (stab:∀ i y H H',Tp H H'→F i y H→F i y H')
    (step:∀ (i:Nat) (x:V) (H2:Hp),xs[i]?=some x→Same H1 H2→∀ (N:V→Hp→Prop),(∀ y H',Same H2 H'→F i y H'→N y H')→g x (blk0 σ fr n) H2 fun σ' H3=>te σ' H3 N)
    (fin:∀ ys H2,Same H1 H2→H2 l=some (.lst ys)→ys.length=xs.length→(∀ (i:Nat) (y:V),ys[i]?=some y→F i y H2)→Q (.ref l) H2):xcq (Itl K a) n g σ fr xcm te l H1 Q:=by
  refine xdz hs hlen hl (fun _=>true) F stab (fun i x H2 hx s N M h1 h2=>xh4 (i:=i) (step i x H2 hx s N fun y H' s' f=>h1 y H' s' rfl f)) (fun ys H2 s e ly f=>?_)
  rw [filter_all,List.length_range] at ly
  refine fin ys H2 s e ly fun i y hy=>f i y i hy ?_
  rw [filter_all,List.getElem?_range (by have:=(List.getElem?_eq_some_iff.mp hy).1; omega)]
end
theorem xg1 {α:Type} {f:α→V}:∀ {as:List α} {ys:List V},ys.length=as.length→(∀ (i:Nat) (y:V) (a:α),ys[i]?=some y→as[i]?=some a→y=f a)→ys=as.map f
 | [],[],_,_=>rfl
 | [],_ :: _,h,_=>by cases h
 | _ :: _,[],h,_=>by cases h
 | a :: as,y :: ys,h,k=>by
  rw [List.map_cons,k 0 y a rfl rfl,xg1 (as:=as) (ys:=ys) (by simpa using h) fun i y' a' h1 h2=>k (i + 1) y' a' (by simpa using h1) (by simpa using h2)]
end L2
set_option maxRecDepth 100000
set_option maxHeartbeats 1000000
namespace XL
open PySem PySem.MeetsSeq PySem.MeetsSeq2 PySem.MeetsSeq3 PySem.SeqAt
open AutoSeq1 (wpAny_loadPart')
end XL
namespace L2
open PySem PySem.Spec PyProof.Rows XL PySem.W
def xls:Expr→Bool
 | .Starred _ _=>false
 | _=>true
theorem xj1 {e:Expr} {es:List Expr} {env:Env} (h:xls e=true):starEach (e :: es) env=(false,eval e env) :: starEach es env:=by
 cases e <;> first | rfl | cases h
theorem xcl {X:Cx} {e:Expr} {es:List Expr} {te:TE} {t:TA} (ha:PE X e te) (hr:PA X es t) (hn:xls e=true):PA X (e :: es) (xmo te t):=xa ha hr (xj1 hn)
section
variable {X:Cx}
end
section
variable {J:It} {n:Nat} {g:TG} {σ:St} {fr:List Nat} {tc:TT} {te:TE} {l:Addr} {H1:Hp} {Q:VK}
end
end L2
set_option maxRecDepth 100000
set_option maxHeartbeats 1000000
namespace XL
open PySem L2
open PyProof.Rows (assign_Tuple)
section
variable {prog:Program} {w:World} {A:Around} {E:Value→Shared→Prop}
end
section
variable {X:Cx} {pos:Pos}
end
end XL
set_option maxRecDepth 100000
set_option maxHeartbeats 1000000
namespace L2
open PySem PySem.Spec PyProof.Rows XL PySem.W
section
variable {J:It} {n:Nat} {g:TG} {σ:St} {fr:List Nat} {tc:TT} {te:TE} {l:Addr} {H1:Hp} {Q:VK}
end
end L2
set_option maxRecDepth 100000
set_option maxHeartbeats 1000000
namespace L2
open PySem PySem.Spec PyProof.Rows XL PySem.W
section
variable {J:It} {n:Nat} {g:TG} {σ:St} {fr:List Nat} {tc:TT} {te:TE} {l:Addr} {H1:Hp} {Q:VK}
end
end L2
set_option maxRecDepth 100000
set_option maxHeartbeats 1000000
namespace L2
open PySem PySem.Spec PyProof.Rows XL PySem.W PySem.Builtin PySem.Builtin.Str
section
variable {prog:Program} {w:World} {A:Around} {E:Value→Shared→Prop} {s:Shared} {x y:Str} {t u:Tok} {Q:Value→Shared→Prop}
end
section
variable {X:Cx}
end
end L2
set_option maxRecDepth 100000
set_option maxHeartbeats 1000000
namespace L2
open PySem PySem.Spec PyProof.Rows XL
open AutoSeq1 (wpAny_loadPart')
section
variable {prog:Program} {w:World} {A:Around} {E:Value→Shared→Prop} {s:Shared}
theorem xfb {d:Addr} {o:Obj} {es:Array DictEntry} {ep:Nat} {Q:Value→Shared→Prop} (hd:(d == sysModules)=false) (ho:s.heap.get? d=some o) (hc:o.cls=.type "dict") (hdat:o.data=.dict es ep)
    (hQ:Q (.ref s.heap.objs.size) { s with heap:=s.heap.push { cls:=.type "dict_keyiterator",data:=.fields #[.ref d,.int 0 0,.int es.size 0,.int ep 0] } }) :
    wpAny (model prog w) A (pyIter (.ref d)) Q E s:=by
  have hT:s.TypeIs (.ref d) "dict":=⟨o,ho,hc⟩
  refine wpAny_pyIter_slot hT F.slot_dict_iter (wpAny_call_entry F.slot_dict_iter hT F.entry_dict_iter ?_ (F.args_dict_iter_1 _))
  unfold Builtin.«dict.__iter__»
  refine wpAny_bind ?_
  unfold Builtin.Dict.dictSlotNone
  refine wpAny_bind (wpAny_notOrdered_dict hT ?_)
  show wpAny _ _ (pure (Value.ref d)) _ _ s
  refine wpAny_pure ?_
  show wpAny _ _ (Builtin.Dict.showsAll d >>= _) _ _ s
  unfold Builtin.Dict.showsAll
  rw [if_neg (by rw [hd]; exact Bool.false_ne_true)]
  refine wpAny_bind (wpAny_pure ?_)
  refine wpAny_bind (wpAny_dictEntries ho hdat ?_)
  refine wpAny_bind (wpAny_dictEpoch ho hdat ?_)
  refine wpAny_bind (wpAny_newObj_type (wpAny_pure ⟨_,rfl, "dict_keyiterator",_,⟨_,Heap.get?_push_size _ rfl,rfl⟩,F.slot_dict_keyiterator_next.lookup,?_⟩))
  simpa [rawInt] using hQ
end
theorem xdv (d:Addr) (hd:(d == sysModules)=false) (es:Array DictEntry) (ep:Nat) (dct:Option Addr) (sl:Array (Option Value)) :
    Meets (Builtin.«enumerate.__new__» ⟨[.type "enumerate",.ref d],[]⟩) (fun _ R s=>s.heap.get? d=some { cls:=.type "dict",dict:=dct,data:=.dict es ep,slots:=sl } ∧
      R (.ok (.ret (.ref (s.heap.push { cls:=.type "dict_keyiterator",data:=.fields #[.ref d,.int 0 0,.int es.size 0,.int ep 0] }).objs.size)))
        { s with heap:=(s.heap.push { cls:=.type "dict_keyiterator",data:=.fields #[.ref d,.int 0 0,.int es.size 0,.int ep 0] }).push { cls:=.type "enumerate",data:=.fields #[.none,.bool false,.ref s.heap.objs.size,rawInt 0,.none,.none] } }) :=
  .of_wp fun prog w A R s h=>by
    obtain ⟨hp,g,dr,tk,os⟩:=s; obtain ⟨hl,h⟩:=h
    have hsub:=sub_enumerate
    have hI:∀ {A':Around} {E':Value→Shared→Prop} {Q':Value→Shared→Prop},Q' (.ref hp.objs.size) ⟨hp.push { cls:=.type "dict_keyiterator",data:=.fields #[.ref d,.int 0 0,.int es.size 0,.int ep 0] },g,dr,tk,os⟩→wpAny (model prog w) A' (pyIter (.ref d)) Q' E' ⟨hp,g,dr,tk,os⟩:=fun q=>xfb hd hl rfl rfl q
    wp_walk using wpAny_loadPart' hl
    refine wpAny_stack_any fun st=>wpAny_pure ?_
    split
    · rename_i c _ _ _ _ _
      cases (c == Value.type "enumerate")
      · wp_walk using wpAny_loadPart' hl,hI
        exact ⟨_,rfl,h⟩
      · wp_walk using wpAny_loadPart' hl,hI
        exact ⟨_,rfl,h⟩
    · wp_walk using wpAny_loadPart' hl,hI
      exact ⟨_,rfl,h⟩
section
variable {prog:Program} {w:World} {A:Around} {E:Value→Shared→Prop} {s:Shared}
theorem xd3 {d:Addr} {o:Obj} {es:Array DictEntry} {ep:Nat} {Q:Value→Shared→Prop} (hd:(d == sysModules)=false) (ho:s.heap.get? d=some o) (hc:o.cls=.type "dict") (hdat:o.data=.dict es ep)
    (h:∀ h',IsEnum h' (s.heap.objs.size + 1) s.heap.objs.size 0 .none→h'.IsKeyIter s.heap.objs.size d 0 es.size ep→h'.objs.size=s.heap.objs.size + 2 →
      (∀ b o,s.heap.get? b=some o→h'.get? b=some o)→Q (.ref (s.heap.objs.size + 1)) { s with heap:=h' }) :
    wpAny (model prog w) A (call (.type "enumerate") [.ref d]) Q E s:=by
  obtain ⟨c,dct,dt,sl⟩:=o
  replace hc:c=.type "dict":=hc
  replace hdat:dt=.dict es ep:=hdat
  subst hc hdat
  refine callType_new F.called_enumerate (by decide) (F.typeCall_enumerate_1 _) (F.newCall_enumerate_1 _) (fun obj=>F.args_object_init_2 obj _) F.entry_enumerate_new
    (xdv d hd es ep dct sl) ⟨ho,?_⟩
  have hz:(s.heap.push { cls:=.type "dict_keyiterator",data:=.fields #[.ref d,.int 0 0,.int es.size 0,.int ep 0] }).objs.size=s.heap.objs.size + 1:=Heap.size_push ..
  show _∧_
  rw [hz]
  have he:IsEnum ((s.heap.push { cls:=.type "dict_keyiterator",data:=.fields #[.ref d,.int 0 0,.int es.size 0,.int ep 0] }).push
      { cls:=.type "enumerate",data:=.fields #[.none,.bool false,.ref s.heap.objs.size,rawInt 0,.none,.none] }) (s.heap.objs.size + 1) s.heap.objs.size 0 .none:=by
    have:=Heap.get?_push_size (s.heap.push { cls:=.type "dict_keyiterator",data:=.fields #[.ref d,.int 0 0,.int es.size 0,.int ep 0] })
      (o:={ cls:=.type "enumerate",data:=.fields #[.none,.bool false,.ref s.heap.objs.size,rawInt 0,.none,.none] }) rfl
    rw [hz] at this; exact this
  refine ⟨⟨_,he,rfl⟩,h _ he ⟨_,Heap.get?_push_of_some _ (Heap.get?_push_size _ rfl),rfl,rfl⟩ (by rw [Heap.size_push,hz]) fun b o x=>Heap.get?_push_of_some _ (Heap.get?_push_of_some _ x)⟩
end
section
variable {prog:Program} {w:World} {K:Type} [DecidableEq K] {knd:KeyKind prog w K} {A:Around} {E:Value→Shared→Prop} {s:Shared}
theorem xe8 {it d:Addr} {i ep:Nat} {kvs:List (K × Value)} {k:K} {v:Value} {Q:Value→Shared→Prop} (hit:s.heap.IsKeyIter it d i kvs.length ep)
    (hm:s.heap.DictAt knd d kvs ep) (hx:kvs[i]?=some (k,v))
    (hQ:∀ key h',knd.is k key=true→h'.IsKeyIter it d (i + 1) kvs.length ep→Heap.SameBut it s.heap h'→Q key { s with heap:=h' }) :
    wpAny (model prog w) A (Builtin.SmallTypes.nextOf (.ref it)) Q E s:=by
  obtain ⟨o,ho,hc,hd⟩:=id hit
  obtain ⟨od,es,hod,hcd,hdd,hk,hp,hn⟩:=id hm
  unfold Builtin.SmallTypes.nextOf
  refine wpAny_bind (wpAny_callSpecial?_slot (name:=Str.ofString "__next__") hit.typeIs F.slot_dict_keyiterator_next
    (wpAny_call_entry F.slot_dict_keyiterator_next hit.typeIs F.entry_dict_keyiterator_next ?_ (F.args_dict_keyiterator_next_1 _)))
  refine wpAny_bind (wpAny_pure ?_)
  refine wpAny_bind ?_
  refine wpAny_bind ?_
  first | refine wpAny_bind (wpAny_typeNameOfWhole_keyiter hit.typeIs (wpAny_pure ?_)) | refine wpAny_bind (wpAny_typeNameOf_keyiter hit.typeIs (wpAny_pure ?_))
  refine wpAny_bind (wpAny_fieldsOf ho hd ?_)
  have hown:Builtin.Dict_items.ownsTuple "dict_keyiterator"=false:=by decide
  simp only [hown,Bool.false_eq_true,if_false]
  show wpAny _ _ (if (Value.ref d == Value.none)=true then _ else _) _ _ s
  rw [if_neg (show ¬ ((Value.ref d == Value.none)=true) from Bool.false_ne_true)]
  refine wpAny_bind (wpAny_pure ?_)
  refine wpAny_bind (wpAny_dictEntries hod hdd ?_)
  have hsz:es.size=kvs.length:=by rw [← hp.length]; simp
  rw [if_neg (by rw [hsz]; simp)]
  refine wpAny_bind (wpAny_pure ?_)
  refine wpAny_bind (wpAny_dictEpoch hod hdd ?_)
  rw [if_neg (by simp)]
  refine wpAny_pure ?_
  have hlt:i < kvs.length:=by
    rcases Nat.lt_or_ge i kvs.length with h | h
    · exact h
    · simp [List.getElem?_eq_none h] at hx
  have hlt':i < es.size:=by rw [hsz]; exact hlt
  have hkey:knd.is k es[i].key=true:=(hp.get? (e:=es[i]) (by simp [hlt']) hx).1
  simp only [show ¬ ((i:Int) < 0) from by omega,if_false,Int.toNat_natCast,Array.getElem?_eq_getElem hlt']
  refine wpAny_bind ?_
  first | refine wpAny_bind (wpAny_typeNameOfWhole_keyiter hit.typeIs (wpAny_pure ?_)) | refine wpAny_bind (wpAny_typeNameOf_keyiter hit.typeIs (wpAny_pure ?_))
  refine wpAny_bind (wpAny_isOneOf_keyiter hit.typeIs ?_)
  show wpAny _ _ (setField (.ref it) 1 (rawInt ((i:Int) + 1)) >>= _) _ _ s
  refine wpAny_bind (wpAny_setField ho hd (by simp) ?_)
  have hit':(s.heap.update it (Obj.mapFields (·.setIfInBounds 1 (rawInt ((i:Int) + 1))))).IsKeyIter it d (i + 1) kvs.length ep :=
    ⟨_,Heap.get?_update_self _ ho (Obj.isFreed_of_fields (Obj.data_mapFields hd _)),(Obj.cls_mapFields ..).trans hc,by rw [Obj.data_mapFields hd]; simp [rawInt]⟩
  refine wpAny_bind (wpAny_holding ?_)
  refine wpAny_bind (wpAny_isOneOf_keyiter (s:={ s with heap:=s.heap.update it (Obj.mapFields (·.setIfInBounds 1 (rawInt ((i:Int) + 1)))) }) hit'.typeIs ?_)
  show wpAny _ _ (pure es[i].key) _ _ _
  exact wpAny_pure (wpAny_pure ⟨_,rfl,wpAny_pure (hQ _ _ hkey hit' (Heap.SameBut.update ..))⟩)
theorem xdd {it d:Addr} {i ep:Nat} {kvs:List (K × Value)} {Q:Value→Shared→Prop} (hh:A.handled=none) (hit:s.heap.IsKeyIter it d i kvs.length ep)
    (hm:s.heap.DictAt knd d kvs ep) (hx:kvs[i]?=none)
    (hE:∀ h' e,Heap.ExtBut it s.heap h'→(∃ o,h'.get? e=some o∧o.cls=.type "StopIteration")→E (.ref e) { s with heap:=h' }):wpAny (model prog w) A (Builtin.SmallTypes.nextOf (.ref it)) Q E s:=by
  obtain ⟨o,ho,hc,hd⟩:=id hit
  obtain ⟨od,es,hod,hcd,hdd,hk,hp,hn⟩:=id hm
  unfold Builtin.SmallTypes.nextOf
  refine wpAny_bind (wpAny_callSpecial?_slot (name:=Str.ofString "__next__") hit.typeIs F.slot_dict_keyiterator_next
    (wpAny_call_entry F.slot_dict_keyiterator_next hit.typeIs F.entry_dict_keyiterator_next ?_ (F.args_dict_keyiterator_next_1 _)))
  refine wpAny_bind (wpAny_pure ?_)
  refine wpAny_bind ?_
  refine wpAny_bind ?_
  first | refine wpAny_bind (wpAny_typeNameOfWhole_keyiter hit.typeIs (wpAny_pure ?_)) | refine wpAny_bind (wpAny_typeNameOf_keyiter hit.typeIs (wpAny_pure ?_))
  refine wpAny_bind (wpAny_fieldsOf ho hd ?_)
  have hown:Builtin.Dict_items.ownsTuple "dict_keyiterator"=false:=by decide
  simp only [hown,Bool.false_eq_true,if_false]
  show wpAny _ _ (if (Value.ref d == Value.none)=true then _ else _) _ _ s
  rw [if_neg (show ¬ ((Value.ref d == Value.none)=true) from Bool.false_ne_true)]
  refine wpAny_bind (wpAny_pure ?_)
  refine wpAny_bind (wpAny_dictEntries hod hdd ?_)
  have hsz:es.size=kvs.length:=by rw [← hp.length]; simp
  rw [if_neg (by rw [hsz]; simp)]
  refine wpAny_bind (wpAny_pure ?_)
  refine wpAny_bind (wpAny_dictEpoch hod hdd ?_)
  rw [if_neg (by simp)]
  refine wpAny_pure ?_
  have hge:es.size≤i:=by rw [hsz]; simpa using hx
  simp only [show ¬ ((i:Int) < 0) from by omega,if_false,Int.toNat_natCast,Array.getElem?_eq_none hge]
  refine wpAny_bind ?_
  first | refine wpAny_bind (wpAny_typeNameOfWhole_keyiter hit.typeIs (wpAny_pure ?_)) | refine wpAny_bind (wpAny_typeNameOf_keyiter hit.typeIs (wpAny_pure ?_))
  show wpAny _ _ (setField (.ref it) 0 .none >>= _) _ _ s
  refine wpAny_bind (wpAny_setField ho hd (by simp) ?_)
  show wpAny _ _ (newExc (.type "StopIteration") [] >>= _) _ _ _
  refine wpAny_bind ?_
  simp only [newExc,newTuple]
  refine wpAny_bind (wpAny_newObj_type ?_ (by size_fits))
  refine wpAny_bind (m:=firstArgMember _ _) (wpAny_of_eq (a:=Value.none) (by first | rfl | (simp only [firstArgMember]; rfl)) ?_)
  refine wpAny_newObj_type ?_ (by size_fits)
  simp only [raiseNew]
  refine wpAny_bind (wpAny_handled ?_)
  first | rw [show A.in1.handled=none from hh] | rw [hh]
  refine wpAny_bind (wpAny_pure (wpAny_throw ?_))
  exact hE _ _ (((Heap.SameBut.update ..).extBut.push _).push _) ⟨_,Heap.get?_push_size _ rfl,rfl⟩
theorem xfk (hh:A.handled=none) {it d:Addr} (hid:it≠d) {kvs:List (K × Value)} {ep:Nat} :
    Draws prog w A it [it,d] kvs.length (fun i v=>∃ k x,kvs[i]?=some (k,x)∧knd.is k v=true) (fun i h=>h.IsKeyIter it d i kvs.length ep∧h.DictAt knd d kvs ep) where
  live:=fun _ _ st=>let ⟨⟨o,ho,_⟩,_⟩:=st; ⟨o,ho⟩
  frame:=fun _ _ _ st hk=>by
    obtain ⟨⟨o,ho,r⟩,od,es,g,r2⟩:=st
    exact ⟨⟨o,hk it (by simp) o ho,r⟩,od,es,hk d (by simp) od g,r2⟩
  item:=fun i s Q E hi st hQ=>by
    obtain ⟨st,da⟩:=st
    obtain ⟨⟨k,x⟩,hx⟩:∃ y,kvs[i]?=some y:=⟨_,List.getElem?_eq_getElem hi⟩
    exact xe8 st da hx fun key h' hkey hit' hs=>hQ key h' s.toks ⟨k,x,hx,hkey⟩ ⟨hit',da.extBut hs.extBut (Ne.symm hid)⟩ hs
  done:=fun s Q E st hE=>by
    obtain ⟨st,da⟩:=st
    exact xdd hh st da (by simp) fun h' e x y=>hE h' e x y
end
def Itk (d:Addr) (o:Obj) (kvs:List (Key × V)):It :=
 ⟨fun i H=>H d=some (.frz o (.dK kvs))∧i < kvs.length,fun i H v H'=>∃ p k x,kvs[i]?=some (k,x)∧v=.ref p∧H p=none∧H'=upd H p (.tup [.int i,kV k]),fun i H=>H d=some (.frz o (.dK kvs))∧kvs.length≤i⟩
theorem KV.back:∀ {kvs:List (Key × V)} {vs:List (Key × Value)} {i:Nat} {k:Key} {u:Value},KV kvs vs→vs[i]?=some (k,u)→∃ x,kvs[i]?=some (k,x)
 | _,_,_,_,_,.nil,e=>by simp at e
 | (_,x) :: _,(_,_) :: _,0,_,_,.cons r _,e=>by
  simp at e
  obtain ⟨e1,e2⟩:=e
  obtain ⟨r1,r2⟩:=r
  dsimp only at r1 r2
  exact ⟨x,by simp [r1,e1]⟩
 | _,_,i + 1,k,u,.cons _ t,e=>by
  obtain ⟨x,h⟩:=KV.back (i:=i) t (by simpa using e)
  exact ⟨x,by simpa using h⟩
theorem xi9 {P:Program} {w:World} {K:PySem.W.Frag} {elts:List Expr} {x1} {tpos:Pos} (e it d:Addr) (hei:e≠it) (hid:it≠d) (hed:e≠d) (o:Obj) (kvs:List (Key × V)) (ep:Nat) (hep:∃ es,o.data=.dict es ep) :
    Turn P w K (.Tuple elts x1 tpos) (Itk d o kvs) [e,it] e (fun i h=>(∃ old,IsEnum h e it i old)∧h.IsKeyIter it d i kvs.length ep) where
  mem:=by simp
  obj:=fun i h st b hb=>by
    obtain ⟨⟨old,he⟩,⟨o1,e1,c1,d1⟩⟩:=st
    simp only [List.mem_cons,List.not_mem_nil,or_false] at hb
    rcases hb with rfl | rfl
    · exact ⟨_,he,fun v k=>by have k':Data.fields _=Data.cell v:=k; cases k'⟩
    · exact ⟨_,e1,fun v k=>by rw [d1] at k; cases k⟩
  keep:=fun i h h' ⟨⟨old,he⟩,⟨o1,e1,r⟩⟩ k=>⟨⟨old,k e (by simp) _ he⟩,⟨o1,k it (by simp) _ e1,r⟩⟩
  item:=by
    intro X hP hw hK hc i pins s σ H E I hf st hg
    subst hP hw hK
    obtain ⟨⟨old,he⟩,h1⟩:=id st
    obtain ⟨ed,lt⟩:=hg
    obtain ⟨vs,rel,da⟩:=xco I ed hep
    have hl:kvs.length=vs.length:=rel.length
    rw [hl] at h1
    refine wpAny_pyNext_enum_itemD (xfk (A:=X.A.in1) (I.ok.hd hc) hid) he ⟨h1,da⟩ (by omega) hei (by simp [hei,hed]) fun x h' tk px ho hst' hT hsz hk=>?_
    obtain ⟨k,u,hv,hkey⟩:=px
    obtain ⟨y,hx⟩:=rel.back hv
    refine ⟨_,rfl,wpAny_letOwnedTupleGo_enum (s:={ s with heap:=h',toks:=tk + 1 }) ho fun h'' he' hs'=>?_⟩
    have elt:e < s.heap.objs.size:=Heap.lt_size he
    have pne:s.heap.objs.size≠e:=Nat.ne_of_gt elt
    have kk:∀ b o,b ∉ [e,it]→s.heap.get? b=some o→h''.get? b=some o:=fun b o hb g=>by
      simp only [List.mem_cons,List.not_mem_nil,or_false,not_or] at hb
      exact (hs'.2 b hb.1).trans (hk b o hb.1 hb.2 g)
    have I1:Inv X pins σ H { s with heap:=h'',toks:=tk + 1 }:=I.turnedL kk hf
    obtain ⟨n0,nL,nC,nP⟩:=I.size_lt (Nat.le_refl s.heap.objs.size)
    have hp:h''.get? s.heap.objs.size=some { cls:=.type "tuple",data:=.seq #[.int i tk,x] }:=(hs'.2 _ pne).trans hT
    refine ⟨.ref s.heap.objs.size,upd H s.heap.objs.size (.tup [.int i,kV k]),I1.adopt n0 I.sz nL nC nP ⟨by show 2≤sizeLine; decide,[.int i tk,x],.cons ⟨_,rfl⟩ (.cons (xhu hkey) .nil),_,hp,rfl,_,rfl⟩,rfl,
      ⟨_,k,y,hx,rfl,n0,rfl⟩,?_,fun b hb=>?_⟩
    · obtain ⟨⟨o2,g2,r2⟩,_⟩:=hst'
      rw [← hl] at r2
      exact ⟨⟨_,by simpa using he'⟩,⟨o2,(hs'.2 it (Ne.symm hei)).trans g2,r2⟩⟩
    · obtain ⟨o,ho⟩:∃ o,s.heap.get? b=some o:=by
        obtain ⟨o1,e1,_⟩:=h1
        simp only [List.mem_cons,List.not_mem_nil,or_false] at hb
        rcases hb with rfl | rfl
        · exact ⟨_,he⟩
        · exact ⟨_,e1⟩
      rw [xg (Nat.ne_of_lt (Heap.lt_size ho))]
      exact (hf b hb).1
  done:=by
    intro X hP hw hK hc i pins s σ H E I hf st hg
    subst hP hw hK
    obtain ⟨⟨old,he⟩,h1⟩:=id st
    obtain ⟨ed,le⟩:=hg
    obtain ⟨vs,rel,da⟩:=xco I ed hep
    have hl:kvs.length=vs.length:=rel.length
    rw [hl] at h1
    have D:=xfk (A:=X.A.in1) (I.ok.hd hc) hid (knd:=xab X.prog X.w) (kvs:=vs) (ep:=ep)
    have fin:∀ h',Heap.ExtBut it s.heap h'→(none:Option Value)=none∧Inv X pins σ H { s with heap:=h' }:=fun h' hx=>⟨rfl,I.turnedL (t':=s.toks) (fun b o hb g=>by
      simp only [List.mem_cons,List.not_mem_nil,or_false,not_or] at hb
      exact hx b o hb.2 g) hf⟩
    have hT:s.TypeIs (.ref e) "enumerate":=⟨_,he,rfl⟩
    unfold pyNext
    refine wpAny_bind (wpAny_attempt (wpAny_callSpecial?_slot (name:=Str.ofString "__next__") hT F.slot_enumerate_next
      (wpAny_call_entry F.slot_enumerate_next hT F.entry_enumerate_next ?_ (F.args_enumerate_next_1 _))))
    show wpAny _ _ (field (.ref e) 2 >>= _) _ _ _
    refine wpAny_bind (wpAny_field he rfl (x:=.ref it) rfl ?_)
    refine wpAny_bind (xdd (I.ok.hd hc) h1 da (by simp; omega) fun h' x he' hx'=>?_)
    obtain ⟨o,ho,hc⟩:=hx'
    refine wpAny_bind (wpAny_isInstance (T:="StopIteration") (b:=true) ⟨o,ho,hc⟩ isSubtype_stop ?_)
    exact wpAny_pure (fin _ he')
  self:=fun _ _ _ _ _ ⟨⟨_,st⟩,_⟩ h=>wpAny_pyIter_enum st h
def xoy (ta:TA):TI:=fun σ H R=>ta σ H fun vs H1=>∃ d kvs,vs=[.ref d]∧((H1 d=some (.dK kvs)∧∀ ob,R (Itk d ob kvs) (upd H1 d (.frz ob (.dK kvs))))∨∃ ob,H1 d=some (.frz ob (.dK kvs))∧R (Itk d ob kvs) H1)
section
variable {X:Cx} {elts:List Expr} {x1:_} {tpos:Pos}
theorem xmc {a:Expr} {ta:TA} {p pos:Pos} (hg:Gl X "enumerate") (hm:X.mg "enumerate"=none) (ha:PA X [a] ta) (hs:starEach [a] X.env=[(false,eval a X.env)]:=by rfl) :
    PI X (.Tuple elts x1 tpos) (.Call (.Name "enumerate" p) [a] [] pos) (xoy ta):=by
  intro pins s σ H R I h
  refine Call_ (xb1 I hg hm PyProof.Rows.Boot.«enumerate» (PyProof.Rows.callWith_type1 (thn (ha pos pins s σ H _ I h) fun us s1 ⟨vs,H1,I1,r1,q1⟩=>?_) hs rfl))
  obtain ⟨d,kvs,e,q⟩:=q1
  subst e
  obtain ⟨u,rfl,ru⟩:=xbz r1
  obtain rfl:u=Value.ref d:=ru
  have key:∀ H2 ob,H2 d=some (.frz ob (.dK kvs))→Inv X pins σ H2 s1→R (Itk d ob kvs) H2→wpAny (model X.prog X.w) X.A (call (.type "enumerate") [.ref d]) (fun v s1=>wpAny (model X.prog X.w) X.A (pyIter v) (PIE X pins σ (.Tuple elts x1 tpos) R) X.xe s1) X.xe s1:=by
    intro H2 ob e2 I2 q2
    obtain ⟨z,hd,vs,rel,dd⟩:=xcr I2.hok (.inr ⟨ob,e2⟩)
    obtain ⟨ob',es,ep,g,ex,hdat,hk,hp,hn⟩:=id dd
    obtain ⟨g2,_⟩:=I2.hok d _ e2
    rw [g] at g2
    have eo:ob'=ob:=Option.some.inj g2
    subst eo
    have hsz:es.size=vs.length:=by rw [← hp.length]; simp
    refine xd3 hd g (by obtain ⟨o3,g3,c3⟩:=dd.typeIs (s:=s1); rw [g] at g3; cases g3; exact c3) hdat fun h' he h1 hsz' hk'=>?_
    refine wpAny_pyIter_enum (s:={ s1 with heap:=h' }) he ?_
    have I3:Inv X pins σ H2 { s1 with heap:=h' }:=I2.kept (t':=s1.toks) hk'
    have dlt:d < s1.heap.objs.size:=Heap.lt_size g
    rw [hsz,← rel.length] at h1
    refine ⟨_,[s1.heap.objs.size + 1,s1.heap.objs.size],_,_,H2,rfl,I3,xi9 (s1.heap.objs.size + 1) s1.heap.objs.size d (xka (by omega)) (Nat.ne_of_gt dlt) (Nat.ne_of_gt (Nat.lt_succ_of_lt dlt)) ob' kvs ep ⟨es,hdat⟩,⟨⟨_,he⟩,h1⟩,fun b hb=>?_,q2⟩
    have hb':s1.heap.objs.size≤b:=by
      simp only [List.mem_cons,List.not_mem_nil,or_false] at hb
      rcases hb with rfl | rfl
      · exact Nat.le_add_right _ 1
      · exact Nat.le_refl _
    exact I2.fpOk hb' (I2.hok.fresh hb')
  rcases q with ⟨e,q⟩ | ⟨ob,e,q⟩
  · obtain ⟨z,hd,vs,rel,dd⟩:=xdq I1.hok e
    obtain ⟨ob,es,ep,g,ex,hdat,hk,hp,hn⟩:=id dd
    exact key _ ob xb (I1.write (t':=s1.toks) (x:=d) (e:=d) (by rw [e]; exact True.intro) (.inl rfl) (fun b u _ q=>q) ⟨ob,g⟩ ⟨g,I1.hok d _ e⟩) (q ob)
  · exact key _ ob e I1 q
end
theorem xgk {d:Addr} {ob:Obj} {kvs:List (Key × V)} {g:TG} {tb:TS} {D:Ends} {σ:St} {H:Hp} (Pv:Nat→St→Hp→Prop) (h0:Pv 0 σ H) (hl:∀ i σ H,i≤kvs.length→Pv i σ H→H d=some (.frz ob (.dK kvs)))
    (hs:∀ i k x p σ H,kvs[i]?=some (k,x)→H p=none→Pv i σ H→g (.ref p) σ (upd H p (.tup [.int i,kV k])) fun σ2 H2=>tb { D with nx:=Pv (i + 1),ct:=Pv (i + 1),bk:=D.nx } σ2 H2) (hd:∀ σ H,Pv kvs.length σ H→D.nx σ H) :
    ∃ W:Nat→Nat→St→Hp→Prop,(∃ m,W 0 m σ H)∧∀ i m σ H,W i m σ H →
      ((Itk d ob kvs).stop i H∧D.nx σ H)∨((Itk d ob kvs).go i H∧∃ N:St→Hp→Prop,(∀ σ' H',N σ' H'→∃ m',m' < m∧W (i + 1) m' σ' H')∧∀ x H',(Itk d ob kvs).yld i H x H'→g x σ H' fun σ2 H2=>tb { D with nx:=N,ct:=N,bk:=D.nx } σ2 H2):=by
  refine ⟨fun i m σ H=>m=kvs.length - i∧i≤kvs.length∧Pv i σ H,⟨kvs.length,by simp,Nat.zero_le _,h0⟩,?_⟩
  rintro i m σ H ⟨rfl,hi,p⟩
  have q:=hl i σ H hi p
  by_cases hlt:i < kvs.length
  · refine .inr ⟨⟨q,hlt⟩,Pv (i + 1),fun σ' H' p'=>⟨kvs.length - (i + 1),by omega,rfl,hlt,p'⟩,fun x H' y=>?_⟩
    obtain ⟨r,k,x',e1,rfl,hr,rfl⟩:=y
    exact hs i k x' r σ H e1 hr p
  · have e:i=kvs.length:=by omega
    subst e
    exact .inl ⟨⟨q,Nat.le_refl _⟩,hd σ H p⟩
def Itw (d:Addr) (o:Obj) (kvs:List (Key × V)):It :=
 ⟨fun i H=>H d=some (.frz o (.dK kvs))∧i < kvs.length,fun i H v H'=>H'=H∧∃ k,kvs[i]?=some (k,v),fun i H=>H d=some (.frz o (.dK kvs))∧kvs.length≤i⟩
theorem xie {P:Program} {w:World} {K:PySem.W.Frag} {tg:Expr} (d it:Addr) (o:Obj) (kvs:List (Key × V)) (ep:Nat) (hep:∃ es,o.data=.dict es ep) :
    Turn P w K tg (Itw d o kvs) [it] it (fun i h=>h.IsValIter it d i kvs.length ep) where
  mem:=by simp
  obj:=fun i h st b hb=>by
    have e:b=it:=by simpa using hb
    subst e
    obtain ⟨o1,e1,c1,d1⟩:=st
    exact ⟨_,e1,fun v k=>by rw [d1] at k; cases k⟩
  keep:=fun i h h' ⟨o1,e1,r⟩ k=>⟨o1,k it (by simp) _ e1,r⟩
  item:=by
    intro X hP hw hK hc i pins s σ H E I hf st hg
    subst hP hw hK
    obtain ⟨e,lt⟩:=hg
    obtain ⟨vs,rel,da⟩:=xco I e hep
    obtain ⟨f0,f1,f2,f3,f4,f5⟩:=hf it (by simp)
    have hl:kvs.length=vs.length:=rel.length
    obtain ⟨⟨k,x⟩,q⟩:∃ y,kvs[i]=y:=⟨_,rfl⟩
    have hx:kvs[i]?=some (k,x):=by rw [List.getElem?_eq_getElem lt,q]
    obtain ⟨u,hv,ru⟩:=rel.get hx
    rw [hl] at st
    refine wpAny_pyNext_values_item st da hv fun h' hit' hs=>?_
    obtain ⟨o2,g2,c2,d2⟩:=id hit'
    refine ⟨_,rfl,xfg (s:={ s with heap:=h' }) g2 c2 d2 (by decide) ?_⟩
    have I1:Inv X pins σ H { s with heap:=h' }:=I.turned (t':=s.toks) (fun b o hb g=>(hs.2 b hb).trans g) f0 f1 f3 f4 f5
    rw [← hl] at hit'
    exact ⟨x,H,I1,ru,⟨rfl,k,hx⟩,hit',fun b hb=>(hf b hb).1⟩
  done:=by
    intro X hP hw hK hc i pins s σ H E I hf st hg
    subst hP hw hK
    obtain ⟨e,le⟩:=hg
    obtain ⟨vs,rel,da⟩:=xco I e hep
    obtain ⟨f0,f1,f2,f3,f4,f5⟩:=hf it (by simp)
    have hl:kvs.length=vs.length:=rel.length
    rw [hl] at st
    exact wpAny_pyNext_values_end (I.ok.hd hc) st da (by simpa using (by omega:vs.length≤i)) fun h' eb=>⟨rfl,I.turned (t':=s.toks) (fun b o hb e=>eb b o hb e) f0 f1 f3 f4 f5⟩
  self:=fun A i s Q E st h=>wpAny_pyIter_valiter st h
def xp4 (X:Cx) (to:TE):TI:=fun σ H R=>to σ H fun x H1=>∃ d kvs,x=.ref d∧H1 d=some (.dK kvs)∧∀ ob,(∀ o' u',X.H₀ d≠some (.frz o' u'))→R (Itw d ob kvs) (upd H1 d (.frz ob (.dK kvs)))
section
variable {X:Cx} {o:Expr} {to:TE} {tg:Expr} {apos cpos:Pos}
theorem xgc (ho:PE X o to) (hbase:attributeBase o "values" X.env (eval o X.env)=eval o X.env:=by rfl) (hline:(apos.endLine == cpos.line)=true:=by rfl) :
    PI X tg (.Call (.Attribute o "values" apos) [] [] cpos) (xp4 X to):=by
  intro pins s σ H R I h
  refine wpAny_Call_method0_late hbase hline (thn (ho pins s σ H _ I h) fun v s1 ⟨x,H1,I1,r1,q1⟩=>?_)
  obtain ⟨d,kvs,e1,e,q⟩:=q1
  subst e1
  cases r1
  obtain ⟨z,hd,vs,rel,dd⟩:=xdq I1.hok e
  obtain ⟨ob,es,ep,g,ex,hdat,hk,hp,hn⟩:=id dd
  refine ⟨"dict", "dict.values",PySem.F.plainAttrs_dict,PySem.F.slot_dict_values,PySem.F.type_dict_values,dd.typeIs,fun a e2=>?_,Calls.callWith_builtin rfl (PySem.evalArgs_none ?_)⟩
  · cases e2
    exact ⟨ob,g,ex.2.1⟩
  refine call_meetsIn PySem.F.slot_dict_values dd.typeIs PySem.F.entry_dict_values (PySem.F.args_dict_values_1 _) (meets_dict_values (xab X.prog X.w) d hd) ⟨⟨vs,dd⟩,?_⟩
  have da:(s1.heap.push { cls:=.type "dict_values",data:=.fields #[.ref d] }).DictAt (xab X.prog X.w) d vs ep:=⟨ob,es,Heap.get?_push_of_some _ g,ex,hdat,hk,hp,hn⟩
  refine wpAny_pyIter_values (s:={ s1 with heap:=s1.heap.push { cls:=.type "dict_values",data:=.fields #[.ref d] } }) ⟨_,Heap.get?_push_size _ rfl,rfl,rfl⟩ da ?_
  have I2:Inv X pins σ H1 { s1 with heap:=s1.heap.push { cls:=.type "dict_values",data:=.fields #[.ref d] } }:=I1.kept (t':=s1.toks) fun b o e=>Heap.get?_push_of_some _ e
  generalize hs2:({ s1 with heap:=s1.heap.push { cls:=.type "dict_values",data:=.fields #[.ref d] } }:Shared)=s2 at I2
  have g2:s2.heap.get? d=some ob:=by rw [← hs2]; exact Heap.get?_push_of_some _ g
  have I3:Inv X pins σ (upd H1 d (.frz ob (.dK kvs))) s2:=I2.write (t':=s2.toks) (x:=d) (e:=d) (by rw [e]; exact True.intro) (.inl rfl) (fun b u _ q=>q) ⟨ob,g2⟩ ⟨g2,I2.hok d _ e⟩
  have I4:Inv X pins σ (upd H1 d (.frz ob (.dK kvs))) { s2 with heap:=s2.heap.push { cls:=.type "dict_valueiterator",data:=.fields #[.ref d,.int 0 0,.int vs.length 0,.int ep 0] } } :=
    I3.kept (t':=s2.toks) fun b o e=>Heap.get?_push_of_some _ e
  have fin:PIE X pins σ tg R (.ref s2.heap.objs.size) { s2 with heap:=s2.heap.push { cls:=.type "dict_valueiterator",data:=.fields #[.ref d,.int 0 0,.int vs.length 0,.int ep 0] } }:=by
    refine ⟨s2.heap.objs.size,[s2.heap.objs.size],_,_,upd H1 d (.frz ob (.dK kvs)),rfl,I4,xie d _ ob kvs ep ⟨es,hdat⟩,?_,fun b hb=>?_,q ob (I1.nofrz e)⟩
    · have hl:kvs.length=vs.length:=rel.length
      show Heap.IsValIter _ _ d 0 kvs.length ep
      rw [hl]
      exact ⟨_,Heap.get?_push_size _ rfl,rfl,rfl⟩
    · have eb:b=s2.heap.objs.size:=by simpa using hb
      subst eb
      exact I3.fpOk (Nat.le_refl _) (I3.hok.fresh (Nat.le_refl _))
  exact fin
end
end L2
set_option maxRecDepth 100000
set_option maxHeartbeats 1000000
namespace L2
open PySem PySem.Spec PyProof.Rows XL
theorem xjy:typeLookup (.type "list_reverseiterator") "__len__"=pure none:=by rw [typeLookup_type,builtinLookup_eq_fast]; kernel_rfl
theorem xl9:typeLookup (.type "list_reverseiterator") "__length_hint__"=pure (some (.builtin "list_reverseiterator.__length_hint__")):=by rw [typeLookup_type,builtinLookup_eq_fast]; kernel_rfl
section
variable {prog:Program} {w:World} {A:Around} {E:Value→Shared→Prop} {s:Shared}
theorem xmj {I l:Addr} {i:Int} {Q:Bool→Shared→Prop} (hit:s.heap.IsRevIter I l i) (h:Q false s):wpAny (model prog w) A (Builtin.List.listLengthHint (.ref I)) Q E s:=by
 unfold Builtin.List.listLengthHint
 refine wpAny_bind (wpAny_specialOf hit.typeIs xjy ?_)
 show wpAny _ _ (specialOf (Value.ref I) (Str.ofString "__length_hint__") >>= _) _ _ _
 refine wpAny_bind (wpAny_specialOf hit.typeIs xl9 ?_)
 generalize hid:("list_reverseiterator.__length_hint__":String)=id0
 wp_delta
 rw [show splitId id0=some ("list_reverseiterator", "__length_hint__") from by subst hid; decide +kernel]
 subst hid
 refine wpAny_bind (wpAny_isInstance (T:="list_reverseiterator") (b:=true) hit.typeIs (by rw [isSubtype_type]; kernel_rfl) ?_)
 refine wpAny_ite_split (fun hab=>absurd hab (by decide)) (fun _=>?_)
 refine wpAny_ite_split (fun _=>?_) (fun hab=>absurd (by decide +kernel) hab)
 refine wpAny_ite_split (fun hab=>absurd hab (by decide +kernel)) (fun _=>?_)
 exact wpAny_pure h
theorem xjq {R:Result→Shared→Prop} (hh:A.handled=none) {I l:Addr} {items:Array Value} (hne:l≠I) (S:Addr) (hSI:S≠I) (hSl:S≠l) (res:Value) (c₀:Nat) (hit:s.heap.IsRevIter I l ((items.size:Int) - 1)) (hl:s.heap.IsList l items)
    (hS:s.heap.get? S=some { cls:=.type "list",data:=.seq #[] c₀ }) (hn:items.size≤sizeLine)
    (hR:∀ h' tk acc' c',(∀ b o,b≠S→b≠I→s.heap.get? b=some o→h'.get? b=some o)→h'.get? S=some { cls:=.type "list",dict:=none,data:=.seq acc' c',slots:=#[] } →
      ItemsOf (fun i v=>items[items.size - 1 - i]?=some v) acc' items.size→R (.ok (.ret res)) { s with heap:=h',toks:=tk }) :
    wpAny (model prog w) A.in1 (Builtin.List.listExtendWith (.ref S) (.ref I) res)
      (fun fin s'=>match fin with | .done f=>R (.ok f) s' | .again c'=>c'.quiet=true∧codeAny (model prog w) A c' R s') (fun e s'=>R (.error e) s') s:=by
  have hSf:S ∉ [I,l]:=by simp [hSI,hSl]
  have W:=(Walks.listRev (prog:=prog) (w:=w) (A:=A.in1) hh I l hne items).toS
  unfold Builtin.List.listExtendWith
  refine wpAny_bind (wpAny_typeOf hit.typeIs ?_)
  have h1:Builtin.List.listSameRef (.ref S) (.ref I)=false:=by simp [Builtin.List.listSameRef,hSI]
  have h2:(Value.type "list_reverseiterator" == Value.type "list")=false:=by decide
  have h3:(Value.type "list_reverseiterator" == Value.type "tuple")=false:=by decide
  simp only [h1,h2,h3,Bool.or_false,Bool.false_eq_true,if_false]
  refine wpAny_bind (wpAny_pyIter_revIter hit ?_)
  refine wpAny_bind (wpAny_holding (xmj hit ?_))
  rw [if_neg (by decide)]
  have hit0:s.heap.IsRevIter I l ((items.size:Int) - 1 - ((0:Nat):Int)):=by simpa using hit
  refine wpAny_pure ⟨plainId_quiet F.plain_extend_loop _,codeAny_extend_loopS W hn S hSf res items.size 0 _ #[] c₀ rfl (Nat.zero_le _) ⟨Nat.zero_le _,hit0,hl⟩ hS (ItemsOf.nil _) fun s' acc' c' hm hS' hacc=>?_⟩
  rw [Moved.eq_with hm]
  refine hR s'.heap s'.toks acc' c' (fun b o hb hb2 e=>hm.heap b o (fun hmem=>?_) e) hS' hacc
  rcases List.mem_cons.mp hmem with e' | hmem
  · exact hb e'
  · exact hb2 (List.mem_singleton.mp hmem)
theorem xgx {Q:Value→Shared→Prop} (hh:A.handled=none) {I l:Addr} {items:Array Value} (hne:l≠I) (hit:s.heap.IsRevIter I l ((items.size:Int) - 1)) (hl:s.heap.IsList l items) (hn:items.size≤sizeLine)
    (hQ:∀ h' tk acc' c',(∀ b o,b≠I→s.heap.get? b=some o→h'.get? b=some o) →
      h'.get? s.heap.objs.size=some { cls:=.type "list",dict:=none,data:=.seq acc' c',slots:=#[] }→ItemsOf (fun i v=>items[items.size - 1 - i]?=some v) acc' items.size→Q (.ref s.heap.objs.size) { s with heap:=h',toks:=tk }) :
    wpAny (model prog w) A (call (.type "list") [.ref I]) Q E s:=by
  refine callType_codes (Q₁:=fun obj s₁=>obj=.ref s.heap.objs.size∧s₁={ s with heap:=s.heap.push { cls:=.type "list",data:=.seq #[] } }) F.called_list (F.typeCall_list_1 _) F.entry_list_init
    (code_list_new _ ⟨rfl,rfl⟩) fun obj s₁ h₁=>?_
  obtain ⟨rfl,rfl⟩:=h₁
  have hS:(s.heap.push { cls:=.type "list",data:=.seq #[] }).get? s.heap.objs.size=some { cls:=.type "list",data:=.seq #[] }:=Heap.get?_push_size _ rfl
  have iI:I < s.heap.objs.size:=by obtain ⟨o,e,_⟩:=hit; exact Heap.lt_size e
  have il:l < s.heap.objs.size:=by obtain ⟨o,e,_⟩:=hl; exact Heap.lt_size e
  refine ⟨⟨_,hS,rfl⟩,F.args_list_init_2 _ _,?_⟩
  show wpAny _ _ (do let old ← Builtin.List.listItems (.ref s.heap.objs.size); Builtin.List.listUpdate (.ref s.heap.objs.size) (fun _=>#[]); letGo old.toList.reverse; Builtin.List.listExtendWith (.ref s.heap.objs.size) (.ref I) .none) _ _ _
  refine wpAny_bind ?_
  unfold Builtin.List.listItems
  refine wpAny_bind (wpAny_seqItems hS rfl (wpAny_pure ?_))
  show wpAny _ _ (updateSeq s.heap.objs.size (fun _=>#[]) >>= fun _=>letGo (#[]:Array Value).toList.reverse >>= fun _=>Builtin.List.listExtendWith (.ref s.heap.objs.size) (.ref I) .none) _ _ _
  refine wpAny_bind (wpAny_updateSeq hS rfl ?_)
  have hS₂:=Heap.get?_update_self (Obj.mapSeq (fun _=>(#[]:Array Value))) hS rfl
  have oth:∀ b o,s.heap.get? b=some o→((s.heap.push { cls:=.type "list",data:=.seq #[] }).update s.heap.objs.size (Obj.mapSeq (fun _=>(#[]:Array Value)))).get? b=some o :=
    fun b o e=>(Heap.get?_update_other _ _ (Nat.ne_of_gt (Heap.lt_size e))).trans (Heap.get?_push_of_some _ e)
  refine wpAny_bind (wpAny_letGo ?_)
  refine xjq (A:=A.in1) hh hne s.heap.objs.size (Nat.ne_of_gt iI) (Nat.ne_of_gt il) .none _ (hit.at (oth I)) (hl.at (oth l)) hS₂ hn fun h' tk acc' c' hk hS' hacc=>?_
  exact ⟨rfl,hQ h' tk acc' c' (fun b o hb e=>hk b o (Nat.ne_of_lt (Heap.lt_size e)) hb (oth b o e)) hS' hacc⟩
end
def xpt (K:PySem.W.Frag) (ta:TA):TE:=fun σ H Q=>ta σ H fun vs H1=>∃ a xs,vs=[.ref a]∧SqL K H1 a xs∧∀ l,H1 l=none→Q (.ref l) (upd H1 l (.lst xs.reverse))
section
variable {X:Cx}
theorem xjt {a:Expr} {ta:TA} {p p2 pos pos2:Pos} (hc:X.calm=true) (hg:Gl X "list") (hm:X.mg "list"=none) (hg2:Gl X "reversed") (hm2:X.mg "reversed"=none) (ha:PA X [a] ta)
    (hs:starEach [a] X.env=[(false,eval a X.env)]:=by rfl) (hs3:starEach [.Call (.Name "reversed" p2) [a] [] pos2] X.env=[(false,eval (.Call (.Name "reversed" p2) [a] [] pos2) X.env)]:=by rfl) :
    PE X (.Call (.Name "list" p) [.Call (.Name "reversed" p2) [a] [] pos2] [] pos) (xpt X.K ta):=by
  intro pins s σ H Q I h
  refine wpAny_Call_Name_kw (xb1 I hg hm PyProof.Rows.Boot.«list» ?_)
  refine PyProof.Rows.callWith_type1 ?_ (by rw [hs3]; rfl) rfl
  rw [hs3]
  show wpAny _ _ (spliced ((false,eval (.Call (.Name "reversed" p2) [a] [] pos2) X.env) :: backTo pos [])) _ _ s
  refine Calls.spliced_cons ?_
  refine Call_ (xb1 I hg2 hm2 PyProof.Rows.Boot.«reversed» (PyProof.Rows.callWith_type1 (thn (ha pos2 pins s σ H _ I h) fun us s1 ⟨vs,H1,I1,r1,q1⟩=>?_) hs rfl))
  obtain ⟨l,xs,e,hq,q⟩:=q1
  subst e
  obtain ⟨u,rfl,ru⟩:=xbz r1
  obtain rfl:u=Value.ref l:=ru
  obtain ⟨its,rv,p,hz⟩:=I1.list hq
  have hlen:=rv.length
  refine call_reversed_list p.isList ?_
  refine Calls.spliced_nil ?_
  have I2:Inv X pins σ H1 { s1 with heap:=s1.heap.push (revObj l ((its.toArray.size:Int) - 1)) }:=I1.kept (t':=s1.toks) fun b o e=>Heap.get?_push_of_some _ e
  have hit:Heap.IsRevIter (s1.heap.push (revObj l ((its.toArray.size:Int) - 1))) s1.heap.objs.size l ((its.toArray.size:Int) - 1):=⟨_,Heap.get?_push_size _ rfl,rfl,rfl⟩
  have hll:l < s1.heap.objs.size:=by obtain ⟨o,e,_⟩:=p.isList; exact Heap.lt_size e
  have hl2:(s1.heap.push (revObj l ((its.toArray.size:Int) - 1))).IsList l its.toArray:=p.isList.at fun o e=>Heap.get?_push_of_some _ e
  have f2:=I1.fpOk (Nat.le_refl s1.heap.objs.size) (I1.hok.fresh (Nat.le_refl _))
  generalize hs2:({ s1 with heap:=s1.heap.push (revObj l ((its.toArray.size:Int) - 1)) }:Shared)=s2 at I2
  have hit':s2.heap.IsRevIter s1.heap.objs.size l ((its.toArray.size:Int) - 1):=by rw [← hs2]; exact hit
  have hl2':s2.heap.IsList l its.toArray:=by rw [← hs2]; exact hl2
  refine xgx (I.ok.hd hc) (Nat.ne_of_lt hll) hit' hl2' (by simp only [List.size_toArray]; omega) fun h' tk acc' c' hk hS' hacc=>?_
  have I3:Inv X pins σ H1 { s2 with heap:=h',toks:=tk }:=I2.turned (t':=tk) (it:=s1.heap.objs.size) (fun b o hb e=>hk b o hb e) (I1.hok.fresh (Nat.le_refl _)) f2.2.1 f2.2.2.2.1 f2.2.2.2.2.1 f2.2.2.2.2.2
  have z2:s1.heap.objs.size < s2.heap.objs.size:=by obtain ⟨o,e,_⟩:=hit'; exact Heap.lt_size e
  have e1:acc'.toList.length=xs.reverse.length:=by rw [List.length_reverse,hlen]; simpa using hacc.1
  obtain ⟨n0,nL,nC,nP⟩:=I2.size_lt (Nat.le_refl s2.heap.objs.size)
  refine ⟨.ref s2.heap.objs.size,_,I3.adopt n0 I2.sz nL nC nP (show xak X.prog X.w _ h' _ (.lst xs.reverse) from ⟨by rw [List.length_reverse]; exact hz,acc'.toList,c',xiw e1 fun j y u ey eu=>?_,by simpa using hS'⟩),rfl,q _ n0⟩
  have eu':acc'[j]?=some u:=by simpa using eu
  have lt:j < xs.length:=by
    have:=(List.getElem?_eq_some_iff.mp ey).1
    simpa using this
  have h2:=hacc.2 j u eu'
  rw [List.getElem?_reverse lt] at ey
  obtain ⟨u',hu',ru'⟩:=rv.get ey
  have h2':its[its.length - 1 - j]?=some u:=by simpa using h2
  rw [← hlen,hu'] at h2'
  cases h2'
  exact ru'
end
end L2
set_option maxRecDepth 100000
set_option maxHeartbeats 1000000
namespace L2
open PySem PySem.Spec PyProof.Rows XL
def Itkd (d:Addr) (o:Obj) (kvs:List (Key × V)):It :=
 ⟨fun i H=>H d=some (.frz o (.dK kvs))∧i < kvs.length,fun i H v H'=>H'=H∧∃ k x,kvs[i]?=some (k,x)∧v=kV k,fun i H=>H d=some (.frz o (.dK kvs))∧kvs.length≤i⟩
theorem xkn {P:Program} {w:World} {K:PySem.W.Frag} {tg:Expr} (d it:Addr) (o:Obj) (kvs:List (Key × V)) (ep:Nat) (hep:∃ es,o.data=.dict es ep) :
    Turn P w K tg (Itkd d o kvs) [it] it (fun i h=>h.IsKeyIter it d i kvs.length ep) where
  mem:=by simp
  obj:=fun i h st b hb=>by
    have e:b=it:=by simpa using hb
    subst e
    obtain ⟨o1,e1,c1,d1⟩:=st
    exact ⟨_,e1,fun v k=>by rw [d1] at k; cases k⟩
  keep:=fun i h h' ⟨o1,e1,r⟩ k=>⟨o1,k it (by simp) _ e1,r⟩
  item:=by
    intro X hP hw hK hc i pins s σ H E I hf st hg
    subst hP hw hK
    obtain ⟨e,lt⟩:=hg
    obtain ⟨vs,rel,da⟩:=xco I e hep
    obtain ⟨f0,f1,f2,f3,f4,f5⟩:=hf it (by simp)
    have hl:kvs.length=vs.length:=rel.length
    obtain ⟨⟨k,x⟩,q⟩:∃ y,kvs[i]=y:=⟨_,rfl⟩
    have hx:kvs[i]?=some (k,x):=by rw [List.getElem?_eq_getElem lt,q]
    obtain ⟨u,hv,ru⟩:=rel.get hx
    rw [hl] at st
    refine wpAny_pyNext_dict_item st da hv fun key h' hkey hit' hs=>?_
    obtain ⟨o2,g2,c2,d2⟩:=id hit'
    refine ⟨_,rfl,xfg (s:={ s with heap:=h' }) g2 c2 d2 (by decide) ?_⟩
    have I1:Inv X pins σ H { s with heap:=h' }:=I.turned (t':=s.toks) (fun b o hb g=>(hs.2 b hb).trans g) f0 f1 f3 f4 f5
    rw [← hl] at hit'
    exact ⟨kV k,H,I1,xhu hkey,⟨rfl,k,x,hx,rfl⟩,hit',fun b hb=>(hf b hb).1⟩
  done:=by
    intro X hP hw hK hc i pins s σ H E I hf st hg
    subst hP hw hK
    obtain ⟨e,le⟩:=hg
    obtain ⟨vs,rel,da⟩:=xco I e hep
    obtain ⟨f0,f1,f2,f3,f4,f5⟩:=hf it (by simp)
    have hl:kvs.length=vs.length:=rel.length
    rw [hl] at st
    exact wpAny_pyNext_dict_end (I.ok.hd hc) st da (by simpa using (by omega:vs.length≤i)) fun h' eb=>⟨rfl,I.turned (t':=s.toks) (fun b o hb e=>eb b o hb e) f0 f1 f3 f4 f5⟩
  self:=fun A i s Q E st h=>wpAny_pyIter_keyiter st h
def xp6 (to:TE):TI:=fun σ H R=>to σ H fun x H1=>∃ d kvs,x=.ref d∧H1 d=some (.dK kvs)∧∀ ob,R (Itkd d ob kvs) (upd H1 d (.frz ob (.dK kvs)))
section
variable {X:Cx} {o:Expr} {to:TE} {tg:Expr}
theorem xnd (ho:PE X o to):PI X tg o (xp6 to):=by
 intro pins s σ H R I h
 refine thn (ho pins s σ H _ I h) fun v s1 ⟨x,H1,I1,r1,q1⟩=>?_
 obtain ⟨d,kvs,e1,e,q⟩:=q1
 subst e1
 cases r1
 obtain ⟨z,hd,vs,rel,dd⟩:=xdq I1.hok e
 obtain ⟨ob,es,ep,g,ex,hdat,hk,hp,hn⟩:=id dd
 have da:s1.heap.DictAt (xab X.prog X.w) d vs ep:=⟨ob,es,g,ex,hdat,hk,hp,hn⟩
 refine wpAny_pyIter_dict hd da ?_
 have I3:Inv X pins σ (upd H1 d (.frz ob (.dK kvs))) s1:=I1.write (t':=s1.toks) (x:=d) (e:=d) (by rw [e]; exact True.intro) (.inl rfl) (fun b u _ q=>q) ⟨ob,g⟩ ⟨g,I1.hok d _ e⟩
 have I4:Inv X pins σ (upd H1 d (.frz ob (.dK kvs))) { s1 with heap:=s1.heap.push { cls:=.type "dict_keyiterator",data:=.fields #[.ref d,.int 0 0,.int vs.length 0,.int ep 0] } } :=
  I3.kept (t':=s1.toks) fun b o e=>Heap.get?_push_of_some _ e
 refine ⟨s1.heap.objs.size,[s1.heap.objs.size],_,_,upd H1 d (.frz ob (.dK kvs)),rfl,I4,xkn d _ ob kvs ep ⟨es,hdat⟩,?_,fun b hb=>?_,q ob⟩
 ·have hl:kvs.length=vs.length:=rel.length
  show Heap.IsKeyIter _ _ d 0 kvs.length ep
  rw [hl]
  exact ⟨_,Heap.get?_push_size _ rfl,rfl,rfl⟩
 ·have eb:b=s1.heap.objs.size:=by simpa using hb
  subst eb
  exact I3.fpOk (Nat.le_refl _) (I3.hok.fresh (Nat.le_refl _))
end
end L2
namespace Geo
def dn (y r:Int):Int:=if y < r then 1 else -1
def upN (y r:Int):Nat:=if y < r then (r - y).toNat else (y - r).toNat
def wayI (b:Bool):Int:=if b then -1 else 1
def lvN (w x:Int) (b:Bool):Nat:=if b then (x + 1).toNat else (w + 2 - x).toNat
def upL (x y r:Int):List (Int × Int):=(List.range (upN y r)).map fun (i:Nat)=>(x,y + (i:Int) * dn y r)
def lvL (w x:Int) (b:Bool) (r:Int):List (Int × Int):=(List.range (lvN w x b)).map fun (i:Nat)=>(x + (i:Int) * wayI b,r)
def cells (w x y:Int) (b:Bool) (r:Int):List (Int × Int):=upL x y r ++ lvL w x b r
theorem xej {x y r u v:Int}:(u,v) ∈ upL x y r ↔ u=x∧((y≤v∧v < r)∨(r < v∧v≤y)):=by
 unfold upL upN dn
 rw [List.mem_map]
 constructor
 ·rintro ⟨i,hi,e⟩
  rw [List.mem_range] at hi
  injection e with e1 e2
  subst e1
  refine ⟨rfl,?_⟩
  split at hi
  ·rename_i h
   rw [if_pos h] at e2
   left; omega
  ·rename_i h
   rw [if_neg h] at e2
   right; omega
 ·rintro ⟨rfl,h | h⟩
  ·refine ⟨(v - y).toNat,?_,?_⟩
   ·rw [List.mem_range,if_pos (by omega)]; omega
   ·rw [if_pos (by omega)]
    have:((v - y).toNat:Int)=v - y:=by omega
    rw [this]; congr 1; omega
  ·refine ⟨(y - v).toNat,?_,?_⟩
   ·rw [List.mem_range,if_neg (by omega)]; omega
   ·rw [if_neg (by omega)]
    have:((y - v).toNat:Int)=y - v:=by omega
    rw [this]; congr 1; omega
theorem xn5 {w x r u v:Int} {b:Bool} (h1:1≤x) (h2:x≤w):(u,v) ∈ lvL w x b r ↔ v=r∧(if b then 0≤u∧u≤x else x≤u∧u≤w + 1):=by
 unfold lvL lvN wayI
 rw [List.mem_map]
 cases b with
 | true =>
  simp only [if_true]
  constructor
  ·rintro ⟨i,hi,e⟩
   rw [List.mem_range] at hi
   injection e with e1 e2
   exact ⟨e2.symm,by omega,by omega⟩
  ·rintro ⟨rfl,h⟩
   refine ⟨(x - u).toNat,by rw [List.mem_range]; omega,?_⟩
   have:((x - u).toNat:Int)=x - u:=by omega
   rw [this]; congr 1; omega
 | false =>
  simp only [Bool.false_eq_true,if_false]
  constructor
  ·rintro ⟨i,hi,e⟩
   rw [List.mem_range] at hi
   injection e with e1 e2
   exact ⟨e2.symm,by omega,by omega⟩
  ·rintro ⟨rfl,h⟩
   refine ⟨(u - x).toNat,by rw [List.mem_range]; omega,?_⟩
   have:((u - x).toNat:Int)=u - x:=by omega
   rw [this]; congr 1; omega
theorem xb6 {w x y r u v:Int} {b:Bool} (h1:1≤x) (h2:x≤w):(u,v) ∈ cells w x y b r ↔ (u=x∧((y≤v∧v < r)∨(r < v∧v≤y)))∨(v=r∧(if b then 0≤u∧u≤x else x≤u∧u≤w + 1)):=by
 unfold cells
 rw [List.mem_append,xej,xn5 h1 h2]
def btw (v a b:Int):Prop:=min a b≤v∧v≤max a b
instance (v a b:Int):Decidable (btw v a b):=inferInstanceAs (Decidable (_∧_))
def meet (l m:List (Int × Int)):Option (Int × Int):=l.find? fun c=>decide (c ∈ m)
theorem xbv {l m:List (Int × Int)} {p:Prop} [Decidable p] {d:Int × Int} (h:∀ c,c ∈ l∧c ∈ m ↔ p∧c=d):meet l m=if p then some d else none:=by
 unfold meet
 by_cases hp:p
 ·rw [if_pos hp]
  obtain ⟨h1,h2⟩:=(h d).mpr ⟨hp,rfl⟩
  cases e:l.find? (fun c=>decide (c ∈ m)) with
  | none =>
   rw [List.find?_eq_none] at e
   exact absurd (decide_eq_true h2) (e d h1)
  | some c =>
   have hm:=List.find?_some e
   have hl:=List.mem_of_find?_eq_some e
   rw [((h c).mp ⟨hl,of_decide_eq_true hm⟩).2]
 ·rw [if_neg hp,List.find?_eq_none]
  intro c hc hd
  exact hp ((h c).mp ⟨hc,of_decide_eq_true hd⟩).1
theorem xhl {w xn yn rn xf yf rf:Int} {b:Bool} (n1:1≤xn) (n2:xn≤w) (f1:1≤xf) (f2:xf≤w) (hr:rn≠rf) (hx:if b then xn < xf else xf < xn) (c:Int × Int) :
    c ∈ cells w xn yn b rn∧c ∈ cells w xf yf b rf ↔ btw rf yn rn∧c=(xn,rf):=by
  obtain ⟨u,v⟩:=c
  rw [xb6 n1 n2,xb6 f1 f2,Prod.mk.injEq]
  unfold btw
  cases b <;> simp only [if_true,Bool.false_eq_true,if_false] at hx ⊢ <;> constructor
  · rintro ⟨h | h,h' | h'⟩ <;> omega
  · rintro ⟨h,rfl,rfl⟩
    refine ⟨?_,.inr ⟨rfl,by omega⟩⟩
    by_cases e:v=rn
    · exact .inr ⟨e,by omega⟩
    · exact .inl ⟨rfl,by omega⟩
  · rintro ⟨h | h,h' | h'⟩ <;> omega
  · rintro ⟨h,rfl,rfl⟩
    refine ⟨?_,.inr ⟨rfl,by omega⟩⟩
    by_cases e:v=rn
    · exact .inr ⟨e,by omega⟩
    · exact .inl ⟨rfl,by omega⟩
theorem xll {w xn yn rn xf yf rf:Int} {b:Bool} (n1:1≤xn) (n2:xn≤w) (f1:1≤xf) (f2:xf≤w) (hr:rn≠rf) (hx:if b then xn < xf else xf < xn) :
    meet (cells w xn yn b rn) (cells w xf yf b rf)=if btw rf yn rn then some (xn,rf) else none:=xbv (xhl n1 n2 f1 f2 hr hx)
theorem xl5 {w xn yn rn xf yf rf:Int} {b:Bool} (n1:1≤xn) (n2:xn≤w) (f1:1≤xf) (f2:xf≤w) (hr:rn≠rf) (hx:if b then xn < xf else xf < xn) :
    meet (cells w xf yf b rf) (cells w xn yn b rn)=if btw rf yn rn then some (xn,rf) else none:=xbv fun c=>by rw [and_comm]; exact xhl n1 n2 f1 f2 hr hx c
theorem xlc {w x1 y1 r1 x2 y2 r2:Int} (a1:1≤x1) (a2:x1≤w) (b1:1≤x2) (b2:x2≤w) (hx:x1≠x2) :
    meet (cells w x1 y1 true r1) (cells w x2 y2 false r2)=if x2 < x1 then (if btw r2 y1 r1 then some (x1,r2) else if btw r1 y2 r2 then some (x2,r1) else none) else none:=by
  have mem2:∀ u v,(u,v) ∈ cells w x2 y2 false r2 ↔ (u=x2∧((y2≤v∧v < r2)∨(r2 < v∧v≤y2)))∨(v=r2∧x2≤u∧u≤w + 1):=fun u v=>by
    rw [xb6 b1 b2]; simp
  have mem1:∀ u v,(u,v) ∈ cells w x1 y1 true r1 ↔ (u=x1∧((y1≤v∧v < r1)∨(r1 < v∧v≤y1)))∨(v=r1∧0≤u∧u≤x1):=fun u v=>by
    rw [xb6 a1 a2]; simp
  by_cases hlt:x2 < x1
  · rw [if_pos hlt]
    by_cases e:r1=r2
    · subst e
      rw [if_pos (by unfold btw; omega)]
      unfold meet
      show (upL x1 y1 r1 ++ lvL w x1 true r1).find? _=_
      rw [List.find?_append]
      have hn:(upL x1 y1 r1).find? (fun c=>decide (c ∈ cells w x2 y2 false r1))=none:=by
        rw [List.find?_eq_none]
        rintro ⟨u,v⟩ hc hd
        have h1:=xej.mp hc
        have h2:=(mem2 u v).mp (of_decide_eq_true hd)
        omega
      rw [hn]
      have hv:lvL w x1 true r1=(x1,r1) :: (lvL w x1 true r1).tail:=by
        unfold lvL lvN
        obtain ⟨n,hn⟩:∃ n,(x1 + 1).toNat=n + 1:=⟨x1.toNat,by omega⟩
        simp only [if_true,hn,List.range_succ_eq_map,List.map_cons,List.tail_cons]
        simp
      rw [hv,List.find?_cons_of_pos (by exact decide_eq_true ((mem2 x1 r1).mpr (.inr ⟨rfl,by omega,by omega⟩)))]
      rfl
    · by_cases hb:btw r2 y1 r1
      · have key:∀ c,c ∈ upL x1 y1 r1∧c ∈ cells w x2 y2 false r2 ↔ True∧c=(x1,r2):=by
          rintro ⟨u,v⟩
          rw [xej,mem2,Prod.mk.injEq]
          unfold btw at hb
          constructor
          · rintro ⟨h,h' | h'⟩ <;> refine ⟨trivial,?_⟩ <;> omega
          · rintro ⟨_,rfl,rfl⟩
            exact ⟨⟨rfl,by omega⟩,.inr ⟨rfl,by omega,by omega⟩⟩
        have z:=xbv key
        rw [if_pos hb]
        unfold meet at z ⊢
        show (upL x1 y1 r1 ++ lvL w x1 true r1).find? _=_
        rw [List.find?_append,z]
        rfl
      · rw [if_neg hb]
        refine xbv (p:=btw r1 y2 r2) (d:=(x2,r1)) ?_
        rintro ⟨u,v⟩
        rw [mem1,mem2,Prod.mk.injEq]
        unfold btw at hb ⊢
        constructor
        · rintro ⟨h | h,h' | h'⟩ <;> omega
        · rintro ⟨h,rfl,rfl⟩
          refine ⟨.inr ⟨rfl,by omega,by omega⟩,.inl ⟨rfl,by omega⟩⟩
  · rw [if_neg hlt]
    have:=xbv (l:=cells w x1 y1 true r1) (m:=cells w x2 y2 false r2) (p:=False) (d:=(0,0)) (by
      rintro ⟨u,v⟩
      rw [mem1,mem2]
      constructor
      · rintro ⟨h | h,h' | h'⟩ <;> omega
      · rintro ⟨h,_⟩; exact h.elim)
    simpa using this
theorem xje {w x1 y1 r1 x2 y2 r2:Int} (a1:1≤x1) (a2:x1≤w) (b1:1≤x2) (b2:x2≤w) (hx:x1≠x2) :
    meet (cells w x2 y2 false r2) (cells w x1 y1 true r1)=if x2 < x1 then (if btw r1 y2 r2 then some (x2,r1) else if btw r2 y1 r1 then some (x1,r2) else none) else none:=by
  have mem2:∀ u v,(u,v) ∈ cells w x2 y2 false r2 ↔ (u=x2∧((y2≤v∧v < r2)∨(r2 < v∧v≤y2)))∨(v=r2∧x2≤u∧u≤w + 1):=fun u v=>by
    rw [xb6 b1 b2]; simp
  have mem1:∀ u v,(u,v) ∈ cells w x1 y1 true r1 ↔ (u=x1∧((y1≤v∧v < r1)∨(r1 < v∧v≤y1)))∨(v=r1∧0≤u∧u≤x1):=fun u v=>by
    rw [xb6 a1 a2]; simp
  by_cases hlt:x2 < x1
  · rw [if_pos hlt]
    by_cases e:r1=r2
    · subst e
      rw [if_pos (by unfold btw; omega)]
      unfold meet
      show (upL x2 y2 r1 ++ lvL w x2 false r1).find? _=_
      rw [List.find?_append]
      have hn:(upL x2 y2 r1).find? (fun c=>decide (c ∈ cells w x1 y1 true r1))=none:=by
        rw [List.find?_eq_none]
        rintro ⟨u,v⟩ hc hd
        have h1:=xej.mp hc
        have h2:=(mem1 u v).mp (of_decide_eq_true hd)
        omega
      rw [hn]
      have hv:lvL w x2 false r1=(x2,r1) :: (lvL w x2 false r1).tail:=by
        unfold lvL lvN
        obtain ⟨n,hn⟩:∃ n,(w + 2 - x2).toNat=n + 1:=⟨(w + 1 - x2).toNat,by omega⟩
        simp only [Bool.false_eq_true,if_false,hn,List.range_succ_eq_map,List.map_cons,List.tail_cons]
        simp
      rw [hv,List.find?_cons_of_pos (by exact decide_eq_true ((mem1 x2 r1).mpr (.inr ⟨rfl,by omega,by omega⟩)))]
      rfl
    · by_cases hb:btw r1 y2 r2
      · have key:∀ c,c ∈ upL x2 y2 r2∧c ∈ cells w x1 y1 true r1 ↔ True∧c=(x2,r1):=by
          rintro ⟨u,v⟩
          rw [xej,mem1,Prod.mk.injEq]
          unfold btw at hb
          constructor
          · rintro ⟨h,h' | h'⟩ <;> refine ⟨trivial,?_⟩ <;> omega
          · rintro ⟨_,rfl,rfl⟩
            exact ⟨⟨rfl,by omega⟩,.inr ⟨rfl,by omega,by omega⟩⟩
        have z:=xbv key
        rw [if_pos hb]
        unfold meet at z ⊢
        show (upL x2 y2 r2 ++ lvL w x2 false r2).find? _=_
        rw [List.find?_append,z]
        rfl
      · rw [if_neg hb]
        refine xbv (p:=btw r2 y1 r1) (d:=(x1,r2)) ?_
        rintro ⟨u,v⟩
        rw [mem2,mem1,Prod.mk.injEq]
        unfold btw at hb ⊢
        constructor
        · rintro ⟨h | h,h' | h'⟩ <;> omega
        · rintro ⟨h,rfl,rfl⟩
          refine ⟨.inr ⟨rfl,by omega,by omega⟩,.inl ⟨rfl,by omega⟩⟩
  · rw [if_neg hlt]
    have:=xbv (l:=cells w x2 y2 false r2) (m:=cells w x1 y1 true r1) (p:=False) (d:=(0,0)) (by
      rintro ⟨u,v⟩
      rw [mem2,mem1]
      constructor
      · rintro ⟨h | h,h' | h'⟩ <;> omega
      · rintro ⟨h,_⟩; exact h.elim)
    simpa using this
theorem meet_at {l m:List (Int × Int)} {i:Nat} {c:Int × Int} (hc:l[i]?=some c) (no:∀ d ∈ l.take i,d ∉ m) (hm:c ∈ m):meet l m=some c:=by
 obtain ⟨h,hi⟩:=List.getElem?_eq_some_iff.mp hc
 have e:l.take i ++ c :: l.drop (i + 1)=l:=by
  rw [← hi,List.getElem_cons_drop,List.take_append_drop]
 have hn:(l.take i).find? (fun c=>decide (c ∈ m))=none:=by
  rw [List.find?_eq_none]
  intro d hd z
  exact no d hd (of_decide_eq_true z)
 have z:(l.take i ++ c :: l.drop (i + 1)).find? (fun c=>decide (c ∈ m))=some c:=by
  rw [List.find?_append,hn,List.find?_cons_of_pos (by exact decide_eq_true hm)]
  rfl
 rw [e] at z
 exact z
theorem meet_no {l m:List (Int × Int)} (no:∀ d ∈ l,d ∉ m):meet l m=none:=by
 unfold meet
 rw [List.find?_eq_none]
 intro d hd z
 exact no d hd (of_decide_eq_true z)
end Geo
namespace Geo
def absI (a:Int):Int:=if a < 0 then -a else a
def acr (w x:Int) (b:Bool):Int:=if b then x else w + 1 - x
theorem tri {a b c:Int}:absI (a - c)≤absI (a - b) + absI (b - c):=by
 unfold absI
 split <;> split <;> split <;> omega
theorem xdl {v a b:Int} (h:btw v a b):absI (a - b)=absI (a - v) + absI (v - b):=by
 unfold btw at h
 unfold absI
 split <;> split <;> split <;> omega
theorem xi0 {cn cf yn rn yf rf:Int} (hc:cn < cf) (hr:rn≠rf) (h:btw rf yn rn) :
    absI (yn - rf) + absI (yf - rn) < absI (yn - rn) + absI (yf - rf)∨(absI (yn - rf) + absI (yf - rn)=absI (yn - rn) + absI (yf - rf)∧cn * absI (yn - rn) + cf * absI (yf - rf) < cn * absI (yn - rf) + cf * absI (yf - rn)):=by
  have e1:=xdl h
  have e2:=tri (a:=yf) (b:=rf) (c:=rn)
  by_cases c:absI (yf - rn)=absI (yf - rf) + absI (rf - rn)
  · refine .inr ⟨by omega,?_⟩
    rw [c,e1,Int.mul_add,Int.mul_add]
    have p:0 < absI (rf - rn):=by
      unfold absI
      split <;> omega
    have:=Int.mul_lt_mul_of_pos_right hc p
    omega
  · exact .inl (by omega)
theorem xmd (a b:Int):absI (a - b)=absI (b - a):=by
 unfold absI
 split <;> split <;> omega
theorem ex_pair {w x1 y1 r1 x2 y2 r2:Int} {b1 b2:Bool} (a1:1≤x1) (a2:x1≤w) (c1:1≤x2) (c2:x2≤w) (hx:x1≠x2) (hs:(b1,r1)≠(b2,r2)) (hm:meet (cells w x1 y1 b1 r1) (cells w x2 y2 b2 r2)≠none) :
    (acr w x1 b2 + absI (y1 - r2)) + (acr w x2 b1 + absI (y2 - r1)) < (acr w x1 b1 + absI (y1 - r1)) + (acr w x2 b2 + absI (y2 - r2)) ∨
    (b1=b2∧(acr w x1 b2 + absI (y1 - r2)) + (acr w x2 b1 + absI (y2 - r1))=(acr w x1 b1 + absI (y1 - r1)) + (acr w x2 b2 + absI (y2 - r2)) ∧
      acr w x1 b1 * absI (y1 - r1) + acr w x2 b2 * absI (y2 - r2) < acr w x1 b2 * absI (y1 - r2) + acr w x2 b1 * absI (y2 - r1)):=by
  by_cases hb:b1=b2
  · subst hb
    have hr:r1≠r2:=fun e=>hs (by rw [e])
    by_cases hn:if b1 then x1 < x2 else x2 < x1
    · rw [xll a1 a2 c1 c2 hr hn] at hm
      have hbt:btw r2 y1 r1:=by
        by_cases z:btw r2 y1 r1
        · exact z
        · rw [if_neg z] at hm
          exact absurd rfl hm
      have hc:acr w x1 b1 < acr w x2 b1:=by
        unfold acr
        cases b1 <;> simp at hn ⊢ <;> omega
      rcases xi0 (yf:=y2) hc hr hbt with z | ⟨z,z2⟩
      · exact .inl (by omega)
      · exact .inr ⟨rfl,by omega,z2⟩
    · have hf:if b1 then x2 < x1 else x1 < x2:=by
        cases b1 <;> simp at hn ⊢ <;> omega
      rw [xl5 c1 c2 a1 a2 (Ne.symm hr) hf] at hm
      have hbt:btw r1 y2 r2:=by
        by_cases z:btw r1 y2 r2
        · exact z
        · rw [if_neg z] at hm
          exact absurd rfl hm
      have hc:acr w x2 b1 < acr w x1 b1:=by
        unfold acr
        cases b1 <;> simp at hf ⊢ <;> omega
      rcases xi0 (yf:=y1) hc (Ne.symm hr) hbt with z | ⟨z,z2⟩
      · exact .inl (by omega)
      · exact .inr ⟨rfl,by omega,by omega⟩
  · refine .inl ?_
    have t1:=tri (a:=y2) (b:=r2) (c:=r1)
    have t2:=tri (a:=y1) (b:=r1) (c:=r2)
    have n1:=xmd r2 r1
    cases b1 with
    | true =>
      cases b2 with
      | true=>exact absurd rfl hb
      | false =>
        rw [xlc a1 a2 c1 c2 hx] at hm
        by_cases z:x2 < x1
        · rw [if_pos z] at hm
          have ht:btw r2 y1 r1∨btw r1 y2 r2:=by
            by_cases z1:btw r2 y1 r1
            · exact .inl z1
            · rw [if_neg z1] at hm
              by_cases z2:btw r1 y2 r2
              · exact .inr z2
              · rw [if_neg z2] at hm
                exact absurd rfl hm
          unfold acr
          simp only [if_true,Bool.false_eq_true,if_false]
          rcases ht with u | u
          · have:=xdl u
            omega
          · have:=xdl u
            omega
        · rw [if_neg z] at hm
          exact absurd rfl hm
    | false =>
      cases b2 with
      | false=>exact absurd rfl hb
      | true =>
        rw [xje c1 c2 a1 a2 (Ne.symm hx)] at hm
        by_cases z:x1 < x2
        · rw [if_pos z] at hm
          have ht:btw r2 y1 r1∨btw r1 y2 r2:=by
            by_cases z1:btw r2 y1 r1
            · exact .inl z1
            · rw [if_neg z1] at hm
              by_cases z2:btw r1 y2 r2
              · exact .inr z2
              · rw [if_neg z2] at hm
                exact absurd rfl hm
          unfold acr
          simp only [if_true,Bool.false_eq_true,if_false]
          rcases ht with u | u
          · have:=xdl u
            omega
          · have:=xdl u
            omega
        · rw [if_neg z] at hm
          exact absurd rfl hm
end Geo
set_option maxRecDepth 100000
set_option maxHeartbeats 4000000
namespace S53
open PySem L2 XL
def top (i:Nat):Stmt:=PySem.Challenge.pw_rimnotes_k53_whole_none_meet.main.body.getD i (.Pass ⟨0,0,0,0⟩)
abbrev s_ac:Stmt:=xat (top 17) 0
abbrev s_s:Stmt:=xat (top 18) 1
abbrev s_q:Stmt:=xat (top 18) 2
abbrev s_h:Stmt:=xat (top 18) 3
abbrev s_o:Stmt:=xat (top 19) 1
abbrev s_m:Stmt:=xat (top 19) 2
abbrev s_g:Stmt:=xat (top 19) 3
abbrev s_ag:Stmt:=top 20
abbrev s_ae:Stmt:=top 22
abbrev xbn:Stmt:=top 24
abbrev xb8:Stmt:=top 25
abbrev xbm:Stmt:=top 27
abbrev s_v:Stmt:=top 28
abbrev xa4:Stmt:=top 29
abbrev s_p:Stmt:=top 30
abbrev xa8:Stmt:=top 31
abbrev xbi:Stmt:=top 32
abbrev s_w:Stmt:=top 34
abbrev s_aj:Stmt:=top 35
abbrev s_t:Stmt:=xat (top 41) 0
abbrev s_k:Stmt:=xat (top 41) 1
abbrev s_f:Stmt:=xat (top 41) 4
abbrev s_l:Stmt:=xat (top 41) 6
abbrev s_e:Stmt:=xat (top 41) 8
abbrev s_r:Stmt:=xat (top 41) 9
abbrev s_i:Stmt:=xat (top 41) 10
abbrev s_c:Stmt:=xat (top 41) 15
abbrev s_d:Stmt:=xat (top 41) 16
abbrev s_a:Stmt:=xat (top 41) 17
abbrev s_b:Stmt:=xat (top 41) 18
abbrev s_af:Stmt:=top 43
abbrev s_n:Stmt:=top 44
abbrev s_x:Stmt:=top 45
abbrev s_u:Stmt:=top 46
abbrev s_al:Stmt:=top 47
abbrev s_ab:Stmt:=top 48
abbrev s_aa:Stmt:=top 49
abbrev s_z:Stmt:=top 50
abbrev s_ai:Stmt:=top 52
abbrev s_ad:Stmt:=top 53
abbrev xcd:Stmt:=top 54
set_option genInjectivity false in
set_option genSizeOf false in
structure Adr where
 f_ac:Addr
 d_ac:FuncData
 f_s:Addr
 d_s:FuncData
 f_q:Addr
 d_q:FuncData
 f_h:Addr
 d_h:FuncData
 f_o:Addr
 d_o:FuncData
 f_m:Addr
 d_m:FuncData
 f_g:Addr
 d_g:FuncData
 f_ag:Addr
 d_ag:FuncData
 f_ae:Addr
 d_ae:FuncData
 f_meeting:Addr
 d_meeting:FuncData
 f_total:Addr
 d_total:FuncData
 f_upright:Addr
 d_upright:FuncData
 f_v:Addr
 d_v:FuncData
 f_exchangeable:Addr
 d_exchangeable:FuncData
 f_p:Addr
 d_p:FuncData
 f_exchanged:Addr
 d_exchanged:FuncData
 f_uncrossed:Addr
 d_uncrossed:FuncData
 f_w:Addr
 d_w:FuncData
 f_aj:Addr
 d_aj:FuncData
 f_t:Addr
 d_t:FuncData
 f_k:Addr
 d_k:FuncData
 T_k:Addr
 f_f:Addr
 d_f:FuncData
 f_l:Addr
 d_l:FuncData
 f_e:Addr
 d_e:FuncData
 f_r:Addr
 d_r:FuncData
 f_i:Addr
 d_i:FuncData
 f_c:Addr
 d_c:FuncData
 f_d:Addr
 d_d:FuncData
 f_a:Addr
 d_a:FuncData
 f_b:Addr
 d_b:FuncData
 f_af:Addr
 d_af:FuncData
 f_n:Addr
 d_n:FuncData
 f_x:Addr
 d_x:FuncData
 f_u:Addr
 d_u:FuncData
 f_al:Addr
 d_al:FuncData
 f_ab:Addr
 d_ab:FuncData
 f_aa:Addr
 d_aa:FuncData
 f_z:Addr
 d_z:FuncData
 f_ai:Addr
 d_ai:FuncData
 f_ad:Addr
 d_ad:FuncData
 f_law:Addr
 d_law:FuncData
 C_ao:Addr
 C_ah:Addr
 C_y:Addr
 C_j:Addr
 D_ak:Addr
structure Txt (w:World) (K:PySem.W.Frag) (mg:Str→Option Value) (t:Adr):Prop where
 g_ao:mg "Side"=some (.ref t.C_ao)
 g_ah:mg "LeftSide"=some (.ref t.C_ah)
 g_y:mg "RightSide"=some (.ref t.C_y)
 g_j:mg "Picture"=some (.ref t.C_j)
 F_ac:Fun K "__init__" "Side.__init__" s_ac t.f_ac t.d_ac
 b_ac:x5 K t.d_ac ["self", "width"] []
 F_s:Fun K "rim" "LeftSide.rim" s_s t.f_s t.d_s
 b_s:x5 K t.d_s ["self"] []
 F_q:Fun K "way" "LeftSide.way" s_q t.f_q t.d_q
 b_q:x5 K t.d_q ["self"] []
 F_h:Fun K "across" "LeftSide.across" s_h t.f_h t.d_h
 b_h:x5 K t.d_h ["self", "x"] []
 F_o:Fun K "rim" "RightSide.rim" s_o t.f_o t.d_o
 b_o:x5 K t.d_o ["self"] []
 F_m:Fun K "way" "RightSide.way" s_m t.f_m t.d_m
 b_m:x5 K t.d_m ["self"] []
 F_g:Fun K "across" "RightSide.across" s_g t.f_g t.d_g
 b_g:x5 K t.d_g ["self", "x"] []
 g_ag:mg "side_of"=some (.ref t.f_ag)
 F_ag:Fun K "side_of" "side_of" s_ag t.f_ag t.d_ag
 b_ag:x5 K t.d_ag ["word", "width"] []
 g_ae:mg "cells_of"=some (.ref t.f_ae)
 F_ae:Fun K "cells_of" "cells_of" s_ae t.f_ae t.d_ae
 b_ae:x5 K t.d_ae ["picture", "name", "side", "row"] []
 g_meeting:mg "meeting"=some (.ref t.f_meeting)
 F_meeting:Fun K "meeting" "meeting" xbn t.f_meeting t.d_meeting
 b_meeting:x5 K t.d_meeting ["picture", "one", "other"] []
 g_total:mg "total"=some (.ref t.f_total)
 F_total:Fun K "total" "total" xb8 t.f_total t.d_total
 b_total:x5 K t.d_total ["picture", "pairs"] []
 g_upright:mg "upright"=some (.ref t.f_upright)
 F_upright:Fun K "upright" "upright" xbm t.f_upright t.d_upright
 b_upright:x5 K t.d_upright ["picture", "pairs"] []
 g_v:mg "upright_of"=some (.ref t.f_v)
 F_v:Fun K "upright_of" "upright_of" s_v t.f_v t.d_v
 b_v:x5 K t.d_v ["picture", "pair"] []
 g_exchangeable:mg "exchangeable"=some (.ref t.f_exchangeable)
 F_exchangeable:Fun K "exchangeable" "exchangeable" xa4 t.f_exchangeable t.d_exchangeable
 b_exchangeable:x5 K t.d_exchangeable ["picture", "pairs"] []
 g_p:mg "may_exchange"=some (.ref t.f_p)
 F_p:Fun K "may_exchange" "may_exchange" s_p t.f_p t.d_p
 b_p:x5 K t.d_p ["picture", "one", "other"] []
 g_exchanged:mg "exchanged"=some (.ref t.f_exchanged)
 F_exchanged:Fun K "exchanged" "exchanged" xa8 t.f_exchanged t.d_exchanged
 b_exchanged:x5 K t.d_exchanged ["pairs", "name", "other"] []
 g_uncrossed:mg "uncrossed"=some (.ref t.f_uncrossed)
 F_uncrossed:Fun K "uncrossed" "uncrossed" xbi t.f_uncrossed t.d_uncrossed
 b_uncrossed:x5 K t.d_uncrossed ["picture", "pairs"] []
 g_w:mg "is_whole"=some (.ref t.f_w)
 F_w:Fun K "is_whole" "is_whole" s_w t.f_w t.d_w
 b_w:x5 K t.d_w ["thing", "low", "high"] []
 g_aj:mg "is_name"=some (.ref t.f_aj)
 F_aj:Fun K "is_name" "is_name" s_aj t.f_aj t.d_aj
 b_aj:x5 K t.d_aj ["thing"] []
 F_t:Fun K "__init__" "Picture.__init__" s_t t.f_t t.d_t
 b_t:x5 K t.d_t ["self", "width", "height"] []
 F_k:FunD K "put" "Picture.put" s_k t.T_k t.f_k t.d_k
 b_k:x5 K t.d_k ["self", "name", "x", "y", "sides", "low", "high"] []
 F_f:Fun K "open_seat" "Picture.open_seat" s_f t.f_f t.d_f
 b_f:x5 K t.d_f ["self", "side", "row"] []
 F_l:Fun K "points" "Picture.points" s_l t.f_l t.d_l
 b_l:x5 K t.d_l ["self"] []
 F_e:Fun K "place_of" "Picture.place_of" s_e t.f_e t.d_e
 b_e:x5 K t.d_e ["self", "name"] []
 F_r:Fun K "may" "Picture.may" s_r t.f_r t.d_r
 b_r:x5 K t.d_r ["self", "name", "side", "row"] []
 F_i:Fun K "length" "Picture.length" s_i t.f_i t.d_i
 b_i:x5 K t.d_i ["self", "name", "side", "row"] []
 F_c:Fun K "check_name" "Picture.check_name" s_c t.f_c t.d_c
 b_c:x5 K t.d_c ["self", "name"] []
 F_d:Fun K "check_cell" "Picture.check_cell" s_d t.f_d t.d_d
 b_d:x5 K t.d_d ["self", "x", "y"] []
 F_a:Fun K "check_lines" "Picture.check_lines" s_a t.f_a t.d_a
 b_a:x5 K t.d_a ["self", "name", "x", "y"] []
 F_b:Fun K "check_seat" "Picture.check_seat" s_b t.f_b t.d_b
 b_b:x5 K t.d_b ["self", "side", "row"] []
 g_af:mg "_law_cell"=some (.ref t.f_af)
 F_af:Fun K "_law_cell" "_law_cell" s_af t.f_af t.d_af
 b_af:x5 K t.d_af ["_law_script", "_law_k"] []
 g_n:mg "_law_mixed"=some (.ref t.f_n)
 F_n:Fun K "_law_mixed" "_law_mixed" s_n t.f_n t.d_n
 b_n:x5 K t.d_n ["_law_cell_here", "_law_k"] []
 g_x:mg "_law_built"=some (.ref t.f_x)
 F_x:Fun K "_law_built" "_law_built" s_x t.f_x t.d_x
 b_x:x5 K t.d_x ["_law_cell_here", "_law_most", "_law_wide", "_law_high", "_law_free"] []
 g_u:mg "_law_opened"=some (.ref t.f_u)
 F_u:Fun K "_law_opened" "_law_opened" s_u t.f_u t.d_u
 b_u:x5 K t.d_u ["_law_picture", "_law_cell_here"] []
 g_al:mg "_law_may"=some (.ref t.f_al)
 F_al:Fun K "_law_may" "_law_may" s_al t.f_al t.d_al
 b_al:x5 K t.d_al ["_law_points", "_law_seats", "_law_name", "_law_side", "_law_row"] []
 g_ab:mg "_law_given"=some (.ref t.f_ab)
 F_ab:Fun K "_law_given" "_law_given" s_ab t.f_ab t.d_ab
 b_ab:x5 K t.d_ab ["_law_points", "_law_seats", "_law_cell_here"] []
 g_aa:mg "_law_across"=some (.ref t.f_aa)
 F_aa:Fun K "_law_across" "_law_across" s_aa t.f_aa t.d_aa
 b_aa:x5 K t.d_aa ["_law_width", "_law_point", "_law_side"] []
 g_z:mg "_law_cells"=some (.ref t.f_z)
 F_z:Fun K "_law_cells" "_law_cells" s_z t.f_z t.d_z
 b_z:x5 K t.d_z ["_law_width", "_law_point", "_law_side", "_law_row"] []
 g_ai:mg "_law_long"=some (.ref t.f_ai)
 F_ai:Fun K "_law_long" "_law_long" s_ai t.f_ai t.d_ai
 b_ai:x5 K t.d_ai ["_law_width", "_law_points", "_law_pairs"] []
 g_ad:mg "_law_apart"=some (.ref t.f_ad)
 F_ad:Fun K "_law_apart" "_law_apart" s_ad t.f_ad t.d_ad
 b_ad:x5 K t.d_ad ["_law_width", "_law_points", "_law_pairs"] []
 g_law:mg "law"=some (.ref t.f_law)
 F_law:Fun K "law" "law" xcd t.f_law t.d_law
 b_law:x5 K t.d_law ["_law_script"] []
 c_ao:Cls K t.C_ao
 ca_ao:PySem.W.findIn K (.ref t.C_ao) "__class__"=some (some (.builtin "object.__class__"))
 mo_ao:PySem.W.mroIn K t.C_ao (.type "object")=some true
 k_ao:Mk K t.C_ao t.f_ac
 c_ah:Cls K t.C_ah
 ca_ah:PySem.W.findIn K (.ref t.C_ah) "__class__"=some (some (.builtin "object.__class__"))
 mo_ah:PySem.W.mroIn K t.C_ah (.type "object")=some true
 k_ah:Mk K t.C_ah t.f_ac
 m_s:Meth K t.C_ah "rim" t.f_s
 m_q:Meth K t.C_ah "way" t.f_q
 m_h:Meth K t.C_ah "across" t.f_h
 c_y:Cls K t.C_y
 ca_y:PySem.W.findIn K (.ref t.C_y) "__class__"=some (some (.builtin "object.__class__"))
 mo_y:PySem.W.mroIn K t.C_y (.type "object")=some true
 k_y:Mk K t.C_y t.f_ac
 m_o:Meth K t.C_y "rim" t.f_o
 m_m:Meth K t.C_y "way" t.f_m
 m_g:Meth K t.C_y "across" t.f_g
 c_j:Cls K t.C_j
 ca_j:PySem.W.findIn K (.ref t.C_j) "__class__"=some (some (.builtin "object.__class__"))
 mo_j:PySem.W.mroIn K t.C_j (.type "object")=some true
 k_j:Mk K t.C_j t.f_t
 m_k:Meth K t.C_j "put" t.f_k
 m_f:Meth K t.C_j "open_seat" t.f_f
 m_l:Meth K t.C_j "points" t.f_l
 m_e:Meth K t.C_j "place_of" t.f_e
 m_r:Meth K t.C_j "may" t.f_r
 m_i:Meth K t.C_j "length" t.f_i
 m_c:Meth K t.C_j "check_name" t.f_c
 m_d:Meth K t.C_j "check_cell" t.f_d
 m_a:Meth K t.C_j "check_lines" t.f_a
 m_b:Meth K t.C_j "check_seat" t.f_b
 cg:PySem.W.specialIn K (.builtin "object.__class__") "__get__"=some (some (.builtin "getset_descriptor.__get__"))
 ct:PySem.W.takesIn K (.builtin "object.__class__")=some true
 n_ar:PySem.W.findIn K (.ref t.C_y) "width"=some none
 n_ap:PySem.W.findIn K (.ref t.C_j) "placed"=some none
 n_am:PySem.W.findIn K (.ref t.C_j) "height"=some none
 n_an:PySem.W.findIn K (.ref t.C_j) "width"=some none
 n_aq:PySem.W.findIn K (.ref t.C_j) "opened"=some none
 n_aw:PySem.W.findIn K (.ref t.C_ao) "width"=some none
 n_au:PySem.W.findIn K (.ref t.C_ah) "width"=some none
 n_abs:mg "abs"=none
 n_bool:mg "bool"=none
 n_dict:mg "dict"=none
 n_enumerate:mg "enumerate"=none
 n_int:mg "int"=none
 n_isinstance:mg "isinstance"=none
 n_len:mg "len"=none
 n_list:mg "list"=none
 n_max:mg "max"=none
 n_min:mg "min"=none
 n_range:mg "range"=none
 n_reversed:mg "reversed"=none
 n_sorted:mg "sorted"=none
 n_str:mg "str"=none
 n_sum:mg "sum"=none
 v_av:∃ tk,mg "MOST_ROWS"=some (.int 16 tk)
 v_as:∃ tk,mg "MOST_COLUMNS"=some (.int 30 tk)
 v_at:∃ tk,mg "MOST_POINTS"=some (.int 12 tk)
 g_ak:mg "MIRRORED_SIDES"=some (.ref t.D_ak)
 D_ak:xjn w K t.D_ak [(.inr "left",.str "right"),(.inr "right",.str "left"),(.inr "both",.str "both")]
theorem txt_mk {w:World} {K:PySem.W.Frag} {h:Heap} {mg:Str→Option Value} (X:K.In h) (G:h.Ns mainGlobals mg) {C_ao C_ah C_y C_j f_ac f_s f_q f_h f_o f_m f_g f_ag f_ae f_meeting f_total f_upright f_v f_exchangeable f_p f_exchanged f_uncrossed f_w f_aj f_t f_k T_k f_f f_l f_e f_r f_i f_c f_d f_a f_b f_af f_n f_x f_u f_al f_ab f_aa f_z f_ai f_ad f_law:Addr} {oc_ac kv_ac dc_ac pm_ac cd_ac ct_ac:Value} {od_ac an_ac:Option Addr} {sl_ac:Array (Option Value)} {oc_s kv_s dc_s pm_s cd_s ct_s:Value} {od_s an_s:Option Addr} {sl_s:Array (Option Value)} {oc_q kv_q dc_q pm_q cd_q ct_q:Value} {od_q an_q:Option Addr} {sl_q:Array (Option Value)} {oc_h kv_h dc_h pm_h cd_h ct_h:Value} {od_h an_h:Option Addr} {sl_h:Array (Option Value)} {oc_o kv_o dc_o pm_o cd_o ct_o:Value} {od_o an_o:Option Addr} {sl_o:Array (Option Value)} {oc_m kv_m dc_m pm_m cd_m ct_m:Value} {od_m an_m:Option Addr} {sl_m:Array (Option Value)} {oc_g kv_g dc_g pm_g cd_g ct_g:Value} {od_g an_g:Option Addr} {sl_g:Array (Option Value)} {oc_ag kv_ag dc_ag pm_ag cd_ag ct_ag:Value} {od_ag an_ag:Option Addr} {sl_ag:Array (Option Value)} {oc_ae kv_ae dc_ae pm_ae cd_ae ct_ae:Value} {od_ae an_ae:Option Addr} {sl_ae:Array (Option Value)} {oc_meeting kv_meeting dc_meeting pm_meeting cd_meeting ct_meeting:Value} {od_meeting an_meeting:Option Addr} {sl_meeting:Array (Option Value)} {oc_total kv_total dc_total pm_total cd_total ct_total:Value} {od_total an_total:Option Addr} {sl_total:Array (Option Value)} {oc_upright kv_upright dc_upright pm_upright cd_upright ct_upright:Value} {od_upright an_upright:Option Addr} {sl_upright:Array (Option Value)} {oc_v kv_v dc_v pm_v cd_v ct_v:Value} {od_v an_v:Option Addr} {sl_v:Array (Option Value)} {oc_exchangeable kv_exchangeable dc_exchangeable pm_exchangeable cd_exchangeable ct_exchangeable:Value} {od_exchangeable an_exchangeable:Option Addr} {sl_exchangeable:Array (Option Value)} {oc_p kv_p dc_p pm_p cd_p ct_p:Value} {od_p an_p:Option Addr} {sl_p:Array (Option Value)} {oc_exchanged kv_exchanged dc_exchanged pm_exchanged cd_exchanged ct_exchanged:Value} {od_exchanged an_exchanged:Option Addr} {sl_exchanged:Array (Option Value)} {oc_uncrossed kv_uncrossed dc_uncrossed pm_uncrossed cd_uncrossed ct_uncrossed:Value} {od_uncrossed an_uncrossed:Option Addr} {sl_uncrossed:Array (Option Value)} {oc_w kv_w dc_w pm_w cd_w ct_w:Value} {od_w an_w:Option Addr} {sl_w:Array (Option Value)} {oc_aj kv_aj dc_aj pm_aj cd_aj ct_aj:Value} {od_aj an_aj:Option Addr} {sl_aj:Array (Option Value)} {oc_t kv_t dc_t pm_t cd_t ct_t:Value} {od_t an_t:Option Addr} {sl_t:Array (Option Value)} {oc_k kv_k dc_k pm_k cd_k ct_k:Value} {od_k an_k:Option Addr} {sl_k:Array (Option Value)} {oc_f kv_f dc_f pm_f cd_f ct_f:Value} {od_f an_f:Option Addr} {sl_f:Array (Option Value)} {oc_l kv_l dc_l pm_l cd_l ct_l:Value} {od_l an_l:Option Addr} {sl_l:Array (Option Value)} {oc_e kv_e dc_e pm_e cd_e ct_e:Value} {od_e an_e:Option Addr} {sl_e:Array (Option Value)} {oc_r kv_r dc_r pm_r cd_r ct_r:Value} {od_r an_r:Option Addr} {sl_r:Array (Option Value)} {oc_i kv_i dc_i pm_i cd_i ct_i:Value} {od_i an_i:Option Addr} {sl_i:Array (Option Value)} {oc_c kv_c dc_c pm_c cd_c ct_c:Value} {od_c an_c:Option Addr} {sl_c:Array (Option Value)} {oc_d kv_d dc_d pm_d cd_d ct_d:Value} {od_d an_d:Option Addr} {sl_d:Array (Option Value)} {oc_a kv_a dc_a pm_a cd_a ct_a:Value} {od_a an_a:Option Addr} {sl_a:Array (Option Value)} {oc_b kv_b dc_b pm_b cd_b ct_b:Value} {od_b an_b:Option Addr} {sl_b:Array (Option Value)} {oc_af kv_af dc_af pm_af cd_af ct_af:Value} {od_af an_af:Option Addr} {sl_af:Array (Option Value)} {oc_n kv_n dc_n pm_n cd_n ct_n:Value} {od_n an_n:Option Addr} {sl_n:Array (Option Value)} {oc_x kv_x dc_x pm_x cd_x ct_x:Value} {od_x an_x:Option Addr} {sl_x:Array (Option Value)} {oc_u kv_u dc_u pm_u cd_u ct_u:Value} {od_u an_u:Option Addr} {sl_u:Array (Option Value)} {oc_al kv_al dc_al pm_al cd_al ct_al:Value} {od_al an_al:Option Addr} {sl_al:Array (Option Value)} {oc_ab kv_ab dc_ab pm_ab cd_ab ct_ab:Value} {od_ab an_ab:Option Addr} {sl_ab:Array (Option Value)} {oc_aa kv_aa dc_aa pm_aa cd_aa ct_aa:Value} {od_aa an_aa:Option Addr} {sl_aa:Array (Option Value)} {oc_z kv_z dc_z pm_z cd_z ct_z:Value} {od_z an_z:Option Addr} {sl_z:Array (Option Value)} {oc_ai kv_ai dc_ai pm_ai cd_ai ct_ai:Value} {od_ai an_ai:Option Addr} {sl_ai:Array (Option Value)} {oc_ad kv_ad dc_ad pm_ad cd_ad ct_ad:Value} {od_ad an_ad:Option Addr} {sl_ad:Array (Option Value)} {oc_law kv_law dc_law pm_law cd_law ct_law:Value} {od_law an_law:Option Addr} {sl_law:Array (Option Value)} {tk0_k:Tok} {tk1_k:Tok} {toc_k:Value} {tod_k:Option Addr} {tn_k:Nat} {tsl_k:Array (Option Value)} {tkc_av:Tok} {tkc_as:Tok} {tkc_at:Tok} {D_ak:Addr} {ta0_ak tb0_ak:Tok} {ta1_ak tb1_ak:Tok} {ta2_ak tb2_ak:Tok} {ep_ak:Nat}
    (g_ao:PySem.W.nsIn K mainGlobals "Side"=some (some (.ref C_ao)))
    (g_ah:PySem.W.nsIn K mainGlobals "LeftSide"=some (some (.ref C_ah)))
    (g_y:PySem.W.nsIn K mainGlobals "RightSide"=some (some (.ref C_y)))
    (g_j:PySem.W.nsIn K mainGlobals "Picture"=some (some (.ref C_j)))
    (a_ac:PySem.W.findIn K (.ref C_ao) "__init__"=some (some (.ref f_ac)))
    (l_ac:K.lookup f_ac=some ⟨oc_ac,od_ac,.func (PySem.W.fnOf "__init__" "Side.__init__" (xw s_ac) (xv s_ac) (xh s_ac) .none kv_ac dc_ac pm_ac an_ac cd_ac ct_ac),sl_ac⟩)
    (c_ac:PySem.W.codeIn K cd_ac "Side.__init__"=true)
    (k_ac:PySem.W.keepIn K (.ref f_ac)=true)
    (i_ac:PySem.W.isFn K (.ref f_ac)=true)
    (a_s:PySem.W.findIn K (.ref C_ah) "rim"=some (some (.ref f_s)))
    (l_s:K.lookup f_s=some ⟨oc_s,od_s,.func (PySem.W.fnOf "rim" "LeftSide.rim" (xw s_s) (xv s_s) (xh s_s) .none kv_s dc_s pm_s an_s cd_s ct_s),sl_s⟩)
    (c_s:PySem.W.codeIn K cd_s "LeftSide.rim"=true)
    (k_s:PySem.W.keepIn K (.ref f_s)=true)
    (i_s:PySem.W.isFn K (.ref f_s)=true)
    (a_q:PySem.W.findIn K (.ref C_ah) "way"=some (some (.ref f_q)))
    (l_q:K.lookup f_q=some ⟨oc_q,od_q,.func (PySem.W.fnOf "way" "LeftSide.way" (xw s_q) (xv s_q) (xh s_q) .none kv_q dc_q pm_q an_q cd_q ct_q),sl_q⟩)
    (c_q:PySem.W.codeIn K cd_q "LeftSide.way"=true)
    (k_q:PySem.W.keepIn K (.ref f_q)=true)
    (i_q:PySem.W.isFn K (.ref f_q)=true)
    (a_h:PySem.W.findIn K (.ref C_ah) "across"=some (some (.ref f_h)))
    (l_h:K.lookup f_h=some ⟨oc_h,od_h,.func (PySem.W.fnOf "across" "LeftSide.across" (xw s_h) (xv s_h) (xh s_h) .none kv_h dc_h pm_h an_h cd_h ct_h),sl_h⟩)
    (c_h:PySem.W.codeIn K cd_h "LeftSide.across"=true)
    (k_h:PySem.W.keepIn K (.ref f_h)=true)
    (i_h:PySem.W.isFn K (.ref f_h)=true)
    (a_o:PySem.W.findIn K (.ref C_y) "rim"=some (some (.ref f_o)))
    (l_o:K.lookup f_o=some ⟨oc_o,od_o,.func (PySem.W.fnOf "rim" "RightSide.rim" (xw s_o) (xv s_o) (xh s_o) .none kv_o dc_o pm_o an_o cd_o ct_o),sl_o⟩)
    (c_o:PySem.W.codeIn K cd_o "RightSide.rim"=true)
    (k_o:PySem.W.keepIn K (.ref f_o)=true)
    (i_o:PySem.W.isFn K (.ref f_o)=true)
    (a_m:PySem.W.findIn K (.ref C_y) "way"=some (some (.ref f_m)))
    (l_m:K.lookup f_m=some ⟨oc_m,od_m,.func (PySem.W.fnOf "way" "RightSide.way" (xw s_m) (xv s_m) (xh s_m) .none kv_m dc_m pm_m an_m cd_m ct_m),sl_m⟩)
    (c_m:PySem.W.codeIn K cd_m "RightSide.way"=true)
    (k_m:PySem.W.keepIn K (.ref f_m)=true)
    (i_m:PySem.W.isFn K (.ref f_m)=true)
    (a_g:PySem.W.findIn K (.ref C_y) "across"=some (some (.ref f_g)))
    (l_g:K.lookup f_g=some ⟨oc_g,od_g,.func (PySem.W.fnOf "across" "RightSide.across" (xw s_g) (xv s_g) (xh s_g) .none kv_g dc_g pm_g an_g cd_g ct_g),sl_g⟩)
    (c_g:PySem.W.codeIn K cd_g "RightSide.across"=true)
    (k_g:PySem.W.keepIn K (.ref f_g)=true)
    (i_g:PySem.W.isFn K (.ref f_g)=true)
    (a_ag:PySem.W.nsIn K mainGlobals "side_of"=some (some (.ref f_ag)))
    (l_ag:K.lookup f_ag=some ⟨oc_ag,od_ag,.func (PySem.W.fnOf "side_of" "side_of" (xw s_ag) (xv s_ag) (xh s_ag) .none kv_ag dc_ag pm_ag an_ag cd_ag ct_ag),sl_ag⟩)
    (c_ag:PySem.W.codeIn K cd_ag "side_of"=true)
    (k_ag:PySem.W.keepIn K (.ref f_ag)=true)
    (i_ag:PySem.W.isFn K (.ref f_ag)=true)
    (a_ae:PySem.W.nsIn K mainGlobals "cells_of"=some (some (.ref f_ae)))
    (l_ae:K.lookup f_ae=some ⟨oc_ae,od_ae,.func (PySem.W.fnOf "cells_of" "cells_of" (xw s_ae) (xv s_ae) (xh s_ae) .none kv_ae dc_ae pm_ae an_ae cd_ae ct_ae),sl_ae⟩)
    (c_ae:PySem.W.codeIn K cd_ae "cells_of"=true)
    (k_ae:PySem.W.keepIn K (.ref f_ae)=true)
    (i_ae:PySem.W.isFn K (.ref f_ae)=true)
    (a_meeting:PySem.W.nsIn K mainGlobals "meeting"=some (some (.ref f_meeting)))
    (l_meeting:K.lookup f_meeting=some ⟨oc_meeting,od_meeting,.func (PySem.W.fnOf "meeting" "meeting" (xw xbn) (xv xbn) (xh xbn) .none kv_meeting dc_meeting pm_meeting an_meeting cd_meeting ct_meeting),sl_meeting⟩)
    (c_meeting:PySem.W.codeIn K cd_meeting "meeting"=true)
    (k_meeting:PySem.W.keepIn K (.ref f_meeting)=true)
    (i_meeting:PySem.W.isFn K (.ref f_meeting)=true)
    (a_total:PySem.W.nsIn K mainGlobals "total"=some (some (.ref f_total)))
    (l_total:K.lookup f_total=some ⟨oc_total,od_total,.func (PySem.W.fnOf "total" "total" (xw xb8) (xv xb8) (xh xb8) .none kv_total dc_total pm_total an_total cd_total ct_total),sl_total⟩)
    (c_total:PySem.W.codeIn K cd_total "total"=true)
    (k_total:PySem.W.keepIn K (.ref f_total)=true)
    (i_total:PySem.W.isFn K (.ref f_total)=true)
    (a_upright:PySem.W.nsIn K mainGlobals "upright"=some (some (.ref f_upright)))
    (l_upright:K.lookup f_upright=some ⟨oc_upright,od_upright,.func (PySem.W.fnOf "upright" "upright" (xw xbm) (xv xbm) (xh xbm) .none kv_upright dc_upright pm_upright an_upright cd_upright ct_upright),sl_upright⟩)
    (c_upright:PySem.W.codeIn K cd_upright "upright"=true)
    (k_upright:PySem.W.keepIn K (.ref f_upright)=true)
    (i_upright:PySem.W.isFn K (.ref f_upright)=true)
    (a_v:PySem.W.nsIn K mainGlobals "upright_of"=some (some (.ref f_v)))
    (l_v:K.lookup f_v=some ⟨oc_v,od_v,.func (PySem.W.fnOf "upright_of" "upright_of" (xw s_v) (xv s_v) (xh s_v) .none kv_v dc_v pm_v an_v cd_v ct_v),sl_v⟩)
    (c_v:PySem.W.codeIn K cd_v "upright_of"=true)
    (k_v:PySem.W.keepIn K (.ref f_v)=true)
    (i_v:PySem.W.isFn K (.ref f_v)=true)
    (a_exchangeable:PySem.W.nsIn K mainGlobals "exchangeable"=some (some (.ref f_exchangeable)))
    (l_exchangeable:K.lookup f_exchangeable=some ⟨oc_exchangeable,od_exchangeable,.func (PySem.W.fnOf "exchangeable" "exchangeable" (xw xa4) (xv xa4) (xh xa4) .none kv_exchangeable dc_exchangeable pm_exchangeable an_exchangeable cd_exchangeable ct_exchangeable),sl_exchangeable⟩)
    (c_exchangeable:PySem.W.codeIn K cd_exchangeable "exchangeable"=true)
    (k_exchangeable:PySem.W.keepIn K (.ref f_exchangeable)=true)
    (i_exchangeable:PySem.W.isFn K (.ref f_exchangeable)=true)
    (a_p:PySem.W.nsIn K mainGlobals "may_exchange"=some (some (.ref f_p)))
    (l_p:K.lookup f_p=some ⟨oc_p,od_p,.func (PySem.W.fnOf "may_exchange" "may_exchange" (xw s_p) (xv s_p) (xh s_p) .none kv_p dc_p pm_p an_p cd_p ct_p),sl_p⟩)
    (c_p:PySem.W.codeIn K cd_p "may_exchange"=true)
    (k_p:PySem.W.keepIn K (.ref f_p)=true)
    (i_p:PySem.W.isFn K (.ref f_p)=true)
    (a_exchanged:PySem.W.nsIn K mainGlobals "exchanged"=some (some (.ref f_exchanged)))
    (l_exchanged:K.lookup f_exchanged=some ⟨oc_exchanged,od_exchanged,.func (PySem.W.fnOf "exchanged" "exchanged" (xw xa8) (xv xa8) (xh xa8) .none kv_exchanged dc_exchanged pm_exchanged an_exchanged cd_exchanged ct_exchanged),sl_exchanged⟩)
    (c_exchanged:PySem.W.codeIn K cd_exchanged "exchanged"=true)
    (k_exchanged:PySem.W.keepIn K (.ref f_exchanged)=true)
    (i_exchanged:PySem.W.isFn K (.ref f_exchanged)=true)
    (a_uncrossed:PySem.W.nsIn K mainGlobals "uncrossed"=some (some (.ref f_uncrossed)))
    (l_uncrossed:K.lookup f_uncrossed=some ⟨oc_uncrossed,od_uncrossed,.func (PySem.W.fnOf "uncrossed" "uncrossed" (xw xbi) (xv xbi) (xh xbi) .none kv_uncrossed dc_uncrossed pm_uncrossed an_uncrossed cd_uncrossed ct_uncrossed),sl_uncrossed⟩)
    (c_uncrossed:PySem.W.codeIn K cd_uncrossed "uncrossed"=true)
    (k_uncrossed:PySem.W.keepIn K (.ref f_uncrossed)=true)
    (i_uncrossed:PySem.W.isFn K (.ref f_uncrossed)=true)
    (a_w:PySem.W.nsIn K mainGlobals "is_whole"=some (some (.ref f_w)))
    (l_w:K.lookup f_w=some ⟨oc_w,od_w,.func (PySem.W.fnOf "is_whole" "is_whole" (xw s_w) (xv s_w) (xh s_w) .none kv_w dc_w pm_w an_w cd_w ct_w),sl_w⟩)
    (c_w:PySem.W.codeIn K cd_w "is_whole"=true)
    (k_w:PySem.W.keepIn K (.ref f_w)=true)
    (i_w:PySem.W.isFn K (.ref f_w)=true)
    (a_aj:PySem.W.nsIn K mainGlobals "is_name"=some (some (.ref f_aj)))
    (l_aj:K.lookup f_aj=some ⟨oc_aj,od_aj,.func (PySem.W.fnOf "is_name" "is_name" (xw s_aj) (xv s_aj) (xh s_aj) .none kv_aj dc_aj pm_aj an_aj cd_aj ct_aj),sl_aj⟩)
    (c_aj:PySem.W.codeIn K cd_aj "is_name"=true)
    (k_aj:PySem.W.keepIn K (.ref f_aj)=true)
    (i_aj:PySem.W.isFn K (.ref f_aj)=true)
    (a_t:PySem.W.findIn K (.ref C_j) "__init__"=some (some (.ref f_t)))
    (l_t:K.lookup f_t=some ⟨oc_t,od_t,.func (PySem.W.fnOf "__init__" "Picture.__init__" (xw s_t) (xv s_t) (xh s_t) .none kv_t dc_t pm_t an_t cd_t ct_t),sl_t⟩)
    (c_t:PySem.W.codeIn K cd_t "Picture.__init__"=true)
    (k_t:PySem.W.keepIn K (.ref f_t)=true)
    (i_t:PySem.W.isFn K (.ref f_t)=true)
    (a_k:PySem.W.findIn K (.ref C_j) "put"=some (some (.ref f_k)))
    (l_k:K.lookup f_k=some ⟨oc_k,od_k,.func (PySem.W.fnOf "put" "Picture.put" (xw s_k) (xv s_k) (xh s_k) (.ref T_k) kv_k dc_k pm_k an_k cd_k ct_k),sl_k⟩)
    (c_k:PySem.W.codeIn K cd_k "Picture.put"=true)
    (k_k:PySem.W.keepIn K (.ref f_k)=true)
    (i_k:PySem.W.isFn K (.ref f_k)=true)
    (t_k:K.lookup T_k=some ⟨toc_k,tod_k,.seq #[.str "both" tk0_k,.int 1 tk1_k,.none] tn_k,tsl_k⟩)
    (a_f:PySem.W.findIn K (.ref C_j) "open_seat"=some (some (.ref f_f)))
    (l_f:K.lookup f_f=some ⟨oc_f,od_f,.func (PySem.W.fnOf "open_seat" "Picture.open_seat" (xw s_f) (xv s_f) (xh s_f) .none kv_f dc_f pm_f an_f cd_f ct_f),sl_f⟩)
    (c_f:PySem.W.codeIn K cd_f "Picture.open_seat"=true)
    (k_f:PySem.W.keepIn K (.ref f_f)=true)
    (i_f:PySem.W.isFn K (.ref f_f)=true)
    (a_l:PySem.W.findIn K (.ref C_j) "points"=some (some (.ref f_l)))
    (l_l:K.lookup f_l=some ⟨oc_l,od_l,.func (PySem.W.fnOf "points" "Picture.points" (xw s_l) (xv s_l) (xh s_l) .none kv_l dc_l pm_l an_l cd_l ct_l),sl_l⟩)
    (c_l:PySem.W.codeIn K cd_l "Picture.points"=true)
    (k_l:PySem.W.keepIn K (.ref f_l)=true)
    (i_l:PySem.W.isFn K (.ref f_l)=true)
    (a_e:PySem.W.findIn K (.ref C_j) "place_of"=some (some (.ref f_e)))
    (l_e:K.lookup f_e=some ⟨oc_e,od_e,.func (PySem.W.fnOf "place_of" "Picture.place_of" (xw s_e) (xv s_e) (xh s_e) .none kv_e dc_e pm_e an_e cd_e ct_e),sl_e⟩)
    (c_e:PySem.W.codeIn K cd_e "Picture.place_of"=true)
    (k_e:PySem.W.keepIn K (.ref f_e)=true)
    (i_e:PySem.W.isFn K (.ref f_e)=true)
    (a_r:PySem.W.findIn K (.ref C_j) "may"=some (some (.ref f_r)))
    (l_r:K.lookup f_r=some ⟨oc_r,od_r,.func (PySem.W.fnOf "may" "Picture.may" (xw s_r) (xv s_r) (xh s_r) .none kv_r dc_r pm_r an_r cd_r ct_r),sl_r⟩)
    (c_r:PySem.W.codeIn K cd_r "Picture.may"=true)
    (k_r:PySem.W.keepIn K (.ref f_r)=true)
    (i_r:PySem.W.isFn K (.ref f_r)=true)
    (a_i:PySem.W.findIn K (.ref C_j) "length"=some (some (.ref f_i)))
    (l_i:K.lookup f_i=some ⟨oc_i,od_i,.func (PySem.W.fnOf "length" "Picture.length" (xw s_i) (xv s_i) (xh s_i) .none kv_i dc_i pm_i an_i cd_i ct_i),sl_i⟩)
    (c_i:PySem.W.codeIn K cd_i "Picture.length"=true)
    (k_i:PySem.W.keepIn K (.ref f_i)=true)
    (i_i:PySem.W.isFn K (.ref f_i)=true)
    (a_c:PySem.W.findIn K (.ref C_j) "check_name"=some (some (.ref f_c)))
    (l_c:K.lookup f_c=some ⟨oc_c,od_c,.func (PySem.W.fnOf "check_name" "Picture.check_name" (xw s_c) (xv s_c) (xh s_c) .none kv_c dc_c pm_c an_c cd_c ct_c),sl_c⟩)
    (c_c:PySem.W.codeIn K cd_c "Picture.check_name"=true)
    (k_c:PySem.W.keepIn K (.ref f_c)=true)
    (i_c:PySem.W.isFn K (.ref f_c)=true)
    (a_d:PySem.W.findIn K (.ref C_j) "check_cell"=some (some (.ref f_d)))
    (l_d:K.lookup f_d=some ⟨oc_d,od_d,.func (PySem.W.fnOf "check_cell" "Picture.check_cell" (xw s_d) (xv s_d) (xh s_d) .none kv_d dc_d pm_d an_d cd_d ct_d),sl_d⟩)
    (c_d:PySem.W.codeIn K cd_d "Picture.check_cell"=true)
    (k_d:PySem.W.keepIn K (.ref f_d)=true)
    (i_d:PySem.W.isFn K (.ref f_d)=true)
    (a_a:PySem.W.findIn K (.ref C_j) "check_lines"=some (some (.ref f_a)))
    (l_a:K.lookup f_a=some ⟨oc_a,od_a,.func (PySem.W.fnOf "check_lines" "Picture.check_lines" (xw s_a) (xv s_a) (xh s_a) .none kv_a dc_a pm_a an_a cd_a ct_a),sl_a⟩)
    (c_a:PySem.W.codeIn K cd_a "Picture.check_lines"=true)
    (k_a:PySem.W.keepIn K (.ref f_a)=true)
    (i_a:PySem.W.isFn K (.ref f_a)=true)
    (a_b:PySem.W.findIn K (.ref C_j) "check_seat"=some (some (.ref f_b)))
    (l_b:K.lookup f_b=some ⟨oc_b,od_b,.func (PySem.W.fnOf "check_seat" "Picture.check_seat" (xw s_b) (xv s_b) (xh s_b) .none kv_b dc_b pm_b an_b cd_b ct_b),sl_b⟩)
    (c_b:PySem.W.codeIn K cd_b "Picture.check_seat"=true)
    (k_b:PySem.W.keepIn K (.ref f_b)=true)
    (i_b:PySem.W.isFn K (.ref f_b)=true)
    (a_af:PySem.W.nsIn K mainGlobals "_law_cell"=some (some (.ref f_af)))
    (l_af:K.lookup f_af=some ⟨oc_af,od_af,.func (PySem.W.fnOf "_law_cell" "_law_cell" (xw s_af) (xv s_af) (xh s_af) .none kv_af dc_af pm_af an_af cd_af ct_af),sl_af⟩)
    (c_af:PySem.W.codeIn K cd_af "_law_cell"=true)
    (k_af:PySem.W.keepIn K (.ref f_af)=true)
    (i_af:PySem.W.isFn K (.ref f_af)=true)
    (a_n:PySem.W.nsIn K mainGlobals "_law_mixed"=some (some (.ref f_n)))
    (l_n:K.lookup f_n=some ⟨oc_n,od_n,.func (PySem.W.fnOf "_law_mixed" "_law_mixed" (xw s_n) (xv s_n) (xh s_n) .none kv_n dc_n pm_n an_n cd_n ct_n),sl_n⟩)
    (c_n:PySem.W.codeIn K cd_n "_law_mixed"=true)
    (k_n:PySem.W.keepIn K (.ref f_n)=true)
    (i_n:PySem.W.isFn K (.ref f_n)=true)
    (a_x:PySem.W.nsIn K mainGlobals "_law_built"=some (some (.ref f_x)))
    (l_x:K.lookup f_x=some ⟨oc_x,od_x,.func (PySem.W.fnOf "_law_built" "_law_built" (xw s_x) (xv s_x) (xh s_x) .none kv_x dc_x pm_x an_x cd_x ct_x),sl_x⟩)
    (c_x:PySem.W.codeIn K cd_x "_law_built"=true)
    (k_x:PySem.W.keepIn K (.ref f_x)=true)
    (i_x:PySem.W.isFn K (.ref f_x)=true)
    (a_u:PySem.W.nsIn K mainGlobals "_law_opened"=some (some (.ref f_u)))
    (l_u:K.lookup f_u=some ⟨oc_u,od_u,.func (PySem.W.fnOf "_law_opened" "_law_opened" (xw s_u) (xv s_u) (xh s_u) .none kv_u dc_u pm_u an_u cd_u ct_u),sl_u⟩)
    (c_u:PySem.W.codeIn K cd_u "_law_opened"=true)
    (k_u:PySem.W.keepIn K (.ref f_u)=true)
    (i_u:PySem.W.isFn K (.ref f_u)=true)
    (a_al:PySem.W.nsIn K mainGlobals "_law_may"=some (some (.ref f_al)))
    (l_al:K.lookup f_al=some ⟨oc_al,od_al,.func (PySem.W.fnOf "_law_may" "_law_may" (xw s_al) (xv s_al) (xh s_al) .none kv_al dc_al pm_al an_al cd_al ct_al),sl_al⟩)
    (c_al:PySem.W.codeIn K cd_al "_law_may"=true)
    (k_al:PySem.W.keepIn K (.ref f_al)=true)
    (i_al:PySem.W.isFn K (.ref f_al)=true)
    (a_ab:PySem.W.nsIn K mainGlobals "_law_given"=some (some (.ref f_ab)))
    (l_ab:K.lookup f_ab=some ⟨oc_ab,od_ab,.func (PySem.W.fnOf "_law_given" "_law_given" (xw s_ab) (xv s_ab) (xh s_ab) .none kv_ab dc_ab pm_ab an_ab cd_ab ct_ab),sl_ab⟩)
    (c_ab:PySem.W.codeIn K cd_ab "_law_given"=true)
    (k_ab:PySem.W.keepIn K (.ref f_ab)=true)
    (i_ab:PySem.W.isFn K (.ref f_ab)=true)
    (a_aa:PySem.W.nsIn K mainGlobals "_law_across"=some (some (.ref f_aa)))
    (l_aa:K.lookup f_aa=some ⟨oc_aa,od_aa,.func (PySem.W.fnOf "_law_across" "_law_across" (xw s_aa) (xv s_aa) (xh s_aa) .none kv_aa dc_aa pm_aa an_aa cd_aa ct_aa),sl_aa⟩)
    (c_aa:PySem.W.codeIn K cd_aa "_law_across"=true)
    (k_aa:PySem.W.keepIn K (.ref f_aa)=true)
    (i_aa:PySem.W.isFn K (.ref f_aa)=true)
    (a_z:PySem.W.nsIn K mainGlobals "_law_cells"=some (some (.ref f_z)))
    (l_z:K.lookup f_z=some ⟨oc_z,od_z,.func (PySem.W.fnOf "_law_cells" "_law_cells" (xw s_z) (xv s_z) (xh s_z) .none kv_z dc_z pm_z an_z cd_z ct_z),sl_z⟩)
    (c_z:PySem.W.codeIn K cd_z "_law_cells"=true)
    (k_z:PySem.W.keepIn K (.ref f_z)=true)
    (i_z:PySem.W.isFn K (.ref f_z)=true)
    (a_ai:PySem.W.nsIn K mainGlobals "_law_long"=some (some (.ref f_ai)))
    (l_ai:K.lookup f_ai=some ⟨oc_ai,od_ai,.func (PySem.W.fnOf "_law_long" "_law_long" (xw s_ai) (xv s_ai) (xh s_ai) .none kv_ai dc_ai pm_ai an_ai cd_ai ct_ai),sl_ai⟩)
    (c_ai:PySem.W.codeIn K cd_ai "_law_long"=true)
    (k_ai:PySem.W.keepIn K (.ref f_ai)=true)
    (i_ai:PySem.W.isFn K (.ref f_ai)=true)
    (a_ad:PySem.W.nsIn K mainGlobals "_law_apart"=some (some (.ref f_ad)))
    (l_ad:K.lookup f_ad=some ⟨oc_ad,od_ad,.func (PySem.W.fnOf "_law_apart" "_law_apart" (xw s_ad) (xv s_ad) (xh s_ad) .none kv_ad dc_ad pm_ad an_ad cd_ad ct_ad),sl_ad⟩)
    (c_ad:PySem.W.codeIn K cd_ad "_law_apart"=true)
    (k_ad:PySem.W.keepIn K (.ref f_ad)=true)
    (i_ad:PySem.W.isFn K (.ref f_ad)=true)
    (a_law:PySem.W.nsIn K mainGlobals "law"=some (some (.ref f_law)))
    (l_law:K.lookup f_law=some ⟨oc_law,od_law,.func (PySem.W.fnOf "law" "law" (xw xcd) (xv xcd) (xh xcd) .none kv_law dc_law pm_law an_law cd_law ct_law),sl_law⟩)
    (c_law:PySem.W.codeIn K cd_law "law"=true)
    (k_law:PySem.W.keepIn K (.ref f_law)=true)
    (i_law:PySem.W.isFn K (.ref f_law)=true)
    (kc_ao:PySem.W.keepIn K (.ref C_ao)=true)
    (pg_ao:PySem.W.plainGet K C_ao Str.empty=true)
    (hd_ao:PySem.W.hasDictIn K C_ao=true)
    (po_ao:PySem.W.plainOver K C_ao=true)
    (sa_ao:PySem.W.findIn K (.ref C_ao) "__setattr__"=some (some (.builtin "object.__setattr__")))
    (mk_ao:PySem.W.makesIn K C_ao=true)
    (ca_ao:PySem.W.findIn K (.ref C_ao) "__class__"=some (some (.builtin "object.__class__")))
    (mo_ao:PySem.W.mroIn K C_ao (.type "object")=some true)
    (kc_ah:PySem.W.keepIn K (.ref C_ah)=true)
    (pg_ah:PySem.W.plainGet K C_ah Str.empty=true)
    (hd_ah:PySem.W.hasDictIn K C_ah=true)
    (po_ah:PySem.W.plainOver K C_ah=true)
    (sa_ah:PySem.W.findIn K (.ref C_ah) "__setattr__"=some (some (.builtin "object.__setattr__")))
    (mk_ah:PySem.W.makesIn K C_ah=true)
    (ca_ah:PySem.W.findIn K (.ref C_ah) "__class__"=some (some (.builtin "object.__class__")))
    (mo_ah:PySem.W.mroIn K C_ah (.type "object")=some true)
    (a_LeftSide_init:PySem.W.findIn K (.ref C_ah) "__init__"=some (some (.ref f_ac)))
    (kc_y:PySem.W.keepIn K (.ref C_y)=true)
    (pg_y:PySem.W.plainGet K C_y Str.empty=true)
    (hd_y:PySem.W.hasDictIn K C_y=true)
    (po_y:PySem.W.plainOver K C_y=true)
    (sa_y:PySem.W.findIn K (.ref C_y) "__setattr__"=some (some (.builtin "object.__setattr__")))
    (mk_y:PySem.W.makesIn K C_y=true)
    (ca_y:PySem.W.findIn K (.ref C_y) "__class__"=some (some (.builtin "object.__class__")))
    (mo_y:PySem.W.mroIn K C_y (.type "object")=some true)
    (a_RightSide_init:PySem.W.findIn K (.ref C_y) "__init__"=some (some (.ref f_ac)))
    (kc_j:PySem.W.keepIn K (.ref C_j)=true)
    (pg_j:PySem.W.plainGet K C_j Str.empty=true)
    (hd_j:PySem.W.hasDictIn K C_j=true)
    (po_j:PySem.W.plainOver K C_j=true)
    (sa_j:PySem.W.findIn K (.ref C_j) "__setattr__"=some (some (.builtin "object.__setattr__")))
    (mk_j:PySem.W.makesIn K C_j=true)
    (ca_j:PySem.W.findIn K (.ref C_j) "__class__"=some (some (.builtin "object.__class__")))
    (mo_j:PySem.W.mroIn K C_j (.type "object")=some true)
    (cg:PySem.W.specialIn K (.builtin "object.__class__") "__get__"=some (some (.builtin "getset_descriptor.__get__")))
    (ct:PySem.W.takesIn K (.builtin "object.__class__")=some true)
    (n_ar:PySem.W.findIn K (.ref C_y) "width"=some none)
    (n_ap:PySem.W.findIn K (.ref C_j) "placed"=some none)
    (n_am:PySem.W.findIn K (.ref C_j) "height"=some none)
    (n_an:PySem.W.findIn K (.ref C_j) "width"=some none)
    (n_aq:PySem.W.findIn K (.ref C_j) "opened"=some none)
    (n_aw:PySem.W.findIn K (.ref C_ao) "width"=some none)
    (n_au:PySem.W.findIn K (.ref C_ah) "width"=some none)
    (n_abs:PySem.W.nsIn K mainGlobals "abs"=some none)
    (n_bool:PySem.W.nsIn K mainGlobals "bool"=some none)
    (n_dict:PySem.W.nsIn K mainGlobals "dict"=some none)
    (n_enumerate:PySem.W.nsIn K mainGlobals "enumerate"=some none)
    (n_int:PySem.W.nsIn K mainGlobals "int"=some none)
    (n_isinstance:PySem.W.nsIn K mainGlobals "isinstance"=some none)
    (n_len:PySem.W.nsIn K mainGlobals "len"=some none)
    (n_list:PySem.W.nsIn K mainGlobals "list"=some none)
    (n_max:PySem.W.nsIn K mainGlobals "max"=some none)
    (n_min:PySem.W.nsIn K mainGlobals "min"=some none)
    (n_range:PySem.W.nsIn K mainGlobals "range"=some none)
    (n_reversed:PySem.W.nsIn K mainGlobals "reversed"=some none)
    (n_sorted:PySem.W.nsIn K mainGlobals "sorted"=some none)
    (n_str:PySem.W.nsIn K mainGlobals "str"=some none)
    (n_sum:PySem.W.nsIn K mainGlobals "sum"=some none)
    (v_av:PySem.W.nsIn K mainGlobals "MOST_ROWS"=some (some (.int 16 tkc_av)))
    (v_as:PySem.W.nsIn K mainGlobals "MOST_COLUMNS"=some (some (.int 30 tkc_as)))
    (v_at:PySem.W.nsIn K mainGlobals "MOST_POINTS"=some (some (.int 12 tkc_at)))
    (g_ak:PySem.W.nsIn K mainGlobals "MIRRORED_SIDES"=some (some (.ref D_ak)))
    (l_ak:K.lookup D_ak=some ⟨.type "dict",none,.dict #[⟨hashStr w "left",.str "left" ta0_ak,.str "right" tb0_ak⟩,⟨hashStr w "right",.str "right" ta1_ak,.str "left" tb1_ak⟩,⟨hashStr w "both",.str "both" ta2_ak,.str "both" tb2_ak⟩] ep_ak,#[]⟩)
    (ns_ak:(D_ak == sysModules)=false)
   :∃ t,Txt w K mg t :=
  ⟨⟨f_ac,_,f_s,_,f_q,_,f_h,_,f_o,_,f_m,_,f_g,_,f_ag,_,f_ae,_,f_meeting,_,f_total,_,f_upright,_,f_v,_,f_exchangeable,_,f_p,_,f_exchanged,_,f_uncrossed,_,f_w,_,f_aj,_,f_t,_,f_k,_,T_k,f_f,_,f_l,_,f_e,_,f_r,_,f_i,_,f_c,_,f_d,_,f_a,_,f_b,_,f_af,_,f_n,_,f_x,_,f_u,_,f_al,_,f_ab,_,f_aa,_,f_z,_,f_ai,_,f_ad,_,f_law,_,C_ao,C_ah,C_y,C_j,D_ak⟩,{
    g_ao:=PySem.W.mg_of X G g_ao
    g_ah:=PySem.W.mg_of X G g_ah
    g_y:=PySem.W.mg_of X G g_y
    g_j:=PySem.W.mg_of X G g_j
    F_ac:=xr (st:=s_ac) l_ac c_ac k_ac
    b_ac:=(xr (st:=s_ac) l_ac c_ac k_ac).binds (ps:=["self", "width"]) fun _ _ _ _ _ _ us hl=>match us,hl with | [_,_],_=>rfl
    F_s:=xr (st:=s_s) l_s c_s k_s
    b_s:=(xr (st:=s_s) l_s c_s k_s).binds (ps:=["self"]) fun _ _ _ _ _ _ us hl=>match us,hl with | [_],_=>rfl
    F_q:=xr (st:=s_q) l_q c_q k_q
    b_q:=(xr (st:=s_q) l_q c_q k_q).binds (ps:=["self"]) fun _ _ _ _ _ _ us hl=>match us,hl with | [_],_=>rfl
    F_h:=xr (st:=s_h) l_h c_h k_h
    b_h:=(xr (st:=s_h) l_h c_h k_h).binds (ps:=["self", "x"]) fun _ _ _ _ _ _ us hl=>match us,hl with | [_,_],_=>rfl
    F_o:=xr (st:=s_o) l_o c_o k_o
    b_o:=(xr (st:=s_o) l_o c_o k_o).binds (ps:=["self"]) fun _ _ _ _ _ _ us hl=>match us,hl with | [_],_=>rfl
    F_m:=xr (st:=s_m) l_m c_m k_m
    b_m:=(xr (st:=s_m) l_m c_m k_m).binds (ps:=["self"]) fun _ _ _ _ _ _ us hl=>match us,hl with | [_],_=>rfl
    F_g:=xr (st:=s_g) l_g c_g k_g
    b_g:=(xr (st:=s_g) l_g c_g k_g).binds (ps:=["self", "x"]) fun _ _ _ _ _ _ us hl=>match us,hl with | [_,_],_=>rfl
    g_ag:=PySem.W.mg_of X G a_ag
    F_ag:=xr (st:=s_ag) l_ag c_ag k_ag
    b_ag:=(xr (st:=s_ag) l_ag c_ag k_ag).binds (ps:=["word", "width"]) fun _ _ _ _ _ _ us hl=>match us,hl with | [_,_],_=>rfl
    g_ae:=PySem.W.mg_of X G a_ae
    F_ae:=xr (st:=s_ae) l_ae c_ae k_ae
    b_ae:=(xr (st:=s_ae) l_ae c_ae k_ae).binds (ps:=["picture", "name", "side", "row"]) fun _ _ _ _ _ _ us hl=>match us,hl with | [_,_,_,_],_=>rfl
    g_meeting:=PySem.W.mg_of X G a_meeting
    F_meeting:=xr (st:=xbn) l_meeting c_meeting k_meeting
    b_meeting:=(xr (st:=xbn) l_meeting c_meeting k_meeting).binds (ps:=["picture", "one", "other"]) fun _ _ _ _ _ _ us hl=>match us,hl with | [_,_,_],_=>rfl
    g_total:=PySem.W.mg_of X G a_total
    F_total:=xr (st:=xb8) l_total c_total k_total
    b_total:=(xr (st:=xb8) l_total c_total k_total).binds (ps:=["picture", "pairs"]) fun _ _ _ _ _ _ us hl=>match us,hl with | [_,_],_=>rfl
    g_upright:=PySem.W.mg_of X G a_upright
    F_upright:=xr (st:=xbm) l_upright c_upright k_upright
    b_upright:=(xr (st:=xbm) l_upright c_upright k_upright).binds (ps:=["picture", "pairs"]) fun _ _ _ _ _ _ us hl=>match us,hl with | [_,_],_=>rfl
    g_v:=PySem.W.mg_of X G a_v
    F_v:=xr (st:=s_v) l_v c_v k_v
    b_v:=(xr (st:=s_v) l_v c_v k_v).binds (ps:=["picture", "pair"]) fun _ _ _ _ _ _ us hl=>match us,hl with | [_,_],_=>rfl
    g_exchangeable:=PySem.W.mg_of X G a_exchangeable
    F_exchangeable:=xr (st:=xa4) l_exchangeable c_exchangeable k_exchangeable
    b_exchangeable:=(xr (st:=xa4) l_exchangeable c_exchangeable k_exchangeable).binds (ps:=["picture", "pairs"]) fun _ _ _ _ _ _ us hl=>match us,hl with | [_,_],_=>rfl
    g_p:=PySem.W.mg_of X G a_p
    F_p:=xr (st:=s_p) l_p c_p k_p
    b_p:=(xr (st:=s_p) l_p c_p k_p).binds (ps:=["picture", "one", "other"]) fun _ _ _ _ _ _ us hl=>match us,hl with | [_,_,_],_=>rfl
    g_exchanged:=PySem.W.mg_of X G a_exchanged
    F_exchanged:=xr (st:=xa8) l_exchanged c_exchanged k_exchanged
    b_exchanged:=(xr (st:=xa8) l_exchanged c_exchanged k_exchanged).binds (ps:=["pairs", "name", "other"]) fun _ _ _ _ _ _ us hl=>match us,hl with | [_,_,_],_=>rfl
    g_uncrossed:=PySem.W.mg_of X G a_uncrossed
    F_uncrossed:=xr (st:=xbi) l_uncrossed c_uncrossed k_uncrossed
    b_uncrossed:=(xr (st:=xbi) l_uncrossed c_uncrossed k_uncrossed).binds (ps:=["picture", "pairs"]) fun _ _ _ _ _ _ us hl=>match us,hl with | [_,_],_=>rfl
    g_w:=PySem.W.mg_of X G a_w
    F_w:=xr (st:=s_w) l_w c_w k_w
    b_w:=(xr (st:=s_w) l_w c_w k_w).binds (ps:=["thing", "low", "high"]) fun _ _ _ _ _ _ us hl=>match us,hl with | [_,_,_],_=>rfl
    g_aj:=PySem.W.mg_of X G a_aj
    F_aj:=xr (st:=s_aj) l_aj c_aj k_aj
    b_aj:=(xr (st:=s_aj) l_aj c_aj k_aj).binds (ps:=["thing"]) fun _ _ _ _ _ _ us hl=>match us,hl with | [_],_=>rfl
    F_t:=xr (st:=s_t) l_t c_t k_t
    b_t:=(xr (st:=s_t) l_t c_t k_t).binds (ps:=["self", "width", "height"]) fun _ _ _ _ _ _ us hl=>match us,hl with | [_,_,_],_=>rfl
    F_k:=(xiu (st:=s_k) l_k c_k k_k)
    b_k:=(xiu (st:=s_k) l_k c_k k_k).binds t_k rfl 7 rfl fun _ _ _ _ _ _ us hl=>match us,hl with | [_,_,_,_,_,_,_],_=>⟨_,rfl,rfl⟩
    F_f:=xr (st:=s_f) l_f c_f k_f
    b_f:=(xr (st:=s_f) l_f c_f k_f).binds (ps:=["self", "side", "row"]) fun _ _ _ _ _ _ us hl=>match us,hl with | [_,_,_],_=>rfl
    F_l:=xr (st:=s_l) l_l c_l k_l
    b_l:=(xr (st:=s_l) l_l c_l k_l).binds (ps:=["self"]) fun _ _ _ _ _ _ us hl=>match us,hl with | [_],_=>rfl
    F_e:=xr (st:=s_e) l_e c_e k_e
    b_e:=(xr (st:=s_e) l_e c_e k_e).binds (ps:=["self", "name"]) fun _ _ _ _ _ _ us hl=>match us,hl with | [_,_],_=>rfl
    F_r:=xr (st:=s_r) l_r c_r k_r
    b_r:=(xr (st:=s_r) l_r c_r k_r).binds (ps:=["self", "name", "side", "row"]) fun _ _ _ _ _ _ us hl=>match us,hl with | [_,_,_,_],_=>rfl
    F_i:=xr (st:=s_i) l_i c_i k_i
    b_i:=(xr (st:=s_i) l_i c_i k_i).binds (ps:=["self", "name", "side", "row"]) fun _ _ _ _ _ _ us hl=>match us,hl with | [_,_,_,_],_=>rfl
    F_c:=xr (st:=s_c) l_c c_c k_c
    b_c:=(xr (st:=s_c) l_c c_c k_c).binds (ps:=["self", "name"]) fun _ _ _ _ _ _ us hl=>match us,hl with | [_,_],_=>rfl
    F_d:=xr (st:=s_d) l_d c_d k_d
    b_d:=(xr (st:=s_d) l_d c_d k_d).binds (ps:=["self", "x", "y"]) fun _ _ _ _ _ _ us hl=>match us,hl with | [_,_,_],_=>rfl
    F_a:=xr (st:=s_a) l_a c_a k_a
    b_a:=(xr (st:=s_a) l_a c_a k_a).binds (ps:=["self", "name", "x", "y"]) fun _ _ _ _ _ _ us hl=>match us,hl with | [_,_,_,_],_=>rfl
    F_b:=xr (st:=s_b) l_b c_b k_b
    b_b:=(xr (st:=s_b) l_b c_b k_b).binds (ps:=["self", "side", "row"]) fun _ _ _ _ _ _ us hl=>match us,hl with | [_,_,_],_=>rfl
    g_af:=PySem.W.mg_of X G a_af
    F_af:=xr (st:=s_af) l_af c_af k_af
    b_af:=(xr (st:=s_af) l_af c_af k_af).binds (ps:=["_law_script", "_law_k"]) fun _ _ _ _ _ _ us hl=>match us,hl with | [_,_],_=>rfl
    g_n:=PySem.W.mg_of X G a_n
    F_n:=xr (st:=s_n) l_n c_n k_n
    b_n:=(xr (st:=s_n) l_n c_n k_n).binds (ps:=["_law_cell_here", "_law_k"]) fun _ _ _ _ _ _ us hl=>match us,hl with | [_,_],_=>rfl
    g_x:=PySem.W.mg_of X G a_x
    F_x:=xr (st:=s_x) l_x c_x k_x
    b_x:=(xr (st:=s_x) l_x c_x k_x).binds (ps:=["_law_cell_here", "_law_most", "_law_wide", "_law_high", "_law_free"]) fun _ _ _ _ _ _ us hl=>match us,hl with | [_,_,_,_,_],_=>rfl
    g_u:=PySem.W.mg_of X G a_u
    F_u:=xr (st:=s_u) l_u c_u k_u
    b_u:=(xr (st:=s_u) l_u c_u k_u).binds (ps:=["_law_picture", "_law_cell_here"]) fun _ _ _ _ _ _ us hl=>match us,hl with | [_,_],_=>rfl
    g_al:=PySem.W.mg_of X G a_al
    F_al:=xr (st:=s_al) l_al c_al k_al
    b_al:=(xr (st:=s_al) l_al c_al k_al).binds (ps:=["_law_points", "_law_seats", "_law_name", "_law_side", "_law_row"]) fun _ _ _ _ _ _ us hl=>match us,hl with | [_,_,_,_,_],_=>rfl
    g_ab:=PySem.W.mg_of X G a_ab
    F_ab:=xr (st:=s_ab) l_ab c_ab k_ab
    b_ab:=(xr (st:=s_ab) l_ab c_ab k_ab).binds (ps:=["_law_points", "_law_seats", "_law_cell_here"]) fun _ _ _ _ _ _ us hl=>match us,hl with | [_,_,_],_=>rfl
    g_aa:=PySem.W.mg_of X G a_aa
    F_aa:=xr (st:=s_aa) l_aa c_aa k_aa
    b_aa:=(xr (st:=s_aa) l_aa c_aa k_aa).binds (ps:=["_law_width", "_law_point", "_law_side"]) fun _ _ _ _ _ _ us hl=>match us,hl with | [_,_,_],_=>rfl
    g_z:=PySem.W.mg_of X G a_z
    F_z:=xr (st:=s_z) l_z c_z k_z
    b_z:=(xr (st:=s_z) l_z c_z k_z).binds (ps:=["_law_width", "_law_point", "_law_side", "_law_row"]) fun _ _ _ _ _ _ us hl=>match us,hl with | [_,_,_,_],_=>rfl
    g_ai:=PySem.W.mg_of X G a_ai
    F_ai:=xr (st:=s_ai) l_ai c_ai k_ai
    b_ai:=(xr (st:=s_ai) l_ai c_ai k_ai).binds (ps:=["_law_width", "_law_points", "_law_pairs"]) fun _ _ _ _ _ _ us hl=>match us,hl with | [_,_,_],_=>rfl
    g_ad:=PySem.W.mg_of X G a_ad
    F_ad:=xr (st:=s_ad) l_ad c_ad k_ad
    b_ad:=(xr (st:=s_ad) l_ad c_ad k_ad).binds (ps:=["_law_width", "_law_points", "_law_pairs"]) fun _ _ _ _ _ _ us hl=>match us,hl with | [_,_,_],_=>rfl
    g_law:=PySem.W.mg_of X G a_law
    F_law:=xr (st:=xcd) l_law c_law k_law
    b_law:=(xr (st:=xcd) l_law c_law k_law).binds (ps:=["_law_script"]) fun _ _ _ _ _ _ us hl=>match us,hl with | [_],_=>rfl
    c_ao:=⟨pg_ao,hd_ao,po_ao,sa_ao⟩
    ca_ao:=ca_ao
    mo_ao:=mo_ao
    k_ao:=⟨mk_ao,a_ac,i_ac,kc_ao⟩
    c_ah:=⟨pg_ah,hd_ah,po_ah,sa_ah⟩
    ca_ah:=ca_ah
    mo_ah:=mo_ah
    k_ah:=⟨mk_ah,a_LeftSide_init,i_ac,kc_ah⟩
    m_s:=⟨a_s,i_s,k_s⟩
    m_q:=⟨a_q,i_q,k_q⟩
    m_h:=⟨a_h,i_h,k_h⟩
    c_y:=⟨pg_y,hd_y,po_y,sa_y⟩
    ca_y:=ca_y
    mo_y:=mo_y
    k_y:=⟨mk_y,a_RightSide_init,i_ac,kc_y⟩
    m_o:=⟨a_o,i_o,k_o⟩
    m_m:=⟨a_m,i_m,k_m⟩
    m_g:=⟨a_g,i_g,k_g⟩
    c_j:=⟨pg_j,hd_j,po_j,sa_j⟩
    ca_j:=ca_j
    mo_j:=mo_j
    k_j:=⟨mk_j,a_t,i_t,kc_j⟩
    m_k:=⟨a_k,i_k,k_k⟩
    m_f:=⟨a_f,i_f,k_f⟩
    m_l:=⟨a_l,i_l,k_l⟩
    m_e:=⟨a_e,i_e,k_e⟩
    m_r:=⟨a_r,i_r,k_r⟩
    m_i:=⟨a_i,i_i,k_i⟩
    m_c:=⟨a_c,i_c,k_c⟩
    m_d:=⟨a_d,i_d,k_d⟩
    m_a:=⟨a_a,i_a,k_a⟩
    m_b:=⟨a_b,i_b,k_b⟩
    cg:=cg
    ct:=ct
    n_ar:=n_ar
    n_ap:=n_ap
    n_am:=n_am
    n_an:=n_an
    n_aq:=n_aq
    n_aw:=n_aw
    n_au:=n_au
    n_abs:=PySem.W.mg_none_of X G n_abs
    n_bool:=PySem.W.mg_none_of X G n_bool
    n_dict:=PySem.W.mg_none_of X G n_dict
    n_enumerate:=PySem.W.mg_none_of X G n_enumerate
    n_int:=PySem.W.mg_none_of X G n_int
    n_isinstance:=PySem.W.mg_none_of X G n_isinstance
    n_len:=PySem.W.mg_none_of X G n_len
    n_list:=PySem.W.mg_none_of X G n_list
    n_max:=PySem.W.mg_none_of X G n_max
    n_min:=PySem.W.mg_none_of X G n_min
    n_range:=PySem.W.mg_none_of X G n_range
    n_reversed:=PySem.W.mg_none_of X G n_reversed
    n_sorted:=PySem.W.mg_none_of X G n_sorted
    n_str:=PySem.W.mg_none_of X G n_str
    n_sum:=PySem.W.mg_none_of X G n_sum
    v_av:=⟨_,PySem.W.mg_of X G v_av⟩
    v_as:=⟨_,PySem.W.mg_of X G v_as⟩
    v_at:=⟨_,PySem.W.mg_of X G v_at⟩
    g_ak:=PySem.W.mg_of X G g_ak
    D_ak:=⟨ns_ak,_,_,l_ak,.cons rfl ⟨_,rfl⟩ ⟨_,rfl⟩ (.cons rfl ⟨_,rfl⟩ ⟨_,rfl⟩ (.cons rfl ⟨_,rfl⟩ ⟨_,rfl⟩ (.nil))),by decide⟩ }⟩
theorem sc_ac:x0 ["self", "width"] ["self", "width"] (xh s_ac):=⟨rfl,rfl,rfl,by decide +kernel,rfl,by decide +kernel,by decide +kernel⟩
theorem sc_s:x0 ["self"] ["self"] (xh s_s):=⟨rfl,rfl,rfl,by decide +kernel,rfl,by decide +kernel,by decide +kernel⟩
theorem sc_q:x0 ["self"] ["self"] (xh s_q):=⟨rfl,rfl,rfl,by decide +kernel,rfl,by decide +kernel,by decide +kernel⟩
theorem sc_h:x0 ["self", "x"] ["self", "x"] (xh s_h):=⟨rfl,rfl,rfl,by decide +kernel,rfl,by decide +kernel,by decide +kernel⟩
theorem sc_o:x0 ["self"] ["self"] (xh s_o):=⟨rfl,rfl,rfl,by decide +kernel,rfl,by decide +kernel,by decide +kernel⟩
theorem sc_m:x0 ["self"] ["self"] (xh s_m):=⟨rfl,rfl,rfl,by decide +kernel,rfl,by decide +kernel,by decide +kernel⟩
theorem sc_g:x0 ["self", "x"] ["self", "x"] (xh s_g):=⟨rfl,rfl,rfl,by decide +kernel,rfl,by decide +kernel,by decide +kernel⟩
theorem sc_ag:x0 ["word", "width"] ["word", "width"] (xh s_ag):=⟨rfl,rfl,rfl,by decide +kernel,rfl,by decide +kernel,by decide +kernel⟩
theorem sc_ae:x0 ["picture", "name", "side", "row", "x", "y", "toward", "down", "upright", "level"] ["picture", "name", "side", "row"] (xh s_ae):=⟨rfl,rfl,rfl,by decide +kernel,rfl,by decide +kernel,by decide +kernel⟩
theorem xbb:x0 ["picture", "one", "other", "name", "side", "row", "theirs", "cell"] ["picture", "one", "other"] (xh xbn):=⟨rfl,rfl,rfl,by decide +kernel,rfl,by decide +kernel,by decide +kernel⟩
theorem xl3:x0 ["picture", "pairs"] ["picture", "pairs"] (xh xb8):=⟨rfl,rfl,rfl,by decide +kernel,rfl,by decide +kernel,by decide +kernel⟩
theorem xjl:x0 ["picture", "pairs"] ["picture", "pairs"] (xh xbm):=⟨rfl,rfl,rfl,by decide +kernel,rfl,by decide +kernel,by decide +kernel⟩
theorem sc_v:x0 ["picture", "pair", "name", "side", "row", "x", "y"] ["picture", "pair"] (xh s_v):=⟨rfl,rfl,rfl,by decide +kernel,rfl,by decide +kernel,by decide +kernel⟩
theorem xbf:x0 ["picture", "pairs", "number", "one", "other", "cell"] ["picture", "pairs"] (xh xa4):=⟨rfl,rfl,rfl,by decide +kernel,rfl,by decide +kernel,by decide +kernel⟩
theorem sc_p:x0 ["picture", "one", "other", "name", "side", "row", "other_name", "other_side", "other_row"] ["picture", "one", "other"] (xh s_p):=⟨rfl,rfl,rfl,by decide +kernel,rfl,by decide +kernel,by decide +kernel⟩
theorem xc8:x0 ["pairs", "name", "other", "seats", "giver"] ["pairs", "name", "other"] (xh xa8):=⟨rfl,rfl,rfl,by decide +kernel,rfl,by decide +kernel,by decide +kernel⟩
theorem xa1:x0 ["picture", "pairs", "now", "steps", "found", "name", "other", "cell"] ["picture", "pairs"] (xh xbi):=⟨rfl,rfl,rfl,by decide +kernel,rfl,by decide +kernel,by decide +kernel⟩
theorem sc_w:x0 ["thing", "low", "high"] ["thing", "low", "high"] (xh s_w):=⟨rfl,rfl,rfl,by decide +kernel,rfl,by decide +kernel,by decide +kernel⟩
theorem sc_aj:x0 ["thing"] ["thing"] (xh s_aj):=⟨rfl,rfl,rfl,by decide +kernel,rfl,by decide +kernel,by decide +kernel⟩
theorem sc_t:x0 ["self", "width", "height"] ["self", "width", "height"] (xh s_t):=⟨rfl,rfl,rfl,by decide +kernel,rfl,by decide +kernel,by decide +kernel⟩
theorem sc_k:x0 ["self", "name", "x", "y", "sides", "low", "high", "highest"] ["self", "name", "x", "y", "sides", "low", "high"] (xh s_k):=⟨rfl,rfl,rfl,by decide +kernel,rfl,by decide +kernel,by decide +kernel⟩
theorem sc_f:x0 ["self", "side", "row"] ["self", "side", "row"] (xh s_f):=⟨rfl,rfl,rfl,by decide +kernel,rfl,by decide +kernel,by decide +kernel⟩
theorem sc_l:x0 ["self"] ["self"] (xh s_l):=⟨rfl,rfl,rfl,by decide +kernel,rfl,by decide +kernel,by decide +kernel⟩
theorem sc_e:x0 ["self", "name"] ["self", "name"] (xh s_e):=⟨rfl,rfl,rfl,by decide +kernel,rfl,by decide +kernel,by decide +kernel⟩
theorem sc_r:x0 ["self", "name", "side", "row", "x", "y", "sides", "low", "high"] ["self", "name", "side", "row"] (xh s_r):=⟨rfl,rfl,rfl,by decide +kernel,rfl,by decide +kernel,by decide +kernel⟩
theorem sc_i:x0 ["self", "name", "side", "row", "x", "y"] ["self", "name", "side", "row"] (xh s_i):=⟨rfl,rfl,rfl,by decide +kernel,rfl,by decide +kernel,by decide +kernel⟩
theorem sc_c:x0 ["self", "name"] ["self", "name"] (xh s_c):=⟨rfl,rfl,rfl,by decide +kernel,rfl,by decide +kernel,by decide +kernel⟩
theorem sc_d:x0 ["self", "x", "y"] ["self", "x", "y"] (xh s_d):=⟨rfl,rfl,rfl,by decide +kernel,rfl,by decide +kernel,by decide +kernel⟩
theorem sc_a:x0 ["self", "name", "x", "y", "others", "other"] ["self", "name", "x", "y"] (xh s_a):=⟨rfl,rfl,rfl,by decide +kernel,rfl,by decide +kernel,by decide +kernel⟩
theorem sc_b:x0 ["self", "side", "row"] ["self", "side", "row"] (xh s_b):=⟨rfl,rfl,rfl,by decide +kernel,rfl,by decide +kernel,by decide +kernel⟩
theorem sc_af:x0 ["_law_script", "_law_k"] ["_law_script", "_law_k"] (xh s_af):=⟨rfl,rfl,rfl,by decide +kernel,rfl,by decide +kernel,by decide +kernel⟩
theorem sc_n:x0 ["_law_cell_here", "_law_k", "_law_number"] ["_law_cell_here", "_law_k"] (xh s_n):=⟨rfl,rfl,rfl,by decide +kernel,rfl,by decide +kernel,by decide +kernel⟩
theorem sc_x:x0 ["_law_cell_here", "_law_most", "_law_wide", "_law_high", "_law_free", "_law_picture", "_law_points", "_law_first", "_law_k", "_law_x", "_law_y", "_law_number", "_law_low", "_law_point", "_law_name"] ["_law_cell_here", "_law_most", "_law_wide", "_law_high", "_law_free"] (xh s_x):=⟨rfl,rfl,rfl,by decide +kernel,rfl,by decide +kernel,by decide +kernel⟩
theorem sc_u:x0 ["_law_picture", "_law_cell_here", "_law_seats", "_law_j", "_law_side", "_law_number", "_law_bits", "_law_row"] ["_law_picture", "_law_cell_here"] (xh s_u):=⟨rfl,rfl,rfl,by decide +kernel,rfl,by decide +kernel,by decide +kernel⟩
theorem sc_al:x0 ["_law_points", "_law_seats", "_law_name", "_law_side", "_law_row", "_law_point"] ["_law_points", "_law_seats", "_law_name", "_law_side", "_law_row"] (xh s_al):=⟨rfl,rfl,rfl,by decide +kernel,rfl,by decide +kernel,by decide +kernel⟩
theorem sc_ab:x0 ["_law_points", "_law_seats", "_law_cell_here", "_law_pairs", "_law_taken", "_law_k", "_law_name", "_law_number", "_law_some", "_law_seat", "_law_turn"] ["_law_points", "_law_seats", "_law_cell_here"] (xh s_ab):=⟨rfl,rfl,rfl,by decide +kernel,rfl,by decide +kernel,by decide +kernel⟩
theorem sc_aa:x0 ["_law_width", "_law_point", "_law_side"] ["_law_width", "_law_point", "_law_side"] (xh s_aa):=⟨rfl,rfl,rfl,by decide +kernel,rfl,by decide +kernel,by decide +kernel⟩
theorem sc_z:x0 ["_law_width", "_law_point", "_law_side", "_law_row", "_law_x", "_law_y", "_law_found", "_law_k"] ["_law_width", "_law_point", "_law_side", "_law_row"] (xh s_z):=⟨rfl,rfl,rfl,by decide +kernel,rfl,by decide +kernel,by decide +kernel⟩
theorem sc_ai:x0 ["_law_width", "_law_points", "_law_pairs"] ["_law_width", "_law_points", "_law_pairs"] (xh s_ai):=⟨rfl,rfl,rfl,by decide +kernel,rfl,by decide +kernel,by decide +kernel⟩
theorem sc_ad:x0 ["_law_width", "_law_points", "_law_pairs", "_law_there", "_law_name", "_law_side", "_law_row", "_law_place"] ["_law_width", "_law_points", "_law_pairs"] (xh s_ad):=⟨rfl,rfl,rfl,by decide +kernel,rfl,by decide +kernel,by decide +kernel⟩
theorem xc3:x0 ["_law_script", "_law_picture", "_law_points", "_law_seats", "_law_k", "_law_pairs", "_law_found"] ["_law_script"] (xh xcd):=⟨rfl,rfl,rfl,by decide +kernel,rfl,by decide +kernel,by decide +kernel⟩
end S53
set_option maxRecDepth 100000
set_option maxHeartbeats 4000000
namespace S53
open PySem L2 XL PyProof.Rows
theorem xb4 {K:PySem.W.Frag} {v:Value}:PySem.W.kitOne K v v=some true:=if_pos (by simp)
theorem xp {H H':Hp} {p:Addr} {o:HO} (s:Same H H') (hp:H' p=none):Same H (L2.upd H' p o):=fun b u z=>by
 have z':=s b u z
 rw [xg (xk z' hp)]
 exact z'
theorem xmr {H:Hp} {x dx:Addr} {a b c:HO} (hx:H x=none) (hd:H dx=none):Same H (upd (upd (upd H dx a) x b) x c):=fun y o e=>by
 rw [xg (xk e hx),xg (xk e hx),xg (xk e hd)]
 exact e
def xx (b:Bool):Str:=if b then "left" else "right"
def xc4 (t:Adr) (H:Hp) (p:Addr) (b:Bool) (w:Int):Prop:=∃ dx,H p=some (.ins (if b then t.C_ah else t.C_y) dx [("width",.int w)])
def xn2 (K:PySem.W.Frag):Sp:=fun vs H Q _=>∃ (p C dx:Addr) (n:Int),vs=[.ref p,.int n]∧H p=some (.ins C dx [])∧Cls K C∧xc9 K C "width"∧Q .non (upd H p (.ins C dx [("width",.int n)]))
def sp1 (v:V):Sp:=fun vs H Q _=>∃ p:V,vs=[p]∧Q v H
def xpy:Sp:=fun vs H Q _=>∃ (p:V) (x:V),vs=[p,x]∧Q x H
def xpu (t:Adr):Sp:=fun vs H Q _=>∃ (p:Addr) (n:Int),vs=[.ref p]∧xc4 t H p false n∧Q (.int (n + 1)) H
def xpr (t:Adr):Sp:=fun vs H Q _=>∃ (p:Addr) (n x:Int),vs=[.ref p,.int x]∧xc4 t H p false n∧Q (.int (n + 1 - x)) H
def xmf (t:Adr):Sp:=fun vs H Q _=>∃ (b:Bool) (n:Int),vs=[.str (xx b),.int n]∧∀ p H',H p=none→xc4 t H' p b n→Same H H'→Q (.ref p) H'
section
variable {P:Program} {w:World} {K:PySem.W.Frag} {mg:Str→Option Value} {base:Heap} {t:Adr}
theorem ok_ac (T:Txt w K mg t):FnOk true P w K mg base (CXo P w) 1 t.f_ac t.d_ac ["self", "width"] (xn2 K):=by
 refine T.F_ac.okn (k:=0) sc_ac (fun vs H Q E h=>?_) (fun cdv A outer s H vs Q E hr h=>?_)
 ·obtain ⟨p,C,dx,n,rfl,_⟩:=h
  rfl
 ·obtain ⟨p,C,dx,n,rfl,h⟩:=h
  refine ⟨_,xo (xd5 (pv 0) (pv 1) rfl),?_⟩
  obtain ⟨hp,c,na,q⟩:=h
  exact ⟨_,rfl,_,rfl,p,C,dx,[],rfl,hp,c,na,(by show 0 < 1000; decide),q⟩
theorem ok_s (T:Txt w K mg t):FnOk true P w K mg base (CXo P w) 1 t.f_s t.d_s ["self"] (sp1 (.int 0)):=by
 refine T.F_s.okn (k:=0) sc_s (fun vs H Q E h=>?_) (fun cdv A outer s H vs Q E hr h=>?_)
 ·obtain ⟨p,rfl,_⟩:=h
  rfl
 ·obtain ⟨p,rfl,h⟩:=h
  refine ⟨_,xo (x4 (xl)),?_⟩
  exact h
theorem ok_q (T:Txt w K mg t):FnOk true P w K mg base (CXo P w) 1 t.f_q t.d_q ["self"] (sp1 (.int (-1))):=by
 refine T.F_q.okn (k:=0) sc_q (fun vs H Q E h=>?_) (fun cdv A outer s H vs Q E hr h=>?_)
 ·obtain ⟨p,rfl,_⟩:=h
  rfl
 ·obtain ⟨p,rfl,h⟩:=h
  refine ⟨_,xo (x4 (xg2 xfa (xl))),?_⟩
  exact ⟨1,rfl,h⟩
theorem ok_h (T:Txt w K mg t):FnOk true P w K mg base (CXo P w) 1 t.f_h t.d_h ["self", "x"] (xpy):=by
 refine T.F_h.okn (k:=0) sc_h (fun vs H Q E h=>?_) (fun cdv A outer s H vs Q E hr h=>?_)
 ·obtain ⟨p,x,rfl,_⟩:=h
  rfl
 ·obtain ⟨p,x,rfl,h⟩:=h
  refine ⟨_,xo (x4 (pv 1)),?_⟩
  exact ⟨_,rfl,h⟩
theorem ok_m (T:Txt w K mg t):FnOk true P w K mg base (CXo P w) 1 t.f_m t.d_m ["self"] (sp1 (.int 1)):=by
 refine T.F_m.okn (k:=0) sc_m (fun vs H Q E h=>?_) (fun cdv A outer s H vs Q E hr h=>?_)
 ·obtain ⟨p,rfl,_⟩:=h
  rfl
 ·obtain ⟨p,rfl,h⟩:=h
  refine ⟨_,xo (x4 (xl)),?_⟩
  exact h
theorem ok_o (T:Txt w K mg t):FnOk true P w K mg base (CXo P w) 1 t.f_o t.d_o ["self"] (xpu t):=by
 refine T.F_o.okn (k:=0) sc_o (fun vs H Q E h=>?_) (fun cdv A outer s H vs Q E hr h=>?_)
 ·obtain ⟨p,n,rfl,_⟩:=h
  rfl
 ·obtain ⟨p,n,rfl,h⟩:=h
  refine ⟨_,xo (x4 (xt xah (xac (pv 0) rfl) (xl))),?_⟩
  obtain ⟨⟨dx,hp⟩,q⟩:=h
  exact ⟨_,rfl,p,t.C_y,dx,_,_,rfl,hp,T.c_y,T.n_ar,rfl,_,_,rfl,rfl,q⟩
theorem ok_g (T:Txt w K mg t):FnOk true P w K mg base (CXo P w) 1 t.f_g t.d_g ["self", "x"] (xpr t):=by
 refine T.F_g.okn (k:=0) sc_g (fun vs H Q E h=>?_) (fun cdv A outer s H vs Q E hr h=>?_)
 ·obtain ⟨p,n,x,rfl,_⟩:=h
  rfl
 ·obtain ⟨p,n,x,rfl,h⟩:=h
  refine ⟨_,xo (x4 (xt xdo (xt xah (xac (pv 0) rfl) (xl)) (pv 1))),?_⟩
  obtain ⟨⟨dx,hp⟩,q⟩:=h
  exact ⟨_,rfl,p,t.C_y,dx,_,_,rfl,hp,T.c_y,T.n_ar,rfl,_,_,rfl,rfl,_,rfl,_,_,rfl,rfl,q⟩
theorem ok_ag (T:Txt w K mg t):FnOk true P w K mg base (CXo P w) 3 t.f_ag t.d_ag ["word", "width"] (xmf t):=by
 refine T.F_ag.okn (k:=2) sc_ag (fun vs H Q E h=>?_) (fun cdv A outer s H vs Q E hr h=>?_)
 ·obtain ⟨b,n,rfl,_⟩:=h
  rfl
 ·obtain ⟨b,n,rfl,h⟩:=h
  refine ⟨_,xj (xal (xa9 (xae xb5 rfl T.n_isinstance boot_isinstance (xa (pv 0) (xa (xc0 (v:=.ty "str") rfl T.n_str boot_str rfl) (xi))))) (xj (xal (xag xct (pv 0) (xba) (xan _)) (xo (x4 (xf0 T.k_ah (ok_ac T) (hr.mono (by decide)) rfl T.g_ah T.b_ac .nil xm (xa (pv 1) (xi))))) (xaa))
   (xo (xal (xag xct (pv 0) (xba) (xan _)) (xo (x4 (xf0 T.k_y (ok_ac T) (hr.mono (by decide)) rfl T.g_y T.b_ac .nil xm (xa (pv 1) (xi))))) (xaa)))) (xaa))
   (xo (xa6)),?_⟩
  cases b with
  | true =>
   refine ⟨_,rfl,_,_,rfl,.inl ⟨_,_,true,.str _,rfl,xb4,true,rfl,iteT ?_⟩⟩
   refine ⟨_,rfl,rfl,_,rfl,?_⟩
   refine ifP (by decide +kernel) ?_
   exact ⟨_,rfl,fun x dx hx hdx ne=>⟨x,t.C_ah,dx,n,rfl,xb,T.c_ah,T.n_au,rfl,h x _ hx ⟨dx,xb⟩ (xmr hx hdx)⟩⟩
  | false =>
   refine ⟨_,rfl,_,_,rfl,.inl ⟨_,_,true,.str _,rfl,xb4,true,rfl,iteT ?_⟩⟩
   refine ⟨_,rfl,rfl,_,rfl,?_⟩
   refine ifN (by decide +kernel) ?_
   refine ⟨_,rfl,rfl,_,rfl,?_⟩
   refine ifP (by decide +kernel) ?_
   exact ⟨_,rfl,fun x dx hx hdx ne=>⟨x,t.C_y,dx,n,rfl,xb,T.c_y,T.n_ar,rfl,h x _ hx ⟨dx,xb⟩ (xmr hx hdx)⟩⟩
end
def isNm (x:Str):Bool:=decide (x.length=1) && (!decide (x.cps.toList < [97]) && !decide ([122] < x.cps.toList))
def xqh:Sp:=fun vs H Q _=>∃ (i lo hi:Int),vs=[.int i,.int lo,.int hi]∧lo≤i∧i≤hi∧Q (.bl true) H
def xpc:Sp:=fun vs H Q _=>∃ (x:Str),vs=[.str x]∧isNm x=true∧Q (.bl true) H
theorem xpf:("a":Str).cps.toList=[97]:=by decide +kernel
theorem xp9:("z":Str).cps.toList=[122]:=by decide +kernel
section
variable {P:Program} {w:World} {K:PySem.W.Frag} {mg:Str→Option Value} {base:Heap} {t:Adr}
theorem ok_w (T:Txt w K mg t):FnOk true P w K mg base (CXo P w) 1 t.f_w t.d_w ["thing", "low", "high"] (xqh):=by
 refine T.F_w.okn (k:=0) sc_w (fun vs H Q E h=>?_) (fun cdv A outer s H vs Q E hr h=>?_)
 ·obtain ⟨i,lo,hi,rfl,_⟩:=h
  rfl
 ·obtain ⟨i,lo,hi,rfl,h⟩:=h
  refine ⟨_,xo (x4 (xca (xae xb5 rfl T.n_isinstance boot_isinstance (xa (pv 0) (xa (xc0 (v:=.ty "int") rfl T.n_int boot_int rfl) (xi)))) (xca (xn4 (xae xb5 rfl T.n_isinstance boot_isinstance (xa (pv 0) (xa (xc0 (v:=.ty "bool") rfl T.n_bool boot_bool rfl) (xi))))) (xd7 (xdx xeq xeq (pv 1) (pv 0) (pv 2)))))),?_⟩
  obtain ⟨c1,c2,q⟩:=h
  refine ⟨_,rfl,_,_,rfl,.inl ⟨_,_,true,.int i,rfl,xb4,true,rfl,iteT ?_⟩⟩
  refine ⟨_,rfl,_,_,rfl,.inl ⟨_,_,false,.int i,rfl,(by rfl),false,rfl,true,rfl,iteT ?_⟩⟩
  refine ⟨_,rfl,_,rfl,_,_,rfl,rfl,_,rfl,ite2 (fun c=>?_) (fun c=>?_)⟩
  ·refine ⟨_,rfl,_,_,rfl,rfl,?_⟩
   show Q (.bl (decide (i≤hi))) H
   rw [decide_eq_true c2]
   exact q
  ·exact absurd (decide_eq_true c1) c
theorem ok_aj (T:Txt w K mg t):FnOk true P w K mg base (CXo P w) 1 t.f_aj t.d_aj ["thing"] (xpc):=by
 refine T.F_aj.okn (k:=0) sc_aj (fun vs H Q E h=>?_) (fun cdv A outer s H vs Q E hr h=>?_)
 ·obtain ⟨x,rfl,_⟩:=h
  rfl
 ·obtain ⟨x,rfl,h⟩:=h
  refine ⟨_,xo (x4 (xca (xae xb5 rfl T.n_isinstance boot_isinstance (xa (pv 0) (xa (xc0 (v:=.ty "str") rfl T.n_str boot_str rfl) (xi)))) (xca (xcz xct (xae xh5 rfl T.n_len boot_len (xa (pv 0) (xi))) (xl) (xan _)) (xd7 (xdx xgu xgu (xba) (pv 0) (xba)))))),?_⟩
  obtain ⟨hn,q⟩:=h
  unfold isNm at hn
  simp only [Bool.and_eq_true,decide_eq_true_eq,Bool.not_eq_true',decide_eq_false_iff_not] at hn
  obtain ⟨l1,n1,n2⟩:=hn
  refine ⟨_,rfl,_,_,rfl,.inl ⟨_,_,true,.str x,rfl,xb4,true,rfl,iteT ?_⟩⟩
  refine ⟨_,rfl,_,rfl,(by rw [l1]; decide),rfl,_,rfl,ite2 (fun c=>?_) (fun c=>?_)⟩
  ·refine ⟨_,rfl,_,_,rfl,rfl,_,rfl,ite2 (fun d=>?_) (fun d=>?_)⟩
   ·refine ⟨_,_,rfl,rfl,?_⟩
    rw [xp9,decide_eq_false n2]
    exact q
   ·rw [xpf,decide_eq_false n1] at d
    exact absurd rfl d
  ·exact absurd (decide_eq_true (by rw [l1]; rfl)) c
end
section
end
end S53
set_option maxRecDepth 100000
set_option maxHeartbeats 4000000
namespace S53
open PySem L2 XL PyProof.Rows
structure Pt where
 nm:Str
 x:Int
 y:Int
 sd:Str
 lo:Int
 hi:Int
def ptV (p:Pt):List V:=[.int p.x,.int p.y,.str p.sd,.int p.lo,.int p.hi]
inductive Pl (H:Hp):List Pt→List (Key × V)→Prop
 | nil:Pl H [] []
 | cons {p:Pt} {q:Addr} {ps:List Pt} {kvs:List (Key × V)} (h:H q=some (.tup (ptV p))) (r:Pl H ps kvs):Pl H (p :: ps) ((.inr p.nm,.ref q) :: kvs)
inductive PtsL (H:Hp):List Pt→List Addr→Prop
 | nil:PtsL H [] []
 | cons {p:Pt} {q:Addr} {ps:List Pt} {qs:List Addr} (h:H q=some (.tup (.str p.nm :: ptV p))) (r:PtsL H ps qs):PtsL H (p :: ps) (q :: qs)
theorem xms {σ:L2.St} {H:Hp} {A B:Hp→Prop} (h:A H):xcm σ H (fun b H4=>if b=true then A H4 else B H4):=by
 show if true=true then A H else B H
 rw [if_pos rfl]
 exact h
theorem xjr {i:Nat} {v:V} {σ:L2.St} {H:Hp} {A B:L2.St→Hp→Prop} (h:A (σ.set i (some v)) H):xce i v σ H (fun σ' H'=>xcm σ' H' fun b H4=>if b=true then A σ' H4 else B σ' H4):=by
 show if true=true then A (σ.set i (some v)) H else B (σ.set i (some v)) H
 rw [if_pos rfl]
 exact h
def Tups (H H':Hp):Prop:=∀ b xs,H b=some (.tup xs)→H' b=some (.tup xs)
theorem Pl.keep {H H':Hp} (s:Tups H H') {ps:List Pt} {kvs:List (Key × V)} (h:Pl H ps kvs):Pl H' ps kvs:=by
 induction h with
 | nil=>exact .nil
 | cons h _ ih=>exact .cons (s _ _ h) ih
theorem PtsL.keep {H H':Hp} (s:Tups H H') {ps:List Pt} {qs:List Addr} (h:PtsL H ps qs):PtsL H' ps qs:=by
 induction h with
 | nil=>exact .nil
 | cons h _ ih=>exact .cons (s _ _ h) ih
theorem Pl.len {H:Hp} {ps:List Pt} {kvs:List (Key × V)} (h:Pl H ps kvs):kvs.length=ps.length:=by
 induction h with
 | nil=>rfl
 | cons _ _ ih=>simp [ih]
theorem PtsL.len {H:Hp} {ps:List Pt} {qs:List Addr} (h:PtsL H ps qs):qs.length=ps.length:=by
 induction h with
 | nil=>rfl
 | cons _ _ ih=>simp [ih]
theorem Pl.find {H:Hp} {ps:List Pt} {kvs:List (Key × V)} (h:Pl H ps kvs) {nm:Str} {pt:Pt} (e:ps.find? (fun p=>decide (p.nm=nm))=some pt):∃ q,valV kvs (.inr nm)=some (.ref q)∧H q=some (.tup (ptV pt)):=by
 induction h with
 | nil=>simp at e
 | @cons p q ps kvs h _ ih =>
  by_cases c:p.nm=nm
  ·rw [List.find?_cons_of_pos (by simpa using c)] at e
   cases e
   exact ⟨q,xaw (by rw [c]),h⟩
  ·rw [List.find?_cons_of_neg (by simpa using c)] at e
   obtain ⟨q',h1,h2⟩:=ih e
   exact ⟨q',by rw [xam (fun z=>c (Sum.inr.inj z))]; exact h1,h2⟩
theorem Pl.no {H:Hp} {ps:List Pt} {kvs:List (Key × V)} (h:Pl H ps kvs) {nm:Str} (e:∀ p ∈ ps,p.nm≠nm):valV kvs (.inr nm)=none:=by
 induction h with
 | nil=>rfl
 | @cons p q ps kvs h _ ih =>
  rw [xam (fun z=>e p List.mem_cons_self (Sum.inr.inj z))]
  exact ih fun p' hp=>e p' (List.mem_cons_of_mem _ hp)
theorem Pl.get {H:Hp} {ps:List Pt} {kvs:List (Key × V)} (h:Pl H ps kvs) {i:Nat} {k:Key} {x:V} (e:kvs[i]?=some (k,x)):∃ p q,ps[i]?=some p∧k=.inr p.nm∧x=.ref q∧H q=some (.tup (ptV p)):=by
 induction h generalizing i with
 | nil=>simp at e
 | @cons p q ps kvs h _ ih =>
  cases i with
  | zero =>
   simp at e
   exact ⟨p,q,rfl,e.1.symm,e.2.symm,h⟩
  | succ j=>exact ih (by simpa using e)
theorem PtsL.get {H:Hp} {ps:List Pt} {qs:List Addr} (h:PtsL H ps qs) {i:Nat} {q:Addr} (e:qs[i]?=some q):∃ p,ps[i]?=some p∧H q=some (.tup (.str p.nm :: ptV p)):=by
 induction h generalizing i with
 | nil=>simp at e
 | @cons p q' ps qs h _ ih =>
  cases i with
  | zero =>
   simp at e
   subst e
   exact ⟨p,rfl,h⟩
  | succ j=>exact ih (by simpa using e)
theorem Pl.snoc {H:Hp} {ps:List Pt} {kvs:List (Key × V)} (h:Pl H ps kvs) {p:Pt} {q:Addr} (e:H q=some (.tup (ptV p))):Pl H (ps ++ [p]) (kvs ++ [(.inr p.nm,.ref q)]):=by
 induction h with
 | nil=>exact .cons e .nil
 | cons h _ ih=>exact .cons h ih
theorem PtsL.snoc {H:Hp} {ps:List Pt} {qs:List Addr} (h:PtsL H ps qs) {p:Pt} {q:Addr} (e:H q=some (.tup (.str p.nm :: ptV p))):PtsL H (ps ++ [p]) (qs ++ [q]):=by
 induction h with
 | nil=>exact .cons e .nil
 | cons h _ ih=>exact .cons h ih
abbrev picF (w h:Int) (dp do_:Addr):List (Str × V):=[("width",.int w),("height",.int h),("placed",.ref dp),("opened",.ref do_)]
structure Pic (t:Adr) (H:Hp) (a dp do_:Addr) (w h:Int) (ps:List Pt):Prop where
 ins:∃ dx,H a=some (.ins t.C_j dx (picF w h dp do_))
 pl:∃ kvs,H dp=some (.dK kvs)∧Pl H ps kvs
 w1:1≤w
 w2:w≤30
 h1:1≤h
 h2:h≤16
 len:ps.length≤12
theorem Same.tups {H H':Hp} (s:Same H H'):Tups H H':=fun b xs e=>s b _ e
theorem Pic.same {t:Adr} {H H':Hp} {a dp do_:Addr} {w h:Int} {ps:List Pt} (s:Same H H') (p:Pic t H a dp do_ w h ps):Pic t H' a dp do_ w h ps :=
 ⟨let ⟨dx,e⟩:=p.ins; ⟨dx,s _ _ e⟩,let ⟨kvs,e,q⟩:=p.pl; ⟨kvs,s _ _ e,q.keep (Same.tups s)⟩,p.w1,p.w2,p.h1,p.h2,p.len⟩
theorem xav {w h:Int} {dp do_:Addr} {m:Str} (e:((["width", "height", "placed", "opened"]:List Str).all fun k=>!(m == k))=true):(picF w h dp do_).lookup m=none:=by
 simp only [List.all_cons,List.all_nil,Bool.and_eq_true,Bool.not_eq_true'] at e
 obtain ⟨e1,e2,e3,e4,_⟩:=e
 unfold picF
 rw [List.lookup_cons,e1]
 show List.lookup m [("height",V.int h),("placed",V.ref dp),("opened",V.ref do_)]=none
 rw [List.lookup_cons,e2]
 show List.lookup m [("placed",V.ref dp),("opened",V.ref do_)]=none
 rw [List.lookup_cons,e3]
 show List.lookup m [("opened",V.ref do_)]=none
 rw [List.lookup_cons,e4]
 rfl
theorem lkW {w h:Int} {dp do_:Addr}:(picF w h dp do_).lookup ("width":Str)=some (.int w):=by
 unfold picF
 rw [List.lookup_cons,show (("width":Str) == "width")=true from by decide +kernel]
theorem lkH {w h:Int} {dp do_:Addr}:(picF w h dp do_).lookup ("height":Str)=some (.int h):=by
 unfold picF
 rw [List.lookup_cons,show (("height":Str) == "width")=false from by decide +kernel]
 show List.lookup ("height":Str) [("height",V.int h),("placed",V.ref dp),("opened",V.ref do_)]=_
 rw [List.lookup_cons,show (("height":Str) == "height")=true from by decide +kernel]
theorem lkP {w h:Int} {dp do_:Addr}:(picF w h dp do_).lookup ("placed":Str)=some (.ref dp):=by
 unfold picF
 rw [List.lookup_cons,show (("placed":Str) == "width")=false from by decide +kernel]
 show List.lookup ("placed":Str) [("height",V.int h),("placed",V.ref dp),("opened",V.ref do_)]=_
 rw [List.lookup_cons,show (("placed":Str) == "height")=false from by decide +kernel]
 show List.lookup ("placed":Str) [("placed",V.ref dp),("opened",V.ref do_)]=_
 rw [List.lookup_cons,show (("placed":Str) == "placed")=true from by decide +kernel]
def xnt (t:Adr):Sp:=fun vs H Q _=>∃ (p dx:Addr) (w h:Int),vs=[.ref p,.int w,.int h]∧H p=some (.ins t.C_j dx [])∧1≤w∧w≤30∧1≤h∧h≤16 ∧
 ∀ H' dp do_,H dp=none→H do_=none→(∀ b u,b≠p→H b=some u→H' b=some u)→Pic t H' p dp do_ w h []→H' do_=some (.dT [])→Q .non H'
def spCN (t:Adr):Sp:=fun vs H Q _=>∃ (a dp do_:Addr) (pw ph:Int) (ps:List Pt) (nm:Str) (pt:Pt),vs=[.ref a,.str nm]∧Pic t H a dp do_ pw ph ps∧isNm nm=true∧ps.find? (fun p=>decide (p.nm=nm))=some pt∧Q .non H
def spCC (t:Adr):Sp:=fun vs H Q _=>∃ (a dp do_:Addr) (pw ph:Int) (ps:List Pt) (x y:Int),vs=[.ref a,.int x,.int y]∧Pic t H a dp do_ pw ph ps∧1≤x∧x≤pw∧1≤y∧y≤ph∧Q .non H
def xpv (t:Adr):Sp:=fun vs H Q _=>∃ (a dp do_:Addr) (pw ph:Int) (ps:List Pt),vs=[.ref a]∧Pic t H a dp do_ pw ph ps∧∀ H' l qs,Same H H'→H' l=some (.lst (qs.map V.ref))→PtsL H' ps qs→Q (.ref l) H'
def spCL (t:Adr):Sp:=fun vs H Q _=>∃ (a dp do_:Addr) (pw ph:Int) (ps:List Pt) (nm:Str) (x y:Int),vs=[.ref a,.str nm,.int x,.int y]∧Pic t H a dp do_ pw ph ps∧(∀ p ∈ ps,p.nm≠nm→p.x≠x∧p.y≠y)∧∀ H',Same H H'→Q .non H'
def spCS (t:Adr):Sp:=fun vs H Q _=>∃ (a dp do_:Addr) (pw ph:Int) (ps:List Pt) (b:Bool) (r:Int),vs=[.ref a,.str (xx b),.int r]∧Pic t H a dp do_ pw ph ps∧1≤r∧r≤ph∧∀ H',Same H H'→Q .non H'
def xp1 (t:Adr):Sp:=fun vs H Q _=>∃ (a dp do_:Addr) (pw ph:Int) (ps:List Pt) (nm:Str) (x y:Int) (sd:Str) (lo hi:Int) (hv:V),vs=[.ref a,.str nm,.int x,.int y,.str sd,.int lo,hv]∧Pic t H a dp do_ pw ph ps ∧
 ((hv=.non∧hi=ph)∨hv=.int hi)∧isNm nm=true∧1≤x∧x≤pw∧1≤y∧y≤ph∧(sd="left"∨sd="right"∨sd="both")∧1≤lo∧lo≤hi∧hi≤ph∧(∀ p ∈ ps,p.nm≠nm∧p.x≠x∧p.y≠y)∧ps.length < 12 ∧
 ∀ H',(∀ b u,b≠dp→H b=some u→H' b=some u)→Pic t H' a dp do_ pw ph (ps ++ [⟨nm,x,y,sd,lo,hi⟩])→Q .non H'
def xpw (t:Adr):Sp:=fun vs H Q _=>∃ (a dp do_:Addr) (pw ph:Int) (ps:List Pt) (nm:Str) (pt:Pt),vs=[.ref a,.str nm]∧Pic t H a dp do_ pw ph ps∧isNm nm=true∧ps.find? (fun p=>decide (p.nm=nm))=some pt ∧
 ∀ H' q,Same H H'→H' q=some (.tup [.int pt.x,.int pt.y])→Q (.ref q) H'
def lenI (w x y:Int) (b:Bool) (r:Int):Int:=(if b then x else w + 1 - x) + (if y - r < 0 then -(y - r) else y - r)
def xqg (t:Adr):Sp:=fun vs H Q _=>∃ (a dp do_:Addr) (pw ph:Int) (ps:List Pt) (nm:Str) (pt:Pt) (b:Bool) (r:Int),vs=[.ref a,.str nm,.str (xx b),.int r]∧Pic t H a dp do_ pw ph ps∧isNm nm=true∧ps.find? (fun p=>decide (p.nm=nm))=some pt∧1≤r∧r≤ph ∧
 ∀ H',Same H H'→Q (.int (lenI pw pt.x pt.y b r)) H'
section
variable {P:Program} {w:World} {K:PySem.W.Frag} {mg:Str→Option Value} {base:Heap} {t:Adr}
theorem ok_t (T:Txt w K mg t):FnOk true P w K mg base (CXo P w) 2 t.f_t t.d_t ["self", "width", "height"] (xnt t):=by
 refine T.F_t.okn (k:=1) sc_t (fun vs H Q E h=>?_) (fun cdv A outer s H vs Q E hr h=>?_)
 ·obtain ⟨p,dx,pw,ph,rfl,_⟩:=h
  rfl
 ·obtain ⟨p,dx,pw,ph,rfl,h⟩:=h
  refine ⟨_,xj (xal (PW.pt (xdt (xbr (xa9 (xz (ok_w T) (hr.mono (by decide)) rfl T.g_w T.F_w.kp T.b_w .nil xm (xa (pv 1) (xa (xl) (xa (xel (v:=.int 30) rfl T.v_as.choose_spec ⟨_,rfl⟩) (xi))))))) (xc7 (xbr (xa9 (xz (ok_w T) (hr.mono (by decide)) rfl T.g_w T.F_w.kp T.b_w .nil xm (xa (pv 2) (xa (xl) (xa (xel (v:=.int 16) rfl T.v_av.choose_spec ⟨_,rfl⟩) (xi)))))))))) (xo (xa6)) (xaa))
   (xj (xd5 (pv 0) (pv 1) rfl)
   (xj (xd5 (pv 0) (pv 2) rfl)
   (xj (xd5 (pv 0) (xia) rfl)
   (xo (xd5 (pv 0) (xhx) rfl))))),?_⟩
  obtain ⟨hp,w1,w2,h1,h2,q⟩:=h
  refine ⟨_,rfl,pw,1,30,rfl,w1,w2,true,rfl,iteF ⟨_,rfl,ph,1,16,rfl,h1,h2,true,rfl,iteF ?_⟩⟩
  refine ⟨_,rfl,_,rfl,p,_,dx,_,rfl,hp,T.c_j,T.n_an,(by show 0 < 1000; decide),?_⟩
  refine ⟨_,rfl,_,rfl,p,_,dx,_,rfl,xb,T.c_j,T.n_am,(by show 1 < 1000; decide),?_⟩
  rw [xcu]
  refine fun dp hdp=>?_
  have n1:p≠dp:=xk xb hdp
  refine ⟨_,rfl,p,_,dx,_,rfl,(by rw [xg n1]; exact xb),T.c_j,T.n_ap,(by show 2 < 1000; decide),fun do_ hdo=>?_⟩
  have n2:p≠do_:=xk xb hdo
  have n3:dp≠do_:=xk (by rw [xg (Ne.symm n1)]; exact xb) hdo
  refine ⟨_,rfl,p,_,dx,_,rfl,(by rw [xg n2]; exact xb),T.c_j,T.n_aq,(by show 3 < 1000; decide),?_⟩
  rw [xg (Ne.symm n1)] at hdp
  have hdo':H do_=none:=by
   have z:=hdo
   rw [xg (Ne.symm n2),xg (Ne.symm n3),xg (Ne.symm n2)] at z
   exact z
  refine q _ dp do_ hdp hdo' (fun b u nb e=>?_) ⟨⟨dx,xb⟩,⟨[],?_,.nil⟩,w1,w2,h1,h2,Nat.zero_le _⟩ ?_
  ·have c1:b≠dp:=xk e hdp
   have c2:b≠do_:=fun z=>by
    subst z
    rw [xg nb,xg c1,xg nb] at hdo
    rw [e] at hdo
    cases hdo
   rw [xg nb,xg c2,xg nb,xg c1,xg nb]
   exact e
  ·rw [xg (Ne.symm n1),xg n3,xg (Ne.symm n1)]
   exact xb
  ·rw [xg (Ne.symm n2)]
   exact xb
theorem ok_c (T:Txt w K mg t):FnOk true P w K mg base (CXo P w) 2 t.f_c t.d_c ["self", "name"] (spCN t):=by
 refine T.F_c.okn (k:=1) sc_c (fun vs H Q E h=>?_) (fun cdv A outer s H vs Q E hr h=>?_)
 ·obtain ⟨a,dp,do_,pw,ph,ps,nm,pt,rfl,_⟩:=h
  rfl
 ·obtain ⟨a,dp,do_,pw,ph,ps,nm,pt,rfl,h⟩:=h
  refine ⟨_,xo (xal (PW.pt (xdt (xbr (xa9 (xz (ok_aj T) (hr.mono (by decide)) rfl T.g_aj T.F_aj.kp T.b_aj .nil xm (xa (pv 1) (xi))))) (xc7 (xdn (xkj (xbh hr) (pv 1) (xac (pv 0) rfl)))))) (xo (xa6)) (xaa)),?_⟩
  obtain ⟨pic,hn,hf,q⟩:=h
  obtain ⟨⟨dx,hp⟩,⟨kvs,hk,pl⟩,_⟩:=id pic
  obtain ⟨q0,e,_⟩:=pl.find hf
  exact ⟨_,rfl,nm,rfl,hn,true,rfl,iteF ⟨_,rfl,_,rfl,a,_,dx,_,_,rfl,hp,T.c_j,T.n_ap,lkP,dp,some (.ref q0),rfl,(by rw [← e]; exact DGet.k (k:=.inr nm) hk),false,rfl,iteF q⟩⟩
theorem ok_d (T:Txt w K mg t):FnOk true P w K mg base (CXo P w) 2 t.f_d t.d_d ["self", "x", "y"] (spCC t):=by
 refine T.F_d.okn (k:=1) sc_d (fun vs H Q E h=>?_) (fun cdv A outer s H vs Q E hr h=>?_)
 ·obtain ⟨a,dp,do_,pw,ph,ps,x,y,rfl,_⟩:=h
  rfl
 ·obtain ⟨a,dp,do_,pw,ph,ps,x,y,rfl,h⟩:=h
  refine ⟨_,xo (xal (PW.pt (xdt (xbr (xa9 (xz (ok_w T) (hr.mono (by decide)) rfl T.g_w T.F_w.kp T.b_w .nil xm (xa (pv 1) (xa (xl) (xa (xac (pv 0) rfl) (xi))))))) (xc7 (xbr (xa9 (xz (ok_w T) (hr.mono (by decide)) rfl T.g_w T.F_w.kp T.b_w .nil xm (xa (pv 2) (xa (xl) (xa (xac (pv 0) rfl) (xi)))))))))) (xo (xa6)) (xaa)),?_⟩
  obtain ⟨pic,x1,x2,y1,y2,q⟩:=h
  obtain ⟨⟨dx,hp⟩,_,_⟩:=id pic
  exact ⟨_,rfl,_,rfl,a,_,dx,_,_,rfl,hp,T.c_j,T.n_an,lkW,x,1,pw,rfl,x1,x2,true,rfl,iteF ⟨_,rfl,_,rfl,a,_,dx,_,_,rfl,hp,T.c_j,T.n_am,lkH,y,1,ph,rfl,y1,y2,true,rfl,iteF q⟩⟩
theorem ok_l (T:Txt w K mg t):FnOk true P w K mg base (CXo P w) 1 t.f_l t.d_l ["self"] (xpv t):=by
 refine T.F_l.okn (k:=0) sc_l (fun vs H Q E h=>?_) (fun cdv A outer s H vs Q E hr h=>?_)
 ·obtain ⟨a,dp,do_,pw,ph,ps,rfl,_⟩:=h
  rfl
 ·obtain ⟨a,dp,do_,pw,ph,ps,rfl,h⟩:=h
  refine ⟨_,xo (x4 (xfw (xa7 rfl (xay (zs:=["name", "rest"]) (ys:=[]) (fr:=[]) (N0:=["self"]) (sc0:=xh s_l) (by decide +kernel) rfl rfl rfl) (xmi (xac (pv 0) rfl)) (fun _ _ _ _ _ ow nd=>(xa3 rfl (xu (xq (i:=0) nd rfl (Or.inl (ow _ (by simp))) (Or.inr (ow _ (by simp)))) (xu (xq (i:=1) nd rfl (Or.inl (ow _ (by simp))) (Or.inr (ow _ (by simp)))) (xas))):PG _ _ (gTup K 2 _))) (xf4 (xbp (by decide) (xbp (by decide) (xe6)))) (fun _ _ _ _ _=>xa5) (fun _ _ _ _ _=>xt (r:=xj6 K) xix (xap (xa (pv 0) (xi))) (pv 1))))),?_⟩
  obtain ⟨pic,q⟩:=h
  obtain ⟨⟨dx,hp⟩,⟨kvs,hk,pl⟩,_⟩:=id pic
  refine ⟨_,rfl,a,_,dx,_,_,rfl,hp,T.c_j,T.n_ap,lkP,dp,kvs,rfl,hk,fun ob nf l hl=>?_⟩
  have nl:l≠dp:=fun z=>by
   rw [z,xb] at hl
   cases hl
  have hl0:H l=none:=by rwa [xg nl] at hl
  refine xb3 kvs.length (fun i xs H2=>∃ qs:List Addr,xs=qs.map V.ref∧qs.length≤i∧H2 dp=some (.frz ob (.dK kvs))∧(∀ b u,b≠dp→H b=some u→H2 b=some u)∧H2 l=some (.lst xs)∧PtsL H2 (ps.take i) qs) ?_ ?_ ?_ ?_
  ·refine ⟨[],rfl,Nat.le_refl _,?_,fun b u nb e=>?_,xb,by simpa using PtsL.nil⟩
   ·rw [xg (Ne.symm nl)]
    exact xb
   ·rw [xg (xk e hl0),xg nb]
    exact e
  ·rintro i xs H2 lt ⟨qs,_,_,hd,_⟩
   exact ⟨hd,lt⟩
  ·rintro i xs H2 v H3 lt ⟨qs,rfl,ql,hd,sm,hl2,pts⟩ ⟨p,k,x,hx,rfl,hpn,rfl⟩ N hN
   obtain ⟨pt,q0,hpt,rfl,rfl,hq0⟩:=pl.get hx
   have e0:H2 q0=some (.tup (ptV pt)):=sm _ _ (x3 hq0 hk (fun z=>nomatch z)) hq0
   refine ⟨p,_,rfl,SqT.of xb,rfl,_,_,rfl,_,_,rfl,rfl,?_⟩
   refine xms ?_
   have n0:q0≠p:=xk e0 hpn
   refine ⟨_,rfl,(by show 1≤sizeLine; decide),fun p1 h1=>⟨_,rfl,p1,q0,_,ptV pt,rfl,rfl,SqT.of xb,SqT.of ?_,(by simp),(by show 1 + 5≤sizeLine; decide),(fun z=>nomatch z),fun _ p2 h2=>?_⟩⟩
   ·rw [xg (xk (by rw [xg n0]; exact e0) h1),xg n0]
    exact e0
   have up:∀ b u,H2 b=some u→(upd (upd (upd H2 p (.tup [.str pt.nm,.ref q0])) p1 (.tup [.str pt.nm])) p2 (.tup ([.str pt.nm] ++ ptV pt))) b=some u:=fun b u e=>by
    have c1:b≠p:=xk e hpn
    have e1:upd H2 p (.tup [.str pt.nm,.ref q0]) b=some u:=by rw [xg c1]; exact e
    have c2:b≠p1:=xk e1 h1
    have e2:upd (upd H2 p (.tup [.str pt.nm,.ref q0])) p1 (.tup [.str pt.nm]) b=some u:=by rw [xg c2]; exact e1
    rw [xg (xk e2 h2)]
    exact e2
   have c3:l≠p2:=xk (show upd (upd H2 p (.tup [.str pt.nm,.ref q0])) p1 (.tup [.str pt.nm]) l=some (.lst (qs.map V.ref)) from by
    have c1:l≠p:=xk hl2 hpn
    have e1:upd H2 p (.tup [.str pt.nm,.ref q0]) l=some (.lst (qs.map V.ref)):=by rw [xg c1]; exact hl2
    rw [xg (xk e1 h1)]
    exact e1) h2
   have tk:ps.take (i + 1)=ps.take i ++ [pt]:=by
    rw [List.take_add_one,hpt]
    rfl
   have ll:qs.length < sizeLine:=Nat.lt_trans (by have:=pl.len; have:=pic.len; omega:qs.length < 13) (by decide)
   refine ⟨up _ _ hl2,by rw [List.length_map]; exact ll,hN _ _ ⟨qs ++ [p2],by simp,by simp; omega,?_,fun b u nb e=>?_,xb,?_⟩⟩
   ·rw [xg (Ne.symm nl)]
    exact up _ _ hd
   ·have e2:=up _ _ (sm b u nb e)
    rw [xg (xk e hl0)]
    exact e2
   ·rw [tk]
    refine PtsL.snoc (PtsL.keep (fun b xs e=>?_) pts) ?_
    ·have e2:=up _ _ e
     rw [xg (x3 e2 (up _ _ hl2) (fun z=>nomatch z))]
     exact e2
    ·rw [xg (Ne.symm c3)]
     exact xb
  ·rintro xs H2 ⟨qs,rfl,_,hd,sm,hl2,pts⟩
   refine ⟨⟨hd,Nat.le_refl _⟩,dp,ob,_,hd,nf,q _ l qs (fun b u e=>?_) ?_ (PtsL.keep (fun b xs e=>?_) (by rw [pl.len,List.take_length] at pts; exact pts))⟩
   ·by_cases c:b=dp
    ·subst c
     rw [hk] at e
     cases e
     exact xb
    ·rw [xg c]
     exact sm b u c e
   ·rw [xg nl]
    exact hl2
   ·rw [xg (x3 e hd (fun z=>nomatch z))]
    exact e
theorem ok_a (T:Txt w K mg t):FnOk true P w K mg base (CXo P w) 2 t.f_a t.d_a ["self", "name", "x", "y"] (spCL t):=by
 refine T.F_a.okn (k:=1) sc_a (fun vs H Q E h=>?_) (fun cdv A outer s H vs Q E hr h=>?_)
 ·obtain ⟨a,dp,do_,pw,ph,ps,nm,x,y,rfl,_⟩:=h
  rfl
 ·obtain ⟨a,dp,do_,pw,ph,ps,nm,x,y,rfl,h⟩:=h
  refine ⟨_,xj (xd1 rfl (xay (zs:=["other"]) (ys:=["name"]) (fr:=[1]) (N0:=["self", "name", "x", "y", "others", "other"]) (sc0:=xh s_a) (by decide +kernel) rfl rfl rfl) (xax (xb2 (pv 0) T.c_j T.m_l (ok_l T) (hr.mono (by decide)) T.b_l .nil xm)) (fun _ _ _ _ _ ow nd=>xq (i:=0) nd rfl (Or.inl (ow _ (by simp))) (Or.inr (ow _ (by simp)))) (xa2 (by decide)) (fun _ _ _ _ _=>xir (xag xmq (xaf (r:=rIxT K) xbd (pv 0) (xl) (fun _ _=>rfl)) (pv 1) (xan _))) (fun _ _ _ _ _=>pv 0) (j:=4) rfl (Or.inl rfl))
   (xj (xbl PassesOwn.never rfl (xax (pv 4)) (xq (i:=5) sc_a.nd rfl (Or.inl rfl)) (xo (xal (xag xct (xaf xbd (pv 5) (xl) (fun _ _=>rfl)) (pv 2) (xan _)) (xo (xa6)) (xaa))))
   (xo (xbl PassesOwn.never rfl (xax (pv 4)) (xq (i:=5) sc_a.nd rfl (Or.inl rfl)) (xo (xal (xag xct (xaf xbd (pv 5) (xl) (fun _ _=>rfl)) (pv 3) (xan _)) (xo (xa6)) (xaa)))))),?_⟩
  obtain ⟨pic,no,q⟩:=h
  obtain ⟨⟨dx,hp⟩,⟨kvs,hk,pl⟩,_⟩:=id pic
  refine ⟨_,rfl,a,dx,_,rfl,hp,xav (by decide +kernel),a,dp,do_,pw,ph,ps,rfl,pic,fun H1 l1 qs s1 hl1 pt1=>⟨l1,rfl,⟨_,SqL.of hl1⟩,fun l hl=>?_⟩⟩
  refine xb3 qs.length (fun i xs H2=>∃ os:List Addr,xs=os.map V.ref∧os.length≤i∧Same H1 H2∧H2 l=some (.lst xs)∧∀ o ∈ os,∃ p ∈ ps,p.nm≠nm∧H1 o=some (.tup (.str p.nm :: ptV p))) ?_ ?_ ?_ ?_
  ·exact ⟨[],rfl,Nat.le_refl _,xp (Same.refl _) hl,xb,fun o z=>nomatch z⟩
  ·rintro i xs H2 lt ⟨os,_,_,s2,_⟩
   exact ⟨_,.ref qs[i],SqL.of (s2 _ _ hl1),by simp [lt]⟩
  ·rintro i xs H2 v H3 lt ⟨os,rfl,ol,s2,hl2,hos⟩ ⟨rfl,hv⟩ N hN
   have hv':=hv _ (SqL.of (s2 _ _ hl1))
   rw [List.getElem?_map] at hv'
   obtain ⟨o,ho,rfl⟩:=Option.map_eq_some_iff.mp hv'
   obtain ⟨p,hpp,ep⟩:=pt1.get ho
   refine ⟨_,rfl,o,_,0,_,rfl,rfl,SqT.of (s2 _ _ ep),rfl,_,rfl,rfl,_,rfl,ite2 (fun c=>?_) (fun c=>?_)⟩
   ·have cn:p.nm≠nm:=fun z=>by
     rw [z] at c
     simp at c
    refine ⟨_,rfl,hl2,(by rw [List.length_map]; exact Nat.lt_trans (by have:=pt1.len; have:=pic.len; omega:os.length < 13) (by decide)),hN _ _ ⟨os ++ [o],by simp,by simp; omega,?_,xb,?_⟩⟩
    ·intro b u e
     by_cases cb:b=l
     ·subst cb
      rw [e] at hl
      cases hl
     ·rw [xg cb]
      exact s2 b u e
    ·intro o' ho'
     rcases List.mem_append.mp ho' with z | z
     ·exact hos o' z
     ·have:=List.mem_singleton.mp z
      subst this
      exact ⟨p,List.mem_of_getElem? hpp,cn,ep⟩
   ·exact hN _ _ ⟨os,rfl,by omega,s2,hl2,hos⟩
  ·rintro xs H2 ⟨os,rfl,ol,s2,hl2,hos⟩
   refine ⟨⟨_,SqL.of (s2 _ _ hl1),by simp⟩,?_⟩
   have loop:∀ (o:Addr),o ∈ os→∃ p ∈ ps,p.nm≠nm∧H2 o=some (.tup (.str p.nm :: ptV p)):=fun o ho=>by
    obtain ⟨p,h1,h2,h3⟩:=hos o ho
    exact ⟨p,h1,h2,s2 _ _ h3⟩
   refine ⟨_,rfl,l,rfl,⟨_,SqL.of hl2⟩,xch (xs:=os.map V.ref) (Pv:=fun i σ H3=>∃ v5:Option V,σ=[some (.ref a),some (.str nm),some (.int x),some (.int y),some (.ref l),v5]∧H2=H3) ⟨_,rfl,rfl⟩ (fun _ _ _ _ ⟨_,_,z⟩=>by rw [← z]; exact SqL.of hl2) ?_ ?_⟩
   ·rintro i v σ _ hv ⟨v5,rfl,rfl⟩
    rw [List.getElem?_map] at hv
    obtain ⟨o,ho,rfl⟩:=Option.map_eq_some_iff.mp hv
    obtain ⟨p,m1,m2,m3⟩:=loop o (List.mem_of_getElem? ho)
    refine ⟨_,rfl,o,_,1,_,rfl,rfl,SqT.of m3,rfl,_,rfl,rfl,_,rfl,ifN (decide_eq_false fun z=>(no p m1 m2).1 (V.int.inj z)) ⟨_,rfl,rfl⟩⟩
   ·rintro σ _ ⟨v5,rfl,rfl⟩
    refine ⟨_,rfl,l,rfl,⟨_,SqL.of hl2⟩,xch (xs:=os.map V.ref) (Pv:=fun i σ H3=>∃ v5:Option V,σ=[some (.ref a),some (.str nm),some (.int x),some (.int y),some (.ref l),v5]∧H2=H3) ⟨_,rfl,rfl⟩ (fun _ _ _ _ ⟨_,_,z⟩=>by rw [← z]; exact SqL.of hl2) ?_ ?_⟩
    ·rintro i v σ _ hv ⟨v5,rfl,rfl⟩
     rw [List.getElem?_map] at hv
     obtain ⟨o,ho,rfl⟩:=Option.map_eq_some_iff.mp hv
     obtain ⟨p,m1,m2,m3⟩:=loop o (List.mem_of_getElem? ho)
     refine ⟨_,rfl,o,_,2,_,rfl,rfl,SqT.of m3,rfl,_,rfl,rfl,_,rfl,ifN (decide_eq_false fun z=>(no p m1 m2).2 (V.int.inj z)) ⟨_,rfl,rfl⟩⟩
    ·rintro σ _ ⟨v5,rfl,rfl⟩
     exact q _ (s1.trans s2)
theorem ok_b (T:Txt w K mg t):FnOk true P w K mg base (CXo P w) 4 t.f_b t.d_b ["self", "side", "row"] (spCS t):=by
 refine T.F_b.okn (k:=3) sc_b (fun vs H Q E h=>?_) (fun cdv A outer s H vs Q E hr h=>?_)
 ·obtain ⟨a,dp,do_,pw,ph,ps,b,r,rfl,_⟩:=h
  rfl
 ·obtain ⟨a,dp,do_,pw,ph,ps,b,r,rfl,h⟩:=h
  refine ⟨_,xj (xaz (xz (ok_ag T) (hr.mono (by decide)) rfl T.g_ag T.F_ag.kp T.b_ag .nil xm (xa (pv 1) (xa (xac (pv 0) rfl) (xi)))))
   (xo (xal (xbr (xa9 (xz (ok_w T) (hr.mono (by decide)) rfl T.g_w T.F_w.kp T.b_w .nil xm (xa (pv 2) (xa (xl) (xa (xac (pv 0) rfl) (xi))))))) (xo (xa6)) (xaa))),?_⟩
  obtain ⟨pic,r1,r2,q⟩:=h
  obtain ⟨⟨dx,hp⟩,_,_⟩:=id pic
  refine ⟨_,rfl,_,rfl,a,_,dx,_,_,rfl,hp,T.c_j,T.n_an,lkW,b,pw,rfl,fun p H1 hp1 sd1 s1=>?_⟩
  exact ⟨_,rfl,_,rfl,a,_,dx,_,_,rfl,(s1 _ _ hp),T.c_j,T.n_am,lkH,r,1,ph,rfl,r1,r2,true,rfl,iteF (q H1 s1)⟩
theorem ok_k (T:Txt w K mg t):FnOk true P w K mg base (CXo P w) 3 t.f_k t.d_k ["self", "name", "x", "y", "sides", "low", "high"] (xp1 t):=by
 refine T.F_k.okn (k:=2) sc_k (fun vs H Q E h=>?_) (fun cdv A outer s H vs Q E hr h=>?_)
 ·obtain ⟨a,dp,do_,pw,ph,ps,nm,x,y,sd,lo,hi,hv,rfl,_⟩:=h
  rfl
 ·obtain ⟨a,dp,do_,pw,ph,ps,nm,x,y,sd,lo,hi,hv,rfl,h⟩:=h
  refine ⟨_,xj (x8 (i:=7) sc_k.nd rfl (Or.inl rfl) (xh2 (xag xoa (pv 6) (xeg) (xan _)) (xac (pv 0) rfl) (pv 6)))
   (xj (xal (xbr (xa9 (xz (ok_aj T) (hr.mono (by decide)) rfl T.g_aj T.F_aj.kp T.b_aj .nil xm (xa (pv 1) (xi))))) (xo (xa6)) (xaa))
   (xj (xaz (xao (pv 0) T.c_j T.m_d (ok_d T) (hr.mono (by decide)) T.b_d .nil xm (xa (pv 2) (xa (pv 3) (xi)))))
   (xj (xal (PW.pt (xdt (xbr (xa9 (xae xb5 rfl T.n_isinstance boot_isinstance (xa (pv 4) (xa (xc0 (v:=.ty "str") rfl T.n_str boot_str rfl) (xi)))))) (xc7 (xdn (xkb (pv 4) rfl T.g_ak T.D_ak))))) (xo (xa6)) (xaa))
   (xj (xal (PW.pt (xdt (xbr (xa9 (xz (ok_w T) (hr.mono (by decide)) rfl T.g_w T.F_w.kp T.b_w .nil xm (xa (pv 5) (xa (xl) (xa (xac (pv 0) rfl) (xi))))))) (xc7 (xbr (xa9 (xz (ok_w T) (hr.mono (by decide)) rfl T.g_w T.F_w.kp T.b_w .nil xm (xa (pv 7) (xa (pv 5) (xa (xac (pv 0) rfl) (xi)))))))))) (xo (xa6)) (xaa))
   (xj (xal (xdn (xef (xbh hr) (pv 1) (xac (pv 0) rfl))) (xo (xa6)) (xaa))
   (xj (xal (xag xpq (xae xk4 rfl T.n_len boot_len (xa (xac (pv 0) rfl) (xi))) (xel (v:=.int 12) rfl T.v_at.choose_spec ⟨_,rfl⟩) (xan _)) (xo (xa6)) (xaa))
   (xj (xaz (xao (pv 0) T.c_j T.m_a (ok_a T) (hr.mono (by decide)) T.b_a .nil xm (xa (pv 1) (xa (pv 2) (xa (pv 3) (xi))))))
   (xo (xes (xbh hr) (xac (pv 0) rfl) (pv 1) (xap (xa (pv 2) (xa (pv 3) (xa (pv 4) (xa (pv 5) (xa (pv 7) (xi))))))) rfl))))))))),?_⟩
  obtain ⟨pic,hhv,hn,x1,x2,y1,y2,hsd,l1,l2,l3,no,len,q⟩:=h
  obtain ⟨⟨dx,hp⟩,⟨kvs,hk,pl⟩,_⟩:=id pic
  have hsd':(valV ([(Sum.inr "left",V.str "right"),(Sum.inr "right",V.str "left"),(Sum.inr "both",V.str "both")]:List (Key × V)) (Sum.inr sd)).isSome=true:=by
   rcases hsd with rfl | rfl | rfl <;> decide +kernel
  rcases hhv with ⟨rfl,e⟩ | rfl
  ·obtain rfl:=e.symm
   refine ⟨_,rfl,rfl,_,rfl,ifP (by rfl) ⟨_,rfl,a,_,dx,_,_,rfl,hp,T.c_j,T.n_am,lkH,?_⟩⟩
   refine ⟨_,rfl,nm,rfl,hn,true,rfl,iteF ?_⟩
   refine ⟨_,rfl,a,dx,_,rfl,hp,xav (by decide +kernel),_,rfl,_,rfl,a,dp,do_,pw,ph,ps,x,y,rfl,pic,x1,x2,y1,y2,?_⟩
   refine ⟨_,rfl,_,_,rfl,.inl ⟨_,_,true,.str _,rfl,xb4,true,rfl,iteF ⟨_,rfl,.inr sd,rfl,false,(by rw [hsd']; rfl),iteF ?_⟩⟩⟩
   refine ⟨_,rfl,_,rfl,a,_,dx,_,_,rfl,hp,T.c_j,T.n_am,lkH,lo,1,ph,rfl,l1,(by omega),true,rfl,iteF ⟨_,rfl,_,rfl,_,rfl,a,_,dx,_,_,rfl,hp,T.c_j,T.n_am,lkH,ph,lo,ph,rfl,(by omega),(by omega),true,rfl,iteF ?_⟩⟩
   refine ⟨_,rfl,_,rfl,a,_,dx,_,_,rfl,hp,T.c_j,T.n_ap,lkP,dp,none,rfl,(by rw [← pl.no (nm:=nm) (fun p hp=>(no p hp).1)]; exact DGet.k (k:=.inr nm) hk),false,rfl,iteF ?_⟩
   refine ⟨_,rfl,a,_,dx,_,_,rfl,hp,T.c_j,T.n_ap,lkP,dp,kvs,rfl,hk,_,_,rfl,rfl,_,rfl,ifN (decide_eq_false (by have:=pl.len; omega)) ?_⟩
   refine ⟨_,rfl,a,dx,_,rfl,hp,xav (by decide +kernel),_,rfl,_,rfl,_,rfl,a,dp,do_,pw,ph,ps,nm,x,y,rfl,pic,fun p hp _=>(no p hp).2,fun H1 s1=>?_⟩
   refine ⟨_,rfl,_,rfl,_,rfl,_,rfl,_,rfl,(by show 5≤sizeLine; decide),fun q1 hq1=>?_⟩
   have hp1:upd H1 q1 (.tup [.int x,.int y,.str sd,.int lo,.int ph]) a=some (.ins t.C_j dx (picF pw ph dp do_)):=by rw [xg (xk (s1 _ _ hp) hq1)]; exact s1 _ _ hp
   have hk1:upd H1 q1 (.tup [.int x,.int y,.str sd,.int lo,.int ph]) dp=some (.dK kvs):=by rw [xg (xk (s1 _ _ hk) hq1)]; exact s1 _ _ hk
   refine ⟨_,rfl,a,_,dx,_,_,rfl,hp1,T.c_j,T.n_ap,lkP,_,rfl,dp,_,rfl,DPut.k (k:=.inr nm) hk1 (Nat.lt_trans (by have:=pl.len; omega:kvs.length < 12) (by decide)),?_⟩
   rw [xc1 (.ref q1) (pl.no (nm:=nm) (fun p hp=>(no p hp).1))]
   have nq:q1≠dp:=fun z=>by
    subst z
    rw [s1 _ _ hk] at hq1
    cases hq1
   refine q _ (fun b u nb e=>?_) ⟨⟨dx,?_⟩,⟨_,xb,Pl.snoc (p:=⟨nm,x,y,sd,lo,ph⟩) (pl.keep (fun b xs e=>?_)) ?_⟩,pic.w1,pic.w2,pic.h1,pic.h2,(by rw [List.length_append]; exact len)⟩
   ·rw [xg nb,xg (xk (s1 _ _ e) hq1)]
    exact s1 _ _ e
   ·rw [xg (x3 hp1 hk1 (fun z=>nomatch z))]
    exact hp1
   ·have e':=s1 _ _ e
    rw [xg (x3 e' (s1 _ _ hk) (fun z=>nomatch z)),xg (xk e' hq1)]
    exact e'
   ·rw [xg nq]
    exact xb
  ·refine ⟨_,rfl,rfl,_,rfl,ifN (by rfl) ⟨_,rfl,?_⟩⟩
   refine ⟨_,rfl,nm,rfl,hn,true,rfl,iteF ?_⟩
   refine ⟨_,rfl,a,dx,_,rfl,hp,xav (by decide +kernel),_,rfl,_,rfl,a,dp,do_,pw,ph,ps,x,y,rfl,pic,x1,x2,y1,y2,?_⟩
   refine ⟨_,rfl,_,_,rfl,.inl ⟨_,_,true,.str _,rfl,xb4,true,rfl,iteF ⟨_,rfl,.inr sd,rfl,false,(by rw [hsd']; rfl),iteF ?_⟩⟩⟩
   refine ⟨_,rfl,_,rfl,a,_,dx,_,_,rfl,hp,T.c_j,T.n_am,lkH,lo,1,ph,rfl,l1,(by omega),true,rfl,iteF ⟨_,rfl,_,rfl,_,rfl,a,_,dx,_,_,rfl,hp,T.c_j,T.n_am,lkH,hi,lo,ph,rfl,(by omega),(by omega),true,rfl,iteF ?_⟩⟩
   refine ⟨_,rfl,_,rfl,a,_,dx,_,_,rfl,hp,T.c_j,T.n_ap,lkP,dp,none,rfl,(by rw [← pl.no (nm:=nm) (fun p hp=>(no p hp).1)]; exact DGet.k (k:=.inr nm) hk),false,rfl,iteF ?_⟩
   refine ⟨_,rfl,a,_,dx,_,_,rfl,hp,T.c_j,T.n_ap,lkP,dp,kvs,rfl,hk,_,_,rfl,rfl,_,rfl,ifN (decide_eq_false (by have:=pl.len; omega)) ?_⟩
   refine ⟨_,rfl,a,dx,_,rfl,hp,xav (by decide +kernel),_,rfl,_,rfl,_,rfl,a,dp,do_,pw,ph,ps,nm,x,y,rfl,pic,fun p hp _=>(no p hp).2,fun H1 s1=>?_⟩
   refine ⟨_,rfl,_,rfl,_,rfl,_,rfl,_,rfl,(by show 5≤sizeLine; decide),fun q1 hq1=>?_⟩
   have hp1:upd H1 q1 (.tup [.int x,.int y,.str sd,.int lo,.int hi]) a=some (.ins t.C_j dx (picF pw ph dp do_)):=by rw [xg (xk (s1 _ _ hp) hq1)]; exact s1 _ _ hp
   have hk1:upd H1 q1 (.tup [.int x,.int y,.str sd,.int lo,.int hi]) dp=some (.dK kvs):=by rw [xg (xk (s1 _ _ hk) hq1)]; exact s1 _ _ hk
   refine ⟨_,rfl,a,_,dx,_,_,rfl,hp1,T.c_j,T.n_ap,lkP,_,rfl,dp,_,rfl,DPut.k (k:=.inr nm) hk1 (Nat.lt_trans (by have:=pl.len; omega:kvs.length < 12) (by decide)),?_⟩
   rw [xc1 (.ref q1) (pl.no (nm:=nm) (fun p hp=>(no p hp).1))]
   have nq:q1≠dp:=fun z=>by
    subst z
    rw [s1 _ _ hk] at hq1
    cases hq1
   refine q _ (fun b u nb e=>?_) ⟨⟨dx,?_⟩,⟨_,xb,Pl.snoc (p:=⟨nm,x,y,sd,lo,hi⟩) (pl.keep (fun b xs e=>?_)) ?_⟩,pic.w1,pic.w2,pic.h1,pic.h2,(by rw [List.length_append]; exact len)⟩
   ·rw [xg nb,xg (xk (s1 _ _ e) hq1)]
    exact s1 _ _ e
   ·rw [xg (x3 hp1 hk1 (fun z=>nomatch z))]
    exact hp1
   ·have e':=s1 _ _ e
    rw [xg (x3 e' (s1 _ _ hk) (fun z=>nomatch z)),xg (xk e' hq1)]
    exact e'
   ·rw [xg nq]
    exact xb
theorem ok_e (T:Txt w K mg t):FnOk true P w K mg base (CXo P w) 3 t.f_e t.d_e ["self", "name"] (xpw t):=by
 refine T.F_e.okn (k:=2) sc_e (fun vs H Q E h=>?_) (fun cdv A outer s H vs Q E hr h=>?_)
 ·obtain ⟨a,dp,do_,pw,ph,ps,nm,pt,rfl,_⟩:=h
  rfl
 ·obtain ⟨a,dp,do_,pw,ph,ps,nm,pt,rfl,h⟩:=h
  refine ⟨_,xj (xaz (xao (pv 0) T.c_j T.m_c (ok_c T) (hr.mono (by decide)) T.b_c .nil xm (xa (pv 1) (xi))))
   (xo (x4 (xci xht (xcv (xbh hr) (xac (pv 0) rfl) (pv 1) (fun _ _=>rfl)) xcw (xcy (xl))))),?_⟩
  obtain ⟨pic,hn,hf,q⟩:=h
  obtain ⟨⟨dx,hp⟩,⟨kvs,hk,pl⟩,_⟩:=id pic
  obtain ⟨q0,e,hq0⟩:=pl.find hf
  refine ⟨_,rfl,a,dx,_,rfl,hp,xav (by decide +kernel),_,rfl,a,dp,do_,pw,ph,ps,nm,pt,rfl,pic,hn,hf,?_⟩
  exact ⟨_,rfl,a,_,dx,_,_,rfl,hp,T.c_j,T.n_ap,lkP,_,rfl,dp,.ref q0,rfl,(by rw [← e]; exact DGet.k (k:=.inr nm) hk),2,rfl,q0,ptV pt,rfl,SqT.of hq0,(fun z=>absurd z.2 (by show ¬ ((2:Nat)=5); decide)),fun p hp'=>q _ p (xp (Same.refl _) hp') xb⟩
theorem ok_i (T:Txt w K mg t):FnOk true P w K mg base (CXo P w) 5 t.f_i t.d_i ["self", "name", "side", "row"] (xqg t):=by
 refine T.F_i.okn (k:=4) sc_i (fun vs H Q E h=>?_) (fun cdv A outer s H vs Q E hr h=>?_)
 ·obtain ⟨a,dp,do_,pw,ph,ps,nm,pt,b,r,rfl,_⟩:=h
  rfl
 ·obtain ⟨a,dp,do_,pw,ph,ps,nm,pt,b,r,rfl,h⟩:=h
  refine ⟨_,xj (xbe (xao (pv 0) T.c_j T.m_e (ok_e T) (hr.mono (by decide)) T.b_e .nil xm (xa (pv 1) (xi))) (xa3 rfl (xu (xq (i:=4) sc_i.nd rfl (Or.inl rfl)) (xu (xq (i:=5) sc_i.nd rfl (Or.inl rfl)) (xas)))))
   (xj (xaz (xao (pv 0) T.c_j T.m_b (ok_b T) (hr.mono (by decide)) T.b_b .nil xm (xa (pv 2) (xa (pv 3) (xi)))))
   (xo (x4 (xt xah (xed (xao (xz (ok_ag T) (hr.mono (by decide)) rfl T.g_ag T.F_ag.kp T.b_ag .nil xm (xa (pv 2) (xa (xac (pv 0) rfl) (xi)))) T.c_ah T.m_h (ok_h T) (hr.mono (by decide)) T.b_h .nil xm (xa (pv 4) (xi))) (xao (xz (ok_ag T) (hr.mono (by decide)) rfl T.g_ag T.F_ag.kp T.b_ag .nil xm (xa (pv 2) (xa (xac (pv 0) rfl) (xi)))) T.c_y T.m_g (ok_g T) (hr.mono (by decide)) T.b_g .nil xm (xa (pv 4) (xi)))) (xae xg9 rfl T.n_abs boot_abs (xa (xt xdo (pv 5) (pv 3)) (xi))))))),?_⟩
  obtain ⟨pic,hn,hf,r1,r2,q⟩:=h
  obtain ⟨⟨dx,hp⟩,_,_⟩:=id pic
  refine ⟨_,rfl,a,dx,_,rfl,hp,xav (by decide +kernel),_,rfl,a,dp,do_,pw,ph,ps,nm,pt,rfl,pic,hn,hf,fun H1 q1 s1 hq1=>⟨q1,_,rfl,SqT.of hq1,rfl,_,_,rfl,_,_,rfl,rfl,?_⟩⟩
  refine ⟨_,rfl,a,dx,_,rfl,s1 _ _ hp,xav (by decide +kernel),_,rfl,_,rfl,a,dp,do_,pw,ph,ps,b,r,rfl,Pic.same s1 pic,r1,r2,fun H2 s2=>?_⟩
  cases b with
  | true =>
   refine .inl ⟨_,rfl,_,rfl,a,_,dx,_,_,rfl,(s2 _ _ (s1 _ _ hp)),T.c_j,T.n_an,lkW,true,pw,rfl,fun p H3 hp3 sd3 s3=>?_⟩
   obtain ⟨ds,hs⟩:=sd3
   exact ⟨p,ds,_,rfl,hs,(by rw [List.lookup_cons,show (("across":Str) == "width")=false from by decide +kernel]; rfl),_,rfl,_,_,rfl,_,rfl,_,rfl,_,_,rfl,rfl,_,rfl,_,_,rfl,rfl,q H3 ((s1.trans s2).trans s3)⟩
  | false =>
   refine .inr ⟨_,rfl,_,rfl,a,_,dx,_,_,rfl,(s2 _ _ (s1 _ _ hp)),T.c_j,T.n_an,lkW,false,pw,rfl,fun p H3 hp3 sd3 s3=>?_⟩
   obtain ⟨ds,hs⟩:=id sd3
   exact ⟨p,ds,_,rfl,hs,(by rw [List.lookup_cons,show (("across":Str) == "width")=false from by decide +kernel]; rfl),_,rfl,p,pw,_,rfl,sd3,_,rfl,_,rfl,_,_,rfl,rfl,_,rfl,_,_,rfl,rfl,q H3 ((s1.trans s2).trans s3)⟩
end
end S53
set_option maxRecDepth 100000
set_option maxHeartbeats 4000000
namespace S53
open PySem L2 XL PyProof.Rows
inductive x9 (H:Hp):List (Int × Int)→List Addr→Prop
 | nil:x9 H [] []
 | cons {c:Int × Int} {q:Addr} {cs:List (Int × Int)} {qs:List Addr} (h:H q=some (.tup [.int c.1,.int c.2])) (r:x9 H cs qs):x9 H (c :: cs) (q :: qs)
theorem x9.keep {H H':Hp} (s:Tups H H') {cs:List (Int × Int)} {qs:List Addr} (h:x9 H cs qs):x9 H' cs qs:=by
 induction h with
 | nil=>exact .nil
 | cons h _ ih=>exact .cons (s _ _ h) ih
theorem x9.len {H:Hp} {cs:List (Int × Int)} {qs:List Addr} (h:x9 H cs qs):qs.length=cs.length:=by
 induction h with
 | nil=>rfl
 | cons _ _ ih=>simp [ih]
theorem x9.get {H:Hp} {cs:List (Int × Int)} {qs:List Addr} (h:x9 H cs qs) {i:Nat} {q:Addr} (e:qs[i]?=some q):∃ c,cs[i]?=some c∧H q=some (.tup [.int c.1,.int c.2]):=by
 induction h generalizing i with
 | nil=>simp at e
 | @cons c q' cs qs h _ ih =>
  cases i with
  | zero =>
   simp at e
   subst e
   exact ⟨c,rfl,h⟩
  | succ j=>exact ih (by simpa using e)
theorem x9.append {H:Hp} {cs ds:List (Int × Int)} {qs rs:List Addr} (h:x9 H cs qs) (h':x9 H ds rs):x9 H (cs ++ ds) (qs ++ rs):=by
 induction h with
 | nil=>exact h'
 | cons h _ ih=>exact .cons h ih
theorem x9.snoc {H:Hp} {cs:List (Int × Int)} {qs:List Addr} (h:x9 H cs qs) {c:Int × Int} {q:Addr} (e:H q=some (.tup [.int c.1,.int c.2])):x9 H (cs ++ [c]) (qs ++ [q]):=h.append (.cons e .nil)
theorem xbg {σ:L2.St} {fr:List Nat} {te:TE} {l:Addr} {H1:Hp} {Q:VK} {lo d:Int} {n:Nat} (f:Nat→Int × Int) (hl:H1 l=none) (hn:n < 1000)
    (hte:∀ (i:Nat) (H2:Hp) (R:VK),i < n→(∀ p,H2 p=none→R (.ref p) (upd H2 p (.tup [.int (f i).1,.int (f i).2])))→te ((blk0 σ fr 1).set 0 (some (.int (lo + (i:Int) * d)))) H2 R)
    (fin:∀ (H2:Hp) (qs:List Addr),Same H1 H2→H2 l=some (.lst (qs.map V.ref))→x9 H2 ((List.range n).map f) qs→Q (.ref l) H2):xcq (Itrs lo d n) 1 (xce 0) σ fr xcm te l H1 Q:=by
  refine xb3 n (fun i xs H2=>∃ qs:List Addr,xs=qs.map V.ref∧qs.length≤i∧Same H1 H2∧H2 l=some (.lst xs)∧x9 H2 ((List.range i).map f) qs) ?_ ?_ ?_ ?_
  · exact ⟨[],rfl,Nat.le_refl _,xp (Same.refl _) hl,xb,.nil⟩
  · rintro i xs H2 lt _
    exact lt
  · rintro i xs H2 v H3 lt ⟨qs,rfl,ql,s2,hl2,cl⟩ ⟨rfl,rfl⟩ N hN
    refine xjr ?_
    refine hte i _ _ lt fun p hp=>⟨?_,?_,hN _ _ ⟨qs ++ [p],by simp,by simp; omega,?_,xb,?_⟩⟩
    · rw [xg (xk hl2 hp)]
      exact hl2
    · rw [List.length_map]
      exact Nat.lt_of_le_of_lt ql (Nat.lt_trans lt (Nat.lt_of_lt_of_le hn (by decide)))
    · intro b u e
      have nb:b≠l:=xk e hl
      rw [xg nb,xg (xk (s2 _ _ e) hp)]
      exact s2 _ _ e
    · rw [List.range_succ,List.map_append]
      refine x9.snoc (x9.keep (fun b xs e=>?_) cl) ?_
      · rw [xg (x3 e hl2 (fun z=>nomatch z)),xg (xk e hp)]
        exact e
      · rw [xg (Ne.symm (xk hl2 hp))]
        exact xb
  · rintro xs H2 ⟨qs,rfl,_,s2,hl2,cl⟩
    exact ⟨Nat.le_refl _,fin H2 qs s2 hl2 cl⟩
def xmy (t:Adr):Sp:=fun vs H Q _=>∃ (a dp do_:Addr) (pw ph:Int) (ps:List Pt) (nm:Str) (pt:Pt) (b:Bool) (r:Int),vs=[.ref a,.str nm,.str (xx b),.int r]∧Pic t H a dp do_ pw ph ps∧isNm nm=true∧ps.find? (fun p=>decide (p.nm=nm))=some pt∧1≤r∧r≤ph ∧
 (1≤pt.x∧pt.x≤pw∧1≤pt.y∧pt.y≤ph)∧∀ H' l qs,Same H H'→H' l=some (.lst (qs.map V.ref))→x9 H' (Geo.cells pw pt.x pt.y b r) qs→qs.length < 100→Q (.ref l) H'
section
variable {P:Program} {w:World} {K:PySem.W.Frag} {mg:Str→Option Value} {base:Heap} {t:Adr}
theorem lno {m:Str} {v:V} (h:(m == ("width":Str))=false):([("width",v)]:List (Str × V)).lookup m=none:=by
 rw [List.lookup_cons,h]
 rfl
theorem ok_ae (T:Txt w K mg t):FnOk true P w K mg base (CXo P w) 6 t.f_ae t.d_ae ["picture", "name", "side", "row"] (xmy t):=by
 refine T.F_ae.okn (k:=5) sc_ae (fun vs H Q E h=>?_) (fun cdv A outer s H vs Q E hr h=>?_)
 ·obtain ⟨a,dp,do_,pw,ph,ps,nm,pt,b,r,rfl,_⟩:=h
  rfl
 ·obtain ⟨a,dp,do_,pw,ph,ps,nm,pt,b,r,rfl,h⟩:=h
  refine ⟨_,xj (xaz (xao (pv 0) T.c_j T.m_i (ok_i T) (hr.mono (by decide)) T.b_i .nil xm (xa (pv 1) (xa (pv 2) (xa (pv 3) (xi))))))
   (xj (xbe (xao (pv 0) T.c_j T.m_e (ok_e T) (hr.mono (by decide)) T.b_e .nil xm (xa (pv 1) (xi))) (xa3 rfl (xu (xq (i:=4) sc_ae.nd rfl (Or.inr rfl)) (xu (xq (i:=5) sc_ae.nd rfl (Or.inl rfl)) (xas)))))
   (xj (x8 (i:=6) sc_ae.nd rfl (Or.inl rfl) (xz (ok_ag T) (hr.mono (by decide)) rfl T.g_ag T.F_ag.kp T.b_ag .nil xm (xa (pv 2) (xa (xac (pv 0) rfl) (xi)))))
   (xj (x8 (i:=7) sc_ae.nd rfl (Or.inl rfl) (xh2 (xag xjs (pv 5) (pv 3) (xan _)) (xl) (xg2 xfa (xl))))
   (xj (xd1 rfl (xay (zs:=["at"]) (ys:=["x"]) (fr:=[4]) (N0:=["picture", "name", "side", "row", "x", "y", "toward", "down", "upright", "level"]) (sc0:=xh s_ae) (by decide +kernel) rfl rfl rfl) (xf7 rfl T.n_range (xa (pv 5) (xa (pv 3) (xa (pv 7) (xi))))) (fun _ _ _ _ _ ow nd=>xq (i:=0) nd rfl (Or.inl (ow _ (by simp))) (Or.inr (ow _ (by simp)))) (xa2 (by decide)) (fun _ _ _ _ _=>xa5) (fun _ _ _ _ _=>xap (xa (pv 1) (xa (pv 0) (xi)))) (j:=8) rfl (Or.inl rfl))
   (xj (xd1 rfl (xay (zs:=["at"]) (ys:=["row"]) (fr:=[3]) (N0:=["picture", "name", "side", "row", "x", "y", "toward", "down", "upright", "level"]) (sc0:=xh s_ae) (by decide +kernel) rfl rfl rfl) (xf7 rfl T.n_range (xa (pv 4) (xa (xt xah (xed (xb2 (pv 6) T.c_ah T.m_s (ok_s T) (hr.mono (by decide)) T.b_s .nil xm) (xb2 (pv 6) T.c_y T.m_o (ok_o T) (hr.mono (by decide)) T.b_o .nil xm)) (xed (xb2 (pv 6) T.c_ah T.m_q (ok_q T) (hr.mono (by decide)) T.b_q .nil xm) (xb2 (pv 6) T.c_y T.m_m (ok_m T) (hr.mono (by decide)) T.b_m .nil xm))) (xa (xed (xb2 (pv 6) T.c_ah T.m_q (ok_q T) (hr.mono (by decide)) T.b_q .nil xm) (xb2 (pv 6) T.c_y T.m_m (ok_m T) (hr.mono (by decide)) T.b_m .nil xm)) (xi))))) (fun _ _ _ _ _ ow nd=>xq (i:=0) nd rfl (Or.inl (ow _ (by simp))) (Or.inr (ow _ (by simp)))) (xa2 (by decide)) (fun _ _ _ _ _=>xa5) (fun _ _ _ _ _=>xap (xa (pv 0) (xa (pv 1) (xi)))) (j:=9) rfl (Or.inl rfl))
   (xo (x4 (xt xkc (pv 8) (pv 9))))))))),?_⟩
  obtain ⟨pic,hn,hf,r1,r2,⟨x1,x2,y1,y2⟩,q⟩:=h
  obtain ⟨⟨dx,hp⟩,_,w1,w2,h1,h2,_⟩:=id pic
  by_cases hd:pt.y < r <;> cases b
  ·-- down right
   refine ⟨_,rfl,a,dx,_,rfl,hp,xav (by decide +kernel),_,rfl,_,rfl,_,rfl,a,dp,do_,pw,ph,ps,nm,pt,false,r,rfl,pic,hn,hf,r1,r2,fun H1 s1=>?_⟩
   refine ⟨_,rfl,a,dx,_,rfl,s1 _ _ hp,xav (by decide +kernel),_,rfl,a,dp,do_,pw,ph,ps,nm,pt,rfl,Pic.same s1 pic,hn,hf,fun H2 q2 s2 hq2=>⟨q2,_,rfl,SqT.of hq2,rfl,_,_,rfl,_,_,rfl,rfl,?_⟩⟩
   refine ⟨_,rfl,_,rfl,a,_,dx,_,_,rfl,(s2 _ _ (s1 _ _ hp)),T.c_j,T.n_an,lkW,false,pw,rfl,fun p H3 hp3 sd3 s3=>?_⟩
   refine ⟨_,rfl,_,rfl,_,_,rfl,rfl,_,rfl,ifP (decide_eq_true hd) ?_⟩
   refine ⟨_,rfl,_,rfl,_,rfl,pt.y,r,1,rfl,⟨by omega,by omega,by omega,by omega⟩,.inl ⟨rfl,fun l1 hl1=>?_⟩⟩
   refine xbg (fun i=>(pt.x,pt.y + (i:Int) * 1)) hl1 (by omega) (fun i H R _ k=>⟨_,rfl,_,rfl,(by show 2≤sizeLine; decide),k⟩) fun H4 qs1 s4 hu4 cu4=>?_
   obtain ⟨ds,hs⟩:=id sd3
   have hs4:H4 p=some (.ins t.C_y ds [("width",.int pw)]):=s4 _ _ hs
   have sd4:xc4 t H4 p false pw:=⟨ds,hs4⟩
   refine ⟨_,rfl,.inr ⟨_,rfl,p,ds,_,rfl,hs4,lno (by decide +kernel),p,pw,rfl,sd4,.inr ⟨_,rfl,p,ds,_,rfl,hs4,lno (by decide +kernel),_,rfl,_,_,rfl,rfl,.inr ⟨_,rfl,p,ds,_,rfl,hs4,lno (by decide +kernel),_,rfl,pt.x,_,1,rfl,⟨by omega,by omega,by omega,by omega⟩,.inl ⟨rfl,fun l2 hl2=>?_⟩⟩⟩⟩⟩
   refine xbg (fun i=>(pt.x + (i:Int) * 1,r)) hl2 (by omega) (fun i H R _ k=>⟨_,rfl,_,rfl,(by show 2≤sizeLine; decide),k⟩) fun H5 qs2 s5 hu5 cu5=>?_
   have c1:x9 H5 (Geo.upL pt.x pt.y r) qs1:=by
    have e:Geo.upL pt.x pt.y r=(List.range (r - pt.y).toNat).map fun (i:Nat)=>(pt.x,pt.y + (i:Int) * 1):=by unfold Geo.upL Geo.upN Geo.dn; rw [if_pos hd,if_pos hd]
    rw [e]
    exact cu4.keep (Same.tups s5)
   have c2:x9 H5 (Geo.lvL pw pt.x false r) qs2:=by
    have e:Geo.lvL pw pt.x false r=(List.range (pw + 1 + 1 - pt.x).toNat).map fun (i:Nat)=>(pt.x + (i:Int) * 1,r):=by
     unfold Geo.lvL Geo.lvN Geo.wayI
     simp only [if_true,Bool.false_eq_true,if_false]
     rw [show (pw + 2 - pt.x).toNat=(pw + 1 + 1 - pt.x).toNat from by omega]
    rw [e]
    exact cu5
   have l1':=c1.len
   have l2':=c2.len
   have b1:(Geo.upL pt.x pt.y r).length < 17:=by unfold Geo.upL Geo.upN; rw [List.length_map,List.length_range]; split <;> omega
   have b2:(Geo.lvL pw pt.x false r).length < 33:=by unfold Geo.lvL Geo.lvN; rw [List.length_map,List.length_range]; split <;> omega
   refine ⟨_,rfl,_,rfl,l1,l2,_,_,rfl,rfl,s5 _ _ hu4,hu5,(by rw [List.length_map,List.length_map]; exact Nat.le_of_lt (Nat.lt_trans (by omega:qs1.length + qs2.length < 100) (by decide))),fun p6 hp6=>?_⟩
   refine q _ p6 (qs1 ++ qs2) (xp (((s1.trans s2).trans s3).trans (s4.trans s5)) hp6) (by rw [List.map_append]; exact xb) ((c1.append c2).keep (Same.tups (xp (Same.refl _) hp6))) (by rw [List.length_append]; omega)
  ·-- down left
   refine ⟨_,rfl,a,dx,_,rfl,hp,xav (by decide +kernel),_,rfl,_,rfl,_,rfl,a,dp,do_,pw,ph,ps,nm,pt,true,r,rfl,pic,hn,hf,r1,r2,fun H1 s1=>?_⟩
   refine ⟨_,rfl,a,dx,_,rfl,s1 _ _ hp,xav (by decide +kernel),_,rfl,a,dp,do_,pw,ph,ps,nm,pt,rfl,Pic.same s1 pic,hn,hf,fun H2 q2 s2 hq2=>⟨q2,_,rfl,SqT.of hq2,rfl,_,_,rfl,_,_,rfl,rfl,?_⟩⟩
   refine ⟨_,rfl,_,rfl,a,_,dx,_,_,rfl,(s2 _ _ (s1 _ _ hp)),T.c_j,T.n_an,lkW,true,pw,rfl,fun p H3 hp3 sd3 s3=>?_⟩
   refine ⟨_,rfl,_,rfl,_,_,rfl,rfl,_,rfl,ifP (decide_eq_true hd) ?_⟩
   refine ⟨_,rfl,_,rfl,_,rfl,pt.y,r,1,rfl,⟨by omega,by omega,by omega,by omega⟩,.inl ⟨rfl,fun l1 hl1=>?_⟩⟩
   refine xbg (fun i=>(pt.x,pt.y + (i:Int) * 1)) hl1 (by omega) (fun i H R _ k=>⟨_,rfl,_,rfl,(by show 2≤sizeLine; decide),k⟩) fun H4 qs1 s4 hu4 cu4=>?_
   obtain ⟨ds,hs⟩:=id sd3
   have hs4:H4 p=some (.ins t.C_ah ds [("width",.int pw)]):=s4 _ _ hs
   have sd4:xc4 t H4 p true pw:=⟨ds,hs4⟩
   refine ⟨_,rfl,.inl ⟨_,rfl,p,ds,_,rfl,hs4,lno (by decide +kernel),_,rfl,.inl ⟨_,rfl,p,ds,_,rfl,hs4,lno (by decide +kernel),_,rfl,_,_,rfl,rfl,.inl ⟨_,rfl,p,ds,_,rfl,hs4,lno (by decide +kernel),_,rfl,pt.x,_,(-1),rfl,⟨by omega,by omega,by omega,by omega⟩,.inr ⟨rfl,fun l2 hl2=>?_⟩⟩⟩⟩⟩
   refine xbg (fun i=>(pt.x + (i:Int) * (-1),r)) hl2 (by omega) (fun i H R _ k=>⟨_,rfl,_,rfl,(by show 2≤sizeLine; decide),k⟩) fun H5 qs2 s5 hu5 cu5=>?_
   have c1:x9 H5 (Geo.upL pt.x pt.y r) qs1:=by
    have e:Geo.upL pt.x pt.y r=(List.range (r - pt.y).toNat).map fun (i:Nat)=>(pt.x,pt.y + (i:Int) * 1):=by unfold Geo.upL Geo.upN Geo.dn; rw [if_pos hd,if_pos hd]
    rw [e]
    exact cu4.keep (Same.tups s5)
   have c2:x9 H5 (Geo.lvL pw pt.x true r) qs2:=by
    have e:Geo.lvL pw pt.x true r=(List.range (pt.x - (0 + -1)).toNat).map fun (i:Nat)=>(pt.x + (i:Int) * (-1),r):=by
     unfold Geo.lvL Geo.lvN Geo.wayI
     simp only [if_true,Bool.false_eq_true,if_false]
     rw [show (pt.x + 1).toNat=(pt.x - (0 + -1)).toNat from by omega]
    rw [e]
    exact cu5
   have l1':=c1.len
   have l2':=c2.len
   have b1:(Geo.upL pt.x pt.y r).length < 17:=by unfold Geo.upL Geo.upN; rw [List.length_map,List.length_range]; split <;> omega
   have b2:(Geo.lvL pw pt.x true r).length < 33:=by unfold Geo.lvL Geo.lvN; rw [List.length_map,List.length_range]; split <;> omega
   refine ⟨_,rfl,_,rfl,l1,l2,_,_,rfl,rfl,s5 _ _ hu4,hu5,(by rw [List.length_map,List.length_map]; exact Nat.le_of_lt (Nat.lt_trans (by omega:qs1.length + qs2.length < 100) (by decide))),fun p6 hp6=>?_⟩
   refine q _ p6 (qs1 ++ qs2) (xp (((s1.trans s2).trans s3).trans (s4.trans s5)) hp6) (by rw [List.map_append]; exact xb) ((c1.append c2).keep (Same.tups (xp (Same.refl _) hp6))) (by rw [List.length_append]; omega)
  ·-- up right
   refine ⟨_,rfl,a,dx,_,rfl,hp,xav (by decide +kernel),_,rfl,_,rfl,_,rfl,a,dp,do_,pw,ph,ps,nm,pt,false,r,rfl,pic,hn,hf,r1,r2,fun H1 s1=>?_⟩
   refine ⟨_,rfl,a,dx,_,rfl,s1 _ _ hp,xav (by decide +kernel),_,rfl,a,dp,do_,pw,ph,ps,nm,pt,rfl,Pic.same s1 pic,hn,hf,fun H2 q2 s2 hq2=>⟨q2,_,rfl,SqT.of hq2,rfl,_,_,rfl,_,_,rfl,rfl,?_⟩⟩
   refine ⟨_,rfl,_,rfl,a,_,dx,_,_,rfl,(s2 _ _ (s1 _ _ hp)),T.c_j,T.n_an,lkW,false,pw,rfl,fun p H3 hp3 sd3 s3=>?_⟩
   refine ⟨_,rfl,_,rfl,_,_,rfl,rfl,_,rfl,ifN (decide_eq_false hd) ⟨1,rfl,?_⟩⟩
   refine ⟨_,rfl,_,rfl,_,rfl,pt.y,r,(-1),rfl,⟨by omega,by omega,by omega,by omega⟩,.inr ⟨rfl,fun l1 hl1=>?_⟩⟩
   refine xbg (fun i=>(pt.x,pt.y + (i:Int) * (-1))) hl1 (by omega) (fun i H R _ k=>⟨_,rfl,_,rfl,(by show 2≤sizeLine; decide),k⟩) fun H4 qs1 s4 hu4 cu4=>?_
   obtain ⟨ds,hs⟩:=id sd3
   have hs4:H4 p=some (.ins t.C_y ds [("width",.int pw)]):=s4 _ _ hs
   have sd4:xc4 t H4 p false pw:=⟨ds,hs4⟩
   refine ⟨_,rfl,.inr ⟨_,rfl,p,ds,_,rfl,hs4,lno (by decide +kernel),p,pw,rfl,sd4,.inr ⟨_,rfl,p,ds,_,rfl,hs4,lno (by decide +kernel),_,rfl,_,_,rfl,rfl,.inr ⟨_,rfl,p,ds,_,rfl,hs4,lno (by decide +kernel),_,rfl,pt.x,_,1,rfl,⟨by omega,by omega,by omega,by omega⟩,.inl ⟨rfl,fun l2 hl2=>?_⟩⟩⟩⟩⟩
   refine xbg (fun i=>(pt.x + (i:Int) * 1,r)) hl2 (by omega) (fun i H R _ k=>⟨_,rfl,_,rfl,(by show 2≤sizeLine; decide),k⟩) fun H5 qs2 s5 hu5 cu5=>?_
   have c1:x9 H5 (Geo.upL pt.x pt.y r) qs1:=by
    have e:Geo.upL pt.x pt.y r=(List.range (pt.y - r).toNat).map fun (i:Nat)=>(pt.x,pt.y + (i:Int) * (-1)):=by unfold Geo.upL Geo.upN Geo.dn; rw [if_neg hd,if_neg hd]
    rw [e]
    exact cu4.keep (Same.tups s5)
   have c2:x9 H5 (Geo.lvL pw pt.x false r) qs2:=by
    have e:Geo.lvL pw pt.x false r=(List.range (pw + 1 + 1 - pt.x).toNat).map fun (i:Nat)=>(pt.x + (i:Int) * 1,r):=by
     unfold Geo.lvL Geo.lvN Geo.wayI
     simp only [if_true,Bool.false_eq_true,if_false]
     rw [show (pw + 2 - pt.x).toNat=(pw + 1 + 1 - pt.x).toNat from by omega]
    rw [e]
    exact cu5
   have l1':=c1.len
   have l2':=c2.len
   have b1:(Geo.upL pt.x pt.y r).length < 17:=by unfold Geo.upL Geo.upN; rw [List.length_map,List.length_range]; split <;> omega
   have b2:(Geo.lvL pw pt.x false r).length < 33:=by unfold Geo.lvL Geo.lvN; rw [List.length_map,List.length_range]; split <;> omega
   refine ⟨_,rfl,_,rfl,l1,l2,_,_,rfl,rfl,s5 _ _ hu4,hu5,(by rw [List.length_map,List.length_map]; exact Nat.le_of_lt (Nat.lt_trans (by omega:qs1.length + qs2.length < 100) (by decide))),fun p6 hp6=>?_⟩
   refine q _ p6 (qs1 ++ qs2) (xp (((s1.trans s2).trans s3).trans (s4.trans s5)) hp6) (by rw [List.map_append]; exact xb) ((c1.append c2).keep (Same.tups (xp (Same.refl _) hp6))) (by rw [List.length_append]; omega)
  ·-- up left
   refine ⟨_,rfl,a,dx,_,rfl,hp,xav (by decide +kernel),_,rfl,_,rfl,_,rfl,a,dp,do_,pw,ph,ps,nm,pt,true,r,rfl,pic,hn,hf,r1,r2,fun H1 s1=>?_⟩
   refine ⟨_,rfl,a,dx,_,rfl,s1 _ _ hp,xav (by decide +kernel),_,rfl,a,dp,do_,pw,ph,ps,nm,pt,rfl,Pic.same s1 pic,hn,hf,fun H2 q2 s2 hq2=>⟨q2,_,rfl,SqT.of hq2,rfl,_,_,rfl,_,_,rfl,rfl,?_⟩⟩
   refine ⟨_,rfl,_,rfl,a,_,dx,_,_,rfl,(s2 _ _ (s1 _ _ hp)),T.c_j,T.n_an,lkW,true,pw,rfl,fun p H3 hp3 sd3 s3=>?_⟩
   refine ⟨_,rfl,_,rfl,_,_,rfl,rfl,_,rfl,ifN (decide_eq_false hd) ⟨1,rfl,?_⟩⟩
   refine ⟨_,rfl,_,rfl,_,rfl,pt.y,r,(-1),rfl,⟨by omega,by omega,by omega,by omega⟩,.inr ⟨rfl,fun l1 hl1=>?_⟩⟩
   refine xbg (fun i=>(pt.x,pt.y + (i:Int) * (-1))) hl1 (by omega) (fun i H R _ k=>⟨_,rfl,_,rfl,(by show 2≤sizeLine; decide),k⟩) fun H4 qs1 s4 hu4 cu4=>?_
   obtain ⟨ds,hs⟩:=id sd3
   have hs4:H4 p=some (.ins t.C_ah ds [("width",.int pw)]):=s4 _ _ hs
   have sd4:xc4 t H4 p true pw:=⟨ds,hs4⟩
   refine ⟨_,rfl,.inl ⟨_,rfl,p,ds,_,rfl,hs4,lno (by decide +kernel),_,rfl,.inl ⟨_,rfl,p,ds,_,rfl,hs4,lno (by decide +kernel),_,rfl,_,_,rfl,rfl,.inl ⟨_,rfl,p,ds,_,rfl,hs4,lno (by decide +kernel),_,rfl,pt.x,_,(-1),rfl,⟨by omega,by omega,by omega,by omega⟩,.inr ⟨rfl,fun l2 hl2=>?_⟩⟩⟩⟩⟩
   refine xbg (fun i=>(pt.x + (i:Int) * (-1),r)) hl2 (by omega) (fun i H R _ k=>⟨_,rfl,_,rfl,(by show 2≤sizeLine; decide),k⟩) fun H5 qs2 s5 hu5 cu5=>?_
   have c1:x9 H5 (Geo.upL pt.x pt.y r) qs1:=by
    have e:Geo.upL pt.x pt.y r=(List.range (pt.y - r).toNat).map fun (i:Nat)=>(pt.x,pt.y + (i:Int) * (-1)):=by unfold Geo.upL Geo.upN Geo.dn; rw [if_neg hd,if_neg hd]
    rw [e]
    exact cu4.keep (Same.tups s5)
   have c2:x9 H5 (Geo.lvL pw pt.x true r) qs2:=by
    have e:Geo.lvL pw pt.x true r=(List.range (pt.x - (0 + -1)).toNat).map fun (i:Nat)=>(pt.x + (i:Int) * (-1),r):=by
     unfold Geo.lvL Geo.lvN Geo.wayI
     simp only [if_true,Bool.false_eq_true,if_false]
     rw [show (pt.x + 1).toNat=(pt.x - (0 + -1)).toNat from by omega]
    rw [e]
    exact cu5
   have l1':=c1.len
   have l2':=c2.len
   have b1:(Geo.upL pt.x pt.y r).length < 17:=by unfold Geo.upL Geo.upN; rw [List.length_map,List.length_range]; split <;> omega
   have b2:(Geo.lvL pw pt.x true r).length < 33:=by unfold Geo.lvL Geo.lvN; rw [List.length_map,List.length_range]; split <;> omega
   refine ⟨_,rfl,_,rfl,l1,l2,_,_,rfl,rfl,s5 _ _ hu4,hu5,(by rw [List.length_map,List.length_map]; exact Nat.le_of_lt (Nat.lt_trans (by omega:qs1.length + qs2.length < 100) (by decide))),fun p6 hp6=>?_⟩
   refine q _ p6 (qs1 ++ qs2) (xp (((s1.trans s2).trans s3).trans (s4.trans s5)) hp6) (by rw [List.map_append]; exact xb) ((c1.append c2).keep (Same.tups (xp (Same.refl _) hp6))) (by rw [List.length_append]; omega)
end
end S53
set_option maxRecDepth 100000
set_option maxHeartbeats 4000000
namespace S53
open PySem L2 XL PyProof.Rows
theorem xkd {K:PySem.W.Frag} {σ:L2.St} {fr:List Nat} {te:TE} {l l1:Addr} {H1:Hp} {Q:VK} {qs:List Addr} (hl1:H1 l1=some (.lst (qs.map V.ref))) (hl:H1 l=none) (hn:qs.length < 1000)
    (hte:∀ (q:Addr) (H2:Hp) (R:VK),(∀ p,H2 p=none→R (.ref p) (upd H2 p (.tup [.ref q,.bl true])))→te ((blk0 σ fr 1).set 0 (some (.ref q))) H2 R)
    (fin:∀ (H2:Hp) (ws:List (Addr × V × V)),Same H1 H2→H2 l=some (.lst (ws.map fun p=>.ref p.1))→ws.map (·.2)=qs.map (fun q=>(V.ref q,V.bl true))→(∀ p ∈ ws,H2 p.1=some (.tup [p.2.1,p.2.2]))→Q (.ref l) H2) :
    xcq (Itl K l1) 1 (xce 0) σ fr xcm te l H1 Q:=by
  refine xb3 qs.length (fun i xs H2=>∃ ws:List (Addr × V × V),xs=ws.map (fun p=>V.ref p.1)∧ws.length≤i∧Same H1 H2∧H2 l=some (.lst xs)∧ws.map (·.2)=(qs.take i).map (fun q=>(V.ref q,V.bl true))∧∀ p ∈ ws,H2 p.1=some (.tup [p.2.1,p.2.2])) ?_ ?_ ?_ ?_
  · exact ⟨[],rfl,Nat.le_refl _,xp (Same.refl _) hl,xb,by simp,fun p z=>nomatch z⟩
  · rintro i xs H2 lt ⟨ws,_,_,s2,_⟩
    exact ⟨_,.ref qs[i],SqL.of (s2 _ _ hl1),by simp [lt]⟩
  · rintro i xs H2 v H3 lt ⟨ws,rfl,wl,s2,hl2,he,hw⟩ ⟨rfl,hv⟩ N hN
    have hv':=hv _ (SqL.of (s2 _ _ hl1))
    rw [List.getElem?_map] at hv'
    obtain ⟨q,hq,rfl⟩:=Option.map_eq_some_iff.mp hv'
    refine xjr ?_
    refine hte q _ _ fun p hp=>⟨?_,?_,hN _ _ ⟨ws ++ [(p,.ref q,.bl true)],by simp,by simp; omega,?_,xb,?_,?_⟩⟩
    · rw [xg (xk hl2 hp)]
      exact hl2
    · rw [List.length_map]
      exact Nat.lt_of_le_of_lt wl (Nat.lt_trans lt (Nat.lt_of_lt_of_le hn (by decide)))
    · intro b u e
      rw [xg (xk e hl),xg (xk (s2 _ _ e) hp)]
      exact s2 _ _ e
    · rw [List.take_add_one,hq,List.map_append,he]
      simp
    · intro p' hp'
      rcases List.mem_append.mp hp' with z | z
      · have e:=hw p' z
        rw [xg (x3 e hl2 (fun z=>nomatch z)),xg (xk e hp)]
        exact e
      · have:=List.mem_singleton.mp z
        subst this
        rw [xg (Ne.symm (xk hl2 hp))]
        exact xb
  · rintro xs H2 ⟨ws,rfl,_,s2,hl2,he,hw⟩
    rw [List.take_length] at he
    exact ⟨⟨_,SqL.of (s2 _ _ hl1),by simp⟩,fin H2 ws s2 hl2 he hw⟩
abbrev ck (c:Int × Int):List Key:=[.inl c.1,.inl c.2]
theorem xlp {c d:Int × Int} (h:ck c=ck d):c=d:=by
 obtain ⟨a,b⟩:=c
 obtain ⟨a',b'⟩:=d
 simp only [ck,List.cons.injEq,Sum.inl.injEq,and_true] at h
 rw [h.1,h.2]
theorem xii {d:Addr} {H:Hp} {cs:List (Int × Int)} {qs:List Addr} (cl:x9 H cs qs) (hd:H d=none):∀ (kvs0:List (List Key × V)),kvs0.length + cs.length < 1000 →
    ∃ kvs,xd0 d (upd H d (.dT kvs0)) (qs.map fun q=>(V.ref q,V.bl true)) (upd H d (.dT kvs))∧∀ c:Int × Int,(valV kvs (ck c)).isSome=true ↔ c ∈ cs∨(valV kvs0 (ck c)).isSome=true:=by
  induction cl with
  | nil=>exact fun kvs0 _=>⟨kvs0,.nil,fun c=>by simp⟩
  | @cons c q cs qs h _ ih =>
    intro kvs0 hl
    have hq:upd H d (.dT kvs0) q=some (.tup ((ck c).map kV)):=by
      rw [xg (xk h hd)]
      exact h
    have hp:=DPut.t (k:=ck c) (v:=.bl true) (xb (H:=H) (a:=d) (o:=.dT kvs0)) hq (Nat.lt_trans (by simp at hl; omega:kvs0.length < 1000) (by decide))
    rw [xcu] at hp
    have l2:=xbj kvs0 (ck c) (.bl true)
    obtain ⟨kvs,dp,mem⟩:=ih (putK kvs0 (ck c) (.bl true)) (by simp at hl; omega)
    refine ⟨kvs,.cons hp dp,fun c'=>?_⟩
    rw [mem c',xdp]
    by_cases e:ck c'=ck c
    · have:=xlp e
      subst this
      simp
    · have ne:c'≠c:=fun z=>e (by rw [z])
      rw [if_neg e]
      simp [ne]
def xmp (H:Hp) (o:Option (Int × Int)) (v:V):Prop:=(o=none∧v=.non)∨∃ c q,o=some c∧v=.ref q∧H q=some (.tup [.int c.1,.int c.2])
def xn6 (t:Adr):Sp:=fun vs H Q _=>∃ (a dp do_:Addr) (pw ph:Int) (ps:List Pt) (o1 o2:Addr) (n1 n2:Str) (p1 p2:Pt) (b1 b2:Bool) (r1 r2:Int),vs=[.ref a,.ref o1,.ref o2]∧Pic t H a dp do_ pw ph ps ∧
 H o1=some (.tup [.str n1,.str (xx b1),.int r1])∧H o2=some (.tup [.str n2,.str (xx b2),.int r2]) ∧
 (isNm n1=true∧ps.find? (fun p=>decide (p.nm=n1))=some p1∧1≤r1∧r1≤ph∧(1≤p1.x∧p1.x≤pw∧1≤p1.y∧p1.y≤ph)) ∧
 (isNm n2=true∧ps.find? (fun p=>decide (p.nm=n2))=some p2∧1≤r2∧r2≤ph∧(1≤p2.x∧p2.x≤pw∧1≤p2.y∧p2.y≤ph)) ∧
 ∀ H' v,Same H H'→xmp H' (Geo.meet (Geo.cells pw p1.x p1.y b1 r1) (Geo.cells pw p2.x p2.y b2 r2)) v→Q v H'
section
variable {P:Program} {w:World} {K:PySem.W.Frag} {mg:Str→Option Value} {base:Heap} {t:Adr}
theorem xjx (T:Txt w K mg t):FnOk true P w K mg base (CXo P w) 7 t.f_meeting t.d_meeting ["picture", "one", "other"] (xn6 t):=by
 refine T.F_meeting.okn (k:=6) xbb (fun vs H Q E h=>?_) (fun cdv A outer s H vs Q E hr h=>?_)
 ·obtain ⟨a,dp,do_,pw,ph,ps,o1,o2,n1,n2,p1,p2,b1,b2,r1,r2,rfl,_⟩:=h
  rfl
 ·obtain ⟨a,dp,do_,pw,ph,ps,o1,o2,n1,n2,p1,p2,b1,b2,r1,r2,rfl,h⟩:=h
  refine ⟨_,xj (xbe (pv 2) (xa3 rfl (xu (xq (i:=3) xbb.nd rfl (Or.inl rfl)) (xu (xq (i:=4) xbb.nd rfl (Or.inl rfl)) (xu (xq (i:=5) xbb.nd rfl (Or.inl rfl)) (xas))))))
   (xj (x8 (i:=6) xbb.nd rfl (Or.inl rfl) (xb7 (xew rfl (xj8 hr)) rfl T.n_dict boot_dict (xa (xa7 rfl (xay (zs:=["cell"]) (ys:=[]) (fr:=[]) (N0:=["picture", "one", "other", "name", "side", "row", "theirs", "cell"]) (sc0:=xh xbn) (by decide +kernel) rfl rfl rfl) (xax (xz (ok_ae T) (hr.mono (by decide)) rfl T.g_ae T.F_ae.kp T.b_ae .nil xm (xa (pv 0) (xa (pv 3) (xa (pv 4) (xa (pv 5) (xi))))))) (fun _ _ _ _ _ ow nd=>xq (i:=0) nd rfl (Or.inl (ow _ (by simp))) (Or.inr (ow _ (by simp)))) (xa2 (by decide)) (fun _ _ _ _ _=>xa5) (fun _ _ _ _ _=>xap (xa (pv 0) (xa (xb9) (xi))))) (xi))))
   (xj (xbe (pv 1) (xa3 rfl (xu (xq (i:=3) xbb.nd rfl (Or.inl rfl)) (xu (xq (i:=4) xbb.nd rfl (Or.inl rfl)) (xu (xq (i:=5) xbb.nd rfl (Or.inl rfl)) (xas))))))
   (xj (xbl PassesOwn.never rfl (xax (xz (ok_ae T) (hr.mono (by decide)) rfl T.g_ae T.F_ae.kp T.b_ae .nil xm (xa (pv 0) (xa (pv 3) (xa (pv 4) (xa (pv 5) (xi))))))) (xq (i:=7) xbb.nd rfl (Or.inl rfl)) (xo (xal (xdn (xef (xbh hr) (pv 7) (pv 6))) (xo (x4 (pv 7))) (xaa))))
   (xo (x4 (xeg)))))),?_⟩
  obtain ⟨pic,ho1,ho2,⟨m1,f1,u1,v1,g1⟩,⟨m2,f2,u2,v2,g2⟩,q⟩:=h
  refine ⟨_,rfl,o2,_,rfl,SqT.of ho2,rfl,_,_,rfl,_,_,rfl,_,_,rfl,rfl,?_⟩
  refine ⟨_,rfl,_,rfl,_,rfl,_,rfl,a,dp,do_,pw,ph,ps,n2,p2,b2,r2,rfl,pic,m2,f2,u2,v2,g2,fun H1 l1 qs s1 hl1 cl1 ql1=>⟨l1,rfl,⟨_,SqL.of hl1⟩,fun l hl=>?_⟩⟩
  refine xkd hl1 hl (by omega) (fun q H2 R k=>⟨_,rfl,(by show 2≤sizeLine; decide),k⟩) fun H2 ws s2 hl2 he hw=>?_
  refine ⟨l,ws,rfl,hl2,hw,fun d hd=>?_⟩
  obtain ⟨kvs,dps,mem⟩:=xii (cl1.keep (Same.tups s2)) hd [] (by have:=cl1.len; simp; omega)
  refine ⟨.dT [],_,.inr rfl,(by rw [he]; exact dps),?_⟩
  have s3:Same H (upd H2 d (.dT kvs)):=xp (s1.trans s2) hd
  refine ⟨_,rfl,o1,_,rfl,SqT.of (s3 _ _ ho1),rfl,_,_,rfl,_,_,rfl,_,_,rfl,rfl,?_⟩
  refine ⟨_,rfl,_,rfl,_,rfl,_,rfl,a,dp,do_,pw,ph,ps,n1,p1,b1,r1,rfl,Pic.same s3 pic,m1,f1,u1,v1,g1,fun H4 l4 qs4 s4 hl4 cl4 ql4=>⟨l4,rfl,⟨_,SqL.of hl4⟩,?_⟩⟩
  have hd4:H4 d=some (.dT kvs):=s4 _ _ xb
  refine xch (xs:=qs4.map V.ref) (Pv:=fun i σ H5=>∃ v7:Option V,σ=[some (.ref a),some (.ref o1),some (.ref o2),some (.str n1),some (.str (xx b1)),some (.int r1),some (.ref d),v7]∧H4=H5 ∧
   ∀ c ∈ (Geo.cells pw p1.x p1.y b1 r1).take i,c ∉ Geo.cells pw p2.x p2.y b2 r2) ⟨_,rfl,rfl,by simp⟩ (fun _ _ _ _ ⟨_,_,z,_⟩=>by rw [← z]; exact SqL.of hl4) ?_ ?_
  ·rintro i v σ _ hv ⟨v7,rfl,rfl,no⟩
   rw [List.getElem?_map] at hv
   obtain ⟨q7,hq7,rfl⟩:=Option.map_eq_some_iff.mp hv
   obtain ⟨c,hc,hcq⟩:=cl4.get hq7
   have mm:=mem c
   refine ⟨_,rfl,_,rfl,d,_,rfl,DGet.t (k:=ck c) hd4 hcq,_,rfl,ite2 (fun z=>?_) (fun z=>?_)⟩
   ·have hm:c ∈ Geo.cells pw p2.x p2.y b2 r2:=by
     rcases mm.mp z with y | y
     ·exact y
     ·simp [valV] at y
    exact ⟨_,rfl,q _ _ (s3.trans s4) (.inr ⟨c,q7,Geo.meet_at hc no hm,rfl,hcq⟩)⟩
   ·refine ⟨_,rfl,rfl,fun c' hc'=>?_⟩
    rw [List.take_add_one,hc] at hc'
    rcases List.mem_append.mp hc' with y | y
    ·exact no c' y
    ·have:c'=c:=by simpa using y
     subst this
     exact fun y=>z (mm.mpr (.inl y))
  ·rintro σ _ ⟨v7,rfl,rfl,no⟩
   rw [List.length_map,cl4.len,List.take_length] at no
   exact q _ _ (s3.trans s4) (.inl ⟨Geo.meet_no no,rfl⟩)
end
end S53
set_option maxRecDepth 100000
set_option maxHeartbeats 4000000
namespace S53
open PySem L2 XL PyProof.Rows
theorem lkO {w h:Int} {dp do_:Addr}:(picF w h dp do_).lookup ("opened":Str)=some (.ref do_):=by
 unfold picF
 rw [List.lookup_cons,show (("opened":Str) == "width")=false from by decide +kernel]
 show List.lookup ("opened":Str) [("height",V.int h),("placed",V.ref dp),("opened",V.ref do_)]=_
 rw [List.lookup_cons,show (("opened":Str) == "height")=false from by decide +kernel]
 show List.lookup ("opened":Str) [("placed",V.ref dp),("opened",V.ref do_)]=_
 rw [List.lookup_cons,show (("opened":Str) == "placed")=false from by decide +kernel]
 show List.lookup ("opened":Str) [("opened",V.ref do_)]=_
 rw [List.lookup_cons,show (("opened":Str) == "opened")=true from by decide +kernel]
abbrev Seat:=Bool × Int
def xai (s:Seat):List Key:=[.inr (xx s.1),.inl s.2]
def xbk (s:Seat):List V:=[.str (xx s.1),.int s.2]
theorem xd9 {a b:Bool} (h:xx a=xx b):a=b:=by
 cases a <;> cases b <;> first | rfl | exact absurd h (by decide +kernel)
theorem xga {s t:Seat} (h:xai s=xai t):s=t:=by
 simp only [xai,List.cons.injEq,Sum.inr.injEq,Sum.inl.injEq] at h
 exact Prod.ext (xd9 h.1) h.2.1
def Sts (H:Hp) (do_:Addr) (ss:List Seat):Prop:=∃ kvs:List (List Key × V),H do_=some (.dT kvs)∧kvs.map (·.1)=ss.map xai∧ss.Nodup∧ss.length≤32
theorem Sts.same {H H':Hp} {do_:Addr} {ss:List Seat} (s:Same H H') (h:Sts H do_ ss):Sts H' do_ ss:=let ⟨k,e,r⟩:=h; ⟨k,s _ _ e,r⟩
theorem xla {kvs:List (List Key × V)} {ss:List Seat} (e:kvs.map (·.1)=ss.map xai) {s:Seat} (h:s ∉ ss):valV kvs (xai s)=none:=by
 cases z:valV kvs (xai s) with
 | none=>rfl
 | some v =>
  obtain ⟨i,hi⟩:=xi1 z
  have m:xai s ∈ kvs.map (·.1):=List.mem_map.mpr ⟨_,List.mem_of_getElem? hi,rfl⟩
  rw [e] at m
  obtain ⟨t,ht,et⟩:=List.mem_map.mp m
  exact absurd ht (by rw [xga et]; exact h)
theorem xnq {kvs:List (List Key × V)} {ss:List Seat} (e:kvs.map (·.1)=ss.map xai) {s:Seat} (h:s ∈ ss):∃ v,valV kvs (xai s)=some v:=by
 cases z:valV kvs (xai s) with
 | some v=>exact ⟨v,rfl⟩
 | none =>
  have m:xai s ∈ kvs.map (·.1):=by rw [e]; exact List.mem_map.mpr ⟨s,h,rfl⟩
  obtain ⟨p,hp,ep⟩:=List.mem_map.mp m
  have a:=xcj (xai s) kvs
  rw [z] at a
  have:(kvs.any fun kv=>decide (kv.1=xai s))=true:=List.any_eq_true.mpr ⟨p,hp,by simpa using ep⟩
  rw [this] at a
  cases a
inductive x6 (H:Hp):List Seat→List Addr→Prop
 | nil:x6 H [] []
 | cons {s:Seat} {q:Addr} {ss:List Seat} {qs:List Addr} (h:H q=some (.tup (xbk s))) (r:x6 H ss qs):x6 H (s :: ss) (q :: qs)
theorem x6.keep {H H':Hp} (k:Tups H H') {ss:List Seat} {qs:List Addr} (h:x6 H ss qs):x6 H' ss qs:=by
 induction h with
 | nil=>exact .nil
 | cons h _ ih=>exact .cons (k _ _ h) ih
theorem x6.len {H:Hp} {ss:List Seat} {qs:List Addr} (h:x6 H ss qs):qs.length=ss.length:=by
 induction h with
 | nil=>rfl
 | cons _ _ ih=>simp [ih]
def xee (s t:Seat):Prop:=(s.1=true∧t.1=false)∨(s.1=t.1∧s.2 < t.2)
theorem xmb {s t:Seat} (h:lexK (xai s) (xai t)=true):xee s t:=by
 obtain ⟨a,i⟩:=s
 obtain ⟨b,j⟩:=t
 unfold xai at h
 unfold lexK at h
 by_cases e:xx a=xx b
 ·rw [if_pos (by rw [e])] at h
  unfold lexK at h
  by_cases e2:i=j
  ·rw [if_pos (by rw [e2])] at h
   unfold lexK at h
   cases h
  ·rw [if_neg (fun z=>e2 (Sum.inl.inj z))] at h
   exact .inr ⟨xd9 e,of_decide_eq_true h⟩
 ·rw [if_neg (fun z=>e (Sum.inr.inj z))] at h
  cases a <;> cases b
  ·exact absurd rfl e
  ·exact absurd h (by show ¬ xcf (.inr (xx false)) (.inr (xx true))=true; decide +kernel)
  ·exact .inl ⟨rfl,rfl⟩
  ·exact absurd rfl e
def unK:List Key→Seat
 | [.inr s,.inl r]=>(decide (s="left"),r)
 | _=>(true,0)
theorem xh9 (s:Seat):unK (xai s)=s:=by
 obtain ⟨b,r⟩:=s
 cases b
 ·show (decide (("right":Str)="left"),r)=_
  rw [decide_eq_false (by decide +kernel)]
 ·show (decide (("left":Str)="left"),r)=_
  rw [decide_eq_true rfl]
def xot (t:Adr):Sp:=fun vs H Q _=>∃ (a dp do_:Addr) (pw ph:Int) (ps:List Pt) (ss:List Seat) (b:Bool) (r:Int),vs=[.ref a,.str (xx b),.int r]∧Pic t H a dp do_ pw ph ps∧Sts H do_ ss∧1≤r∧r≤ph∧(b,r) ∉ ss∧ss.length < 32 ∧
 ∀ H',(∀ c u,c≠do_→H c=some u→H' c=some u)→Pic t H' a dp do_ pw ph ps→Sts H' do_ (ss ++ [(b,r)])→Q .non H'
theorem Pic.but {t:Adr} {H H':Hp} {a dp do_:Addr} {w h:Int} {ps:List Pt} {kvs:List (List Key × V)} (e:H do_=some (.dT kvs)) (s:∀ c u,c≠do_→H c=some u→H' c=some u) (p:Pic t H a dp do_ w h ps):Pic t H' a dp do_ w h ps :=
 ⟨let ⟨dx,x⟩:=p.ins; ⟨dx,s _ _ (x3 x e (fun z=>nomatch z)) x⟩,let ⟨k,x,q⟩:=p.pl; ⟨k,s _ _ (x3 x e (fun z=>nomatch z)) x,q.keep fun b xs x=>s _ _ (x3 x e (fun z=>nomatch z)) x⟩,p.w1,p.w2,p.h1,p.h2,p.len⟩
section
variable {P:Program} {w:World} {K:PySem.W.Frag} {mg:Str→Option Value} {base:Heap} {t:Adr}
theorem ok_f (T:Txt w K mg t):FnOk true P w K mg base (CXo P w) 5 t.f_f t.d_f ["self", "side", "row"] (xot t):=by
 refine T.F_f.okn (k:=4) sc_f (fun vs H Q E h=>?_) (fun cdv A outer s H vs Q E hr h=>?_)
 ·obtain ⟨a,dp,do_,pw,ph,ps,ss,b,r,rfl,_⟩:=h
  rfl
 ·obtain ⟨a,dp,do_,pw,ph,ps,ss,b,r,rfl,h⟩:=h
  refine ⟨_,xj (xaz (xao (pv 0) T.c_j T.m_b (ok_b T) (hr.mono (by decide)) T.b_b .nil xm (xa (pv 1) (xa (pv 2) (xi)))))
   (xj (xal (xdn (xef (xbh hr) (xap (xa (pv 1) (xa (pv 2) (xi)))) (xac (pv 0) rfl))) (xo (xa6)) (xaa))
   (xo (xes (xbh hr) (xac (pv 0) rfl) (xap (xa (pv 1) (xa (pv 2) (xi)))) (xb9) rfl))),?_⟩
  obtain ⟨pic,st,r1,r2,no,len,q⟩:=h
  obtain ⟨⟨dx,hp⟩,_,_⟩:=id pic
  obtain ⟨kvs,hk,ek,nd,l32⟩:=id st
  refine ⟨_,rfl,a,dx,_,rfl,hp,xav (by decide +kernel),_,rfl,_,rfl,a,dp,do_,pw,ph,ps,b,r,rfl,pic,r1,r2,fun H1 s1=>?_⟩
  refine ⟨_,rfl,_,rfl,(by show 2≤sizeLine; decide),fun q1 hq1=>?_⟩
  have s2:Same H1 (upd H1 q1 (.tup [.str (xx b),.int r])):=xp (Same.refl _) hq1
  have g2:upd H1 q1 (.tup [.str (xx b),.int r]) q1=some (.tup [.str (xx b),.int r]):=xb
  revert s2 g2
  generalize upd H1 q1 (.tup [.str (xx b),.int r])=H2
  intro s2 g2
  have hk2:=s2 _ _ (s1 _ _ hk)
  have hp2:=s2 _ _ (s1 _ _ hp)
  have n0:valV kvs (xai (b,r))=none:=xla ek no
  refine ⟨_,rfl,a,_,dx,_,_,rfl,hp2,T.c_j,T.n_aq,lkO,do_,none,rfl,(by rw [← n0]; exact DGet.t (k:=xai (b,r)) hk2 g2),false,rfl,iteF ?_⟩
  refine ⟨_,rfl,a,_,dx,_,_,rfl,hp2,T.c_j,T.n_aq,lkO,_,rfl,_,rfl,(by show 2≤sizeLine; decide),fun q3 hq3=>?_⟩
  have s3:Same H2 (upd H2 q3 (.tup [.str (xx b),.int r])):=xp (Same.refl _) hq3
  have g3:upd H2 q3 (.tup [.str (xx b),.int r]) q3=some (.tup [.str (xx b),.int r]):=xb
  revert s3 g3
  generalize upd H2 q3 (.tup [.str (xx b),.int r])=H3
  intro s3 g3
  have kl:kvs.length=ss.length:=by
   have:=congrArg List.length ek
   simpa using this
  refine ⟨do_,_,rfl,DPut.t (k:=xai (b,r)) (s3 _ _ hk2) g3 (Nat.lt_trans (by omega:kvs.length < 33) (by decide)),?_⟩
  have bt:∀ c u,c≠do_→H c=some u→upd H3 do_ (.dT (putK kvs (xai (b,r)) (.bl true))) c=some u:=fun c u nc e=>by
   rw [xg nc]
   exact s3 _ _ (s2 _ _ (s1 _ _ e))
  refine q _ bt (Pic.but hk bt pic) ⟨_,xb,?_,?_,?_⟩
  ·rw [xc1 _ n0,List.map_append,List.map_append,ek]
   rfl
  ·rw [List.nodup_append]
   exact ⟨nd,by simp,fun x hx y hy=>by rw [List.mem_singleton.mp hy]; exact fun e=>no (e ▸ hx)⟩
  ·rw [List.length_append]
   show ss.length + 1≤32
   omega
end
end S53
set_option maxRecDepth 100000
set_option maxHeartbeats 4000000
namespace S53
open PySem L2 XL PyProof.Rows
structure PtOk (w h:Int) (p:Pt):Prop where
 nm:isNm p.nm=true
 x1:1≤p.x
 x2:p.x≤w
 y1:1≤p.y
 y2:p.y≤h
 sd:p.sd="left"∨p.sd="right"∨p.sd="both"
 l1:1≤p.lo
 l2:p.lo≤p.hi
 l3:p.hi≤h
structure xdc (w h:Int) (ps:List Pt):Prop where
 ok:∀ p ∈ ps,PtOk w h p
 nn:(ps.map (·.nm)).Nodup
 nx:(ps.map (·.x)).Nodup
 ny:(ps.map (·.y)).Nodup
 le:ps.length≤12
theorem xim {α β:Type} (f:α→β) {ps:List α} (nd:(ps.map f).Nodup) {i:Nat} (hi:i < ps.length):∀ p ∈ ps.take i,f p≠f ps[i]:=fun p hp e=>by
 have z:=nd
 rw [← List.take_append_drop i ps,List.drop_eq_getElem_cons hi,List.map_append,List.map_cons,List.nodup_append] at z
 exact z.2.2 _ (List.mem_map.mpr ⟨p,hp,rfl⟩) _ List.mem_cons_self e
theorem xfd {α β:Type} {f:α→β} (inj:∀ a b,f a=f b→a=b) {l:List α} (h:l.Nodup):(l.map f).Nodup:=by
 rw [List.nodup_iff_pairwise_ne,List.pairwise_map]
 exact h.imp fun hne e=>hne (inj _ _ e)
theorem xm7 {α β γ:Type} {f:α→β} {g:α→γ} {k:β→γ} (e:∀ a,g a=k (f a)) (inj:∀ a b,k a=k b→a=b) {l:List α} (h:(l.map f).Nodup):(l.map g).Nodup:=by
 have z:=xfd inj h
 rw [List.map_map] at z
 rw [show g=k ∘ f from funext e]
 exact z
section
variable {P:Program} {w:World} {K:PySem.W.Frag} {mg:Str→Option Value} {base:Heap} {t:Adr}
end
end S53
set_option maxRecDepth 100000
set_option maxHeartbeats 4000000
namespace S53
open PySem L2 XL PyProof.Rows
def SsOk (h:Int) (ss:List Seat):Prop:=ss.Nodup∧ss.length≤32∧∀ s ∈ ss,1≤s.2∧s.2≤h
theorem x6.get {H:Hp} {ss:List Seat} {qs:List Addr} (h:x6 H ss qs) {i:Nat} {q:Addr} (e:qs[i]?=some q):∃ s,ss[i]?=some s∧H q=some (.tup (xbk s)):=by
 induction h generalizing i with
 | nil=>simp at e
 | @cons s q' ss qs h _ ih =>
  cases i with
  | zero =>
   simp at e
   subst e
   exact ⟨s,rfl,h⟩
  | succ j=>exact ih (by simpa using e)
theorem x6.snoc {H:Hp} {ss:List Seat} {qs:List Addr} (h:x6 H ss qs) {s:Seat} {q:Addr} (e:H q=some (.tup (xbk s))):x6 H (ss ++ [s]) (qs ++ [q]):=by
 induction h with
 | nil=>exact .cons e .nil
 | cons h _ ih=>exact .cons h ih
theorem xet {α:Type} {R:α→α→Prop} (as:∀ a b,R a b→¬ R b a):∀ {l l':List α},l.Perm l'→l.Pairwise R→l'.Pairwise R→l=l'
 | [],l',p,_,_=>(List.Perm.nil_eq p)
 | a :: t,[],p,_,_=>absurd p.symm (by intro z; exact absurd (List.Perm.nil_eq z) (by simp))
 | a :: t,b :: t',p,h,h'=>by
  have h1:=List.pairwise_cons.mp h
  have h2:=List.pairwise_cons.mp h'
  by_cases e:a=b
  ·subst e
   rw [xet as ((List.perm_cons a).mp p) h1.2 h2.2]
  ·have ma:a ∈ t':=by
    have:=p.mem_iff.mp (List.mem_cons_self (a:=a) (l:=t))
    rcases List.mem_cons.mp this with z | z
    ·exact absurd z e
    ·exact z
   have mb:b ∈ t:=by
    have:=p.mem_iff.mpr (List.mem_cons_self (a:=b) (l:=t'))
    rcases List.mem_cons.mp this with z | z
    ·exact absurd z.symm e
    ·exact z
   exact absurd (h2.1 a ma) (as _ _ (h1.1 b mb))
theorem xli (a b:Seat) (h:xee a b):¬ xee b a:=by
 rintro (⟨x,y⟩ | ⟨x,y⟩) <;> rcases h with ⟨z,w⟩ | ⟨z,w⟩
 ·rw [x] at w; cases w
 ·rw [x,y] at z; cases z
 ·rw [z,w] at x; cases x
 ·omega
def xbc (s:Seat):DV:=.tup [.str (xx s.1),.int s.2]
theorem xk5 {s t:Seat}:xbc s=xbc t ↔ s=t:=by
 constructor
 ·intro h
  unfold xbc at h
  simp only [DV.tup.injEq,List.cons.injEq,DV.str.injEq,DV.int.injEq,and_true] at h
  exact Prod.ext (xd9 h.1) h.2
 ·intro h
  rw [h]
theorem xl0 (s t:Seat):dEq (xbc s) (xbc t)=decide (s=t):=xm5 rfl rfl xk5
theorem xck (ss:List Seat) (s:Seat):(ss.map xbc).any (fun z=>dEq z (xbc s))=decide (s ∈ ss):=by
 rw [Bool.eq_iff_iff,List.any_eq_true,decide_eq_true_iff]
 constructor
 ·rintro ⟨z,hz,e⟩
  obtain ⟨t,ht,rfl⟩:=List.mem_map.mp hz
  rw [xl0,decide_eq_true_iff] at e
  exact e ▸ ht
 ·intro h
  exact ⟨_,List.mem_map.mpr ⟨s,h,rfl⟩,xc5 _⟩
theorem xem {K:PySem.W.Frag} {H:Hp} {q:Addr} {s:Seat} (h:H q=some (.tup (xbk s))):Dv K H 1 (.ref q) (xbc s):=by
 refine .tup (SqT.of h) rfl fun j x d h1 h2=>?_
 match j,h1,h2 with
 | 0,h1,h2=>cases h1; cases h2; exact .str
 | 1,h1,h2=>cases h1; cases h2; exact .int
 | j + 2,h1,h2=>simp [xbk] at h1
theorem x6.dv {K:PySem.W.Frag} {H:Hp} {ss:List Seat} {qs:List Addr} (h:x6 H ss qs) {l:Addr} (e:H l=some (.lst (qs.map V.ref))):Dv K H 2 (.ref l) (.lst (ss.map xbc)):=by
 refine .lst (SqL.of e) (by rw [List.length_map,List.length_map,h.len]) fun j x d h1 h2=>?_
 rw [List.getElem?_map] at h1 h2
 obtain ⟨q,hq,rfl⟩:=Option.map_eq_some_iff.mp h1
 obtain ⟨p,hp,rfl⟩:=Option.map_eq_some_iff.mp h2
 obtain ⟨p',hp',e'⟩:=h.get hq
 rw [hp] at hp'
 cases hp'
 exact xem e'
theorem x6.pick {H:Hp}:∀ {ss:List Seat} {ys:List V},ys.length=ss.length→(∀ (j:Nat) (y:V) (s:Seat),ys[j]?=some y→ss[j]?=some s→∃ q,y=.ref q∧H q=some (.tup (xbk s)))→∃ rs:List Addr,ys=rs.map V.ref∧x6 H ss rs
 | [],[],_,_=>⟨[],rfl,.nil⟩
 | [],_ :: _,h,_=>by cases h
 | _ :: _,[],h,_=>by cases h
 | s :: ss,y :: ys,h,k=>by
  obtain ⟨q,e,hq⟩:=k 0 y s rfl rfl
  obtain ⟨rs,e2,r⟩:=x6.pick (ss:=ss) (ys:=ys) (by simpa using h) fun j y s h1 h2=>k (j + 1) y s (by simpa using h1) (by simpa using h2)
  exact ⟨q :: rs,by rw [e,e2]; rfl,.cons hq r⟩
section
variable {P:Program} {w:World} {K:PySem.W.Frag} {mg:Str→Option Value} {base:Heap} {t:Adr}
end
end S53
set_option maxRecDepth 100000
set_option maxHeartbeats 4000000
namespace S53
open PySem L2 XL PyProof.Rows
def xfc (p:Pt) (s:Seat):Bool:=(decide (p.sd="both") || decide (p.sd=xx s.1)) && (decide (p.lo≤s.2) && decide (s.2≤p.hi))
theorem xfp (sd w:Str):inV (.str sd) [.str "both",.str w]=(decide (sd="both") || decide (sd=w)):=by
 have e:∀ a b:Str,(a == b)=decide (b=a):=fun a b=>by
  rw [Bool.eq_iff_iff,beq_iff_eq,decide_eq_true_iff]
  exact eq_comm
 show ((("both":Str) == sd) || ((w == sd) || false))=_
 rw [Bool.or_false,e,e]
def xo6 (t:Adr):Sp:=fun vs H Q _=>∃ (a dp do_:Addr) (pw ph:Int) (ps:List Pt) (ss:List Seat) (pt:Pt) (b:Bool) (i:Int),vs=[.ref a,.str pt.nm,.str (xx b),.int i]∧Pic t H a dp do_ pw ph ps∧Sts H do_ ss∧isNm pt.nm=true∧ps.find? (fun p=>decide (p.nm=pt.nm))=some pt∧1≤i∧i≤ph∧∀ H',Same H H'→Q (.bl (decide ((b,i) ∈ ss) && xfc pt (b,i))) H'
section
variable {P:Program} {w:World} {K:PySem.W.Frag} {mg:Str→Option Value} {base:Heap} {t:Adr}
theorem ok_r (T:Txt w K mg t):FnOk true P w K mg base (CXo P w) 5 t.f_r t.d_r ["self", "name", "side", "row"] (xo6 t):=by
 refine T.F_r.okn (k:=4) sc_r (fun vs H Q E h=>?_) (fun cdv A outer s H vs Q E hr h=>?_)
 ·obtain ⟨a,dp,do_,pw,ph,ps,ss,pt,b,i,rfl,_⟩:=h
  rfl
 ·obtain ⟨a,dp,do_,pw,ph,ps,ss,pt,b,i,rfl,h⟩:=h
  refine ⟨_,xj (xaz (xao (pv 0) T.c_j T.m_c (ok_c T) (hr.mono (by decide)) T.b_c .nil xm (xa (pv 1) (xi))))
   (xj (xaz (xao (pv 0) T.c_j T.m_b (ok_b T) (hr.mono (by decide)) T.b_b .nil xm (xa (pv 2) (xa (pv 3) (xi)))))
   (xj (xbe (xcv (xbh hr) (xac (pv 0) rfl) (pv 1) (fun _ _=>rfl)) (xa3 rfl (xu (xq (i:=4) sc_r.nd rfl (Or.inl rfl)) (xu (xq (i:=5) sc_r.nd rfl (Or.inl rfl)) (xu (xq (i:=6) sc_r.nd rfl (Or.inl rfl)) (xu (xq (i:=7) sc_r.nd rfl (Or.inl rfl)) (xu (xq (i:=8) sc_r.nd rfl (Or.inl rfl)) (xas))))))))
   (xo (x4 (xca (xow (xef (xbh hr) (xap (xa (pv 2) (xa (pv 3) (xi)))) (xac (pv 0) rfl))) (xca (xcz xgr (pv 6) (xap (xa (xba) (xa (pv 2) (xi)))) (by rfl)) (xd7 (xdx xeq xeq (pv 7) (pv 3) (pv 8))))))))),?_⟩
  obtain ⟨pic,st,hn,hf,i1,i2,q⟩:=h
  obtain ⟨⟨dx0,hp⟩,⟨kvs,hk,pl⟩,_⟩:=id pic
  refine ⟨_,rfl,a,dx0,_,rfl,hp,xav (by decide +kernel),_,rfl,a,dp,do_,pw,ph,ps,pt.nm,pt,rfl,pic,hn,hf,?_⟩
  refine ⟨_,rfl,a,dx0,_,rfl,hp,xav (by decide +kernel),_,rfl,_,rfl,a,dp,do_,pw,ph,ps,b,i,rfl,pic,i1,i2,fun H1 s1=>?_⟩
  obtain ⟨q0,e0,hq0⟩:=pl.find hf
  have hp1:=s1 _ _ hp
  have hk1:=s1 _ _ hk
  refine ⟨_,rfl,a,_,_,_,_,rfl,hp1,T.c_j,T.n_ap,lkP,_,rfl,dp,.ref q0,rfl,(by rw [← e0]; exact DGet.k (k:=.inr pt.nm) hk1),q0,_,rfl,SqT.of (s1 _ _ hq0),rfl,_,_,rfl,_,_,rfl,_,_,rfl,_,_,rfl,_,_,rfl,rfl,?_⟩
  refine ⟨_,rfl,_,rfl,(by show 2≤sizeLine; decide),fun q1 hq1=>?_⟩
  have s2:Same H1 (upd H1 q1 (.tup [.str (xx b),.int i])):=xp (Same.refl _) hq1
  have g2:upd H1 q1 (.tup [.str (xx b),.int i]) q1=some (.tup [.str (xx b),.int i]):=xb
  revert s2 g2
  generalize upd H1 q1 (.tup [.str (xx b),.int i])=H2
  intro s2 g2
  have hp2:=s2 _ _ hp1
  have s02:=s1.trans s2
  obtain ⟨ko,hko,ek,nd,l32⟩:=id st
  have hko2:=s02 _ _ hko
  have qq:=q
  by_cases cin:(b,i) ∈ ss
  ·obtain ⟨v,hv⟩:=xnq ek cin
   refine ⟨_,rfl,a,_,_,_,_,rfl,hp2,T.c_j,T.n_aq,lkO,do_,some v,rfl,(by rw [← hv]; exact DGet.t (k:=xai (b,i)) hko2 g2),true,rfl,iteT ?_⟩
   refine ⟨_,rfl,_,rfl,(by show 2≤sizeLine; decide),fun q3 hq3=>?_⟩
   have s3:Same H2 (upd H2 q3 (.tup [.str "both",.str (xx b)])):=xp (Same.refl _) hq3
   have g3:upd H2 q3 (.tup [.str "both",.str (xx b)]) q3=some (.tup [.str "both",.str (xx b)]):=xb
   revert s3 g3
   generalize upd H2 q3 (.tup [.str "both",.str (xx b)])=H3
   intro s3 g3
   have z:=qq H3 (s02.trans s3)
   rw [decide_eq_true cin,Bool.true_and] at z
   unfold xfc at z
   refine ⟨q3,_,rfl,.inr (SqT.of g3),rfl,rfl,_,rfl,ite2 (fun c=>?_) (fun c=>?_)⟩
   ·rw [if_neg (by decide),xfp] at c
    dsimp only at z
    rw [c,Bool.true_and] at z
    refine ⟨_,rfl,_,rfl,_,_,rfl,rfl,_,rfl,ite2 (fun c2=>?_) (fun c2=>?_)⟩
    ·rw [c2,Bool.true_and] at z
     exact ⟨_,rfl,_,_,rfl,rfl,z⟩
    ·rw [Bool.eq_false_iff.mpr c2,Bool.false_and] at z
     exact z
   ·rw [if_neg (by decide),xfp] at c
    dsimp only at z
    rw [Bool.eq_false_iff.mpr c,Bool.false_and] at z
    exact z
  ·have n0:valV ko (xai (b,i))=none:=xla ek cin
   have z:=qq H2 s02
   rw [decide_eq_false cin,Bool.false_and] at z
   exact ⟨_,rfl,a,_,_,_,_,rfl,hp2,T.c_j,T.n_aq,lkO,do_,none,rfl,(by rw [← n0]; exact DGet.t (k:=xai (b,i)) hko2 g2),false,rfl,iteF z⟩
end
end S53
set_option maxRecDepth 100000
set_option maxHeartbeats 4000000
namespace S53
open PySem L2 XL PyProof.Rows
theorem xkz {x d:Int} (h:0 < d) (h2:d≤4294967296):-(2 ^ 64) < x % d∧x % d < 2 ^ 64:=by
 have a:=Int.emod_nonneg x (show d≠0 by omega)
 have b:=Int.emod_lt_of_pos x h
 exact ⟨by omega,by omega⟩
theorem xau (x:Int) {d:Int} (h:0 < d):0≤x % d∧x % d < d:=⟨Int.emod_nonneg _ (by omega),Int.emod_lt_of_pos _ h⟩
def xn9 (K:PySem.W.Frag):Sp:=fun vs H Q _=>∃ (a:Addr) (ns:List Int) (k:Int),vs=[.ref a,.int k]∧SqL K H a (ns.map V.int)∧0≤k∧k < 2 ^ 62∧∀ c:Int,Q (.int c) H
def abc:Str:="abcdefghijklmnopqrstuvwxyz"
theorem xng:abc.cps.toList=(List.range 26).map (97 + ·):=by decide +kernel
def ltr (i:Int):Str:=⟨#[97 + i.toNat]⟩
theorem xm3 {i:Int} (h0:0≤i) (h1:i < 26):atI abc.cps.toList i=some (97 + i.toNat):=by
 obtain ⟨j,rfl⟩:=Int.eq_ofNat_of_zero_le h0
 have lt:j < 26:=by omega
 refine xf3 ?_
 rw [xng,List.getElem?_map,List.getElem?_range lt]
 rfl
theorem xnf {i j:Int} (hi:0≤i) (hj:0≤j) (h:ltr i=ltr j):i=j:=by
 unfold ltr at h
 have:=congrArg (fun s:Str=>s.cps.toList) h
 simp at this
 omega
theorem xlz {i:Int} (h0:0≤i) (h1:i < 26):isNm (ltr i)=true:=by
 unfold isNm ltr
 have g1:¬ ([97 + i.toNat] < [97]):=by rw [List.cons_lt_cons_iff]; rintro (z | ⟨_,z⟩); omega; cases z
 have g2:¬ ([122] < [97 + i.toNat]):=by rw [List.cons_lt_cons_iff]; rintro (z | ⟨_,z⟩); omega; cases z
 show (decide (1=1) && (!decide ([97 + i.toNat] < [97]) && !decide ([122] < [97 + i.toNat])))=true
 rw [decide_eq_false g1,decide_eq_false g2]
 rfl
def xql:List Int:=[1,3,5,7,9,11,15,17,19,21,23,25]
section
variable {P:Program} {w:World} {K:PySem.W.Frag} {mg:Str→Option Value} {base:Heap} {t:Adr}
theorem ok_af (T:Txt w K mg t):FnOk true P w K mg base (CXo P w) 1 t.f_af t.d_af ["_law_script", "_law_k"] (xn9 K):=by
 refine T.F_af.okn (k:=0) sc_af (fun vs H Q E h=>?_) (fun cdv A outer s H vs Q E hr h=>?_)
 ·obtain ⟨a,ns,k,rfl,_⟩:=h
  rfl
 ·obtain ⟨a,ns,k,rfl,h⟩:=h
  refine ⟨_,xj (xal (xag xjs (pv 1) (xae xbx rfl T.n_len boot_len (xa (pv 0) (xi))) (xan _)) (xo (x4 (xaf xaq (pv 0) (pv 1) (fun _ _=>rfl)))) (xaa))
   (xo (x4 (xt xah (xt xbt (xl) (pv 1)) (xl)))),?_⟩
  obtain ⟨hs,k0,k1,q⟩:=h
  refine ⟨_,rfl,_,rfl,a,_,rfl,.inl hs,_,_,rfl,rfl,_,rfl,?_⟩
  refine ite2 (fun c=>?_) (fun c=>?_)
  ·have c':k < (ns.length:Int):=by simpa using c
   obtain ⟨j,rfl⟩:=Int.eq_ofNat_of_zero_le k0
   have lt:j < ns.length:=by omega
   exact ⟨_,rfl,_,rfl,a,_,_,_,rfl,rfl,hs,xf3 (by rw [List.getElem?_map,List.getElem?_eq_getElem lt]; rfl),q _⟩
  ·exact ⟨_,rfl,_,_,rfl,rfl,.inl ⟨by decide,by decide⟩,_,_,rfl,rfl,q _⟩
end
end S53
set_option maxRecDepth 100000
set_option maxHeartbeats 4000000
namespace S53
open PySem L2 XL PyProof.Rows
abbrev Pr:=Pt × Bool × Int
def prV (p:Pr):List V:=[.str p.1.nm,.str (xx p.2.1),.int p.2.2]
inductive PrsL (H:Hp):List Pr→List Addr→Prop
 | nil:PrsL H [] []
 | cons {p:Pr} {q:Addr} {ps:List Pr} {qs:List Addr} (h:H q=some (.tup (prV p))) (r:PrsL H ps qs):PrsL H (p :: ps) (q :: qs)
theorem PrsL.keep {H H':Hp} (s:Tups H H') {ps:List Pr} {qs:List Addr} (h:PrsL H ps qs):PrsL H' ps qs:=by
 induction h with
 | nil=>exact .nil
 | cons h _ ih=>exact .cons (s _ _ h) ih
theorem PrsL.len {H:Hp} {ps:List Pr} {qs:List Addr} (h:PrsL H ps qs):qs.length=ps.length:=by
 induction h with
 | nil=>rfl
 | cons _ _ ih=>simp [ih]
theorem PrsL.snoc {H:Hp} {ps:List Pr} {qs:List Addr} (h:PrsL H ps qs) {p:Pr} {q:Addr} (e:H q=some (.tup (prV p))):PrsL H (ps ++ [p]) (qs ++ [q]):=by
 induction h with
 | nil=>exact .cons e .nil
 | cons h _ ih=>exact .cons h ih
theorem PrsL.get {H:Hp} {ps:List Pr} {qs:List Addr} (h:PrsL H ps qs) {i:Nat} {q:Addr} (e:qs[i]?=some q):∃ p,ps[i]?=some p∧H q=some (.tup (prV p)):=by
 induction h generalizing i with
 | nil=>simp at e
 | @cons p q' ps qs h _ ih =>
  cases i with
  | zero =>
   simp at e
   subst e
   exact ⟨p,rfl,h⟩
  | succ j=>exact ih (by simpa using e)
structure PrOk (ps:List Pt) (w h:Int) (p:Pr):Prop where
 nm:isNm p.1.nm=true
 fd:ps.find? (fun z=>decide (z.nm=p.1.nm))=some p.1
 r1:1≤p.2.2
 r2:p.2.2≤h
 xy:1≤p.1.x∧p.1.x≤w∧1≤p.1.y∧p.1.y≤h
theorem xnz (qs:List Addr) (k:Nat):cutV (qs.map V.ref) (some ((k:Int) + 1)) none=(qs.drop (k + 1)).map V.ref:=by
 unfold cutV
 rw [show ((k:Int) + 1)=((k + 1:Nat):Int) by omega,HT.sIx_nat,HT.sIx_none,List.length_map,← List.map_drop,← List.map_take]
 congr 1
 by_cases c:k + 1≤qs.length
 ·rw [Nat.min_eq_left c,List.take_of_length_le (by simp)]
 ·rw [Nat.min_eq_right (by omega),List.drop_length,List.drop_of_length_le (by omega)]
  simp
theorem PrsL.drop {H:Hp} {ps:List Pr} {qs:List Addr} (h:PrsL H ps qs) (k:Nat):PrsL H (ps.drop k) (qs.drop k):=by
 induction h generalizing k with
 | nil=>simpa using PrsL.nil
 | cons h r ih =>
  cases k with
  | zero=>exact .cons h r
  | succ k=>exact ih k
def cel (w:Int) (p:Pr):List (Int × Int):=Geo.cells w p.1.x p.1.y p.2.1 p.2.2
abbrev Tr:=Str × Str × (Int × Int)
section
variable {P:Program} {w:World} {K:PySem.W.Frag} {mg:Str→Option Value} {base:Heap} {t:Adr}
end
end S53
set_option maxRecDepth 100000
set_option maxHeartbeats 4000000
namespace S53
open PySem L2 XL PyProof.Rows
def xaj (w:Int) (p:Pr):Int:=lenI w p.1.x p.1.y p.2.1 p.2.2
theorem xl4 {ps:List Pt} {w h:Int} {p:Pr} (o:PrOk ps w h p) (hw:w≤30) (hh:h≤16):-1000000≤xaj w p∧xaj w p≤1000000:=by
 obtain ⟨_,_,r1,r2,x1,x2,y1,y2⟩:=o
 unfold xaj lenI
 split <;> split <;> omega
def xm0 (t:Adr):Sp:=fun vs H Q _=>∃ (a dp do_ l:Addr) (pw ph:Int) (ps:List Pt) (prs:List Pr) (qs:List Addr),vs=[.ref a,.ref l]∧Pic t H a dp do_ pw ph ps∧H l=some (.lst (qs.map V.ref))∧PrsL H prs qs∧(∀ p ∈ prs,PrOk ps pw ph p)∧prs.length≤12 ∧
 ∀ H',Same H H'→Q (.int (prs.map (xaj pw)).sum) H'
section
variable {P:Program} {w:World} {K:PySem.W.Frag} {mg:Str→Option Value} {base:Heap} {t:Adr}
theorem xme (T:Txt w K mg t):FnOk true P w K mg base (CXo P w) 6 t.f_total t.d_total ["picture", "pairs"] (xm0 t):=by
 refine T.F_total.okn (k:=5) xl3 (fun vs H Q E h=>?_) (fun cdv A outer s H vs Q E hr h=>?_)
 ·obtain ⟨a,dp,do_,l,pw,ph,ps,prs,qs,rfl,_⟩:=h
  rfl
 ·obtain ⟨a,dp,do_,l,pw,ph,ps,prs,qs,rfl,h⟩:=h
  refine ⟨_,xo (x4 (xae (xeb rfl) rfl T.n_sum PyProof.Rows.Boot.«sum» (xa (xa7 rfl (xay (zs:=["name", "side", "row"]) (ys:=["picture"]) (fr:=[0]) (N0:=["picture", "pairs"]) (sc0:=xh xb8) (by decide +kernel) rfl rfl rfl) (xax (pv 1)) (fun _ _ _ _ _ ow nd=>(xa3 rfl (xu (xq (i:=0) nd rfl (Or.inl (ow _ (by simp))) (Or.inr (ow _ (by simp)))) (xu (xq (i:=1) nd rfl (Or.inl (ow _ (by simp))) (Or.inr (ow _ (by simp)))) (xu (xq (i:=2) nd rfl (Or.inl (ow _ (by simp))) (Or.inr (ow _ (by simp)))) (xas)))):PG _ _ (gTup K 3 _))) (xf4 (xbp (by decide) (xbp (by decide) (xbp (by decide) (xe6))))) (fun _ _ _ _ _=>xa5) (fun _ _ _ _ _=>xao (pv 3) T.c_j T.m_i (ok_i T) (hr.mono (by decide)) T.b_i .nil xm (xa (pv 0) (xa (pv 1) (xa (pv 2) (xi)))))) (xi)))),?_⟩
  obtain ⟨pic,hl,pr,ok,len,q⟩:=h
  obtain ⟨⟨dx,hp⟩,_,w1,w2,h1,h2,_⟩:=id pic
  refine ⟨_,rfl,l,rfl,⟨_,SqL.of hl⟩,fun l1 hl1=>?_⟩
  refine xb3 qs.length (fun i zs H2=>zs=(((prs.take i).map (xaj pw)).map V.int)∧Same H H2∧H2 l1=some (.lst zs)) ?_ ?_ ?_ ?_
  ·exact ⟨by simp,xp (Same.refl _) hl1,xb⟩
  ·rintro i zs H2 lt ⟨_,s2,_⟩
   exact ⟨_,.ref qs[i],SqL.of (s2 _ _ hl),by simp [lt]⟩
  ·rintro i zs H2 v H3 lt ⟨rfl,s2,hl2⟩ ⟨rfl,hv⟩ N hN
   have hv':=hv _ (SqL.of (s2 _ _ hl))
   rw [List.getElem?_map] at hv'
   obtain ⟨o,ho,rfl⟩:=Option.map_eq_some_iff.mp hv'
   obtain ⟨p,hpp,ep⟩:=pr.get ho
   have okp:=ok p (List.mem_of_getElem? hpp)
   refine ⟨o,_,rfl,SqT.of (s2 _ _ ep),rfl,_,_,rfl,_,_,rfl,_,_,rfl,rfl,?_⟩
   refine xms ?_
   refine ⟨_,rfl,a,dx,_,rfl,s2 _ _ hp,xav (by decide +kernel),_,rfl,_,rfl,_,rfl,a,dp,do_,pw,ph,ps,p.1.nm,p.1,p.2.1,p.2.2,rfl,Pic.same s2 pic,okp.nm,okp.fd,okp.r1,okp.r2,fun H4 s4=>?_⟩
   refine ⟨s4 _ _ hl2,?_,hN _ _ ⟨?_,fun b u e=>?_,xb⟩⟩
   ·rw [List.length_map,List.length_map,List.length_take]
    exact Nat.lt_trans (by omega:min i prs.length < 13) (by decide)
   ·rw [List.take_add_one,hpp,List.map_append,List.map_append]
    rfl
   ·rw [xg (xk e hl1)]
    exact s4 _ _ (s2 b u e)
  ·rintro zs H2 ⟨rfl,s2,hl2⟩
   rw [pr.len,List.take_length] at hl2
   refine ⟨⟨_,SqL.of (s2 _ _ hl),by simp⟩,l1,prs.map (xaj pw),rfl,SqL.of hl2,⟨by rw [List.length_map]; omega,fun n hn=>?_⟩,q _ s2⟩
   obtain ⟨p,hp',rfl⟩:=List.mem_map.mp hn
   exact xl4 (ok p hp') w2 h2
end
end S53
set_option maxRecDepth 100000
set_option maxHeartbeats 4000000
namespace S53
open PySem L2 XL PyProof.Rows
def acrI (w:Int) (p:Pr):Int:=if p.2.1 then p.1.x else w + 1 - p.1.x
def uprI (w:Int) (p:Pr):Int:=acrI w p * (if p.1.y - p.2.2 < 0 then -(p.1.y - p.2.2) else p.1.y - p.2.2)
theorem xox {a b:Int} (a0:0≤a) (a1:a≤1000) (b0:0≤b) (b1:b≤1000):0≤a * b∧a * b≤1000000:=by
 refine ⟨Int.mul_nonneg a0 b0,?_⟩
 have h1:=Int.mul_le_mul_of_nonneg_right a1 b0
 have h2:1000 * b≤1000 * 1000:=Int.mul_le_mul_of_nonneg_left b1 (by decide)
 exact Int.le_trans h1 h2
theorem xnr {ps:List Pt} {w h:Int} {p:Pr} (o:PrOk ps w h p) (hw:w≤30) (hh:h≤16):-1000000≤uprI w p∧uprI w p≤1000000:=by
 obtain ⟨_,_,r1,r2,x1,x2,y1,y2⟩:=o
 have z:=xox (a:=acrI w p) (b:=if p.1.y - p.2.2 < 0 then -(p.1.y - p.2.2) else p.1.y - p.2.2) (by unfold acrI; split <;> omega) (by unfold acrI; split <;> omega) (by split <;> omega) (by split <;> omega)
 unfold uprI
 omega
def xni (t:Adr):Sp:=fun vs H Q _=>∃ (a dp do_ q0:Addr) (pw ph:Int) (ps:List Pt) (p:Pr),vs=[.ref a,.ref q0]∧Pic t H a dp do_ pw ph ps∧H q0=some (.tup (prV p))∧PrOk ps pw ph p∧∀ H',Same H H'→Q (.int (uprI pw p)) H'
def xpn (t:Adr):Sp:=fun vs H Q _=>∃ (a dp do_ l:Addr) (pw ph:Int) (ps:List Pt) (prs:List Pr) (qs:List Addr),vs=[.ref a,.ref l]∧Pic t H a dp do_ pw ph ps∧H l=some (.lst (qs.map V.ref))∧PrsL H prs qs∧(∀ p ∈ prs,PrOk ps pw ph p)∧prs.length≤12 ∧
 ∀ H',Same H H'→Q (.int (prs.map (uprI pw)).sum) H'
def mayB (ss:List Seat) (p:Pt) (s:Seat):Bool:=decide (s ∈ ss) && xfc p s
def excB (ss:List Seat) (p p':Pr):Bool:=mayB ss p.1 p'.2 && mayB ss p'.1 p.2
def xne (t:Adr):Sp:=fun vs H Q _=>∃ (a dp do_ o1 o2:Addr) (pw ph:Int) (ps:List Pt) (ss:List Seat) (p p':Pr),vs=[.ref a,.ref o1,.ref o2]∧Pic t H a dp do_ pw ph ps∧Sts H do_ ss∧H o1=some (.tup (prV p))∧H o2=some (.tup (prV p'))∧PrOk ps pw ph p∧PrOk ps pw ph p'∧∀ H',Same H H'→Q (.bl (excB ss p p')) H'
def canO (w:Int) (ss:List Seat) (p p':Pr):Option (Int × Int):=if excB ss p p' then Geo.meet (cel w p) (cel w p') else none
def canF (w:Int) (ss:List Seat) (p:Pr) (r:List Pr):List Tr:=r.filterMap fun p'=>(canO w ss p p').map fun c=>(p.1.nm,p'.1.nm,c)
def cans (w:Int) (ss:List Seat):List Pr→List Tr
 | []=>[]
 | p :: r=>canF w ss p r ++ cans w ss r
theorem xks {w:Int} {ss:List Seat} {p p':Pr} {r:List Pr}:canF w ss p (p' :: r)=(match canO w ss p p' with | some c=>[(p.1.nm,p'.1.nm,c)] | none=>[]) ++ canF w ss p r:=by
 unfold canF
 rw [List.filterMap_cons]
 cases canO w ss p p' <;> rfl
def TrV (H:Hp) (o:Option Tr) (v:V):Prop:=(o=none∧v=.non)∨∃ c q qc,o=some c∧v=.ref q∧H q=some (.tup [.str c.1,.str c.2.1,.ref qc])∧H qc=some (.tup [.int c.2.2.1,.int c.2.2.2])
def xo8 (t:Adr):Sp:=fun vs H Q _=>∃ (a dp do_ l:Addr) (pw ph:Int) (ps:List Pt) (ss:List Seat) (prs:List Pr) (qs:List Addr),vs=[.ref a,.ref l]∧Pic t H a dp do_ pw ph ps∧Sts H do_ ss∧H l=some (.lst (qs.map V.ref))∧PrsL H prs qs∧(∀ p ∈ prs,PrOk ps pw ph p) ∧
 ∀ H' v,Same H H'→TrV H' (cans pw ss prs).head? v→Q v H'
section
variable {P:Program} {w:World} {K:PySem.W.Frag} {mg:Str→Option Value} {base:Heap} {t:Adr}
theorem ok_v (T:Txt w K mg t):FnOk true P w K mg base (CXo P w) 6 t.f_v t.d_v ["picture", "pair"] (xni t):=by
 refine T.F_v.okn (k:=5) sc_v (fun vs H Q E h=>?_) (fun cdv A outer s H vs Q E hr h=>?_)
 ·obtain ⟨a,dp,do_,q0,pw,ph,ps,p,rfl,_⟩:=h
  rfl
 ·obtain ⟨a,dp,do_,q0,pw,ph,ps,p,rfl,h⟩:=h
  refine ⟨_,xj (xbe (pv 1) (xa3 rfl (xu (xq (i:=2) sc_v.nd rfl (Or.inl rfl)) (xu (xq (i:=3) sc_v.nd rfl (Or.inl rfl)) (xu (xq (i:=4) sc_v.nd rfl (Or.inl rfl)) (xas))))))
   (xj (xbe (xao (pv 0) T.c_j T.m_e (ok_e T) (hr.mono (by decide)) T.b_e .nil xm (xa (pv 2) (xi))) (xa3 rfl (xu (xq (i:=5) sc_v.nd rfl (Or.inl rfl)) (xu (xq (i:=6) sc_v.nd rfl (Or.inl rfl)) (xas)))))
   (xo (x4 (xt xbt (xed (xao (xz (ok_ag T) (hr.mono (by decide)) rfl T.g_ag T.F_ag.kp T.b_ag .nil xm (xa (pv 3) (xa (xac (pv 0) rfl) (xi)))) T.c_ah T.m_h (ok_h T) (hr.mono (by decide)) T.b_h .nil xm (xa (pv 5) (xi))) (xao (xz (ok_ag T) (hr.mono (by decide)) rfl T.g_ag T.F_ag.kp T.b_ag .nil xm (xa (pv 3) (xa (xac (pv 0) rfl) (xi)))) T.c_y T.m_g (ok_g T) (hr.mono (by decide)) T.b_g .nil xm (xa (pv 5) (xi)))) (xae xg9 rfl T.n_abs boot_abs (xa (xt xdo (pv 6) (pv 4)) (xi))))))),?_⟩
  obtain ⟨pic,hq0,ok,q⟩:=h
  obtain ⟨⟨dx0,hp⟩,_,_⟩:=id pic
  refine ⟨_,rfl,q0,_,rfl,SqT.of hq0,rfl,_,_,rfl,_,_,rfl,_,_,rfl,rfl,?_⟩
  refine ⟨_,rfl,a,dx0,_,rfl,hp,xav (by decide +kernel),_,rfl,a,dp,do_,pw,ph,ps,p.1.nm,p.1,rfl,pic,ok.nm,ok.fd,fun H1 q1 s1 hq1=>⟨q1,_,rfl,SqT.of hq1,rfl,_,_,rfl,_,_,rfl,rfl,?_⟩⟩
  have hp1:=s1 _ _ hp
  obtain ⟨_,_,r1,r2,x1,x2,y1,y2⟩:=id ok
  have w2:=pic.w2
  have h2:=pic.h2
  have sm:-(2 ^ 64) < acrI pw p∧acrI pw p < 2 ^ 64:=by unfold acrI; split <;> omega
  have qq:=q
  unfold uprI acrI at qq
  unfold acrI at sm
  cases hb:p.2.1 with
  | true =>
   rw [hb] at qq sm
   refine .inl ⟨_,rfl,_,rfl,a,_,_,_,_,rfl,hp1,T.c_j,T.n_an,lkW,true,pw,rfl,fun p3 H3 hp3 sd3 s3=>?_⟩
   obtain ⟨ds,hs⟩:=sd3
   exact ⟨p3,ds,_,rfl,hs,(by rw [List.lookup_cons,show (("across":Str) == "width")=false from by decide +kernel]; rfl),_,rfl,_,_,rfl,_,rfl,_,rfl,_,_,rfl,rfl,_,rfl,_,_,rfl,rfl,.inl sm,qq H3 (s1.trans s3)⟩
  | false =>
   rw [hb] at qq sm
   refine .inr ⟨_,rfl,_,rfl,a,_,_,_,_,rfl,hp1,T.c_j,T.n_an,lkW,false,pw,rfl,fun p3 H3 hp3 sd3 s3=>?_⟩
   obtain ⟨ds,hs⟩:=id sd3
   exact ⟨p3,ds,_,rfl,hs,(by rw [List.lookup_cons,show (("across":Str) == "width")=false from by decide +kernel]; rfl),_,rfl,p3,pw,_,rfl,sd3,_,rfl,_,rfl,_,_,rfl,rfl,_,rfl,_,_,rfl,rfl,.inl sm,qq H3 (s1.trans s3)⟩
theorem xji (T:Txt w K mg t):FnOk true P w K mg base (CXo P w) 7 t.f_upright t.d_upright ["picture", "pairs"] (xpn t):=by
 refine T.F_upright.okn (k:=6) xjl (fun vs H Q E h=>?_) (fun cdv A outer s H vs Q E hr h=>?_)
 ·obtain ⟨a,dp,do_,l,pw,ph,ps,prs,qs,rfl,_⟩:=h
  rfl
 ·obtain ⟨a,dp,do_,l,pw,ph,ps,prs,qs,rfl,h⟩:=h
  refine ⟨_,xo (x4 (xae (xeb rfl) rfl T.n_sum PyProof.Rows.Boot.«sum» (xa (xa7 rfl (xay (zs:=["pair"]) (ys:=["picture"]) (fr:=[0]) (N0:=["picture", "pairs"]) (sc0:=xh xbm) (by decide +kernel) rfl rfl rfl) (xax (pv 1)) (fun _ _ _ _ _ ow nd=>xq (i:=0) nd rfl (Or.inl (ow _ (by simp))) (Or.inr (ow _ (by simp)))) (xa2 (by decide)) (fun _ _ _ _ _=>xa5) (fun _ _ _ _ _=>xz (ok_v T) (hr.mono (by decide)) rfl T.g_v T.F_v.kp T.b_v .nil xm (xa (pv 1) (xa (pv 0) (xi))))) (xi)))),?_⟩
  obtain ⟨pic,hl,pr,ok,len,q⟩:=h
  obtain ⟨⟨dx,hp⟩,_,w1,w2,h1,h2,_⟩:=id pic
  refine ⟨_,rfl,l,rfl,⟨_,SqL.of hl⟩,fun l1 hl1=>?_⟩
  have ql:=pr.len
  refine xbw (SqL.of hl) (by rw [List.length_map]; exact Nat.lt_trans (by omega:qs.length < 13) (by decide)) hl1 (fun i y H=>∃ p,prs[i]?=some p∧y=.int (uprI pw p)) (fun i y H H' tp h=>h) (fun i x H2 hx s2 N hN=>?_) (fun ys H2 s2 el ly f=>?_)
  ·rw [List.getElem?_map] at hx
   obtain ⟨o,ho,rfl⟩:=Option.map_eq_some_iff.mp hx
   obtain ⟨p,hpp,ep⟩:=pr.get ho
   have okp:=ok p (List.mem_of_getElem? hpp)
   exact ⟨_,rfl,_,rfl,a,dp,do_,o,pw,ph,ps,p,rfl,Pic.same s2 pic,s2 _ _ ep,okp,fun H4 s4=>hN _ _ s4 ⟨p,hpp,rfl⟩⟩
  ·have ey:ys=(prs.map (uprI pw)).map V.int:=by
    rw [List.length_map,ql] at ly
    refine List.ext_getElem? fun i=>?_
    by_cases c:i < ys.length
    ·obtain ⟨p,h1,h2⟩:=f i _ (List.getElem?_eq_getElem c)
     rw [List.getElem?_eq_getElem c,List.getElem?_map,List.getElem?_map,h1,h2]
     rfl
    ·rw [List.getElem?_eq_none (by omega),List.getElem?_eq_none (by simp; omega)]
   subst ey
   refine ⟨l1,prs.map (uprI pw),rfl,SqL.of el,⟨by rw [List.length_map]; omega,fun n hn=>?_⟩,q _ s2⟩
   obtain ⟨p,hp',rfl⟩:=List.mem_map.mp hn
   exact xnr (ok p hp') w2 h2
theorem ok_p (T:Txt w K mg t):FnOk true P w K mg base (CXo P w) 6 t.f_p t.d_p ["picture", "one", "other"] (xne t):=by
 refine T.F_p.okn (k:=5) sc_p (fun vs H Q E h=>?_) (fun cdv A outer s H vs Q E hr h=>?_)
 ·obtain ⟨a,dp,do_,o1,o2,pw,ph,ps,ss,p,p',rfl,_⟩:=h
  rfl
 ·obtain ⟨a,dp,do_,o1,o2,pw,ph,ps,ss,p,p',rfl,h⟩:=h
  refine ⟨_,xj (xbe (pv 1) (xa3 rfl (xu (xq (i:=3) sc_p.nd rfl (Or.inl rfl)) (xu (xq (i:=4) sc_p.nd rfl (Or.inl rfl)) (xu (xq (i:=5) sc_p.nd rfl (Or.inl rfl)) (xas))))))
   (xj (xbe (pv 2) (xa3 rfl (xu (xq (i:=6) sc_p.nd rfl (Or.inl rfl)) (xu (xq (i:=7) sc_p.nd rfl (Or.inl rfl)) (xu (xq (i:=8) sc_p.nd rfl (Or.inl rfl)) (xas))))))
   (xo (x4 (xca (xao (pv 0) T.c_j T.m_r (ok_r T) (hr.mono (by decide)) T.b_r .nil xm (xa (pv 3) (xa (pv 7) (xa (pv 8) (xi))))) (xd7 (xao (pv 0) T.c_j T.m_r (ok_r T) (hr.mono (by decide)) T.b_r .nil xm (xa (pv 6) (xa (pv 4) (xa (pv 5) (xi)))))))))),?_⟩
  obtain ⟨pic,st,e1,e2,k1,k2,q⟩:=h
  obtain ⟨⟨dx0,hp⟩,_,_⟩:=id pic
  refine ⟨_,rfl,o1,_,rfl,SqT.of e1,rfl,_,_,rfl,_,_,rfl,_,_,rfl,rfl,?_⟩
  refine ⟨_,rfl,o2,_,rfl,SqT.of e2,rfl,_,_,rfl,_,_,rfl,_,_,rfl,rfl,?_⟩
  refine ⟨_,rfl,a,dx0,_,rfl,hp,xav (by decide +kernel),_,rfl,_,rfl,_,rfl,a,dp,do_,pw,ph,ps,ss,p.1,p'.2.1,p'.2.2,rfl,pic,st,k1.nm,k1.fd,k2.r1,k2.r2,fun H1 s1=>?_⟩
  refine ⟨_,rfl,ite2 (fun c=>?_) (fun c=>?_)⟩
  ·refine ⟨_,rfl,a,dx0,_,rfl,s1 _ _ hp,xav (by decide +kernel),_,rfl,_,rfl,_,rfl,a,dp,do_,pw,ph,ps,ss,p'.1,p.2.1,p.2.2,rfl,Pic.same s1 pic,st.same s1,k2.nm,k2.fd,k1.r1,k1.r2,fun H2 s2=>?_⟩
   have z:=q H2 (s1.trans s2)
   unfold excB at z
   rw [show mayB ss p.1 p'.2=true from c,Bool.true_and] at z
   exact z
  ·have z:=q H1 s1
   unfold excB at z
   rw [show mayB ss p.1 p'.2=false from Bool.eq_false_iff.mpr c,Bool.false_and] at z
   exact z
theorem xdf (T:Txt w K mg t):FnOk true P w K mg base (CXo P w) 8 t.f_exchangeable t.d_exchangeable ["picture", "pairs"] (xo8 t):=by
 refine T.F_exchangeable.okn (k:=7) xbf (fun vs H Q E h=>?_) (fun cdv A outer s H vs Q E hr h=>?_)
 ·obtain ⟨a,dp,do_,l,pw,ph,ps,ss,prs,qs,rfl,_⟩:=h
  rfl
 ·obtain ⟨a,dp,do_,l,pw,ph,ps,ss,prs,qs,rfl,h⟩:=h
  refine ⟨_,xj (xbl PassesOwn.never rfl (xec rfl T.n_enumerate (xa (pv 1) (xi))) (xa3 rfl (xu (xq (i:=2) xbf.nd rfl (Or.inl rfl)) (xu (xq (i:=3) xbf.nd rfl (Or.inl rfl)) (xas)))) (xo (xbl PassesOwn.never rfl (xax (xci xfu (pv 1) (xcy (xt xah (pv 2) (xl))) xcw)) (xq (i:=4) xbf.nd rfl (Or.inl rfl)) (xo (xal (xa9 (xz (ok_p T) (hr.mono (by decide)) rfl T.g_p T.F_p.kp T.b_p .nil xm (xa (pv 0) (xa (pv 3) (xa (pv 4) (xi)))))) (xj (x8 (i:=5) xbf.nd rfl (Or.inl rfl) (xz (xjx T) (hr.mono (by decide)) rfl T.g_meeting T.F_meeting.kp T.b_meeting .nil xm (xa (pv 0) (xa (pv 3) (xa (pv 4) (xi))))))
   (xo (xal (xag xit (pv 5) (xeg) (xan _)) (xo (x4 (xap (xa (xaf xbd (pv 3) (xl) (fun _ _=>rfl)) (xa (xaf xbd (pv 4) (xl) (fun _ _=>rfl)) (xa (pv 5) (xi))))))) (xaa)))) (xaa))))))
   (xo (x4 (xeg))),?_⟩
  obtain ⟨pic,st,hl,pr,ok,q⟩:=h
  refine ⟨_,rfl,l,_,rfl,SqL.of hl,?_⟩
  refine xhd (xs:=qs.map V.ref) (Pv:=fun i σ H2=>∃ (v2 v3 v4 v5:Option V),σ=[some (.ref a),some (.ref l),v2,v3,v4,v5]∧Same H H2∧cans pw ss (prs.drop i)=cans pw ss prs) ⟨_,_,_,_,rfl,Same.refl _,rfl⟩ (fun _ _ _ _ ⟨_,_,_,_,_,z,_⟩=>SqL.of (z _ _ hl)) ?_ ?_
  ·rintro i x p σ H2 hx hp ⟨v2,v3,v4,v5,rfl,s2,ea⟩
   rw [List.getElem?_map] at hx
   obtain ⟨o,ho,rfl⟩:=Option.map_eq_some_iff.mp hx
   obtain ⟨P1,hP1,eP1⟩:=pr.get ho
   have ok1:=ok P1 (List.mem_of_getElem? hP1)
   have sp:Same H2 (upd H2 p (.tup [.int i,.ref o])):=xp (Same.refl _) hp
   refine ⟨p,_,rfl,SqT.of xb,rfl,_,_,rfl,_,_,rfl,rfl,?_⟩
   refine ⟨_,rfl,_,rfl,_,_,rfl,rfl,(i:Int) + 1,rfl,l,_,rfl,SqL.of (sp _ _ (s2 _ _ hl)),fun p4 hp4=>?_⟩
   rw [xnz]
   have s4:Same H2 (upd (upd H2 p (.tup [.int i,.ref o])) p4 (.lst ((qs.drop (i + 1)).map V.ref))):=sp.trans (xp (Same.refl _) hp4)
   have pr2:=pr.drop (i + 1)
   have ed:prs.drop i=P1 :: prs.drop (i + 1):=by
    obtain ⟨h1,h2⟩:=(List.getElem?_eq_some_iff.mp hP1)
    rw [List.drop_eq_getElem_cons h1,h2]
   rw [ed] at ea
   refine ⟨p4,rfl,⟨_,SqL.of xb⟩,?_⟩
   refine xch (xs:=(qs.drop (i + 1)).map V.ref) (Pv:=fun j σ H5=>∃ (v4 v5:Option V),σ=[some (.ref a),some (.ref l),some (.int i),some (.ref o),v4,v5]∧Same H H5∧H5 p4=some (.lst ((qs.drop (i + 1)).map V.ref))∧canF pw ss P1 ((prs.drop (i + 1)).drop j) ++ cans pw ss (prs.drop (i + 1))=cans pw ss prs)
    ⟨_,_,rfl,s2.trans s4,xb,ea⟩ (fun _ _ _ _ ⟨_,_,_,_,z,_⟩=>SqL.of z) ?_ ?_
   ·rintro j x σ H5 hx ⟨v4,v5,rfl,s5,hp5,ea5⟩
    rw [List.getElem?_map] at hx
    obtain ⟨o2,ho2,rfl⟩:=Option.map_eq_some_iff.mp hx
    obtain ⟨P2,hP2,eP2⟩:=pr2.get ho2
    have ok2:=ok P2 (List.mem_of_mem_drop (List.mem_of_getElem? hP2))
    have ed2:(prs.drop (i + 1)).drop j=P2 :: (prs.drop (i + 1)).drop (j + 1):=by
     obtain ⟨h1,h2⟩:=List.getElem?_eq_some_iff.mp hP2
     rw [List.drop_eq_getElem_cons h1,h2]
    rw [ed2,xks] at ea5
    refine ⟨_,rfl,_,rfl,_,rfl,a,dp,do_,o,o2,pw,ph,ps,ss,P1,P2,rfl,Pic.same s5 pic,st.same s5,s5 _ _ eP1,s5 _ _ eP2,ok1,ok2,fun H6 s6=>?_⟩
    refine ⟨_,rfl,ite2 (fun cx=>?_) (fun cx=>?_)⟩
    ·have s56:=s5.trans s6
     refine ⟨_,rfl,_,rfl,_,rfl,a,dp,do_,pw,ph,ps,o,o2,P1.1.nm,P2.1.nm,P1.1,P2.1,P1.2.1,P2.2.1,P1.2.2,P2.2.2,rfl,Pic.same s56 pic,s56 _ _ eP1,s56 _ _ eP2,⟨ok1.nm,ok1.fd,ok1.r1,ok1.r2,ok1.xy⟩,⟨ok2.nm,ok2.fd,ok2.r1,ok2.r2,ok2.xy⟩,fun H7 v s7 mv=>?_⟩
     have mv':xmp H7 (canO pw ss P1 P2) v:=by
      unfold canO
      rw [cx,if_pos rfl]
      exact mv
     rcases mv' with ⟨em,rfl⟩ | ⟨c,q6,em,rfl,hq6⟩
     ·rw [em] at ea5
      refine ⟨_,rfl,rfl,_,rfl,ifN (by rfl) ?_⟩
      exact ⟨_,_,rfl,s56.trans s7,s7 _ _ (s6 _ _ hp5),ea5⟩
     ·rw [em] at ea5
      refine ⟨_,rfl,rfl,_,rfl,ifP (by rfl) ?_⟩
      have s57:=s56.trans s7
      refine ⟨_,rfl,o,_,0,_,rfl,rfl,SqT.of (s57 _ _ eP1),rfl,_,rfl,o2,_,0,_,rfl,rfl,SqT.of (s57 _ _ eP2),rfl,_,rfl,(by show 3≤sizeLine; decide),fun p7 hp7=>?_⟩
      have s8:Same H7 (upd H7 p7 (.tup [.str P1.1.nm,.str P2.1.nm,.ref q6])):=xp (Same.refl _) hp7
      refine q _ _ (s57.trans s8) (.inr ⟨(P1.1.nm,P2.1.nm,c),p7,q6,?_,rfl,xb,s8 _ _ hq6⟩)
      rw [← ea5]
      rfl
    ·have em:canO pw ss P1 P2=none:=by
      unfold canO
      rw [if_neg cx]
     rw [em] at ea5
     exact ⟨_,_,rfl,s5.trans s6,s6 _ _ hp5,ea5⟩
   ·rintro σ H5 ⟨v4,v5,rfl,s5,hp5,ea5⟩
    refine ⟨_,_,_,_,rfl,s5,?_⟩
    rw [List.length_map,List.drop_of_length_le (l:=prs.drop (i + 1)) (by rw [pr2.len]; exact Nat.le_refl _)] at ea5
    exact ea5
  ·rintro σ H2 ⟨v2,v3,v4,v5,rfl,s2,ea⟩
   rw [List.length_map,pr.len,List.drop_length] at ea
   exact q _ _ s2 (.inl ⟨by rw [← ea]; rfl,rfl⟩)
end
end S53
set_option maxRecDepth 100000
set_option maxHeartbeats 4000000
namespace S53
open PySem L2 XL PyProof.Rows
theorem xof {x y r s:Int} {n:Nat} (hn:(n:Int)=if r - y < 0 then -(r - y) else r - y) (hs:s=if r < y then -1 else 1) :
    (List.range (n + 1)).map (fun (k:Nat)=>(x,y + s * (0 + (k:Int))))=Geo.upL x y r ++ [(x,r)]:=by
  have e:Geo.upL x y r=(List.range n).map (fun (k:Nat)=>(x,y + s * (0 + (k:Int)))):=by
    unfold Geo.upL
    have hu:Geo.upN y r=n:=by unfold Geo.upN; split <;> split at hn <;> omega
    rw [hu]
    refine List.map_congr_left fun k hk=>?_
    rw [List.mem_range] at hk
    have hd:Geo.dn y r=s:=by unfold Geo.dn; rw [hs]; split <;> split <;> (try rfl) <;> (split at hn <;> omega)
    rw [hd,Int.zero_add,Int.mul_comm]
  rw [List.range_succ,List.map_append,← e]
  have h2:y + s * (0 + (n:Int))=r:=by
    rw [hs,Int.zero_add]
    split <;> split at hn <;> omega
  show _ ++ [(x,y + s * (0 + (n:Int)))]=_
  rw [h2]
theorem xlu {w x r:Int} (h1:1≤x):Geo.lvL w x true r=(x,r) :: (List.range (x + 1 - 1).toNat).map (fun (k:Nat)=>(x - (1 + (k:Int)),r)):=by
 unfold Geo.lvL Geo.lvN Geo.wayI
 rw [if_pos rfl,if_pos rfl,show (x + 1).toNat=(x + 1 - 1).toNat + 1 from by omega,List.range_succ_eq_map,List.map_cons,List.map_map]
 congr 1
 ·simp
 ·refine List.map_congr_left fun k _=>?_
  show (x + ((k + 1:Nat):Int) * -1,r)=_
  congr 1
  omega
theorem xkx {w x r:Int} (h1:x≤w):Geo.lvL w x false r=(x,r) :: (List.range (w + 2 - x - 1).toNat).map (fun (k:Nat)=>(x + (1 + (k:Int)),r)):=by
 unfold Geo.lvL Geo.lvN Geo.wayI
 rw [if_neg Bool.false_ne_true,if_neg Bool.false_ne_true,show (w + 2 - x).toNat=(w + 2 - x - 1).toNat + 1 from by omega,List.range_succ_eq_map,List.map_cons,List.map_map]
 congr 1
 ·simp
 ·refine List.map_congr_left fun k _=>?_
  show (x + ((k + 1:Nat):Int) * 1,r)=_
  congr 1
  omega
def xol:Sp:=fun vs H Q _=>∃ c k:Int,vs=[.int c,.int k]∧0≤k∧∀ m:Int,0≤m→Q (.int m) H
inductive Lp (H:Hp):List Pt→List (Key × V)→Prop
 | nil:Lp H [] []
 | cons {p:Pt} {q:Addr} {ps:List Pt} {kvs:List (Key × V)} (h:H q=some (.lst (ptV p))) (r:Lp H ps kvs):Lp H (p :: ps) ((.inr p.nm,.ref q) :: kvs)
theorem Lp.same {H H':Hp} (s:Same H H') {ps:List Pt} {kvs:List (Key × V)} (h:Lp H ps kvs):Lp H' ps kvs:=by
 induction h with
 | nil=>exact .nil
 | cons h _ ih=>exact .cons (s _ _ h) ih
theorem Lp.len {H:Hp} {ps:List Pt} {kvs:List (Key × V)} (h:Lp H ps kvs):kvs.length=ps.length:=by
 induction h with
 | nil=>rfl
 | cons _ _ ih=>simp [ih]
theorem Lp.find {H:Hp} {ps:List Pt} {kvs:List (Key × V)} (h:Lp H ps kvs) {nm:Str} {pt:Pt} (e:ps.find? (fun p=>decide (p.nm=nm))=some pt):∃ q,valV kvs (.inr nm)=some (.ref q)∧H q=some (.lst (ptV pt)):=by
 induction h with
 | nil=>simp at e
 | @cons p q ps kvs h _ ih =>
  by_cases c:p.nm=nm
  ·rw [List.find?_cons_of_pos (by simpa using c)] at e
   cases e
   exact ⟨q,xaw (by rw [c]),h⟩
  ·rw [List.find?_cons_of_neg (by simpa using c)] at e
   obtain ⟨q',h1,h2⟩:=ih e
   exact ⟨q',by rw [xam (fun z=>c (Sum.inr.inj z))]; exact h1,h2⟩
theorem Lp.no {H:Hp} {ps:List Pt} {kvs:List (Key × V)} (h:Lp H ps kvs) {nm:Str} (e:∀ p ∈ ps,p.nm≠nm):valV kvs (.inr nm)=none:=by
 induction h with
 | nil=>rfl
 | @cons p q ps kvs h _ ih =>
  rw [xam (fun z=>e p List.mem_cons_self (Sum.inr.inj z))]
  exact ih fun p' hp=>e p' (List.mem_cons_of_mem _ hp)
theorem Lp.get {H:Hp} {ps:List Pt} {kvs:List (Key × V)} (h:Lp H ps kvs) {i:Nat} {k:Key} {x:V} (e:kvs[i]?=some (k,x)):∃ p q,ps[i]?=some p∧k=.inr p.nm∧x=.ref q∧H q=some (.lst (ptV p)):=by
 induction h generalizing i with
 | nil=>simp at e
 | @cons p q ps kvs h _ ih =>
  cases i with
  | zero =>
   simp at e
   exact ⟨p,q,rfl,e.1.symm,e.2.symm,h⟩
  | succ j=>exact ih (by simpa using e)
theorem Lp.snoc {H:Hp} {ps:List Pt} {kvs:List (Key × V)} (h:Lp H ps kvs) {p:Pt} {q:Addr} (e:H q=some (.lst (ptV p))):Lp H (ps ++ [p]) (kvs ++ [(.inr p.nm,.ref q)]):=by
 induction h with
 | nil=>exact .cons e .nil
 | cons h _ ih=>exact .cons h ih
def PD (H:Hp) (d:Addr) (ps:List Pt):Prop:=∃ kvs,Rd H d (.dK kvs)∧Lp H ps kvs
theorem PD.same {H H':Hp} {d:Addr} {ps:List Pt} (s:Same H H') (h:PD H d ps):PD H' d ps:=by
 obtain ⟨kvs,e,l⟩:=h
 refine ⟨kvs,?_,l.same s⟩
 rcases e with e | ⟨o,e⟩
 ·exact .inl (s _ _ e)
 ·exact .inr ⟨o,s _ _ e⟩
theorem PD.get {H:Hp} {d:Addr} {ps:List Pt} (h:PD H d ps) {nm:Str} {pt:Pt} (e:ps.find? (fun p=>decide (p.nm=nm))=some pt):∃ q,DGet H d (.str nm) (some (.ref q))∧H q=some (.lst (ptV pt)):=by
 obtain ⟨kvs,ed,l⟩:=h
 obtain ⟨q,h1,h2⟩:=l.find e
 exact ⟨q,.inl ⟨kvs,.inr nm,ed,rfl,h1.symm⟩,h2⟩
def xoi (K:PySem.W.Frag):Sp:=fun vs H Q _=>∃ (d ls:Addr) (ps:List Pt) (ss:List Seat) (rs:List Addr) (pt:Pt) (b:Bool) (r:Int),vs=[.ref d,.ref ls,.str pt.nm,.str (xx b),.int r]∧PD H d ps∧ps.find? (fun p=>decide (p.nm=pt.nm))=some pt∧H ls=some (.lst (rs.map V.ref))∧x6 H ss rs∧∀ H',Same H H'→Q (.bl (mayB ss pt (b,r))) H'
def xma:Sp:=fun vs H Q _=>∃ (q0:Addr) (w:Int) (pt:Pt) (b:Bool),vs=[.int w,.ref q0,.str (xx b)]∧H q0=some (.lst (ptV pt))∧Q (.int (if b then pt.x else w + 1 - pt.x)) H
def xny:Sp:=fun vs H Q _=>∃ (q0:Addr) (w r:Int) (pt:Pt) (b:Bool),vs=[.int w,.ref q0,.str (xx b),.int r]∧H q0=some (.lst (ptV pt))∧(1≤pt.x∧pt.x≤w∧w≤30)∧(1≤pt.y∧pt.y≤16)∧(1≤r∧r≤16) ∧
 ∀ H' l qs,Same H H'→H' l=some (.lst (qs.map V.ref))→x9 H' (Geo.cells w pt.x pt.y b r) qs→qs.length < 100→Q (.ref l) H'
section
variable {P:Program} {w:World} {K:PySem.W.Frag} {mg:Str→Option Value} {base:Heap} {t:Adr}
theorem ok_n (T:Txt w K mg t):FnOk true P w K mg base (CXo P w) 1 t.f_n t.d_n ["_law_cell_here", "_law_k"] (xol):=by
 refine T.F_n.okn (k:=0) sc_n (fun vs H Q E h=>?_) (fun cdv A outer s H vs Q E hr h=>?_)
 ·obtain ⟨c,k,rfl,_⟩:=h
  rfl
 ·obtain ⟨c,k,rfl,h⟩:=h
  refine ⟨_,xj (xal (xag xct (xt xar (pv 0) (xl)) (xl) (xan _)) (xo (x4 (xt xar (xt xln (pv 0) (xt xah (xl) (xt xbt (xl) (pv 1)))) (xt xn8 (xl) (xl))))) (xaa))
   (xj (x8 (i:=2) sc_n.nd rfl (Or.inl rfl) (xt xar (xt xah (pv 0) (xt xbt (xl) (pv 1))) (xl)))
   (xj (x8 (i:=2) sc_n.nd rfl (Or.inl rfl) (xt xar (xt xah (xt xbt (pv 2) (xl)) (pv 1)) (xl)))
   (xj (x8 (i:=2) sc_n.nd rfl (Or.inl rfl) (xt xar (xt xbt (pv 2) (xt xah (pv 2) (xl))) (xl)))
   (xo (x4 (xt xar (xt xbt (pv 2) (xt xah (pv 2) (xl))) (xl))))))),?_⟩
  obtain ⟨k0,q⟩:=h
  refine ⟨_,rfl,_,_,rfl,rfl,(by show (0:Int) < 4; decide),rfl,_,rfl,ite2 (fun z=>?_) (fun z=>?_)⟩
  ·refine ⟨_,rfl,_,rfl,_,_,rfl,rfl,.inl ⟨by decide,by decide⟩,_,_,rfl,rfl,_,_,rfl,rfl,(by omega),_,_,rfl,rfl,⟨by decide,by decide,by decide⟩,_,_,rfl,rfl,(by show (0:Int) < 2 ^ (40:Int).toNat; decide),?_⟩
   exact q _ (Int.emod_nonneg _ (by decide))
  refine ⟨_,rfl,_,rfl,_,_,rfl,rfl,.inl ⟨by decide,by decide⟩,_,_,rfl,rfl,_,_,rfl,rfl,(by show (0:Int) < 2147483647; decide),?_⟩
  refine ⟨_,rfl,_,_,rfl,rfl,.inr ⟨by decide,by decide⟩,_,rfl,_,_,rfl,rfl,_,_,rfl,rfl,(by show (0:Int) < 2147483647; decide),?_⟩
  refine ⟨_,rfl,_,rfl,_,_,rfl,rfl,_,_,rfl,rfl,.inl (xkz (by decide) (by decide)),_,_,rfl,rfl,(by show (0:Int) < 2147483629; decide),?_⟩
  refine ⟨_,rfl,_,rfl,_,_,rfl,rfl,_,_,rfl,rfl,.inl (xkz (by decide) (by decide)),_,_,rfl,rfl,(by show (0:Int) < 2147483587; decide),?_⟩
  exact q _ (xau _ (by decide)).1
theorem ok_al (T:Txt w K mg t):FnOk true P w K mg base (CXo P w) 1 t.f_al t.d_al ["_law_points", "_law_seats", "_law_name", "_law_side", "_law_row"] (xoi K):=by
 refine T.F_al.okn (k:=0) sc_al (fun vs H Q E h=>?_) (fun cdv A outer s H vs Q E hr h=>?_)
 ·obtain ⟨d,ls,ps,ss,rs,pt,b,r,rfl,_⟩:=h
  rfl
 ·obtain ⟨d,ls,ps,ss,rs,pt,b,r,rfl,h⟩:=h
  refine ⟨_,xj (x8 (i:=5) sc_al.nd rfl (Or.inl rfl) (xcv (xbh hr) (pv 0) (pv 2) (fun _ _=>rfl)))
   (xo (x4 (xca (xcz (xoz (xdh hr)) (xap (xa (pv 3) (xa (pv 4) (xi)))) (pv 1) (by rfl)) (xca (xcz xgr (xaf xaq (pv 5) (xl) (fun _ _=>rfl)) (xap (xa (xba) (xa (pv 3) (xi)))) (by rfl)) (xd7 (xdx xeq xeq (xaf xaq (pv 5) (xl) (fun _ _=>rfl)) (pv 4) (xaf xaq (pv 5) (xl) (fun _ _=>rfl)))))))),?_⟩
  obtain ⟨pd,hf,hls,sl,q⟩:=h
  obtain ⟨q0,dg,hq0⟩:=pd.get hf
  refine ⟨_,rfl,_,rfl,d,_,rfl,dg,?_⟩
  refine ⟨_,rfl,_,rfl,(by show 2≤sizeLine; decide),fun q1 hq1=>?_⟩
  have s1:Same H (upd H q1 (.tup [.str (xx b),.int r])):=xp (Same.refl _) hq1
  have g1:upd H q1 (.tup [.str (xx b),.int r]) q1=some (.tup [.str (xx b),.int r]):=xb
  revert s1 g1
  generalize upd H q1 (.tup [.str (xx b),.int r])=H1
  intro s1 g1
  refine ⟨_,rfl,1,2,xbc (b,r),ss.map xbc,xem (s:=(b,r)) g1,(sl.keep (Same.tups s1)).dv (s1 _ _ hls),by decide,by decide,_,rfl,ite2 (fun c=>?_) (fun c=>?_)⟩
  ·rw [if_neg (by decide),xck] at c
   refine ⟨_,rfl,q0,_,2,_,rfl,rfl,SqL.of (s1 _ _ hq0),rfl,_,rfl,(by show 2≤sizeLine; decide),fun q3 hq3=>?_⟩
   have s3:Same H1 (upd H1 q3 (.tup [.str "both",.str (xx b)])):=xp (Same.refl _) hq3
   have g3:upd H1 q3 (.tup [.str "both",.str (xx b)]) q3=some (.tup [.str "both",.str (xx b)]):=xb
   revert s3 g3
   generalize upd H1 q3 (.tup [.str "both",.str (xx b)])=H3
   intro s3 g3
   have z:=q H3 (s1.trans s3)
   unfold mayB at z
   rw [c,Bool.true_and] at z
   unfold xfc at z
   refine ⟨q3,_,rfl,.inr (SqT.of g3),rfl,rfl,_,rfl,ite2 (fun c=>?_) (fun c=>?_)⟩
   ·rw [if_neg (by decide),xfp] at c
    dsimp only at z
    rw [c,Bool.true_and] at z
    refine ⟨_,rfl,q0,_,3,_,rfl,rfl,SqL.of (s3 _ _ (s1 _ _ hq0)),rfl,_,rfl,_,_,rfl,rfl,_,rfl,ite2 (fun c2=>?_) (fun c2=>?_)⟩
    ·rw [c2,Bool.true_and] at z
     exact ⟨_,rfl,q0,_,4,_,rfl,rfl,SqL.of (s3 _ _ (s1 _ _ hq0)),rfl,_,_,rfl,rfl,z⟩
    ·rw [Bool.eq_false_iff.mpr c2,Bool.false_and] at z
     exact z
   ·rw [if_neg (by decide),xfp] at c
    dsimp only at z
    rw [Bool.eq_false_iff.mpr c,Bool.false_and] at z
    exact z
  ·rw [if_neg (by decide),xck] at c
   have z:=q H1 s1
   unfold mayB at z
   rw [Bool.eq_false_iff.mpr c,Bool.false_and] at z
   exact z
theorem ok_aa (T:Txt w K mg t):FnOk true P w K mg base (CXo P w) 1 t.f_aa t.d_aa ["_law_width", "_law_point", "_law_side"] (xma):=by
 refine T.F_aa.okn (k:=0) sc_aa (fun vs H Q E h=>?_) (fun cdv A outer s H vs Q E hr h=>?_)
 ·obtain ⟨q0,w,pt,b,rfl,_⟩:=h
  rfl
 ·obtain ⟨q0,w,pt,b,rfl,h⟩:=h
  refine ⟨_,xj (xal (xag xct (pv 2) (xba) (xan _)) (xo (x4 (xaf xaq (pv 1) (xl) (fun _ _=>rfl)))) (xaa))
   (xo (x4 (xt xdo (xt xah (pv 0) (xl)) (xaf xaq (pv 1) (xl) (fun _ _=>rfl))))),?_⟩
  obtain ⟨hq,q⟩:=h
  cases b with
  | true=>exact ⟨_,rfl,rfl,_,rfl,ifP (by decide +kernel) ⟨_,rfl,q0,_,0,_,rfl,rfl,SqL.of hq,rfl,q⟩⟩
  | false=>exact ⟨_,rfl,rfl,_,rfl,ifN (by decide +kernel) ⟨_,rfl,_,_,rfl,rfl,_,rfl,q0,_,0,_,rfl,rfl,SqL.of hq,rfl,_,_,rfl,rfl,q⟩⟩
end
end S53
set_option maxRecDepth 100000
set_option maxHeartbeats 4000000
namespace S53
open PySem L2 XL PyProof.Rows
theorem xky {c:Bool} {d:Int} (h:d=if c then -1 else 1):atI [V.int 1,V.int (-1)] (if c=true then 1 else 0)=some (.int d):=by
 subst h
 cases c <;> rfl
section
variable {P:Program} {w:World} {K:PySem.W.Frag} {mg:Str→Option Value} {base:Heap} {t:Adr}
theorem ok_z (T:Txt w K mg t):FnOk true P w K mg base (CXo P w) 2 t.f_z t.d_z ["_law_width", "_law_point", "_law_side", "_law_row"] (xny):=by
 refine T.F_z.okn (k:=1) sc_z (fun vs H Q E h=>?_) (fun cdv A outer s H vs Q E hr h=>?_)
 ·obtain ⟨q0,w,r,pt,b,rfl,_⟩:=h
  rfl
 ·obtain ⟨q0,w,r,pt,b,rfl,h⟩:=h
  refine ⟨_,xj (xok (i:=4) (j:=5) rfl sc_z.nd rfl rfl (by decide) rfl rfl (xa (xaf xaq (pv 1) (xl) (fun _ _=>rfl)) (xa (xaf xaq (pv 1) (xl) (fun _ _=>rfl)) (xi))) rfl)
   (xj (x8 (i:=6) sc_z.nd rfl (Or.inl rfl) (xbq (xa (xap (xa (pv 4) (xa (pv 5) (xi)))) (xi))))
   (xj (xhi PassesOwn.never (xag xmq (pv 5) (pv 3) (xan _)) (xj (x8 (i:=5) sc_z.nd rfl (Or.inl rfl) (xt xah (pv 5) (xaf xaq (xbq (xa (xl) (xa (xg2 xfa (xl)) (xi)))) (xb7 xgl rfl T.n_int boot_int (xa (xcz xjs (pv 3) (pv 5) (xan _)) (xi))) (fun _ _=>rfl))))
   (xo (xaz (xeo PySem.F.plainAttrs_list PySem.F.slot_list_append PySem.F.type_list_append xbu (pv 6) (xa (xap (xa (pv 4) (xa (pv 5) (xi)))) (xi)))))))
   (xj (xbl PassesOwn.never rfl (xgf rfl T.n_range (xa (xz (ok_aa T) (hr.mono (by decide)) rfl T.g_aa T.F_aa.kp T.b_aa .nil xm (xa (pv 0) (xa (pv 1) (xa (pv 2) (xi))))) (xi))) (xq (i:=7) sc_z.nd rfl (Or.inl rfl)) (xj (x8 (i:=4) sc_z.nd rfl (Or.inl rfl) (xt xah (pv 4) (xaf xaq (xbq (xa (xl) (xa (xg2 xfa (xl)) (xi)))) (xb7 xgl rfl T.n_int boot_int (xa (xcz xct (pv 2) (xba) (xan _)) (xi))) (fun _ _=>rfl))))
   (xo (xaz (xeo PySem.F.plainAttrs_list PySem.F.slot_list_append PySem.F.type_list_append xbu (pv 6) (xa (xap (xa (pv 4) (xa (pv 5) (xi)))) (xi)))))))
   (xo (x4 (pv 6)))))),?_⟩
  obtain ⟨hq,⟨x1,x2,w2⟩,⟨y1,y2⟩,⟨r1,r2⟩,q⟩:=h
  refine ⟨_,rfl,q0,_,0,_,rfl,rfl,SqL.of hq,rfl,_,rfl,q0,_,1,_,rfl,rfl,SqL.of hq,rfl,_,_,rfl,?_⟩
  refine ⟨_,rfl,_,rfl,(by show 2≤sizeLine; decide),fun qb hqb=>?_⟩
  have s2:Same H (upd H qb (.tup [.int pt.x,.int pt.y])):=xp (Same.refl _) hqb
  have g2:upd H qb (.tup [.int pt.x,.int pt.y]) qb=some (.tup [.int pt.x,.int pt.y]):=xb
  revert s2 g2
  generalize upd H qb (.tup [.int pt.x,.int pt.y])=H2
  intro s2 g2
  refine ⟨(by show 1≤sizeLine; decide),fun l hl=>?_⟩
  have s3:Same H2 (upd H2 l (.lst [.ref qb])):=xp (Same.refl _) hl
  have nl:H l=none:=s2.free hl
  obtain ⟨d,hd⟩:∃ d:Int,d=if r < pt.y then -1 else 1:=⟨_,rfl⟩
  obtain ⟨n,hn⟩:∃ n:Nat,(n:Int)=if r - pt.y < 0 then -(r - pt.y) else r - pt.y:=⟨(if r - pt.y < 0 then -(r - pt.y) else r - pt.y).toNat,by split <;> omega⟩
  have n16:n < 17:=by split at hn <;> omega
  refine ⟨fun m σ H4=>∃ (j:Nat) (qs:List Addr),m=n - j∧j≤n∧σ=[some (.int w),some (.ref q0),some (.str (xx b)),some (.int r),some (.int pt.x),some (.int (pt.y + d * (j:Int))),some (.ref l),none]∧(∀ b u,b≠l→H b=some u→H4 b=some u)∧H4 l=some (.lst (qs.map V.ref))∧x9 H4 ((List.range (j + 1)).map fun (k:Nat)=>(pt.x,pt.y + d * (0 + (k:Int)))) qs,⟨n,0,[qb],rfl,Nat.zero_le _,?_,fun c u _ e=>s3 _ _ (s2 _ _ e),xb,.cons ?_ .nil⟩,?_⟩
  ·rw [show pt.y + d * ((0:Nat):Int)=pt.y by simp]
   rfl
  ·rw [xg (xk g2 hl)]
   show _=some (HO.tup [.int pt.x,.int (pt.y + d * (0 + ((0:Nat):Int)))])
   rw [show pt.y + d * (0 + ((0:Nat):Int))=pt.y by simp]
   exact g2
  rintro m σ H4 ⟨j,qs,rfl,hj,rfl,k4,hl4,cl4⟩
  have ql:=cl4.len
  rw [List.length_map,List.length_range] at ql
  refine ⟨_,rfl,_,rfl,rfl,_,rfl,ite2 (fun c=>?_) (fun c=>?_)⟩
  ·have c':pt.y + d * (j:Int)≠r:=by simpa using c
   have jn:j < n:=by
    rcases Nat.lt_or_ge j n with z | z
    ·exact z
    ·have e:j=n:=by omega
     subst e
     exfalso
     apply c'
     rw [hd]
     split <;> split at hn <;> omega
   have hc:(if r < pt.y + d * (j:Int) then (-1:Int) else 1)=d:=by
    rw [hd]
    split <;> split <;> split at hn <;> omega
   refine ⟨fun σ' H'=>∃ (j':Nat) (qs:List Addr),j'=j + 1∧σ'=[some (.int w),some (.ref q0),some (.str (xx b)),some (.int r),some (.int pt.x),some (.int (pt.y + d * (j':Int))),some (.ref l),none]∧(∀ b u,b≠l→H b=some u→H' b=some u)∧H' l=some (.lst (qs.map V.ref))∧x9 H' ((List.range (j' + 1)).map fun (k:Nat)=>(pt.x,pt.y + d * (0 + (k:Int)))) qs,?_,?_⟩
   ·rintro σ' H' ⟨j',qs',rfl,e1,e2,e3,e4⟩
    exact ⟨n - (j + 1),by omega,j + 1,qs',rfl,jn,e1,e2,e3,e4⟩
   refine ⟨_,rfl,1,rfl,(by show 2≤sizeLine; decide),fun l2 hl2=>?_⟩
   have s5:Same H4 (upd H4 l2 (.lst [.int 1,.int (-1)])):=xp (Same.refl _) hl2
   have g5:upd H4 l2 (.lst [.int 1,.int (-1)]) l2=some (.lst [.int 1,.int (-1)]):=xb
   revert s5 g5
   generalize upd H4 l2 (.lst [.int 1,.int (-1)])=H5
   intro s5 g5
   refine ⟨_,rfl,_,rfl,_,_,rfl,rfl,.inr ⟨_,rfl,l2,_,_,.int d,rfl,rfl,SqL.of g5,xky (hc.symm.trans (by simp)),_,_,rfl,rfl,?_⟩⟩
   refine ⟨_,rfl,.inl ⟨rfl,_,SqL.of (s5 _ _ hl4)⟩,_,rfl,_,rfl,(by show 2≤sizeLine; decide),fun p6 hp6=>?_⟩
   have s6:Same H5 (upd H5 p6 (.tup [.int pt.x,.int (pt.y + d * (j:Int) + d)])):=xp (Same.refl _) hp6
   have g6:upd H5 p6 (.tup [.int pt.x,.int (pt.y + d * (j:Int) + d)]) p6=some (.tup [.int pt.x,.int (pt.y + d * (j:Int) + d)]):=xb
   revert s6 g6
   generalize upd H5 p6 (.tup [.int pt.x,.int (pt.y + d * (j:Int) + d)])=H6
   intro s6 g6
   have hl6:=s6 _ _ (s5 _ _ hl4)
   refine ⟨l,_,_,rfl,rfl,hl6,?_,?_⟩
   ·rw [List.length_map]
    exact Nat.lt_trans (by omega:qs.length < 100) (by decide)
   have ej:pt.y + d * (j:Int) + d=pt.y + d * ((j + 1:Nat):Int):=by
    rw [show ((j + 1:Nat):Int)=(j:Int) + 1 by omega,Int.mul_add,Int.mul_one,Int.add_assoc]
   rw [ej] at g6
   refine ⟨j + 1,qs ++ [p6],rfl,by rw [← ej]; rfl,fun b u nb e=>?_,by rw [xb,List.map_append]; rfl,?_⟩
   ·rw [xg nb]
    exact s6 _ _ (s5 _ _ (k4 _ _ nb e))
   ·rw [List.range_succ,List.map_append]
    refine x9.snoc (x9.keep (fun b xs e=>?_) cl4) ?_
    ·rw [xg (x3 e hl4 (fun z=>nomatch z))]
     exact s6 _ _ (s5 _ _ e)
    ·rw [xg (x3 g6 hl6 (fun z=>nomatch z))]
     show _=some (HO.tup [.int pt.x,.int (pt.y + d * (0 + ((j + 1:Nat):Int)))])
     rw [Int.zero_add]
     exact g6
  ·have c':pt.y + d * (j:Int)=r:=by
    have:=c
    simpa using this
   have jn:j=n:=by
    rw [hd] at c'
    split at c' <;> split at hn <;> omega
   subst jn
   rw [xof (s:=d) hn hd] at cl4
   rw [c']
   refine ⟨_,rfl,_,rfl,_,rfl,q0,w,pt,b,rfl,k4 _ _ (fun z=>by rw [z,nl] at hq; cases hq) hq,_,rfl,?_,?_,?_⟩
   ·split <;> omega
   ·split <;> omega
   obtain ⟨e,he⟩:∃ e:Int,e=if decide (V.str (xx b)=V.str "left") then -1 else 1:=⟨_,rfl⟩
   have ub:(if b=true then pt.x else w + 1 - pt.x).toNat < 31:=by split <;> omega
   refine xdb (Pv:=fun i σ H5=>∃ (v7:Option V) (qs:List Addr),σ=[some (.int w),some (.ref q0),some (.str (xx b)),some (.int r),some (.int (pt.x + e * (i:Int))),some (.int r),some (.ref l),v7]∧(∀ b u,b≠l→H b=some u→H5 b=some u)∧H5 l=some (.lst (qs.map V.ref))∧x9 H5 (Geo.upL pt.x pt.y r ++ [(pt.x,r)] ++ (List.range i).map fun (k:Nat)=>(pt.x + e * (1 + (k:Int)),r)) qs∧qs.length≤j + 1 + i) ?_ ?_ ?_
   ·exact ⟨none,qs,by simp,k4,hl4,by simpa using cl4,by omega⟩
   ·rintro i σ H5 hi ⟨v7,qs5,rfl,k5,hl5,cl5,ql5⟩
    refine ⟨_,rfl,1,rfl,(by show 2≤sizeLine; decide),fun l2 hl2=>?_⟩
    have s6:Same H5 (upd H5 l2 (.lst [.int 1,.int (-1)])):=xp (Same.refl _) hl2
    have g6:upd H5 l2 (.lst [.int 1,.int (-1)]) l2=some (.lst [.int 1,.int (-1)]):=xb
    revert s6 g6
    generalize upd H5 l2 (.lst [.int 1,.int (-1)])=H6
    intro s6 g6
    refine ⟨_,rfl,rfl,.inr ⟨_,rfl,l2,_,_,.int e,rfl,rfl,SqL.of g6,xky he,_,_,rfl,rfl,?_⟩⟩
    refine ⟨_,rfl,.inl ⟨rfl,_,SqL.of (s6 _ _ hl5)⟩,_,rfl,_,rfl,(by show 2≤sizeLine; decide),fun p6 hp6=>?_⟩
    have s7:Same H6 (upd H6 p6 (.tup [.int (pt.x + e * (i:Int) + e),.int r])):=xp (Same.refl _) hp6
    have g7:upd H6 p6 (.tup [.int (pt.x + e * (i:Int) + e),.int r]) p6=some (.tup [.int (pt.x + e * (i:Int) + e),.int r]):=xb
    revert s7 g7
    generalize upd H6 p6 (.tup [.int (pt.x + e * (i:Int) + e),.int r])=H7
    intro s7 g7
    have hl7:=s7 _ _ (s6 _ _ hl5)
    refine ⟨l,_,_,rfl,rfl,hl7,?_,?_⟩
    ·rw [List.length_map]
     exact Nat.lt_trans (by omega:qs5.length < 100) (by decide)
    have ej:pt.x + e * (i:Int) + e=pt.x + e * ((i + 1:Nat):Int):=by
     rw [show ((i + 1:Nat):Int)=(i:Int) + 1 by omega,Int.mul_add,Int.mul_one,Int.add_assoc]
    rw [ej] at g7
    refine ⟨_,qs5 ++ [p6],by rw [← ej]; rfl,fun b u nb e=>?_,by rw [xb,List.map_append]; rfl,?_,by simp; omega⟩
    ·rw [xg nb]
     exact s7 _ _ (s6 _ _ (k5 _ _ nb e))
    ·rw [List.range_succ,List.map_append,← List.append_assoc]
     refine x9.snoc (x9.keep (fun b xs e=>?_) cl5) ?_
     ·rw [xg (x3 e hl5 (fun z=>nomatch z))]
      exact s7 _ _ (s6 _ _ e)
     ·rw [xg (x3 g7 hl7 (fun z=>nomatch z))]
      show _=some (HO.tup [.int (pt.x + e * (1 + (i:Int))),.int r])
      rw [show (1 + (i:Int))=((i + 1:Nat):Int) by omega]
      exact g7
   ·rintro σ H5 ⟨v7,qs5,rfl,k5,hl5,cl5,ql5⟩
    refine ⟨_,rfl,q H5 l qs5 (fun b u e=>k5 _ _ (xk e nl) e) hl5 ?_ (by omega)⟩
    unfold Geo.cells
    rw [List.append_assoc,List.singleton_append] at cl5
    cases b with
    | true =>
     rw [xlu x1]
     have e1:e=-1:=by rw [he]; decide +kernel
     subst e1
     rw [show (fun (k:Nat)=>(pt.x - (1 + (k:Int)),r))=(fun (k:Nat)=>(pt.x + -1 * (1 + (k:Int)),r)) from funext fun k=>by congr 1; omega,show (pt.x + 1 - 1).toNat=(if true=true then pt.x else w + 1 - pt.x).toNat by rw [if_pos rfl]; omega]
     exact cl5
    | false =>
     rw [xkx x2]
     have e1:e=1:=by rw [he]; decide +kernel
     subst e1
     rw [show (fun (k:Nat)=>(pt.x + (1 + (k:Int)),r))=(fun (k:Nat)=>(pt.x + 1 * (1 + (k:Int)),r)) from funext fun k=>by congr 1; omega,show (w + 2 - pt.x - 1).toNat=(if false=true then pt.x else w + 1 - pt.x).toNat by rw [if_neg (by decide)]; omega]
     exact cl5
end
end S53
set_option maxRecDepth 100000
set_option maxHeartbeats 4000000
namespace S53
open PySem L2 XL PyProof.Rows
theorem ltr7 {f:Int} {i k:Nat} (h:k < i) (hi:i < 13):ltr ((f + 7 * (k:Int)) % 26)≠ltr ((f + 7 * (0 + (i:Int))) % 26):=fun e=>by
 have e':=xnf (xau _ (by decide)).1 (xau _ (by decide)).1 e
 omega
theorem xiy {x:Int} {zs:List Int}:inV (.int x) (zs.map V.int)=decide (x ∈ zs):=by
 unfold inV
 rw [Bool.eq_iff_iff,List.any_eq_true,decide_eq_true_iff]
 constructor
 ·rintro ⟨y,hy,e⟩
  obtain ⟨z,hz,rfl⟩:=List.mem_map.mp hy
  have:z=x:=by simpa [eqV] using e
  exact this ▸ hz
 ·intro h
  exact ⟨.int x,List.mem_map.mpr ⟨x,h,rfl⟩,by simp [eqV]⟩
theorem xh6 (zs:List Int):(zs.map V.int).all xcs=true:=by
 rw [List.all_eq_true]
 intro z hz
 obtain ⟨i,_,rfl⟩:=List.mem_map.mp hz
 rfl
theorem xdc.snoc {w h:Int} {ps:List Pt} (o:xdc w h ps) {p:Pt} (k:PtOk w h p) (n1:∀ q ∈ ps,q.nm≠p.nm) (n2:p.x ∉ ps.map (·.x)) (n3:p.y ∉ ps.map (·.y)) (l:ps.length < 12):xdc w h (ps ++ [p]):=by
 refine ⟨fun q hq=>?_,?_,?_,?_,by rw [List.length_append]; exact l⟩
 ·rcases List.mem_append.mp hq with z | z
  ·exact o.ok q z
  ·rw [List.mem_singleton.mp z]; exact k
 ·rw [List.map_append,List.nodup_append]
  refine ⟨o.nn,by simp,fun a ha b hb e=>?_⟩
  obtain ⟨q,hq,rfl⟩:=List.mem_map.mp ha
  simp at hb
  subst hb
  exact n1 q hq e
 ·rw [List.map_append,List.nodup_append]
  refine ⟨o.nx,by simp,fun a ha b hb e=>?_⟩
  simp at hb
  subst hb
  exact n2 (e ▸ ha)
 ·rw [List.map_append,List.nodup_append]
  refine ⟨o.ny,by simp,fun a ha b hb e=>?_⟩
  simp at hb
  subst hb
  exact n3 (e ▸ ha)
theorem xf6 {σ:L2.St} {fr:List Nat} {te:TE} {l d:Addr} {H:Hp} {Q:VK} {ob:Obj} {kvs:List (Key × V)}  (zs:List V) (hz:zs.length=kvs.length) (hd:H d=some (.dK kvs)) (hl:upd H d (.frz ob (.dK kvs)) l=none) (hn:kvs.length < 1000)
    (hte:∀ (i:Nat) (k:Key) (x z:V) (H2:Hp) (R:VK),kvs[i]?=some (k,x)→zs[i]?=some z→(∀ b u,b≠d→H b=some u→H2 b=some u)→R z H2→te ((blk0 σ fr 1).set 0 (some x)) H2 R)
    (fin:∀ H2,H2 d=some (.frz ob (.dK kvs))→Same H (upd H2 d (.dK kvs))→upd H2 d (.dK kvs) l=some (.lst zs)→Q (.ref l) H2):xcq (Itw d ob kvs) 1 (xce 0) σ fr xcm te l (upd H d (.frz ob (.dK kvs))) Q:=by
  have nl:l≠d:=fun z=>by
    rw [z,xb] at hl
    cases hl
  have hl0:H l=none:=by rwa [xg nl] at hl
  refine xb3 kvs.length (fun i xs H2=>xs=zs.take i∧H2 d=some (.frz ob (.dK kvs))∧(∀ b u,b≠d→H b=some u→H2 b=some u)∧H2 l=some (.lst xs)) ?_ ?_ ?_ ?_
  · refine ⟨by simp,?_,fun b u nb e=>?_,xb⟩
    · rw [xg (Ne.symm nl)]
      exact xb
    · rw [xg (xk e hl0),xg nb]
      exact e
  · rintro i xs H2 lt ⟨_,h1,_⟩
    exact ⟨h1,lt⟩
  · rintro i xs H2 v H3 lt ⟨rfl,h1,k2,hl2⟩ ⟨rfl,k,hk⟩ N hN
    refine xjr ?_
    have lz:i < zs.length:=by omega
    refine hte i k v zs[i] _ _ hk (List.getElem?_eq_getElem lz) k2 ⟨hl2,?_,hN _ _ ⟨?_,?_,fun b u nb e=>?_,xb⟩⟩
    · rw [List.length_take]
      exact Nat.lt_trans (by omega:min i zs.length < 1000) (by decide)
    · rw [List.take_add_one,List.getElem?_eq_getElem lz]
      rfl
    · rw [xg (Ne.symm nl)]
      exact h1
    · rw [xg (xk e hl0)]
      exact k2 _ _ nb e
  · rintro xs H2 ⟨rfl,h1,k2,hl2⟩
    refine ⟨⟨h1,Nat.le_refl _⟩,fin _ h1 (fun b u e=>?_) ?_⟩
    · by_cases c:b=d
      · subst c
        rw [xb,← hd]
        exact e
      · rw [xg c]
        exact k2 _ _ c e
    · rw [xg nl,hl2,← hz,List.take_length]
theorem xoe (m:Int):∃ x:Str,atI [V.str "both",V.str "both",V.str "left",V.str "right"] (m % 4)=some (.str x)∧(x="left"∨x="right"∨x="both"):=by
 obtain ⟨h0,h1⟩:=xau m (show (0:Int) < 4 by decide)
 have:m % 4=0∨m % 4=1∨m % 4=2∨m % 4=3:=by omega
 rcases this with e | e | e | e <;> rw [e]
 ·exact ⟨"both",rfl,.inr (.inr rfl)⟩
 ·exact ⟨"both",rfl,.inr (.inr rfl)⟩
 ·exact ⟨"left",rfl,.inl rfl⟩
 ·exact ⟨"right",rfl,.inr (.inl rfl)⟩
theorem Lp.keepL {H H':Hp} (s:∀ b xs,H b=some (.lst xs)→H' b=some (.lst xs)) {ps:List Pt} {kvs:List (Key × V)} (h:Lp H ps kvs):Lp H' ps kvs:=by
 induction h with
 | nil=>exact .nil
 | cons h _ ih=>exact .cons (s _ _ h) ih
def xnp (t:Adr):Sp:=fun vs H Q _=>∃ c:Int,vs=[.int c,.int 7,.int 30,.int 16,.bl true]∧∀ (H':Hp) (tp a dp do_ d:Addr) (w h:Int) (ps:List Pt) (kvs:List (Key × V)),Same H H'→H' tp=some (.tup [.ref a,.ref d])→Pic t H' a dp do_ w h ps→H' do_=some (.dT [])→xdc w h ps→ps.length≤7→(∀ p ∈ ps,p.sd="both"∧p.lo=1∧p.hi=h)→H' d=some (.dK kvs)→Lp H' ps kvs→d≠dp→H d=none→H do_=none→Q (.ref tp) H'
section
variable {P:Program} {w:World} {K:PySem.W.Frag} {mg:Str→Option Value} {base:Heap} {t:Adr}
theorem ok_x (T:Txt w K mg t):FnOk true P w K mg base (CXo P w) 5 t.f_x t.d_x ["_law_cell_here", "_law_most", "_law_wide", "_law_high", "_law_free"] (xnp t):=by
 refine T.F_x.okn (k:=4) sc_x (fun vs H Q E h=>?_) (fun cdv A outer s H vs Q E hr h=>?_)
 ·obtain ⟨c,rfl,_⟩:=h
  rfl
 ·obtain ⟨c,rfl,h⟩:=h
  refine ⟨_,xj (x8 (i:=5) sc_x.nd rfl (Or.inl rfl) (xf0 T.k_j (ok_t T) (hr.mono (by decide)) rfl T.g_j T.b_t .nil xm (xa (xt xah (xl) (xt xar (xz (ok_n T) (hr.mono (by decide)) rfl T.g_n T.F_n.kp T.b_n .nil xm (xa (pv 0) (xa (xl) (xi)))) (pv 2))) (xa (xt xah (xl) (xt xar (xz (ok_n T) (hr.mono (by decide)) rfl T.g_n T.F_n.kp T.b_n .nil xm (xa (pv 0) (xa (xl) (xi)))) (pv 3))) (xi)))))
   (xj (x8 (i:=6) sc_x.nd rfl (Or.inl rfl) (xia))
   (xj (x8 (i:=7) sc_x.nd rfl (Or.inl rfl) (xz (ok_n T) (hr.mono (by decide)) rfl T.g_n T.F_n.kp T.b_n .nil xm (xa (pv 0) (xa (xl) (xi)))))
   (xj (xbl PassesOwn.never rfl (xgf rfl T.n_range (xa (xt xar (xz (ok_n T) (hr.mono (by decide)) rfl T.g_n T.F_n.kp T.b_n .nil xm (xa (pv 0) (xa (xl) (xi)))) (xt xah (pv 1) (xl))) (xi))) (xq (i:=8) sc_x.nd rfl (Or.inl rfl)) (xj (x8 (i:=9) sc_x.nd rfl (Or.inl rfl) (xt xah (xl) (xt xar (xz (ok_n T) (hr.mono (by decide)) rfl T.g_n T.F_n.kp T.b_n .nil xm (xa (pv 0) (xa (xt xah (xl) (xt xbt (xl) (pv 8))) (xi)))) (xac (pv 5) rfl))))
   (xj (x8 (i:=10) sc_x.nd rfl (Or.inl rfl) (xt xah (xl) (xt xar (xz (ok_n T) (hr.mono (by decide)) rfl T.g_n T.F_n.kp T.b_n .nil xm (xa (pv 0) (xa (xt xah (xl) (xt xbt (xl) (pv 8))) (xi)))) (xac (pv 5) rfl))))
   (xj (x8 (i:=11) sc_x.nd rfl (Or.inl rfl) (xz (ok_n T) (hr.mono (by decide)) rfl T.g_n T.F_n.kp T.b_n .nil xm (xa (pv 0) (xa (xt xah (xl) (xt xbt (xl) (pv 8))) (xi)))))
   (xj (x8 (i:=12) sc_x.nd rfl (Or.inl rfl) (xt xah (xl) (xt xar (xt xcx (pv 11) (xl)) (xac (pv 5) rfl))))
   (xj (x8 (i:=13) sc_x.nd rfl (Or.inl rfl) (xbq (xa (pv 9) (xa (pv 10) (xa (xaf xaq (xbq (xa (xba) (xa (xba) (xa (xba) (xa (xba) (xi)))))) (xt xar (pv 11) (xl)) (fun _ _=>rfl)) (xa (pv 12) (xa (xt xah (pv 12) (xt xar (xt xcx (pv 11) (xl)) (xac (pv 5) rfl))) (xi))))))))
   (xj (xbe (xae (xf8 rfl) rfl T.n_min boot_min (xa (xaf xaq (pv 13) (xl) (fun _ _=>rfl)) (xa (xac (pv 5) rfl) (xi)))) (xfi (pv 13) (xl) xdw))
   (xj (xfm (xal (PW.pt (xdt (xa9 (pv 4)) (xc7 (xag xjj (xt xar (xt xcx (pv 11) (xl)) (xl)) (xl) (xan _))))) (xj (xbe (xl) (xfi (pv 13) (xl) xdw))
   (xo (xbe (xac (pv 5) rfl) (xfi (pv 13) (xl) xdw)))) (xaa)))
   (xj (xfm (xal (xa9 (pv 4)) (xo (xbe (xba) (xfi (pv 13) (xl) xdw))) (xaa)))
   (xo (xfm (xal (PW.pt (xhv (xag xd6 (pv 9) (xfw (xa7 rfl (xay (zs:=["_law_one"]) (ys:=[]) (fr:=[]) (N0:=["_law_cell_here", "_law_most", "_law_wide", "_law_high", "_law_free", "_law_picture", "_law_points", "_law_first", "_law_k", "_law_x", "_law_y", "_law_number", "_law_low", "_law_point", "_law_name"]) (sc0:=xh s_x) (by decide +kernel) rfl rfl rfl) (xgc (pv 6)) (fun _ _ _ _ _ ow nd=>xq (i:=0) nd rfl (Or.inl (ow _ (by simp))) (Or.inr (ow _ (by simp)))) (xa2 (by decide)) (fun _ _ _ _ _=>xa5) (fun _ _ _ _ _=>xaf (r:=rIxL K) xaq (pv 0) (xl) (fun _ _=>rfl)))) (by rfl)) (xfz (xag xd6 (pv 10) (xfw (xa7 rfl (xay (zs:=["_law_one"]) (ys:=[]) (fr:=[]) (N0:=["_law_cell_here", "_law_most", "_law_wide", "_law_high", "_law_free", "_law_picture", "_law_points", "_law_first", "_law_k", "_law_x", "_law_y", "_law_number", "_law_low", "_law_point", "_law_name"]) (sc0:=xh s_x) (by decide +kernel) rfl rfl rfl) (xgc (pv 6)) (fun _ _ _ _ _ ow nd=>xq (i:=0) nd rfl (Or.inl (ow _ (by simp))) (Or.inr (ow _ (by simp)))) (xa2 (by decide)) (fun _ _ _ _ _=>xa5) (fun _ _ _ _ _=>xaf (r:=rIxL K) xaq (pv 0) (xl) (fun _ _=>rfl)))) (by rfl))))) (xj (x8 (i:=14) sc_x.nd rfl (Or.inl rfl) (xaf xo7 (xba) (xt xar (xt xah (pv 7) (xt xbt (xl) (pv 8))) (xl)) (fun _ _=>rfl)))
   (xj (xaz (xao (pv 5) T.c_j T.m_k (ok_k T) (hr.mono (by decide)) T.b_k .nil xm (xcl (pv 14) (xcl (pv 9) (xcl (pv 10) (xcl (xaf xaq (pv 13) (xl) (fun _ _=>rfl)) (xcl (xaf xaq (pv 13) (xl) (fun _ _=>rfl)) (xcl (xaf xaq (pv 13) (xl) (fun _ _=>rfl)) (xi) rfl) rfl) rfl) rfl) rfl) rfl)))
   (xo (xes (xbh hr) (pv 6) (pv 14) (pv 13) rfl)))) (xaa)))))))))))))
   (xo (x4 (xap (xa (pv 5) (xa (pv 6) (xi))))))))),?_⟩
  refine ⟨_,rfl,c,0,rfl,by decide,fun m1 a1=>⟨_,rfl,_,_,rfl,rfl,(by show (0:Int) < 30; decide),_,_,rfl,rfl,?_⟩⟩
  refine ⟨_,rfl,c,1,rfl,by decide,fun m2 a2=>⟨_,rfl,_,_,rfl,rfl,(by show (0:Int) < 16; decide),_,_,rfl,rfl,?_⟩⟩
  have wb:=xau m1 (show (0:Int) < 30 by decide)
  have hb:=xau m2 (show (0:Int) < 16 by decide)
  obtain ⟨w,ew⟩:∃ w,w=1 + m1 % 30:=⟨_,rfl⟩
  obtain ⟨ph,eh⟩:∃ h,h=1 + m2 % 16:=⟨_,rfl⟩
  dsimp only
  rw [← ew,← eh]
  have w1:1≤w:=by omega
  have w2:w≤30:=by omega
  have h1:1≤ph:=by omega
  have h2:ph≤16:=by omega
  refine fun a dx hx hdx ne=>⟨a,dx,w,ph,rfl,xb,w1,w2,h1,h2,fun H5 dp do_ hdp5 hdo5 s6 pic5 hdt=>⟨rfl,?_⟩⟩
  have k5:Same H H5:=fun b u e=>s6 b u (xk e hx) (by rw [xg (xk e hx),xg (xk e hdx)]; exact e)
  have up:∀ b,upd (upd H dx (.own a)) a (.ins t.C_j dx []) b=none→H b=none:=fun b z=>by
   cases e:H b with
   | none=>rfl
   | some u=>rw [xg (xk e hx),xg (xk e hdx),e] at z; cases z
  have fdp:=up _ hdp5
  have fdo:=up _ hdo5
  refine fun l hl5=>?_
  have fl:=k5.free hl5
  have s5l:Same H5 (upd H5 l (.dK [])):=xp (Same.refl _) hl5
  have ldp:l≠dp:=fun z=>by
   obtain ⟨kv,e,_⟩:=pic5.pl
   rw [← z,hl5] at e
   cases e
  refine ⟨_,rfl,c,2,rfl,by decide,fun f f0=>?_⟩
  refine ⟨_,rfl,c,3,rfl,by decide,fun m3 a3=>⟨_,rfl,_,_,rfl,rfl,_,_,rfl,rfl,(by show (0:Int) < 7 + 1; decide),m3 % 8,rfl,?_,?_,?_⟩⟩
  ·have:=xau m3 (show (0:Int) < 8 by decide); omega
  ·have:=xau m3 (show (0:Int) < 8 by decide); omega
  have nb:=xau m3 (show (0:Int) < 8 by decide)
  refine xdb (Pv:=fun i σ H6=>∃ (v8 v9 v10 v11 v12 v13 v14:Option V) (ps:List Pt) (kvs:List (Key × V)),σ=[some (.int c),some (.int 7),some (.int 30),some (.int 16),some (.bl true),some (.ref a),some (.ref l),some (.int f),v8,v9,v10,v11,v12,v13,v14]∧Same H H6∧Pic t H6 a dp do_ w ph ps∧H6 do_=some (.dT [])∧H6 l=some (.dK kvs)∧Lp H6 ps kvs∧xdc w ph ps∧ps.length≤i∧(∀ p ∈ ps,p.sd="both"∧p.lo=1∧p.hi=ph)∧∀ p ∈ ps,∃ k:Nat,k < i∧p.nm=ltr ((f + 7 * (k:Int)) % 26)) ?_ ?_ ?_
  ·exact ⟨_,_,_,_,_,_,_,[],[],rfl,k5.trans s5l,Pic.same s5l pic5,s5l _ _ hdt,xb,.nil,⟨fun p hp=>(nomatch hp),List.nodup_nil,List.nodup_nil,List.nodup_nil,Nat.zero_le _⟩,Nat.le_refl _,fun p hp=>(nomatch hp),fun p hp=>(nomatch hp)⟩
  ·rintro i σ H6 hi ⟨v8,v9,v10,v11,v12,v13,v14,ps,kvs,rfl,s7,pic6,hdt6,hl6,lp6,pok6,ple,pfr,pnm⟩
   have hi':i < 13:=by omega
   have ql:=lp6.len
   obtain ⟨dx6,hp6⟩:=pic6.ins
   refine ⟨_,rfl,_,rfl,_,_,rfl,rfl,.inl ⟨by decide,by decide⟩,_,_,rfl,rfl,c,_,rfl,(by omega),fun mx mx0=>⟨_,rfl,a,_,_,_,_,rfl,hp6,T.c_j,T.n_an,lkW,_,_,rfl,rfl,(by show 0 < w; omega),_,_,rfl,rfl,?_⟩⟩
   refine ⟨_,rfl,_,rfl,_,_,rfl,rfl,.inl ⟨by decide,by decide⟩,_,_,rfl,rfl,c,_,rfl,(by omega),fun my my0=>⟨_,rfl,a,_,_,_,_,rfl,hp6,T.c_j,T.n_am,lkH,_,_,rfl,rfl,(by show 0 < ph; omega),_,_,rfl,rfl,?_⟩⟩
   have bx:=xau mx (show 0 < w by omega)
   have bY:=xau my (show 0 < ph by omega)
   obtain ⟨x,ex⟩:∃ x,x=1 + mx % w:=⟨_,rfl⟩
   obtain ⟨y,ey⟩:∃ y,y=1 + my % ph:=⟨_,rfl⟩
   dsimp only
   rw [← ex,← ey]
   refine ⟨_,rfl,_,rfl,_,_,rfl,rfl,.inl ⟨by decide,by decide⟩,_,_,rfl,rfl,c,_,rfl,(by omega),fun nr n0=>?_⟩
   refine ⟨_,rfl,_,_,rfl,rfl,⟨by decide,by decide⟩,_,rfl,a,_,_,_,_,rfl,hp6,T.c_j,T.n_am,lkH,_,_,rfl,rfl,(by show 0 < ph; omega),_,_,rfl,rfl,?_⟩
   have bl:=xau (nr / 16) (show 0 < ph by omega)
   obtain ⟨lo,elo⟩:∃ lo,lo=1 + nr / 16 % ph:=⟨_,rfl⟩
   dsimp only
   rw [← elo]
   obtain ⟨sd,esd,hsd⟩:=xoe nr
   have bh:=xau (nr / 300) (show 0 < ph by omega)
   obtain ⟨hi0,ehi⟩:∃ h,h=lo + nr / 300 % ph:=⟨_,rfl⟩
   refine ⟨_,rfl,_,rfl,(by show 4≤sizeLine; decide),fun q3 hq3=>?_⟩
   have s8:Same H6 (upd H6 q3 (.lst [.str "both",.str "both",.str "left",.str "right"])):=xp (Same.refl _) hq3
   have g8:upd H6 q3 (.lst [.str "both",.str "both",.str "left",.str "right"]) q3=some (.lst [.str "both",.str "both",.str "left",.str "right"]):=xb
   revert s8 g8
   generalize upd H6 q3 (.lst [.str "both",.str "both",.str "left",.str "right"])=H8
   intro s8 g8
   have hp8:=s8 _ _ hp6
   refine ⟨_,rfl,_,_,rfl,rfl,(by show (0:Int) < 4; decide),q3,_,_,.str sd,rfl,rfl,SqL.of g8,esd,_,rfl,_,rfl,_,rfl,_,_,rfl,rfl,⟨by decide,by decide⟩,_,rfl,a,_,_,_,_,rfl,hp8,T.c_j,T.n_am,lkH,_,_,rfl,rfl,(by show 0 < ph; omega),_,_,rfl,rfl,(by show 5≤sizeLine; decide),fun q hq9=>?_⟩
   dsimp only
   rw [← ehi]
   have s9:Same H8 (upd H8 q (.lst [.int x,.int y,.str sd,.int lo,.int hi0])):=xp (Same.refl _) hq9
   have g9:upd H8 q (.lst [.int x,.int y,.str sd,.int lo,.int hi0]) q=some (.lst [.int x,.int y,.str sd,.int lo,.int hi0]):=xb
   revert s9 g9
   generalize upd H8 q (.lst [.int x,.int y,.str sd,.int lo,.int hi0])=H9
   intro s9 g9
   have s69:Same H6 H9:=s8.trans s9
   have hp9:=s69 _ _ hp6
   have fq:H6 q=none:=s8.free hq9
   refine ⟨_,rfl,q,_,4,_,rfl,rfl,SqL.of g9,rfl,_,rfl,a,_,_,_,_,rfl,hp9,T.c_j,T.n_am,lkH,_,_,rfl,_,rfl,q,_,4,4,rfl,rfl,g9,rfl,?_⟩
   obtain ⟨h9,eh9⟩:∃ z:Int,z=if ph < hi0 then ph else hi0:=⟨_,rfl⟩
   have keepq:∀ (Hz:Hp) (o:HO),Same H6 Hz→Same H6 (upd Hz q o):=fun Hz o s b u e=>by
    rw [xg (xk e fq)]
    exact s _ _ e
   have g10:upd H9 q (.lst [.int x,.int y,.str sd,.int lo,.int h9]) q=some (.lst [.int x,.int y,.str sd,.int lo,.int h9]):=xb
   have s10:=keepq H9 (.lst [.int x,.int y,.str sd,.int lo,.int h9]) s69
   rw [show ([V.int x,.int y,.str sd,.int lo,.int hi0].set 4 (V.int (if ph < hi0 then ph else hi0)))=[.int x,.int y,.str sd,.int lo,.int h9] from by rw [eh9]; rfl]
   revert g10 s10
   generalize upd H9 q (.lst [.int x,.int y,.str sd,.int lo,.int h9])=H10
   intro g10 s10
   have hp10:=s10 _ _ hp6
   refine ⟨fun σ' H'=>σ'=[some (V.int c),some (.int 7),some (.int 30),some (.int 16),some (.bl true),some (.ref a),some (.ref l),some (.int f),some (.int (0 + (i:Int))),some (.int x),some (.int y),some (.int nr),some (.int lo),some (.ref q),v14]∧H' q=some (.lst [.int x,.int y,.str sd,.int 1,.int ph])∧Same H6 H',?_,?_⟩
   ·refine ⟨_,rfl,_,rfl,iteT (iteT ?_)⟩
    refine ⟨_,rfl,q,_,3,3,rfl,rfl,g10,rfl,?_⟩
    have g11:upd H10 q (.lst [.int x,.int y,.str sd,.int 1,.int h9]) q=some (.lst [.int x,.int y,.str sd,.int 1,.int h9]):=xb
    have hp11:=keepq H10 (.lst [.int x,.int y,.str sd,.int 1,.int h9]) s10 _ _ hp6
    refine ⟨_,rfl,a,_,_,_,_,rfl,hp11,T.c_j,T.n_am,lkH,_,rfl,q,_,4,4,rfl,rfl,g11,rfl,rfl,xb,?_⟩
    exact keepq _ _ (keepq _ _ s10)
   rintro σ' HZ ⟨rfl,gz,sz⟩
   refine ⟨fun σ' H'=>σ'=[some (V.int c),some (.int 7),some (.int 30),some (.int 16),some (.bl true),some (.ref a),some (.ref l),some (.int f),some (.int (0 + (i:Int))),some (.int x),some (.int y),some (.int nr),some (.int lo),some (.ref q),v14]∧H' q=some (.lst [.int x,.int y,.str "both",.int 1,.int ph])∧Same H6 H',⟨_,rfl,_,rfl,iteT ⟨_,rfl,q,_,2,2,rfl,rfl,gz,rfl,rfl,xb,keepq _ _ sz⟩⟩,?_⟩
   rintro σ' H11 ⟨rfl,g11,s11⟩
   refine ⟨_,?_,fun _ _ z=>z⟩
   have hl11:=s11 _ _ hl6
   have lp11:=lp6.same s11
   have pass:∀ HB,Same H11 HB→∃ v8 v9 v10 v11 v12 v13 v14' ps kvs,[some (V.int c),some (.int 7),some (.int 30),some (.int 16),some (.bl true),some (.ref a),some (.ref l),some (.int f),some (.int (0 + (i:Int))),some (.int x),some (.int y),some (.int nr),some (.int lo),some (.ref q),v14]=[some (V.int c),some (.int 7),some (.int 30),some (.int 16),some (.bl true),some (.ref a),some (.ref l),some (.int f),v8,v9,v10,v11,v12,v13,v14']∧Same H HB∧Pic t HB a dp do_ w ph ps∧HB do_=some (.dT [])∧HB l=some (.dK kvs)∧Lp HB ps kvs∧xdc w ph ps∧ps.length≤i + 1∧(∀ p ∈ ps,p.sd="both"∧p.lo=1∧p.hi=ph)∧∀ p ∈ ps,∃ k:Nat,k < i + 1∧p.nm=ltr ((f + 7 * (k:Int)) % 26):=fun HB sB=>by
    have s6B:=s11.trans sB
    exact ⟨_,_,_,_,_,_,_,ps,kvs,rfl,s7.trans s6B,Pic.same s6B pic6,s6B _ _ hdt6,s6B _ _ hl6,lp6.same s6B,pok6,by omega,pfr,fun p hp=>let ⟨k,h1,h2⟩:=pnm p hp; ⟨k,by omega,h2⟩⟩
   refine ⟨_,rfl,_,rfl,l,kvs,rfl,hl11,fun ob nf lx hlx=>?_⟩
   refine xf6 ((ps.map (·.x)).map V.int) (by simp [ql]) hl11 hlx (by omega) (fun i k v z H2 R h1 h2 k2 r=>?_) (fun H2 e2 sA elA=>⟨l,ob,_,e2,nf,?_⟩)
   ·obtain ⟨p,o,e1,e2,rfl,e3⟩:=lp11.get h1
    rw [List.getElem?_map,List.getElem?_map,e1] at h2
    cases h2
    have no:o≠l:=x3 e3 hl11 (fun z=>nomatch z)
    exact ⟨_,rfl,o,_,0,_,rfl,rfl,SqL.of (k2 _ _ no e3),rfl,r⟩
   revert sA elA
   generalize upd H2 l (.dK kvs)=HA
   intro sA elA
   refine ⟨lx,_,rfl,.inl (SqL.of elA),rfl,xh6 _,_,rfl,?_⟩
   refine ite2 (fun cx=>?_) (fun cx=>?_)
   ·rw [if_pos rfl,xiy] at cx
    have nx:x ∉ ps.map (·.x):=by simpa using cx
    have hlA:=sA _ _ hl11
    have lpA:=lp11.same sA
    refine ⟨_,rfl,_,rfl,l,kvs,rfl,hlA,fun ob nf ly hly=>?_⟩
    refine xf6 ((ps.map (·.y)).map V.int) (by simp [ql]) hlA hly (by omega) (fun i k v z H2 R h1 h2 k2 r=>?_) (fun H2 e2 sB elB=>⟨l,ob,_,e2,nf,?_⟩)
    ·obtain ⟨p,o,e1,e2,rfl,e3⟩:=lpA.get h1
     rw [List.getElem?_map,List.getElem?_map,e1] at h2
     cases h2
     have no:o≠l:=x3 e3 hlA (fun z=>nomatch z)
     exact ⟨_,rfl,o,_,1,_,rfl,rfl,SqL.of (k2 _ _ no e3),rfl,r⟩
    revert sB elB
    generalize upd H2 l (.dK kvs)=HB
    intro sB elB
    refine ⟨ly,_,rfl,.inl (SqL.of elB),rfl,xh6 _,_,rfl,?_⟩
    refine ite2 (fun cy=>?_) (fun cy=>?_)
    ·rw [if_pos rfl,xiy] at cy
     have ny:y ∉ ps.map (·.y):=by simpa using cy
     have sAB:=sA.trans sB
     have s6B:=s11.trans sAB
     have picB:=Pic.same s6B pic6
     obtain ⟨dxB,hpB⟩:=picB.ins
     have gB:=sAB _ _ g11
     obtain ⟨nm,enm⟩:∃ nm,nm=ltr ((f + 7 * (0 + (i:Int))) % 26):=⟨_,rfl⟩
     have isn:isNm nm=true:=by rw [enm]; exact xlz (xau _ (by decide)).1 (xau _ (by decide)).2
     refine ⟨_,rfl,_,rfl,_,_,rfl,rfl,.inl ⟨by decide,by decide⟩,_,_,rfl,rfl,_,_,rfl,rfl,(by show (0:Int) < 26; decide),abc,_,_,rfl,rfl,(by decide +kernel),xm3 (xau _ (by decide)).1 (xau _ (by decide)).2,?_⟩
     rw [show (⟨#[97 + ((f + 7 * (0 + (i:Int))) % 26).toNat]⟩:Str)=nm from enm.symm]
     have nn:∀ q ∈ ps,q.nm≠nm:=fun q hq=>by
      obtain ⟨k,hk,e⟩:=pnm q hq
      rw [e,enm]
      exact ltr7 hk hi'
     have len:ps.length < 12:=by omega
     refine ⟨_,rfl,a,dxB,_,rfl,hpB,xav (by decide +kernel),_,rfl,_,rfl,_,rfl,_,rfl,q,_,2,_,rfl,rfl,SqL.of gB,rfl,_,rfl,q,_,3,_,rfl,rfl,SqL.of gB,rfl,_,rfl,q,_,4,_,rfl,rfl,SqL.of gB,rfl,?_⟩
     refine ⟨a,dp,do_,w,ph,ps,nm,x,y, "both",1,ph,.int _,rfl,picB,.inr rfl,isn,by omega,by omega,by omega,by omega,.inr (.inr rfl),by omega,by omega,by omega,fun p hp=>⟨nn p hp,fun e=>nx (e ▸ List.mem_map.mpr ⟨p,hp,rfl⟩),fun e=>ny (e ▸ List.mem_map.mpr ⟨p,hp,rfl⟩)⟩,len,fun HC kC picC=>?_⟩
     obtain ⟨kv0,hk,_⟩:=picB.pl
     have ndp:∀ b u,H b=some u→b≠dp:=fun b u e=>xk e fdp
     have hlC:=kC _ _ ldp (s6B _ _ hl6)
     have gC:=kC _ _ (x3 gB hk (fun z=>nomatch z)) gB
     have lpC:Lp HC ps kvs:=Lp.keepL (fun b xs e=>kC _ _ (x3 e hk (fun z=>nomatch z)) e) (lp6.same s6B)
     refine ⟨_,rfl,_,rfl,_,rfl,l,_,rfl,DPut.k (k:=.inr nm) hlC (Nat.lt_trans (by omega:kvs.length < 13) (by decide)),?_⟩
     rw [xc1 _ (lpC.no nn)]
     have bt:∀ b u,b≠l→HC b=some u→upd HC l (.dK (kvs ++ [(.inr nm,.ref q)])) b=some u:=fun b u nb e=>by
      rw [xg nb]
      exact e
     have tL:Tups HC (upd HC l (.dK (kvs ++ [(.inr nm,.ref q)]))):=fun b xs e=>bt _ _ (x3 e hlC (fun z=>nomatch z)) e
     have tl2:∀ b xs,HC b=some (.lst xs)→upd HC l (.dK (kvs ++ [(.inr nm,.ref q)])) b=some (.lst xs):=fun b xs e=>bt _ _ (x3 e hlC (fun z=>nomatch z)) e
     have picL:Pic t (upd HC l (.dK (kvs ++ [(.inr nm,.ref q)]))) a dp do_ w ph (ps ++ [⟨nm,x,y, "both",1,ph⟩]) :=
      ⟨let ⟨d,e⟩:=picC.ins; ⟨d,bt _ _ (x3 e hlC (fun z=>nomatch z)) e⟩,let ⟨k,e,q⟩:=picC.pl; ⟨k,bt _ _ (Ne.symm ldp) e,q.keep tL⟩,picC.w1,picC.w2,picC.h1,picC.h2,picC.len⟩
     refine ⟨_,_,_,_,_,_,_,ps ++ [⟨nm,x,y, "both",1,ph⟩],kvs ++ [(.inr nm,.ref q)],rfl,fun b u e=>bt _ _ (xk e fl) (kC _ _ (ndp _ _ e) (s6B _ _ (s7 _ _ e))),picL,?_,xb,?_,?_,?_,?_,?_⟩
     ·have e:=kC _ _ (x3 (s6B _ _ hdt6) hk (fun z=>nomatch z)) (s6B _ _ hdt6)
      exact bt _ _ (x3 e hlC (fun z=>nomatch z)) e
     ·exact Lp.snoc (p:=⟨nm,x,y, "both",1,ph⟩) (Lp.keepL tl2 lpC) (tl2 _ _ gC)
     ·exact xdc.snoc pok6 ⟨isn,by show 1≤x; omega,by show x≤w; omega,by show 1≤y; omega,by show y≤ph; omega,(.inr (.inr rfl)),Int.le_refl _,by show 1≤ph; omega,Int.le_refl _⟩ nn nx ny len
     ·rw [List.length_append]
      show ps.length + 1≤i + 1
      omega
     ·intro p hp
      rcases List.mem_append.mp hp with z | z
      ·exact pfr p z
      ·rw [List.mem_singleton.mp z]
       exact ⟨rfl,rfl,rfl⟩
     ·intro p hp
      rcases List.mem_append.mp hp with z | z
      ·obtain ⟨k,h1,h2⟩:=pnm p z
       exact ⟨k,by omega,h2⟩
      ·rw [List.mem_singleton.mp z]
       exact ⟨i,by omega,by rw [← Int.zero_add (i:Int)]; exact enm⟩
    ·exact pass HB (sA.trans sB)
   ·exact pass HA sA
  ·rintro σ H6 ⟨v8,v9,v10,v11,v12,v13,v14,ps,kvs,rfl,s7,pic6,hdt6,hl6,lp6,pok6,ple,pfr,pnm⟩
   refine ⟨_,rfl,_,rfl,(by show 2≤sizeLine; decide),fun tp htp=>?_⟩
   have s8:Same H6 (upd H6 tp (.tup [.ref a,.ref l])):=xp (Same.refl _) htp
   exact h _ tp a dp do_ l w ph ps kvs (s7.trans s8) xb (Pic.same s8 pic6) (s8 _ _ hdt6) pok6 (by omega) pfr (s8 _ _ hl6) (lp6.same s8) ldp fl fdo
end
end S53
set_option maxRecDepth 100000
set_option maxHeartbeats 4000000
namespace S53
open PySem L2 XL PyProof.Rows
def Bef (i j:Nat) (s:Seat):Prop:=(if s.1 then 0 else 1) < i∨((if s.1 then 0 else 1)=i∧s.2≤j)
def xmm (t:Adr):Sp:=fun vs H Q _=>∃ (a dp do_:Addr) (pw ph c:Int) (ps:List Pt),vs=[.ref a,.int c]∧Pic t H a dp do_ pw ph ps∧H do_=some (.dT []) ∧
 ∀ (H':Hp) (l:Addr) (ss:List Seat) (rs:List Addr),(∀ b u,b≠do_→H b=some u→H' b=some u)→H l=none→Pic t H' a dp do_ pw ph ps→Sts H' do_ ss→SsOk ph ss→H' l=some (.lst (rs.map V.ref))→x6 H' ss rs→Q (.ref l) H'
theorem xm9 {a b:Int} (x y:Int) (k:Int) (h0:0≤k) (h1:k < 4):∃ z:Int,atI [V.int a,V.int b,V.int x,V.int y] k=some (.int z):=by
 have:k=0∨k=1∨k=2∨k=3:=by omega
 rcases this with e | e | e | e <;> rw [e]
 ·exact ⟨a,rfl⟩
 ·exact ⟨b,rfl⟩
 ·exact ⟨x,rfl⟩
 ·exact ⟨y,rfl⟩
section
variable {P:Program} {w:World} {K:PySem.W.Frag} {mg:Str→Option Value} {base:Heap} {t:Adr}
theorem ok_u (T:Txt w K mg t):FnOk true P w K mg base (CXo P w) 6 t.f_u t.d_u ["_law_picture", "_law_cell_here"] (xmm t):=by
 refine T.F_u.okn (k:=5) sc_u (fun vs H Q E h=>?_) (fun cdv A outer s H vs Q E hr h=>?_)
 ·obtain ⟨a,dp,do_,pw,ph,c,ps,rfl,_⟩:=h
  rfl
 ·obtain ⟨a,dp,do_,pw,ph,c,ps,rfl,h⟩:=h
  refine ⟨_,xj (x8 (i:=2) sc_u.nd rfl (Or.inl rfl) (xbq (xi)))
   (xj (xbl PassesOwn.never rfl (xec rfl T.n_enumerate (xa (xbq (xa (xba) (xa (xba) (xi)))) (xi))) (xa3 rfl (xu (xq (i:=3) sc_u.nd rfl (Or.inl rfl)) (xu (xq (i:=4) sc_u.nd rfl (Or.inl rfl)) (xas)))) (xj (x8 (i:=5) sc_u.nd rfl (Or.inl rfl) (xz (ok_n T) (hr.mono (by decide)) rfl T.g_n T.F_n.kp T.b_n .nil xm (xa (pv 1) (xa (pv 3) (xi)))))
   (xj (x8 (i:=6) sc_u.nd rfl (Or.inl rfl) (xaf xaq (xbq (xa (xt xar (xt xcx (pv 5) (xl)) (xl)) (xa (xt xar (xt xcx (pv 5) (xl)) (xl)) (xa (xl) (xa (xl) (xi)))))) (xae (xgq rfl) rfl T.n_max boot_max (xa (xl) (xa (xt xdo (xt xar (pv 5) (xl)) (xl)) (xi)))) (fun _ _=>rfl)))
   (xo (xbl PassesOwn.never rfl (xgj rfl T.n_range (xa (xl) (xa (xt xah (xac (pv 0) rfl) (xl)) (xi)))) (xq (i:=7) sc_u.nd rfl (Or.inl rfl)) (xo (xal (xag xct (xt xo0 (xt xln (pv 6) (xt xdo (pv 7) (xl))) (xl)) (xl) (xan _)) (xj (xaz (xao (pv 0) T.c_j T.m_f (ok_f T) (hr.mono (by decide)) T.b_f .nil xm (xa (pv 4) (xa (pv 7) (xi)))))
   (xo (xaz (xeo PySem.F.plainAttrs_list PySem.F.slot_list_append PySem.F.type_list_append xbu (pv 2) (xa (xap (xa (pv 4) (xa (pv 7) (xi)))) (xi)))))) (xaa))))))))
   (xo (x4 (pv 2)))),?_⟩
  obtain ⟨pic,hdt,q⟩:=h
  obtain ⟨⟨dx,hp⟩,_,w1,w2,h1,h2,_⟩:=id pic
  refine ⟨(by show 0≤sizeLine; exact Nat.zero_le _),fun l hl=>?_⟩
  have sl:Same H (upd H l (.lst [])):=xp (Same.refl _) hl
  refine ⟨(by show 2≤sizeLine; decide),fun e0 he0=>?_⟩
  have se:Same (upd H l (.lst [])) (upd (upd H l (.lst [])) e0 (.lst [.str "left",.str "right"])):=xp (Same.refl _) he0
  have nle:l≠e0:=xk xb he0
  refine ⟨e0,_,rfl,SqL.of xb,?_⟩
  have Q0:=fun (b:Addr) (u:HO) (nb:b≠do_) (e:H b=some u)=>e
  refine xhd (xs:=[.str "left",.str "right"]) (Pv:=fun i σ H6=>∃ (v3 v4 v5 v6 v7:Option V) (ss:List Seat) (rs:List Addr),σ=[some (.ref a),some (.int c),some (.ref l),v3,v4,v5,v6,v7]∧(∀ b u,b≠do_→H b=some u→H6 b=some u)∧H6 e0=some (.lst [.str "left",.str "right"])∧Pic t H6 a dp do_ pw ph ps∧Sts H6 do_ ss∧SsOk ph ss∧ss.length≤i * 16∧(∀ s ∈ ss,Bef i 0 s)∧H6 l=some (.lst (rs.map V.ref))∧x6 H6 ss rs) ?_ ?_ ?_ ?_
  ·refine ⟨_,_,_,_,_,[],[],rfl,fun b u _ e=>se _ _ (sl _ _ e),xb,Pic.same se (Pic.same sl pic),⟨[],se _ _ (sl _ _ hdt),rfl,List.nodup_nil,Nat.zero_le _⟩,⟨List.nodup_nil,Nat.zero_le _,fun s hs=>(nomatch hs)⟩,Nat.zero_le _,fun s hs=>(nomatch hs),se _ _ xb,.nil⟩
  ·rintro i σ H6 hi ⟨v3,v4,v5,v6,v7,ss,rs,rfl,k6,he6,_⟩
   exact SqL.of he6
  ·rintro i x p σ H6 hx hp6 ⟨v3,v4,v5,v6,v7,ss,rs,rfl,k6,he6,pic6,st6,sok6,sle,sbef,hl6,sts6⟩
   have hi:i < 2:=by
    have:=(List.getElem?_eq_some_iff.mp hx).1
    simpa using this
   obtain ⟨sb,esb,isb⟩:∃ sb:Bool,x=.str (xx sb)∧(if sb then 0 else 1)=i:=by
    have:i=0∨i=1:=by omega
    rcases this with e | e <;> subst e
    ·exact ⟨true,(Option.some.inj hx).symm,rfl⟩
    ·exact ⟨false,(Option.some.inj hx).symm,rfl⟩
   subst esb
   have s7:Same H6 (upd H6 p (.tup [.int i,.str (xx sb)])):=xp (Same.refl _) hp6
   have g7:upd H6 p (.tup [.int i,.str (xx sb)]) p=some (.tup [.int i,.str (xx sb)]):=xb
   revert s7 g7
   generalize upd H6 p (.tup [.int i,.str (xx sb)])=H7
   intro s7 g7
   refine ⟨p,_,rfl,SqT.of g7,rfl,_,_,rfl,_,_,rfl,rfl,?_⟩
   refine ⟨_,rfl,_,rfl,c,_,rfl,(by omega),fun nr n0=>?_⟩
   refine ⟨_,rfl,_,_,rfl,rfl,⟨by decide,by decide⟩,_,_,rfl,rfl,(by show (0:Int) < 65536; decide),_,rfl,_,_,rfl,rfl,⟨by decide,by decide⟩,_,_,rfl,rfl,(by show (0:Int) < 65536; decide),(by show 4≤sizeLine; decide),fun q4 hq4=>?_⟩
   dsimp only
   have s8:Same H7 (upd H7 q4 (.lst [.int (nr / 8 % 65536),.int (nr / 8 % 65536),.int 65535,.int 0])):=xp (Same.refl _) hq4
   have g8:upd H7 q4 (.lst [.int (nr / 8 % 65536),.int (nr / 8 % 65536),.int 65535,.int 0]) q4=some (.lst [.int (nr / 8 % 65536),.int (nr / 8 % 65536),.int 65535,.int 0]):=xb
   revert s8 g8
   generalize upd H7 q4 (.lst [.int (nr / 8 % 65536),.int (nr / 8 % 65536),.int 65535,.int 0])=H8
   intro s8 g8
   have mb:=xau nr (show (0:Int) < 8 by decide)
   have ixb:0≤(if nr % 8 - 4 > 0 then nr % 8 - 4 else 0)∧(if nr % 8 - 4 > 0 then nr % 8 - 4 else 0) < 4:=by
    split <;> omega
   obtain ⟨bits,ebits⟩:=xm9 (a:=nr / 8 % 65536) (b:=nr / 8 % 65536) 65535 0 _ ixb.1 ixb.2
   refine ⟨_,rfl,_,_,rfl,rfl,(by show (0:Int) < 8; decide),_,_,rfl,rfl,_,_,rfl,q4,_,_,.int bits,rfl,rfl,SqL.of g8,ebits,?_⟩
   have s68:Same H6 H8:=s7.trans s8
   have pic8:=Pic.same s68 pic6
   obtain ⟨dx8,hp8⟩:=pic8.ins
   refine ⟨_,rfl,a,_,_,_,_,rfl,hp8,T.c_j,T.n_am,lkH,_,_,rfl,rfl,1,ph + 1,rfl,⟨by decide,by decide,by omega,by omega⟩,?_⟩
   refine xdb (Pv:=fun j σ H9=>∃ (v7:Option V) (s9:List Seat) (rs9:List Addr),σ=[some (.ref a),some (.int c),some (.ref l),some (.int i),some (.str (xx sb)),some (.int nr),some (.int bits),v7]∧(∀ b u,b≠do_→H b=some u→H9 b=some u)∧H9 e0=some (.lst [.str "left",.str "right"])∧Pic t H9 a dp do_ pw ph ps∧Sts H9 do_ s9∧SsOk ph s9∧s9.length≤i * 16 + j∧(∀ s ∈ s9,Bef i j s)∧H9 l=some (.lst (rs9.map V.ref))∧x6 H9 s9 rs9) ?_ ?_ ?_
   ·exact ⟨_,ss,rs,rfl,fun b u nb e=>s68 _ _ (k6 b u nb e),s68 _ _ he6,pic8,st6.same s68,sok6,by omega,sbef,s68 _ _ hl6,sts6.keep (Same.tups s68)⟩
   ·rintro j σ H9 hj ⟨v7,s9,rs9,rfl,k9,he9,pic9,st9,sok9,sle9,sbef9,hl9,sts9⟩
    have hj':(j:Int) < ph:=by omega
    obtain ⟨dx9,hp9⟩:=pic9.ins
    refine ⟨_,rfl,_,rfl,_,_,rfl,rfl,_,_,rfl,rfl,(by show (0:Int)≤1 + (j:Int) - 1; omega),_,_,rfl,rfl,rfl,_,rfl,ite2 (fun cb=>?_) (fun cb=>?_)⟩
    ·have nin:(sb,1 + (j:Int)) ∉ s9:=fun hm=>by
      rcases sbef9 _ hm with z | ⟨_,z⟩
      ·dsimp only at z
       omega
      ·dsimp only at z
       omega
     refine ⟨_,rfl,a,dx9,_,rfl,hp9,xav (by decide +kernel),_,rfl,_,rfl,?_⟩
     refine ⟨a,dp,do_,pw,ph,ps,s9,sb,1 + (j:Int),rfl,pic9,st9,by omega,by omega,nin,by omega,fun HA kA picA stA=>?_⟩
     obtain ⟨kvs,hk,_⟩:=id st9
     have hlA:=kA _ _ (x3 hl9 hk (fun z=>nomatch z)) hl9
     refine ⟨_,rfl,.inl ⟨rfl,_,SqL.of hlA⟩,_,rfl,_,rfl,(by show 2≤sizeLine; decide),fun r hr9=>?_⟩
     dsimp only
     have sB:Same HA (upd HA r (.tup [.str (xx sb),.int (1 + (j:Int))])):=xp (Same.refl _) hr9
     have gB:upd HA r (.tup [.str (xx sb),.int (1 + (j:Int))]) r=some (.tup [.str (xx sb),.int (1 + (j:Int))]):=xb
     revert sB gB
     generalize upd HA r (.tup [.str (xx sb),.int (1 + (j:Int))])=HB
     intro sB gB
     have hlB:=sB _ _ hlA
     have rl9:=sts9.len
     refine ⟨l,_,_,rfl,rfl,hlB,?_,?_⟩
     ·rw [List.length_map]
      exact Nat.lt_trans (by omega:rs9.length < 33) (by decide)
     have bt:∀ b u,b≠l→HB b=some u→upd HB l (.lst (rs9.map V.ref ++ [.ref r])) b=some u:=fun b u nb e=>by
      rw [xg nb]
      exact e
     have tA:Tups H9 HA:=fun b xs e=>kA _ _ (x3 e hk (fun z=>nomatch z)) e
     have tL:Tups HB (upd HB l (.lst (rs9.map V.ref ++ [.ref r]))):=fun b xs e=>bt _ _ (x3 e hlB (fun z=>nomatch z)) e
     refine ⟨_,s9 ++ [(sb,1 + (j:Int))],rs9 ++ [r],rfl,fun b u nb e=>bt _ _ (xk e hl) (sB _ _ (kA _ _ nb (k9 b u nb e))),?_,?_,?_,?_,?_,?_,?_,?_⟩
     ·refine bt _ _ (Ne.symm nle) (sB _ _ (kA _ _ (x3 he9 hk (fun z=>nomatch z)) he9))
     ·have picB:=Pic.same sB picA
      exact ⟨let ⟨d,e⟩:=picB.ins; ⟨d,bt _ _ (x3 e hlB (fun z=>nomatch z)) e⟩,let ⟨k,e,q⟩:=picB.pl; ⟨k,bt _ _ (x3 e hlB (fun z=>nomatch z)) e,q.keep tL⟩,picB.w1,picB.w2,picB.h1,picB.h2,picB.len⟩
     ·obtain ⟨k2,e2,r2⟩:=stA.same sB
      exact ⟨k2,bt _ _ (x3 e2 hlB (fun z=>nomatch z)) e2,r2⟩
     ·obtain ⟨nd,le,rw9⟩:=sok9
      refine ⟨?_,?_,fun s hs=>?_⟩
      ·rw [List.nodup_append]
       exact ⟨nd,by simp,fun x hx y hy e=>nin (by rw [List.mem_singleton.mp hy] at e; exact e ▸ hx)⟩
      ·rw [List.length_append]
       show s9.length + 1≤32
       omega
      ·rcases List.mem_append.mp hs with z | z
       ·exact rw9 s z
       ·rw [List.mem_singleton.mp z]
        exact ⟨by show 1≤1 + (j:Int); omega,by show 1 + (j:Int)≤ph; omega⟩
     ·rw [List.length_append]
      show s9.length + 1≤i * 16 + (j + 1)
      omega
     ·intro s hs
      rcases List.mem_append.mp hs with z | z
      ·rcases sbef9 s z with y | ⟨y1,y2⟩
       ·exact .inl y
       ·exact .inr ⟨y1,by omega⟩
      ·rw [List.mem_singleton.mp z]
       exact .inr ⟨isb,by show 1 + (j:Int)≤((j + 1:Nat):Int); omega⟩
     ·rw [xb,List.map_append]
      rfl
     ·exact x6.snoc (sts9.keep fun b xs e=>tL _ _ (sB _ _ (tA _ _ e))) (tL _ _ gB)
    ·refine ⟨_,s9,rs9,rfl,k9,he9,pic9,st9,sok9,by omega,fun s hs=>?_,hl9,sts9⟩
     rcases sbef9 s hs with y | ⟨y1,y2⟩
     ·exact .inl y
     ·exact .inr ⟨y1,by omega⟩
   ·rintro σ H9 ⟨v7,s9,rs9,rfl,k9,he9,pic9,st9,sok9,sle9,sbef9,hl9,sts9⟩
    refine ⟨_,_,_,_,_,s9,rs9,rfl,k9,he9,pic9,st9,sok9,by omega,fun s hs=>?_,hl9,sts9⟩
    rcases sbef9 s hs with y | ⟨y1,y2⟩
    ·exact .inl (by omega)
    ·exact .inl (by omega)
  ·rintro σ H6 ⟨v3,v4,v5,v6,v7,ss,rs,rfl,k6,he6,pic6,st6,sok6,sle,sbef,hl6,sts6⟩
   exact ⟨_,rfl,q H6 l ss rs k6 hl pic6 st6 sok6 hl6 sts6⟩
end
end S53
set_option maxRecDepth 100000
set_option maxHeartbeats 4000000
namespace S53
open PySem L2 XL PyProof.Rows
theorem xk7 (qs:List Addr) {k:Nat} (c:k≤qs.length):cutV (qs.map V.ref) (some (k:Int)) none=(qs.drop k).map V.ref:=by
 unfold cutV
 rw [HT.sIx_nat,HT.sIx_none,List.length_map,← List.map_drop,← List.map_take,Nat.min_eq_left c,List.take_of_length_le (by simp)]
theorem xj9 (qs:List Addr) {k:Nat} (c:k≤qs.length):cutV (qs.map V.ref) none (some (k:Int))=(qs.take k).map V.ref:=by
 unfold cutV
 rw [HT.sIx_nat,HT.sIx_none,List.length_map,← List.map_drop,← List.map_take,Nat.min_eq_left c]
 simp
theorem PrsL.append {H:Hp} {ps ps':List Pr} {qs qs':List Addr} (h:PrsL H ps qs) (h':PrsL H ps' qs'):PrsL H (ps ++ ps') (qs ++ qs'):=by
 induction h with
 | nil=>exact h'
 | cons h _ ih=>exact .cons h ih
theorem PrsL.take {H:Hp} {ps:List Pr} {qs:List Addr} (h:PrsL H ps qs) (k:Nat):PrsL H (ps.take k) (qs.take k):=by
 induction h generalizing k with
 | nil=>simpa using PrsL.nil
 | cons h r ih =>
  cases k with
  | zero=>exact .nil
  | succ k=>exact .cons h (ih k)
theorem PrsL.rev {H:Hp} {ps:List Pr} {qs:List Addr} (h:PrsL H ps qs):PrsL H ps.reverse qs.reverse:=by
 induction h with
 | nil=>exact .nil
 | cons h r ih =>
  rw [List.reverse_cons,List.reverse_cons]
  exact ih.append (.cons h .nil)
theorem xde {α:Type} (l:List α) (k:Nat):(l.drop k ++ (l.take k).reverse).Perm l :=
 (List.perm_append_comm.trans ((List.reverse_perm _).append_right _)).trans (by rw [List.take_append_drop])
theorem xi3 {ps:List Pt} (nd:(ps.map (·.nm)).Nodup) {p:Pt} (h:p ∈ ps):ps.find? (fun z=>decide (z.nm=p.nm))=some p:=by
 induction ps with
 | nil=>cases h
 | cons q ps ih =>
  rw [List.map_cons,List.nodup_cons] at nd
  rcases List.mem_cons.mp h with rfl | z
  ·exact List.find?_cons_of_pos (by simp)
  ·rw [List.find?_cons_of_neg]
   ·exact ih nd.2 z
   ·intro e
    exact nd.1 (List.mem_map.mpr ⟨p,z,(of_decide_eq_true e).symm⟩)
theorem xdy {H:Hp} {ss:List Seat}:∀ {ys:List V},(∀ y ∈ ys,∃ s q,s ∈ ss∧y=.ref q∧H q=some (.tup (xbk s)))→∃ s8 rs8,ys=rs8.map V.ref∧x6 H s8 rs8∧∀ s ∈ s8,s ∈ ss
 | [],_=>⟨[],[],rfl,.nil,fun s h=>nomatch h⟩
 | y :: ys,h=>by
  obtain ⟨s,q,h1,h2,h3⟩:=h y List.mem_cons_self
  obtain ⟨s8,rs8,e1,e2,e3⟩:=xdy (ys:=ys) fun y' hy=>h y' (List.mem_cons_of_mem _ hy)
  refine ⟨s :: s8,q :: rs8,by rw [e1,h2]; rfl,.cons h3 e2,fun s' hs'=>?_⟩
  rcases List.mem_cons.mp hs' with rfl | z
  ·exact h1
  ·exact e3 _ z
def xff (ss ts:List Seat) (pt:Pt) (i:Nat):Bool:=match ss[i]? with | some s=>!decide (s ∈ ts) && mayB ss pt s | none=>false
theorem xbo {ss ts:List Seat} {pt:Pt} {i:Nat} {s:Seat} (h:ss[i]?=some s):xff ss ts pt i=(!decide (s ∈ ts) && mayB ss pt s):=by
 unfold xff
 rw [h]
theorem xk6 {rs:List Addr} {m:Int} (h:0 < rs.length):∃ (j:Nat) (q:Addr),rs[j]?=some q∧m % (rs.length:Int)=(j:Int)∧j < rs.length∧atI (rs.map V.ref) (m % (rs.length:Int))=some (.ref q):=by
 obtain ⟨a,b⟩:=xau m (show (0:Int) < (rs.length:Int) by omega)
 obtain ⟨j,hj⟩:=Int.eq_ofNat_of_zero_le a
 rw [hj] at b ⊢
 have lt:j < rs.length:=by omega
 exact ⟨j,rs[j],List.getElem?_eq_getElem lt,rfl,lt,xf3 (by rw [List.getElem?_map,List.getElem?_eq_getElem lt]; rfl)⟩
def xnn:Sp:=fun vs H Q _=>∃ (d ls:Addr) (c w h:Int) (ps:List Pt) (kvs:List (Key × V)) (ss:List Seat) (rs:List Addr),vs=[.ref d,.ref ls,.int c]∧(H d=some (.dK kvs)∨∃ ob,H d=some (.frz ob (.dK kvs)))∧Lp H ps kvs∧ps.length≤12∧xdc w h ps∧H ls=some (.lst (rs.map V.ref))∧x6 H ss rs∧SsOk h ss ∧
 ∀ ob H' l prs qs,Same (upd H d (.frz ob (.dK kvs))) H'→H' l=some (.lst (qs.map V.ref))→PrsL H' prs qs→(∀ p ∈ prs,PrOk ps w h p)→prs.length≤12→(∀ p ∈ prs,p.2 ∈ ss)→(prs.map (·.1.nm)).Nodup→(prs.map (·.2)).Nodup→Q (.ref l) H'
section
variable {P:Program} {w:World} {K:PySem.W.Frag} {mg:Str→Option Value} {base:Heap} {t:Adr}
theorem ok_ab (T:Txt w K mg t):FnOk true P w K mg base (CXo P w) 3 t.f_ab t.d_ab ["_law_points", "_law_seats", "_law_cell_here"] (xnn):=by
 refine T.F_ab.okn (k:=2) sc_ab (fun vs H Q E h=>?_) (fun cdv A outer s H vs Q E hr h=>?_)
 ·obtain ⟨d,ls,c,w,h,ps,kvs,ss,rs,rfl,_⟩:=h
  rfl
 ·obtain ⟨d,ls,c,w,h,ps,kvs,ss,rs,rfl,h⟩:=h
  refine ⟨_,xj (x8 (i:=3) sc_ab.nd rfl (Or.inl rfl) (xbq (xi)))
   (xj (x8 (i:=4) sc_ab.nd rfl (Or.inr rfl) (xbq (xi)))
   (xj (xbl PassesOwn.never rfl (xmc rfl T.n_enumerate (xa (pv 0) (xi))) (xa3 rfl (xu (xq (i:=5) sc_ab.nd rfl (Or.inl rfl)) (xu (xq (i:=6) sc_ab.nd rfl (Or.inr rfl)) (xas)))) (xj (x8 (i:=7) sc_ab.nd rfl (Or.inl rfl) (xz (ok_n T) (hr.mono (by decide)) rfl T.g_n T.F_n.kp T.b_n .nil xm (xa (pv 2) (xa (xt xah (xl) (pv 5)) (xi)))))
   (xj (xd1 rfl (xay (zs:=["_law_seat"]) (ys:=["_law_taken", "_law_points", "_law_seats", "_law_name"]) (fr:=[4,0,1,6]) (N0:=["_law_points", "_law_seats", "_law_cell_here", "_law_pairs", "_law_taken", "_law_k", "_law_name", "_law_number", "_law_some", "_law_seat", "_law_turn"]) (sc0:=xh s_ab) (by decide +kernel) rfl rfl rfl) (xax (pv 1)) (fun _ _ _ _ _ ow nd=>xq (i:=0) nd rfl (Or.inl (ow _ (by simp))) (Or.inr (ow _ (by simp)))) (xa2 (by decide)) (fun _ _ _ _ _=>xir (PW.pt (xhv (xag (r:=rInV K true) (xlq (xdh hr)) (pv 0) (pv 1) (by rfl)) (xfz (xa9 (xz (ok_al T) (hr.mono (by decide)) rfl T.g_al T.F_al.kp T.b_al .nil xm (xa (pv 2) (xa (pv 3) (xa (pv 4) (xa (xaf (r:=rIxT K) xbd (pv 0) (xl) (fun _ _=>rfl)) (xa (xaf (r:=rIxT K) xbd (pv 0) (xl) (fun _ _=>rfl)) (xi)))))))))))) (fun _ _ _ _ _=>pv 0) (j:=8) rfl (Or.inl rfl))
   (xo (xfm (xal (PW.pt (xhv (xag (xhf (xdh hr)) (pv 8) (xbq (xi)) (xan _)) (xfz (xag xjj (xt xar (pv 7) (xl)) (xl) (xan _))))) (xj (x8 (i:=9) sc_ab.nd rfl (Or.inl rfl) (xaf xaq (pv 8) (xt xar (xt xcx (pv 7) (xl)) (xae xbx rfl T.n_len boot_len (xa (pv 8) (xi)))) (fun _ _=>rfl)))
   (xj (xaz (xeo PySem.F.plainAttrs_list PySem.F.slot_list_append PySem.F.type_list_append xbu (pv 4) (xa (pv 9) (xi))))
   (xo (xaz (xeo PySem.F.plainAttrs_list PySem.F.slot_list_append PySem.F.type_list_append xbu (pv 3) (xa (xap (xa (pv 6) (xa (xaf xbd (pv 9) (xl) (fun _ _=>rfl)) (xa (xaf xbd (pv 9) (xl) (fun _ _=>rfl)) (xi))))) (xi))))))) (xaa)))))))
   (xj (x8 (i:=10) sc_ab.nd rfl (Or.inl rfl) (xt xar (xz (ok_n T) (hr.mono (by decide)) rfl T.g_n T.F_n.kp T.b_n .nil xm (xa (pv 2) (xa (xl) (xi)))) (xt xah (xae xbx rfl T.n_len boot_len (xa (pv 3) (xi))) (xl))))
   (xo (x4 (xt xkc (xci xfu (pv 3) (xcy (pv 10)) xcw) (xjt rfl rfl T.n_list rfl T.n_reversed (xa (xci xfu (pv 3) xcw (xcy (pv 10))) (xi))))))))),?_⟩
  obtain ⟨hd,lp,p6,pok,hls,sl,sok,q⟩:=h
  rcases hd with hd | ⟨ob,hd⟩
  ·have rl:=sl.len
   have sl32:=sok.2.1
   refine ⟨(by show 0≤sizeLine; exact Nat.zero_le _),fun lq hlq=>?_⟩
   have s1:Same H (upd H lq (.lst [])):=xp (Same.refl _) hlq
   have g1:upd H lq (.lst []) lq=some (.lst []):=xb
   revert s1 g1
   generalize upd H lq (.lst [])=H1
   intro s1 g1
   refine ⟨(by show 0≤sizeLine; exact Nat.zero_le _),fun lt hlt=>?_⟩
   have s2:Same H1 (upd H1 lt (.lst [])):=xp (Same.refl _) hlt
   have g2:upd H1 lt (.lst []) lt=some (.lst []):=xb
   revert s2 g2
   generalize upd H1 lt (.lst [])=H2
   intro s2 g2
   have hd2:=s2 _ _ (s1 _ _ hd)
   have nlt:lt≠lq:=Ne.symm (xk g1 hlt)
   have flt:H lt=none:=s1.free hlt
   have dq:lq≠d:=fun z=>by rw [← z,hlq] at hd; cases hd
   have dt:lt≠d:=fun z=>by rw [← z,flt] at hd; cases hd
   refine ⟨_,rfl,d,kvs,rfl,.inl ⟨hd2,fun ob=>?_⟩⟩
   obtain ⟨B0,eB0⟩:∃ B0,B0=upd H d (.frz ob (.dK kvs)):=⟨_,rfl⟩
   have nq:B0 lq=none:=by rw [eB0,xg dq]; exact hlq
   have nt:B0 lt=none:=by rw [eB0,xg dt]; exact flt
   have b0:∀ b u,b≠d→H b=some u→B0 b=some u:=fun b u nb e=>by rw [eB0,xg nb]; exact e
   have hdB:B0 d=some (.frz ob (.dK kvs)):=by rw [eB0]; exact xb
   have lpB:Lp B0 ps kvs:=Lp.keepL (fun b xs e=>b0 _ _ (x3 e hd (fun z=>nomatch z)) e) lp
   have hlsB:=b0 _ _ (x3 hls hd (fun z=>nomatch z)) hls
   have slB:x6 B0 ss rs:=sl.keep fun b xs e=>b0 _ _ (x3 e hd (fun z=>nomatch z)) e
   have pdB:PD B0 d ps:=⟨kvs,.inr ⟨ob,hdB⟩,lpB⟩
   have s3:Same B0 (upd H2 d (.frz ob (.dK kvs))):=fun b u e=>by
    by_cases c:b=d
    ·subst c
     rw [xb,← hdB]
     exact e
    ·rw [eB0,xg c] at e
     rw [xg c]
     exact s2 _ _ (s1 _ _ e)
   refine xgk (Pv:=fun i σ H5=>∃ (v5 v6 v7 v8 v9:Option V) (prs:List Pr) (qs:List Addr) (ts:List Seat) (tq:List Addr),σ=[some (.ref d),some (.ref ls),some (.int c),some (.ref lq),some (.ref lt),v5,v6,v7,v8,v9,none]∧Same B0 H5∧H5 lq=some (.lst (qs.map V.ref))∧PrsL H5 prs qs∧(∀ p ∈ prs,PrOk ps w h p)∧prs.length≤i∧H5 lt=some (.lst (tq.map V.ref))∧x6 H5 ts tq∧ts.length≤i∧ts=prs.map (·.2)∧ts.Nodup∧(prs.map (·.1.nm)).Nodup∧(∀ p ∈ prs,p.2 ∈ ss)∧∀ p ∈ prs,∃ k,k < i∧ps[k]?=some p.1) ?_ (fun _ _ _ _ ⟨_,_,_,_,_,_,_,_,_,_,z,_⟩=>z _ _ hdB) ?_ ?_
   ·refine ⟨_,_,_,_,_,[],[],[],[],rfl,s3,?_,.nil,fun p hp=>(nomatch hp),Nat.le_refl _,?_,.nil,Nat.le_refl _,rfl,List.nodup_nil,List.nodup_nil,fun p hp=>(nomatch hp),fun p hp=>(nomatch hp)⟩
    ·rw [xg dq]
     exact s2 _ _ g1
    ·rw [xg dt]
     exact g2
   ·rintro i k x p5 σ H5 hkx hp5 ⟨v5,v6,v7,v8,v9,prs,qs,ts,tq,rfl,s5,hq5,pr5,ok5,le5,ht5,ts5,tl5,te5,tn5,nn5,in5,ix5⟩
    obtain ⟨pt,o,e1,rfl,rfl,e3⟩:=lpB.get hkx
    have ilt:=(List.getElem?_eq_some_iff.mp e1).1
    have mpt:=List.mem_of_getElem? e1
    have fd:=xi3 pok.nn mpt
    have okp:=pok.ok _ mpt
    have ql5:=pr5.len
    have tl5':=ts5.len
    rw [show kV (Sum.inr pt.nm)=V.str pt.nm from rfl]
    have s6:Same H5 (upd H5 p5 (.tup [.int i,.str pt.nm])):=xp (Same.refl _) hp5
    have g6:upd H5 p5 (.tup [.int i,.str pt.nm]) p5=some (.tup [.int i,.str pt.nm]):=xb
    revert s6 g6
    generalize upd H5 p5 (.tup [.int i,.str pt.nm])=H6
    intro s6 g6
    refine ⟨p5,_,rfl,SqT.of g6,rfl,_,_,rfl,_,_,rfl,rfl,?_⟩
    refine ⟨_,rfl,_,rfl,_,_,rfl,rfl,c,_,rfl,(by omega),fun nr n0=>?_⟩
    have s56:=s5.trans s6
    have hls6:=s56 _ _ hlsB
    have sl6:=slB.keep (Same.tups s56)
    have ts6:=ts5.keep (Same.tups s6)
    have ht6:=s6 _ _ ht5
    refine ⟨_,rfl,ls,rfl,⟨_,SqL.of hls6⟩,fun l8 hl8=>?_⟩
    refine xdz (SqL.of hls6) (by rw [List.length_map]; exact Nat.lt_trans (by omega:rs.length < 33) (by decide)) hl8 (xff ss ts pt) (fun i y H=>∃ s q,ss[i]?=some s∧y=.ref q∧H q=some (.tup (xbk s))) (fun i y H H' tp ⟨s,q,a1,a2,a3⟩=>⟨s,q,a1,a2,tp _ _ a3⟩) (fun i x H7 hx s7 N M hN hM=>?_) (fun ys H7 s7 el7 ly f7=>?_)
    ·rw [List.getElem?_map] at hx
     obtain ⟨o,ho,rfl⟩:=Option.map_eq_some_iff.mp hx
     obtain ⟨s0,hs0,es0⟩:=(sl6.keep (Same.tups s7)).get ho
     have s67:=s56.trans s7
     refine ⟨_,rfl,_,rfl,1,2,xbc s0,ts.map xbc,xem es0,(ts6.keep (Same.tups s7)).dv (s7 _ _ ht6),by decide,by decide,_,rfl,ite2 (fun c1=>?_) (fun c1=>?_)⟩
     ·rw [if_pos rfl,xck] at c1
      refine ⟨_,rfl,_,rfl,_,rfl,_,rfl,o,_,0,_,rfl,rfl,SqT.of es0,rfl,_,rfl,o,_,1,_,rfl,rfl,SqT.of es0,rfl,d,ls,ps,ss,rs,pt,s0.1,s0.2,rfl,pdB.same s67,fd,s67 _ _ hlsB,slB.keep (Same.tups s67),fun H8 s8=>?_⟩
      refine ⟨_,rfl,ite2 (fun c2=>?_) (fun c2=>?_)⟩
      ·exact ⟨_,rfl,hN _ _ s8 (by rw [xbo hs0,c1,c2]; rfl) ⟨s0,o,hs0,rfl,s8 _ _ es0⟩⟩
      ·exact hM _ s8 (by rw [xbo hs0,Bool.eq_false_iff.mpr c2,Bool.and_false])
     ·rw [if_pos rfl,xck] at c1
      exact iteF (hM _ (Same.refl _) (by rw [xbo hs0,Bool.eq_false_iff.mpr c1,Bool.false_and]))
    obtain ⟨s8,rs8,rfl,sl8,mem8'⟩:=xdy (H:=H7) (ss:=ss.filter fun s=>decide (s ∉ ts)) (ys:=ys) fun y hy=>by
     obtain ⟨j,hj⟩:=List.mem_iff_getElem?.mp hy
     have lj:=(List.getElem?_eq_some_iff.mp hj).1
     rw [ly] at lj
     obtain ⟨s,q,a1,a2,a3⟩:=f7 j y _ hj (List.getElem?_eq_getElem lj)
     have fr:=(List.mem_filter.mp (List.mem_of_getElem? (List.getElem?_eq_getElem lj))).2
     rw [xbo a1] at fr
     exact ⟨s,q,List.mem_filter.mpr ⟨List.mem_of_getElem? a1,by simpa using (Bool.and_eq_true_iff.mp fr).1⟩,a2,a3⟩
    have mem8:∀ s ∈ s8,s ∈ ss:=fun s hs=>(List.mem_filter.mp (mem8' s hs)).1
    have rl8:=sl8.len
    have s57:=s56.trans s7
    have hq7:=s7 _ _ (s6 _ _ hq5)
    have ht7:=s7 _ _ ht6
    have pr7:=(pr5.keep (Same.tups s6)).keep (Same.tups s7)
    have ts7:=ts6.keep (Same.tups s7)
    refine ⟨_,?_,fun _ _ z=>z⟩
    refine ⟨_,rfl,(by show 0≤sizeLine; exact Nat.zero_le _),fun l9 hl9=>?_⟩
    have s9:Same H7 (upd H7 l9 (.lst [])):=xp (Same.refl _) hl9
    have g9:upd H7 l9 (.lst []) l9=some (.lst []):=xb
    revert s9 g9
    generalize upd H7 l9 (.lst [])=H9
    intro s9 g9
    have s59:=s57.trans s9
    have no:∀ Hx,Same H9 Hx→∃ (w5 w6 w7 w8 w9:Option V) (prs:List Pr) (qs:List Addr) (ts:List Seat) (tq:List Addr),[some (V.ref d),some (V.ref ls),some (V.int c),some (V.ref lq),some (V.ref lt),some (.int i),some (.str pt.nm),some (.int nr),some (.ref l8),v9,none]=[some (V.ref d),some (V.ref ls),some (V.int c),some (V.ref lq),some (V.ref lt),w5,w6,w7,w8,w9,none]∧Same B0 Hx∧Hx lq=some (.lst (qs.map V.ref))∧PrsL Hx prs qs∧(∀ p ∈ prs,PrOk ps w h p)∧prs.length≤i + 1∧Hx lt=some (.lst (tq.map V.ref))∧x6 Hx ts tq∧ts.length≤i + 1∧ts=prs.map (·.2)∧ts.Nodup∧(prs.map (·.1.nm)).Nodup∧(∀ p ∈ prs,p.2 ∈ ss)∧∀ p ∈ prs,∃ k,k < i + 1∧ps[k]?=some p.1:=fun Hx sx =>
     ⟨_,_,_,_,_,prs,qs,ts,tq,rfl,s59.trans sx,sx _ _ (s9 _ _ hq7),(pr7.keep (Same.tups s9)).keep (Same.tups sx),ok5,by omega,sx _ _ (s9 _ _ ht7),(ts7.keep (Same.tups s9)).keep (Same.tups sx),by omega,te5,tn5,nn5,in5,fun p hp=>let ⟨k,a1,a2⟩:=ix5 p hp; ⟨k,by omega,a2⟩⟩
    refine ⟨2,1,.lst (s8.map xbc),.lst [],(sl8.keep (Same.tups s9)).dv (s9 _ _ el7),.lst (SqL.of g9) rfl (fun j x d h1 h2=>by simp at h1),by decide,by decide,_,rfl,ite2 (fun c1=>?_) (fun c1=>?_)⟩
    ·have n8:0 < rs8.length:=by
      rcases Nat.eq_zero_or_pos rs8.length with z | z
      ·rw [rl8] at z
       have e:=List.eq_nil_of_length_eq_zero z
       rw [e] at c1
       exact absurd c1 (by decide)
      ·exact z
     refine ⟨_,rfl,_,_,rfl,rfl,(by show (0:Int) < 7; decide),_,_,rfl,rfl,_,rfl,ite2 (fun c2=>?_) (fun c2=>?_)⟩
     ·obtain ⟨j,qa,hja,_,_,atj⟩:=xk6 (m:=nr / 7) n8
      obtain ⟨sa,hsa,eqa⟩:=(sl8.keep (Same.tups s9)).get hja
      have msa:=mem8 _ (List.mem_of_getElem? hsa)
      have fsa:sa ∉ ts:=of_decide_eq_true (List.mem_filter.mp (mem8' _ (List.mem_of_getElem? hsa))).2
      obtain ⟨sr1,sr2⟩:=sok.2.2 sa msa
      refine ⟨_,rfl,_,rfl,_,_,rfl,rfl,⟨by decide,by decide⟩,_,rfl,l8,_,rfl,.inl (SqL.of (s9 _ _ el7)),_,_,rfl,rfl,(by rw [List.length_map]; omega),l8,_,_,.ref qa,rfl,rfl,SqL.of (s9 _ _ el7),(by rw [List.length_map]; exact atj),?_⟩
      have ht9:=s9 _ _ ht7
      have hq9:=s9 _ _ hq7
      refine ⟨_,rfl,.inl ⟨rfl,_,SqL.of ht9⟩,_,rfl,lt,_,_,rfl,rfl,ht9,?_,?_⟩
      ·rw [List.length_map]
       exact Nat.lt_trans (by omega:tq.length < 13) (by decide)
      have bt:∀ b u,b≠lt→H9 b=some u→upd H9 lt (.lst (tq.map V.ref ++ [.ref qa])) b=some u:=fun b u nb e=>by rw [xg nb]; exact e
      have eqa2:=bt _ _ (x3 eqa ht9 (fun z=>nomatch z)) eqa
      have hqA:=bt _ _ (Ne.symm nlt) hq9
      refine ⟨_,rfl,.inl ⟨rfl,_,SqL.of hqA⟩,_,rfl,_,rfl,qa,_,0,_,rfl,rfl,SqT.of eqa2,rfl,_,rfl,qa,_,1,_,rfl,rfl,SqT.of eqa2,rfl,(by show 3≤sizeLine; decide),fun pb hpb=>?_⟩
      have fpb:H9 pb=none:=by
       cases e:H9 pb with
       | none=>rfl
       | some u =>
        by_cases z:pb=lt
        ·rw [z,xb] at hpb; cases hpb
        ·rw [xg z,e] at hpb; cases hpb
      have nbt:lt≠pb:=fun z=>by rw [← z,xb] at hpb; cases hpb
      have nbq:lq≠pb:=xk hqA hpb
      have sB:=xp (o:=.tup [.str pt.nm,.str (xx sa.1),.int sa.2]) (Same.refl _) hpb
      refine ⟨lq,_,_,rfl,rfl,sB _ _ hqA,?_,?_⟩
      ·rw [List.length_map]
       exact Nat.lt_trans (by omega:qs.length < 13) (by decide)
      have up:∀ b u,b≠lt→b≠lq→H9 b=some u→upd (upd (upd H9 lt (.lst (tq.map V.ref ++ [.ref qa]))) pb (.tup [.str pt.nm,.str (xx sa.1),.int sa.2])) lq (.lst (qs.map V.ref ++ [.ref pb])) b=some u:=fun b u n1 n2 e=>by
       rw [xg n2]
       exact sB _ _ (bt _ _ n1 e)
      have upT:Tups H9 (upd (upd (upd H9 lt (.lst (tq.map V.ref ++ [.ref qa]))) pb (.tup [.str pt.nm,.str (xx sa.1),.int sa.2])) lq (.lst (qs.map V.ref ++ [.ref pb]))):=fun b xs e=>up _ _ (x3 e ht9 (fun z=>nomatch z)) (x3 e hq9 (fun z=>nomatch z)) e
      refine ⟨_,_,_,_,_,prs ++ [(pt,sa)],qs ++ [pb],ts ++ [sa],tq ++ [qa],rfl,fun b u e=>up _ _ (xk e nt) (xk e nq) (s59 _ _ e),?_,?_,fun p hp=>?_,?_,?_,?_,?_,by rw [te5,List.map_append]; rfl,?_,?_,fun p hp=>(List.mem_append.mp hp).elim (in5 p) (fun z=>by rw [List.mem_singleton.mp z]; exact msa),fun p hp=>?_⟩
      ·rw [xb,List.map_append]
       rfl
      ·refine PrsL.snoc ((pr7.keep (Same.tups s9)).keep upT) ?_
       rw [xg (Ne.symm nbq)]
       exact xb
      ·rcases List.mem_append.mp hp with z | z
       ·exact ok5 p z
       ·rw [List.mem_singleton.mp z]
        exact ⟨okp.nm,fd,sr1,sr2,okp.x1,okp.x2,okp.y1,okp.y2⟩
      ·rw [List.length_append]
       show prs.length + 1≤i + 1
       omega
      ·rw [xg nlt,xg nbt,xb,List.map_append]
       rfl
      ·exact x6.snoc ((ts7.keep (Same.tups s9)).keep upT) (upT _ _ eqa)
      ·rw [List.length_append]
       show ts.length + 1≤i + 1
       omega
      ·rw [List.nodup_append]
       refine ⟨tn5,by simp,fun a ha b hb e=>?_⟩
       rw [List.mem_singleton.mp hb] at e
       subst e
       exact fsa ha
      ·rw [List.map_append,List.nodup_append]
       refine ⟨nn5,by simp,fun a ha b hb e=>?_⟩
       obtain ⟨p,hp,rfl⟩:=List.mem_map.mp ha
       have hb':b=pt.nm:=by simpa using hb
       obtain ⟨k,a1,a2⟩:=ix5 p hp
       have z:=xim (·.nm) pok.nn ilt p.1 (List.mem_of_getElem? (by rw [List.getElem?_take_of_lt a1]; exact a2))
       rw [List.getElem?_eq_getElem ilt] at e1
       cases e1
       exact z (e.trans hb')
      ·rcases List.mem_append.mp hp with z | z
       ·obtain ⟨k,a1,a2⟩:=ix5 p z
        exact ⟨k,by omega,a2⟩
       ·rw [List.mem_singleton.mp z]
        exact ⟨i,by omega,e1⟩
     ·exact no _ (Same.refl _)
    ·exact iteF (no _ (Same.refl _))
   ·rintro σ H5 ⟨v5,v6,v7,v8,v9,prs,qs,ts,tq,rfl,s5,hq5,pr5,ok5,le5,ht5,ts5,tl5,te5,tn5,nn5,in5,ix5⟩
    have ql5:=pr5.len
    rw [lp.len] at le5
    refine ⟨_,rfl,c,0,rfl,by decide,fun m m0=>⟨_,rfl,lq,_,rfl,.inl (SqL.of hq5),_,_,rfl,rfl,_,_,rfl,rfl,(by show (0:Int) < ((qs.map V.ref).length:Int) + 1; omega),?_⟩⟩
    dsimp only
    obtain ⟨a1,a2⟩:=xau m (show (0:Int) < ((qs.map V.ref).length:Int) + 1 by omega)
    obtain ⟨tn,htn⟩:=Int.eq_ofNat_of_zero_le a1
    rw [htn] at a2 ⊢
    have tle:tn≤qs.length:=by
     rw [List.length_map] at a2
     omega
    refine ⟨_,rfl,_,rfl,(tn:Int),rfl,lq,_,rfl,SqL.of hq5,fun pa hpa=>?_⟩
    rw [xk7 qs tle] at *
    have s6:Same H5 (upd H5 pa (.lst ((qs.drop tn).map V.ref))):=xp (Same.refl _) hpa
    have g6:upd H5 pa (.lst ((qs.drop tn).map V.ref)) pa=some (.lst ((qs.drop tn).map V.ref)):=xb
    revert s6 g6
    generalize upd H5 pa (.lst ((qs.drop tn).map V.ref))=H6
    intro s6 g6
    have hq6:=s6 _ _ hq5
    refine ⟨_,rfl,_,rfl,(tn:Int),rfl,lq,_,rfl,SqL.of hq6,fun pb hpb=>?_⟩
    rw [xj9 qs tle] at *
    have s7:Same H6 (upd H6 pb (.lst ((qs.take tn).map V.ref))):=xp (Same.refl _) hpb
    have g7:upd H6 pb (.lst ((qs.take tn).map V.ref)) pb=some (.lst ((qs.take tn).map V.ref)):=xb
    revert s7 g7
    generalize upd H6 pb (.lst ((qs.take tn).map V.ref))=H7
    intro s7 g7
    refine ⟨pb,_,rfl,SqL.of g7,fun pc hpc=>?_⟩
    rw [← List.map_reverse] at *
    have s8:Same H7 (upd H7 pc (.lst ((qs.take tn).reverse.map V.ref))):=xp (Same.refl _) hpc
    have g8:upd H7 pc (.lst ((qs.take tn).reverse.map V.ref)) pc=some (.lst ((qs.take tn).reverse.map V.ref)):=xb
    revert s8 g8
    generalize upd H7 pc (.lst ((qs.take tn).reverse.map V.ref))=H8
    intro s8 g8
    have s58:=(s6.trans s7).trans s8
    have pm:=xde prs tn
    have pq:=xde qs tn
    have plen:=pm.length_eq
    have qlen:=pq.length_eq
    rw [List.length_append] at qlen
    refine ⟨pa,pc,_,_,rfl,rfl,s8 _ _ (s7 _ _ g6),g8,?_,fun pd hpd=>?_⟩
    ·rw [List.length_map,List.length_map,qlen]
     exact Nat.le_trans (by omega:qs.length≤12) (by decide)
    rw [← List.map_append]
    have s9:=xp (o:=.lst ((qs.drop tn ++ (qs.take tn).reverse).map V.ref)) (Same.refl _) hpd
    have pr8:=pr5.keep (Same.tups s58)
    refine q ob _ pd (prs.drop tn ++ (prs.take tn).reverse) (qs.drop tn ++ (qs.take tn).reverse) ?_ xb (((pr8.drop tn).append (pr8.take tn).rev).keep (Same.tups s9)) (fun p hp=>ok5 p (pm.mem_iff.mp hp)) (by omega) (fun p hp=>in5 p (pm.mem_iff.mp hp)) ((pm.map _).nodup_iff.mpr nn5) ((pm.map _).nodup_iff.mpr (te5 ▸ tn5))
    rw [← eB0]
    exact (s5.trans s58).trans s9
  ·have rl:=sl.len
   have sl32:=sok.2.1
   refine ⟨(by show 0≤sizeLine; exact Nat.zero_le _),fun lq hlq=>?_⟩
   have s1:Same H (upd H lq (.lst [])):=xp (Same.refl _) hlq
   have g1:upd H lq (.lst []) lq=some (.lst []):=xb
   revert s1 g1
   generalize upd H lq (.lst [])=H1
   intro s1 g1
   refine ⟨(by show 0≤sizeLine; exact Nat.zero_le _),fun lt hlt=>?_⟩
   have s2:Same H1 (upd H1 lt (.lst [])):=xp (Same.refl _) hlt
   have g2:upd H1 lt (.lst []) lt=some (.lst []):=xb
   revert s2 g2
   generalize upd H1 lt (.lst [])=H2
   intro s2 g2
   have hd2:=s2 _ _ (s1 _ _ hd)
   have nlt:lt≠lq:=Ne.symm (xk g1 hlt)
   have flt:H lt=none:=s1.free hlt
   have dq:lq≠d:=fun z=>by rw [← z,hlq] at hd; cases hd
   have dt:lt≠d:=fun z=>by rw [← z,flt] at hd; cases hd
   refine ⟨_,rfl,d,kvs,rfl,.inr ⟨ob,hd2,?_⟩⟩
   obtain ⟨B0,eB0⟩:∃ B0,B0=upd H d (.frz ob (.dK kvs)):=⟨_,rfl⟩
   have nq:B0 lq=none:=by rw [eB0,xg dq]; exact hlq
   have nt:B0 lt=none:=by rw [eB0,xg dt]; exact flt
   have b0:∀ b u,b≠d→H b=some u→B0 b=some u:=fun b u nb e=>by rw [eB0,xg nb]; exact e
   have hdB:B0 d=some (.frz ob (.dK kvs)):=by rw [eB0]; exact xb
   have lpB:Lp B0 ps kvs:=Lp.keepL (fun b xs e=>b0 _ _ (x3 e hd (fun z=>nomatch z)) e) lp
   have hlsB:=b0 _ _ (x3 hls hd (fun z=>nomatch z)) hls
   have slB:x6 B0 ss rs:=sl.keep fun b xs e=>b0 _ _ (x3 e hd (fun z=>nomatch z)) e
   have pdB:PD B0 d ps:=⟨kvs,.inr ⟨ob,hdB⟩,lpB⟩
   have s3:Same B0 H2:=fun b u e=>by
    by_cases c:b=d
    ·subst c
     rw [hdB] at e
     rw [← e]
     exact hd2
    ·rw [eB0,xg c] at e
     exact s2 _ _ (s1 _ _ e)
   refine xgk (Pv:=fun i σ H5=>∃ (v5 v6 v7 v8 v9:Option V) (prs:List Pr) (qs:List Addr) (ts:List Seat) (tq:List Addr),σ=[some (.ref d),some (.ref ls),some (.int c),some (.ref lq),some (.ref lt),v5,v6,v7,v8,v9,none]∧Same B0 H5∧H5 lq=some (.lst (qs.map V.ref))∧PrsL H5 prs qs∧(∀ p ∈ prs,PrOk ps w h p)∧prs.length≤i∧H5 lt=some (.lst (tq.map V.ref))∧x6 H5 ts tq∧ts.length≤i∧ts=prs.map (·.2)∧ts.Nodup∧(prs.map (·.1.nm)).Nodup∧(∀ p ∈ prs,p.2 ∈ ss)∧∀ p ∈ prs,∃ k,k < i∧ps[k]?=some p.1) ?_ (fun _ _ _ _ ⟨_,_,_,_,_,_,_,_,_,_,z,_⟩=>z _ _ hdB) ?_ ?_
   ·refine ⟨_,_,_,_,_,[],[],[],[],rfl,s3,?_,.nil,fun p hp=>(nomatch hp),Nat.le_refl _,?_,.nil,Nat.le_refl _,rfl,List.nodup_nil,List.nodup_nil,fun p hp=>(nomatch hp),fun p hp=>(nomatch hp)⟩
    ·exact s2 _ _ g1
    ·exact g2
   ·rintro i k x p5 σ H5 hkx hp5 ⟨v5,v6,v7,v8,v9,prs,qs,ts,tq,rfl,s5,hq5,pr5,ok5,le5,ht5,ts5,tl5,te5,tn5,nn5,in5,ix5⟩
    obtain ⟨pt,o,e1,rfl,rfl,e3⟩:=lpB.get hkx
    have ilt:=(List.getElem?_eq_some_iff.mp e1).1
    have mpt:=List.mem_of_getElem? e1
    have fd:=xi3 pok.nn mpt
    have okp:=pok.ok _ mpt
    have ql5:=pr5.len
    have tl5':=ts5.len
    rw [show kV (Sum.inr pt.nm)=V.str pt.nm from rfl]
    have s6:Same H5 (upd H5 p5 (.tup [.int i,.str pt.nm])):=xp (Same.refl _) hp5
    have g6:upd H5 p5 (.tup [.int i,.str pt.nm]) p5=some (.tup [.int i,.str pt.nm]):=xb
    revert s6 g6
    generalize upd H5 p5 (.tup [.int i,.str pt.nm])=H6
    intro s6 g6
    refine ⟨p5,_,rfl,SqT.of g6,rfl,_,_,rfl,_,_,rfl,rfl,?_⟩
    refine ⟨_,rfl,_,rfl,_,_,rfl,rfl,c,_,rfl,(by omega),fun nr n0=>?_⟩
    have s56:=s5.trans s6
    have hls6:=s56 _ _ hlsB
    have sl6:=slB.keep (Same.tups s56)
    have ts6:=ts5.keep (Same.tups s6)
    have ht6:=s6 _ _ ht5
    refine ⟨_,rfl,ls,rfl,⟨_,SqL.of hls6⟩,fun l8 hl8=>?_⟩
    refine xdz (SqL.of hls6) (by rw [List.length_map]; exact Nat.lt_trans (by omega:rs.length < 33) (by decide)) hl8 (xff ss ts pt) (fun i y H=>∃ s q,ss[i]?=some s∧y=.ref q∧H q=some (.tup (xbk s))) (fun i y H H' tp ⟨s,q,a1,a2,a3⟩=>⟨s,q,a1,a2,tp _ _ a3⟩) (fun i x H7 hx s7 N M hN hM=>?_) (fun ys H7 s7 el7 ly f7=>?_)
    ·rw [List.getElem?_map] at hx
     obtain ⟨o,ho,rfl⟩:=Option.map_eq_some_iff.mp hx
     obtain ⟨s0,hs0,es0⟩:=(sl6.keep (Same.tups s7)).get ho
     have s67:=s56.trans s7
     refine ⟨_,rfl,_,rfl,1,2,xbc s0,ts.map xbc,xem es0,(ts6.keep (Same.tups s7)).dv (s7 _ _ ht6),by decide,by decide,_,rfl,ite2 (fun c1=>?_) (fun c1=>?_)⟩
     ·rw [if_pos rfl,xck] at c1
      refine ⟨_,rfl,_,rfl,_,rfl,_,rfl,o,_,0,_,rfl,rfl,SqT.of es0,rfl,_,rfl,o,_,1,_,rfl,rfl,SqT.of es0,rfl,d,ls,ps,ss,rs,pt,s0.1,s0.2,rfl,pdB.same s67,fd,s67 _ _ hlsB,slB.keep (Same.tups s67),fun H8 s8=>?_⟩
      refine ⟨_,rfl,ite2 (fun c2=>?_) (fun c2=>?_)⟩
      ·exact ⟨_,rfl,hN _ _ s8 (by rw [xbo hs0,c1,c2]; rfl) ⟨s0,o,hs0,rfl,s8 _ _ es0⟩⟩
      ·exact hM _ s8 (by rw [xbo hs0,Bool.eq_false_iff.mpr c2,Bool.and_false])
     ·rw [if_pos rfl,xck] at c1
      exact iteF (hM _ (Same.refl _) (by rw [xbo hs0,Bool.eq_false_iff.mpr c1,Bool.false_and]))
    obtain ⟨s8,rs8,rfl,sl8,mem8'⟩:=xdy (H:=H7) (ss:=ss.filter fun s=>decide (s ∉ ts)) (ys:=ys) fun y hy=>by
     obtain ⟨j,hj⟩:=List.mem_iff_getElem?.mp hy
     have lj:=(List.getElem?_eq_some_iff.mp hj).1
     rw [ly] at lj
     obtain ⟨s,q,a1,a2,a3⟩:=f7 j y _ hj (List.getElem?_eq_getElem lj)
     have fr:=(List.mem_filter.mp (List.mem_of_getElem? (List.getElem?_eq_getElem lj))).2
     rw [xbo a1] at fr
     exact ⟨s,q,List.mem_filter.mpr ⟨List.mem_of_getElem? a1,by simpa using (Bool.and_eq_true_iff.mp fr).1⟩,a2,a3⟩
    have mem8:∀ s ∈ s8,s ∈ ss:=fun s hs=>(List.mem_filter.mp (mem8' s hs)).1
    have rl8:=sl8.len
    have s57:=s56.trans s7
    have hq7:=s7 _ _ (s6 _ _ hq5)
    have ht7:=s7 _ _ ht6
    have pr7:=(pr5.keep (Same.tups s6)).keep (Same.tups s7)
    have ts7:=ts6.keep (Same.tups s7)
    refine ⟨_,?_,fun _ _ z=>z⟩
    refine ⟨_,rfl,(by show 0≤sizeLine; exact Nat.zero_le _),fun l9 hl9=>?_⟩
    have s9:Same H7 (upd H7 l9 (.lst [])):=xp (Same.refl _) hl9
    have g9:upd H7 l9 (.lst []) l9=some (.lst []):=xb
    revert s9 g9
    generalize upd H7 l9 (.lst [])=H9
    intro s9 g9
    have s59:=s57.trans s9
    have no:∀ Hx,Same H9 Hx→∃ (w5 w6 w7 w8 w9:Option V) (prs:List Pr) (qs:List Addr) (ts:List Seat) (tq:List Addr),[some (V.ref d),some (V.ref ls),some (V.int c),some (V.ref lq),some (V.ref lt),some (.int i),some (.str pt.nm),some (.int nr),some (.ref l8),v9,none]=[some (V.ref d),some (V.ref ls),some (V.int c),some (V.ref lq),some (V.ref lt),w5,w6,w7,w8,w9,none]∧Same B0 Hx∧Hx lq=some (.lst (qs.map V.ref))∧PrsL Hx prs qs∧(∀ p ∈ prs,PrOk ps w h p)∧prs.length≤i + 1∧Hx lt=some (.lst (tq.map V.ref))∧x6 Hx ts tq∧ts.length≤i + 1∧ts=prs.map (·.2)∧ts.Nodup∧(prs.map (·.1.nm)).Nodup∧(∀ p ∈ prs,p.2 ∈ ss)∧∀ p ∈ prs,∃ k,k < i + 1∧ps[k]?=some p.1:=fun Hx sx =>
     ⟨_,_,_,_,_,prs,qs,ts,tq,rfl,s59.trans sx,sx _ _ (s9 _ _ hq7),(pr7.keep (Same.tups s9)).keep (Same.tups sx),ok5,by omega,sx _ _ (s9 _ _ ht7),(ts7.keep (Same.tups s9)).keep (Same.tups sx),by omega,te5,tn5,nn5,in5,fun p hp=>let ⟨k,a1,a2⟩:=ix5 p hp; ⟨k,by omega,a2⟩⟩
    refine ⟨2,1,.lst (s8.map xbc),.lst [],(sl8.keep (Same.tups s9)).dv (s9 _ _ el7),.lst (SqL.of g9) rfl (fun j x d h1 h2=>by simp at h1),by decide,by decide,_,rfl,ite2 (fun c1=>?_) (fun c1=>?_)⟩
    ·have n8:0 < rs8.length:=by
      rcases Nat.eq_zero_or_pos rs8.length with z | z
      ·rw [rl8] at z
       have e:=List.eq_nil_of_length_eq_zero z
       rw [e] at c1
       exact absurd c1 (by decide)
      ·exact z
     refine ⟨_,rfl,_,_,rfl,rfl,(by show (0:Int) < 7; decide),_,_,rfl,rfl,_,rfl,ite2 (fun c2=>?_) (fun c2=>?_)⟩
     ·obtain ⟨j,qa,hja,_,_,atj⟩:=xk6 (m:=nr / 7) n8
      obtain ⟨sa,hsa,eqa⟩:=(sl8.keep (Same.tups s9)).get hja
      have msa:=mem8 _ (List.mem_of_getElem? hsa)
      have fsa:sa ∉ ts:=of_decide_eq_true (List.mem_filter.mp (mem8' _ (List.mem_of_getElem? hsa))).2
      obtain ⟨sr1,sr2⟩:=sok.2.2 sa msa
      refine ⟨_,rfl,_,rfl,_,_,rfl,rfl,⟨by decide,by decide⟩,_,rfl,l8,_,rfl,.inl (SqL.of (s9 _ _ el7)),_,_,rfl,rfl,(by rw [List.length_map]; omega),l8,_,_,.ref qa,rfl,rfl,SqL.of (s9 _ _ el7),(by rw [List.length_map]; exact atj),?_⟩
      have ht9:=s9 _ _ ht7
      have hq9:=s9 _ _ hq7
      refine ⟨_,rfl,.inl ⟨rfl,_,SqL.of ht9⟩,_,rfl,lt,_,_,rfl,rfl,ht9,?_,?_⟩
      ·rw [List.length_map]
       exact Nat.lt_trans (by omega:tq.length < 13) (by decide)
      have bt:∀ b u,b≠lt→H9 b=some u→upd H9 lt (.lst (tq.map V.ref ++ [.ref qa])) b=some u:=fun b u nb e=>by rw [xg nb]; exact e
      have eqa2:=bt _ _ (x3 eqa ht9 (fun z=>nomatch z)) eqa
      have hqA:=bt _ _ (Ne.symm nlt) hq9
      refine ⟨_,rfl,.inl ⟨rfl,_,SqL.of hqA⟩,_,rfl,_,rfl,qa,_,0,_,rfl,rfl,SqT.of eqa2,rfl,_,rfl,qa,_,1,_,rfl,rfl,SqT.of eqa2,rfl,(by show 3≤sizeLine; decide),fun pb hpb=>?_⟩
      have fpb:H9 pb=none:=by
       cases e:H9 pb with
       | none=>rfl
       | some u =>
        by_cases z:pb=lt
        ·rw [z,xb] at hpb; cases hpb
        ·rw [xg z,e] at hpb; cases hpb
      have nbt:lt≠pb:=fun z=>by rw [← z,xb] at hpb; cases hpb
      have nbq:lq≠pb:=xk hqA hpb
      have sB:=xp (o:=.tup [.str pt.nm,.str (xx sa.1),.int sa.2]) (Same.refl _) hpb
      refine ⟨lq,_,_,rfl,rfl,sB _ _ hqA,?_,?_⟩
      ·rw [List.length_map]
       exact Nat.lt_trans (by omega:qs.length < 13) (by decide)
      have up:∀ b u,b≠lt→b≠lq→H9 b=some u→upd (upd (upd H9 lt (.lst (tq.map V.ref ++ [.ref qa]))) pb (.tup [.str pt.nm,.str (xx sa.1),.int sa.2])) lq (.lst (qs.map V.ref ++ [.ref pb])) b=some u:=fun b u n1 n2 e=>by
       rw [xg n2]
       exact sB _ _ (bt _ _ n1 e)
      have upT:Tups H9 (upd (upd (upd H9 lt (.lst (tq.map V.ref ++ [.ref qa]))) pb (.tup [.str pt.nm,.str (xx sa.1),.int sa.2])) lq (.lst (qs.map V.ref ++ [.ref pb]))):=fun b xs e=>up _ _ (x3 e ht9 (fun z=>nomatch z)) (x3 e hq9 (fun z=>nomatch z)) e
      refine ⟨_,_,_,_,_,prs ++ [(pt,sa)],qs ++ [pb],ts ++ [sa],tq ++ [qa],rfl,fun b u e=>up _ _ (xk e nt) (xk e nq) (s59 _ _ e),?_,?_,fun p hp=>?_,?_,?_,?_,?_,by rw [te5,List.map_append]; rfl,?_,?_,fun p hp=>(List.mem_append.mp hp).elim (in5 p) (fun z=>by rw [List.mem_singleton.mp z]; exact msa),fun p hp=>?_⟩
      ·rw [xb,List.map_append]
       rfl
      ·refine PrsL.snoc ((pr7.keep (Same.tups s9)).keep upT) ?_
       rw [xg (Ne.symm nbq)]
       exact xb
      ·rcases List.mem_append.mp hp with z | z
       ·exact ok5 p z
       ·rw [List.mem_singleton.mp z]
        exact ⟨okp.nm,fd,sr1,sr2,okp.x1,okp.x2,okp.y1,okp.y2⟩
      ·rw [List.length_append]
       show prs.length + 1≤i + 1
       omega
      ·rw [xg nlt,xg nbt,xb,List.map_append]
       rfl
      ·exact x6.snoc ((ts7.keep (Same.tups s9)).keep upT) (upT _ _ eqa)
      ·rw [List.length_append]
       show ts.length + 1≤i + 1
       omega
      ·rw [List.nodup_append]
       refine ⟨tn5,by simp,fun a ha b hb e=>?_⟩
       rw [List.mem_singleton.mp hb] at e
       subst e
       exact fsa ha
      ·rw [List.map_append,List.nodup_append]
       refine ⟨nn5,by simp,fun a ha b hb e=>?_⟩
       obtain ⟨p,hp,rfl⟩:=List.mem_map.mp ha
       have hb':b=pt.nm:=by simpa using hb
       obtain ⟨k,a1,a2⟩:=ix5 p hp
       have z:=xim (·.nm) pok.nn ilt p.1 (List.mem_of_getElem? (by rw [List.getElem?_take_of_lt a1]; exact a2))
       rw [List.getElem?_eq_getElem ilt] at e1
       cases e1
       exact z (e.trans hb')
      ·rcases List.mem_append.mp hp with z | z
       ·obtain ⟨k,a1,a2⟩:=ix5 p z
        exact ⟨k,by omega,a2⟩
       ·rw [List.mem_singleton.mp z]
        exact ⟨i,by omega,e1⟩
     ·exact no _ (Same.refl _)
    ·exact iteF (no _ (Same.refl _))
   ·rintro σ H5 ⟨v5,v6,v7,v8,v9,prs,qs,ts,tq,rfl,s5,hq5,pr5,ok5,le5,ht5,ts5,tl5,te5,tn5,nn5,in5,ix5⟩
    have ql5:=pr5.len
    rw [lp.len] at le5
    refine ⟨_,rfl,c,0,rfl,by decide,fun m m0=>⟨_,rfl,lq,_,rfl,.inl (SqL.of hq5),_,_,rfl,rfl,_,_,rfl,rfl,(by show (0:Int) < ((qs.map V.ref).length:Int) + 1; omega),?_⟩⟩
    dsimp only
    obtain ⟨a1,a2⟩:=xau m (show (0:Int) < ((qs.map V.ref).length:Int) + 1 by omega)
    obtain ⟨tn,htn⟩:=Int.eq_ofNat_of_zero_le a1
    rw [htn] at a2 ⊢
    have tle:tn≤qs.length:=by
     rw [List.length_map] at a2
     omega
    refine ⟨_,rfl,_,rfl,(tn:Int),rfl,lq,_,rfl,SqL.of hq5,fun pa hpa=>?_⟩
    rw [xk7 qs tle] at *
    have s6:Same H5 (upd H5 pa (.lst ((qs.drop tn).map V.ref))):=xp (Same.refl _) hpa
    have g6:upd H5 pa (.lst ((qs.drop tn).map V.ref)) pa=some (.lst ((qs.drop tn).map V.ref)):=xb
    revert s6 g6
    generalize upd H5 pa (.lst ((qs.drop tn).map V.ref))=H6
    intro s6 g6
    have hq6:=s6 _ _ hq5
    refine ⟨_,rfl,_,rfl,(tn:Int),rfl,lq,_,rfl,SqL.of hq6,fun pb hpb=>?_⟩
    rw [xj9 qs tle] at *
    have s7:Same H6 (upd H6 pb (.lst ((qs.take tn).map V.ref))):=xp (Same.refl _) hpb
    have g7:upd H6 pb (.lst ((qs.take tn).map V.ref)) pb=some (.lst ((qs.take tn).map V.ref)):=xb
    revert s7 g7
    generalize upd H6 pb (.lst ((qs.take tn).map V.ref))=H7
    intro s7 g7
    refine ⟨pb,_,rfl,SqL.of g7,fun pc hpc=>?_⟩
    rw [← List.map_reverse] at *
    have s8:Same H7 (upd H7 pc (.lst ((qs.take tn).reverse.map V.ref))):=xp (Same.refl _) hpc
    have g8:upd H7 pc (.lst ((qs.take tn).reverse.map V.ref)) pc=some (.lst ((qs.take tn).reverse.map V.ref)):=xb
    revert s8 g8
    generalize upd H7 pc (.lst ((qs.take tn).reverse.map V.ref))=H8
    intro s8 g8
    have s58:=(s6.trans s7).trans s8
    have pm:=xde prs tn
    have pq:=xde qs tn
    have plen:=pm.length_eq
    have qlen:=pq.length_eq
    rw [List.length_append] at qlen
    refine ⟨pa,pc,_,_,rfl,rfl,s8 _ _ (s7 _ _ g6),g8,?_,fun pd hpd=>?_⟩
    ·rw [List.length_map,List.length_map,qlen]
     exact Nat.le_trans (by omega:qs.length≤12) (by decide)
    rw [← List.map_append]
    have s9:=xp (o:=.lst ((qs.drop tn ++ (qs.take tn).reverse).map V.ref)) (Same.refl _) hpd
    have pr8:=pr5.keep (Same.tups s58)
    refine q ob _ pd (prs.drop tn ++ (prs.take tn).reverse) (qs.drop tn ++ (qs.take tn).reverse) ?_ xb (((pr8.drop tn).append (pr8.take tn).rev).keep (Same.tups s9)) (fun p hp=>ok5 p (pm.mem_iff.mp hp)) (by omega) (fun p hp=>in5 p (pm.mem_iff.mp hp)) ((pm.map _).nodup_iff.mpr nn5) ((pm.map _).nodup_iff.mpr (te5 ▸ tn5))
    rw [← eB0]
    exact (s5.trans s58).trans s9
end
end S53
set_option maxRecDepth 100000
set_option maxHeartbeats 4000000
namespace S53
open PySem L2 XL PyProof.Rows
def exP (p1 p2 p:Pr):Pr:=(p.1,if p.1.nm=p1.1.nm then p2.2 else if p.1.nm=p2.1.nm then p1.2 else p.2)
theorem xjb {p1 p2:Pr} {A:List Pr} (h:∀ p ∈ A,p.1.nm≠p1.1.nm∧p.1.nm≠p2.1.nm):A.map (exP p1 p2)=A:=by
 induction A with
 | nil=>rfl
 | cons p A ih =>
  rw [List.map_cons,ih fun p' hp=>h p' (List.mem_cons_of_mem _ hp)]
  congr 1
  obtain ⟨a,b⟩:=h p List.mem_cons_self
  unfold exP
  rw [if_neg a,if_neg b]
theorem xo1 {prs A B C:List Pr} {p1 p2:Pr} (nd:(prs.map (·.1.nm)).Nodup) (e:prs=A ++ p1 :: (B ++ p2 :: C)):prs.map (exP p1 p2)=A ++ (p1.1,p2.2) :: (B ++ (p2.1,p1.2) :: C)∧p1.1.nm≠p2.1.nm:=by
 subst e
 rw [List.map_append,List.nodup_append] at nd
 obtain ⟨_,n2,n3⟩:=nd
 rw [List.map_cons,List.nodup_cons,List.map_append,List.map_cons,List.nodup_append] at n2
 obtain ⟨m1,_,m3,m4⟩:=n2
 rw [List.nodup_cons] at m3
 have ne:p1.1.nm≠p2.1.nm:=fun z=>m1 (by rw [z]; simp)
 refine ⟨?_,ne⟩
 rw [List.map_append,List.map_cons,List.map_append,List.map_cons]
 rw [xjb (A:=A),xjb (A:=B),xjb (A:=C)]
 ·unfold exP
  rw [if_pos rfl,if_neg (Ne.symm ne),if_pos rfl]
 ·intro p hp
  refine ⟨fun z=>m1 ?_,fun z=>m3.1 ?_⟩
  ·rw [← z]
   exact List.mem_append_right _ (List.mem_cons_of_mem _ (List.mem_map.mpr ⟨p,hp,rfl⟩))
  ·rw [← z]
   exact List.mem_map.mpr ⟨p,hp,rfl⟩
 ·intro p hp
  refine ⟨fun z=>m1 ?_,fun z=>m4 _ (List.mem_map.mpr ⟨p,hp,rfl⟩) _ List.mem_cons_self z⟩
  rw [← z]
  exact List.mem_append_left _ (List.mem_map.mpr ⟨p,hp,rfl⟩)
 ·intro p hp
  refine ⟨fun z=>n3 _ (List.mem_map.mpr ⟨p,hp,rfl⟩) _ (by simp) z,fun z=>n3 _ (List.mem_map.mpr ⟨p,hp,rfl⟩) _ (by simp) z⟩
theorem xiz {w:Int} {ss:List Seat} {tr:Tr}:∀ {prs:List Pr},tr ∈ cans w ss prs→∃ A p1 B p2 C c,prs=A ++ p1 :: (B ++ p2 :: C)∧canO w ss p1 p2=some c∧tr=(p1.1.nm,p2.1.nm,c)
 | [],h=>by cases h
 | p :: r,h=>by
  rcases List.mem_append.mp h with z | z
  ·obtain ⟨p',hp',e⟩:=List.mem_filterMap.mp z
   obtain ⟨c,hc,e2⟩:=Option.map_eq_some_iff.mp e
   obtain ⟨B,C,e3⟩:=List.append_of_mem hp'
   exact ⟨[],p,B,p',C,c,by rw [e3]; rfl,hc,e2.symm⟩
  ·obtain ⟨A,p1,B,p2,C,c,e,h1,h2⟩:=xiz z
   exact ⟨p :: A,p1,B,p2,C,c,by rw [e]; rfl,h1,h2⟩
inductive Sd (H:Hp):List Pr→List (Key × V)→Prop
 | nil:Sd H [] []
 | cons {p:Pr} {t:Addr} {ps:List Pr} {kvs:List (Key × V)} (h:H t=some (.tup (xbk p.2))) (r:Sd H ps kvs):Sd H (p :: ps) ((.inr p.1.nm,.ref t) :: kvs)
theorem Sd.keep {H H':Hp} (s:Tups H H') {ps:List Pr} {kvs:List (Key × V)} (h:Sd H ps kvs):Sd H' ps kvs:=by
 induction h with
 | nil=>exact .nil
 | cons h _ ih=>exact .cons (s _ _ h) ih
theorem Sd.len {H:Hp} {ps:List Pr} {kvs:List (Key × V)} (h:Sd H ps kvs):kvs.length=ps.length:=by
 induction h with
 | nil=>rfl
 | cons _ _ ih=>simp [ih]
theorem Sd.keys {H:Hp} {ps:List Pr} {kvs:List (Key × V)} (h:Sd H ps kvs):kvs.map (·.1)=ps.map (fun p=>Sum.inr p.1.nm):=by
 induction h with
 | nil=>rfl
 | cons _ _ ih=>simp [ih]
theorem Sd.get {H:Hp} {ps:List Pr} {kvs:List (Key × V)} (h:Sd H ps kvs) {i:Nat} {k:Key} {x:V} (e:kvs[i]?=some (k,x)):∃ p,ps[i]?=some p∧k=.inr p.1.nm:=by
 induction h generalizing i with
 | nil=>simp at e
 | @cons p q ps kvs h _ ih =>
  cases i with
  | zero =>
   simp at e
   exact ⟨p,rfl,e.1.symm⟩
  | succ j=>exact ih (by simpa using e)
theorem Sd.find {H:Hp} {ps:List Pr} {kvs:List (Key × V)} (h:Sd H ps kvs) (nd:(ps.map (·.1.nm)).Nodup) {p:Pr} (m:p ∈ ps):∃ t,valV kvs (.inr p.1.nm)=some (.ref t)∧H t=some (.tup (xbk p.2)):=by
 induction h with
 | nil=>cases m
 | @cons p' t ps kvs h _ ih =>
  rw [List.map_cons,List.nodup_cons] at nd
  rcases List.mem_cons.mp m with rfl | z
  ·exact ⟨t,xaw rfl,h⟩
  ·obtain ⟨t',h1,h2⟩:=ih nd.2 z
   refine ⟨t',?_,h2⟩
   rw [xam (fun e=>nd.1 (List.mem_map.mpr ⟨p,z,(Sum.inr.inj e).symm⟩))]
   exact h1
theorem xg4 {k:Key}:∀ {kvs:List (Key × V)},k ∉ kvs.map (·.1)→valV kvs k=none
 | [],_=>rfl
 | kv :: r,h=>by
  obtain ⟨a,b⟩:=kv
  rw [xam (fun e=>h (by rw [← e]; exact List.mem_cons_self))]
  exact xg4 fun z=>h (List.mem_cons_of_mem _ z)
theorem xgi {d:Addr} {H:Hp}:∀ {kvs kv0:List (Key × V)},((kv0 ++ kvs).map (·.1)).Nodup→(kv0 ++ kvs).length < 1000→xd0 d (upd H d (.dK kv0)) (kvs.map fun kv=>(kV kv.1,kv.2)) (upd H d (.dK (kv0 ++ kvs)))
 | [],kv0,_,_=>by
  rw [List.append_nil]
  exact .nil
 | kv :: kvs,kv0,nd,hl=>by
  have fr:valV kv0 kv.1=none:=xg4 fun z=>by
   rw [List.map_append,List.nodup_append] at nd
   exact nd.2.2 _ z _ List.mem_cons_self rfl
  have hp:=DPut.k (k:=kv.1) (v:=kv.2) (xb (H:=H) (a:=d) (o:=.dK kv0)) (Nat.lt_trans (by rw [List.length_append] at hl; omega:kv0.length < 1000) (by decide))
  rw [xcu,xc1 _ fr] at hp
  have ih:=xgi (d:=d) (H:=H) (kvs:=kvs) (kv0:=kv0 ++ [kv]) (by rw [List.append_assoc]; exact nd) (by rw [List.append_assoc]; exact hl)
  rw [List.append_assoc] at ih
  exact .cons hp ih
theorem xmt {H:Hp}:∀ {prs:List Pr} {ys:List V},ys.length=prs.length→(∀ (i:Nat) (y:V) (p:Pr),ys[i]?=some y→prs[i]?=some p→∃ q t,y=.ref q∧H q=some (.tup [.str p.1.nm,.ref t])∧H t=some (.tup (xbk p.2))) →
    ∃ (ws:List (Addr × V × V)) (kvs:List (Key × V)),ys=ws.map (fun p=>V.ref p.1)∧(∀ p ∈ ws,H p.1=some (.tup [p.2.1,p.2.2]))∧ws.map (·.2)=kvs.map (fun kv=>(kV kv.1,kv.2))∧Sd H prs kvs
  | [],[],_,_=>⟨[],[],rfl,fun p h=>(nomatch h),rfl,.nil⟩
  | [],_ :: _,h,_=>by cases h
  | _ :: _,[],h,_=>by cases h
  | p :: prs,y :: ys,hl,h=>by
    obtain ⟨q,t,e1,e2,e3⟩:=h 0 y p rfl rfl
    obtain ⟨ws,kvs,a1,a2,a3,a4⟩:=xmt (prs:=prs) (ys:=ys) (Nat.succ.inj hl) fun i y' p' hy hp=>h (i + 1) y' p' hy hp
    refine ⟨(q,.str p.1.nm,.ref t) :: ws,(.inr p.1.nm,.ref t) :: kvs,by rw [e1,a1]; rfl,fun p' hp'=>?_,by rw [List.map_cons,List.map_cons,a3]; rfl,.cons e3 a4⟩
    rcases List.mem_cons.mp hp' with rfl | z
    · exact e2
    · exact a2 _ z
theorem PrsL.pick {H:Hp}:∀ {ss:List Pr} {ys:List V},ys.length=ss.length→(∀ (j:Nat) (y:V) (s:Pr),ys[j]?=some y→ss[j]?=some s→∃ q,y=.ref q∧H q=some (.tup (prV s)))→∃ rs:List Addr,ys=rs.map V.ref∧PrsL H ss rs
 | [],[],_,_=>⟨[],rfl,.nil⟩
 | [],_ :: _,h,_=>by cases h
 | _ :: _,[],h,_=>by cases h
 | s :: ss,y :: ys,hl,h=>by
  obtain ⟨q,e1,e2⟩:=h 0 y s rfl rfl
  obtain ⟨rs,e3,e4⟩:=PrsL.pick (ss:=ss) (ys:=ys) (Nat.succ.inj hl) fun j y' s' hy hs=>h (j + 1) y' s' hy hs
  exact ⟨q :: rs,by rw [e1,e3]; rfl,.cons e2 e4⟩
def xgy (kvs:List (Key × V)) (i:Nat):V:=match kvs[i]? with | some kv=>kV kv.1 | none=>.non
theorem xkp {σ:L2.St} {fr:List Nat} {te:TE} {l d:Addr} {H1:Hp} {Q:VK} {ob:Obj} {kvs:List (Key × V)} (hd:H1 d=some (.frz ob (.dK kvs))) (hl:H1 l=none) (hn:kvs.length < sizeLine) (F:Nat→V→Hp→Prop) (stab:∀ i y H H',Tp H H'→F i y H→F i y H')
    (step:∀ (i:Nat) (k:Key) (x:V) (H2:Hp),kvs[i]?=some (k,x)→Same H1 H2→∀ (N:V→Hp→Prop),(∀ y H',Same H2 H'→F i y H'→N y H')→te ((blk0 σ fr 1).set 0 (some (kV k))) H2 N)
    (fin:∀ ys H2,Same H1 H2→H2 l=some (.lst ys)→ys.length=kvs.length→(∀ (i:Nat) (y:V),ys[i]?=some y→F i y H2)→Q (.ref l) H2):xcq (Itkd d ob kvs) 1 (xce 0) σ fr xcm te l H1 Q:=by
  refine xin kvs.length hn hl (xgy kvs) (fun i H lt s=>⟨s _ _ hd,lt⟩) (fun i H v H' lt s y=>?_) (fun H s=>⟨s _ _ hd,Nat.le_refl _⟩) (fun _=>true) F stab (fun i H2 lt s N M h1 h2=>?_) (fun ys H2 s e ly f=>?_)
  · obtain ⟨e,k,x,hk,hv⟩:=y
    refine ⟨e,?_⟩
    unfold xgy
    rw [hk,hv]
  · obtain ⟨⟨k,x⟩,hk⟩:∃ y,kvs[i]?=some y:=⟨_,List.getElem?_eq_getElem lt⟩
    have ek:xgy kvs i=kV k:=by
      unfold xgy
      rw [hk]
    rw [ek]
    exact xh4 (i:=i) (step i k x H2 hk s N fun y H' s' f=>h1 y H' s' rfl f)
  · rw [L2.filter_all,List.length_range] at ly
    refine fin ys H2 s e ly fun i y hy=>f i y i hy ?_
    rw [L2.filter_all,List.getElem?_range (by have:=(List.getElem?_eq_some_iff.mp hy).1; omega)]
def xqa (K:PySem.W.Frag):Sp:=fun vs H Q _=>∃ (l:Addr) (prs:List Pr) (qs:List Addr) (p1 p2:Pr),vs=[.ref l,.str p1.1.nm,.str p2.1.nm]∧H l=some (.lst (qs.map V.ref))∧PrsL H prs qs∧(prs.map (·.1.nm)).Nodup∧prs.length≤12∧p1 ∈ prs∧p2 ∈ prs∧p1.1.nm≠p2.1.nm ∧
 ∀ H' l' qs',Same H H'→H l'=none→H' l'=some (.lst (qs'.map V.ref))→PrsL H' (prs.map (exP p1 p2)) qs'→Q (.ref l') H'
section
variable {P:Program} {w:World} {K:PySem.W.Frag} {mg:Str→Option Value} {base:Heap} {t:Adr}
theorem xhw (T:Txt w K mg t):FnOk true P w K mg base (CXo P w) 1 t.f_exchanged t.d_exchanged ["pairs", "name", "other"] (xqa K):=by
 refine T.F_exchanged.okn (k:=0) xc8 (fun vs H Q E h=>?_) (fun cdv A outer s H vs Q E hr h=>?_)
 ·obtain ⟨l,prs,qs,p1,p2,rfl,_⟩:=h
  rfl
 ·obtain ⟨l,prs,qs,p1,p2,rfl,h⟩:=h
  refine ⟨_,xj (x8 (i:=3) xc8.nd rfl (Or.inr rfl) (xb7 (xew rfl (xj8 hr)) rfl T.n_dict boot_dict (xa (xa7 rfl (xay (zs:=["each", "side", "row"]) (ys:=[]) (fr:=[]) (N0:=["pairs", "name", "other", "seats", "giver"]) (sc0:=xh xa8) (by decide +kernel) rfl rfl rfl) (xax (pv 0)) (fun _ _ _ _ _ ow nd=>(xa3 rfl (xu (xq (i:=0) nd rfl (Or.inl (ow _ (by simp))) (Or.inr (ow _ (by simp)))) (xu (xq (i:=1) nd rfl (Or.inl (ow _ (by simp))) (Or.inr (ow _ (by simp)))) (xu (xq (i:=2) nd rfl (Or.inl (ow _ (by simp))) (Or.inr (ow _ (by simp)))) (xas)))):PG _ _ (gTup K 3 _))) (xf4 (xbp (by decide) (xbp (by decide) (xbp (by decide) (xe6))))) (fun _ _ _ _ _=>xa5) (fun _ _ _ _ _=>xap (xa (pv 0) (xa (xap (xa (pv 1) (xa (pv 2) (xi)))) (xi))))) (xi))))
   (xj (x8 (i:=4) xc8.nd rfl (Or.inr rfl) (xns (xh1 (pv 1) (pv 2) (xh1 (pv 2) (pv 1) (xna))) rfl rfl (by simp) (by decide)))
   (xo (x4 (xa7 rfl (xay (zs:=["each"]) (ys:=["seats", "giver"]) (fr:=[3,4]) (N0:=["pairs", "name", "other", "seats", "giver"]) (sc0:=xh xa8) (by decide +kernel) rfl rfl rfl) (xnd (pv 3)) (fun _ _ _ _ _ ow nd=>xq (i:=0) nd rfl (Or.inl (ow _ (by simp))) (Or.inr (ow _ (by simp)))) (xa2 (by decide)) (fun _ _ _ _ _=>xa5) (fun _ _ _ _ _=>xt (r:=xj6 K) xix (xap (xa (pv 0) (xi))) (xcv (xbh hr) (pv 1) (xl1 (xbh hr) (pv 2) (pv 0) (pv 0) ⟨rfl,rfl,rfl,rfl⟩) (fun _ _=>rfl))))))),?_⟩
  obtain ⟨hl,pr,nd,len,m1,m2,ne,q⟩:=h
  have ql:=pr.len
  refine ⟨_,rfl,l,rfl,⟨_,SqL.of hl⟩,fun l1 hl1=>?_⟩
  refine xbw (SqL.of hl) (by rw [List.length_map]; exact Nat.lt_trans (by omega:qs.length < 13) (by decide)) hl1 (fun i y H=>∃ p q t,prs[i]?=some p∧y=.ref q∧H q=some (.tup [.str p.1.nm,.ref t])∧H t=some (.tup (xbk p.2))) (fun i y H H' tp ⟨p,q,t,a1,a2,a3,a4⟩=>⟨p,q,t,a1,a2,tp _ _ a3,tp _ _ a4⟩) (fun i x H2 hx s2 N hN=>?_) (fun ys H1 s1 el1 ly f1=>?_)
  ·rw [List.getElem?_map] at hx
   obtain ⟨o,ho,rfl⟩:=Option.map_eq_some_iff.mp hx
   obtain ⟨p,hpp,ep⟩:=(pr.keep (Same.tups s2)).get ho
   refine ⟨o,_,rfl,SqT.of ep,rfl,_,_,rfl,_,_,rfl,_,_,rfl,rfl,?_⟩
   refine ⟨_,rfl,_,rfl,_,rfl,(by show 2≤sizeLine; decide),fun q1 hq1=>⟨(by show 2≤sizeLine; decide),fun q2 hq2=>?_⟩⟩
   have sa:=xp (o:=.tup [.str (xx p.2.1),.int p.2.2]) (Same.refl _) hq1
   have sb:=xp (o:=.tup [.str p.1.nm,.ref q1]) (Same.refl _) hq2
   exact hN _ _ (sa.trans sb) ⟨p,q2,q1,hpp,rfl,xb,sb _ _ xb⟩
  rw [List.length_map,ql] at ly
  obtain ⟨ws,kvs,rfl,w2,w3,sd1⟩:=xmt (H:=H1) (prs:=prs) (ys:=ys) ly fun i y p hy hp=>by
   obtain ⟨p',q',t',a1,a2,a3,a4⟩:=f1 i y hy
   rw [hp] at a1
   cases a1
   exact ⟨q',t',a2,a3,a4⟩
  have kl:=sd1.len
  have knd:(kvs.map (·.1)).Nodup:=by
   rw [sd1.keys]
   exact xm7 (f:=fun p:Pr=>p.1.nm) (k:=Sum.inr) (fun _=>rfl) (fun _ _ e=>Sum.inr.inj e) nd
  refine ⟨l1,ws,rfl,el1,w2,fun d hd=>?_⟩
  refine ⟨.dK [],_,.inl rfl,(by rw [w3]; exact xgi (kv0:=[]) knd (by simp; omega)),?_⟩
  rw [List.nil_append]
  have s2:Same H1 (upd H1 d (.dK kvs)):=xp (Same.refl _) hd
  have g2:upd H1 d (.dK kvs) d=some (.dK kvs):=xb
  revert s2 g2
  generalize upd H1 d (.dK kvs)=H2
  intro s2 g2
  have sd2:=sd1.keep (Same.tups s2)
  refine fun gd hgd=>⟨_,rfl,_,rfl,_,rfl,_,rfl,xb,[(.inr p1.1.nm,.str p2.1.nm),(.inr p2.1.nm,.str p1.1.nm)],rfl,(by show 2≤15; decide),?_⟩
  rw [xcu]
  have s3:Same H2 (upd H2 gd (.dK (xb0 [] [(.inr p1.1.nm,.str p2.1.nm),(.inr p2.1.nm,.str p1.1.nm)]))):=xp (Same.refl _) hgd
  have g3:upd H2 gd (.dK (xb0 [] [(.inr p1.1.nm,.str p2.1.nm),(.inr p2.1.nm,.str p1.1.nm)])) gd=some (.dK (xb0 [] [(.inr p1.1.nm,.str p2.1.nm),(.inr p2.1.nm,.str p1.1.nm)])):=xb
  revert s3 g3
  generalize upd H2 gd (.dK (xb0 [] [(.inr p1.1.nm,.str p2.1.nm),(.inr p2.1.nm,.str p1.1.nm)]))=H3
  intro s3 g3
  have g23:=s3 _ _ g2
  have sd3:=sd2.keep (Same.tups s3)
  have ngd:gd≠d:=fun z=>by rw [z,g2] at hgd; cases hgd
  refine ⟨_,rfl,d,kvs,rfl,g23,fun ob l4 hl4=>?_⟩
  have nl4:l4≠d:=fun z=>by rw [z,xb] at hl4; cases hl4
  have hl43:H3 l4=none:=by rwa [xg nl4] at hl4
  have k4:∀ b u,b≠d→H3 b=some u→upd H3 d (.frz ob (.dK kvs)) b=some u:=fun b u nb e=>by rw [xg nb]; exact e
  have t4:Tups H3 (upd H3 d (.frz ob (.dK kvs))):=fun b xs e=>k4 _ _ (x3 e g23 (fun z=>nomatch z)) e
  refine xkp xb hl4 (Nat.lt_trans (by omega:kvs.length < 13) (by decide)) (fun i y H=>∃ p q,prs[i]?=some p∧y=.ref q∧H q=some (.tup (prV (exP p1 p2 p)))) (fun i y H H' tp ⟨p,q,a1,a2,a3⟩=>⟨p,q,a1,a2,tp _ _ a3⟩) (fun i k x H5 hk s5 N hN=>?_) (fun ys H5 s5 el5 ly5 f5=>?_)
  ·obtain ⟨p,hpp,rfl⟩:=sd3.get hk
   have mp:=List.mem_of_getElem? hpp
   have sd5:=(sd3.keep t4).keep (Same.tups s5)
   have gd5:=s5 _ _ (k4 _ _ ngd g3)
   have d5:=s5 _ _ (xb (H:=H3) (a:=d) (o:=.frz ob (.dK kvs)))
   refine ⟨_,rfl,(by show 1≤sizeLine; decide),fun q1 hq1=>?_⟩
   have s6:=xp (o:=.tup [.str p.1.nm]) (Same.refl _) hq1
   obtain ⟨r,hr,ev,es⟩:∃ r ∈ prs,(valV (xb0 [] [(.inr p1.1.nm,.str p2.1.nm),(.inr p2.1.nm,.str p1.1.nm)]) (Sum.inr p.1.nm)).getD (.str p.1.nm)=V.str r.1.nm∧(exP p1 p2 p).2=r.2:=by
    show ∃ r ∈ prs,(valV (putK (putK [] (Sum.inr p1.1.nm) (V.str p2.1.nm)) (Sum.inr p2.1.nm) (V.str p1.1.nm)) (Sum.inr p.1.nm)).getD (.str p.1.nm)=V.str r.1.nm∧(exP p1 p2 p).2=r.2
    rw [xdp,xdp]
    unfold exP
    by_cases c1:p.1.nm=p1.1.nm
    ·refine ⟨p2,m2,?_,if_pos c1⟩
     rw [if_neg (fun z=>ne (c1.symm.trans (Sum.inr.inj z))),if_pos (by rw [c1])]
     rfl
    ·by_cases c2:p.1.nm=p2.1.nm
     ·refine ⟨p1,m1,?_,by rw [if_neg c1,if_pos c2]⟩
      rw [if_pos (by rw [c2])]
      rfl
     ·refine ⟨p,mp,?_,by rw [if_neg c1,if_neg c2]⟩
      rw [if_neg (fun z=>c2 (Sum.inr.inj z)),if_neg (fun z=>c1 (Sum.inr.inj z))]
      rfl
   obtain ⟨t,ht1,ht2⟩:=(sd5.keep (Same.tups s6)).find nd hr
   refine ⟨_,rfl,_,rfl,gd,rfl,.inl ⟨_,.inl (s6 _ _ gd5)⟩,_,rfl,_,rfl,_,DGet.k (k:=.inr p.1.nm) (s6 _ _ gd5),d,.ref t,rfl,?_,q1,t,_,_,rfl,rfl,SqT.of xb,SqT.of ht2,by simp,(by show 3≤sizeLine; decide),fun z=>(by simp [xbk] at z),fun _ q2 hq2=>?_⟩
   ·rw [show kV (Sum.inr p.1.nm)=V.str p.1.nm from rfl,ev]
    exact .inl ⟨kvs,.inr r.1.nm,.inr ⟨ob,s6 _ _ d5⟩,rfl,ht1.symm⟩
   ·refine hN _ _ (s6.trans (xp (Same.refl _) hq2)) ⟨p,q2,hpp,rfl,?_⟩
    rw [xb]
    unfold prV
    rw [show (exP p1 p2 p).1=p.1 from rfl,show (exP p1 p2 p).2=r.2 from es]
    rfl
  ·obtain ⟨rs5,rfl,pr5⟩:=PrsL.pick (H:=H5) (ss:=prs.map (exP p1 p2)) (ys:=ys) (by rw [ly5,kl,List.length_map]) fun j y s hy hs=>by
    obtain ⟨p,q',a1,a2,a3⟩:=f5 j y hy
    rw [List.getElem?_map,a1] at hs
    cases hs
    exact ⟨q',a2,a3⟩
   have s03:=(s1.trans s2).trans s3
   refine q H5 l4 rs5 (fun b u e=>s5 _ _ (k4 _ _ (xk ((s1) _ _ e) hd) (s03 _ _ e))) (s03.free hl43) el5 pr5
end
end S53
set_option maxRecDepth 100000
set_option maxHeartbeats 4000000
namespace S53
open PySem L2 XL PyProof.Rows
def totI (w:Int) (prs:List Pr):Int:=(prs.map (xaj w)).sum
def upI (w:Int) (prs:List Pr):Int:=(prs.map (uprI w)).sum
def nmF (n:Str) (p:Pr):Bool:=decide (p.1.nm=n)
def nxtP (w:Int) (ss:List Seat) (prs:List Pr):List Pr:=match (cans w ss prs).head? with
 | some tr=>match prs.find? (nmF tr.1),prs.find? (nmF tr.2.1) with
  | some p1,some p2=>prs.map (exP p1 p2)
  | _,_=>prs
 | none=>prs
def itP (w:Int) (ss:List Seat) (prs:List Pr):Nat→List Pr
 | 0=>prs
 | k + 1=>nxtP w ss (itP w ss prs k)
def trP (w:Int) (ss:List Seat) (prs:List Pr):Tr:=((cans w ss prs).head?).getD ("", "",0,0)
def stP (w:Int) (ss:List Seat) (prs:List Pr) (k:Nat):Tr × Int × Int:=(trP w ss (itP w ss prs k),totI w (itP w ss prs (k + 1)),upI w (itP w ss prs (k + 1)))
structure GPr (ps:List Pt) (w h:Int) (prs:List Pr):Prop where
 ok:∀ p ∈ prs,PrOk ps w h p
 nn:(prs.map (·.1.nm)).Nodup
 ns:(prs.map (·.2)).Nodup
 le:prs.length≤12
theorem xis {prs:List Pr} (nd:(prs.map (·.1.nm)).Nodup) {p:Pr} (h:p ∈ prs):prs.find? (nmF p.1.nm)=some p:=by
 induction prs with
 | nil=>cases h
 | cons q ps ih =>
  rw [List.map_cons,List.nodup_cons] at nd
  rcases List.mem_cons.mp h with rfl | z
  ·exact List.find?_cons_of_pos (by simp [nmF])
  ·rw [List.find?_cons_of_neg]
   ·exact ih nd.2 z
   ·intro e
    exact nd.1 (List.mem_map.mpr ⟨p,z,(of_decide_eq_true e).symm⟩)
theorem x_ne {ps:List Pt} (nx:(ps.map (·.x)).Nodup):∀ {p q:Pt},p ∈ ps→q ∈ ps→p.nm≠q.nm→p.x≠q.x:=by
 induction ps with
 | nil=>intro p q h; cases h
 | cons r ps ih =>
  intro p q hp hq hn e
  rw [List.map_cons,List.nodup_cons] at nx
  rcases List.mem_cons.mp hp with rfl | z
  ·rcases List.mem_cons.mp hq with rfl | z2
   ·exact hn rfl
   ·exact nx.1 (List.mem_map.mpr ⟨q,z2,e.symm⟩)
  ·rcases List.mem_cons.mp hq with rfl | z2
   ·exact nx.1 (List.mem_map.mpr ⟨p,z,e⟩)
   ·exact ih nx.2 z z2 hn e
theorem xfy {ps:List Pt} {w h:Int} {p:Pr} (o:PrOk ps w h p) (hw:w≤30) (hh:h≤16):0≤xaj w p∧xaj w p≤45:=by
 obtain ⟨_,_,r1,r2,x1,x2,y1,y2⟩:=o
 unfold xaj lenI
 split <;> split <;> omega
theorem xop {ps:List Pt} {w h:Int} {p:Pr} (o:PrOk ps w h p) (hw:w≤30) (hh:h≤16):0≤uprI w p∧uprI w p≤450:=by
 obtain ⟨_,_,r1,r2,x1,x2,y1,y2⟩:=o
 have a0:0≤acrI w p∧acrI w p≤30:=by unfold acrI; split <;> omega
 have b0:0≤(if p.1.y - p.2.2 < 0 then -(p.1.y - p.2.2) else p.1.y - p.2.2)∧(if p.1.y - p.2.2 < 0 then -(p.1.y - p.2.2) else p.1.y - p.2.2)≤15:=by split <;> omega
 unfold uprI
 refine ⟨Int.mul_nonneg a0.1 b0.1,?_⟩
 have h1:=Int.mul_le_mul_of_nonneg_right a0.2 b0.1
 have h2:=Int.mul_le_mul_of_nonneg_left b0.2 (show (0:Int)≤30 by decide)
 exact Int.le_trans h1 h2
theorem xjz {f:Pr→Int} {c:Int} (c0:0≤c):∀ {prs:List Pr},(∀ p ∈ prs,0≤f p∧f p≤c)→0≤(prs.map f).sum∧(prs.map f).sum≤c * (prs.length:Int)
 | [],_=>by simp
 | p :: r,h=>by
  have h1:=h p List.mem_cons_self
  have h2:=xjz c0 (prs:=r) fun q hq=>h q (List.mem_cons_of_mem _ hq)
  rw [List.map_cons,List.sum_cons,List.length_cons]
  rw [show ((r.length + 1:Nat):Int)=(r.length:Int) + 1 by omega,Int.mul_add,Int.mul_one]
  omega
theorem GPr.tot {ps:List Pt} {w h:Int} {prs:List Pr} (g:GPr ps w h prs) (hw:w≤30) (hh:h≤16):0≤totI w prs∧totI w prs≤540:=by
 have z:=xjz (f:=xaj w) (c:=45) (by decide) fun p hp=>xfy (g.ok p hp) hw hh
 have l:=g.le
 unfold totI
 omega
theorem GPr.up {ps:List Pt} {w h:Int} {prs:List Pr} (g:GPr ps w h prs) (hw:w≤30) (hh:h≤16):0≤upI w prs∧upI w prs≤5400:=by
 have z:=xjz (f:=uprI w) (c:=450) (by decide) fun p hp=>xop (g.ok p hp) hw hh
 have l:=g.le
 unfold upI
 omega
theorem xib {ps:List Pt} {w h:Int} {ss:List Seat} {prs:List Pr} {tr:Tr} (nx:(ps.map (·.x)).Nodup) (g:GPr ps w h prs) (ht:(cans w ss prs).head?=some tr) :
    ∃ A p1 B p2 C c,prs=A ++ p1 :: (B ++ p2 :: C)∧canO w ss p1 p2=some c∧tr=(p1.1.nm,p2.1.nm,c)∧p1.1.nm≠p2.1.nm∧nxtP w ss prs=prs.map (exP p1 p2)∧nxtP w ss prs=A ++ (p1.1,p2.2) :: (B ++ (p2.1,p1.2) :: C)∧GPr ps w h (nxtP w ss prs) ∧
      (totI w (nxtP w ss prs) < totI w prs∨(p1.2.1=p2.2.1∧totI w (nxtP w ss prs)=totI w prs∧upI w prs < upI w (nxtP w ss prs))):=by
  obtain ⟨A,p1,B,p2,C,c,e,hc,et⟩:=xiz (List.mem_of_mem_head? ht)
  obtain ⟨em,ne⟩:=xo1 g.nn e
  have m1:p1 ∈ prs:=by rw [e]; simp
  have m2:p2 ∈ prs:=by rw [e]; simp
  have o1:=g.ok p1 m1
  have o2:=g.ok p2 m2
  have en:nxtP w ss prs=prs.map (exP p1 p2):=by
    unfold nxtP
    rw [ht]
    subst et
    show (match prs.find? (nmF p1.1.nm),prs.find? (nmF p2.1.nm) with
    | some p1,some p2=>prs.map (exP p1 p2)
    | _,_=>prs)=_
    rw [xis g.nn m1,xis g.nn m2]
  have el:=en.trans em
  have hm:Geo.meet (cel w p1) (cel w p2)≠none:=fun z=>by
    unfold canO at hc
    rw [z] at hc
    split at hc <;> cases hc
  have hx:p1.1.x≠p2.1.x:=x_ne nx (List.mem_of_find?_eq_some o1.fd) (List.mem_of_find?_eq_some o2.fd) ne
  have hs:(p1.2.1,p1.2.2)≠(p2.2.1,p2.2.2):=fun z=>by
    have nn:=g.ns
    rw [e,List.map_append,List.map_cons,List.nodup_append,List.nodup_cons] at nn
    exact nn.2.1.1 (by rw [show p1.2=p2.2 from z]; simp)
  have key:=Geo.ex_pair (y1:=p1.1.y) (y2:=p2.1.y) o1.xy.1 o1.xy.2.1 o2.xy.1 o2.xy.2.1 hx hs hm
  refine ⟨A,p1,B,p2,C,c,e,hc,et,ne,en,el,⟨fun p hp=>?_,?_,?_,?_⟩,?_⟩
  · rw [el] at hp
    have old:∀ q,q ∈ A∨q ∈ B∨q ∈ C→q ∈ prs:=fun q hq=>by
      rw [e]
      simp only [List.mem_append,List.mem_cons]
      rcases hq with z | z | z
      · exact .inl z
      · exact .inr (.inr (.inl z))
      · exact .inr (.inr (.inr (.inr z)))
    simp only [List.mem_append,List.mem_cons] at hp
    rcases hp with z | rfl | z | rfl | z
    · exact g.ok p (old p (.inl z))
    · exact ⟨o1.nm,o1.fd,o2.r1,o2.r2,o1.xy⟩
    · exact g.ok p (old p (.inr (.inl z)))
    · exact ⟨o2.nm,o2.fd,o1.r1,o1.r2,o2.xy⟩
    · exact g.ok p (old p (.inr (.inr z)))
  · have nn:=g.nn
    rw [e] at nn
    rw [el]
    simpa using nn
  · have nn:=g.ns
    rw [e] at nn
    rw [el]
    refine (List.Perm.nodup_iff ?_).mp nn
    simp only [List.map_append,List.map_cons]
    refine List.Perm.append_left _ ?_
    exact ((List.perm_middle.cons p1.2).trans (List.Perm.swap _ _ _)).trans (List.perm_middle.symm.cons p2.2)
  · rw [en,List.length_map]
    exact g.le
  · have t0:totI w prs=totI w A + (xaj w p1 + (totI w B + (xaj w p2 + totI w C))):=by
      unfold totI
      rw [e]
      simp
    have t1:totI w (nxtP w ss prs)=totI w A + (xaj w (p1.1,p2.2) + (totI w B + (xaj w (p2.1,p1.2) + totI w C))):=by
      unfold totI
      rw [el]
      simp
    have u0:upI w prs=upI w A + (uprI w p1 + (upI w B + (uprI w p2 + upI w C))):=by
      unfold upI
      rw [e]
      simp
    have u1:upI w (nxtP w ss prs)=upI w A + (uprI w (p1.1,p2.2) + (upI w B + (uprI w (p2.1,p1.2) + upI w C))):=by
      unfold upI
      rw [el]
      simp
    have key2:(xaj w (p1.1,p2.2) + xaj w (p2.1,p1.2) < xaj w p1 + xaj w p2)∨(p1.2.1=p2.2.1∧xaj w (p1.1,p2.2) + xaj w (p2.1,p1.2)=xaj w p1 + xaj w p2∧uprI w p1 + uprI w p2 < uprI w (p1.1,p2.2) + uprI w (p2.1,p1.2)):=key
    rcases key2 with z | ⟨z1,z2,z3⟩
    · exact .inl (by omega)
    · exact .inr ⟨z1,by omega,by omega⟩
def muP (w:Int) (prs:List Pr):Nat:=(totI w prs * 6000 + (6000 - upI w prs)).toNat
inductive StL (H:Hp):List (Tr × Int × Int)→List Addr→Prop
 | nil:StL H [] []
 | cons {p:Tr × Int × Int} {t q:Addr} {ps:List (Tr × Int × Int)} {ts:List Addr} (h:H t=some (.tup [.str p.1.1,.str p.1.2.1,.ref q,.int p.2.1,.int p.2.2])) (hq:H q=some (.tup [.int p.1.2.2.1,.int p.1.2.2.2])) (r:StL H ps ts):StL H (p :: ps) (t :: ts)
theorem StL.keep {H H':Hp} (s:Tups H H') {ps:List (Tr × Int × Int)} {ts:List Addr} (h:StL H ps ts):StL H' ps ts:=by
 induction h with
 | nil=>exact .nil
 | cons h hq _ ih=>exact .cons (s _ _ h) (s _ _ hq) ih
theorem StL.len {H:Hp} {ps:List (Tr × Int × Int)} {ts:List Addr} (h:StL H ps ts):ts.length=ps.length:=by
 induction h with
 | nil=>rfl
 | cons _ _ _ ih=>simp [ih]
theorem StL.snoc {H:Hp} {ps:List (Tr × Int × Int)} {ts:List Addr} (h:StL H ps ts) {p:Tr × Int × Int} {t q:Addr} (e:H t=some (.tup [.str p.1.1,.str p.1.2.1,.ref q,.int p.2.1,.int p.2.2])) (eq:H q=some (.tup [.int p.1.2.2.1,.int p.1.2.2.2])):StL H (ps ++ [p]) (ts ++ [t]):=by
 induction h with
 | nil=>exact .cons e eq .nil
 | cons h hq _ ih=>exact .cons h hq ih
def xpo (K:PySem.W.Frag) (t:Adr):Sp:=fun vs H Q _=>∃ (a dp do_ l:Addr) (pw ph:Int) (ps:List Pt) (ss:List Seat) (prs:List Pr) (qs:List Addr),vs=[.ref a,.ref l]∧Pic t H a dp do_ pw ph ps∧Sts H do_ ss∧H l=some (.lst (qs.map V.ref))∧PrsL H prs qs∧GPr ps pw ph prs∧(ps.map (·.x)).Nodup ∧
 ∀ (H':Hp) (tp ln ls:Addr) (n:Nat) (qs' sq:List Addr),Same H H'→H ln=none→H' tp=some (.tup [.ref ln,.ref ls])→H' ln=some (.lst (qs'.map V.ref))→PrsL H' (itP pw ss prs n) qs'→H' ls=some (.lst (sq.map V.ref))→StL H' ((List.range n).map (stP pw ss prs)) sq→(∀ k < n,(cans pw ss (itP pw ss prs k)).head?≠none)→(∀ k,GPr ps pw ph (itP pw ss prs k))→cans pw ss (itP pw ss prs n)=[]→ln≠ls→Q (.ref tp) H'
theorem xhn {ps:List Pt} {w h:Int} {ss:List Seat} {prs:List Pr} (nx:(ps.map (·.x)).Nodup) (g:GPr ps w h prs):∀ k,GPr ps w h (itP w ss prs k)
 | 0=>g
 | k + 1=>by
  have ih:=xhn (ss:=ss) nx g k
  show GPr ps w h (nxtP w ss (itP w ss prs k))
  cases e:(cans w ss (itP w ss prs k)).head? with
  | none =>
   unfold nxtP
   rw [e]
   exact ih
  | some tr =>
   obtain ⟨_,_,_,_,_,_,_,_,_,_,_,_,g',_⟩:=xib nx ih e
   exact g'
section
variable {P:Program} {w:World} {K:PySem.W.Frag} {mg:Str→Option Value} {base:Heap} {t:Adr}
theorem xg7 (T:Txt w K mg t):FnOk true P w K mg base (CXo P w) 9 t.f_uncrossed t.d_uncrossed ["picture", "pairs"] (xpo K t):=by
 refine T.F_uncrossed.okn (k:=8) xa1 (fun vs H Q E h=>?_) (fun cdv A outer s H vs Q E hr h=>?_)
 ·obtain ⟨a,dp,do_,l,pw,ph,ps,ss,prs,qs,rfl,_⟩:=h
  rfl
 ·obtain ⟨a,dp,do_,l,pw,ph,ps,ss,prs,qs,rfl,h⟩:=h
  refine ⟨_,xj (x8 (i:=2) xa1.nd rfl (Or.inl rfl) (xb7 xd8 rfl T.n_list boot_list (xa (pv 1) (xi))))
   (xj (x8 (i:=3) xa1.nd rfl (Or.inl rfl) (xbq (xi)))
   (xj (x8 (i:=4) xa1.nd rfl (Or.inl rfl) (xz (xdf T) (hr.mono (by decide)) rfl T.g_exchangeable T.F_exchangeable.kp T.b_exchangeable .nil xm (xa (pv 0) (xa (pv 2) (xi)))))
   (xj (xhi PassesOwn.never (xag xit (pv 4) (xeg) (xan _)) (xj (xbe (pv 4) (xa3 rfl (xu (xq (i:=5) xa1.nd rfl (Or.inl rfl)) (xu (xq (i:=6) xa1.nd rfl (Or.inl rfl)) (xu (xq (i:=7) xa1.nd rfl (Or.inl rfl)) (xas))))))
   (xj (x8 (i:=2) xa1.nd rfl (Or.inl rfl) (xz (xhw T) (hr.mono (by decide)) rfl T.g_exchanged T.F_exchanged.kp T.b_exchanged .nil xm (xa (pv 2) (xa (pv 5) (xa (pv 6) (xi))))))
   (xj (xaz (xeo PySem.F.plainAttrs_list PySem.F.slot_list_append PySem.F.type_list_append xbu (pv 3) (xa (xap (xa (pv 5) (xa (pv 6) (xa (pv 7) (xa (xz (xme T) (hr.mono (by decide)) rfl T.g_total T.F_total.kp T.b_total .nil xm (xa (pv 0) (xa (pv 2) (xi)))) (xa (xz (xji T) (hr.mono (by decide)) rfl T.g_upright T.F_upright.kp T.b_upright .nil xm (xa (pv 0) (xa (pv 2) (xi)))) (xi))))))) (xi))))
   (xo (x8 (i:=4) xa1.nd rfl (Or.inl rfl) (xz (xdf T) (hr.mono (by decide)) rfl T.g_exchangeable T.F_exchangeable.kp T.b_exchangeable .nil xm (xa (pv 0) (xa (pv 2) (xi))))))))))
   (xo (x4 (xap (xa (pv 2) (xa (pv 3) (xi))))))))),?_⟩
  obtain ⟨pic,st,hl,pr,g,nx,q⟩:=h
  obtain ⟨⟨dx0,hp⟩,_,w1,w2,h1,h2,_⟩:=id pic
  have gk:=xhn (ss:=ss) nx g
  refine ⟨_,rfl,l,_,rfl,.inl (SqL.of hl),fun ln0 hln0=>?_⟩
  have s1:Same H (upd H ln0 (.lst (qs.map V.ref))):=xp (Same.refl _) hln0
  have g1:upd H ln0 (.lst (qs.map V.ref)) ln0=some (.lst (qs.map V.ref)):=xb
  revert s1 g1
  generalize upd H ln0 (.lst (qs.map V.ref))=H1
  intro s1 g1
  refine ⟨(by show 0≤sizeLine; exact Nat.zero_le _),fun ls hls1=>?_⟩
  have fls:H ls=none:=s1.free hls1
  have s2:Same H1 (upd H1 ls (.lst [])):=xp (Same.refl _) hls1
  have g2:upd H1 ls (.lst []) ls=some (.lst []):=xb
  revert s2 g2
  generalize upd H1 ls (.lst [])=H2
  intro s2 g2
  have s02:=s1.trans s2
  have nls:ln0≠ls:=xk g1 hls1
  refine ⟨_,rfl,_,rfl,a,dp,do_,ln0,pw,ph,ps,ss,prs,qs,rfl,Pic.same s02 pic,st.same s02,s2 _ _ g1,pr.keep (Same.tups s02),g.ok,fun H3 v s3 tv=>?_⟩
  have s03:=s02.trans s3
  have mub:∀ k,muP pw (itP pw ss prs k) < 3300000:=fun k=>by
   have z1:=(gk k).tot w2 h2
   have z2:=(gk k).up w2 h2
   unfold muP
   omega
  refine ⟨fun m σ H5=>∃ (k:Nat) (ln:Addr) (v v5 v6 v7:Option V) (vf:V) (qs5 sq:List Addr),m=muP pw (itP pw ss prs k)∧k + m≤muP pw prs∧σ=[some (.ref a),some (.ref l),some (.ref ln),some (.ref ls),some vf,v5,v6,v7]∧Same H H5∧H ln=none∧ln≠ls∧H5 ln=some (.lst (qs5.map V.ref))∧PrsL H5 (itP pw ss prs k) qs5∧H5 ls=some (.lst (sq.map V.ref))∧StL H5 ((List.range k).map (stP pw ss prs)) sq∧(∀ j < k,(cans pw ss (itP pw ss prs j)).head?≠none)∧TrV H5 (cans pw ss (itP pw ss prs k)).head? vf,⟨_,0,ln0,none,_,_,_,v,qs,[],rfl,by show 0 + muP pw prs≤_; omega,rfl,s03,hln0,nls,s3 _ _ (s2 _ _ g1),pr.keep (Same.tups s03),s3 _ _ g2,.nil,fun j hj=>absurd hj (Nat.not_lt_zero _),tv⟩,?_⟩
  rintro m σ H5 ⟨k,ln,_,v5,v6,v7,vf,qs5,sq,rfl,km,rfl,s5,fln,nln,hln,pr5,hls5,st5,hk5,tv5⟩
  have sl:=st5.len
  rw [List.length_map,List.length_range] at sl
  have mb:=mub 0
  rcases tv5 with ⟨en,rfl⟩ | ⟨tr,qf,qc,et,rfl,hqf,hqc⟩
  ·refine ⟨_,rfl,rfl,_,rfl,ifN (by rfl) ?_⟩
   refine ⟨_,rfl,_,rfl,(by show 2≤sizeLine; decide),fun tp htp=>?_⟩
   have s6:=xp (o:=.tup [.ref ln,.ref ls]) (Same.refl _) htp
   exact q _ tp ln ls k qs5 sq (s5.trans s6) fln xb (s6 _ _ hln) (pr5.keep (Same.tups s6)) (s6 _ _ hls5) (st5.keep (Same.tups s6)) hk5 gk (List.head?_eq_none_iff.mp en) nln
  ·refine ⟨_,rfl,rfl,_,rfl,ifP (by rfl) ?_⟩
   obtain ⟨A,p1,B,p2,C,c,e,hc,et2,ne,en,el,g',dec⟩:=xib nx (gk k) et
   subst et2
   have m1:p1 ∈ itP pw ss prs k:=by rw [e]; simp
   have m2:p2 ∈ itP pw ss prs k:=by rw [e]; simp
   have mlt:muP pw (itP pw ss prs (k + 1)) < muP pw (itP pw ss prs k):=by
    have z1:=(gk k).tot w2 h2
    have z2:=(gk k).up w2 h2
    have z3:=(gk (k + 1)).tot w2 h2
    have z4:=(gk (k + 1)).up w2 h2
    have dec':totI pw (itP pw ss prs (k + 1)) < totI pw (itP pw ss prs k)∨(p1.2.1=p2.2.1∧totI pw (itP pw ss prs (k + 1))=totI pw (itP pw ss prs k)∧upI pw (itP pw ss prs k) < upI pw (itP pw ss prs (k + 1))):=dec
    unfold muP
    omega
   refine ⟨fun σ' H9=>∃ (ln:Addr) (v5 v6 v7:Option V) (vf:V) (qs5 sq:List Addr),σ'=[some (.ref a),some (.ref l),some (.ref ln),some (.ref ls),some vf,v5,v6,v7]∧Same H H9∧H ln=none∧ln≠ls∧H9 ln=some (.lst (qs5.map V.ref))∧PrsL H9 (itP pw ss prs (k + 1)) qs5∧H9 ls=some (.lst (sq.map V.ref))∧StL H9 ((List.range (k + 1)).map (stP pw ss prs)) sq∧TrV H9 (cans pw ss (itP pw ss prs (k + 1))).head? vf,?_,?_⟩
   ·rintro σ' H9 ⟨ln',v5,v6,v7,vf,qs9,sq9,e1,e2,e3,e4,e5,e6,e7,e8,e9⟩
    refine ⟨_,mlt,k + 1,ln',none,v5,v6,v7,vf,qs9,sq9,rfl,by omega,e1,e2,e3,e4,e5,e6,e7,e8,fun j hj=>?_,e9⟩
    by_cases cj:j=k
    ·subst cj
     rw [et]
     exact fun z=>nomatch z
    ·exact hk5 j (by omega)
   refine ⟨_,rfl,qf,_,rfl,SqT.of hqf,rfl,_,_,rfl,_,_,rfl,_,_,rfl,rfl,?_⟩
   refine ⟨_,rfl,_,rfl,_,rfl,ln,_,qs5,p1,p2,rfl,hln,pr5,(gk k).nn,(gk k).le,m1,m2,ne,fun H6 l6 qs6 s6 fl6 hl6 pr6=>?_⟩
   rw [← en] at pr6
   have pr6':PrsL H6 (itP pw ss prs (k + 1)) qs6:=pr6
   have s06:=s5.trans s6
   have fl6':H l6=none:=s5.free fl6
   have nl6:l6≠ls:=fun z=>by rw [z,hls5] at fl6; cases fl6
   refine ⟨_,rfl,.inl ⟨rfl,_,SqL.of (s6 _ _ hls5)⟩,_,rfl,_,rfl,_,rfl,_,rfl,_,rfl,a,dp,do_,l6,pw,ph,ps,itP pw ss prs (k + 1),qs6,rfl,Pic.same s06 pic,hl6,pr6',(gk (k + 1)).ok,(gk (k + 1)).le,fun H7 s7=>?_⟩
   have s07:=s06.trans s7
   refine ⟨_,rfl,_,rfl,a,dp,do_,l6,pw,ph,ps,itP pw ss prs (k + 1),qs6,rfl,Pic.same s07 pic,s7 _ _ hl6,pr6'.keep (Same.tups s7),(gk (k + 1)).ok,(gk (k + 1)).le,fun H8 s8=>?_⟩
   refine ⟨(by show 5≤sizeLine; decide),fun p9 hp9=>?_⟩
   have s58:=(s6.trans s7).trans s8
   have s9:=xp (o:=.tup [.str p1.1.nm,.str p2.1.nm,.ref qc,.int ((itP pw ss prs (k + 1)).map (xaj pw)).sum,.int ((itP pw ss prs (k + 1)).map (uprI pw)).sum]) (Same.refl _) hp9
   have hls8:=s9 _ _ (s58 _ _ hls5)
   refine ⟨ls,_,_,rfl,rfl,hls8,?_,?_⟩
   ·rw [List.length_map]
    exact Nat.lt_trans (by have z:muP pw prs < 3300000:=mb; omega:sq.length < 3300000) (by decide)
   have np9:p9≠ls:=Ne.symm (xk (s58 _ _ hls5) hp9)
   obtain ⟨HA,eHA⟩:∃ HA,HA=upd (upd H8 p9 (.tup [.str p1.1.nm,.str p2.1.nm,.ref qc,.int ((itP pw ss prs (k + 1)).map (xaj pw)).sum,.int ((itP pw ss prs (k + 1)).map (uprI pw)).sum])) ls (.lst (sq.map V.ref ++ [.ref p9])):=⟨_,rfl⟩
   have kA:∀ b u,b≠ls→H8 b=some u→HA b=some u:=fun b u nb e=>by
    rw [eHA,xg nb]
    exact s9 _ _ e
   have tA:Tups H8 HA:=fun b xs e=>kA _ _ (x3 e (s58 _ _ hls5) (fun z=>nomatch z)) e
   have s0A:Same H HA:=fun b u e=>kA _ _ (xk e fls) (s8 _ _ (s07 _ _ e))
   have gA:HA ls=some (.lst ((sq ++ [p9]).map V.ref)):=by
    rw [eHA,xb,List.map_append]
    rfl
   have gp:HA p9=some (.tup [.str p1.1.nm,.str p2.1.nm,.ref qc,.int ((itP pw ss prs (k + 1)).map (xaj pw)).sum,.int ((itP pw ss prs (k + 1)).map (uprI pw)).sum]):=by
    rw [eHA,xg np9]
    exact xb
   have hlA:=kA _ _ nl6 (s8 _ _ (s7 _ _ hl6))
   have prA:=((pr6'.keep (Same.tups s7)).keep (Same.tups s8)).keep tA
   have stA:=(st5.keep (Same.tups s58)).keep tA
   rw [← eHA]
   refine ⟨_,rfl,_,rfl,a,dp,do_,l6,pw,ph,ps,ss,itP pw ss prs (k + 1),qs6,rfl,Pic.same s0A pic,st.same s0A,hlA,prA,(gk (k + 1)).ok,fun HB vB sB tvB=>?_⟩
   refine ⟨l6,_,_,_,vB,qs6,sq ++ [p9],rfl,s0A.trans sB,fl6',nl6,sB _ _ hlA,prA.keep (Same.tups sB),sB _ _ gA,?_,tvB⟩
   rw [List.range_succ,List.map_append]
   refine StL.snoc (p:=stP pw ss prs k) (q:=qc) (stA.keep (Same.tups sB)) ?_ ?_
   ·have etr:trP pw ss (itP pw ss prs k)=(p1.1.nm,p2.1.nm,c):=by
     unfold trP
     rw [et]
     rfl
    unfold stP
    rw [etr]
    exact sB _ _ gp
   ·have etr:trP pw ss (itP pw ss prs k)=(p1.1.nm,p2.1.nm,c):=by
     unfold trP
     rw [et]
     rfl
    unfold stP
    rw [etr]
    exact sB _ _ (tA _ _ (s58 _ _ hqc))
end
end S53
set_option maxRecDepth 100000
set_option maxHeartbeats 4000000
namespace S53
open PySem L2 XL PyProof.Rows
theorem xhe {w:Int} {ss:List Seat}:∀ {prs:List Pr},cans w ss prs=[]→∀ (i:Nat) (P1:Pr),prs[i]?=some P1→∀ P2 ∈ prs.drop (i + 1),canO w ss P1 P2=none
 | [],_,i,P1,h,_,_=>by simp at h
 | p :: r,h,i,P1,hi,P2,h2=>by
  obtain ⟨h3,h4⟩:=List.append_eq_nil_iff.mp (show canF w ss p r ++ cans w ss r=[] from h)
  cases i with
  | zero =>
   simp at hi
   subst hi
   cases e:canO w ss p P2 with
   | none=>rfl
   | some c =>
    have m:(p.1.nm,P2.1.nm,c) ∈ canF w ss p r:=List.mem_filterMap.mpr ⟨P2,by simpa using h2,by rw [e]; rfl⟩
    rw [h3] at m
    cases m
  | succ j=>exact xhe h4 j P1 (by simpa using hi) P2 (by simpa using h2)
theorem x6.keys {H:Hp} {ss:List Seat} {rs:List Addr} (h:x6 H ss rs):∃ ts:List (List Key × Addr),ts.map (·.2)=rs∧ts.map (·.1)=ss.map xai∧∀ t ∈ ts,H t.2=some (.tup (t.1.map kV)):=by
 induction h with
 | nil=>exact ⟨[],rfl,rfl,fun t ht=>(nomatch ht)⟩
 | @cons s q ss qs h _ ih =>
  obtain ⟨ts,h1,h2,h3⟩:=ih
  refine ⟨(xai s,q) :: ts,by simp [h1],by simp [h2],fun t ht=>?_⟩
  rcases List.mem_cons.mp ht with z | z
  ·rw [z]; exact h
  ·exact h3 t z
theorem xez {H:Hp} {m:Addr} {s2:List Seat} {rs:List Addr} {Q:VK} (hm:H m=some (.lst (rs.map V.ref))) (sts:x6 H s2 rs) (nd:s2.Nodup) (len2:s2.length≤32)
    (q:∀ (l:Addr) (srt:List Seat) (qs:List Addr),H l=none→x6 H srt qs→srt.Perm s2→srt.Pairwise xee→Q (.ref l) (upd H l (.lst (qs.map V.ref)))):xh3 [.ref m] H Q:=by
  obtain ⟨ts,e1,e2,e3⟩:=sts.keys
  have lts:ts.length=s2.length:=by
    have:=congrArg List.length e2
    simpa using this
  refine ⟨m,ts,[false,true],rfl,?_,by omega,e3,fun t ht=>?_,by decide,?_,fun l4 ts4 fr4 pm4 pw4=>?_⟩
  · rw [hm,← e1,List.map_map]
    rfl
  · obtain ⟨s,_,e⟩:=List.mem_map.mp (show t.1 ∈ s2.map xai by rw [← e2]; exact List.mem_map.mpr ⟨t,ht,rfl⟩)
    rw [← e]
    rfl
  · rw [e2]
    exact xfd (fun a b e=>xga e) nd
  · have back:∀ t ∈ ts4,xai (unK t.1)=t.1:=fun t ht=>by
      obtain ⟨s,_,e⟩:=List.mem_map.mp (show t.1 ∈ s2.map xai by rw [← e2]; exact List.mem_map.mpr ⟨t,pm4.mem_iff.mp ht,rfl⟩)
      rw [← e,xh9]
    have ep:((ts4.map (·.1)).map unK).Perm s2:=by
      have z:=(pm4.map (·.1)).map unK
      have e4:(ts.map (·.1)).map unK=s2:=by
        rw [e2,List.map_map,show (unK ∘ xai)=id from funext xh9]
        exact List.map_id _
      rw [e4] at z
      exact z
    have epw:((ts4.map (·.1)).map unK).Pairwise xee:=by
      rw [List.pairwise_map] at pw4
      rw [List.map_map,List.pairwise_map]
      refine pw4.imp_of_mem fun {x y} hx hy hxy=>xmb ?_
      show lexK (xai (unK x.1)) (xai (unK y.1))=true
      rw [back x hx,back y hy]
      exact hxy
    have st4:x6 H ((ts4.map (·.1)).map unK) (ts4.map (·.2)):=by
      have tm:∀ t ∈ ts4,H t.2=some (.tup (t.1.map kV)):=fun t ht=>e3 t (pm4.mem_iff.mp ht)
      clear pm4 pw4 ep epw
      induction ts4 with
      | nil=>exact .nil
      | cons t ts ih =>
        refine .cons ?_ (ih (fun x hx=>back x (List.mem_cons_of_mem _ hx)) fun x hx=>tm x (List.mem_cons_of_mem _ hx))
        have e:=tm t List.mem_cons_self
        rw [← back t List.mem_cons_self] at e
        exact e
    have z:=q l4 _ _ fr4 st4 ep epw
    rw [List.map_map] at z
    exact z
theorem xg3 {K:PySem.W.Frag} {H:Hp} {l:Addr} {zs:List Str} (h:H l=some (.lst (zs.map V.str))):Dv K H 1 (.ref l) (.lst (zs.map DV.str)):=by
 refine .lst (SqL.of h) (by rw [List.length_map,List.length_map]) fun j x d h1 h2=>?_
 rw [List.getElem?_map] at h1 h2
 obtain ⟨z,hz,rfl⟩:=Option.map_eq_some_iff.mp h1
 rw [hz] at h2
 cases h2
 exact .str
theorem xqc (x y r:Int):(Geo.upL x y r).Nodup:=by
 unfold Geo.upL
 refine xfd (fun a b e=>?_) List.nodup_range
 have e2:=(Prod.mk.inj e).2
 unfold Geo.dn at e2
 split at e2 <;> omega
theorem xpd (w x:Int) (b:Bool) (r:Int):(Geo.lvL w x b r).Nodup:=by
 unfold Geo.lvL
 refine xfd (fun a c e=>?_) List.nodup_range
 have e2:=(Prod.mk.inj e).1
 unfold Geo.wayI at e2
 split at e2 <;> omega
theorem xha (w x y:Int) (b:Bool) (r:Int):(Geo.cells w x y b r).Nodup:=by
 unfold Geo.cells
 rw [List.nodup_append]
 refine ⟨xqc _ _ _,xpd _ _ _ _,fun c hc d hd e=>?_⟩
 subst e
 unfold Geo.upL at hc
 unfold Geo.lvL at hd
 obtain ⟨i,hi,rfl⟩:=List.mem_map.mp hc
 obtain ⟨j,hj,e⟩:=List.mem_map.mp hd
 rw [List.mem_range] at hi
 have e2:=(Prod.mk.inj e).2
 unfold Geo.upN at hi
 unfold Geo.dn at e2
 split at hi <;> split at e2 <;> omega
theorem xgt {ps:List Pt} {w h:Int} {p:Pr} (o:PrOk ps w h p):((cel w p).length:Int)=xaj w p + 1:=by
 obtain ⟨_,_,r1,r2,x1,x2,y1,y2⟩:=o
 unfold cel Geo.cells Geo.upL Geo.upN Geo.lvL Geo.lvN xaj lenI
 rw [List.length_append,List.length_map,List.length_range,List.length_map,List.length_range]
 split <;> split <;> split <;> omega
theorem xi6 {ps:List Pt} {w h:Int} {ss:List Seat} {prs:List Pr} (nx:(ps.map (·.x)).Nodup) (g:GPr ps w h prs):∀ k,(itP w ss prs k).map (·.1)=prs.map (·.1)∧((itP w ss prs k).map (·.2)).Perm (prs.map (·.2))∧totI w (itP w ss prs k)≤totI w prs
 | 0=>⟨rfl,List.Perm.refl _,Int.le_refl _⟩
 | k + 1=>by
  obtain ⟨i1,i2,i3⟩:=xi6 (ss:=ss) nx g k
  have gk:=xhn (ss:=ss) nx g k
  show (nxtP w ss (itP w ss prs k)).map (·.1)=_∧((nxtP w ss (itP w ss prs k)).map (·.2)).Perm _∧totI w (nxtP w ss (itP w ss prs k))≤_
  cases e:(cans w ss (itP w ss prs k)).head? with
  | none =>
   have en:nxtP w ss (itP w ss prs k)=itP w ss prs k:=by
    unfold nxtP
    rw [e]
   rw [en]
   exact ⟨i1,i2,i3⟩
  | some tr =>
   obtain ⟨A,p1,B,p2,C,c,e0,hc,et,ne,en,el,g',dec⟩:=xib nx gk e
   refine ⟨?_,?_,?_⟩
   ·rw [← i1,el,e0]
    simp
   ·refine List.Perm.trans ?_ i2
    rw [el,e0]
    simp only [List.map_append,List.map_cons]
    refine List.Perm.append_left _ ?_
    exact ((List.perm_middle.cons p2.2).trans (List.Perm.swap _ _ _)).trans (List.perm_middle.symm.cons p1.2)
   ·rcases dec with z | ⟨_,z,_⟩ <;> omega
def allC (w:Int) (prs:List Pr):List (Int × Int):=prs.flatMap (cel w)
theorem xip {w:Int}:∀ {prs:List Pr},(∀ (i:Nat) (P1:Pr),prs[i]?=some P1→∀ P2 ∈ prs.drop (i + 1),∀ c ∈ cel w P1,c ∉ cel w P2)→(allC w prs).Nodup
 | [],_=>List.nodup_nil
 | p :: r,h=>by
  show (cel w p ++ allC w r).Nodup
  rw [List.nodup_append]
  refine ⟨xha _ _ _ _ _,xip fun i P1 h1 P2 h2=>h (i + 1) P1 (by simpa using h1) P2 (by simpa using h2),fun c hc d hd e=>?_⟩
  subst e
  obtain ⟨P2,m2,hc2⟩:=List.mem_flatMap.mp hd
  exact h 0 p rfl P2 (by simpa using m2) c hc hc2
theorem xk9 {l m:List (Int × Int)} (h:Geo.meet l m=none):∀ c ∈ l,c ∉ m:=fun c hc hm=>by
 unfold Geo.meet at h
 rw [List.find?_eq_none] at h
 exact h c hc (decide_eq_true hm)
def xod:Sp:=fun vs H Q _=>∃ (d l:Addr) (w h:Int) (ps:List Pt) (prs:List Pr) (qs:List Addr),vs=[.int w,.ref d,.ref l]∧PD H d ps∧H l=some (.lst (qs.map V.ref))∧PrsL H prs qs∧(∀ p ∈ prs,PrOk ps w h p)∧prs.length≤12∧w≤30∧h≤16∧∀ H',Same H H'→Q (.int (prs.map (fun p=>xaj w p + 1)).sum) H'
def xm4:Sp:=fun vs H Q _=>∃ (d l:Addr) (w h:Int) (ps:List Pt) (prs:List Pr) (qs:List Addr),vs=[.int w,.ref d,.ref l]∧PD H d ps∧H l=some (.lst (qs.map V.ref))∧PrsL H prs qs∧(∀ p ∈ prs,PrOk ps w h p)∧prs.length≤12∧w≤30∧h≤16∧(allC w prs).Nodup∧∀ H',Same H H'→Q (.bl true) H'
theorem xe5 (w:Int):∀ (prs:List Pr),(prs.map (fun p=>xaj w p + 1)).sum=totI w prs + (prs.length:Int)
 | []=>rfl
 | p :: r=>by
  have ih:=xe5 w r
  unfold totI at ih ⊢
  rw [List.map_cons,List.sum_cons,List.map_cons,List.sum_cons,ih,List.length_cons]
  omega
theorem xkk {w:Int} {prs:List Pr} {i:Nat} {p:Pr} (h:prs[i]?=some p):allC w (prs.take (i + 1))=allC w (prs.take i) ++ cel w p:=by
 unfold allC
 rw [List.take_add_one,h,List.flatMap_append]
 simp
theorem xjf {w:Int} {prs:List Pr} {i:Nat} {p:Pr} (h:prs[i]?=some p):∃ R,allC w prs=allC w (prs.take i) ++ (cel w p ++ R):=by
 refine ⟨allC w (prs.drop (i + 1)),?_⟩
 obtain ⟨h1,h2⟩:=List.getElem?_eq_some_iff.mp h
 have e:prs=prs.take i ++ p :: prs.drop (i + 1):=by
  rw [← h2,← List.drop_eq_getElem_cons h1,List.take_append_drop]
 conv=>lhs; rw [e]
 unfold allC
 rw [List.flatMap_append,List.flatMap_cons]
theorem xo3 {ps:List Pt} {w h:Int} {p:Pr} (o:PrOk ps w h p) (hw:w≤30) (hh:h≤16):(cel w p).length≤46:=by
 have a:=xgt o
 have b:=xfy o hw hh
 omega
section
variable {P:Program} {w:World} {K:PySem.W.Frag} {mg:Str→Option Value} {base:Heap} {t:Adr}
theorem ok_ai (T:Txt w K mg t):FnOk true P w K mg base (CXo P w) 3 t.f_ai t.d_ai ["_law_width", "_law_points", "_law_pairs"] (xod):=by
 refine T.F_ai.okn (k:=2) sc_ai (fun vs H Q E h=>?_) (fun cdv A outer s H vs Q E hr h=>?_)
 ·obtain ⟨d,l,w,h,ps,prs,qs,rfl,_⟩:=h
  rfl
 ·obtain ⟨d,l,w,h,ps,prs,qs,rfl,h⟩:=h
  refine ⟨_,xo (x4 (xae (xeb rfl) rfl T.n_sum PyProof.Rows.Boot.«sum» (xa (xa7 rfl (xay (zs:=["_law_pair"]) (ys:=["_law_width", "_law_points"]) (fr:=[0,1]) (N0:=["_law_width", "_law_points", "_law_pairs"]) (sc0:=xh s_ai) (by decide +kernel) rfl rfl rfl) (xax (pv 2)) (fun _ _ _ _ _ ow nd=>xq (i:=0) nd rfl (Or.inl (ow _ (by simp))) (Or.inr (ow _ (by simp)))) (xa2 (by decide)) (fun _ _ _ _ _=>xa5) (fun _ _ _ _ _=>xae (r:=fun xs H Q=>∃ p ys,xs=[.ref p]∧(SqL K H p ys∨SqT K H p ys)∧Q (.int ys.length) H) xbx rfl T.n_len boot_len (xa (xz (ok_z T) (hr.mono (by decide)) rfl T.g_z T.F_z.kp T.b_z .nil xm (xa (pv 1) (xa (xcv (xbh hr) (pv 2) (xaf (r:=rIxT K) xbd (pv 0) (xl) (fun _ _=>rfl)) (fun _ _=>rfl)) (xa (xaf (r:=rIxT K) xbd (pv 0) (xl) (fun _ _=>rfl)) (xa (xaf (r:=rIxT K) xbd (pv 0) (xl) (fun _ _=>rfl)) (xi)))))) (xi)))) (xi)))),?_⟩
  obtain ⟨pd,hl,pr,ok,len,w2,h2,q⟩:=h
  have ql:=pr.len
  refine ⟨_,rfl,l,rfl,⟨_,SqL.of hl⟩,fun l1 hl1=>?_⟩
  refine xbw (SqL.of hl) (by rw [List.length_map]; exact Nat.lt_trans (by omega:qs.length < 13) (by decide)) hl1 (fun i y H=>∃ p,prs[i]?=some p∧y=.int (xaj w p + 1)) (fun i y H H' tp h=>h) (fun i x H2 hx s2 N hN=>?_) (fun ys H2 s2 el ly f=>?_)
  ·rw [List.getElem?_map] at hx
   obtain ⟨o,ho,rfl⟩:=Option.map_eq_some_iff.mp hx
   obtain ⟨p,hpp,ep⟩:=(pr.keep (Same.tups s2)).get ho
   have okp:=ok p (List.mem_of_getElem? hpp)
   obtain ⟨q1,dg1,hq1⟩:=(pd.same s2).get okp.fd
   obtain ⟨x1,x2,y1,y2⟩:=okp.xy
   have kr1:=okp.r1
   have kr2:=okp.r2
   refine ⟨_,rfl,_,rfl,_,rfl,o,_,0,_,rfl,rfl,SqT.of ep,rfl,d,_,rfl,dg1,_,rfl,o,_,1,_,rfl,rfl,SqT.of ep,rfl,_,rfl,o,_,2,_,rfl,rfl,SqT.of ep,rfl,q1,w,p.2.2,p.1,p.2.1,rfl,hq1,⟨x1,x2,w2⟩,⟨y1,by omega⟩,⟨kr1,by omega⟩,fun H3 l3 qs3 s3 hl3 cl3 ql3=>?_⟩
   refine ⟨l3,_,rfl,.inl (SqL.of hl3),hN _ _ s3 ⟨p,hpp,?_⟩⟩
   rw [List.length_map,cl3.len]
   congr 1
   exact xgt okp
  ·have ey:ys=(prs.map (fun p=>xaj w p + 1)).map V.int:=by
    rw [List.length_map,ql] at ly
    rw [List.map_map]
    refine xg1 ly fun i y p hy hp=>?_
    obtain ⟨p',a1,a2⟩:=f i y hy
    rw [hp] at a1
    cases a1
    exact a2
   subst ey
   refine ⟨l1,prs.map (fun p=>xaj w p + 1),rfl,SqL.of el,⟨by rw [List.length_map]; omega,fun n hn=>?_⟩,q _ s2⟩
   obtain ⟨p,hp',rfl⟩:=List.mem_map.mp hn
   have:=xfy (ok p hp') w2 h2
   omega
theorem ok_ad (T:Txt w K mg t):FnOk true P w K mg base (CXo P w) 3 t.f_ad t.d_ad ["_law_width", "_law_points", "_law_pairs"] (xm4):=by
 refine T.F_ad.okn (k:=2) sc_ad (fun vs H Q E h=>?_) (fun cdv A outer s H vs Q E hr h=>?_)
 ·obtain ⟨d,l,w,h,ps,prs,qs,rfl,_⟩:=h
  rfl
 ·obtain ⟨d,l,w,h,ps,prs,qs,rfl,h⟩:=h
  refine ⟨_,xj (x8 (i:=3) sc_ad.nd rfl (Or.inl rfl) (xhx))
   (xj (xbl PassesOwn.never rfl (xax (pv 2)) (xa3 rfl (xu (xq (i:=4) sc_ad.nd rfl (Or.inl rfl)) (xu (xq (i:=5) sc_ad.nd rfl (Or.inl rfl)) (xu (xq (i:=6) sc_ad.nd rfl (Or.inl rfl)) (xas))))) (xo (xbl PassesOwn.never rfl (xax (xz (ok_z T) (hr.mono (by decide)) rfl T.g_z T.F_z.kp T.b_z .nil xm (xa (pv 0) (xa (xcv (xbh hr) (pv 1) (pv 4) (fun _ _=>rfl)) (xa (pv 5) (xa (pv 6) (xi))))))) (xq (i:=7) sc_ad.nd rfl (Or.inl rfl)) (xj (xal (xdn (xef (xbh hr) (pv 7) (pv 3))) (xo (x4 (xb9))) (xaa))
   (xo (xes (xbh hr) (pv 3) (pv 7) (xb9) rfl))))))
   (xo (x4 (xb9)))),?_⟩
  obtain ⟨pd,hl,pr,ok,len,w2,h2,nd,q⟩:=h
  have ql:=pr.len
  refine fun dd hdd=>?_
  have s0:Same H (upd H dd (.dT [])):=xp (Same.refl _) hdd
  refine ⟨_,rfl,l,rfl,⟨_,SqL.of (s0 _ _ hl)⟩,?_⟩
  refine xch (xs:=qs.map V.ref) (Pv:=fun i σ H5=>∃ (v4 v5 v6 v7:Option V) (kvs:List (List Key × V)),σ=[some (.int w),some (.ref d),some (.ref l),some (.ref dd),v4,v5,v6,v7]∧Same H H5∧H5 dd=some (.dT kvs)∧kvs.length≤46 * i∧∀ c:Int × Int,(valV kvs (ck c)).isSome=true ↔ c ∈ allC w (prs.take i)) ⟨_,_,_,_,[],rfl,s0,xb,Nat.le_refl _,fun c=>by simp [valV,allC]⟩ (fun _ _ _ _ ⟨_,_,_,_,_,_,z,_⟩=>SqL.of (z _ _ hl)) ?_ ?_
  ·rintro i v σ H5 hv ⟨v4,v5,v6,v7,kvs,rfl,s5,hd5,kl,mem⟩
   rw [List.getElem?_map] at hv
   obtain ⟨o,ho,rfl⟩:=Option.map_eq_some_iff.mp hv
   obtain ⟨p,hp,ep⟩:=pr.get ho
   have hi:i < 12:=by
    have:=(List.getElem?_eq_some_iff.mp hp).1
    omega
   have okp:=ok p (List.mem_of_getElem? hp)
   obtain ⟨q1,dg1,hq1⟩:=(pd.same s5).get okp.fd
   obtain ⟨x1,x2,y1,y2⟩:=okp.xy
   have kr1:=okp.r1
   have kr2:=okp.r2
   have cle:=xo3 okp w2 h2
   obtain ⟨R,eR⟩:=xjf (w:=w) hp
   refine ⟨o,_,rfl,SqT.of (s5 _ _ ep),rfl,_,_,rfl,_,_,rfl,_,_,rfl,rfl,?_⟩
   refine ⟨_,rfl,_,rfl,_,rfl,d,_,rfl,dg1,_,rfl,_,rfl,q1,w,p.2.2,p.1,p.2.1,rfl,hq1,⟨x1,x2,w2⟩,⟨y1,by omega⟩,⟨kr1,by omega⟩,fun H6 l6 qs6 s6 hl6 cl6 ql6=>⟨l6,rfl,⟨_,SqL.of hl6⟩,?_⟩⟩
   have hd6:=s6 _ _ hd5
   have n6:l6≠dd:=x3 hl6 hd6 (fun z=>nomatch z)
   refine xch (xs:=qs6.map V.ref) (Pv:=fun j σ H7=>∃ (v7:Option V) (kvs:List (List Key × V)),σ=[some (.int w),some (.ref d),some (.ref l),some (.ref dd),some (.str p.1.nm),some (.str (xx p.2.1)),some (.int p.2.2),v7]∧(∀ b u,b≠dd→H6 b=some u→H7 b=some u)∧H7 dd=some (.dT kvs)∧kvs.length≤46 * i + j∧∀ c:Int × Int,(valV kvs (ck c)).isSome=true ↔ c ∈ allC w (prs.take i) ++ (cel w p).take j) ⟨_,kvs,rfl,fun b u _ e=>e,hd6,by omega,fun c=>by rw [mem c]; simp⟩ (fun _ _ _ _ ⟨_,_,_,z,_⟩=>SqL.of (z _ _ n6 hl6)) ?_ ?_
   ·rintro j v σ H7 hv ⟨v7,kvs7,rfl,k7,hd7,kl7,mem7⟩
    rw [List.getElem?_map] at hv
    obtain ⟨q7,hq7,rfl⟩:=Option.map_eq_some_iff.mp hv
    obtain ⟨c,hc,hcq⟩:=cl6.get hq7
    have hc':(cel w p)[j]?=some c:=hc
    have hj:=(List.getElem?_eq_some_iff.mp hc').1
    have hcq7:H7 q7=some (.tup ((ck c).map kV)):=k7 _ _ (x3 hcq hd6 (fun z=>nomatch z)) hcq
    have nin:¬ (valV kvs7 (ck c)).isSome=true:=fun z=>by
     have m:=(mem7 c).mp z
     rw [eR] at nd
     obtain ⟨h3,h4⟩:=List.getElem?_eq_some_iff.mp hc'
     rcases List.mem_append.mp m with y | y
     ·rw [List.nodup_append] at nd
      exact nd.2.2 _ y _ (List.mem_append_left _ (List.mem_of_getElem? hc')) rfl
     ·have n1:(cel w p).Nodup:=xha _ _ _ _ _
      rw [← List.take_append_drop j (cel w p),List.drop_eq_getElem_cons h3,List.nodup_append] at n1
      exact n1.2.2 _ y _ (by rw [h4]; exact List.mem_cons_self) rfl
    have l2:=xbj kvs7 (ck c) (.bl true)
    refine ⟨_,rfl,_,rfl,dd,_,rfl,DGet.t (k:=ck c) hd7 hcq7,_,rfl,ifN (Bool.eq_false_iff.mpr nin) ?_⟩
    refine ⟨_,rfl,_,rfl,dd,_,rfl,DPut.t (k:=ck c) hd7 hcq7 (Nat.lt_trans (by omega:kvs7.length < 1000) (by decide)),_,putK kvs7 (ck c) (.bl true),rfl,fun b u nb e=>?_,xb,by omega,fun c'=>?_⟩
    ·rw [xg nb]
     exact k7 _ _ nb e
    ·rw [xdp,List.take_add_one,hc',← List.append_assoc,List.mem_append]
     by_cases e:ck c'=ck c
     ·have:=xlp e
      subst this
      simp
     ·have ne:c'≠c:=fun z=>e (by rw [z])
      rw [if_neg e,mem7 c']
      simp [ne]
   ·rintro σ H7 ⟨v7,kvs7,rfl,k7,hd7,kl7,mem7⟩
    rw [List.length_map,cl6.len] at kl7 mem7
    refine ⟨_,_,_,_,kvs7,rfl,fun b u e=>k7 _ _ (xk e hdd) (s6 _ _ (s5 _ _ e)),hd7,?_,fun c=>?_⟩
    ·have:(Geo.cells w p.1.x p.1.y p.2.1 p.2.2).length≤46:=cle
     omega
    ·rw [mem7 c,xkk hp,show (Geo.cells w p.1.x p.1.y p.2.1 p.2.2)=cel w p from rfl,List.take_length]
  ·rintro σ H5 ⟨v4,v5,v6,v7,kvs,rfl,s5,hd5,kl,mem⟩
   exact q _ s5
end
end S53
set_option maxRecDepth 100000
set_option maxHeartbeats 4000000
namespace S53
open PySem L2 XL PyProof.Rows
theorem xho {ps:List Pt} {ss:List Seat} {w h:Int} {P1 P2:Pr} (fr:∀ p ∈ ps,p.sd="both"∧p.lo=1∧p.hi=h) (o1:PrOk ps w h P1) (o2:PrOk ps w h P2) (m:P2.2 ∈ ss):mayB ss P1.1 P2.2=true:=by
 obtain ⟨e1,e2,e3⟩:=fr P1.1 (List.mem_of_find?_eq_some o1.fd)
 unfold mayB xfc
 rw [decide_eq_true m,e1,e2,e3,decide_eq_true o2.r1,decide_eq_true o2.r2]
 rfl
theorem xlw {ps:List Pt} {ss:List Seat} {w h:Int} {P1 P2:Pr} (fr:∀ p ∈ ps,p.sd="both"∧p.lo=1∧p.hi=h) (o1:PrOk ps w h P1) (o2:PrOk ps w h P2) (m1:P1.2 ∈ ss) (m2:P2.2 ∈ ss) (hc:canO w ss P1 P2=none):Geo.meet (cel w P1) (cel w P2)=none:=by
 unfold canO excB at hc
 rw [xho fr o1 o2 m2,xho fr o2 o1 m1] at hc
 exact hc
def xgz (K:PySem.W.Frag):Sp:=fun vs H Q _=>∃ (a:Addr) (ns:List Int),vs=[.ref a]∧SqL K H a (ns.map V.int)∧ns.length≤63∧∀ H',Q (.bl true) H'
section
variable {P:Program} {w:World} {K:PySem.W.Frag} {mg:Str→Option Value} {base:Heap} {t:Adr}
theorem xov (T:Txt w K mg t):FnOk true P w K mg base (CXo P w) 10 t.f_law t.d_law ["_law_script"] (xgz K):=by
 refine T.F_law.okn (k:=9) xc3 (fun vs H Q E h=>?_) (fun cdv A outer s H vs Q E hr h=>?_)
 ·obtain ⟨sc,ns,rfl,_⟩:=h
  rfl
 ·obtain ⟨sc,ns,rfl,h⟩:=h
  refine ⟨_,xj (xbe (xz (ok_x T) (hr.mono (by decide)) rfl T.g_x T.F_x.kp T.b_x .nil xm (xa (xz (ok_af T) (hr.mono (by decide)) rfl T.g_af T.F_af.kp T.b_af .nil xm (xa (pv 0) (xa (xl) (xi)))) (xa (xl) (xa (xl) (xa (xl) (xa (xb9) (xi))))))) (xa3 rfl (xu (xq (i:=1) xc3.nd rfl (Or.inl rfl)) (xu (xq (i:=2) xc3.nd rfl (Or.inl rfl)) (xas)))))
   (xj (x8 (i:=3) xc3.nd rfl (Or.inl rfl) (xz (ok_u T) (hr.mono (by decide)) rfl T.g_u T.F_u.kp T.b_u .nil xm (xa (pv 1) (xa (xz (ok_af T) (hr.mono (by decide)) rfl T.g_af T.F_af.kp T.b_af .nil xm (xa (pv 0) (xa (xl) (xi)))) (xi)))))
   (xj (xbl PassesOwn.never rfl (xgj rfl T.n_range (xa (xl) (xa (xae (xgq rfl) rfl T.n_max boot_max (xa (xl) (xa (xae (xf8 rfl) rfl T.n_min boot_min (xa (xae xbx rfl T.n_len boot_len (xa (pv 0) (xi))) (xa (xl) (xi)))) (xi)))) (xi)))) (xq (i:=4) xc3.nd rfl (Or.inl rfl)) (xj (x8 (i:=5) xc3.nd rfl (Or.inl rfl) (xz (ok_ab T) (hr.mono (by decide)) rfl T.g_ab T.F_ab.kp T.b_ab .nil xm (xa (pv 2) (xa (pv 3) (xa (xz (ok_af T) (hr.mono (by decide)) rfl T.g_af T.F_af.kp T.b_af .nil xm (xa (pv 0) (xa (pv 4) (xi)))) (xi))))))
   (xj (x8 (i:=6) xc3.nd rfl (Or.inl rfl) (xaf xbd (xz (xg7 T) (hr.mono (by decide)) rfl T.g_uncrossed T.F_uncrossed.kp T.b_uncrossed .nil xm (xa (pv 1) (xa (xb7 xd8 rfl T.n_list boot_list (xa (pv 5) (xi))) (xi)))) (xl) (fun _ _=>rfl)))
   (xj (xal (PW.pt (xdt (xbr (xa9 (xae xb5 rfl T.n_isinstance boot_isinstance (xa (pv 6) (xa (xc0 (v:=.ty "list") rfl T.n_list boot_list rfl) (xi)))))) (xc7 (xag (xhf (xdh hr)) (xa7 rfl (xay (zs:=["_law_pair"]) (ys:=[]) (fr:=[]) (N0:=["_law_script", "_law_picture", "_law_points", "_law_seats", "_law_k", "_law_pairs", "_law_found"]) (sc0:=xh xcd) (by decide +kernel) rfl rfl rfl) (xax (pv 6)) (fun _ _ _ _ _ ow nd=>xq (i:=0) nd rfl (Or.inl (ow _ (by simp))) (Or.inr (ow _ (by simp)))) (xa2 (by decide)) (fun _ _ _ _ _=>xa5) (fun _ _ _ _ _=>xaf (r:=rIxT K) xbd (pv 0) (xl) (fun _ _=>rfl))) (xa7 rfl (xay (zs:=["_law_pair"]) (ys:=[]) (fr:=[]) (N0:=["_law_script", "_law_picture", "_law_points", "_law_seats", "_law_k", "_law_pairs", "_law_found"]) (sc0:=xh xcd) (by decide +kernel) rfl rfl rfl) (xax (pv 5)) (fun _ _ _ _ _ ow nd=>xq (i:=0) nd rfl (Or.inl (ow _ (by simp))) (Or.inr (ow _ (by simp)))) (xa2 (by decide)) (fun _ _ _ _ _=>xa5) (fun _ _ _ _ _=>xaf (r:=rIxT K) xbd (pv 0) (xl) (fun _ _=>rfl))) (xan _))))) (xo (x4 (xb9))) (xaa))
   (xj (xal (xag (xhf (xdh hr)) (xae (xea rfl) rfl T.n_sorted PyProof.Rows.Boot.«sorted» (xa (xa7 rfl (xay (zs:=["_law_pair"]) (ys:=[]) (fr:=[]) (N0:=["_law_script", "_law_picture", "_law_points", "_law_seats", "_law_k", "_law_pairs", "_law_found"]) (sc0:=xh xcd) (by decide +kernel) rfl rfl rfl) (xax (pv 6)) (fun _ _ _ _ _ ow nd=>xq (i:=0) nd rfl (Or.inl (ow _ (by simp))) (Or.inr (ow _ (by simp)))) (xa2 (by decide)) (fun _ _ _ _ _=>xa5) (fun _ _ _ _ _=>xci (r:=rSlT K) xht (pv 0) (xcy (xl)) xcw)) (xi))) (xae (xea rfl) rfl T.n_sorted PyProof.Rows.Boot.«sorted» (xa (xa7 rfl (xay (zs:=["_law_pair"]) (ys:=[]) (fr:=[]) (N0:=["_law_script", "_law_picture", "_law_points", "_law_seats", "_law_k", "_law_pairs", "_law_found"]) (sc0:=xh xcd) (by decide +kernel) rfl rfl rfl) (xax (pv 5)) (fun _ _ _ _ _ ow nd=>xq (i:=0) nd rfl (Or.inl (ow _ (by simp))) (Or.inr (ow _ (by simp)))) (xa2 (by decide)) (fun _ _ _ _ _=>xa5) (fun _ _ _ _ _=>xci (r:=rSlT K) xht (pv 0) (xcy (xl)) xcw)) (xi))) (xan _)) (xo (x4 (xb9))) (xaa))
   (xj (xal (xag xjj (xz (ok_ai T) (hr.mono (by decide)) rfl T.g_ai T.F_ai.kp T.b_ai .nil xm (xa (xac (pv 1) rfl) (xa (pv 2) (xa (pv 6) (xi))))) (xz (ok_ai T) (hr.mono (by decide)) rfl T.g_ai T.F_ai.kp T.b_ai .nil xm (xa (xac (pv 1) rfl) (xa (pv 2) (xa (pv 5) (xi))))) (xan _)) (xo (x4 (xb9))) (xaa))
   (xo (xal (xbr (xa9 (xz (ok_ad T) (hr.mono (by decide)) rfl T.g_ad T.F_ad.kp T.b_ad .nil xm (xa (xac (pv 1) rfl) (xa (pv 2) (xa (pv 6) (xi))))))) (xo (x4 (xb9))) (xaa)))))))))
   (xo (x4 (xb9))))),?_⟩
  obtain ⟨hs,n63,q⟩:=h
  refine ⟨_,rfl,sc,ns,0,rfl,hs,by decide,by decide,fun c0=>⟨c0,rfl,fun H1 tp a dp do_ d w h ps kvs s1 htp pic hdt pok p7 pfr hd lp ndp fd fdo=>⟨tp,_,rfl,SqT.of htp,rfl,_,_,rfl,_,_,rfl,rfl,?_⟩⟩⟩
  have hs1:=Same.seqL s1 hs
  have w2:=pic.w2
  have h2:=pic.h2
  refine ⟨_,rfl,_,rfl,sc,ns,1,rfl,hs1,by decide,by decide,fun c1=>⟨a,dp,do_,w,h,c1,ps,rfl,pic,hdt,fun H3 ls ss rs k2 fls pic2 st2 sok hls sl=>?_⟩⟩
  have s03:Same H H3:=fun b u e=>k2 _ _ (xk e fdo) (s1 _ _ e)
  have hd3:=k2 _ _ (x3 hd hdt (fun z=>nomatch z)) hd
  have lp2:Lp H3 ps kvs:=Lp.keepL (fun b xs e=>k2 _ _ (x3 e hdt (fun z=>nomatch z)) e) lp
  have hs3:=Same.seqL s03 hs
  refine ⟨_,rfl,sc,_,rfl,.inl hs3,_,_,rfl,_,_,rfl,2,_,rfl,⟨by decide,by decide,?_,?_⟩,?_⟩
  ·rw [List.length_map]
   split <;> split <;> omega
  ·rw [List.length_map]
   split <;> split <;> omega
  rw [List.length_map]
  have kk:∀ {H5:Hp},(∀ b u,b≠d→H3 b=some u→H5 b=some u)→Pic t H5 a dp do_ w h ps∧Sts H5 do_ ss∧H5 ls=some (.lst (rs.map V.ref))∧x6 H5 ss rs∧Lp H5 ps kvs∧Same H H5:=fun {H5} k=>by
   have t5:Tups H3 H5:=fun b xs e=>k _ _ (x3 e hd3 (fun z=>nomatch z)) e
   refine ⟨?_,?_,k _ _ (x3 hls hd3 (fun z=>nomatch z)) hls,sl.keep t5,Lp.keepL (fun b xs e=>k _ _ (x3 e hd3 (fun z=>nomatch z)) e) lp2,fun b u e=>k _ _ (xk e fd) (s03 _ _ e)⟩
   ·obtain ⟨⟨dx,e1⟩,⟨kv,e2,e3⟩,r1,r2,r3,r4,r5⟩:=pic2
    exact ⟨⟨dx,k _ _ (x3 e1 hd3 (fun z=>nomatch z)) e1⟩,⟨kv,k _ _ (Ne.symm ndp) e2,e3.keep t5⟩,r1,r2,r3,r4,r5⟩
   ·obtain ⟨kv,e,r⟩:=st2
    exact ⟨kv,k _ _ (x3 e hd3 (fun z=>nomatch z)) e,r⟩
  refine xdb (Pv:=fun i σ H5=>∃ (v4 v5 v6:Option V),σ=[some (.ref sc),some (.ref a),some (.ref d),some (.ref ls),v4,v5,v6]∧(∀ b u,b≠d→H3 b=some u→H5 b=some u)∧(H5 d=some (.dK kvs)∨∃ ob,H5 d=some (.frz ob (.dK kvs)))) ⟨_,_,_,rfl,fun b u _ e=>e,.inl hd3⟩ ?_ ?_
  ·rintro i σ H5 hi ⟨v4,v5,v6,rfl,k5,hd5⟩
   obtain ⟨pic5,st5,hls5,sl5,lp5,s05⟩:=kk k5
   have ib:i < 64:=by
    split at hi <;> split at hi <;> omega
   refine ⟨_,rfl,_,rfl,_,rfl,_,rfl,sc,ns,2 + (i:Int),rfl,Same.seqL s05 hs,by omega,by omega,fun c=>⟨d,ls,c,w,h,ps,kvs,ss,rs,rfl,hd5,lp5,by omega,pok,hls5,sl5,sok,fun ob H6 lq prs qs s6 hlq pr6 ok6 len6 in6 nn6 ns6=>?_⟩⟩
   have k6:∀ b u,b≠d→H3 b=some u→H6 b=some u:=fun b u nb e=>s6 _ _ (by rw [xg nb]; exact k5 _ _ nb e)
   have hd6:H6 d=some (.frz ob (.dK kvs)):=s6 _ _ xb
   obtain ⟨pic6,st6,hls6,sl6,lp6,s06⟩:=kk k6
   have pd6:PD H6 d ps:=⟨kvs,.inr ⟨ob,hd6⟩,lp6⟩
   have g:GPr ps w h prs:=⟨ok6,nn6,ns6,len6⟩
   refine ⟨_,rfl,_,rfl,lq,_,rfl,.inl (SqL.of hlq),fun l7 hl7=>?_⟩
   have s7:Same H6 (upd H6 l7 (.lst (qs.map V.ref))):=xp (Same.refl _) hl7
   have g7:upd H6 l7 (.lst (qs.map V.ref)) l7=some (.lst (qs.map V.ref)):=xb
   revert s7 g7
   generalize upd H6 l7 (.lst (qs.map V.ref))=H7
   intro s7 g7
   refine ⟨a,dp,do_,l7,w,h,ps,ss,prs,qs,rfl,Pic.same s7 pic6,st6.same s7,g7,pr6.keep (Same.tups s7),g,pok.nx,fun H8 tp8 ln lx n qn sq s8 fln htp8 hln prn hlx stl hk gk cn nlx=>⟨tp8,_,0,_,rfl,rfl,SqT.of htp8,rfl,?_⟩⟩
   have s68:=s7.trans s8
   obtain ⟨e1,e2,e3⟩:=xi6 (ss:=ss) pok.nx g n
   have ec:(itP w ss prs n).map (·.1.nm)=prs.map (·.1.nm):=by
    have z:=congrArg (List.map fun p:Pt=>p.nm) e1
    rw [List.map_map,List.map_map] at z
    exact z
   have elen:(itP w ss prs n).length=prs.length:=by
    have z:=congrArg List.length e1
    simpa using z
   have nl:=prn.len
   have ql:=pr6.len
   refine ⟨_,rfl,_,_,rfl,.inl ⟨_,_,true,.lst hln,rfl,xb4,true,rfl,ifN (by decide) ?_⟩⟩
   refine ⟨_,rfl,ln,rfl,⟨_,SqL.of hln⟩,fun la hla=>?_⟩
   refine xbw (SqL.of hln) (by rw [List.length_map]; exact Nat.lt_trans (by omega:qn.length < 13) (by decide)) hla (fun i y _=>∃ p,(itP w ss prs n)[i]?=some p∧y=.str p.1.nm) (fun _ _ _ _ _ z=>z) (fun i z H2 hz s2 N hN=>?_) (fun ys H9 s9 el9 ly9 f9=>?_)
   ·rw [List.getElem?_map] at hz
    obtain ⟨o,ho,rfl⟩:=Option.map_eq_some_iff.mp hz
    obtain ⟨p,hpp,ep⟩:=(prn.keep (Same.tups s2)).get ho
    exact ⟨_,rfl,o,_,0,_,rfl,rfl,SqT.of ep,rfl,hN _ _ (Same.refl _) ⟨p,hpp,rfl⟩⟩
   have ey:ys=((itP w ss prs n).map (·.1.nm)).map V.str:=by
    rw [List.map_map]
    refine xg1 (by rw [ly9,List.length_map,nl]) fun i y p hy hp=>?_
    obtain ⟨p',a1,a2⟩:=f9 i y hy
    rw [hp] at a1
    cases a1
    exact a2
   subst ey
   have s69:=s68.trans s9
   have hlq9:=s69 _ _ hlq
   refine ⟨_,rfl,lq,rfl,⟨_,SqL.of hlq9⟩,fun lb hlb=>?_⟩
   refine xbw (SqL.of hlq9) (by rw [List.length_map]; exact Nat.lt_trans (by omega:qs.length < 13) (by decide)) hlb (fun i y _=>∃ p,prs[i]?=some p∧y=.str p.1.nm) (fun _ _ _ _ _ z=>z) (fun i z H2 hz s2 N hN=>?_) (fun ys HA sA elA lyA fA=>?_)
   ·rw [List.getElem?_map] at hz
    obtain ⟨o,ho,rfl⟩:=Option.map_eq_some_iff.mp hz
    obtain ⟨p,hpp,ep⟩:=((pr6.keep (Same.tups s69)).keep (Same.tups s2)).get ho
    exact ⟨_,rfl,o,_,0,_,rfl,rfl,SqT.of ep,rfl,hN _ _ (Same.refl _) ⟨p,hpp,rfl⟩⟩
   have ey:ys=(prs.map (·.1.nm)).map V.str:=by
    rw [List.map_map]
    refine xg1 (by rw [lyA,List.length_map,ql]) fun i y p hy hp=>?_
    obtain ⟨p',a1,a2⟩:=fA i y hy
    rw [hp] at a1
    cases a1
    exact a2
   subst ey
   refine ⟨1,1,_,_,xg3 (sA _ _ el9),xg3 elA,by decide,by decide,_,rfl,ifN (by rw [ec,xc5]; decide) ?_⟩
   have s8A:=s9.trans sA
   have s6A:=s68.trans s8A
   have hlnA:=s8A _ _ hln
   have prnA:=prn.keep (Same.tups s8A)
   refine ⟨_,rfl,ln,rfl,⟨_,SqL.of hlnA⟩,fun lc hlc=>?_⟩
   refine xbw (SqL.of hlnA) (by rw [List.length_map]; exact Nat.lt_trans (by omega:qn.length < 13) (by decide)) hlc (fun i y H=>∃ p q,(itP w ss prs n)[i]?=some p∧y=.ref q∧H q=some (.tup (xbk p.2))) (fun i y H H' tp ⟨p,q,a1,a2,a3⟩=>⟨p,q,a1,a2,tp _ _ a3⟩) (fun i z H2 hz s2 N hN=>?_) (fun ys HB sB elB lyB fB=>?_)
   ·rw [List.getElem?_map] at hz
    obtain ⟨o,ho,rfl⟩:=Option.map_eq_some_iff.mp hz
    obtain ⟨p,hpp,ep⟩:=(prnA.keep (Same.tups s2)).get ho
    exact ⟨_,rfl,1,rfl,o,prV p,rfl,SqT.of ep,(fun z=>absurd z.1 (by show ¬ ((1:Nat)=0); decide)),fun q hq=>hN _ _ (xp (Same.refl _) hq) ⟨p,q,hpp,rfl,xb⟩⟩
   rw [List.length_map,nl] at lyB
   obtain ⟨rB,rfl,slB⟩:=x6.pick (H:=HB) (ss:=(itP w ss prs n).map (·.2)) (ys:=ys) (by rw [lyB,List.length_map]) (fun j y s hy hs=>by
    obtain ⟨p,q',a1,a2,a3⟩:=fB j y hy
    rw [List.getElem?_map,a1] at hs
    cases hs
    exact ⟨q',a2,a3⟩)
   dsimp only [tNil]
   refine xez elB slB (gk n).ns (by rw [List.length_map]; have:=(gk n).le; omega) fun l1 srt1 rs1 fr1 sl1 pm1 pw1=>?_
   have sC:Same HB (upd HB l1 (.lst (rs1.map V.ref))):=xp (Same.refl _) fr1
   have gC:upd HB l1 (.lst (rs1.map V.ref)) l1=some (.lst (rs1.map V.ref)):=xb
   revert sC gC
   generalize upd HB l1 (.lst (rs1.map V.ref))=HC
   intro sC gC
   have s6C:=(s6A.trans sB).trans sC
   have hlqC:=s6C _ _ hlq
   have prC:=pr6.keep (Same.tups s6C)
   refine ⟨_,rfl,lq,rfl,⟨_,SqL.of hlqC⟩,fun ld hld=>?_⟩
   refine xbw (SqL.of hlqC) (by rw [List.length_map]; exact Nat.lt_trans (by omega:qs.length < 13) (by decide)) hld (fun i y H=>∃ p q,prs[i]?=some p∧y=.ref q∧H q=some (.tup (xbk p.2))) (fun i y H H' tp ⟨p,q,a1,a2,a3⟩=>⟨p,q,a1,a2,tp _ _ a3⟩) (fun i z H2 hz s2 N hN=>?_) (fun ys HD sD elD lyD fD=>?_)
   ·rw [List.getElem?_map] at hz
    obtain ⟨o,ho,rfl⟩:=Option.map_eq_some_iff.mp hz
    obtain ⟨p,hpp,ep⟩:=(prC.keep (Same.tups s2)).get ho
    exact ⟨_,rfl,1,rfl,o,prV p,rfl,SqT.of ep,(fun z=>absurd z.1 (by show ¬ ((1:Nat)=0); decide)),fun q hq=>hN _ _ (xp (Same.refl _) hq) ⟨p,q,hpp,rfl,xb⟩⟩
   rw [List.length_map,ql] at lyD
   obtain ⟨rD,rfl,slD⟩:=x6.pick (H:=HD) (ss:=prs.map (·.2)) (ys:=ys) (by rw [lyD,List.length_map]) (fun j y s hy hs=>by
    obtain ⟨p,q',a1,a2,a3⟩:=fD j y hy
    rw [List.getElem?_map,a1] at hs
    cases hs
    exact ⟨q',a2,a3⟩)
   dsimp only [tNil]
   refine xez elD slD ns6 (by rw [List.length_map]; omega) fun l2 srt2 rs2 fr2 sl2 pm2 pw2=>?_
   obtain rfl:srt2=srt1:=xet xli (pm2.trans (e2.symm.trans pm1.symm)) pw2 pw1
   have sE:Same HD (upd HD l2 (.lst (rs2.map V.ref))):=xp (Same.refl _) fr2
   have gE:upd HD l2 (.lst (rs2.map V.ref)) l2=some (.lst (rs2.map V.ref)):=xb
   revert sE gE
   generalize upd HD l2 (.lst (rs2.map V.ref))=HE
   intro sE gE
   refine ⟨2,2,.lst (srt2.map xbc),.lst (srt2.map xbc),(((sl1.keep (Same.tups sC)).keep (Same.tups sD)).keep (Same.tups sE)).dv (sE _ _ (sD _ _ gC)),(sl2.keep (Same.tups sE)).dv gE,by decide,by decide,_,rfl,ifN (by rw [xc5]; decide) ?_⟩
   have s6E:=(s6C.trans sD).trans sE
   have s8E:=(((s8A.trans sB).trans sC).trans sD).trans sE
   have picE:=Pic.same s6E pic6
   obtain ⟨⟨dxE,hpE⟩,_⟩:=id picE
   refine ⟨_,rfl,a,_,_,_,_,rfl,hpE,T.c_j,T.n_an,lkW,_,rfl,_,rfl,d,ln,w,h,ps,itP w ss prs n,qn,rfl,pd6.same s6E,s8E _ _ hln,prn.keep (Same.tups s8E),(gk n).ok,(gk n).le,w2,h2,fun HF sF=>?_⟩
   have s6F:=s6E.trans sF
   have hpF:=sF _ _ hpE
   refine ⟨_,rfl,a,_,_,_,_,rfl,hpF,T.c_j,T.n_an,lkW,_,rfl,_,rfl,d,lq,w,h,ps,prs,qs,rfl,pd6.same s6F,s6F _ _ hlq,pr6.keep (Same.tups s6F),ok6,len6,w2,h2,fun HG sG=>?_⟩
   refine ⟨_,_,rfl,rfl,_,rfl,ifN (by rw [xe5,xe5,elen]; simp; omega) ?_⟩
   have s6G:=s6F.trans sG
   have s8G:=(s8E.trans sF).trans sG
   have hpG:=sG _ _ hpF
   have nd:(allC w (itP w ss prs n)).Nodup:=xip fun i P1 h1 P2 h2'=>by
    have m1:=List.mem_of_getElem? h1
    have m2:=List.mem_of_mem_drop h2'
    have inn:∀ P ∈ itP w ss prs n,P.2 ∈ ss:=fun P hP=>by
     have z:=e2.mem_iff.mp (List.mem_map.mpr ⟨P,hP,rfl⟩)
     obtain ⟨p,hp,ep⟩:=List.mem_map.mp z
     rw [← ep]
     exact in6 p hp
    exact xk9 (xlw pfr ((gk n).ok P1 m1) ((gk n).ok P2 m2) (inn P1 m1) (inn P2 m2) (xhe cn i P1 h1 P2 h2'))
   refine ⟨_,rfl,a,_,_,_,_,rfl,hpG,T.c_j,T.n_an,lkW,_,rfl,_,rfl,d,ln,w,h,ps,itP w ss prs n,qn,rfl,pd6.same s6G,s8G _ _ hln,prn.keep (Same.tups s8G),(gk n).ok,(gk n).le,w2,h2,nd,fun HI sI=>⟨_,rfl,ifN (by decide) ?_⟩⟩
   have s6I:=s6G.trans sI
   exact ⟨_,_,_,rfl,fun b u nb e=>s6I _ _ (k6 _ _ nb e),.inr ⟨ob,s6I _ _ hd6⟩⟩
  ·rintro σ H5 ⟨v4,v5,v6,rfl,k5,hd5⟩
   exact q _
end
end S53
namespace PySem.W.Fast
def tw14465015421270120837:=0
def tw1295329025991789:=0
def tw15517362190842919911:=0
def tw4810585119530423864:=0
def tw9292019512899398989:=0
def tw6501846756696186138:=0
def tw1075432102741722260:=0
def tw7774666858127267259:=0
def tw3829308645243609680:=0
def tw15279637507146074271:=0
def tw18241254934595259093:=0
def tw13643128807270383935:=0
def tw11931793823442808322:=0
def tw9238520886701252909:=0
def tw5892279435288726794:=0
def tw4455696285048418883:=0
def tw13803866440587504517:=0
def tw7361873606211043484:=0
def tw191928836345217196:=0
def tw10507708432622569496:=0
def tw16601372183274909313:=0
def tw1288647200198626807:=0
def tw2751888447085748388:=0
def tw14041566900113706300:=0
def tw9318974998701596929:=0
def tw15684951681779784344:=0
def tw6192244463563946325:=0
def tw9273836283799708805:=0
def tw14679755109621459730:=0
def tw11562022201287056455:=0
def tw17464881447478848721:=0
def tw15666271513363925701:=0
def tw16658253108874098134:=0
def tw10541354057784821326:=0
def tw2878551669269399096:=0
def tw18199572748344978987:=0
def tw9377439886377062215:=0
def tw6722160077798265800:=0
def tw10347372795300616372:=0
def tw655633383041458876:=0
def tw17009969227410742075:=0
def tw13685479480475909483:=0
def tw15851575820953814962:=0
def tw15952931003428290568:=0
def tw3313696401308423223:=0
def tw16299464655499320705:=0
def tw6457608369982614740:=0
def tw15410898176220545277:=0
def tw4526455707333545119:=0
def tw17842887715915532722:=0
def tw16671698466674669471:=0
def tw13071498727651627612:=0
def tw8604490972541617930:=0
def tw8036195923048056664:=0
def tw17581547281383804001:=0
def tw6399997070018872988:=0
def tw15540257021928841476:=0
def tw189810321085624144:=0
def tw9895809458010630241:=0
def tw16921997714085159119:=0
def tw10123930036336608324:=0
def tw5508580731962402038:=0
def tw14088642477445175149:=0
def tw3382014921293060633:=0
def tw12853206864989321320:=0
def tw1450777004688266235:=0
def tw10093680052878301814:=0
def tw10281110539067320563:=0
def tw13786073702237479995:=0
def tw4430024795461348714:=0
def tw7707798797796325780:=0
def tw10080697320963737822:=0
def tw6157875126516983668:=0
def tw6074239732382277323:=0
def tw5161831427774264254:=0
def tw18375154541178213931:=0
def tw12340892516892230328:=0
def tw16233200447945725544:=0
def tw5046978119729232578:=0
def tw17826164452437804787:=0
def tw10247915550068953601:=0
def tw14789591553366556257:=0
def tw15032208056492136824:=0
def tw10912498637912539201:=0
def tw530698252679021151:=0
def tw11935735447608095863:=0
def tw8788802430721546572:=0
def tw1872618516695402860:=0
def tw8425674127935392211:=0
def tw5172763798217474730:=0
def tw16001196376857516626:=0
def tw13081382213169722614:=0
def tw1445559952182879602:=0
def tw4147160655966736186:=0
def tw8813086642246501379:=0
def tw14478964274723877197:=0
def tw3360662504811178319:=0
def tw9720759256190787746:=0
def tw8143283643519408312:=0
def tw8021102799119155105:=0
def tw11436969089726514216:=0
def tw6365237067231925292:=0
def tw8222631697726841523:=0
def tw18096912553475886348:=0
def tw10970194020230347896:=0
def tw2424020172375317339:=0
def tw11652749368300645475:=0
def tw3658362452349767369:=0
def tw5479025209803198576:=0
def tw9209801846238569178:=0
def tw8080908278958759761:=0
def tw15283478051407865132:=0
def tw11885823862688880042:=0
def tw7526827878290955902:=0
def tw5480657461052675845:=0
def tw17632914403813551624:=0
def tw6628927583165415244:=0
def tw9825417518888963048:=0
def tw8067690568318906020:=0
def tw5671749796920136602:=0
def tw272763224039905677:=0
def tw434710538884549302:=0
def tw18299714940670515645:=0
def tw944844601818007615:=0
def tw14144552891524467683:=0
def tw853359300797677161:=0
def tw10836395525514514751:=0
def tw62801021572991701:=0
def tw6741941974496586813:=0
def tw10957782406284548127:=0
def tw14057058578591179247:=0
def tw11191292290099309309:=0
def tw15410509387871376141:=0
def tw6220677512322527204:=0
def tw12602328972174095704:=0
def tw13924741691373200927:=0
def tw912758952830321717:=0
def tw7282314542566480822:=0
def tw9556077300008498709:=0
def tw15385414558124078308:=0
def tw8562559973684696687:=0
def tw14995534843663871708:=0
def tw6013421722351032348:=0
def tw2044417111452484298:=0
def tw2206876439797314884:=0
def tw12182679321567643018:=0
def tw5529504560155092491:=0
def tw13866843952918921645:=0
def tw10307733042559548270:=0
def tw17263651642831334936:=0
def tw5312206226704912692:=0
def tw13836862249284092241:=0
def tw2974928009494972568:=0
def tw687464415746625357:=0
def tw14857443677588901880:=0
def tw12034660972392523297:=0
def tw6826024120599055517:=0
def tw10992327216070454537:=0
def tw10659002286580807413:=0
def tw10141642051832831142:=0
def tw16152417124422164879:=0
def tw17671275358014357706:=0
def tw10073603931649323766:=0
def tw14355902753299103675:=0
def tw8374232173232552624:=0
def tw3913712083518566249:=0
def tw14747488640632317758:=0
def tw5039927392723422472:=0
def tw10086085650486263688:=0
def tw14441463604455635197:=0
def tw4633926643727089170:=0
def tw15635643995639619528:=0
def tw17950037374465096579:=0
def tw15971844747394051875:=0
def tw17486090212378735779:=0
def tw5200783069599579249:=0
def tw16514204848120566913:=0
def tw4047006581700013736:=0
def tw1228143792958781786:=0
def tw6931353194918150229:=0
def tw8670507694060024634:=0
def tw4895319239258358926:=0
def tw8807416307967659647:=0
def tw14454256274715867532:=0
def tw18341207109118022774:=0
def tw578182872441149112:=0
def tw12181831547323095911:=0
def tw9783688456143834348:=0
def tw14160586370965197231:=0
def tw7490844377923365348:=0
def tw237634242278477322:=0
def tw4763201792174497377:=0
def tw8576181596320381722:=0
def tw574298525510101121:=0
def tw2808131998100858790:=0
def tw3484372719787707508:=0
def tw13487887388670769368:=0
def tw15676182351910881453:=0
def tw15814311683765825300:=0
def tw17020101709380487138:=0
def tw8314962040144656957:=0
def tw4940851748471424906:=0
def tw8065228227879268830:=0
def tw15082854379588818816:=0
def tw13050562731589009877:=0
def tw16445657100028630393:=0
def tw1154251647208736326:=0
def tw895881364453935352:=0
def tw77065220597890872:=0
def tw17710682193201947274:=0
def tw15875811776469675437:=0
def tw7262438096086386795:=0
def tw18004271148199043575:=0
def tw17450149497800118326:=0
def tw10748530859106081455:=0
def tw3768417780894093335:=0
def tw17319628905840880355:=0
def tw16735587194490090580:=0
def tw6096047882417611853:=0
def tw13738634925874293217:=0
def tw16998758518279982330:=0
def tw6495383251434383138:=0
def tw11193030262952709161:=0
def tw8018185124562861206:=0
def tw883898857171550317:=0
def tw2415074392265563443:=0
def tw17713403883065671032:=0
def tw11662638016889793577:=0
def tw547108330416629715:=0
def tw14246869642890910508:=0
def tw12812240683233702282:=0
def tw16385790809450198674:=0
def tw14572489932497584093:=0
def tw8799467340021607117:=0
def tw8249641263100528435:=0
def tw2040203566933748072:=0
def tw6156321644345425891:=0
def tw1228446067476363265:=0
def tw4196750391004524370:=0
def tw3849763161197282982:=0
def tw3364048138924094288:=0
def tw2533210226334045582:=0
def tw10656110184203832799:=0
def tw8471440446908446153:=0
def tw2633491897750603923:=0
def tw4630353395997461418:=0
def tw3675405692292115831:=0
def tw18238293044818229660:=0
def tw12199068350043102866:=0
def tw2158888804275722482:=0
def tw8861505504922334839:=0
def tw5383932099851003134:=0
def tw11620946742222513301:=0
def tw16993857058100972055:=0
def tw17849956063457433119:=0
def tw17525035442070180905:=0
def tw15342649656678702401:=0
def tw18056520857565134300:=0
def tw12878810139208421237:=0
def tw8587665169517112761:=0
def tw892436796964858134:=0
def tw1435921160535444053:=0
def tw12610261123007182872:=0
def tw18316038144760783622:=0
def tw15523765656174037157:=0
def tw4741447097715842617:=0
def tw12189497746801617877:=0
def tw15613334068903020921:=0
def tw10380141405808135916:=0
def tw14217182207574897835:=0
def tw9642707267807776948:=0
def tw8799242871232457307:=0
def tw16348850294452361957:=0
def tw17726478135069211684:=0
def tw11522381299867825289:=0
def tw842364789039860934:=0
def tw2980725997898612473:=0
def tw2147775770524273818:=0
def tw4386138965572916226:=0
def tw7108046930825778642:=0
def tw18202312473718758607:=0
def tw18134231115287698270:=0
def tw1333519736137481151:=0
def tw13399464822110972786:=0
def tw16389102017391754491:=0
def tw13046746089996688052:=0
def tw8032857990834096556:=0
def tw11128507412512124619:=0
def tw13668028842337400938:=0
def tw8676779770437004426:=0
def tw7858465268007020991:=0
def tw350082438316219002:=0
def tw17010441106317508500:=0
def tw7003252606266477093:=0
def tw17349863967994134367:=0
def tw11153340027489976114:=0
def tw669238159568430560:=0
def tw13745358308667348990:=0
def tw3750413465831111304:=0
def tw4985640697764213545:=0
def tw1333888826326109952:=0
def tw15494919927544650211:=0
def tw9275908898214440208:=0
def tw1090154684501412184:=0
def tw3227892041521075288:=0
def tw7917022524360814105:=0
def tw8555423181660719443:=0
def tw12389919409879738374:=0
def tw12737701211492821349:=0
def tw15991911083619380364:=0
def tw1317208394919788267:=0
def tw9441452005458345116:=0
def tw17841027903548203883:=0
def tw1879820823250467030:=0
def tw17187729231354685236:=0
def tw13919474099392272981:=0
def tw9034875211110204607:=0
def tw3575507103866160674:=0
def tw7424856287733258162:=0
def tw11157585918246814671:=0
def tw9070826622435985617:=0
def tw11241236881024487108:=0
def tw13241873687653868924:=0
def tw10080578989304231785:=0
def tw10450206055242889732:=0
def tw16473532140460229778:=0
def tw12005927466132902884:=0
def tw12872883027880154502:=0
def tw15601863153035309924:=0
def tw15376331786657443518:=0
def tw14492124006979539895:=0
def tw13417694708647334771:=0
def tw16013816215491927606:=0
def tw1786438650191135212:=0
def tw4093504059068157504:=0
def tw11888949043629763309:=0
def tw11000360634439788087:=0
def tw10936433743626151243:=0
def tw6259591768442959259:=0
def tw1159764551816451898:=0
def tw11818269177769725130:=0
def tw16150699818555581817:=0
def tw1322882327918405549:=0
def tw13828159586639528415:=0
def tw8613715438680074548:=0
def tw9352370640113524003:=0
def tw5957018357806581646:=0
def tw18373506131679399885:=0
def tw7066415420293264917:=0
def tw4523114664091567210:=0
def tw4808891582326362324:=0
def tw11515071483531506052:=0
def tw12042351335604584944:=0
def tw3323689939486445449:=0
def tw18284464342162460327:=0
def tw9364522640459427619:=0
def tw3240686005159743740:=0
def tw907098090477020728:=0
def tw862316720611498746:=0
def tw8232181979055090349:=0
def tw12326982723682620055:=0
def tw6080409455130184257:=0
def tw18378464076229009640:=0
def tw4070846755031962936:=0
def tw17895959760127234053:=0
def tw1894908836381530047:=0
def tw7337468672631628855:=0
def tw12141311110027857815:=0
def tw299691692279382938:=0
def tw634813171955734163:=0
def tw6953714655429500603:=0
def tw14427554248297117067:=0
def tw17041943030786197343:=0
def tw11222572631217424074:=0
def tw1686087560341490620:=0
def tw624977996351634655:=0
def tw1852302504750811842:=0
def tw6356375750028293865:=0
def tw11296122757437666624:=0
def tw4060245431482416094:=0
def tw14189162146710799752:=0
def tw11738504981489208147:=0
def tw5559493396042974295:=0
def tw15555901693926647115:=0
def tw16400986411911930134:=0
def tw14088501279294948912:=0
def tw9449149623104659219:=0
def tw933857530373055998:=0
def tw16797314081563223604:=0
def tw9303367091212065197:=0
def tw4626846649206508019:=0
def tw13997384362985278102:=0
def tw16926224892048099710:=0
def tw16739063139636645499:=0
def tw3106240226613134930:=0
def tw10804450954052697064:=0
def tw7931975636301810413:=0
def tw18143858344352812229:=0
def tw16798736547798686163:=0
def tw14216229447205430580:=0
def tw6823201836534418718:=0
def tw3785716309520592872:=0
def tw4196900930029650218:=0
def tw5703531302394376827:=0
def tw1008181299188285781:=0
def tw9215980105934362169:=0
def tw3766292089591739979:=0
def tw5229335983877250166:=0
def tw5848252350170712332:=0
def tw16533881078470243515:=0
def tw12589454817932321756:=0
def tw10066466217639109707:=0
def tw2083140445651573281:=0
def tw7690759188566284217:=0
def tw16357947488294456385:=0
def tw11254243033804877091:=0
def tw6642843087014798244:=0
def tw5923686560048655194:=0
def tw12475370214647513557:=0
def tw13015772733643987881:=0
def tw3588454461718927716:=0
def tw1372307691743832812:=0
def tw402179987478960439:=0
def tw6337688252716206079:=0
def tw17632611327324583122:=0
def tw12551358835646271488:=0
def tw6232364073308273351:=0
def tw6926403698040762566:=0
def tw15519677148296911185:=0
def tw1942203921594154904:=0
def tw17750860007292709080:=0
def tw13806269647061520097:=0
def tw2730021086961794696:=0
def tw13600948904908254832:=0
def tw3810595273377190028:=0
def tw3332245569608981740:=0
def tw6354139033635180265:=0
def tw13857067223645934091:=0
def tw12568650414045174142:=0
def tw963172638973916350:=0
def tw174203317153413551:=0
def tw3086659203621744713:=0
def tw60485737613657963:=0
def tw14655404912307423747:=0
def tw11782622263503728097:=0
def tw9859067874826902518:=0
def tw7190749370002759689:=0
def tw2594333032727051294:=0
def tw8365796054904542304:=0
def tw4473921227999626841:=0
def tw5535553885604755789:=0
def tw14922412014040609432:=0
def tw15683399459394454222:=0
def tw16511219419890594131:=0
def tw711759341806942313:=0
def tw6391399686821832803:=0
def tw8679533431063332235:=0
def tw10140012729576097359:=0
def tw15305506299248775841:=0
def tw15898469476819119611:=0
def tw1094069369661018800:=0
def tw5301095720689128209:=0
def tw9209583547729572351:=0
def tw6569278710449462602:=0
def tw2584918969899233056:=0
def tw4265101720979661336:=0
def tw9401882686813650412:=0
def tw5658829624819047211:=0
def tw444864130316291257:=0
def tw9295721823634321204:=0
def tw7633504280350756090:=0
def tw8488384387805343834:=0
def tw2286643377381966388:=0
def tw12623767200642401160:=0
def tw15681372171892084082:=0
def tw4960126829061887657:=0
def tw9671185516080352159:=0
def tw2909893045653492506:=0
def tw828484455197511217:=0
def tw13679530528076356178:=0
def tw512031542921702092:=0
def tw3406950804859481034:=0
def tw12472611448799904733:=0
def tw12648976563475653563:=0
def tw4089869059782586516:=0
def tw8134296717055526979:=0
def tw13100115314292261597:=0
def tw6727154479044634646:=0
def tw12475960933964397488:=0
def tw4355257362564745167:=0
def tw8436275549377810511:=0
def tw2966498605829953046:=0
def tw4943323214247564155:=0
def tw4458349735259832013:=0
def tw11247313982022497417:=0
def tw11492728141963883562:=0
def tw10032387612031473390:=0
def tw14166262278871082995:=0
def tw15872656642625736190:=0
def tw5638044295029779282:=0
def tw9013198161607877651:=0
def tw11371903969997315854:=0
def tw14569891747553392134:=0
def tw3889398067545759968:=0
def tw3437836940306405857:=0
def tw4817486278554900577:=0
def tw8347231504266354809:=0
def tw4176841050402832700:=0
def tw15225431664715121840:=0
def tw14842176077613159300:=0
def tw16607166897119025104:=0
def tw9344918486783048401:=0
def tw2567393561884316269:=0
def tw4251821142255436732:=0
def tw2804503223512797346:=0
def tw17889125423994022993:=0
def tw10986130186408943727:=0
def tw1826188014380412958:=0
def tw7720330685098708390:=0
def tw6141943403794081753:=0
def tw12044904081046805884:=0
def tw15838816738116882354:=0
def tw5771991132496982867:=0
def tw2452245058613807956:=0
def tw1633254826870583946:=0
def tw12339894415953112049:=0
def tw16298369091478619171:=0
def tw2620367582694634391:=0
def tw12637294887718288505:=0
def tw6435504282874330259:=0
def tw14655190963958817147:=0
def tw5294570878887423973:=0
def tw15536732536428672057:=0
def tw13474409967016921506:=0
def tw12027925745609920461:=0
def tw6851274933917176748:=0
def tw16667620220594102587:=0
def tw11769783430764110074:=0
def tw1420655494926247825:=0
def tw7510485554827780550:=0
def tw4110080297748013133:=0
def tw6188961945345418733:=0
def tw16809860236898157591:=0
def tw6458444111915987611:=0
def tw513542217410281116:=0
def tw17929101331882905348:=0
def tw11303012482741634110:=0
def tw3280815766375974582:=0
def tw999260485861761758:=0
def tw5715429611184481803:=0
def tw137886157383326181:=0
def tw5582572558603271857:=0
def tw17890655062471510420:=0
def tw1387213634844935009:=0
def tw12327512298347443718:=0
def tw12870052800374459435:=0
def tw5138086317309041863:=0
def tw5010043556868148216:=0
def tw11676459359954590094:=0
def tw1556662141718839335:=0
def tw4745929071272994069:=0
def tw10399325532717273772:=0
def tw3004219141518691893:=0
def tw10152113204308777313:=0
def tw1656469846200068447:=0
def tw7673177635606997779:=0
def tw10591665015062338784:=0
def tw6622438366687478546:=0
def tw15886686656049361606:=0
def tw1133281834763813508:=0
def tw14729343780239835007:=0
def tw954390633327600856:=0
def tw7825732294966189001:=0
def tw15551175708866889245:=0
def tw515907504651420220:=0
def tw9717761329835121208:=0
def tw13883840812976246764:=0
def tw8209099026761268179:=0
def tw17029832442934052183:=0
def tw9505031136376529556:=0
def tw5571473540704992749:=0
def tw13535383921186537930:=0
def tw14931239205094037125:=0
def tw10719273544951217227:=0
def tw11694186029823240171:=0
def tw16091143115151166175:=0
def tw659091140543639134:=0
def tw6473374750022738461:=0
def tw4980377401645136056:=0
def tw528235798968348313:=0
def tw7399464259457005548:=0
def tw16399865804412663755:=0
def tw12786271000821607054:=0
def tw4979875650226662925:=0
def tw15692904411417460581:=0
def tw7354321824663331308:=0
def tw2942101599937877296:=0
def tw18250662617517131069:=0
def tw2264506180337727729:=0
def tw11078252476393510012:=0
def tw14314584617878658148:=0
def tw15013712922250226721:=0
def tw12085185905220412592:=0
def tw15482182137350818973:=0
def tw12482591189565766837:=0
def tw4178235404293272989:=0
def tw3352516519163517901:=0
def tw106928260267550245:=0
def tw13477005411843761717:=0
def tw8873486320670349050:=0
def tw3640700858011215623:=0
def tw12867481474317381574:=0
def tw11407800046815907119:=0
def tw10848952592581928349:=0
def tw11079917577464963042:=0
def tw11287361038715738845:=0
def tw8914262580587038936:=0
def tw4201468352961405707:=0
def tw4624852193131412773:=0
def tw18105658164888897416:=0
def tw16345457048291453597:=0
def tw194988241635198012:=0
def tw4744214332557879625:=0
def tw647575287795965230:=0
def tw16678120617420580607:=0
def tw4717912316702998958:=0
def tw10350045388601507246:=0
def tw16274647336230511975:=0
def tw15358333635124014624:=0
def tw11832993426258757014:=0
def tw12351710181070481200:=0
def tw3582163735831330913:=0
def tw1744233590490057404:=0
def tw2034185310693937306:=0
def tw10625055971313604267:=0
def tw14381578204821941091:=0
def tw6451837543978958022:=0
def tw10843751573992072075:=0
def tw3673014127938791752:=0
def tw16439804631046503355:=0
def tw12917367153322171902:=0
def tw8168397024658480794:=0
def tw16746563248072309566:=0
def tw3831898985894330788:=0
def tw14589261357064899653:=0
def tw4297201962284624743:=0
def tw16488488221311800678:=0
def tw5411238352518984948:=0
def tw1610540291543932872:=0
def tw3383142905093162665:=0
def tw3131726342706788303:=0
def tw16797407714694981914:=0
def tw10633995185387288638:=0
def tw17196115152011267351:=0
def tw6645188801375264004:=0
def tw16635339883920135643:=0
def tw10512952041452082493:=0
def tw4318892973271924224:=0
def tw15675866852750533851:=0
def tw16818663919434023006:=0
def tw4767253436664596226:=0
def tw4047487185114370953:=0
def tw12082542094582404423:=0
def tw11506856223894518733:=0
def tw10285562288880698829:=0
def tw13482664142575565651:=0
def tw15551852799796190599:=0
def tw952049418264003409:=0
def tw6223016665162678701:=0
def tw6994021332277593213:=0
def tw6548200695109753133:=0
def tw16484992838918538122:=0
def tw2299677630539812006:=0
def tw8375510729852382023:=0
def tw12177177997852735952:=0
def tw11814435435767744426:=0
def tw10308393762101629699:=0
def tw5942682529637522253:=0
def tw8145034834927645925:=0
def tw4221905799997074613:=0
def tw6950074443310455718:=0
def tw18052213771881970726:=0
def tw17456665466685612524:=0
def tw15649862036539785223:=0
def tw18003664349520119080:=0
def tw9096231889159950182:=0
def tw5937982470332475432:=0
def tw4363207787329527122:=0
def tw12102258649717515773:=0
def tw12287087868437793072:=0
def tw7063629534290246276:=0
def tw14479620572736767898:=0
def tw17452803649611904508:=0
def tw10601553639666917556:=0
def tw15247231888630785316:=0
def tw653311915114866774:=0
def tw12872563079734650856:=0
def tw6915640849379387527:=0
def tw16226810335445600319:=0
def tw6608246152210026177:=0
def tw17825627671450388637:=0
def tw12886279156818891859:=0
def tw11875605658785743059:=0
def tw8794814765275293935:=0
end PySem.W.Fast
namespace S53
open PySem L2 XL
theorem walk {l:PySem.W.OpenLaw} {q:Program} {loose:List Str} {XP:(Str→Option Value)→Heap→Prop} {YP:World→Heap→Prop} {d:DefRec} {K:Params→PySem.W.Frag} (hn:l.most=some 63) (hdf:d.params.defaults=[])
    (hY:∀ (w:World) (h:Heap),YP w h→(K w.params).In h)
    (F:∀ (w:World) (mg:Str→Option Value) (fa:Addr) (h:Heap),(K w.params).In h→h.Ns mainGlobals mg→mg d.name=some (.ref fa) →
      ∃ fd:FuncData,(∀ (s:Shared) (u:Value),BindsTo s fd ⟨[u],[]⟩ [("_law_script",u)])∧∀ base:Heap,(K w.params).In base→base.Ns mainGlobals mg→FnOk true l.prog w (K w.params) mg base (CXo l.prog w) 10 fa fd ["_law_script"] (xgz (K w.params))) :
    PySem.W.WalkO q loose XP YP l.row.toRowW d [] (fun f vs=>PySem.call f vs) :=
  L2.walk_of (q0:=true) (n:=63) (k:=10) (x:="_law_script") (CX:=fun w=>CXo l.prog w) (sp:=fun w=>xgz (K w.params)) hn (by decide) hdf ⟨fun _=>rfl,by decide,by decide⟩ hY F (fun _ _ a ns hl _ hS=>⟨a,ns,rfl,hS,hl,fun _=>rfl⟩)
    fun w H s e s' z=>by obtain ⟨_,_,_,_,_,_,_,_,_,_,_,_,_,_,q⟩:=z; exact q
theorem all_mk {l:PySem.W.OpenLaw} {w:World} {K:PySem.W.Frag} {h:Heap} {mg:Str→Option Value} {fa:Addr} (hfa:mg "law"=some (.ref fa)) (TT:∃ t,Txt w K mg t) :
    ∃ fd:FuncData,(∀ (s:Shared) (v:Value),BindsTo s fd ⟨[v],[]⟩ [("_law_script",v)])∧∀ base:Heap,K.In base→base.Ns mainGlobals mg→FnOk true l.prog w K mg base (CXo l.prog w) 10 fa fd ["_law_script"] (xgz K):=by
  obtain ⟨t,T⟩:=TT
  have e:=hfa.symm.trans T.g_law
  cases e
  refine ⟨t.d_law,fun s v=>?_,fun base _ _=>xov T⟩
  obtain ⟨oc,od,kV,doc,pm,an,cdv,ct,osl,e,lk,hcd⟩:=T.F_law.ex
  rw [e]
  exact .of_eq rfl
end S53
open PySem PySem.W PyProof.Rows
set_option maxRecDepth 100000 in
set_option maxHeartbeats 0 in
theorem PySem.Challenge.cw_rimnotes_k53_whole_none_meet_holds : PySem.Challenge.rw_rimnotes_k53_whole_none_meet.Holds := by
 w_on; o_law; k_head; (case hw=>w_witness2)
 k_fill
 refine S53.walk (l:=PySem.Challenge.rw_rimnotes_k53_whole_none_meet) rfl rfl (fun w h Y=>PySem.W.kIn_of Y) ?F
 case F =>
  intro w mg fa h KX G hmg
  refine S53.all_mk (h:=h) hmg ?TT
  refine' S53.txt_mk (w:=w) KX G ?g_ao ?g_ah ?g_y ?g_j ?a_ac ?l_ac ?c_ac ?k_ac ?i_ac ?a_s ?l_s ?c_s ?k_s ?i_s ?a_q ?l_q ?c_q ?k_q ?i_q ?a_h ?l_h ?c_h ?k_h ?i_h ?a_o ?l_o ?c_o ?k_o ?i_o ?a_m ?l_m ?c_m ?k_m ?i_m ?a_g ?l_g ?c_g ?k_g ?i_g ?a_ag ?l_ag ?c_ag ?k_ag ?i_ag ?a_ae ?l_ae ?c_ae ?k_ae ?i_ae ?a_meeting ?l_meeting ?c_meeting ?k_meeting ?i_meeting ?a_total ?l_total ?c_total ?k_total ?i_total ?a_upright ?l_upright ?c_upright ?k_upright ?i_upright ?a_v ?l_v ?c_v ?k_v ?i_v ?a_exchangeable ?l_exchangeable ?c_exchangeable ?k_exchangeable ?i_exchangeable ?a_p ?l_p ?c_p ?k_p ?i_p ?a_exchanged ?l_exchanged ?c_exchanged ?k_exchanged ?i_exchanged ?a_uncrossed ?l_uncrossed ?c_uncrossed ?k_uncrossed ?i_uncrossed ?a_w ?l_w ?c_w ?k_w ?i_w ?a_aj ?l_aj ?c_aj ?k_aj ?i_aj ?a_t ?l_t ?c_t ?k_t ?i_t ?a_k ?l_k ?c_k ?k_k ?i_k ?t_k ?a_f ?l_f ?c_f ?k_f ?i_f ?a_l ?l_l ?c_l ?k_l ?i_l ?a_e ?l_e ?c_e ?k_e ?i_e ?a_r ?l_r ?c_r ?k_r ?i_r ?a_i ?l_i ?c_i ?k_i ?i_i ?a_c ?l_c ?c_c ?k_c ?i_c ?a_d ?l_d ?c_d ?k_d ?i_d ?a_a ?l_a ?c_a ?k_a ?i_a ?a_b ?l_b ?c_b ?k_b ?i_b ?a_af ?l_af ?c_af ?k_af ?i_af ?a_n ?l_n ?c_n ?k_n ?i_n ?a_x ?l_x ?c_x ?k_x ?i_x ?a_u ?l_u ?c_u ?k_u ?i_u ?a_al ?l_al ?c_al ?k_al ?i_al ?a_ab ?l_ab ?c_ab ?k_ab ?i_ab ?a_aa ?l_aa ?c_aa ?k_aa ?i_aa ?a_z ?l_z ?c_z ?k_z ?i_z ?a_ai ?l_ai ?c_ai ?k_ai ?i_ai ?a_ad ?l_ad ?c_ad ?k_ad ?i_ad ?a_law ?l_law ?c_law ?k_law ?i_law ?kc_ao ?pg_ao ?hd_ao ?po_ao ?sa_ao ?mk_ao ?ca_ao ?mo_ao ?kc_ah ?pg_ah ?hd_ah ?po_ah ?sa_ah ?mk_ah ?ca_ah ?mo_ah ?a_LeftSide_init ?kc_y ?pg_y ?hd_y ?po_y ?sa_y ?mk_y ?ca_y ?mo_y ?a_RightSide_init ?kc_j ?pg_j ?hd_j ?po_j ?sa_j ?mk_j ?ca_j ?mo_j ?cg ?ct ?n_ar ?n_ap ?n_am ?n_an ?n_aq ?n_aw ?n_au ?n_abs ?n_bool ?n_dict ?n_enumerate ?n_int ?n_isinstance ?n_len ?n_list ?n_max ?n_min ?n_range ?n_reversed ?n_sorted ?n_str ?n_sum ?v_av ?v_as ?v_at ?g_ak ?l_ak ?ns_ak
  (case g_ao=>k_is)
  (case g_ah=>k_is)
  (case g_y=>k_is)
  (case g_j=>k_is)
  (case a_ac=>k_is)
  (case l_ac=>k_is)
  (case c_ac=>k_is)
  (case k_ac=>k_is)
  (case i_ac=>k_is)
  (case a_s=>k_is)
  (case l_s=>k_is)
  (case c_s=>k_is)
  (case k_s=>k_is)
  (case i_s=>k_is)
  (case a_q=>k_is)
  (case l_q=>k_is)
  (case c_q=>k_is)
  (case k_q=>k_is)
  (case i_q=>k_is)
  (case a_h=>k_is)
  (case l_h=>k_is)
  (case c_h=>k_is)
  (case k_h=>k_is)
  (case i_h=>k_is)
  (case a_o=>k_is)
  (case l_o=>k_is)
  (case c_o=>k_is)
  (case k_o=>k_is)
  (case i_o=>k_is)
  (case a_m=>k_is)
  (case l_m=>k_is)
  (case c_m=>k_is)
  (case k_m=>k_is)
  (case i_m=>k_is)
  (case a_g=>k_is)
  (case l_g=>k_is)
  (case c_g=>k_is)
  (case k_g=>k_is)
  (case i_g=>k_is)
  (case a_ag=>k_is)
  (case l_ag=>k_is)
  (case c_ag=>k_is)
  (case k_ag=>k_is)
  (case i_ag=>k_is)
  (case a_ae=>k_is)
  (case l_ae=>k_is)
  (case c_ae=>k_is)
  (case k_ae=>k_is)
  (case i_ae=>k_is)
  (case a_meeting=>k_is)
  (case l_meeting=>k_is)
  (case c_meeting=>k_is)
  (case k_meeting=>k_is)
  (case i_meeting=>k_is)
  (case a_total=>k_is)
  (case l_total=>k_is)
  (case c_total=>k_is)
  (case k_total=>k_is)
  (case i_total=>k_is)
  (case a_upright=>k_is)
  (case l_upright=>k_is)
  (case c_upright=>k_is)
  (case k_upright=>k_is)
  (case i_upright=>k_is)
  (case a_v=>k_is)
  (case l_v=>k_is)
  (case c_v=>k_is)
  (case k_v=>k_is)
  (case i_v=>k_is)
  (case a_exchangeable=>k_is)
  (case l_exchangeable=>k_is)
  (case c_exchangeable=>k_is)
  (case k_exchangeable=>k_is)
  (case i_exchangeable=>k_is)
  (case a_p=>k_is)
  (case l_p=>k_is)
  (case c_p=>k_is)
  (case k_p=>k_is)
  (case i_p=>k_is)
  (case a_exchanged=>k_is)
  (case l_exchanged=>k_is)
  (case c_exchanged=>k_is)
  (case k_exchanged=>k_is)
  (case i_exchanged=>k_is)
  (case a_uncrossed=>k_is)
  (case l_uncrossed=>k_is)
  (case c_uncrossed=>k_is)
  (case k_uncrossed=>k_is)
  (case i_uncrossed=>k_is)
  (case a_w=>k_is)
  (case l_w=>k_is)
  (case c_w=>k_is)
  (case k_w=>k_is)
  (case i_w=>k_is)
  (case a_aj=>k_is)
  (case l_aj=>k_is)
  (case c_aj=>k_is)
  (case k_aj=>k_is)
  (case i_aj=>k_is)
  (case a_t=>k_is)
  (case l_t=>k_is)
  (case c_t=>k_is)
  (case k_t=>k_is)
  (case i_t=>k_is)
  (case a_k=>k_is)
  (case l_k=>k_is)
  (case c_k=>k_is)
  (case k_k=>k_is)
  (case i_k=>k_is)
  (case t_k=>k_is)
  (case a_f=>k_is)
  (case l_f=>k_is)
  (case c_f=>k_is)
  (case k_f=>k_is)
  (case i_f=>k_is)
  (case a_l=>k_is)
  (case l_l=>k_is)
  (case c_l=>k_is)
  (case k_l=>k_is)
  (case i_l=>k_is)
  (case a_e=>k_is)
  (case l_e=>k_is)
  (case c_e=>k_is)
  (case k_e=>k_is)
  (case i_e=>k_is)
  (case a_r=>k_is)
  (case l_r=>k_is)
  (case c_r=>k_is)
  (case k_r=>k_is)
  (case i_r=>k_is)
  (case a_i=>k_is)
  (case l_i=>k_is)
  (case c_i=>k_is)
  (case k_i=>k_is)
  (case i_i=>k_is)
  (case a_c=>k_is)
  (case l_c=>k_is)
  (case c_c=>k_is)
  (case k_c=>k_is)
  (case i_c=>k_is)
  (case a_d=>k_is)
  (case l_d=>k_is)
  (case c_d=>k_is)
  (case k_d=>k_is)
  (case i_d=>k_is)
  (case a_a=>k_is)
  (case l_a=>k_is)
  (case c_a=>k_is)
  (case k_a=>k_is)
  (case i_a=>k_is)
  (case a_b=>k_is)
  (case l_b=>k_is)
  (case c_b=>k_is)
  (case k_b=>k_is)
  (case i_b=>k_is)
  (case a_af=>k_is)
  (case l_af=>k_is)
  (case c_af=>k_is)
  (case k_af=>k_is)
  (case i_af=>k_is)
  (case a_n=>k_is)
  (case l_n=>k_is)
  (case c_n=>k_is)
  (case k_n=>k_is)
  (case i_n=>k_is)
  (case a_x=>k_is)
  (case l_x=>k_is)
  (case c_x=>k_is)
  (case k_x=>k_is)
  (case i_x=>k_is)
  (case a_u=>k_is)
  (case l_u=>k_is)
  (case c_u=>k_is)
  (case k_u=>k_is)
  (case i_u=>k_is)
  (case a_al=>k_is)
  (case l_al=>k_is)
  (case c_al=>k_is)
  (case k_al=>k_is)
  (case i_al=>k_is)
  (case a_ab=>k_is)
  (case l_ab=>k_is)
  (case c_ab=>k_is)
  (case k_ab=>k_is)
  (case i_ab=>k_is)
  (case a_aa=>k_is)
  (case l_aa=>k_is)
  (case c_aa=>k_is)
  (case k_aa=>k_is)
  (case i_aa=>k_is)
  (case a_z=>k_is)
  (case l_z=>k_is)
  (case c_z=>k_is)
  (case k_z=>k_is)
  (case i_z=>k_is)
  (case a_ai=>k_is)
  (case l_ai=>k_is)
  (case c_ai=>k_is)
  (case k_ai=>k_is)
  (case i_ai=>k_is)
  (case a_ad=>k_is)
  (case l_ad=>k_is)
  (case c_ad=>k_is)
  (case k_ad=>k_is)
  (case i_ad=>k_is)
  (case a_law=>k_is)
  (case l_law=>k_is)
  (case c_law=>k_is)
  (case k_law=>k_is)
  (case i_law=>k_is)
  (case kc_ao=>k_is)
  (case pg_ao=>k_is)
  (case hd_ao=>k_is)
  (case po_ao=>k_is)
  (case sa_ao=>k_is)
  (case mk_ao=>first | k_is | kernel_rfl)
  (case ca_ao=>k_is)
  (case mo_ao=>k_is)
  (case kc_ah=>k_is)
  (case pg_ah=>k_is)
  (case hd_ah=>k_is)
  (case po_ah=>k_is)
  (case sa_ah=>k_is)
  (case mk_ah=>first | k_is | kernel_rfl)
  (case ca_ah=>k_is)
  (case mo_ah=>k_is)
  (case a_LeftSide_init=>k_is)
  (case kc_y=>k_is)
  (case pg_y=>k_is)
  (case hd_y=>k_is)
  (case po_y=>k_is)
  (case sa_y=>k_is)
  (case mk_y=>first | k_is | kernel_rfl)
  (case ca_y=>k_is)
  (case mo_y=>k_is)
  (case a_RightSide_init=>k_is)
  (case kc_j=>k_is)
  (case pg_j=>k_is)
  (case hd_j=>k_is)
  (case po_j=>k_is)
  (case sa_j=>k_is)
  (case mk_j=>first | k_is | kernel_rfl)
  (case ca_j=>k_is)
  (case mo_j=>k_is)
  (case cg=>k_is)
  (case ct=>k_is)
  (case n_ar=>k_is)
  (case n_ap=>k_is)
  (case n_am=>k_is)
  (case n_an=>k_is)
  (case n_aq=>k_is)
  (case n_aw=>k_is)
  (case n_au=>k_is)
  (case n_abs=>k_is)
  (case n_bool=>k_is)
  (case n_dict=>k_is)
  (case n_enumerate=>k_is)
  (case n_int=>k_is)
  (case n_isinstance=>k_is)
  (case n_len=>k_is)
  (case n_list=>k_is)
  (case n_max=>k_is)
  (case n_min=>k_is)
  (case n_range=>k_is)
  (case n_reversed=>k_is)
  (case n_sorted=>k_is)
  (case n_str=>k_is)
  (case n_sum=>k_is)
  (case v_av=>k_is)
  (case v_as=>k_is)
  (case v_at=>k_is)
  (case g_ak=>k_is)
  (case l_ak=>first | k_is | kernel_rfl)
  (case ns_ak=>kernel_rfl)
