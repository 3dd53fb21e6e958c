import PyProof.Rows.All
import Wide.All
import OpenK.AllK
import Wide.FinOn
import Lean
import PyProof.EqAt
import PyProof.EqKinds
import PyProof.TupleCall
import PyProof.StationsW
import PyProof.ExcClass2
import PyProof.RulesAs
import PyProof.ExcBaseAll.ValueError
import OpenK.KDescr
import OpenK.KWalk
import PyProof.ExcAttrAll.ValueError
import PyProof.Comp
import PyProof.ListRange
import PyProof.DictItems
import KE.KPairComp
import KE.KDictOf
import PyProof.AttrMissHeap
import PyProof.Rows.Range3
import KE.KRevIter
import PyProof.ZipIter
import OpenK.KEqL
import PyProof.AutoListH
import PyProof.EnumMake
import PyProof.WalksEnum
import PyProof.NeKinds
import PyProof.MaxThree
import KE.KSortTup
import PyProof.StrLawsIn
import PyProof.DictValues
import PyProof.DictIter
import PyProof.Draws
import PyProof.DictWalks
import PyProof.ListNew
import PyProof.ListStr
import KE.KIntText
import PyProof.Rows.FStr
import PyProof.MeetsStr
import PyProof.Rows.CallKwBuiltin
import PyProof.Rows.StrNews
import PyProof.Rows.StrNews2
import PyProof.StrLawsChain
import PyProof.StrLawsFirst
import PyProof.StrLawsTight
import PySem.Challenge.RW_rimnotes_k25_whole_any_lines_read
set_option Elab.async false
set_option linter.all false
set_option maxRecDepth 100000
set_option maxHeartbeats 4000000
set_option maxRecDepth 100000
namespace L2
open PySem PySem.Spec PyProof.Rows
variable {q0:Bool}
abbrev Key:=Sum Int Str
def xd8:Key→Value→Bool
 | .inl k,v=>Value.isInt k v
 | .inr x,v=>Value.isStrOf x v
def keyH (w:World):Key→Int
 | .inl k=>hashInt k
 | .inr x=>hashStr w x
theorem xa9:∀ {k:Key} {v:Value},xd8 k v=true→(∃ i t,k=Sum.inl i∧v=Value.int i t)∨(∃ x t,k=Sum.inr x∧v=Value.str x t)
 | .inl i,v,h=>by
  obtain ⟨t,e⟩:=Value.isInt_shape (k:=i) (v:=v) h
  exact .inl ⟨i,t,rfl,e⟩
 | .inr x,v,h=>by
  obtain ⟨t,e⟩:=Value.isStrOf_shape (x:=x) (v:=v) h
  exact .inr ⟨x,t,rfl,e⟩
theorem xlg (i:Int) (t:Tok):xd8 (.inl i) (.int i t)=true:=by simp [xd8,Value.isInt]
theorem xk0 (x:Str) (t:Tok):xd8 (.inr x) (.str x t)=true:=by simp [xd8,Value.isStrOf]
theorem xpn (a b:Int):decide ((Sum.inl a:Key)=Sum.inl b)=(a == b):=by
 by_cases e:a=b
 ·subst e; simp
 ·have h:¬ (Sum.inl a:Key)=Sum.inl b:=fun q=>e (Sum.inl.inj q)
  rw [decide_eq_false h]
  exact (beq_eq_false_iff_ne.mpr e).symm
theorem xph (a b:Str):decide ((Sum.inr a:Key)=Sum.inr b)=decide (a=b):=by
 by_cases e:a=b
 ·subst e; simp
 ·have h:¬ (Sum.inr a:Key)=Sum.inr b:=fun q=>e (Sum.inr.inj q)
  rw [decide_eq_false h,decide_eq_false e]
theorem xqm (a:Int) (b:Str):decide ((Sum.inl a:Key)=Sum.inr b)=false:=decide_eq_false (fun q=>nomatch q)
theorem xql (a:Str) (b:Int):decide ((Sum.inr a:Key)=Sum.inl b)=false:=decide_eq_false (fun q=>nomatch q)
def xas (prog:Program) (w:World):PySem.KeyKind prog w Key where
 is:=xd8
 hash:=keyH w
 inj:=fun v a b ha hb=>by
  rcases xa9 ha with ⟨i,t,rfl,rfl⟩ | ⟨x,t,rfl,rfl⟩
  ·rcases xa9 hb with ⟨j,u,rfl,e⟩ | ⟨y,u,rfl,e⟩
   ·injection e with e1 _; rw [e1]
   ·exact nomatch e
  ·rcases xa9 hb with ⟨j,u,rfl,e⟩ | ⟨y,u,rfl,e⟩
   ·exact nomatch e
   ·injection e with e1 _; rw [e1]
 byValue:=fun k v h=>by
  rcases xa9 h with ⟨i,t,rfl,rfl⟩ | ⟨x,t,rfl,rfl⟩ <;> rfl
 pyHash:=fun hv h=>by
  rcases xa9 hv with ⟨i,t,rfl,rfl⟩ | ⟨x,t,rfl,rfl⟩
  ·exact wpAny_pyHash_int h
  ·exact wpAny_pyHash_str h
 eqBool:=fun hu hv h=>by
  rcases xa9 hu with ⟨i,t,rfl,rfl⟩ | ⟨x,t,rfl,rfl⟩
  ·rcases xa9 hv with ⟨j,u,rfl,rfl⟩ | ⟨y,u,rfl,rfl⟩
   ·rw [xpn] at h; exact wpAny_eqBool_int h
   ·rw [xqm] at h; exact SeqAt.EqAt.int_str i t y u _ _ _ _ h
  ·rcases xa9 hv with ⟨j,u,rfl,rfl⟩ | ⟨y,u,rfl,rfl⟩
   ·rw [xql] at h; exact SeqAt.EqAt.str_int x t j u _ _ _ _ h
   ·rw [xph] at h; exact wpAny_eqBool_str h
 «strs»:=fun k x t v h=>by
  rcases xa9 h with ⟨i,u,rfl,e⟩ | ⟨y,u,rfl,e⟩
  ·exact nomatch e
  ·injection e with e1 _
   subst e1
   cases v <;> rfl
theorem xij (prog:Program) (w:World) (i:Int) (t:Tok):(xas prog w).is (.inl i) (.int i t)=true:=xlg i t
theorem xik (prog:Program) (w:World) (x:Str) (t:Tok):(xas prog w).is (.inr x) (.str x t)=true:=xk0 x t
end L2
namespace L2
open PySem PySem.Spec PyProof.Rows
variable {q0:Bool}
inductive V where
 | non | bl (b:Bool) | int (i:Int) | str (x:Str) | byt (b:Array UInt8) | flt (b:UInt64) | ref (a:Addr) | ty (n:String)
 deriving DecidableEq
def RelV:V→Value→Prop
 | .non,u=>u=Value.none
 | .bl b,u=>u=Value.bool b
 | .int i,u=>∃ t,u=Value.int i t
 | .str x,u=>∃ t,u=Value.str x t
 | .byt b,u=>∃ t,u=Value.bytes b t
 | .flt b,u=>∃ t,u=Value.float b t
 | .ref a,u=>u=Value.ref a
 | .ty n,u=>u=Value.type n
abbrev Vals:List V→List Value→Prop:=Paired RelV
theorem Vals.length {xs:List V} {us:List Value} (r:Vals xs us):xs.length=us.length:=Paired.length r
theorem Vals.get:∀ {xs:List V} {us:List Value} {i:Nat} {x:V},Vals xs us→xs[i]?=some x→∃ u,us[i]?=some u∧RelV x u
 | _,_,_,_,.nil,e=>by simp at e
 | _,_,0,_,.cons r _,e=>by simp at e; subst e; exact ⟨_,rfl,r⟩
 | _,_,i + 1,x,.cons _ t,e=>by
  obtain ⟨u,h1,h2⟩:=Vals.get (i:=i) (x:=x) t (by simpa using e)
  exact ⟨u,by simpa using h1,h2⟩
theorem Vals.set {x:V} {u:Value} (r:RelV x u):∀ {xs:List V} {us:List Value} (i:Nat),Vals xs us→Vals (xs.set i x) (us.set i u)
 | _,_,_,.nil=>.nil
 | _,_,0,.cons _ t=>.cons r t
 | _,_,i + 1,.cons q t=>.cons q (Vals.set r i t)
theorem Vals.append:∀ {xs ys:List V} {us ws:List Value},Vals xs us→Vals ys ws→Vals (xs ++ ys) (us ++ ws)
 | _,_,_,_,.nil,s=>s
 | _,_,_,_,.cons r t,s=>.cons r (Vals.append t s)
theorem Vals.take:∀ {xs:List V} {us:List Value} (n:Nat),Vals xs us→Vals (xs.take n) (us.take n)
 | _,_,0,_=>.nil
 | _,_,_ + 1,.nil=>.nil
 | _,_,n + 1,.cons r t=>.cons r (Vals.take n t)
theorem Vals.drop:∀ {xs:List V} {us:List Value} (n:Nat),Vals xs us→Vals (xs.drop n) (us.drop n)
 | _,_,0,r=>r
 | _,_,_ + 1,.nil=>.nil
 | _,_,n + 1,.cons _ t=>Vals.drop n t
def RelO:Option V→Option Value→Prop
 | some v,some u=>RelV v u
 | none,none=>True
 | _,_=>False
def KV {κ:Type}:List (κ × V)→List (κ × Value)→Prop:=Paired fun (p:κ × V) (q:κ × Value)=>p.1=q.1∧RelV p.2 q.2
def kV:Key→V
 | .inl i=>.int i
 | .inr x=>.str x
inductive HO where
 /-- a list -/
 | lst (xs:List V)
 /-- a tuple (never changes) -/
 | tup (xs:List V)
 /-- a dict whose keys are ints and texts; one whose keys are tuples of ints and texts (the empty one is both) -/
 | dK (kvs:List (Key × V)) | dT (kvs:List (List Key × V))
 /-- a set of ints: its members,its size -/
 | set (S:Int→Bool) (n:Nat)
 /-- an instance of the class at C,its dict at dx,its attributes -/
 | ins (C dx:Addr) (fs:List (Str × V))
 /-- the dict of the instance at x -/
 | own (x:Addr)
 /-- the dict of an exception -/
 | xd (fs:List (Str × V))
 /-- a bound method,f of x -/
 | met (f x:Addr)
 /-- a range object lo,lo + 1,.. below hi -/
 | rng (lo hi:Int)
 /-- a thing that is known to the object (the script; a dict while a loop walks it): read,never written while it is so -/
 | frz (o:Obj) (u:HO)
 /-- a code object's table -/
 | tbl (ps:Array Value)
 /-- any other thing,by what is true of its one object (a def of one's own: SetO a S n:=HO.ext fun h=>..) -/
 | ext (φ:Heap→Prop)
abbrev Hp:=Addr→Option HO
def upd (H:Hp) (a:Addr) (o:HO):Hp:=fun b=>if b=a then some o else H b
theorem xf {H:Hp} {a:Addr} {o:HO}:upd H a o a=some o:=by unfold upd; rw [if_pos rfl]
theorem xj {H:Hp} {a b:Addr} {o:HO} (h:b≠a):upd H a o b=H b:=by unfold upd; rw [if_neg h]
theorem xgh {H:Hp} {a:Addr} {o u:HO}:upd (upd H a o) a u=upd H a u:=by
 funext b; unfold upd; split <;> rfl
theorem xbk {H:Hp} {a b:Addr} {o u:HO} (h:H a=some o) (h':H b=some u) (d:o≠u):a≠b:=by
 intro e; subst e; rw [h] at h'; exact d (Option.some.inj h')
theorem xm {H:Hp} {a b:Addr} {o:HO} (h:H a=some o) (h':H b=none):a≠b:=by
 intro e; subst e; rw [h] at h'; cases h'
section
variable (P:Program) (w:World)
def xap (H:Hp) (h:Heap) (a:Addr):HO→Prop
  | .lst xs=>xs.length≤sizeLine∧∃ (its:List Value) (n:Nat),Vals xs its∧h.get? a=some { cls:=.type "list",data:=.seq its.toArray n }
  | .tup xs=>xs.length≤sizeLine∧∃ its:List Value,Vals xs its∧IsTup h a its.toArray
  | .dK kvs=>kvs.length≤sizeLine∧(a == sysModules)=false∧∃ vs,KV kvs vs∧h.DictOf (xas P w) a vs
  | .dT kvs=>kvs.length≤sizeLine∧(a == sysModules)=false∧∃ xs:List (List Key × Addr × Value),
      Paired (fun (p:List Key × V) (q:List Key × Addr × Value)=>p.1=q.1∧H q.2.1=some (.tup (p.1.map kV))∧RelV p.2 q.2.2) kvs xs ∧
      ∃ o es ep,h.get? a=some o∧o.ExactDict∧o.data=.dict es ep∧es.toList=xs.map (entryOfKey (tupleKind (xas P w)))∧(xs.map (·.1)).Nodup
  | .set S n=>h.SetOf (intKind P w) a S n
  | .ins C dx fs=>H dx=some (.own a)∧fs.length≤1000∧dx≠a∧h.get? a=some (PySem.W.instObj C dx) ∧
      ∃ mA,h.Ns1 dx mA∧(∀ f,RelO (fs.lookup f) (mA f))∧PySem.Within mA (fs.map (·.1))
  | .own _=>∃ o,h.get? a=some o
  | .xd fs=>∃ mA,h.Ns1 a mA∧∀ f,RelO (fs.lookup f) (mA f)
  | .rng lo hi=>∃ t u v,h.get? a=some { cls:=.type "range",data:=.fields #[.int lo t,.int hi u,.int 1 v] }
  | .frz o u=>h.get? a=some o∧xap H h a u
  | .tbl ps=>h.get? a=some { cls:=.none,data:=.fields ps }
  | .met f x=>h.get? a=some (PySem.W.methodObj (.ref f) (.ref x))
  | .ext φ=>φ h∧(∃ o,h.get? a=some o)∧∀ h1 h2:Heap,φ h1→(∀ o,h1.get? a=some o→h2.get? a=some o)→φ h2
def HOk (H:Hp) (h:Heap):Prop:=∀ a o,H a=some o→xap P w H h a o
end
section
variable {P:Program} {w:World} {H H':Hp} {h h':Heap} {a:Addr} {o:HO}
theorem xap.lt (x:xap P w H h a o):a < h.objs.size:=by
 cases o with
 | lst xs=>obtain ⟨_,_,_,_,e⟩:=x; exact Heap.lt_size e
 | tup xs=>obtain ⟨_,_,_,p⟩:=x; exact p.lt
 | dK kvs=>obtain ⟨_,_,_,_,o,_,_,e,_⟩:=x; exact Heap.lt_size e
 | dT kvs=>obtain ⟨_,_,_,_,o,_,_,e,_⟩:=x; exact Heap.lt_size e
 | set S n=>obtain ⟨o,_,_,_,e,_⟩:=x; exact Heap.lt_size e
 | ins C dx fs=>obtain ⟨_,_,_,e,_⟩:=x; exact Heap.lt_size e
 | own y=>obtain ⟨_,e⟩:=x; exact Heap.lt_size e
 | xd fs=>obtain ⟨_,⟨_,_,_,e,_⟩,_⟩:=x; exact Heap.lt_size e
 | rng lo hi=>obtain ⟨_,_,_,e⟩:=x; exact Heap.lt_size e
 | frz ob u=>obtain ⟨e,_⟩:=x; exact Heap.lt_size e
 | tbl ps=>exact Heap.lt_size (show h.get? a=some _ from x)
 | met f y=>exact Heap.lt_size (show h.get? a=some _ from x)
 | ext φ=>obtain ⟨_,⟨_,e⟩,_⟩:=x; exact Heap.lt_size e
theorem Paired.mapP {α β:Type} {F G:α→β→Prop}:∀ {l₁:List α} {l₂:List β},Paired F l₁ l₂→(∀ a b,F a b→G a b)→Paired G l₁ l₂
 | _,_,.nil,_=>.nil
 | _,_,.cons r t,f=>.cons (f _ _ r) (Paired.mapP t f)
theorem xap.stay (x:xap P w H h a o) (k:∀ b u,(b=a∨H b=some (.own a))→h.get? b=some u→h'.get? b=some u)
    (ho:∀ b,H b=some (.own a)→H' b=some (.own a)) (ht:∀ b xs,H b=some (.tup xs)→H' b=some (.tup xs)):xap P w H' h' a o:=by
  induction o with
  | lst xs=>obtain ⟨z,its,n,r,e⟩:=x; exact ⟨z,its,n,r,k _ _ (.inl rfl) e⟩
  | tup xs=>obtain ⟨z,its,r,ob,e,c⟩:=x; exact ⟨z,its,r,ob,k _ _ (.inl rfl) e,c⟩
  | dK kvs=>obtain ⟨z,y,vs,r,ob,es,ep,e,c⟩:=x; exact ⟨z,y,vs,r,ob,es,ep,k _ _ (.inl rfl) e,c⟩
  | dT kvs =>
    obtain ⟨z,y,xs,r,ob,es,ep,e,c⟩:=x
    exact ⟨z,y,xs,Paired.mapP r fun p q z=>⟨z.1,ht _ _ z.2.1,z.2.2⟩,ob,es,ep,k _ _ (.inl rfl) e,c⟩
  | set S n=>obtain ⟨ob,es,ep,t,e,c⟩:=x; exact ⟨ob,es,ep,t,k _ _ (.inl rfl) e,c⟩
  | ins C dx fs =>
    obtain ⟨d,z,ne,e,mA,⟨od,es,ep,e2,c⟩,r⟩:=x
    exact ⟨ho _ d,z,ne,k _ _ (.inl rfl) e,mA,⟨od,es,ep,k _ _ (.inr d) e2,c⟩,r⟩
  | own y=>obtain ⟨ob,e⟩:=x; exact ⟨ob,k _ _ (.inl rfl) e⟩
  | xd fs=>obtain ⟨mA,⟨od,es,ep,e,c⟩,r⟩:=x; exact ⟨mA,⟨od,es,ep,k _ _ (.inl rfl) e,c⟩,r⟩
  | rng lo hi=>obtain ⟨t,u,v,e⟩:=x; exact ⟨t,u,v,k _ _ (.inl rfl) e⟩
  | frz ob u ih=>obtain ⟨e,q⟩:=x; exact ⟨k _ _ (.inl rfl) e,ih q⟩
  | tbl ps =>
    have e:h.get? a=some { cls:=.none,data:=.fields ps }:=x
    show h'.get? a=some { cls:=.none,data:=.fields ps }
    exact k a _ (.inl rfl) e
  | met f y =>
    have e:h.get? a=some (PySem.W.methodObj (.ref f) (.ref y)):=x
    show h'.get? a=some (PySem.W.methodObj (.ref f) (.ref y))
    exact k a _ (.inl rfl) e
  | ext φ=>obtain ⟨p,⟨o,e⟩,st⟩:=x; exact ⟨st _ _ p fun o q=>k _ _ (.inl rfl) q,⟨o,k _ _ (.inl rfl) e⟩,st⟩
theorem HOk.lt (x:HOk P w H h) (e:H a=some o):a < h.objs.size:=(x a o e).lt
theorem HOk.fresh (x:HOk P w H h) (e:h.objs.size≤a):H a=none:=by
 cases q:H a with
 | none=>rfl
 | some u=>exact absurd (Nat.lt_of_lt_of_le (x.lt q) e) (Nat.lt_irrefl _)
theorem HOk.kept (x:HOk P w H h) (k:∀ b u,h.get? b=some u→h'.get? b=some u):HOk P w H h':=fun a o e =>
 (x a o e).stay (fun b u _ q=>k b u q) (fun _ q=>q) fun _ _ q=>q
theorem HOk.laid (x:HOk P w H h) (k:∀ b u,h.get? b=some u→h'.get? b=some u) (hp:h.objs.size≤a) (new:xap P w (upd H a o) h' a o):HOk P w (upd H a o) h':=fun b u e=>by
 have hn:=x.fresh hp
 by_cases hb:b=a
 ·subst hb; rw [xf] at e; cases e; exact new
 ·rw [xj hb] at e
  exact (x b u e).stay (fun c v _ q=>k c v q) (fun c q=>by rw [xj (xm q hn)]; exact q) fun c xs q=>by rw [xj (xm q hn)]; exact q
end
def Rd (H:Hp) (a:Addr) (u:HO):Prop:=H a=some u∨∃ o,H a=some (.frz o u)
theorem Rd.ok {P:Program} {w:World} {H:Hp} {h:Heap} {a:Addr} {u:HO} (r:Rd H a u) (x:HOk P w H h):xap P w H h a u:=by
 rcases r with r | ⟨o,r⟩
 ·exact x a u r
 ·obtain ⟨_,q⟩:=x a _ r
  exact q
def Mut:Option HO→Prop
 | some (.lst _)=>True
 | some (.dK _)=>True
 | some (.dT _)=>True
 | some (.set _ _)=>True
 | some (.ins _ _ _)=>True
 | some (.ext _)=>True
 | _=>False
section
variable {P:Program} {w:World} {H:Hp} {h h':Heap} {x e:Addr} {o':HO}
theorem HOk.write (ok:HOk P w H h) (mu:Mut (H x)) (he:e=x∨H e=some (.own x)) (k:∀ b u,b≠e→h.get? b=some u→h'.get? b=some u) (heo:∃ u,h'.get? e=some u)
    (new:xap P w (upd H x o') h' x o'):HOk P w (upd H x o') h':=fun b u q=>by
  have nown:∀ c y,H c=some (.own y)→c≠x:=fun c y r z=>by subst z; rw [r] at mu; exact mu
  have ntup:∀ c xs,H c=some (.tup xs)→c≠x:=fun c xs r z=>by subst z; rw [r] at mu; exact mu
  by_cases hb:b=x
  · subst hb; rw [xf] at q; cases q; exact new
  · rw [xj hb] at q
    by_cases hbe:b=e
    · have q':H b=some (.own x):=by
        rcases he with z | z
        · exact absurd (hbe.trans z) hb
        · rw [hbe]; exact z
      rw [q] at q'; cases q'
      obtain ⟨v,hv⟩:=heo
      exact ⟨v,by rw [hbe]; exact hv⟩
    · refine (ok b u q).stay (fun c v hc r=>k c v ?_ r) (fun c r=>by rw [xj (nown c b r)]; exact r) fun c xs r=>by rw [xj (ntup c xs r)]; exact r
      rcases hc with rfl | hc
      · exact hbe
      · rintro rfl
        rcases he with z | z
        · exact nown c b hc z
        · rw [hc] at z; cases z; exact hb rfl
end
structure Un (fs ex:List Addr) (H H':Hp) (h h':Heap):Prop where
 keep:∀ b o,h.get? b=some o→H b=none→b ∉ fs→b ∉ ex→h'.get? b=some o
 slot:∀ b o,h.get? b=some o→H b=none→b ∈ fs→b ∉ ex→∃ sl,h'.get? b=some { o with slots:=sl }
 free:∀ b o,h.get? b=some o→H b=none→b ∉ ex→H' b=none
 there:∀ b o,h.get? b=some o→b ∉ ex→∃ o',h'.get? b=some o'
 tups:∀ b xs,H b=some (.tup xs)→H' b=some (.tup xs)
 frzs:∀ b o u,H b=some (.frz o u)→H' b=some (.frz o u)
 tbls:∀ b ps,H b=some (.tbl ps)→∃ more,H' b=some (.tbl (ps ++ more))
section
variable {fs fs' ex ex':List Addr} {H H1 H2:Hp} {h h1 h2 h':Heap} {a x e:Addr} {o:HO}
theorem Un.any (u:Un fs ex H H1 h h1) {b:Addr} {ob:Obj} (q:h.get? b=some ob) (n:H b=none) (hx:b ∉ ex):∃ sl,h1.get? b=some { ob with slots:=sl }:=by
 by_cases hb:b ∈ fs
 ·exact u.slot b ob q n hb hx
 ·exact ⟨ob.slots,u.keep b ob q n hb hx⟩
theorem Un.kept (k:∀ b u,h.get? b=some u→h'.get? b=some u):Un fs ex H H h h' :=
 ⟨fun b ob q _ _ _=>k b ob q,fun b ob q _ _ _=>⟨ob.slots,k b ob q⟩,fun _ _ _ n _=>n,fun b ob q _=>⟨ob,k b ob q⟩,fun _ _ q=>q,fun _ _ _ q=>q,fun _ ps q=>⟨#[],by rw [q]; simp⟩⟩
theorem Un.refl:Un fs ex H H h h:=Un.kept fun _ _ q=>q
theorem Un.laid (k:∀ b u,h.get? b=some u→h'.get? b=some u) (hp:h.objs.size≤a) (hn:H a=none):Un fs ex H (upd H a o) h h' where
 keep:=fun b u q _ _ _=>k b u q
 slot:=fun b u q _ _ _=>⟨u.slots,k b u q⟩
 free:=fun b u q n _=>by rw [xj (Nat.ne_of_lt (Nat.lt_of_lt_of_le (Heap.lt_size q) hp))]; exact n
 there:=fun b u q _=>⟨u,k b u q⟩
 tups:=fun b xs q=>by rw [xj (xm q hn)]; exact q
 frzs:=fun b u xs q=>by rw [xj (xm q hn)]; exact q
 tbls:=fun b ps q=>⟨#[],by rw [xj (xm q hn),q]; simp⟩
theorem Un.write (mu:Mut (H x)) (he:e=x∨H e=some (.own x)) (k:∀ b u,b≠e→h.get? b=some u→h'.get? b=some u) (heo:∃ u,h'.get? e=some u):Un fs ex H (upd H x o) h h':=by
 have hx:∀ b,H b=none→b≠x:=fun b n z=>by subst z; rw [n] at mu; exact mu
 have hb:∀ b,H b=none→b≠e:=fun b n z=>by
  subst z
  rcases he with r | r
  ·exact hx b n r
  ·rw [n] at r; cases r
 have hm:∀ b u,H b=some u→¬ Mut (some u)→b≠x:=fun b u q nm z=>by subst z; rw [q] at mu; exact nm mu
 refine ⟨fun b u q n _ _=>k b u (hb b n) q,fun b u q n _ _=>⟨u.slots,k b u (hb b n) q⟩,fun b u q n _=>by rw [xj (hx b n)]; exact n,fun b u q _=>?_,
  fun b xs q=>by rw [xj (hm b _ q fun z=>z)]; exact q,fun b u xs q=>by rw [xj (hm b _ q fun z=>z)]; exact q,fun b ps q=>⟨#[],by rw [xj (hm b _ q fun z=>z),q]; simp⟩⟩
 by_cases hbe:b=e
 ·subst hbe; exact heo
 ·exact ⟨u,k b u hbe q⟩
end
def trk (h:Heap) (H:Hp):List Addr:=(List.range h.objs.size).filter fun a=>(H a).isSome
def hidT (h:Heap) (H:Hp):Heap:=PySem.W.hideAll h (trk h H)
theorem xkh (h:Heap) (H:Hp):(hidT h H).objs.size=h.objs.size:=PySem.W.hideAll_size _ _
theorem xlw {h:Heap} {H:Hp} {b:Addr} {o:Obj} (e:h.get? b=some o) (n:H b=none):(hidT h H).get? b=some o :=
 PySem.W.hideAll_get _ e fun hm=>by
  have q:(H b).isSome=true:=(List.mem_filter.mp hm).2
  rw [n] at q; simp at q
theorem xo0 {h:Heap} {H:Hp} {b:Addr} {o:Obj} (e:(hidT h H).get? b=some o):h.get? b=some o∧H b=none:=by
 have e':h.get? b=some o:=PySem.W.of_hideAll (trk h H) e
 refine ⟨e',?_⟩
 cases q:H b with
 | none=>rfl
 | some x =>
  have hm:b ∈ trk h H:=List.mem_filter.mpr ⟨List.mem_range.mpr (Heap.lt_size e'),by simp [q]⟩
  have z:(hidT h H).get? b=none:=PySem.W.hideAll_none (trk h H) hm
  rw [z] at e; cases e
def xod (g h:Heap) (L:Addr):List (Addr × Obj):=(List.range h.objs.size).filterMap fun a=>if a=L∨(g.get? a).isSome=true then none else (h.get? a).map fun o=>(a,o)
def rest (g h:Heap) (L d:Addr):List (Addr × Obj):=(xod g h L).filter fun p=>decide (p.1≠d)
end L2
namespace L2
open PySem PySem.Spec PyProof.Rows
variable {q0:Bool}
structure Mod (K:PySem.W.Frag) (mg:Str→Option Value) (base:Heap):Prop where
 kin:K.In base
 glob:base.Ns mainGlobals mg
 blt:∃ mb,base.Ns builtinsNs mb∧∀ x:Str,x≠"__name__"→mb x=bootBuiltins x
 nolimit:base.NoLimit
structure Cx where
 prog:Program
 w:World
 K:PySem.W.Frag
 mg:Str→Option Value
 base:Heap
 A:Around
 N:List Str
 s₀:Shared
 H₀:Hp
 env:Env
 outer:List Env
 stack:List Env
 ex:List Addr
 fn:Str→Bool
 calm:Bool
 pn:List (Addr × Obj)
 xe:Value→Shared→Prop
def frs (l:List Env):List Addr:=l.filterMap (·.frame)
abbrev Cx.fs (X:Cx):List Addr:=frs X.outer
def Vis (sc:Scope) (x:Str):Prop:=sc.names.lookup x=some .local∨sc.names.lookup x=some .cell∨sc.names.lookup x=some .free
def Loc (sc:Scope) (x:Str):Prop:=sc.names.lookup x=some .local∨sc.names.lookup x=some .cell
def Look (env:Env) (h:Heap) (m:Str→Option Value) (x:Str) (u:Value):Prop :=
 (env.kindOf x=some .local∧m x=some u)∨((env.kindOf x=some .cell∨env.kindOf x=some .free)∧∃ c,env.cells.lookup x=some c∧h.IsCell c (some u))
structure Cx.Ok (X:Cx):Prop where
 mod:Mod X.K X.mg X.base
 kind:X.env.scope.kind=.function
 glob:X.env.globals=mainGlobals
 blt:X.env.builtins=builtinsNs
 above:X.s₀.heap.objs.size≤X.env.locals
 inj:∀ x y c,X.env.cells.lookup x=some c→X.env.cells.lookup y=some c→x=y
 has:∀ x,(X.env.kindOf x=some .cell∨X.env.kindOf x=some .free)→∃ c,X.env.cells.lookup x=some c
 cab:∀ x c,X.fn x=true→X.env.cells.lookup x=some c→X.s₀.heap.objs.size≤c
 hd:X.calm=true→X.A.handled=none
 frames:X.A.frames=some X.stack
 stk:X.stack=X.outer∨(X.stack=X.env :: X.outer∧X.env.frame=some X.env.locals)
 exf:∀ b ∈ X.ex,b≠X.env.locals∧∀ x c,X.env.cells.lookup x=some c→c≠b
 bs:∀ b o,X.base.get? b=some o→X.s₀.heap.get? b=some o∧X.H₀ b=none
 bsz:X.base.objs.size≤X.s₀.heap.objs.size
 noex:∀ b o,X.base.get? b=some o→b ∉ X.ex
 exfs:∀ b ∈ X.ex,b ∉ X.fs
 funs:X.s₀.heap.FunFrames X.base X.outer
 frf:∀ b ∈ X.fs,X.H₀ b=none
structure Inv (X:Cx) (pins:List (Addr × Obj)) (σ:List (Option V)) (H:Hp) (s:Shared):Prop where
 ok:X.Ok
 os:s.os=X.s₀.os
 bare:AllBare s.gens
 base:Un X.fs X.ex X.H₀ H X.s₀.heap s.heap
 loc:∃ m,s.heap.Ns X.env.locals m∧∀ (i:Nat) (x:Str) (v:V),X.N[i]?=some x→σ[i]?=some (some v)→Vis X.env.scope x→∃ u,RelV v u∧Look X.env s.heap m x u
 cell:∀ x c,X.env.cells.lookup x=some c→∃ v,s.heap.IsCell c v
 free:H X.env.locals=none
 freeC:∀ x c,X.env.cells.lookup x=some c→H c=none
 pin:∀ p ∈ X.pn ++ pins,s.heap.get? p.1=some p.2∧H p.1=none∧p.1≠X.env.locals∧p.1 ∉ X.fs∧∀ v,p.2.data≠.cell v
 hok:HOk X.prog X.w H s.heap
 len:σ.length=X.N.length
section
variable {X:Cx} {pins:List (Addr × Obj)} {σ:List (Option V)} {H H':Hp} {s:Shared} {h':Heap}
theorem Cx.Ok.nofr (ok:X.Ok) {b:Addr} {o:Obj} (e:X.base.get? b=some o):b ∉ X.fs:=fun hb=>by
 have:=(ok.funs.mem hb).1
 rw [e] at this; cases this
theorem Inv.bs (I:Inv X pins σ H s):∀ b o,X.base.get? b=some o→s.heap.get? b=some o∧H b=none:=fun b o e =>
 ⟨I.base.keep b o (I.ok.bs b o e).1 (I.ok.bs b o e).2 (I.ok.nofr e) (I.ok.noex b o e),I.base.free b o (I.ok.bs b o e).1 (I.ok.bs b o e).2 (I.ok.noex b o e)⟩
theorem Inv.bk (I:Inv X pins σ H s):∀ b o,X.base.get? b=some o→s.heap.get? b=some o:=fun b o e=>(I.bs b o e).1
theorem Inv.mod (I:Inv X pins σ H s):Mod X.K X.mg X.base:=I.ok.mod
theorem Inv.kIn (I:Inv X pins σ H s):X.K.In s.heap:=I.ok.mod.kin.keeps I.bk
theorem Inv.fr (I:Inv X pins σ H s):∃ m,Fr X.base X.env.locals s.heap m :=
 let ⟨m,hn,_⟩:=I.loc
 ⟨m,hn,I.bk,Nat.le_trans I.ok.bsz I.ok.above⟩
theorem Inv.lt (I:Inv X pins σ H s):X.env.locals < s.heap.objs.size:=let ⟨_,hn,_⟩:=I.loc; hn.lt
theorem Inv.sz (I:Inv X pins σ H s):X.s₀.heap.objs.size≤s.heap.objs.size:=Nat.le_trans I.ok.above (Nat.le_of_lt I.lt)
theorem Inv.nofs (I:Inv X pins σ H s) {a:Addr} (h:s.heap.objs.size≤a):a ∉ X.fs:=fun hb=>by
 obtain ⟨_,o,ho,_⟩:=I.ok.funs.mem hb
 exact absurd (Nat.lt_of_lt_of_le (Heap.lt_size ho) (Nat.le_trans I.sz h)) (Nat.lt_irrefl _)
theorem Inv.cne (I:Inv X pins σ H s):∀ x c,X.env.cells.lookup x=some c→c≠X.env.locals:=fun x c e z=>by
 obtain ⟨v,o,ho,hd⟩:=I.cell x c e
 obtain ⟨m,⟨o',es,ep,ho',hd',_⟩,_⟩:=I.loc
 rw [z,ho'] at ho; cases ho; rw [hd'] at hd; cases hd
theorem Inv.funs (I:Inv X pins σ H s):s.heap.FunFrames X.base X.outer:=by
 have all:∀ (l:List Env),(∀ b ∈ frs l,b ∈ X.fs)→X.s₀.heap.FunFrames X.base l→s.heap.FunFrames X.base l:=by
  intro l
  induction l with
  | nil=>intro _ _; trivial
  | cons env r ih =>
   intro hs hl
   obtain ⟨hk,⟨L,o,hf,hn,ho,hd⟩,hr⟩:=hl
   have hL:L ∈ X.fs:=hs L (by unfold frs; rw [List.filterMap_cons,hf]; exact List.mem_cons_self)
   obtain ⟨sl,e⟩:=I.base.slot L o ho (I.ok.frf L hL) hL fun z=>I.ok.exfs L z hL
   exact ⟨hk,⟨L,_,hf,hn,e,hd⟩,ih (fun b hb=>hs b (by unfold frs; rw [List.filterMap_cons,hf]; exact List.mem_cons_of_mem _ hb)) hr⟩
 exact all X.outer (fun _ hb=>hb) I.ok.funs
theorem Inv.stack (I:Inv X pins σ H s):s.heap.FunFrames X.base X.stack:=by
 rcases I.ok.stk with e | ⟨e,hf⟩
 ·rw [e]; exact I.funs
 ·rw [e]
  obtain ⟨m,hn,_⟩:=I.loc
  refine .cons (by rw [I.ok.kind]; decide) hf hn ?_ I.funs
  exact Heap.get?_none_of_le (Nat.le_trans I.ok.bsz I.ok.above)
theorem Inv.stkSub (I:Inv X pins σ H s):∀ b ∈ frs X.stack,b ∈ X.env.locals :: X.fs:=fun b hb=>by
 rcases I.ok.stk with e | ⟨e,hf⟩
 ·rw [e] at hb; exact List.mem_cons_of_mem _ hb
 ·rw [e] at hb
  unfold frs at hb
  rw [List.filterMap_cons,hf] at hb
  exact hb
theorem Inv.stkFree (I:Inv X pins σ H s):∀ b ∈ frs X.stack,H b=none:=fun b hb=>by
 rcases List.mem_cons.mp (I.stkSub b hb) with e | hb
 ·rw [e]; exact I.free
 ·obtain ⟨_,o,ho,_⟩:=I.ok.funs.mem hb
  exact I.base.free b o ho (I.ok.frf b hb) fun z=>I.ok.exfs b z hb
theorem Inv.step {g':Array GenState} {t':Nat} {d':Drawn} {ch:List Addr} (I:Inv X pins σ H s)
    (hch:∀ b ∈ ch,(b ∈ X.ex∨X.s₀.heap.objs.size≤b)∧b≠X.env.locals∧(∀ x c,X.env.cells.lookup x=some c→c≠b)∧∀ p ∈ X.pn ++ pins,p.1≠b)
    (keep:∀ b o,b≠X.env.locals→b ∉ X.fs→b ∉ ch→s.heap.get? b=some o→H b=none→h'.get? b=some o)
    (slot:∀ b o,b≠X.env.locals→b ∈ X.fs→b ∉ ch→s.heap.get? b=some o→H b=none→∃ sl,h'.get? b=some { o with slots:=sl }) (free:∀ b o,b ∉ ch→s.heap.get? b=some o→H b=none→H' b=none)
    (there:∀ b o,b ∉ ch→s.heap.get? b=some o→∃ o',h'.get? b=some o')
    (tups:∀ b xs,H b=some (.tup xs)→H' b=some (.tup xs)) (frzs:∀ b o u,H b=some (.frz o u)→H' b=some (.frz o u)) (tbls:∀ b ps,H b=some (.tbl ps)→∃ more,H' b=some (.tbl (ps ++ more)))
    (ns:∀ m,s.heap.Ns X.env.locals m→h'.Ns X.env.locals m) (hok:HOk X.prog X.w H' h') (hg:AllBare g') :
    Inv X pins σ H' { s with heap:=h',gens:=g',drawn:=d',toks:=t' }:=by
  have neL:∀ b o,X.s₀.heap.get? b=some o→b≠X.env.locals:=fun b o e=>Nat.ne_of_lt (Nat.lt_of_lt_of_le (Heap.lt_size e) I.ok.above)
  have neC:∀ b o,X.s₀.heap.get? b=some o→b ∉ X.ex→b ∉ ch:=fun b o e hx hb=>by
    rcases (hch b hb).1 with z | z
    · exact hx z
    · exact absurd (Nat.lt_of_lt_of_le (Heap.lt_size e) z) (Nat.lt_irrefl _)
  have cellK:∀ x c,X.env.cells.lookup x=some c→∀ v,s.heap.IsCell c v→h'.IsCell c v:=fun x c e v ⟨o,ho,hd⟩=>by
    have nch:c ∉ ch:=fun z=>(hch c z).2.2.1 x c e rfl
    by_cases hc:c ∈ X.fs
    · obtain ⟨sl,q⟩:=slot c o (I.cne x c e) hc nch ho (I.freeC x c e)
      exact ⟨_,q,hd⟩
    · exact ⟨o,keep c o (I.cne x c e) hc nch ho (I.freeC x c e),hd⟩
  refine ⟨I.ok,I.os,hg,⟨fun b o e n hb hx=>?_,fun b o e n hb hx=>?_,fun b o e n hx=>?_,fun b o e hx=>?_,fun b xs e=>tups b xs (I.base.tups b xs e),fun b o xs e=>frzs b o xs (I.base.frzs b o xs e),fun b ps e=>?_⟩,?_,fun x c e=>?_,?_,fun x c e=>?_,fun p hp=>?_,hok,I.len⟩
  · exact keep b o (neL b o e) hb (neC b o e hx) (I.base.keep b o e n hb hx) (I.base.free b o e n hx)
  · obtain ⟨sl,e1⟩:=I.base.slot b o e n hb hx
    obtain ⟨sl',e2⟩:=slot b _ (neL b o e) hb (neC b o e hx) e1 (I.base.free b o e n hx)
    exact ⟨sl',e2⟩
  · obtain ⟨o',e1⟩:=I.base.there b o e hx
    exact free b o' (neC b o e hx) e1 (I.base.free b o e n hx)
  · obtain ⟨o',e1⟩:=I.base.there b o e hx
    exact there b o' (neC b o e hx) e1
  · obtain ⟨m1,e1⟩:=I.base.tbls b ps e
    obtain ⟨m2,e2⟩:=tbls b _ e1
    exact ⟨m1 ++ m2,by rw [e2,Array.append_assoc]⟩
  · obtain ⟨m,hn,hl⟩:=I.loc
    refine ⟨m,ns m hn,fun i x v e1 e2 e3=>?_⟩
    obtain ⟨u,r,l⟩:=hl i x v e1 e2 e3
    refine ⟨u,r,?_⟩
    rcases l with l | ⟨k,c,e,z⟩
    · exact .inl l
    · exact .inr ⟨k,c,e,cellK x c e _ z⟩
  · obtain ⟨v,z⟩:=I.cell x c e
    exact ⟨v,cellK x c e v z⟩
  · obtain ⟨m,⟨o,_,_,ho,_⟩,_⟩:=I.loc
    exact free _ o (fun z=>(hch _ z).2.1 rfl) ho I.free
  · obtain ⟨v,o,ho,hd⟩:=I.cell x c e
    exact free c o (fun z=>(hch c z).2.2.1 x c e rfl) ho (I.freeC x c e)
  · obtain ⟨e,n,ne,nf,d⟩:=I.pin p hp
    have nch:p.1 ∉ ch:=fun z=>(hch p.1 z).2.2.2 p hp rfl
    exact ⟨keep p.1 p.2 ne nf nch e n,free p.1 p.2 nch e n,ne,nf,d⟩
theorem Inv.un {t':Nat} (I:Inv X pins σ H s) (u:Un X.fs [] H H' s.heap h') (hok:HOk X.prog X.w H' h'):Inv X pins σ H' { s with heap:=h',toks:=t' }:=by
 obtain ⟨m,⟨o,es,ep,ho,r⟩,_⟩:=id I.loc
 obtain ⟨sl,hL⟩:=u.any ho I.free (by simp)
 exact I.step (g':=s.gens) (d':=s.drawn) (ch:=[]) (fun _ z=>nomatch z) (fun b o _ hb _ e n=>u.keep b o e n hb (by simp)) (fun b o _ hb _ e n=>u.slot b o e n hb (by simp)) (fun b o _ e n=>u.free b o e n (by simp)) (fun b o _ e=>u.there b o e (by simp)) u.tups u.frzs u.tbls (fun m' hm=>by
  obtain ⟨o',es',ep',ho',r'⟩:=hm
  rw [ho] at ho'; cases ho'
  exact ⟨_,es',ep',hL,r'⟩) hok I.bare
theorem Inv.call {g':Array GenState} {t':Nat} {d':Drawn} {ch:List Addr} (I:Inv X pins σ H s) (u:Un (frs X.stack) ch H H' s.heap h') (hok:HOk X.prog X.w H' h') (hg:AllBare g')
    (hch:∀ b ∈ ch,(b ∈ X.ex∨X.s₀.heap.objs.size≤b)∧b≠X.env.locals∧(∀ x c,X.env.cells.lookup x=some c→c≠b)∧∀ p ∈ X.pn ++ pins,p.1≠b) :
    Inv X pins σ H' { s with heap:=h',gens:=g',drawn:=d',toks:=t' }:=by
  obtain ⟨m,⟨o,es,ep,ho,r⟩,_⟩:=id I.loc
  obtain ⟨sl,hL⟩:=u.any ho I.free fun z=>(hch _ z).2.1 rfl
  exact I.step (ch:=ch) hch (fun b o hL hb hc e n=>u.keep b o e n (fun z=>(List.mem_cons.mp (I.stkSub b z)).elim hL hb) hc) (fun b o _ _ hc e n=>u.any e n hc) (fun b o hc e n=>u.free b o e n hc) (fun b o hc e=>u.there b o e hc) u.tups u.frzs u.tbls (fun m' hm=>by
    obtain ⟨o',es',ep',ho',r'⟩:=hm
    rw [ho] at ho'; cases ho'
    exact ⟨_,es',ep',hL,r'⟩) hok hg
theorem Inv.turned {t':Nat} {it:Addr} (I:Inv X pins σ H s) (k:∀ b o,b≠it→s.heap.get? b=some o→h'.get? b=some o) (hn:H it=none) (hL:it≠X.env.locals)
    (h1:it ∈ X.ex∨X.s₀.heap.objs.size≤it) (h2:∀ x c,X.env.cells.lookup x=some c→c≠it) (h3:∀ p ∈ X.pn ++ pins,p.1≠it):Inv X pins σ H { s with heap:=h',toks:=t' }:=by
  have nit:∀ b u,H b=some u→b≠it:=fun b u e z=>by rw [z,hn] at e; cases e
  refine I.step (g':=s.gens) (d':=s.drawn) (ch:=[it]) (fun b hb=>?_) (fun b o _ _ hc e _=>k b o (fun z=>hc (by simp [z])) e) (fun b o _ _ hc e _=>⟨o.slots,k b o (fun z=>hc (by simp [z])) e⟩) (fun _ _ _ _ n=>n)
    (fun b o hc e=>⟨o,k b o (fun z=>hc (by simp [z])) e⟩) (fun _ _ e=>e) (fun _ _ _ e=>e) (fun b ps e=>⟨#[],by rw [e]; simp⟩) (fun m hm=>?_) (fun b u e=>?_) I.bare
  · have e:b=it:=by simpa using hb
    subst e
    exact ⟨h1,hL,h2,h3⟩
  · obtain ⟨o,es,ep,ho,r⟩:=hm
    exact ⟨o,es,ep,k _ o (Ne.symm hL) ho,r⟩
  · refine (I.hok b u e).stay (fun c v hc q=>k c v ?_ q) (fun _ q=>q) fun _ _ q=>q
    rcases hc with z | z
    · rw [z]; exact nit b u e
    · exact nit c _ z
theorem Inv.tok (I:Inv X pins σ H s) (t:Nat):Inv X pins σ H { s with toks:=t }:=I.un (h':=s.heap) (t':=t) Un.refl I.hok
theorem Inv.kept {t':Nat} (I:Inv X pins σ H s) (k:∀ b u,s.heap.get? b=some u→h'.get? b=some u):Inv X pins σ H { s with heap:=h',toks:=t' }:=I.un (Un.kept k) (I.hok.kept k)
theorem Inv.laid {a:Addr} {o:HO} {t':Nat} (I:Inv X pins σ H s) (k:∀ b u,s.heap.get? b=some u→h'.get? b=some u) (hp:s.heap.objs.size≤a) (new:xap X.prog X.w (upd H a o) h' a o) :
    Inv X pins σ (upd H a o) { s with heap:=h',toks:=t' }:=I.un (Un.laid k hp (I.hok.fresh hp)) (I.hok.laid k hp new)
theorem Inv.write {x e:Addr} {o:HO} {t':Nat} (I:Inv X pins σ H s) (mu:Mut (H x)) (he:e=x∨H e=some (.own x)) (k:∀ b u,b≠e→s.heap.get? b=some u→h'.get? b=some u) (heo:∃ u,h'.get? e=some u)
    (new:xap X.prog X.w (upd H x o) h' x o):Inv X pins σ (upd H x o) { s with heap:=h',toks:=t' }:=I.un (Un.write mu he k heo) (I.hok.write mu he k heo new)
theorem Inv.weak {σ':List (Option V)} (I:Inv X pins σ H s) (hl:σ'.length=σ.length) (w:∀ (i:Nat) v,σ'[i]?=some (some v)→σ[i]?=some (some v)):Inv X pins σ' H s :=
 ⟨I.ok,I.os,I.bare,I.base,let ⟨m,hn,hl'⟩:=I.loc; ⟨m,hn,fun i x v e1 e2 e3=>hl' i x v e1 (w i v e2) e3⟩,I.cell,I.free,I.freeC,I.pin,I.hok,hl.trans I.len⟩
theorem Inv.pins_of {pins':List (Addr × Obj)} (I:Inv X pins σ H s) (h:∀ p ∈ pins',s.heap.get? p.1=some p.2∧H p.1=none∧p.1≠X.env.locals∧p.1 ∉ X.fs∧∀ v,p.2.data≠.cell v):Inv X pins' σ H s :=
 ⟨I.ok,I.os,I.bare,I.base,I.loc,I.cell,I.free,I.freeC,fun p hp=>(List.mem_append.mp hp).elim (fun z=>I.pin p (List.mem_append_left _ z)) (h p),I.hok,I.len⟩
theorem xhm {N:List Str} (hN:N.Nodup) {i j:Nat} {x:Str} (a:N[i]?=some x) (b:N[j]?=some x):i=j:=by
 obtain ⟨h1,e1⟩:=List.getElem?_eq_some_iff.mp a
 obtain ⟨h2,e2⟩:=List.getElem?_eq_some_iff.mp b
 exact (List.getElem_inj hN).mp (e1.trans e2.symm)
theorem xgv {M:Model} {A:Around} {E:Value→Shared→Prop} {i:Nat} {x:Str} {v:V} {u:Value} {Q:Unit→Shared→Prop} (I:Inv X pins σ H s) (hN:X.N.Nodup) (hi:X.N[i]?=some x) (hx:Loc X.env.scope x) (r:RelV v u)
    (h:∀ s',Inv X pins (σ.set i (some v)) H s'→(∃ a,Heap.SameBut a s.heap s'.heap∧(a=X.env.locals∨X.env.cells.lookup x=some a))→Q () s') (hf:X.fn x=true∨X.env.scope.names.lookup x=some .local:=by first | exact .inl rfl | exact .inr rfl | assumption):wpAny M A (storeName X.env x u) Q E s:=by
  obtain ⟨m,hn,hl⟩:=id I.loc
  have hcls:(X.env.scope.kind == .class || (X.env.scope.kind == .module && X.env.locals != X.env.globals))=false:=by rw [I.ok.kind]; rfl
  have hiσ:i < σ.length:=by rw [I.len]; exact (List.getElem?_eq_some_iff.mp hi).1
  have cne:=I.cne
  have tracked:∀ {a:Addr} {h':Heap},(∃ o,s.heap.get? a=some o∧H a=none)→Heap.SameBut a s.heap h'→HOk X.prog X.w H h':=fun {a h'} ha hs b ob e=>by
    obtain ⟨_,_,hfree⟩:=ha
    refine (I.hok b ob e).stay (fun c w' hc q=>(hs.2 c ?_).trans q) (fun _ q=>q) fun _ _ q=>q
    rintro rfl
    rcases hc with rfl | hc
    · rw [hfree] at e; cases e
    · rw [hfree] at hc; cases hc
  rcases hx with hk | hk
  · refine wpAny_storeName_local hk hn (fun h' hn' hs=>?_) hcls
    obtain ⟨oL,_,_,hoL,_⟩:=id hn
    refine h _ ⟨I.ok,I.os,I.bare,⟨fun b o e n hb hx=>?_,fun b o e n hb hx=>?_,I.base.free,fun b o e hx=>?_,I.base.tups,I.base.frzs,I.base.tbls⟩,⟨_,hn',fun j y v' e1 e2 e3=>?_⟩,fun y c e=>?_,I.free,I.freeC,fun p hp=>?_,tracked ⟨oL,hoL,I.free⟩ hs,by simpa using I.len⟩ ⟨_,hs,.inl rfl⟩
    · exact (hs.2 b (Nat.ne_of_lt (Nat.lt_of_lt_of_le (Heap.lt_size e) I.ok.above))).trans (I.base.keep b o e n hb hx)
    · obtain ⟨sl,e1⟩:=I.base.slot b o e n hb hx
      exact ⟨sl,(hs.2 b (Nat.ne_of_lt (Nat.lt_of_lt_of_le (Heap.lt_size e) I.ok.above))).trans e1⟩
    · obtain ⟨o',e1⟩:=I.base.there b o e hx
      exact ⟨o',(hs.2 b (Nat.ne_of_lt (Nat.lt_of_lt_of_le (Heap.lt_size e) I.ok.above))).trans e1⟩
    · by_cases hj:j=i
      · subst hj
        rw [hi] at e1; cases e1
        rw [List.getElem?_set_self hiσ] at e2
        cases e2
        exact ⟨u,r,.inl ⟨hk,by simp⟩⟩
      · rw [List.getElem?_set_ne (Ne.symm hj)] at e2
        obtain ⟨u',r',q⟩:=hl j y v' e1 e2 e3
        refine ⟨u',r',?_⟩
        rcases q with ⟨k,e⟩ | ⟨k,c,e,z⟩
        · refine .inl ⟨k,?_⟩
          have:y≠x:=fun e=>hj (xhm hN e1 (e ▸ hi))
          simp [this,e]
        · exact .inr ⟨k,c,e,z.sameBut hs (cne y c e)⟩
    · obtain ⟨w',z⟩:=I.cell y c e
      exact ⟨w',z.sameBut hs (cne y c e)⟩
    · obtain ⟨e,n,ne,nf,d⟩:=I.pin p hp
      exact ⟨(hs.2 p.1 ne).trans e,n,ne,nf,d⟩
  · have hfn:X.fn x=true:=by
      rcases hf with z | z
      · exact z
      · rw [z] at hk; cases hk
    obtain ⟨c,hc⟩:=I.ok.has x (.inl hk)
    obtain ⟨w',z⟩:=I.cell x c hc
    refine wpAny_storeName_cell I.ok.kind hk hc z (fun h' hc' hs=>?_)
    obtain ⟨oc,hoc,hocd⟩:=id z
    refine h { s with heap:=h' } ⟨I.ok,I.os,I.bare,⟨fun b o e n hb hx=>?_,fun b o e n hb hx=>?_,I.base.free,fun b o e hx=>?_,I.base.tups,I.base.frzs,I.base.tbls⟩,⟨m,hn.sameBut hs (Ne.symm (cne x c hc)),fun j y v' e1 e2 e3=>?_⟩,fun y c' e=>?_,I.free,I.freeC,fun p hp=>?_,tracked ⟨oc,hoc,I.freeC x c hc⟩ hs,by simpa using I.len⟩ ⟨c,hs,.inr hc⟩
    · exact (hs.2 b (Nat.ne_of_lt (Nat.lt_of_lt_of_le (Heap.lt_size e) (I.ok.cab x c hfn hc)))).trans (I.base.keep b o e n hb hx)
    · obtain ⟨sl,e1⟩:=I.base.slot b o e n hb hx
      exact ⟨sl,(hs.2 b (Nat.ne_of_lt (Nat.lt_of_lt_of_le (Heap.lt_size e) (I.ok.cab x c hfn hc)))).trans e1⟩
    · obtain ⟨o',e1⟩:=I.base.there b o e hx
      exact ⟨o',(hs.2 b (Nat.ne_of_lt (Nat.lt_of_lt_of_le (Heap.lt_size e) (I.ok.cab x c hfn hc)))).trans e1⟩
    · by_cases hj:j=i
      · subst hj
        rw [hi] at e1; cases e1
        rw [List.getElem?_set_self hiσ] at e2
        cases e2
        exact ⟨u,r,.inr ⟨.inl hk,c,hc,hc'⟩⟩
      · rw [List.getElem?_set_ne (Ne.symm hj)] at e2
        obtain ⟨u',r',q⟩:=hl j y v' e1 e2 e3
        refine ⟨u',r',?_⟩
        rcases q with q | ⟨k,c',e,z'⟩
        · exact .inl q
        · refine .inr ⟨k,c',e,z'.sameBut hs ?_⟩
          rintro rfl
          exact hj (xhm hN e1 (I.ok.inj _ _ _ e hc ▸ hi))
    · by_cases hcc:c'=c
      · subst hcc; exact ⟨_,hc'⟩
      · obtain ⟨w2,z2⟩:=I.cell y c' e
        exact ⟨w2,z2.sameBut hs hcc⟩
    · obtain ⟨e,n,ne,nf,d⟩:=I.pin p hp
      refine ⟨(hs.2 p.1 ?_).trans e,n,ne,nf,d⟩
      intro q
      rw [q,hoc] at e
      have q':oc=p.2:=Option.some.inj e
      exact d w' (by rw [← q']; exact hocd)
theorem xh6 {M:Model} {A:Around} {E:Value→Shared→Prop} {i:Nat} {x:Str} {v:V} {u:Value} {Q:Unit→Shared→Prop} (I:Inv X pins σ H s) (hN:X.N.Nodup) (hi:X.N[i]?=some x) (hx:Loc X.env.scope x) (r:RelV v u)
    (h:∀ s',Inv X pins (σ.set i (some v)) H s'→Q () s') (hf:X.fn x=true∨X.env.scope.names.lookup x=some .local:=by first | exact .inl rfl | exact .inr rfl | assumption):wpAny M A (storeName X.env x u) Q E s :=
  xgv I hN hi hx r (fun s' I' _=>h s' I') hf
theorem Inv.call' {s':Shared} {ch:List Addr} (I:Inv X pins σ H s) (ho:s'.os=s.os) (u:Un (frs X.stack) ch H H' s.heap s'.heap) (hok:HOk X.prog X.w H' s'.heap) (hg:AllBare s'.gens)
    (hch:∀ b ∈ ch,(b ∈ X.ex∨X.s₀.heap.objs.size≤b)∧b≠X.env.locals∧(∀ x c,X.env.cells.lookup x=some c→c≠b)∧∀ p ∈ X.pn ++ pins,p.1≠b):Inv X pins σ H' s':=by
  obtain ⟨h',g',d',t',o'⟩:=s'
  have e:o'=s.os:=ho
  subst e
  exact I.call (g':=g') (t':=t') (d':=d') u hok hg hch
end
abbrev XK:=Addr→Addr→Hp→Prop
abbrev St:=List (Option V)
abbrev VK:=V→Hp→Prop
abbrev TE:=St→Hp→VK→Prop
abbrev TT:=St→Hp→(Bool→Hp→Prop)→Prop
abbrev TA:=St→Hp→(List V→Hp→Prop)→Prop
structure Ends where
 nx:St→Hp→Prop
 rt:VK
 bk:St→Hp→Prop:=fun _ _=>False
 ct:St→Hp→Prop:=fun _ _=>False
abbrev TS:=Ends→St→Hp→Prop
def EP (X:Cx) (pins:List (Addr × Obj)) (σ:St) (Q:VK) (u:Value) (s':Shared):Prop:=∃ v H',Inv X pins σ H' s'∧RelV v u∧Q v H'
def TP (X:Cx) (pins:List (Addr × Obj)) (σ:St) (Q:Bool→Hp→Prop) (b:Bool) (s':Shared):Prop:=∃ H',Inv X pins σ H' s'∧Q b H'
def AP (X:Cx) (pins:List (Addr × Obj)) (σ:St) (Q:List V→Hp→Prop) (us:List Value) (s':Shared):Prop:=∃ vs H',Inv X pins σ H' s'∧Vals vs us∧Q vs H'
def SP (X:Cx) (pins:List (Addr × Obj)) (D:Ends) (f:Flow) (s':Shared):Prop :=
 match f with
 | .next=>∃ σ' H',Inv X pins σ' H' s'∧D.nx σ' H'
 | .brk=>∃ σ' H',Inv X pins σ' H' s'∧D.bk σ' H'
 | .cont=>∃ σ' H',Inv X pins σ' H' s'∧D.ct σ' H'
 | .ret u=>∃ v σ' H',Inv X pins σ' H' s'∧RelV v u∧D.rt v H'
def PE (X:Cx) (e:Expr) (t:TE):Prop :=
 ∀ (pins:List (Addr × Obj)) (s:Shared) (σ:St) (H:Hp) (Q:VK),Inv X pins σ H s→t σ H Q→wpAny (model X.prog X.w) X.A (eval e X.env) (EP X pins σ Q) X.xe s
def PT (X:Cx) (e:Expr) (t:TT):Prop :=
 ∀ (pins:List (Addr × Obj)) (s:Shared) (σ:St) (H:Hp) (Q:Bool→Hp→Prop),Inv X pins σ H s→t σ H Q→wpAny (model X.prog X.w) X.A (isTrue e X.env (eval e X.env)) (TP X pins σ Q) X.xe s
def PW (X:Cx) (e:Expr) (t:TT):Prop :=
 ∀ (whole:Sem Value) (pins:List (Addr × Obj)) (s:Shared) (σ:St) (H:Hp) (Q:Bool→Hp→Prop),Inv X pins σ H s→t σ H Q→wpAny (model X.prog X.w) X.A (isTrue e X.env whole) (TP X pins σ Q) X.xe s
theorem PW.pt {X:Cx} {e:Expr} {t:TT} (h:PW X e t):PT X e t:=h _
def PA (X:Cx) (es:List Expr) (t:TA):Prop :=
 ∀ (pos:Pos) (pins:List (Addr × Obj)) (s:Shared) (σ:St) (H:Hp) (Q:List V→Hp→Prop),Inv X pins σ H s→t σ H Q→wpAny (model X.prog X.w) X.A (spliced (backTo pos (starEach es X.env))) (AP X pins σ Q) X.xe s
def PS (X:Cx) (st:Stmt) (t:TS):Prop :=
 ∀ (pins:List (Addr × Obj)) (s:Shared) (σ:St) (H:Hp) (D:Ends),Inv X pins σ H s→t D σ H→wpAny (model X.prog X.w) X.A (exec st X.env) (SP X pins D) X.xe s
def PSs (X:Cx) (st:List Stmt) (t:TS):Prop :=
 ∀ (pins:List (Addr × Obj)) (s:Shared) (σ:St) (H:Hp) (D:Ends),Inv X pins σ H s→t D σ H→wpAny (model X.prog X.w) X.A (execs st X.env) (SP X pins D) X.xe s
theorem thn {α:Type} {t:Sem α} {Q Q':α→Shared→Prop} {M:Model} {A:Around} {E:Value→Shared→Prop} {s:Shared} (h:wpAny M A t Q E s) (hQ:∀ a s,Q a s→Q' a s):wpAny M A t Q' E s:=wpAny_mono h hQ fun _ _ x=>x
end L2
namespace L2
open PySem PySem.Spec PyProof.Rows
variable {q0:Bool}
section
variable {X:Cx}
def tVar (i:Nat):TE:=fun σ H Q=>∃ v,σ[i]?=some (some v)∧Q v H
def tC (v:V):TE:=fun _ H Q=>Q v H
theorem xqa {i:Nat} {x:Str} {pos:Pos} (hN:X.N[i]?=some x) (hv:Vis X.env.scope x) (hd:(x == ("__debug__":Str))=false:=by decide) (hcd:(x == ("__classdict__":Str))=false:=by decide):PE X (.Name x pos) (tVar i):=by
 intro pins s σ H Q I h
 obtain ⟨v,e,h⟩:=h
 obtain ⟨m,hn,hl⟩:=I.loc
 obtain ⟨u,r,l⟩:=hl i x v hN e hv
 have fin:EP X pins σ Q u s:=⟨v,H,I,r,h⟩
 rcases l with ⟨hk,hm⟩ | ⟨hk,c,hc,hcell⟩
 ·exact wpAny_Name (wpAny_loadName_local I.ok.kind hk hn hm fin) hd
 ·rcases hk with hk | hk
  ·exact wpAny_Name (wpAny_loadName_cell I.ok.kind hk hc hcell fin) hd
  ·exact wpAny_Name (wpAny_loadName_free I.ok.kind hk hc hcell fin hcd) hd
theorem xh {i j pos}:PE X (.Constant (.int i) j pos) (tC (.int i)):=fun _ _ _ H _ I h=>wpAny_Constant_int ⟨.int i,H,I.tok _,⟨_,rfl⟩,h⟩
theorem xe2 {b j pos}:PE X (.Constant (.bool b) j pos) (tC (.bl b)):=fun _ _ _ H _ I h=>Constant_bool ⟨.bl b,H,I,rfl,h⟩
theorem xa0 {j pos}:PE X (.Constant .none j pos) (tC .non):=fun _ _ _ H _ I h=>Constant_none ⟨.non,H,I,rfl,h⟩
theorem xw {x j pos}:PE X (.Constant (.str x) j pos) (tC (.str x)):=fun _ _ _ H _ I h=>Calls.Constant_str ⟨.str x,H,I.tok _,⟨_,rfl⟩,h⟩
def Gl (X:Cx) (x:Str):Prop:=X.env.kindOf x=some .globalImplicit
theorem xgc {E:Value→Shared→Prop} {pins:List (Addr × Obj)} {s:Shared} {σ:St} {H:Hp} {x:Str} {u:Value} {pos:Pos} {Q:Value→Shared→Prop} (I:Inv X pins σ H s) (hg:Gl X x) (hm:X.mg x=some u) (h:Q u s)
    (hd:(x == ("__debug__":Str))=false:=by decide):wpAny (model X.prog X.w) X.A (eval (.Name x pos) X.env) Q E s :=
  Calls.Name_function_global I.ok.kind hg (Calls.loadGlobal_global (by rw [I.ok.glob]; exact I.mod.glob.keeps I.bk) hm h) hd
theorem xdb {E:Value→Shared→Prop} {pins:List (Addr × Obj)} {s:Shared} {σ:St} {H:Hp} {x:Str} {u:Value} {pos:Pos} {Q:Value→Shared→Prop} (I:Inv X pins σ H s) (hg:Gl X x) (hm:X.mg x=none) (hv:bootBuiltins x=some u) (h:Q u s)
    (hn:x≠"__name__":=by decide) (hd:(x == ("__debug__":Str))=false:=by decide):wpAny (model X.prog X.w) X.A (eval (.Name x pos) X.env) Q E s:=by
  obtain ⟨mb,h1,h2⟩:=I.mod.blt
  exact Calls.Name_function_global I.ok.kind hg (Calls.loadGlobal_builtin (by rw [I.ok.glob]; exact I.mod.glob.keeps I.bk) hm (by rw [I.ok.blt]; exact h1.keeps I.bk) ((h2 x hn).trans hv) h) hd
theorem xe7 {x:Str} {v:V} {u:Value} {pos:Pos} (hg:Gl X x) (hm:X.mg x=some u) (r:RelV v u) (hd:(x == ("__debug__":Str))=false:=by decide):PE X (.Name x pos) (tC v) :=
 fun _ _ _ H _ I h=>xgc I hg hm ⟨v,H,I,r,h⟩ hd
theorem xbz {x:Str} {v:V} {u:Value} {pos:Pos} (hg:Gl X x) (hm:X.mg x=none) (hv:bootBuiltins x=some u) (r:RelV v u) (hn:x≠"__name__":=by decide) (hd:(x == ("__debug__":Str))=false:=by decide):PE X (.Name x pos) (tC v) :=
 fun _ _ _ H _ I h=>xdb I hg hm hv ⟨v,H,I,r,h⟩ hn hd
variable {a b:Expr} {ta tb:TE} {pos:Pos}
def PC (X:Cx) (op:CmpOp) (a b:Expr) (t:TE):Prop :=
 ∀ (pins:List (Addr × Obj)) (s:Shared) (σ:St) (H:Hp) (Q:VK),Inv X pins σ H s→t σ H Q →
  wpAny (model X.prog X.w) X.A (eval a X.env) (fun v s₁=>wpAny (model X.prog X.w) X.A (eval b X.env) (fun u s₂=>wpAny (model X.prog X.w) X.A (compareOp op v u) (EP X pins σ Q) X.xe s₂) X.xe s₁) X.xe s
theorem xlu (b:Expr) {op:CmpOp} (h:op≠.In) (h2:op≠.NotIn):behindInMarks op b=false:=by
 have e1:(op == CmpOp.In)=false:=by cases op <;> first | rfl | exact absurd rfl h
 have e2:(op == CmpOp.NotIn)=false:=by cases op <;> first | rfl | exact absurd rfl h2
 cases b <;> simp [behindInMarks,e1,e2]
def tB (t:TE):TT:=fun σ H Q=>t σ H fun x H1=>∃ c,x=.bl c∧Q c H1
theorem xic {op:CmpOp} {t:TE} (h:PC X op a b t) (h1:behindInMarks op b=false:=by first | exact xlu _ (by decide) (by decide) | rfl):PT X (.Compare a [op] [b] pos) (tB t):=by
 intro pins s σ H Q I hw
 refine wpAny_isTrue_Compare1 (thn (h pins s σ H _ I hw) fun v s1 h1=>thn h1 fun u s2 h2=>thn h2 fun c s3 ⟨x,H1,I1,r1,q1⟩=>?_) h1
 obtain ⟨d,rfl,q⟩:=q1
 cases r1
 exact wpAny_truthy_bool ⟨H1,I1,q⟩
theorem xbd {e:Expr} {t:TE} (h:PE X e t) (he:∀ whole,isTrue e X.env whole=(do let v ← whole; standAt e.pos; holding [v] (truthy v)):=by intro _; rfl):PT X e (tB t):=by
 intro pins s σ H Q I hw
 refine isTrue_plain (thn (h pins s σ H _ I hw) fun v s1 ⟨x,H1,I1,r1,q1⟩=>?_) (he _)
 obtain ⟨d,rfl,q⟩:=q1
 cases r1
 exact wpAny_truthy_bool ⟨H1,I1,q⟩
variable {tA tB':TT} {rest:List Expr}
def tAnd (t u:TT):TT:=fun σ H Q=>t σ H fun c H1=>if c=true then u σ H1 Q else Q false H1
def tOr (t u:TT):TT:=fun σ H Q=>t σ H fun c H1=>if c=true then Q true H1 else u σ H1 Q
def tNot (t:TT):TT:=fun σ H Q=>t σ H fun c H1=>Q (!c) H1
theorem xe3 (ha:PT X a tA):PW X (.BoolOp .And [a] pos) tA:=by
 intro wh pins s σ H Q I h
 refine isTrue_and (thn (ha pins s σ H Q I h) fun c s1 e=>?_)
 cases c with
 | true=>exact isTrue_and_nil e
 | false=>exact e
theorem xba (ha:PT X a tA):PW X (.BoolOp .Or [a] pos) tA:=by
 intro wh pins s σ H Q I h
 refine isTrue_or (thn (ha pins s σ H Q I h) fun c s1 e=>?_)
 cases c with
 | false=>exact isTrue_or_nil e
 | true=>exact e
theorem xek (ha:PT X a tA) (hb:PW X (.BoolOp .And (b :: rest) pos) tB'):PW X (.BoolOp .And (a :: b :: rest) pos) (tAnd tA tB'):=by
 intro wh pins s σ H Q I h
 refine isTrue_and (thn (ha pins s σ H _ I h) fun c s1 ⟨H1,I1,q1⟩=>?_)
 cases c with
 | true=>exact hb wh pins s1 σ H1 Q I1 q1
 | false=>exact ⟨H1,I1,q1⟩
theorem xbp (ha:PT X a tA) (hb:PW X (.BoolOp .Or (b :: rest) pos) tB'):PW X (.BoolOp .Or (a :: b :: rest) pos) (tOr tA tB'):=by
 intro wh pins s σ H Q I h
 refine isTrue_or (thn (ha pins s σ H _ I h) fun c s1 ⟨H1,I1,q1⟩=>?_)
 cases c with
 | true=>exact ⟨H1,I1,q1⟩
 | false=>exact hb wh pins s1 σ H1 Q I1 q1
theorem xbc (ha:PT X a tA):PT X (.UnaryOp .Not a pos) (tNot tA):=by
 intro pins s σ H Q I h
 exact isTrue_not (ha pins s σ H (fun c H1=>Q (!c) H1) I h)
def xrc (ta tb:TE):TE:=fun σ H Q=>ta σ H fun x H1=>∃ c,x=.bl c∧if c=true then tb σ H1 Q else Q (.bl false) H1
def xri (ta:TE):TE:=fun σ H Q=>ta σ H fun x H1=>∃ c,x=.bl c∧Q (.bl (!c)) H1
theorem xfz {op} {t:TE} (h:PE X a t):PE X (.BoolOp op [a] pos) t:=fun pins s σ H Q I hw=>BoolOp_one (h pins s σ H Q I hw)
theorem xdy (ha:PE X a ta) (hb:PE X (.BoolOp .And (b :: rest) pos) tb):PE X (.BoolOp .And (a :: b :: rest) pos) (xrc ta tb):=by
 intro pins s σ H Q I h
 refine BoolOp_and (thn (ha pins s σ H _ I h) fun v s1 ⟨x,H1,I1,r1,q1⟩=>?_)
 obtain ⟨c,rfl,q1⟩:=q1
 cases r1
 refine wpAny_truthy_bool ?_
 cases c with
 | true=>exact hb pins s1 σ H1 Q I1 q1
 | false=>exact ⟨.bl false,H1,I1,rfl,q1⟩
theorem xj6 (ha:PE X a ta):PE X (.UnaryOp .Not a pos) (xri ta):=by
 intro pins s σ H Q I h
 refine UnaryOp_ (thn (ha pins s σ H _ I h) fun v s1 ⟨x,H1,I1,r1,q1⟩=>?_)
 obtain ⟨c,rfl,q1⟩:=q1
 cases r1
 exact not_of (wpAny_truthy_bool ⟨.bl (!c),H1,I1,rfl,q1⟩)
def tIf (t:TT) (ta tb:TE):TE:=fun σ H Q=>t σ H fun c H1=>if c=true then ta σ H1 Q else tb σ H1 Q
theorem xcc {c:Expr} (hc:PT X c tA) (ha:PE X a ta) (hb:PE X b tb):PE X (.IfExp c a b pos) (tIf tA ta tb):=by
 intro pins s σ H Q I h
 refine wpAny_IfExp (thn (hc pins s σ H _ I h) fun d s1 ⟨H1,I1,q1⟩=>?_)
 cases d with
 | true=>exact ha pins s1 σ H1 Q I1 q1
 | false=>exact hb pins s1 σ H1 Q I1 q1
end
end L2
namespace L2
open PySem PySem.Spec PyProof.Rows
variable {q0:Bool}
def SqL (K:PySem.W.Frag) (H:Hp) (a:Addr) (xs:List V):Prop :=
 Rd H a (.lst xs) ∨
  ∃ (o:Obj) (its:Array Value) (n:Nat),K.lookup a=some o∧o.cls=.type "list"∧o.dict=none∧o.data=.seq its n∧its.size≤sizeLine∧Vals xs its.toList
def SqT (K:PySem.W.Frag) (H:Hp) (a:Addr) (xs:List V):Prop :=
 Rd H a (.tup xs) ∨
  ∃ (o:Obj) (its:Array Value) (n:Nat),K.lookup a=some o∧o.cls=.type "tuple"∧o.data=.seq its n∧its.size≤sizeLine∧Vals xs its.toList
def absV:Value→Option V
 | .none=>some .non
 | .bool b=>some (.bl b)
 | .int i _=>some (.int i)
 | .str x _=>some (.str x)
 | .bytes b _=>some (.byt b)
 | .float b _=>some (.flt b)
 | .ref a=>some (.ref a)
 | .type n=>some (.ty n)
 | _=>none
theorem RelV.abs {x:V} {u:Value} (r:RelV x u):absV u=some x:=by
 cases x with
 | non=>cases r; rfl
 | bl _=>cases r; rfl
 | int _=>obtain ⟨t,rfl⟩:=r; rfl
 | str _=>obtain ⟨t,rfl⟩:=r; rfl
 | byt _=>obtain ⟨t,rfl⟩:=r; rfl
 | flt _=>obtain ⟨t,rfl⟩:=r; rfl
 | ref _=>cases r; rfl
 | ty _=>cases r; rfl
theorem RelV.inj {x y:V} {u:Value} (r:RelV x u) (q:RelV y u):x=y:=Option.some.inj (r.abs.symm.trans q.abs)
theorem Vals.inj:∀ {xs ys:List V} {us:List Value},Vals xs us→Vals ys us→xs=ys
 | _,_,_,.nil,.nil=>rfl
 | _,_,_,.cons r t,.cons r' t'=>by rw [r.inj r',Vals.inj t t']
section
variable {X:Cx} {pins:List (Addr × Obj)} {σ:St} {H:Hp} {s:Shared} {a:Addr} {xs ys:List V}
theorem SqL.of {K:PySem.W.Frag} (h:H a=some (.lst xs)):SqL K H a xs:=.inl (.inl h)
theorem SqT.of {K:PySem.W.Frag} (h:H a=some (.tup xs)):SqT K H a xs:=.inl (.inl h)
theorem Inv.list (I:Inv X pins σ H s) (h:SqL X.K H a xs):∃ its:List Value,Vals xs its∧PlainL s.heap a its.toArray∧xs.length≤sizeLine:=by
 rcases h with h | ⟨o,its,n,hk,hc,hd,hs,hz,r⟩
 ·obtain ⟨z,its,n,r,e⟩:=h.ok I.hok
  exact ⟨its,r,⟨_,n,e,rfl,rfl,rfl⟩,z⟩
 ·refine ⟨its.toList,r,⟨o,n,I.kIn a o hk,hc,hd,by simpa using hs⟩,?_⟩
  have e:=r.length
  simp only [Array.length_toList] at e
  omega
theorem Inv.tuple (I:Inv X pins σ H s) (h:SqT X.K H a xs):∃ its:List Value,Vals xs its∧IsTup s.heap a its.toArray∧xs.length≤sizeLine:=by
 rcases h with h | ⟨o,its,n,hk,hc,hs,hz,r⟩
 ·obtain ⟨z,its,r,p⟩:=h.ok I.hok
  exact ⟨its,r,p,z⟩
 ·refine ⟨its.toList,r,⟨o,I.kIn a o hk,hc,n,by simpa using hs⟩,?_⟩
  have e:=r.length
  simp only [Array.length_toList] at e
  omega
theorem Inv.list_inj (I:Inv X pins σ H s) (h:SqL X.K H a xs) (h':SqL X.K H a ys):xs=ys:=by
 obtain ⟨its,r,⟨o,n,e,_,_,d⟩,_⟩:=I.list h
 obtain ⟨its',r',⟨o',n',e',_,_,d'⟩,_⟩:=I.list h'
 rw [e] at e'; cases e'
 rw [d] at d'
 injection d' with d1 _
 have:its=its':=by simpa using congrArg Array.toList d1
 subst this
 exact r.inj r'
theorem Inv.tuple_inj (I:Inv X pins σ H s) (h:SqT X.K H a xs) (h':SqT X.K H a ys):xs=ys:=by
 obtain ⟨its,r,⟨o,e,_,n,d⟩,_⟩:=I.tuple h
 obtain ⟨its',r',⟨o',e',_,n',d'⟩,_⟩:=I.tuple h'
 rw [e] at e'; cases e'
 rw [d] at d'
 injection d' with d1 _
 have:its=its':=by simpa using congrArg Array.toList d1
 subst this
 exact r.inj r'
end
abbrev Cx.wish (X:Cx) (E:Value→Shared→Prop):Cx:={ X with xe:=E }
abbrev Cx.nox (X:Cx):Cx:=X.wish fun _ _=>False
theorem Cx.Ok.wish {X:Cx} (ok:X.Ok) (E:Value→Shared→Prop):(X.wish E).Ok :=
 ⟨ok.mod,ok.kind,ok.glob,ok.blt,ok.above,ok.inj,ok.has,ok.cab,ok.hd,ok.frames,ok.stk,ok.exf,ok.bs,ok.bsz,ok.noex,ok.exfs,ok.funs,ok.frf⟩
theorem Cx.Ok.unwish {X:Cx} {E:Value→Shared→Prop} (ok:(X.wish E).Ok):X.Ok :=
 ⟨ok.mod,ok.kind,ok.glob,ok.blt,ok.above,ok.inj,ok.has,ok.cab,ok.hd,ok.frames,ok.stk,ok.exf,ok.bs,ok.bsz,ok.noex,ok.exfs,ok.funs,ok.frf⟩
section
variable {X:Cx} {pins:List (Addr × Obj)} {σ:St} {H:Hp} {s:Shared} {E:Value→Shared→Prop}
theorem Inv.wish (I:Inv X pins σ H s) (E:Value→Shared→Prop):Inv (X.wish E) pins σ H s:=⟨I.ok.wish E,I.os,I.bare,I.base,I.loc,I.cell,I.free,I.freeC,I.pin,I.hok,I.len⟩
theorem Inv.unwish (I:Inv (X.wish E) pins σ H s):Inv X pins σ H s:=⟨I.ok.unwish,I.os,I.bare,I.base,I.loc,I.cell,I.free,I.freeC,I.pin,I.hok,I.len⟩
theorem SP.unwish {D:Ends} {f:Flow} {s':Shared} (h:SP (X.wish E) pins D f s'):SP X pins D f s':=by
 cases f with
 | next=>obtain ⟨σ',H',I,q⟩:=h; exact ⟨σ',H',I.unwish,q⟩
 | brk=>obtain ⟨σ',H',I,q⟩:=h; exact ⟨σ',H',I.unwish,q⟩
 | cont=>obtain ⟨σ',H',I,q⟩:=h; exact ⟨σ',H',I.unwish,q⟩
 | ret u=>obtain ⟨v,σ',H',I,r,q⟩:=h; exact ⟨v,σ',H',I.unwish,r,q⟩
theorem PSs.nox {st:List Stmt} {t:TS} (h:PSs X.nox st t):PSs X st t:=fun pins s σ H D I hw =>
 wpAny_mono (h pins s σ H D (I.wish _) hw) (fun _ _ q=>q.unwish) fun _ _ z=>False.elim z
end
section
variable {X:Cx} {st:Stmt} {rest:List Stmt} {t u:TS} {e:Expr} {te:TE} {pos:Pos}
def xqv:TS:=fun D σ H=>D.nx σ H
def tSeq (t u:TS):TS:=fun D σ H=>t { D with nx:=u D } σ H
theorem xaa:PSs X [] xqv:=fun _ _ σ H _ I h=>wpAny_execs_nil ⟨σ,H,I,h⟩
theorem xg (h1:PS X st t) (h2:PSs X rest u):PSs X (st :: rest) (tSeq t u):=by
 intro pins s σ H D I h
 refine wpAny_execs_cons (thn (h1 pins s σ H { D with nx:=u D } I h) fun f s1 q=>?_)
 cases f with
 | next =>
  obtain ⟨σ',H',I',q⟩:=q
  exact h2 pins s1 σ' H' D I' q
 | ret v=>exact q
 | brk=>exact q
 | cont=>exact q
theorem xk (h1:PS X st t):PSs X [st] t:=by
 intro pins s σ H D I h
 refine wpAny_execs_cons (thn (h1 pins s σ H D I h) fun f s1 q=>?_)
 cases f with
 | next=>exact wpAny_execs_nil q
 | ret v=>exact q
 | brk=>exact q
 | cont=>exact q
theorem Inv.quiet {pins:List (Addr × Obj)} {σ:St} {H:Hp} {s:Shared} (I:Inv X pins σ H s):interactive X.env=false:=by simp [interactive,I.ok.kind]
def xqy (te:TE):TS:=fun D σ H=>te σ H fun _ H1=>D.nx σ H1
theorem xav (he:PE X e te) (hs:swapsWith e none pos.line X.env=pure false:=by rfl):PS X (.Expr e pos) (xqy te):=by
 intro pins s σ H D I h
 exact wpAny_Expr_any (thn (he pins s σ H _ I h) fun v s1 ⟨x,H1,I1,r1,q1⟩=>⟨σ,H1,I1,q1⟩) I.quiet hs
def tRet (te:TE):TS:=fun D σ H=>te σ H D.rt
theorem x5 (he:PE X e te):PS X (.Return (some e) pos) (tRet te):=by
 intro pins s σ H D I h
 exact wpAny_Return_some (thn (he pins s σ H _ I h) fun v s1 ⟨x,H1,I1,r1,q1⟩=>⟨x,σ,H1,I1,r1,q1⟩)
def tIfS (c:TT) (t u:TS):TS:=fun D σ H=>c σ H fun b H1=>if b=true then t D σ H1 else u D σ H1
theorem xaf {c:Expr} {a b:List Stmt} {tc:TT} (hc:PT X c tc) (ha:PSs X a t) (hb:PSs X b u):PS X (.If c a b pos) (tIfS tc t u):=by
 intro pins s σ H D I h
 refine wpAny_If (thn (hc pins s σ H _ I h) fun d s1 ⟨H1,I1,q1⟩=>?_)
 cases d with
 | true=>exact ha pins s1 σ H1 D I1 q1
 | false=>exact hb pins s1 σ H1 D I1 q1
def xpg:TS:=fun _ _ _=>False
theorem xa5:PS X st xpg:=fun _ _ _ _ _ _ h=>h.elim
end
abbrev TG:=V→St→Hp→(St→Hp→Prop)→Prop
abbrev TGs:=List V→St→Hp→(St→Hp→Prop)→Prop
def PG (X:Cx) (target:Expr) (t:TG):Prop :=
 ∀ (pins:List (Addr × Obj)) (s:Shared) (σ:St) (H:Hp) (v:V) (u:Value) (Q:St→Hp→Prop),Inv X pins σ H s→RelV v u→t v σ H Q →
  wpAny (model X.prog X.w) X.A (assign target X.env u) (fun _ s'=>∃ σ' H',Inv X pins σ' H' s'∧Q σ' H') X.xe s
def PGs (X:Cx) (ts:List Expr) (t:TGs):Prop :=
 ∀ (pins:List (Addr × Obj)) (s:Shared) (σ:St) (H:Hp) (vs:List V) (us:List Value) (Q:St→Hp→Prop),Inv X pins σ H s→Vals vs us→t vs σ H Q →
  wpAny (model X.prog X.w) X.A (assignInOrder ((assignEach ts X.env).map (·.2)) us) (fun _ s'=>∃ σ' H',Inv X pins σ' H' s'∧Q σ' H') X.xe s
abbrev TSet:=V→V→V→Hp→(Hp→Prop)→Prop
def PSet (X:Cx) (t:TSet):Prop :=
 ∀ (pins:List (Addr × Obj)) (s:Shared) (σ:St) (H:Hp) (o i v:V) (ov iv u:Value) (Q:Hp→Prop),Inv X pins σ H s→RelV o ov→RelV i iv→RelV v u→t o i v H Q →
  wpAny (model X.prog X.w) X.A (setItem ov iv u) (fun _ s'=>∃ H',Inv X pins σ H' s'∧Q H') X.xe s
section
variable {X:Cx} {pos:Pos}
def xe4 (i:Nat):TG:=fun v σ H Q=>Q (σ.set i (some v)) H
theorem xr {i:Nat} {x:Str} (hN:X.N.Nodup) (hi:X.N[i]?=some x) (hx:Loc X.env.scope x) (hf:X.fn x=true∨X.env.scope.names.lookup x=some .local:=by first | exact .inl rfl | exact .inr rfl | assumption):PG X (.Name x pos) (xe4 i):=by
 intro pins s σ H v u Q I r h
 exact wpAny_assign_Name (xh6 I hN hi hx r (fun s' I'=>⟨_,H,I',h⟩) hf)
def gNil:TGs:=fun vs σ H Q=>vs=[]∧Q σ H
def xjm (t:TG) (u:TGs):TGs:=fun vs σ H Q=>∃ v r,vs=v :: r∧t v σ H fun σ' H'=>u r σ' H' Q
theorem xbb:PGs X [] gNil:=by
 intro pins s σ H vs us Q I r h
 obtain ⟨e,h⟩:=h
 subst e
 cases r
 exact assignInOrder_nil ⟨σ,H,I,h⟩
theorem xx {e:Expr} {es:List Expr} {t:TG} {u:TGs} (h1:PG X e t) (h2:PGs X es u)
    (hs:(assignEach (e :: es) X.env).map (·.2)=assign e X.env :: (assignEach es X.env).map (·.2):=by rfl):PGs X (e :: es) (xjm t u):=by
  intro pins s σ H vs us Q I r h
  obtain ⟨v,vr,e1,h⟩:=h
  subst e1
  cases r with
  | cons r rr =>
    rw [hs]
    refine assignInOrder_cons (thn (h1 pins s σ H _ _ _ I r h) fun _ s1 ⟨σ1,H1,I1,q1⟩=>?_)
    exact h2 pins s1 σ1 H1 _ _ Q I1 rr q1
def gTup (K:PySem.W.Frag) (n:Nat) (t:TGs):TG:=fun v σ H Q=>∃ a xs,v=.ref a∧SqT K H a xs∧xs.length=n∧t xs σ H Q
theorem xca {es:List Expr} {k:Nat} {t:TGs} {n:Nat} (hc:X.calm=true) (h:PGs X es t)
    (hn:(assignEach es X.env).length=n:=by rfl) (hst:(assignEach es X.env).findIdx? (·.1)=none:=by rfl):PG X (.Tuple es k pos) (gTup X.K n t):=by
  intro pins s σ H v u Q I r hw
  obtain ⟨a,xs,e1,hq,hl,hw⟩:=hw
  subst e1
  cases r
  obtain ⟨its,rv,ht,hz⟩:=I.tuple hq
  refine assign_Tuple_tuple (I.ok.hd hc) ht (by simp [hn,← hl,rv.length]) hst fun h' hx=>?_
  have I1:Inv X pins σ H { s with heap:=h' }:=I.kept (t':=s.toks) fun b o e=>hx b o (Nat.ne_of_lt (Heap.lt_size e)) e
  exact h pins _ σ H xs _ Q I1 (by simpa using rv) hw
def gSub (to ti:TE) (t:TSet):TG:=fun v σ H Q=>to σ H fun o H1=>ti σ H1 fun i H2=>t o i v H2 fun H3=>Q σ H3
theorem xpb {o i:Expr} {to ti:TE} {t:TSet} (ho:PE X o to) (hi:PE X i ti) (hs:PSet X t)
    (ha:∀ v,assign (.Subscript o i pos) X.env v=(do
      let ov ← holding [v] (eval o X.env)
      let iv ← holding [v,ov] (eval i X.env)
      standAt pos
      holding [v,ov,iv] (setItem ov iv v)
      release [v,ov,iv] []):=by intro _; rfl):PG X (.Subscript o i pos) (gSub to ti t):=by
  intro pins s σ H v u Q I r h
  rw [ha]
  refine wpAny_bind (wpAny_holding (thn (ho pins s σ H _ I h) fun ov s1 ⟨x,H1,I1,r1,q1⟩=>?_))
  refine wpAny_bind (wpAny_holding (thn (hi pins s1 σ H1 _ I1 q1) fun iv s2 ⟨y,H2,I2,r2,q2⟩=>?_))
  refine wpAny_bind (wpAny_standAt (wpAny_bind (wpAny_holding (thn (hs pins s2 σ H2 x y v ov iv u _ I2 r1 r2 r q2) fun _ s3 ⟨H3,I3,q3⟩=>?_))))
  exact wpAny_release ⟨σ,H3,I3,q3⟩
def tAsg (te:TE) (g:TG):TS:=fun D σ H=>te σ H fun x H1=>g x σ H1 D.nx
theorem xcq {tg e:Expr} {te:TE} {g:TG} (he:PE X e te) (hg:PG X tg g) (hs:swapsWithSole [tg] e pos.line X.env=pure false:=by rfl) (hw:swappedStores [tg] e X.env=pure none:=by rfl)
    (h1:(assignEach [tg] X.env).map (·.2)=[assign tg X.env]:=by rfl):PS X (.Assign [tg] e pos) (tAsg te g):=by
  intro pins s σ H D I h
  refine wpAny_Assign_stores (thn (he pins s σ H _ I h) fun v s1 ⟨x,H1,I1,r1,q1⟩=>?_) hs hw
  rw [h1]
  exact thn (hg pins s1 σ H1 x v _ I1 r1 q1) fun _ s2 q=>q
theorem xv {i:Nat} {x:Str} {e:Expr} {te:TE} {pos':Pos} (hN:X.N.Nodup) (hi:X.N[i]?=some x) (hx:Loc X.env.scope x) (he:PE X e te) (hs:swapsWith e (some (.Name x pos')) pos.line X.env=pure false:=by rfl) (hf:X.fn x=true∨X.env.scope.names.lookup x=some .local:=by first | exact .inl rfl | exact .inr rfl | assumption) :
    PS X (.Assign [.Name x pos'] e pos) (tAsg te (xe4 i)):=by
  intro pins s σ H D I h
  refine wpAny_Assign_Name (thn (he pins s σ H _ I h) fun v s1 ⟨y,H1,I1,r1,q1⟩=>?_) hs
  exact xh6 I1 hN hi hx r1 (fun s2 I2=>⟨_,H1,I2,q1⟩) hf
end
section
variable {X:Cx} {pos:Pos}
def xpa (c:TT) (tb:TS):TS:=fun D σ H=>∃ W:Nat→St→Hp→Prop,(∃ m,W m σ H)∧∀ m σ H,W m σ H →
 c σ H fun b H1=>if b=true then ∃ N:St→Hp→Prop,(∀ σ' H',N σ' H'→∃ m',m' < m∧W m' σ' H')∧tb { D with nx:=N,ct:=N,bk:=D.nx } σ H1 else D.nx σ H1
theorem xfj {c:Expr} {body:List Stmt} {tc:TT} {tb:TS} (hp:PassesOwn (model X.prog X.w) X.A X.env X.xe) (hc:PT X c tc) (hb:PSs X body tb):PS X (.While c body [] pos) (xpa tc tb):=by
 intro pins s σ H D I h
 obtain ⟨W,⟨m0,w0⟩,turn⟩:=h
 refine wpAny_While (codeAny_whileLoop (fun n s'=>∃ σ' H',Inv X pins σ' H' s'∧W n σ' H') ?_ m0 ⟨σ,H,I,w0⟩)
 rintro n s1 ⟨σ1,H1,I1,w1⟩
 refine wpAny_passesOwn hp (thn (hc pins s1 σ1 H1 _ I1 (turn n σ1 H1 w1)) fun b s2 ⟨H2,I2,q2⟩=>?_)
 cases b with
 | true =>
  obtain ⟨N,hN,q2⟩:=q2
  rw [if_pos rfl]
  refine wpAny_passesOwn hp (thn (hb pins s2 σ1 H2 _ I2 q2) fun f s3 q3=>?_)
  cases f with
  | next =>
   obtain ⟨σ3,H3,I3,n3⟩:=q3
   obtain ⟨m',hm,w3⟩:=hN σ3 H3 n3
   exact ⟨m',hm,σ3,H3,I3,w3⟩
  | cont =>
   obtain ⟨σ3,H3,I3,n3⟩:=q3
   obtain ⟨m',hm,w3⟩:=hN σ3 H3 n3
   exact ⟨m',hm,σ3,H3,I3,w3⟩
  | brk=>exact q3
  | ret v=>exact q3
 | false =>
  rw [if_neg Bool.false_ne_true]
  exact wpAny_execs_nil ⟨σ1,H2,I2,q2⟩
end
structure It where
 go:Nat→Hp→Prop
 yld:Nat→Hp→V→Hp→Prop
 stop:Nat→Hp→Prop
def FpOk (X:Cx) (pins:List (Addr × Obj)) (H:Hp) (b:Addr):Prop :=
 H b=none∧b≠X.env.locals∧b ∉ X.fs∧(b ∈ X.ex∨X.s₀.heap.objs.size≤b)∧(∀ x c,X.env.cells.lookup x=some c→c≠b)∧∀ p ∈ X.pn ++ pins,p.1≠b
theorem Inv.fpOk {X:Cx} {pins:List (Addr × Obj)} {σ:St} {H H':Hp} {s:Shared} {b:Addr} (I:Inv X pins σ H s) (hb:s.heap.objs.size≤b) (hn:H' b=none):FpOk X pins H' b:=by
 refine ⟨hn,Nat.ne_of_gt (Nat.lt_of_lt_of_le I.lt hb),I.nofs hb,.inr (Nat.le_trans I.sz hb),fun x c e z=>?_,fun p hp z=>?_⟩
 ·obtain ⟨v,q⟩:=I.cell x c e
  exact absurd (Nat.lt_of_lt_of_le q.lt (by rw [z]; exact hb)) (Nat.lt_irrefl _)
 ·exact absurd (Nat.lt_of_lt_of_le (Heap.lt_size (I.pin p hp).1) (by rw [z]; exact hb)) (Nat.lt_irrefl _)
structure Turn (P:Program) (w:World) (K:PySem.W.Frag) (tg:Expr) (J:It) (fp:List Addr) (it:Addr) (tn:Nat→Heap→Prop):Prop where
 mem:it ∈ fp
 obj:∀ i h,tn i h→∀ b ∈ fp,∃ o,h.get? b=some o∧∀ v,o.data≠.cell v
 keep:∀ i h h',tn i h→(∀ b ∈ fp,∀ o,h.get? b=some o→h'.get? b=some o)→tn i h'
 item:∀ (X:Cx),X.prog=P→X.w=w→X.K=K→X.calm=true→∀ (i:Nat) (pins:List (Addr × Obj)) (s:Shared) (σ:St) (H:Hp) (E:Value→Shared→Prop),Inv X pins σ H s→(∀ b ∈ fp,FpOk X pins H b)→tn i s.heap→J.go i H →
  wpAny (model P w) X.A (pyNext (.ref it)) (fun r s1=>∃ u,r=some u ∧
   wpAny (model P w) X.A (letOwnedTupleGo tg (.ref it) u) (fun _ s2=>∃ x H',Inv X pins σ H' s2∧RelV x u∧J.yld i H x H'∧tn (i + 1) s2.heap∧∀ b ∈ fp,H' b=none) E s1) E s
 done:∀ (X:Cx),X.prog=P→X.w=w→X.K=K→X.calm=true→∀ (i:Nat) (pins:List (Addr × Obj)) (s:Shared) (σ:St) (H:Hp) (E:Value→Shared→Prop),Inv X pins σ H s→(∀ b ∈ fp,FpOk X pins H b)→tn i s.heap→J.stop i H →
  wpAny (model P w) X.A (pyNext (.ref it)) (fun r s1=>r=none∧Inv X pins σ H s1) E s
 self:∀ (A:Around) (i:Nat) (s:Shared) (Q:Value→Shared→Prop) (E:Value→Shared→Prop),tn i s.heap→Q (.ref it) s→wpAny (model P w) A (pyIter (.ref it)) Q E s
abbrev TI:=St→Hp→(It→Hp→Prop)→Prop
def PIE (X:Cx) (pins:List (Addr × Obj)) (σ:St) (tg:Expr) (R:It→Hp→Prop) (itv:Value) (s2:Shared):Prop :=
 ∃ (it:Addr) (fp:List Addr) (tn:Nat→Heap→Prop) (J:It) (H':Hp),itv=.ref it∧Inv X pins σ H' s2∧Turn X.prog X.w X.K tg J fp it tn∧tn 0 s2.heap∧(∀ b ∈ fp,FpOk X pins H' b)∧R J H'
def PI (X:Cx) (tg iter:Expr) (wi:TI):Prop :=
 ∀ (pins:List (Addr × Obj)) (s:Shared) (σ:St) (H:Hp) (R:It→Hp→Prop),Inv X pins σ H s→wi σ H R →
  wpAny (model X.prog X.w) X.A (eval iter X.env) (fun v s1=>wpAny (model X.prog X.w) X.A (pyIter v) (PIE X pins σ tg R) X.xe s1) X.xe s
theorem xhc {M:Model} {A:Around} {E:Value→Shared→Prop} {s:Shared} {tg:Expr} {it:Addr} {u:Value} {o:Obj} {n:String} {vs:Array Value} {Q:Unit→Shared→Prop} (ho:s.heap.get? it=some o) (hc:o.cls=.type n) (hd:o.data=.fields vs)
    (hn:["enumerate", "zip", "dict_itemiterator", "dict_reverseitemiterator", "odict_iterator", "itertools.zip_longest", "itertools.pairwise"].contains n=false) (hQ:Q () s):wpAny M A (letOwnedTupleGo tg (.ref it) u) Q E s:=by
  unfold letOwnedTupleGo
  cases tg <;> first
    | exact wpAny_pure hQ
    | (cases u <;> first
        | exact wpAny_pure hQ
        | (refine wpAny_bind (wpAny_load ho ?_)
           rw [hc,hd]
           show wpAny M A (if (["enumerate", "zip", "dict_itemiterator", "dict_reverseitemiterator", "odict_iterator", "itertools.zip_longest", "itertools.pairwise"].contains n && vs[0]? == some (rawInt _))=true then _ else _) Q E s
           rw [if_neg (by intro h; rw [hn,Bool.false_and] at h; cases h)]
           exact wpAny_pure hQ))
def Itl (K:PySem.W.Frag) (a:Addr):It :=
 ⟨fun i H=>∃ xs x,SqL K H a xs∧xs[i]?=some x,fun i H x H'=>H'=H∧∀ xs,SqL K H a xs→xs[i]?=some x,fun i H=>∃ xs,SqL K H a xs∧xs.length≤i⟩
def Itt (K:PySem.W.Frag) (a:Addr):It :=
 ⟨fun i H=>∃ xs x,SqT K H a xs∧xs[i]?=some x,fun i H x H'=>H'=H∧∀ xs,SqT K H a xs→xs[i]?=some x,fun i H=>∃ xs,SqT K H a xs∧xs.length≤i⟩
def Itr (lo:Int) (n:Nat):It:=⟨fun i _=>i < n,fun i H x H'=>H'=H∧x=.int (lo + i),fun i _=>n≤i⟩
theorem xj7 {P:Program} {w:World} {K:PySem.W.Frag} {tg:Expr} (a it:Addr):Turn P w K tg (Itl K a) [it] it (fun i h=>h.IsListIter it a i) where
 mem:=by simp
 obj:=fun i h st b hb=>by
  have e:b=it:=by simpa using hb
  subst e
  obtain ⟨o,e,c,d⟩:=st
  exact ⟨o,e,fun v z=>by rw [d] at z; cases z⟩
 keep:=fun i h h' st k=>st.at fun o e=>k it (by simp) o e
 item:=by
  intro X hP hw hK hc i pins s σ H E I hf st hg
  subst hP hw hK
  obtain ⟨xs,x,hq,hx⟩:=hg
  obtain ⟨its,rv,p,hz⟩:=I.list hq
  obtain ⟨u,hu,ru⟩:=rv.get hx
  obtain ⟨f0,f1,f2,f3,f4,f5⟩:=hf it (by simp)
  refine wpAny_pyNext_list_item st p.isList (x:=u) (by simpa using hu) fun h' st' sb=>?_
  have I1:Inv X pins σ H { s with heap:=h' }:=I.turned (t':=s.toks) (fun b o hb e=>(sb.2 b hb).trans e) f0 f1 f3 f4 f5
  obtain ⟨o,e,c,d⟩:=id st'
  exact ⟨u,rfl,xhc (s:={ s with heap:=h' }) e c d (by decide) ⟨x,H,I1,ru,⟨rfl,fun ys hy=>by rw [I.list_inj hy hq]; exact hx⟩,st',fun b hb=>(hf b hb).1⟩⟩
 done:=by
  intro X hP hw hK hc i pins s σ H E I hf st hg
  subst hP hw hK
  obtain ⟨xs,hq,hx⟩:=hg
  obtain ⟨its,rv,p,hz⟩:=I.list hq
  obtain ⟨f0,f1,f2,f3,f4,f5⟩:=hf it (by simp)
  have hl:=rv.length
  exact wpAny_pyNext_list_end (I.ok.hd hc) st p.isList (by simp; omega) fun h' eb=>⟨rfl,I.turned (t':=s.toks) (fun b o hb e=>eb b o hb e) f0 f1 f3 f4 f5⟩
 self:=fun _ _ _ _ _ st h=>wpAny_pyIter_listiter st h
theorem xjp {P:Program} {w:World} {K:PySem.W.Frag} {tg:Expr} (a it:Addr):Turn P w K tg (Itt K a) [it] it (fun i h=>h.IsTupleIter it a i) where
 mem:=by simp
 obj:=fun i h st b hb=>by
  have e:b=it:=by simpa using hb
  subst e
  obtain ⟨o,e,c,d⟩:=st
  exact ⟨o,e,fun v z=>by rw [d] at z; cases z⟩
 keep:=fun i h h' st k=>st.at fun o e=>k it (by simp) o e
 item:=by
  intro X hP hw hK hc i pins s σ H E I hf st hg
  subst hP hw hK
  obtain ⟨xs,x,hq,hx⟩:=hg
  obtain ⟨its,rv,p,hz⟩:=I.tuple hq
  obtain ⟨u,hu,ru⟩:=rv.get hx
  obtain ⟨f0,f1,f2,f3,f4,f5⟩:=hf it (by simp)
  refine wpAny_pyNext_tuple_item st (show s.heap.IsTuple a its.toArray from p) (x:=u) (by simpa using hu) fun h' st' sb=>?_
  have I1:Inv X pins σ H { s with heap:=h' }:=I.turned (t':=s.toks) (fun b o hb e=>(sb.2 b hb).trans e) f0 f1 f3 f4 f5
  obtain ⟨o,e,c,d⟩:=id st'
  exact ⟨u,rfl,xhc (s:={ s with heap:=h' }) e c d (by decide) ⟨x,H,I1,ru,⟨rfl,fun ys hy=>by rw [I.tuple_inj hy hq]; exact hx⟩,st',fun b hb=>(hf b hb).1⟩⟩
 done:=by
  intro X hP hw hK hc i pins s σ H E I hf st hg
  subst hP hw hK
  obtain ⟨xs,hq,hx⟩:=hg
  obtain ⟨its,rv,p,hz⟩:=I.tuple hq
  obtain ⟨f0,f1,f2,f3,f4,f5⟩:=hf it (by simp)
  have hl:=rv.length
  exact wpAny_pyNext_tuple_end (I.ok.hd hc) st (show s.heap.IsTuple a its.toArray from p) (by simp; omega) fun h' eb=>⟨rfl,I.turned (t':=s.toks) (fun b o hb e=>eb b o hb e) f0 f1 f3 f4 f5⟩
 self:=fun _ _ _ _ _ st h=>wpAny_pyIter_tupleiter st h
theorem xjq {P:Program} {w:World} {K:PySem.W.Frag} {tg:Expr} (it:Addr) (lo:Int) (n:Nat):Turn P w K tg (Itr lo n) [it] it (fun i h=>IsRangeIter h it (lo + (i:Nat) * 1) ((n:Int) - (i:Nat)) 1) where
 mem:=by simp
 obj:=fun i h st b hb=>by
  have e:b=it:=by simpa using hb
  subst e
  exact ⟨_,st,fun v z=>by
   have z':Data.fields _=Data.cell v:=z
   cases z'⟩
 keep:=fun i h h' st k=>k it (by simp) _ st
 item:=by
  intro X hP hw hK hc i pins s σ H E I hf st hg
  subst hP hw hK
  obtain ⟨f0,f1,f2,f3,f4,f5⟩:=hf it (by simp)
  have W:=Walks.range (prog:=X.prog) (w:=X.w) (I.ok.hd hc) it lo 1 n
  refine W.item i s _ _ hg st fun v h' tk hv st' kk=>?_
  obtain ⟨t,rfl⟩:=hv
  have I1:Inv X pins σ H { s with heap:=h',toks:=tk }:=I.turned (fun b o hb e=>kk b o (by simpa using hb) e) f0 f1 f3 f4 f5
  refine ⟨_,rfl,xhc (s:={ s with heap:=h',toks:=tk }) (n:="range_iterator") st' rfl rfl (by decide) ⟨.int (lo + i),H,I1,⟨t,?_⟩,⟨rfl,rfl⟩,st',fun b hb=>(hf b hb).1⟩⟩
  rw [Int.mul_one]
 done:=by
  intro X hP hw hK hc i pins s σ H E I hf st hg
  subst hP hw hK
  obtain ⟨f0,f1,f2,f3,f4,f5⟩:=hf it (by simp)
  exact wpAny_pyNext_range_end (I.ok.hd hc) st (by have:n≤i:=hg; omega) fun h' eb=>⟨rfl,I.turned (t':=s.toks) (fun b o hb e=>eb b o hb e) f0 f1 f3 f4 f5⟩
 self:=fun _ _ _ _ _ st h=>wpAny_pyIter_rangeiter st h
end L2
namespace L2
open PySem PySem.Spec PyProof.Rows
variable {q0:Bool}
section
variable {X:Cx} {tg:Expr}
def xqq (K:PySem.W.Frag) (tl:TE):TI:=fun σ H R=>tl σ H fun x H1=>∃ a,x=.ref a∧(∃ xs,SqL K H1 a xs)∧R (Itl K a) H1
def iTup (K:PySem.W.Frag) (tl:TE):TI:=fun σ H R=>tl σ H fun x H1=>∃ a,x=.ref a∧(∃ xs,SqT K H1 a xs)∧R (Itt K a) H1
theorem xax {l:Expr} {tl:TE} (hl:PE X l tl):PI X tg l (xqq X.K tl):=by
 intro pins s σ H R I h
 refine thn (hl pins s σ H _ I h) fun v s1 ⟨x,H1,I1,r1,q1⟩=>?_
 obtain ⟨a,e,⟨xs,hq⟩,q⟩:=q1
 subst e
 cases r1
 obtain ⟨its,rv,p,hz⟩:=I1.list hq
 refine wpAny_pyIter_list p.isList ?_
 refine ⟨s1.heap.objs.size,[s1.heap.objs.size],_,_,H1,rfl,I1.kept (t':=s1.toks) fun b o e=>Heap.get?_push_of_some _ e,xj7 a _,⟨_,Heap.get?_push_size _ rfl,rfl,rfl⟩,fun b hb=>?_,q⟩
 have e:b=s1.heap.objs.size:=by simpa using hb
 subst e
 exact I1.fpOk (Nat.le_refl _) (I1.hok.fresh (Nat.le_refl _))
theorem xpc {l:Expr} {tl:TE} (hl:PE X l tl):PI X tg l (iTup X.K tl):=by
 intro pins s σ H R I h
 refine thn (hl pins s σ H _ I h) fun v s1 ⟨x,H1,I1,r1,q1⟩=>?_
 obtain ⟨a,e,⟨xs,hq⟩,q⟩:=q1
 subst e
 cases r1
 obtain ⟨its,rv,p,hz⟩:=I1.tuple hq
 refine wpAny_pyIter_tuple (show s1.heap.IsTuple a its.toArray from p) ?_
 refine ⟨s1.heap.objs.size,[s1.heap.objs.size],_,_,H1,rfl,I1.kept (t':=s1.toks) fun b o e=>Heap.get?_push_of_some _ e,xjp a _,⟨_,Heap.get?_push_size _ rfl,rfl,rfl⟩,fun b hb=>?_,q⟩
 have e:b=s1.heap.objs.size:=by simpa using hb
 subst e
 exact I1.fpOk (Nat.le_refl _) (I1.hok.fresh (Nat.le_refl _))
theorem xh0 {pins:List (Addr × Obj)} {σ:St} {H:Hp} {s:Shared} {R:It→Hp→Prop} {E:Value→Shared→Prop} {lo hi:Int} {t u v:Tok} {tk:Nat} (I:Inv X pins σ H s) (h1:-(2 ^ 62)≤lo) (h2:lo < 2 ^ 62) (h3:-(2 ^ 62)≤hi) (h4:hi < 2 ^ 62)
    (q:R (Itr lo (hi - lo).toNat) H):wpAny (model X.prog X.w) X.A (pyIter (.ref s.heap.objs.size)) (PIE X pins σ tg R) E { s with heap:=s.heap.push { cls:=.type "range",data:=.fields #[.int lo t,.int hi u,.int 1 v] },toks:=tk }:=by
  refine wpAny_pyIter_range (IsRange.new ..) (small_one h1 h2 h3 h4) ?_
  have I1:Inv X pins σ H { s with heap:=s.heap.push { cls:=.type "range",data:=.fields #[.int lo t,.int hi u,.int 1 v] },toks:=tk }:=I.kept fun b o e=>Heap.get?_push_of_some _ e
  refine ⟨(s.heap.push { cls:=.type "range",data:=.fields #[.int lo t,.int hi u,.int 1 v] }).objs.size,[(s.heap.push { cls:=.type "range",data:=.fields #[.int lo t,.int hi u,.int 1 v] }).objs.size],_,_,H,rfl,
    I1.kept (t':=tk) fun b o e=>Heap.get?_push_of_some _ e,xjq _ lo (hi - lo).toNat,?_,fun b hb=>?_,q⟩
  · have e1:lo + ((0:Nat):Int) * 1=lo:=by simp
    have e2:(((hi - lo).toNat:Nat):Int) - ((0:Nat):Int)=Builtin.Range.rangeSize lo hi 1:=by rw [rangeSize_one]; split <;> omega
    show IsRangeIter _ _ (lo + ((0:Nat):Int) * 1) ((((hi - lo).toNat:Nat):Int) - ((0:Nat):Int)) 1
    rw [e1,e2]
    exact Heap.get?_push_size _ rfl
  · have e:b=(s.heap.push { cls:=.type "range",data:=.fields #[.int lo t,.int hi u,.int 1 v] }).objs.size:=by simpa using hb
    subst e
    exact I1.fpOk (Nat.le_refl _) (I1.hok.fresh (Nat.le_refl _))
def xq3 (ta:TA):TI:=fun σ H R=>ta σ H fun vs H1=>∃ j:Int,vs=[.int j]∧-(2 ^ 62)≤j∧j < 2 ^ 62∧R (Itr 0 j.toNat) H1
def xq6 (ta:TA):TI:=fun σ H R=>ta σ H fun vs H1=>∃ i j:Int,vs=[.int i,.int j]∧(-(2 ^ 62)≤i∧i < 2 ^ 62∧-(2 ^ 62)≤j∧j < 2 ^ 62)∧R (Itr i (j - i).toNat) H1
theorem xdq {a:Expr} {ta:TA} {p pos:Pos} (hg:Gl X "range") (hm:X.mg "range"=none) (ha:PA X [a] ta) (hs:starEach [a] X.env=[(false,eval a X.env)]:=by rfl):PI X tg (.Call (.Name "range" p) [a] [] pos) (xq3 ta):=by
 intro pins s σ H R I h
 refine Call_ (xdb I hg hm boot_range (PyProof.Rows.callWith_type1 (thn (ha pos pins s σ H _ I h) fun us s1 ⟨vs,H1,I1,r1,q1⟩=>?_) hs rfl))
 obtain ⟨j,e,q1,q2,q⟩:=q1
 subst e
 cases r1 with
 | cons r rr =>
  cases rr
  obtain ⟨t,rfl⟩:=r
  exact call_range_1 (xh0 I1 (by omega) (by omega) q1 q2 (by simpa using q))
theorem xkt {a b:Expr} {ta:TA} {p pos:Pos} (hg:Gl X "range") (hm:X.mg "range"=none) (ha:PA X [a,b] ta) (hs:starEach [a,b] X.env=[(false,eval a X.env),(false,eval b X.env)]:=by rfl) (hs2:starEach [b] X.env=[(false,eval b X.env)]:=by rfl) :
    PI X tg (.Call (.Name "range" p) [a,b] [] pos) (xq6 ta):=by
  intro pins s σ H R I h
  refine Call_ (xdb I hg hm boot_range (PyProof.Rows.callWith_type1 (thn (ha pos pins s σ H _ I h) fun us s1 ⟨vs,H1,I1,r1,q1⟩=>?_) (by rw [hs,hs2]) (by rw [hs2]; rfl)))
  obtain ⟨i,j,e,⟨q1,q2,q3,q4⟩,q⟩:=q1
  subst e
  cases r1 with
  | cons r rr =>
    cases rr with
    | cons r' rr =>
      cases rr
      obtain ⟨t,rfl⟩:=r
      obtain ⟨t',rfl⟩:=r'
      exact call_range_2 (xh0 I1 q1 q2 q3 q4 q)
def tFor (wi:TI) (g:TG) (tb:TS):TS:=fun D σ H=>wi σ H fun J H1=>∃ W:Nat→Nat→St→Hp→Prop,(∃ m,W 0 m σ H1)∧∀ i m σ H,W i m σ H →
 (J.stop i H∧D.nx σ H)∨(J.go i H∧∃ N:St→Hp→Prop,(∀ σ' H',N σ' H'→∃ m',m' < m∧W (i + 1) m' σ' H')∧∀ x H',J.yld i H x H'→g x σ H' fun σ2 H2=>tb { D with nx:=N,ct:=N,bk:=D.nx } σ2 H2)
def xey (fp:List Addr) (h:Heap):List (Addr × Obj):=fp.filterMap fun b=>(h.get? b).map fun o=>(b,o)
theorem xc6 {fp:List Addr} {h:Heap} {b:Addr} {o:Obj} (hb:b ∈ fp) (e:h.get? b=some o):(b,o) ∈ xey fp h:=List.mem_filterMap.mpr ⟨b,hb,by rw [e]; rfl⟩
theorem xlh {fp:List Addr} {h:Heap} {p:Addr × Obj} (hp:p ∈ xey fp h):p.1 ∈ fp∧h.get? p.1=some p.2:=by
 obtain ⟨b,hb,e⟩:=List.mem_filterMap.mp hp
 cases q:h.get? b with
 | none=>rw [q] at e; cases e
 | some o =>
  rw [q] at e
  have e':(b,o)=p:=Option.some.inj e
  subst e'
  exact ⟨hb,q⟩
theorem Inv.pinned {pins:List (Addr × Obj)} {σ:St} {H:Hp} {s:Shared} {fp:List Addr} (I:Inv X pins σ H s) (hf:∀ b ∈ fp,FpOk X pins H b) (ho:∀ b ∈ fp,∃ o,s.heap.get? b=some o∧∀ v,o.data≠.cell v):Inv X (pins ++ xey fp s.heap) σ H s :=
 I.pins_of fun p hp=>(List.mem_append.mp hp).elim (fun z=>I.pin p (List.mem_append_right _ z)) fun z=>by
  obtain ⟨hb,e⟩:=xlh z
  obtain ⟨f0,f1,f2,_⟩:=hf p.1 hb
  obtain ⟨o,e',d⟩:=ho p.1 hb
  rw [e] at e'; cases e'
  exact ⟨e,f0,f1,f2,d⟩
theorem Inv.unpinned {pins pl:List (Addr × Obj)} {σ:St} {H:Hp} {s:Shared} (I:Inv X (pins ++ pl) σ H s):Inv X pins σ H s:=I.pins_of fun p hp=>I.pin p (List.mem_append_right _ (List.mem_append_left _ hp))
theorem xbu {iter:Expr} {body:List Stmt} {wi:TI} {g:TG} {tb:TS} {pos:Pos} (hp:PassesOwn (model X.prog X.w) X.A X.env X.xe) (hc:X.calm=true) (hi:PI X tg iter wi) (hg:PG X tg g) (hb:PSs X body tb)
    (hs:∀ x,foldedSetIterable iter X.env x=pure x:=by intro _; rfl):PS X (.For tg iter body [] pos) (tFor wi g tb):=by
  intro pins s σ H D I h
  refine wpAny_For (thn (hi pins s σ H _ I h) fun v s1 h1=>thn h1 fun itv s2 h2=>?_) hs
  obtain ⟨it,fp,tn,J,H2,e,I2,T,st2,f2,W,⟨m0,w0⟩,turn⟩:=h2
  subst e
  -- what stays true of the iterator's objects through the loop
  have stat:∀ {H':Hp},(∀ b ∈ fp,H' b=none)→∀ b ∈ fp,FpOk X pins H' b:=fun hn b hb=>⟨hn b hb,(f2 b hb).2⟩
  refine codeAny_forLoop_any (fun n s'=>∃ i σ' H',Inv X pins σ' H' s'∧tn i s'.heap∧(∀ b ∈ fp,H' b=none)∧W i n σ' H') ?_ m0 ⟨0,σ,H2,I2,st2,fun b hb=>(f2 b hb).1,w0⟩
  rintro n s3 ⟨i,σ3,H3,I3,st3,fr3,w3⟩
  rcases turn i n σ3 H3 w3 with ⟨stop,qn⟩ | ⟨go,N,hN,step⟩
  · refine wpAny_passesOwn hp (thn (T.done X rfl rfl rfl hc i pins s3 σ3 H3 X.xe I3 (stat fr3) st3 stop) fun r s4 ⟨hr,I4⟩=>?_)
    subst hr
    exact wpAny_execs_nil ⟨σ3,H3,I4,qn⟩
  · refine wpAny_passesOwn hp (thn (T.item X rfl rfl rfl hc i pins s3 σ3 H3 X.xe I3 (stat fr3) st3 go) fun r s4 ⟨u,hr,h4⟩=>?_)
    subst hr
    refine wpAny_passesOwn hp (thn h4 fun _ s5 ⟨x,H5,I5,r5,y5,st5,fr5⟩=>?_)
    have I5':=I5.pinned (stat fr5) (T.obj _ _ st5)
    refine wpAny_passesOwn hp (thn (hg _ s5 σ3 H5 x u _ I5' r5 (step x H5 y5)) fun _ s6 ⟨σ6,H6,I6,q6⟩=>?_)
    refine wpAny_passesOwn hp (thn (hb _ s6 σ6 H6 _ I6 q6) fun f s7 q7=>?_)
    have again:∀ {σ7:St} {H7:Hp},Inv X (pins ++ xey fp s5.heap) σ7 H7 s7→N σ7 H7→∃ m,m < n∧∃ i σ' H',Inv X pins σ' H' s7∧tn i s7.heap∧(∀ b ∈ fp,H' b=none)∧W i m σ' H':=fun {σ7 H7} I7 n7=>by
      obtain ⟨m',hm,w7⟩:=hN σ7 H7 n7
      refine ⟨m',hm,i + 1,σ7,H7,I7.unpinned,T.keep _ _ _ st5 fun b hb o e=>(I7.pin (b,o) (List.mem_append_right _ (List.mem_append_right _ (xc6 hb e)))).1,fun b hb=>?_,w7⟩
      obtain ⟨o,e,d⟩:=T.obj _ _ st5 b hb
      exact (I7.pin (b,o) (List.mem_append_right _ (List.mem_append_right _ (xc6 hb e)))).2.1
    cases f with
    | next=>obtain ⟨σ7,H7,I7,n7⟩:=q7; exact again I7 n7
    | cont=>obtain ⟨σ7,H7,I7,n7⟩:=q7; exact again I7 n7
    | brk=>obtain ⟨σ7,H7,I7,q7⟩:=q7; exact ⟨σ7,H7,I7.unpinned,q7⟩
    | ret v=>obtain ⟨x7,σ7,H7,I7,r7,q7⟩:=q7; exact ⟨x7,σ7,H7,I7.unpinned,r7,q7⟩
end
theorem xb7 {K:PySem.W.Frag} {a:Addr} {xs:List V} {g:TG} {tb:TS} {D:Ends} {σ:St} {H:Hp} (Pv:Nat→St→Hp→Prop) (h0:Pv 0 σ H) (hl:∀ i σ H,i≤xs.length→Pv i σ H→SqL K H a xs)
    (hs:∀ i x σ H,xs[i]?=some x→Pv i σ H→g x σ H fun σ2 H2=>tb { D with nx:=Pv (i + 1),ct:=Pv (i + 1),bk:=D.nx } σ2 H2) (hd:∀ σ H,Pv xs.length σ H→D.nx σ H) :
    ∃ W:Nat→Nat→St→Hp→Prop,(∃ m,W 0 m σ H)∧∀ i m σ H,W i m σ H →
      ((Itl K a).stop i H∧D.nx σ H)∨((Itl K a).go i H∧∃ N:St→Hp→Prop,(∀ σ' H',N σ' H'→∃ m',m' < m∧W (i + 1) m' σ' H')∧∀ x H',(Itl K a).yld i H x H'→g x σ H' fun σ2 H2=>tb { D with nx:=N,ct:=N,bk:=D.nx } σ2 H2):=by
  refine ⟨fun i m σ H=>m=xs.length - i∧i≤xs.length∧Pv i σ H,⟨xs.length,by simp,Nat.zero_le _,h0⟩,?_⟩
  rintro i m σ H ⟨rfl,hi,p⟩
  have q:=hl i σ H hi p
  by_cases hlt:i < xs.length
  · refine .inr ⟨⟨xs,xs[i],q,by simp [hlt]⟩,Pv (i + 1),fun σ' H' p'=>⟨xs.length - (i + 1),by omega,rfl,hlt,p'⟩,fun x H' y=>?_⟩
    obtain ⟨e,y⟩:=y
    subst e
    exact hs i x σ _ (y xs q) p
  · have e:i=xs.length:=by omega
    subst e
    exact .inl ⟨⟨xs,q,Nat.le_refl _⟩,hd σ H p⟩
theorem xoq {K:PySem.W.Frag} {a:Addr} {xs:List V} {g:TG} {tb:TS} {D:Ends} {σ:St} {H:Hp} (Pv:Nat→St→Hp→Prop) (h0:Pv 0 σ H) (hl:∀ i σ H,i≤xs.length→Pv i σ H→SqT K H a xs)
    (hs:∀ i x σ H,xs[i]?=some x→Pv i σ H→g x σ H fun σ2 H2=>tb { D with nx:=Pv (i + 1),ct:=Pv (i + 1),bk:=D.nx } σ2 H2) (hd:∀ σ H,Pv xs.length σ H→D.nx σ H) :
    ∃ W:Nat→Nat→St→Hp→Prop,(∃ m,W 0 m σ H)∧∀ i m σ H,W i m σ H →
      ((Itt K a).stop i H∧D.nx σ H)∨((Itt K a).go i H∧∃ N:St→Hp→Prop,(∀ σ' H',N σ' H'→∃ m',m' < m∧W (i + 1) m' σ' H')∧∀ x H',(Itt K a).yld i H x H'→g x σ H' fun σ2 H2=>tb { D with nx:=N,ct:=N,bk:=D.nx } σ2 H2):=by
  refine ⟨fun i m σ H=>m=xs.length - i∧i≤xs.length∧Pv i σ H,⟨xs.length,by simp,Nat.zero_le _,h0⟩,?_⟩
  rintro i m σ H ⟨rfl,hi,p⟩
  have q:=hl i σ H hi p
  by_cases hlt:i < xs.length
  · refine .inr ⟨⟨xs,xs[i],q,by simp [hlt]⟩,Pv (i + 1),fun σ' H' p'=>⟨xs.length - (i + 1),by omega,rfl,hlt,p'⟩,fun x H' y=>?_⟩
    obtain ⟨e,y⟩:=y
    subst e
    exact hs i x σ _ (y xs q) p
  · have e:i=xs.length:=by omega
    subst e
    exact .inl ⟨⟨xs,q,Nat.le_refl _⟩,hd σ H p⟩
theorem xep {lo:Int} {n:Nat} {g:TG} {tb:TS} {D:Ends} {σ:St} {H:Hp} (Pv:Nat→St→Hp→Prop) (h0:Pv 0 σ H)
    (hs:∀ i σ H,i < n→Pv i σ H→g (.int (lo + i)) σ H fun σ2 H2=>tb { D with nx:=Pv (i + 1),ct:=Pv (i + 1),bk:=D.nx } σ2 H2) (hd:∀ σ H,Pv n σ H→D.nx σ H) :
    ∃ W:Nat→Nat→St→Hp→Prop,(∃ m,W 0 m σ H)∧∀ i m σ H,W i m σ H →
      ((Itr lo n).stop i H∧D.nx σ H)∨((Itr lo n).go i H∧∃ N:St→Hp→Prop,(∀ σ' H',N σ' H'→∃ m',m' < m∧W (i + 1) m' σ' H')∧∀ x H',(Itr lo n).yld i H x H'→g x σ H' fun σ2 H2=>tb { D with nx:=N,ct:=N,bk:=D.nx } σ2 H2):=by
  refine ⟨fun i m σ H=>m=n - i∧i≤n∧Pv i σ H,⟨n,by simp,Nat.zero_le _,h0⟩,?_⟩
  rintro i m σ H ⟨rfl,hi,p⟩
  by_cases hlt:i < n
  · refine .inr ⟨hlt,Pv (i + 1),fun σ' H' p'=>⟨n - (i + 1),by omega,rfl,hlt,p'⟩,fun x H' y=>?_⟩
    obtain ⟨e,y⟩:=y
    subst e y
    exact hs i σ _ hlt p
  · have e:i=n:=by omega
    subst e
    exact .inl ⟨Nat.le_refl _,hd σ H p⟩
end L2
namespace L2
open PySem PySem.Spec PyProof.Rows
variable {q0:Bool}
abbrev R2:=V→V→Hp→VK→Prop
def OpR (X:Cx) (f:Value→Value→Sem Value) (r:R2):Prop :=
 ∀ (pins:List (Addr × Obj)) (s:Shared) (σ:St) (H:Hp) (x y:V) (v u:Value) (Q:VK),Inv X pins σ H s→RelV x v→RelV y u→r x y H Q →
  wpAny (model X.prog X.w) X.A (f v u) (EP X pins σ Q) X.xe s
def UnR (X:Cx) (f:Value→Sem Value) (r:V→Hp→VK→Prop):Prop :=
 ∀ (pins:List (Addr × Obj)) (s:Shared) (σ:St) (H:Hp) (x:V) (v:Value) (Q:VK),Inv X pins σ H s→RelV x v→r x H Q →
  wpAny (model X.prog X.w) X.A (f v) (EP X pins σ Q) X.xe s
def xb4 (X:Cx) (f:Value) (r:List V→Hp→VK→Prop):Prop :=
 ∀ (pins:List (Addr × Obj)) (s:Shared) (σ:St) (H:Hp) (xs:List V) (us:List Value) (Q:VK),Inv X pins σ H s→Vals xs us→r xs H Q →
  wpAny (model X.prog X.w) X.A (call f us) (EP X pins σ Q) X.xe s
def TruR (X:Cx) (r:V→Hp→(Bool→Hp→Prop)→Prop):Prop :=
 ∀ (pins:List (Addr × Obj)) (s:Shared) (σ:St) (H:Hp) (x:V) (v:Value) (Q:Bool→Hp→Prop),Inv X pins σ H s→RelV x v→r x H Q →
  wpAny (model X.prog X.w) X.A (truthy v) (TP X pins σ Q) X.xe s
def tOp (r:R2) (ta tb:TE):TE:=fun σ H Q=>ta σ H fun x H1=>tb σ H1 fun y H2=>r x y H2 Q
def tUn (r:V→Hp→VK→Prop) (ta:TE):TE:=fun σ H Q=>ta σ H fun x H1=>r x H1 Q
def rI (C:Int→Int→Prop) (g:Int→Int→V):R2:=fun x y H Q=>∃ i j,x=.int i∧y=.int j∧C i j∧Q (g i j) H
def rI0 (g:Int→Int→V):R2:=fun x y H Q=>∃ i j,x=.int i∧y=.int j∧Q (g i j) H
def rU (g:Int→V):V→Hp→VK→Prop:=fun x H Q=>∃ i,x=.int i∧Q (g i) H
section
variable {X:Cx} {a b c:Expr} {ta tb tc:TE} {pos:Pos}
theorem binT (ha:PE X a ta) (hb:PE X b tb) {pins:List (Addr × Obj)} {s:Shared} {σ:St} {H:Hp} {R:V→V→Hp→Prop} (I:Inv X pins σ H s)
    (h:ta σ H fun x H1=>tb σ H1 fun y H2=>R x y H2) {Q:Value→Shared→Prop} {f:Value→Value→Sem Value}
    (hf:∀ v u s2 x y H2,Inv X pins σ H2 s2→RelV x v→RelV y u→R x y H2→wpAny (model X.prog X.w) X.A (f v u) Q X.xe s2) :
    wpAny (model X.prog X.w) X.A (eval a X.env) (fun v s₁=>wpAny (model X.prog X.w) X.A (eval b X.env) (fun u s₂=>wpAny (model X.prog X.w) X.A (f v u) Q X.xe s₂) X.xe s₁) X.xe s:=by
  refine thn (ha pins s σ H _ I h) fun v s1 ⟨x,H1,I1,r1,q1⟩=>?_
  refine thn (hb pins s1 σ H1 _ I1 q1) fun u s2 ⟨y,H2,I2,r2,q2⟩=>?_
  exact hf v u s2 x y H2 I2 r1 r2 q2
theorem xp {op:Operator} {r:R2} (ho:OpR X (binaryOp op) r) (ha:PE X a ta) (hb:PE X b tb):PE X (.BinOp a op b pos) (tOp r ta tb):=by
 intro pins s σ H Q I h
 exact wpAny_BinOp (binT ha hb I h fun v u s2 x y H2 I2 rx ry q=>ho pins s2 σ H2 x y v u Q I2 rx ry q)
theorem xhd {op:UnaryOp} {r:V→Hp→VK→Prop} (ho:UnR X (unaryOp op) r) (ha:PE X a ta):PE X (.UnaryOp op a pos) (tUn r ta):=by
 intro pins s σ H Q I h
 exact UnaryOp_ (thn (ha pins s σ H _ I h) fun v s1 ⟨x,H1,I1,r1,q1⟩=>ho pins s1 σ H1 x v Q I1 r1 q1)
theorem opI {f:Value→Value→Sem Value} {C:Int→Int→Prop} {g:Int→Int→Int}
    (rule:∀ (i j:Int) (t u:Tok) (s:Shared) (Q:Value→Shared→Prop) (E:Value→Shared→Prop),C i j→Q (.int (g i j) s.toks) { s with toks:=s.toks + 1 }→wpAny (model X.prog X.w) X.A (f (.int i t) (.int j u)) Q E s) :
    OpR X f (rI C fun i j=>.int (g i j)):=by
  intro pins s σ H x y v u Q I rx ry h
  obtain ⟨i,j,rfl,rfl,hc,q⟩:=h
  obtain ⟨t,rfl⟩:=rx
  obtain ⟨t',rfl⟩:=ry
  exact rule i j t t' s _ _ hc ⟨.int (g i j),H,I.tok _,⟨_,rfl⟩,q⟩
theorem opI0 {f:Value→Value→Sem Value} {g:Int→Int→Int}
    (rule:∀ (i j:Int) (t u:Tok) (s:Shared) (Q:Value→Shared→Prop) (E:Value→Shared→Prop),Q (.int (g i j) s.toks) { s with toks:=s.toks + 1 }→wpAny (model X.prog X.w) X.A (f (.int i t) (.int j u)) Q E s) :
    OpR X f (rI0 fun i j=>.int (g i j)):=by
  intro pins s σ H x y v u Q I rx ry h
  obtain ⟨i,j,rfl,rfl,q⟩:=h
  obtain ⟨t,rfl⟩:=rx
  obtain ⟨t',rfl⟩:=ry
  exact rule i j t t' s _ _ ⟨.int (g i j),H,I.tok _,⟨_,rfl⟩,q⟩
theorem opB0 {f:Value→Value→Sem Value} {g:Int→Int→Bool}
    (rule:∀ (i j:Int) (t u:Tok) (s:Shared) (Q:Value→Shared→Prop) (E:Value→Shared→Prop),Q (.bool (g i j)) s→wpAny (model X.prog X.w) X.A (f (.int i t) (.int j u)) Q E s) :
    OpR X f (rI0 fun i j=>.bl (g i j)):=by
  intro pins s σ H x y v u Q I rx ry h
  obtain ⟨i,j,rfl,rfl,q⟩:=h
  obtain ⟨t,rfl⟩:=rx
  obtain ⟨t',rfl⟩:=ry
  exact rule i j t t' s _ _ ⟨.bl (g i j),H,I,rfl,q⟩
def CDiv (i j:Int):Prop:=0 < j∧j < 1073741824
def CPow (i j:Int):Prop:=0≤j∧j≤1000000∧i.natAbs < 2 ^ 64
def CMul (i j:Int):Prop:=(-(2 ^ 64) < i∧i < 2 ^ 64)∨(-(2 ^ 64) < j∧j < 2 ^ 64)
theorem CMul.ok {i j:Int} (h:CMul i j):IntMulOk i j:=by
 rcases h with ⟨h1,h2⟩ | ⟨h1,h2⟩
 ·exact .of_left (intBits_le_64 h1 h2)
 ·exact .of_right (intBits_le_64 h1 h2)
theorem xjy (k:Nat):(0:Int)≤2 ^ k:=by
 rw [two_pow_cast]
 exact Int.natCast_nonneg _
theorem xag:OpR X (binaryOp .Add) (rI0 fun i j=>.int (i + j)):=opI0 fun _ _ _ _ _ _ _ q=>add_int q
theorem xhk:OpR X (binaryOp .Sub) (rI0 fun i j=>.int (i - j)):=opI0 fun _ _ _ _ _ _ _ q=>sub_int q
theorem xdi:OpR X (binaryOp .Mult) (rI CMul fun i j=>.int (i * j)):=opI fun _ _ _ _ _ _ _ hc q=>mul_int q hc.ok
theorem xdz:OpR X (binaryOp .FloorDiv) (rI CDiv fun i j=>.int (i / j)):=opI fun i j _ _ _ _ _ hc q=>by
 have h1:(0:Int) < j:=hc.1
 have h2:j < 1073741824:=hc.2
 exact floordiv_int (by omega) (by rw [Int.fdiv_eq_ediv_of_nonneg i (by omega)]; exact q) (.inl (PyProof.noPylong_small (by omega)))
theorem xa1:OpR X (binaryOp .Mod) (rI (fun _ j=>0 < j) fun i j=>.int (i % j)):=opI fun i j _ _ _ _ _ hc q=>by
 have h1:(0:Int) < j:=hc
 exact mod_int' (by omega) (by rw [Int.fmod_eq_emod_of_nonneg i (by omega)]; exact q)
theorem xpk:OpR X (binaryOp .Pow) (rI CPow fun i j=>.int (i ^ j.toNat)):=opI fun _ _ _ _ _ _ _ hc q=>pow_int_small hc.1 hc.2.1 hc.2.2 q
theorem xp9:OpR X (binaryOp .RShift) (rI (fun _ j=>0≤j) fun i j=>.int (i / 2 ^ j.toNat)):=opI fun i j _ _ _ _ _ hc q =>
 rshift_int hc (by rw [Int.fdiv_eq_ediv_of_nonneg i (xjy _)]; exact q)
theorem unI {f:Value→Sem Value} {g:Int→Int}
    (rule:∀ (i:Int) (t:Tok) (s:Shared) (Q:Value→Shared→Prop) (E:Value→Shared→Prop),Q (.int (g i) s.toks) { s with toks:=s.toks + 1 }→wpAny (model X.prog X.w) X.A (f (.int i t)) Q E s) :
    UnR X f (rU fun i=>.int (g i)):=by
  intro pins s σ H x v Q I rx h
  obtain ⟨i,rfl,q⟩:=h
  obtain ⟨t,rfl⟩:=rx
  exact rule i t s _ _ ⟨.int (g i),H,I.tok _,⟨_,rfl⟩,q⟩
theorem xfy:UnR X (unaryOp .USub) (rU fun i=>.int (-i)):=unI fun _ _ _ _ _ q=>neg_int q
end
def scal:V→V→Bool
 | .non,.non=>true | .non,.int _=>true | .int _,.non=>true | .non,.bl _=>true | .bl _,.non=>true | .non,.str _=>true | .str _,.non=>true
 | .int _,.int _=>true | .bl _,.bl _=>true | .str _,.str _=>true | .byt _,.byt _=>true
 | .int _,.str _=>true | .str _,.int _=>true | .bl _,.str _=>true | .str _,.bl _=>true
 | _,_=>false
def rEq:R2:=fun x y H Q=>scal x y=true∧Q (.bl (decide (x=y))) H
def rNe:R2:=fun x y H Q=>scal x y=true∧Q (.bl (!decide (x=y))) H
theorem xi1 {i j:Int}:decide (V.int i=V.int j)=(i == j):=by
 rw [Bool.eq_iff_iff]
 simp
theorem xk6 {i j:Bool}:decide (V.bl i=V.bl j)=(i == j):=by
 rw [Bool.eq_iff_iff]
 simp
theorem xi6 {i j:Str}:decide (V.str i=V.str j)=(i == j):=by
 rw [Bool.eq_iff_iff]
 simp
theorem xiz {i j:Array UInt8}:decide (V.byt i=V.byt j)=(i.toList == j.toList):=by
 rw [Bool.eq_iff_iff]
 cases i
 cases j
 simp
section
variable {X:Cx} {a b c:Expr} {ta tb tc:TE} {pos:Pos}
theorem xak {pins:List (Addr × Obj)} {σ:St} {H:Hp} {s:Shared} {Q:VK} {k k':Bool} (I:Inv X pins σ H s) (q:Q (.bl k) H) (e:k=k'):EP X pins σ Q (.bool k') s:=by
 subst e
 exact ⟨.bl k,H,I,rfl,q⟩
theorem xbl:OpR X (compareOp .Eq) rEq:=by
 intro pins s σ H x y v u Q I rx ry h
 obtain ⟨hs,q⟩:=h
 cases x with
 | non =>
  cases rx
  cases y with
  | non=>cases ry; exact PySem.EqNone.eq_none_none (xak I q (by simp))
  | bl j=>cases ry; exact PySem.EqNone.eq_none_bool (xak I q (by simp))
  | int j=>obtain ⟨t',rfl⟩:=ry; exact PySem.EqNone.eq_none_int (xak I q (by simp))
  | str j=>obtain ⟨t',rfl⟩:=ry; exact PySem.EqNone.eq_none_str (xak I q (by simp))
  | _=>exact absurd (show false=true from hs) Bool.false_ne_true
 | bl i =>
  cases rx
  cases y with
  | non=>cases ry; exact PySem.EqNone.eq_bool_none (xak I q (by simp))
  | bl j=>cases ry; exact eq_bool (xak I q xk6)
  | str j=>obtain ⟨t',rfl⟩:=ry; exact PySem.EqMixed.eq_bool_str (xak I q (by simp))
  | _=>exact absurd (show false=true from hs) Bool.false_ne_true
 | int i =>
  obtain ⟨t,rfl⟩:=rx
  cases y with
  | non=>cases ry; exact PySem.EqNone.eq_int_none (xak I q (by simp))
  | int j=>obtain ⟨t',rfl⟩:=ry; exact eq_int (xak I q xi1)
  | str j=>obtain ⟨t',rfl⟩:=ry; exact PySem.EqMixed.eq_int_str (xak I q (by simp))
  | _=>exact absurd (show false=true from hs) Bool.false_ne_true
 | str i =>
  obtain ⟨t,rfl⟩:=rx
  cases y with
  | non=>cases ry; exact PySem.EqNone.eq_str_none (xak I q (by simp))
  | bl j=>cases ry; exact PySem.EqMixed.eq_str_bool (xak I q (by simp))
  | int j=>obtain ⟨t',rfl⟩:=ry; exact PySem.EqMixed.eq_str_int (xak I q (by simp))
  | str j=>obtain ⟨t',rfl⟩:=ry; exact eq_str (xak I q xi6)
  | _=>exact absurd (show false=true from hs) Bool.false_ne_true
 | byt i =>
  obtain ⟨t,rfl⟩:=rx
  cases y with
  | byt j=>obtain ⟨t',rfl⟩:=ry; exact PySem.W.eq_bytes (xak I q xiz)
  | _=>exact absurd (show false=true from hs) Bool.false_ne_true
 | _=>cases y <;> exact absurd (show false=true from hs) Bool.false_ne_true
theorem xdr:OpR X (compareOp .NotEq) rNe:=by
 intro pins s σ H x y v u Q I rx ry h
 obtain ⟨hs,q⟩:=h
 cases x with
 | non =>
  cases rx
  cases y with
  | non=>cases ry; exact PySem.EqNone.ne_none_none (xak I q (by simp))
  | bl j=>cases ry; exact PySem.EqNone.ne_none_bool (xak I q (by simp))
  | int j=>obtain ⟨t',rfl⟩:=ry; exact PySem.EqNone.ne_none_int (xak I q (by simp))
  | str j=>obtain ⟨t',rfl⟩:=ry; exact PySem.EqNone.ne_none_str (xak I q (by simp))
  | _=>exact absurd (show false=true from hs) Bool.false_ne_true
 | bl i =>
  cases rx
  cases y with
  | non=>cases ry; exact PySem.EqNone.ne_bool_none (xak I q (by simp))
  | bl j=>cases ry; exact ne_bool (xak I q (congrArg not xk6))
  | str j=>obtain ⟨t',rfl⟩:=ry; exact PySem.EqMixed.ne_bool_str (xak I q (by simp))
  | _=>exact absurd (show false=true from hs) Bool.false_ne_true
 | int i =>
  obtain ⟨t,rfl⟩:=rx
  cases y with
  | non=>cases ry; exact PySem.EqNone.ne_int_none (xak I q (by simp))
  | int j=>obtain ⟨t',rfl⟩:=ry; exact ne_int (xak I q (congrArg not xi1))
  | str j=>obtain ⟨t',rfl⟩:=ry; exact PySem.EqMixed.ne_int_str (xak I q (by simp))
  | _=>exact absurd (show false=true from hs) Bool.false_ne_true
 | str i =>
  obtain ⟨t,rfl⟩:=rx
  cases y with
  | non=>cases ry; exact PySem.EqNone.ne_str_none (xak I q (by simp))
  | bl j=>cases ry; exact PySem.EqMixed.ne_str_bool (xak I q (by simp))
  | int j=>obtain ⟨t',rfl⟩:=ry; exact PySem.EqMixed.ne_str_int (xak I q (by simp))
  | str j=>obtain ⟨t',rfl⟩:=ry; exact ne_str (xak I q (congrArg not xi6))
  | _=>exact absurd (show false=true from hs) Bool.false_ne_true
 | byt i =>
  obtain ⟨t,rfl⟩:=rx
  cases y with
  | byt j=>obtain ⟨t',rfl⟩:=ry; exact PySem.W.ne_bytes (xak I q (congrArg not xiz))
  | _=>exact absurd (show false=true from hs) Bool.false_ne_true
 | _=>cases y <;> exact absurd (show false=true from hs) Bool.false_ne_true
theorem xc5:OpR X (compareOp .Lt) (rI0 fun i j=>.bl (decide (i < j))):=opB0 fun _ _ _ _ _ _ _ q=>lt_int q
theorem xne:OpR X (compareOp .LtE) (rI0 fun i j=>.bl (decide (i≤j))):=opB0 fun _ _ _ _ _ _ _ q=>le_int q
theorem xe9:OpR X (compareOp .Gt) (rI0 fun i j=>.bl (decide (j < i))):=opB0 fun _ _ _ _ _ _ _ q=>gt_int q
theorem xrb:OpR X (compareOp .GtE) (rI0 fun i j=>.bl (decide (j≤i))):=opB0 fun _ _ _ _ _ _ _ q=>ge_int q
theorem xeh:OpR X (compareOp .Is) (fun x y H Q=>y=.non∧Q (.bl (decide (x=.non))) H):=by
 intro pins s σ H x y v u Q I rx ry h
 obtain ⟨rfl,q⟩:=h
 cases ry
 refine is_none_gen (xak I q ?_)
 cases x <;> first
  | (cases rx; rfl)
  | (obtain ⟨t,rfl⟩:=rx; rfl)
theorem xi5:OpR X (compareOp .IsNot) (fun x y H Q=>y=.non∧Q (.bl (!decide (x=.non))) H):=by
 intro pins s σ H x y v u Q I rx ry h
 obtain ⟨rfl,q⟩:=h
 cases ry
 refine isnot_none_gen (xak I q ?_)
 cases x <;> first
  | (cases rx; rfl)
  | (obtain ⟨t,rfl⟩:=rx; rfl)
def isObj:HO→Bool
 | .lst _=>true
 | .ins _ _ _=>true
 | _=>false
theorem x0 (b:Expr) {op:CmpOp} (h:op≠.In:=by decide) (h2:op≠.NotIn:=by decide):behindInMarks op b=false:=by
 have e1:(op == CmpOp.In)=false:=by cases op <;> first | rfl | exact absurd rfl h
 have e2:(op == CmpOp.NotIn)=false:=by cases op <;> first | rfl | exact absurd rfl h2
 cases b <;> simp [behindInMarks,e1,e2]
theorem xe1 {op:CmpOp} {r:R2} (ho:OpR X (compareOp op) r) (ha:PE X a ta) (hb:PE X b tb) (hm:behindInMarks op b=false):PE X (.Compare a [op] [b] pos) (tOp r ta tb):=by
 intro pins s σ H Q I h
 exact wpAny_Compare1 (binT ha hb I h fun v u s2 x y H2 I2 rx ry q=>ho pins s2 σ H2 x y v u Q I2 rx ry q) hm
def xm8 (t:TE):TT:=fun σ H Q=>t σ H fun x H'=>∃ k,x=.bl k∧Q k H'
theorem xt {op:CmpOp} {r:R2} (ho:OpR X (compareOp op) r) (ha:PE X a ta) (hb:PE X b tb) (hm:behindInMarks op b=false):PT X (.Compare a [op] [b] pos) (xm8 (tOp r ta tb)):=by
 intro pins s σ H Q I h
 refine wpAny_isTrue_Compare1 (thn (ha pins s σ H _ I h) fun v s1 ⟨x,H1,I1,r1,q1⟩=>thn (hb pins s1 σ H1 _ I1 q1) fun u s2 ⟨y,H2,I2,r2,q2⟩ =>
  thn (ho pins s2 σ H2 x y v u _ I2 r1 r2 q2) fun c s3 ⟨z,H3,I3,r3,k,e,q3⟩=>?_) hm
 subst e
 cases r3
 exact wpAny_truthy_bool ⟨H3,I3,q3⟩
def xk3 (r r':R2) (ta tb tc:TE):TE:=fun σ H Q=>ta σ H fun x H1=>tb σ H1 fun y H2=>r x y H2 fun z H3=>∃ k,z=.bl k ∧
 (if k=true then tc σ H3 fun w' H4=>r' y w' H4 Q else Q (.bl false) H3)
theorem xh9 {op op':CmpOp} {r r':R2} (ho:OpR X (compareOp op) r) (ho':OpR X (compareOp op') r') (ha:PE X a ta) (hb:PE X b tb) (hc:PE X c tc)
    (hm:lastMarks [op,op'] [b,c]=false:=by with_unfolding_all rfl):PE X (.Compare a [op,op'] [b,c] pos) (xk3 r r' ta tb tc):=by
  intro pins s σ H Q I h
  refine Compare_chain (thn (ha pins s σ H _ I h) fun v s1 ⟨x,H1,I1,r1,q1⟩=>chain_link (thn (hb pins s1 σ H1 _ I1 q1) fun u s2 ⟨y,H2,I2,r2,q2⟩ =>
    thn (ho pins s2 σ H2 x y v u _ I2 r1 r2 q2) fun d s3 ⟨z,H3,I3,r3,k,e,q3⟩=>?_)) hm
  subst e
  cases r3
  refine wpAny_truthy_bool ?_
  cases k with
  | false=>exact ite_ff ⟨.bl false,H3,I3,rfl,q3⟩
  | true=>exact ite_tt (chain_last (thn (hc pins s3 σ H3 _ I3 q3) fun w' s4 ⟨z',H4,I4,r4,q4⟩=>ho' pins s4 σ H4 y z' u w' Q I4 r2 r4 q4))
theorem xmi {op op':CmpOp} {r r':R2} (ho:OpR X (compareOp op) r) (ho':OpR X (compareOp op') r') (ha:PE X a ta) (hb:PE X b tb) (hc:PE X c tc)
    (hm:lastMarks [op,op'] [b,c]=false:=by with_unfolding_all rfl):PT X (.Compare a [op,op'] [b,c] pos) (xm8 (xk3 r r' ta tb tc)):=by
  intro pins s σ H Q I h
  refine isTrue_chain (thn (ha pins s σ H _ I h) fun v s1 ⟨x,H1,I1,r1,q1⟩=>test_link (thn (hb pins s1 σ H1 _ I1 q1) fun u s2 ⟨y,H2,I2,r2,q2⟩ =>
    thn (ho pins s2 σ H2 x y v u _ I2 r1 r2 q2) fun d s3 ⟨z,H3,I3,r3,k,e,q3⟩=>?_)) hm
  subst e
  cases r3
  refine wpAny_truthy_bool ?_
  cases k with
  | false =>
    obtain ⟨k',e',q'⟩:=q3
    cases e'
    exact ite_ff ⟨H3,I3,q'⟩
  | true =>
    refine ite_tt (test_last (thn (hc pins s3 σ H3 _ I3 q3) fun w' s4 ⟨z',H4,I4,r4,q4⟩=>thn (ho' pins s4 σ H4 y z' u w' _ I4 r2 r4 q4) fun d' s5 ⟨z2,H5,I5,r5,k2,e2,q5⟩=>?_))
    subst e2
    cases r5
    exact wpAny_truthy_bool ⟨H5,I5,q5⟩
def TruV (K:PySem.W.Frag) (x:V) (H:Hp) (k:Bool):Prop :=
 match x with
 | .non=>k=false
 | .bl b=>k=b
 | .int i=>k=(i != 0)
 | .str y=>y.length≤sizeLine∧k=((y.length:Int) != 0)
 | .byt y=>y.size≤sizeLine∧k=((y.size:Int) != 0)
 | .ref p=>(∃ xs,SqL K H p xs∧k=!xs.isEmpty)∨(∃ xs,SqT K H p xs∧k=!xs.isEmpty)∨∃ kvs,H p=some (.dK kvs)∧k=!kvs.isEmpty
 | _=>False
theorem xjg {κ:Type} {kvs:List (κ × V)} {vs:List (κ × Value)} (r:KV kvs vs):(!vs.isEmpty)=!kvs.isEmpty:=by
 cases r <;> rfl
theorem xf2 {xs:List V} {its:List Value} (r:Vals xs its):(!its.toArray.isEmpty)=!xs.isEmpty:=by
 cases r <;> simp
theorem xdh:(sizeLine:Nat) < 2 ^ 63:=by rw [sizeLine_eq]; decide
theorem xp1:TruR X (fun x H Q=>∃ k,TruV X.K x H k∧Q k H):=by
 intro pins s σ H x v Q I rx h
 obtain ⟨k,e,q⟩:=h
 have hl:=xdh
 have hs:sizeLine=16777216:=sizeLine_eq
 cases x with
 | non =>
  cases rx
  have e':k=false:=e
  subst e'
  exact truthy_none ⟨H,I,q⟩
 | bl b =>
  cases rx
  have e':k=b:=e
  subst e'
  exact wpAny_truthy_bool ⟨H,I,q⟩
 | int i =>
  obtain ⟨t,rfl⟩:=rx
  have e':k=(i != 0):=e
  subst e'
  exact PySem.P.truthy_int ⟨H,I,q⟩
 | str y =>
  obtain ⟨t,rfl⟩:=rx
  obtain ⟨hy,e'⟩:y.length≤sizeLine∧k=((y.length:Int) != 0):=e
  subst e'
  exact PySem.P.truthy_str (by omega) ⟨H,I.tok _,q⟩
 | byt y =>
  obtain ⟨t,rfl⟩:=rx
  obtain ⟨hy,e'⟩:y.size≤sizeLine∧k=((y.size:Int) != 0):=e
  subst e'
  exact PySem.W.truthy_bytes (by omega) ⟨H,I.tok _,q⟩
 | ref p =>
  cases rx
  have e':(∃ xs,SqL X.K H p xs∧k=!xs.isEmpty)∨(∃ xs,SqT X.K H p xs∧k=!xs.isEmpty)∨∃ kvs,H p=some (.dK kvs)∧k=!kvs.isEmpty:=e
  rcases e' with ⟨xs,hx,e'⟩ | ⟨xs,hx,e'⟩ | ⟨kvs,hx,e'⟩
  ·subst e'
   obtain ⟨its,r,pl,hz⟩:=I.list hx
   have hlen:=r.length
   exact wpAny_truthy_list pl.isList (by simp only [List.size_toArray]; omega) ⟨H,I.tok _,by rw [xf2 r]; exact q⟩
  ·subst e'
   obtain ⟨its,r,pl,hz⟩:=I.tuple hx
   have hlen:=r.length
   exact truthy_tuple pl (by simp only [List.size_toArray]; omega) ⟨H,I.tok _,by rw [xf2 r]; exact q⟩
  ·subst e'
   obtain ⟨hz,hS,vs,r,m⟩:kvs.length≤sizeLine∧(p == sysModules)=false∧∃ vs,KV kvs vs∧s.heap.DictOf (xas X.prog X.w) p vs:=I.hok p _ hx
   have hlen:kvs.length=vs.length:=Paired.length r
   exact wpAny_truthy_dict hS m (by omega) ⟨H,I.tok _,by rw [xjg r]; exact q⟩
 | _=>exact (show False from e).elim
theorem xl0 (ha:PE X a ta) (he:∀ whole,isTrue a X.env whole=(do let v ← whole; standAt a.pos; holding [v] (truthy v))) :
    PT X a (fun σ H Q=>ta σ H fun x H'=>∃ k,TruV X.K x H' k∧Q k H'):=by
  intro pins s σ H Q I h
  exact isTrue_plain (thn (ha pins s σ H _ I h) fun v s1 ⟨x,H1,I1,r1,q1⟩=>xp1 pins s1 σ H1 x v Q I1 r1 q1) (he _)
theorem xz:OpR X (binaryOp .Add) (fun x y H Q=>∃ i j,x=.str i∧y=.str j∧i.length + j.length≤sizeLine∧Q (.str (i ++ j)) H):=by
 intro pins s σ H x y v u Q I rx ry h
 obtain ⟨i,j,rfl,rfl,hz,q⟩:=h
 obtain ⟨t,rfl⟩:=rx
 obtain ⟨t',rfl⟩:=ry
 exact add_str (fun t' tk=>⟨.str (i ++ j),H,I.tok _,⟨_,rfl⟩,q⟩) hz
theorem xci {x:V} {us:List Value} (r:Vals [x] us):∃ u,us=[u]∧RelV x u:=by
 cases r with
 | cons r1 r2=>cases r2; exact ⟨_,rfl,r1⟩
theorem xju {x y:V} {us:List Value} (r:Vals [x,y] us):∃ u w',us=[u,w']∧RelV x u∧RelV y w':=by
 cases r with
 | cons r1 r2 =>
  cases r2 with
  | cons r3 r4=>cases r4; exact ⟨_,_,rfl,r1,r3⟩
theorem xai:xb4 X (.type "str") (fun xs H Q=>∃ i,xs=[.int i]∧i.natAbs.log2 < 1920∧Q (.str (toString i)) H):=by
 intro pins s σ H xs us Q I r h
 obtain ⟨i,rfl,hz,q⟩:=h
 obtain ⟨u,rfl,t,rfl⟩:=xci r
 exact PySem.P.str_of_int hz ⟨.str _,H,I.tok _,⟨_,rfl⟩,q⟩
end
end L2
namespace L2
open PySem PySem.Spec PyProof.Rows
variable {q0:Bool}
structure ObjM (h:Heap) (x dx C:Addr) (mA:Str→Option Value):Prop where
 obj:h.get? x=some (PySem.W.instObj C dx)
 ns:h.Ns1 dx mA
 ne:dx≠x
theorem xke {h:Heap} {dx:Addr} {mA:Str→Option Value} (n:h.Ns1 dx mA):∃ od,h.get? dx=some od∧∀ name,PySem.W.lookIn name od=some (mA name):=by
 obtain ⟨o,es,ep,ho,hd,hk,_,hm⟩:=n
 refine ⟨o,ho,fun name=>?_⟩
 have e:=hm name
 unfold nsFind findBy at e
 rw [← Array.find?_toList] at e
 unfold PySem.W.lookIn
 rw [hd]
 dsimp only
 split
 ·rename_i y q
  rw [q] at e
  exact congrArg some e
 ·rename_i q
  rw [q] at e
  have a:es.toList.any (·.refKey)=false:=by
   rw [List.any_eq_false]
   intro y hy
   obtain ⟨z,t,hkey⟩:=hk y (Array.mem_toList_iff.mp hy)
   simp [DictEntry.refKey,hkey]
  have a':¬ es.toList.any (·.refKey)=true:=by rw [a]; exact Bool.false_ne_true
  rw [if_neg a']
  exact congrArg some e
theorem ObjM.look {h:Heap} {x dx C:Addr} {mA:Str→Option Value} (I:ObjM h x dx C mA):∃ od,PySem.W.InstAt h x (PySem.W.instObj C dx) C (some od)∧∀ name,PySem.W.lookIn name od=some (mA name) :=
 let ⟨od,ho,hl⟩:=xke I.ns
 ⟨od,⟨I.obj,rfl,rfl,ho⟩,hl⟩
section
variable {prog:Program} {w:World} {A:Around} {E:Value→Shared→Prop} {s:Shared} {K:PySem.W.Frag} {x dx C f:Addr} {mA:Str→Option Value} {name:Str} {v:Value}
theorem xoe {expr:Bool} {Q:Value→Shared→Prop} (X:K.In s.heap) (I:ObjM s.heap x dx C mA) (hg:PySem.W.plainGet K C name=true) (hh:PySem.W.hasDictIn K C=true)
    (ha:PySem.W.findIn K (.ref C) name=some none) (hv:mA name=some v) (hv':PySem.W.handedIn v=true) (h:Q v { s with toks:=s.toks + 1 }) :
    wpAny (model prog w) A (getAttr (.ref x) name expr) Q E s:=by
  obtain ⟨od,J,hl⟩:=I.look
  exact PySem.W.get_value X J (PySem.W.plainGet_of hg).1 (PySem.W.findObj_own hh ha rfl (by rw [hl,hv])) hv' h
theorem xls {pl:Sem Bool} {Q:Value × List Value→Shared→Prop} (X:K.In s.heap) (I:ObjM s.heap x dx C mA) (hg:PySem.W.plainGet K C name=true)
    (hf:PySem.W.findIn K (.ref C) name=some (some (.ref f))) (ht:PySem.W.isFn K (.ref f)=true) (hv:mA name=none) (h:Q (.ref f,[.ref x]) s) :
    wpAny (model prog w) A (getMethod (.ref x) name pl) Q E s:=by
  obtain ⟨od,J,hl⟩:=I.look
  exact PySem.W.method_fn X J (PySem.W.plainGet_of hg).1 (PySem.W.plainGet_of hg).2 hf (beq_iff_eq.mp ht) (by show (PySem.W.lookIn name od).map (·.isSome)=some false; rw [hl,hv]; rfl) h
theorem xov {ns:List Str} {Q:Unit→Shared→Prop} (X:K.In s.heap) (I:ObjM s.heap x dx C mA)
    (hs:PySem.W.findIn K (.ref C) "__setattr__"=some (some (.builtin "object.__setattr__"))) (hp:PySem.W.plainOver K C=true) (ht:PySem.W.takerIn K C name=some none) (hh:PySem.W.hasDictIn K C=true)
    (hw:PySem.Within mA ns) (hsz:ns.length≤sizeLine)
    (h:∀ h',ObjM h' x dx C (fun y=>if y=name then some v else mA y)→Heap.SameBut dx s.heap h'→Q () { s with heap:=h',toks:=s.toks + 2 }) :
    wpAny (model prog w) A (setAttr (.ref x) name v) Q E s:=by
  obtain ⟨od,J,hl⟩:=I.look
  refine PySem.W.set_plain X J hs (PySem.W.osa_open (s:={ s with toks:=s.toks + 1 }) (r:=none) X J hp ht fun b=>?_)
  obtain ⟨cd,hc,hd'⟩:=PySem.W.any_some hh
  have hx:s.heap.get? x=some ⟨.ref C,some dx,.plain,#[]⟩:=I.obj
  refine wpAny_bind (wpAny_pure (wpAny_bind (wpAny_bind (wpAny_loadPart hx (wpAny_bind (PySem.W.Looks.here (s:={ s with toks:=s.toks + 1 }) (PySem.W.looks_clsIn X hc) ?_))))))
  rw [hd']
  refine wpAny_pure (a:=some dx) (wpAny_bind (wpAny_pure (wpAny_bind ?_)))
  refine wpAny_nsSet1 (s:={ s with toks:=s.toks + 1 }) I.ns fun h' hn2 hs2=>?_
  obtain ⟨oD,esD,epD,hoD,hdD,hcD⟩:=hn2.count (PySem.Within.cons name v hw)
  refine wpAny_bind (wpAny_lookBehind hoD (by rw [hdD]; exact pastItsLine_dict (Nat.le_trans hcD (by rw [List.length_cons]; omega))) ?_)
  exact wpAny_pure (h _ ⟨(hs2.2 _ (Ne.symm I.ne)).trans I.obj,hn2,I.ne⟩ hs2)
theorem xm4 {R:Result→Shared→Prop} {vs:List Value} {kw:List (Str × Value)} (X:K.In s.heap) (hm:PySem.W.makesIn K C=true)
    (hi:PySem.W.findIn K (.ref C) "__init__"=some (some (.ref f))) (hf:PySem.W.typeIn K (.ref f)=some (.type "function"))
    (h:codeAny (model prog w) (A.under (.builtin "type.__call__" ⟨.ref C :: vs,kw⟩)) (.call (.ref f) ⟨.ref (s.heap.objs.size + 1) :: vs,kw⟩) (PySem.W.InitBack (s.heap.objs.size + 1) R)
      { s with heap:=(s.heap.push PySem.W.emptyDict).push (PySem.W.instObj C s.heap.objs.size) }) :
    codeAny (model prog w) A (.call (.ref C) ⟨vs,kw⟩) R s:=by
  obtain ⟨hh,g,d,t,os⟩:=s
  exact PySem.W.make_core (PySem.W.makes_of X hm) (PySem.W.looks_findIn X hi) (fun self=>PySem.W.bind_fn X self hf) (.inl rfl) h
end
def putF (f:Str) (v:V):List (Str × V)→List (Str × V)
 | []=>[(f,v)]
 | (g,x) :: r=>if g=f then (g,v) :: r else (g,x) :: putF f v r
theorem xff (f g:Str) (v:V):∀ fs:List (Str × V),(putF f v fs).lookup g=if g=f then some v else fs.lookup g
 | []=>by
  show List.lookup g [(f,v)]=_
  by_cases h:g=f
  ·have hb:(g == f)=true:=beq_iff_eq.mpr h
   simp only [List.lookup,hb,if_pos h]
  ·have hb:(g == f)=false:=beq_eq_false_iff_ne.mpr h
   simp only [List.lookup,hb,if_neg h]
 | (k,x) :: r=>by
  have ih:=xff f g v r
  rw [show putF f v ((k,x) :: r)=(if k=f then (k,v) :: r else (k,x) :: putF f v r) from rfl]
  by_cases hk:k=f
  ·rw [if_pos hk]
   by_cases h:g=k
   ·have hb:(g == k)=true:=beq_iff_eq.mpr h
    simp only [List.lookup,hb,if_pos (h.trans hk)]
   ·have hb:(g == k)=false:=beq_eq_false_iff_ne.mpr h
    simp only [List.lookup,hb,if_neg (fun e:g=f=>h (e.trans hk.symm))]
  ·rw [if_neg hk]
   by_cases h:g=k
   ·have hb:(g == k)=true:=beq_iff_eq.mpr h
    simp only [List.lookup,hb,if_neg (fun e:g=f=>hk (h.symm.trans e))]
   ·have hb:(g == k)=false:=beq_eq_false_iff_ne.mpr h
    simp only [List.lookup,hb]
    exact ih
theorem xem (f:Str) (v:V):∀ fs:List (Str × V),f ∈ (putF f v fs).map (·.1)∧∀ g,g ∈ fs.map (·.1)→g ∈ (putF f v fs).map (·.1)
 | []=>⟨by simp [putF],fun g h=>by simp at h⟩
 | (k,x) :: r=>by
  obtain ⟨i1,i2⟩:=xem f v r
  rw [show putF f v ((k,x) :: r)=(if k=f then (k,v) :: r else (k,x) :: putF f v r) from rfl]
  by_cases hk:k=f
  ·rw [if_pos hk]
   subst hk
   exact ⟨by simp,fun g h=>by simpa using h⟩
  ·rw [if_neg hk]
   refine ⟨?_,fun g h=>?_⟩
   ·rw [List.map_cons]
    exact List.mem_cons_of_mem _ i1
   ·rw [List.map_cons] at h ⊢
    rcases List.mem_cons.mp h with e | e
    ·exact List.mem_cons.mpr (.inl e)
    ·exact List.mem_cons_of_mem _ (i2 g e)
theorem xfg (f:Str) (v:V):∀ fs:List (Str × V),(putF f v fs).length≤fs.length + 1
 | []=>by simp [putF]
 | (k,x) :: r=>by
  have ih:=xfg f v r
  rw [show putF f v ((k,x) :: r)=(if k=f then (k,v) :: r else (k,x) :: putF f v r) from rfl]
  by_cases hk:k=f
  ·rw [if_pos hk,List.length_cons,List.length_cons]; omega
  ·rw [if_neg hk,List.length_cons,List.length_cons]; omega
theorem RelO.some_of {v:V} {o:Option Value} (r:RelO (some v) o):∃ u,o=some u∧RelV v u:=by
 cases o with
 | none=>exact (show False from r).elim
 | some u=>exact ⟨u,rfl,r⟩
theorem RelO.none_of {o:Option Value} (r:RelO none o):o=none:=by
 cases o with
 | none=>rfl
 | some u=>exact (show False from r).elim
theorem xlc {v:V} {u:Value} (r:RelV v u):PySem.W.handedIn u=true:=by
 cases v with
 | non=>cases (show u=Value.none from r); rfl
 | bl b=>cases (show u=Value.bool b from r); rfl
 | int i=>obtain ⟨t,e⟩:=(show ∃ t,u=Value.int i t from r); cases e; rfl
 | str x=>obtain ⟨t,e⟩:=(show ∃ t,u=Value.str x t from r); cases e; rfl
 | byt b=>obtain ⟨t,e⟩:=(show ∃ t,u=Value.bytes b t from r); cases e; rfl
 | flt b=>obtain ⟨t,e⟩:=(show ∃ t,u=Value.float b t from r); cases e; rfl
 | ref a=>cases (show u=Value.ref a from r); rfl
 | ty n=>cases (show u=Value.type n from r); rfl
section
variable {P:Program} {w:World} {H H':Hp} {h h':Heap} {a C dx:Addr} {fs fs':List (Str × V)}
theorem xfa (hok:HOk P w H h) (e:H a=some (.ins C dx fs)):∃ mA,ObjM h a dx C mA∧(∀ f,RelO (fs.lookup f) (mA f))∧PySem.Within mA (fs.map (·.1))∧fs.length≤1000∧H dx=some (.own a):=by
 obtain ⟨d,z,ne,ob,mA,n,r,q⟩:=(show xap P w H h a (.ins C dx fs) from hok a _ e)
 exact ⟨mA,⟨ob,n,ne⟩,r,q,z,d⟩
end
structure Cls (K:PySem.W.Frag) (C:Addr):Prop where
 pg:PySem.W.plainGet K C Str.empty=true
 hd:PySem.W.hasDictIn K C=true
 po:PySem.W.plainOver K C=true
 sa:PySem.W.findIn K (.ref C) "__setattr__"=some (some (.builtin "object.__setattr__"))
theorem Cls.get {K:PySem.W.Frag} {C:Addr} (c:Cls K C) (f:Str):PySem.W.plainGet K C f=true:=c.pg
def xdf (K:PySem.W.Frag) (C:Addr) (f:Str):Prop:=PySem.W.findIn K (.ref C) f=some none
theorem xdf.taker {K:PySem.W.Frag} {C:Addr} {f:Str} (n:xdf K C f):PySem.W.takerIn K C f=some none:=by
 unfold PySem.W.takerIn
 rw [show PySem.W.findIn K (.ref C) f=some none from n]
 rfl
structure Meth (K:PySem.W.Frag) (C:Addr) (m:Str) (f:Addr):Prop where
 at_:PySem.W.findIn K (.ref C) m=some (some (.ref f))
 fn:PySem.W.isFn K (.ref f)=true
 kp:PySem.W.keepIn K (.ref f)=true
section
variable {X:Cx} {pins:List (Addr × Obj)} {σ:St} {H:Hp} {s:Shared} {a C dx:Addr} {fs:List (Str × V)} {f:Str} {v:V} {A:Around} {E:Value→Shared→Prop}
theorem xjn {b:Bool} {Q:Value→Shared→Prop} (I:Inv X pins σ H s) (e:H a=some (.ins C dx fs)) (c:Cls X.K C) (n:xdf X.K C f) (l:fs.lookup f=some v)
    (h:∀ u s',Inv X pins σ H s'→RelV v u→Q u s'):wpAny (model X.prog X.w) A (getAttr (.ref a) f b) Q E s:=by
  obtain ⟨mA,O,r,_,_,_⟩:=xfa I.hok e
  obtain ⟨u,hu,ru⟩:=RelO.some_of (v:=v) (o:=mA f) (by rw [← l]; exact r f)
  exact xoe I.kIn O (c.get f) c.hd n hu (xlc ru) (h u _ (I.tok _) ru)
theorem xf3 {m:Str} {g:Addr} {pl:Sem Bool} {Q:Value × List Value→Shared→Prop} (I:Inv X pins σ H s) (e:H a=some (.ins C dx fs)) (c:Cls X.K C) (k:Meth X.K C m g) (l:fs.lookup m=none)
    (h:Q (.ref g,[.ref a]) s):wpAny (model X.prog X.w) A (getMethod (.ref a) m pl) Q E s:=by
  obtain ⟨mA,O,r,_,_,_⟩:=xfa I.hok e
  have hn:mA m=none:=RelO.none_of (by rw [← l]; exact r m)
  exact xls I.kIn O (c.get m) k.at_ k.fn hn h
theorem xjd {y:V} {u:Value} {Q:Unit→Shared→Prop} (I:Inv X pins σ H s) (e:H a=some (.ins C dx fs)) (c:Cls X.K C) (n:xdf X.K C f) (hl:fs.length < 1000) (ry:RelV y u)
    (h:∀ s',Inv X pins σ (upd H a (.ins C dx (putF f y fs))) s'→Q () s'):wpAny (model X.prog X.w) A (setAttr (.ref a) f u) Q E s:=by
  obtain ⟨mA,O,r,wi,_,ho⟩:=xfa I.hok e
  have hz:(fs.map (·.1)).length≤sizeLine:=by rw [List.length_map,sizeLine_eq]; omega
  refine xov I.kIn O c.sa c.po n.taker c.hd wi hz fun h' O' sb=>h _ ?_
  have hd:∃ o,h'.get? dx=some o:=let ⟨o,_,_,e',_⟩:=O'.ns; ⟨o,e'⟩
  refine I.write (x:=a) (e:=dx) (by rw [e]; exact True.intro) (.inr ho) (fun b q hb z=>(sb.2 b hb).trans z) hd ?_
  refine ⟨by rw [xj O.ne]; exact ho,?_,O.ne,O'.obj,_,O'.ns,fun g=>?_,fun g hg=>?_⟩
  · have:=xfg f y fs; omega
  · show RelO ((putF f y fs).lookup g) (if g=f then some u else mA g)
    rw [xff]
    by_cases q:g=f
    · rw [if_pos q,if_pos q]; exact ry
    · rw [if_neg q,if_neg q]; exact r g
  · by_cases q:g=f
    · rw [q]; exact (xem f y fs).1
    · refine (xem f y fs).2 g (wi g fun z=>hg ?_)
      show (if g=f then some u else mA g)=none
      rw [if_neg q]; exact z
theorem Inv.made (I:Inv X pins σ H s):Inv X pins σ (upd (upd H s.heap.objs.size (.own (s.heap.objs.size + 1))) (s.heap.objs.size + 1) (.ins C s.heap.objs.size []))
    { s with heap:=(s.heap.push PySem.W.emptyDict).push (PySem.W.instObj C s.heap.objs.size) }:=by
  have e1:(s.heap.push PySem.W.emptyDict).get? s.heap.objs.size=some PySem.W.emptyDict:=Heap.get?_push_size s.heap rfl
  have e2:((s.heap.push PySem.W.emptyDict).push (PySem.W.instObj C s.heap.objs.size)).get? (s.heap.objs.size + 1)=some (PySem.W.instObj C s.heap.objs.size):=by
    have:=Heap.get?_push_size (s.heap.push PySem.W.emptyDict) (o:=PySem.W.instObj C s.heap.objs.size) rfl
    rwa [Heap.size_push] at this
  have e3:(s.heap.push PySem.W.emptyDict).Ns s.heap.objs.size (fun _=>none):=⟨PySem.W.emptyDict,#[],_,e1,rfl,(fun e he=>absurd he (by simp)),fun _=>rfl⟩
  have I1:=I.laid (a:=s.heap.objs.size) (o:=.own (s.heap.objs.size + 1)) (h':=s.heap.push PySem.W.emptyDict) (t':=s.toks) (fun b u q=>Heap.get?_push_of_some _ q) (Nat.le_refl _) ⟨_,e1⟩
  refine I1.laid (a:=s.heap.objs.size + 1) (o:=.ins C s.heap.objs.size []) (t':=s.toks) (fun b u q=>Heap.get?_push_of_some _ q) (Nat.le_of_eq (Heap.size_push _ _)) ?_
  have ne:s.heap.objs.size≠s.heap.objs.size + 1:=Nat.ne_of_lt (Nat.lt_succ_self _)
  refine ⟨by rw [xj ne,xf],Nat.zero_le _,ne,e2,fun _=>none,(Heap.Ns1.of_empty e3).at fun o q=>Heap.get?_push_of_some _ q,fun _=>True.intro,fun y hy=>absurd rfl hy⟩
theorem xn1 {prog:Program} {w:World} {env:Env} {e:Expr} {f:Str} {pos:Pos} {s:Shared} {Q:Value→Shared→Prop} (hb:attributeBase e f env (eval e env)=eval e env)
    (h:wpAny (model prog w) A (eval e env) (fun o s₁=>wpAny (model prog w) A (getAttr o f true) Q E s₁) E s):wpAny (model prog w) A (eval (.Attribute e f pos) env) Q E s :=
  Attribute_any_ h (by rw [arm_eval_Attribute,hb])
end
def tFld (K:PySem.W.Frag) (ta:TE) (f:Str):TE:=fun σ H Q=>ta σ H fun x H1=>∃ a C dx fs v,x=.ref a∧H1 a=some (.ins C dx fs)∧Cls K C∧xdf K C f∧fs.lookup f=some v∧Q v H1
def sFld (K:PySem.W.Frag) (ta tv:TE) (f:Str):TS:=fun D σ H=>tv σ H fun y H1=>ta σ H1 fun x H2=>∃ a C dx fs,x=.ref a∧H2 a=some (.ins C dx fs)∧Cls K C∧xdf K C f∧fs.length < 1000 ∧
 D.nx σ (upd H2 a (.ins C dx (putF f y fs)))
section
variable {X:Cx} {o e value:Expr} {f:Str} {pos pos' tpos:Pos} {ta tv:TE}
theorem xa8 (he:PE X e ta) (hb:attributeBase e f X.env (eval e X.env)=eval e X.env):PE X (.Attribute e f pos) (tFld X.K ta f):=by
 intro pins s σ H Q I h
 refine xn1 hb (thn (he pins s σ H _ I h) fun u s1 ⟨x,H1,I1,rx,a,C,dx,fs,v,ex,ea,c,n,l,q⟩=>?_)
 subst ex
 obtain rfl:u=Value.ref a:=rx
 exact xjn I1 ea c n l fun u' s2 I2 ru=>⟨v,H1,I2,ru,q⟩
theorem xei (ha:PE X o ta) (hv:PE X value tv) (hs:swapsWith value (some (.Attribute o f pos')) pos.line X.env=pure false):PS X (.Assign [.Attribute o f pos'] value pos) (sFld X.K ta tv f):=by
 intro pins s σ H D I h
 refine plainObj_wpAny_Assign_Attribute (thn (hv pins s σ H _ I h) fun u s1 ⟨y,H1,I1,ry,q⟩=>thn (ha pins s1 σ H1 _ I1 q) fun ov s2 ⟨x,H2,I2,rx,a,C,dx,fs,ex,ea,c,n,l,q2⟩=>?_) hs
 subst ex
 obtain rfl:ov=Value.ref a:=rx
 exact xjd I2 ea c n l ry fun s3 I3=>⟨σ,_,I3,q2⟩
end
section
variable {X:Cx} {pins:List (Addr × Obj)} {σ:St} {H:Hp} {s:Shared} {A:Around} {E:Value→Shared→Prop} {Q:Value→Shared→Prop} {c:Value} {b:Bool}
inductive TyOf (K:PySem.W.Frag) (H:Hp):V→Value→Prop where
  | non:TyOf K H .non (.type "NoneType")
  | bl (x:Bool):TyOf K H (.bl x) (.type "bool")
  | int (i:Int):TyOf K H (.int i) (.type "int")
  | str (x:Str):TyOf K H (.str x) (.type "str")
  | flt (x:UInt64):TyOf K H (.flt x) (.type "float")
  | lst {a:Addr} {xs:List V} (e:H a=some (.lst xs)):TyOf K H (.ref a) (.type "list")
  | frz {a:Addr} {o:Obj} {xs:List V} (e:H a=some (.frz o (.lst xs))):TyOf K H (.ref a) (.type "list")
  | tup {a:Addr} {xs:List V} (e:H a=some (.tup xs)):TyOf K H (.ref a) (.type "tuple")
  | dK {a:Addr} {kvs:List (Key × V)} (e:H a=some (.dK kvs)):TyOf K H (.ref a) (.type "dict")
  | dT {a:Addr} {kvs:List (List Key × V)} (e:H a=some (.dT kvs)):TyOf K H (.ref a) (.type "dict")
  | ins {a C dx:Addr} {fs:List (Str × V)} (e:H a=some (.ins C dx fs)) (cl:Cls K C) (ha:PySem.W.findIn K (.ref C) "__class__"=some (some (.builtin "object.__class__")))
      (hn:PySem.W.specialIn K (.builtin "object.__class__") "__get__"=some (some (.builtin "getset_descriptor.__get__"))) (htk:PySem.W.takesIn K (.builtin "object.__class__")=some true)
      (hm:PySem.W.mroIn K C (.type "object")=some true):TyOf K H (.ref a) (.ref C)
theorem xkc {x:V} {u t:Value} (I:Inv X pins σ H s) (rx:RelV x u) (ty:TyOf X.K H x t) (e:PySem.W.kitOne X.K t c=some b) (h:∀ tk,Q (.bool b) { s with toks:=tk }) :
    wpAny (model X.prog X.w) A (call (.builtin "isinstance") [u,c]) Q E s:=by
  cases ty with
  | non=>cases (show u=Value.none from rx); exact PySem.W.kia_one PySem.W.kitx_none I.kIn True.intro e (fun z=>nomatch z) h
  | bl y=>cases (show u=Value.bool y from rx); exact PySem.W.kia_one PySem.W.kitx_bool I.kIn True.intro e (fun z=>nomatch z) h
  | int i=>obtain ⟨t,q⟩:=(show ∃ t,u=Value.int i t from rx); cases q; exact PySem.W.kia_one PySem.W.kitx_int I.kIn True.intro e (fun z=>nomatch z) h
  | str y=>obtain ⟨t,q⟩:=(show ∃ t,u=Value.str y t from rx); cases q; exact PySem.W.kia_one PySem.W.kitx_str I.kIn True.intro e (fun z=>nomatch z) h
  | flt y=>obtain ⟨t,q⟩:=(show ∃ t,u=Value.float y t from rx); cases q; exact PySem.W.kia_one PySem.W.kitx_float I.kIn True.intro e (fun z=>nomatch z) h
  | @lst a xs ea =>
    cases (show u=Value.ref a from rx)
    obtain ⟨_,_,n,_,h1⟩:=(show xap X.prog X.w H s.heap a (.lst xs) from I.hok a _ ea)
    exact PySem.W.kia_one PySem.W.kitx_list I.kIn ⟨_,h1,rfl⟩ e (fun z=>nomatch z) h
  | @frz a ob xs ea =>
    cases (show u=Value.ref a from rx)
    obtain ⟨_,_,_,n,_,h1⟩:=(show xap X.prog X.w H s.heap a (.frz ob (.lst xs)) from I.hok a _ ea)
    exact PySem.W.kia_one PySem.W.kitx_list I.kIn ⟨_,h1,rfl⟩ e (fun z=>nomatch z) h
  | @tup a xs ea =>
    cases (show u=Value.ref a from rx)
    obtain ⟨_,_,_,p⟩:=(show xap X.prog X.w H s.heap a (.tup xs) from I.hok a _ ea)
    obtain ⟨o,h1,h2,_⟩:=p
    exact PySem.W.kia_one PySem.W.kitx_tuple I.kIn ⟨o,h1,h2⟩ e (fun z=>nomatch z) h
  | @dK a kvs ea =>
    cases (show u=Value.ref a from rx)
    obtain ⟨_,_,vs,_,p⟩:=(show xap X.prog X.w H s.heap a (.dK kvs) from I.hok a _ ea)
    obtain ⟨o,es,ep,h1,h2,_⟩:=p
    exact PySem.W.kia_one PySem.W.kitx_dict I.kIn ⟨o,h1,h2.1⟩ e (fun z=>nomatch z) h
  | @dT a kvs ea =>
    cases (show u=Value.ref a from rx)
    obtain ⟨_,_,xs,_,o,es,ep,h1,h2,_⟩:=(show xap X.prog X.w H s.heap a (.dT kvs) from I.hok a _ ea)
    exact PySem.W.kia_one PySem.W.kitx_dict I.kIn ⟨o,h1,h2.1⟩ e (fun z=>nomatch z) h
  | @ins a C dx fs ea cl ha hn htk hm =>
    cases (show u=Value.ref a from rx)
    obtain ⟨mA,O,_⟩:=xfa I.hok ea
    obtain ⟨od,J,_⟩:=O.look
    exact PySem.W.kia_one (PySem.W.kitx_own (cl.get _) cl.hd ha hn htk hm) I.kIn J e (fun z=>nomatch z) h
end
end L2
namespace L2
open PySem PySem.Spec PyProof.Rows
variable {q0:Bool}
structure Room (q0:Bool) (k:Nat) (A:Around):Prop where
 hd:q0=true→A.handled=none
 dp:A.depth + 3 * k + 5 < recursionLimit
 un:A.units + 16 * k + 200 < cLine
theorem Room.mono {j k:Nat} {A:Around} (r:Room q0 k A) (h:j≤k):Room q0 j A:=⟨r.hd,by have:=r.dp; omega,by have:=r.un; omega⟩
theorem Room.deeper {k:Nat} {A:Around} (r:Room q0 (k + 1) A) (env:Env):Room q0 k (A.deeper env) :=
 ⟨r.hd,by have:=r.dp; show A.depth + 1 + 3 * k + 5 < _; omega,by have:=r.un; show A.units + 3 + 16 * k + 200 < _; omega⟩
theorem xjs {A:Around} {C:Addr} {us:List Value} {kw:List (Str × Value)}:(A.under (.builtin "type.__call__" ⟨.ref C :: us,kw⟩)).depth=A.depth + 1:=by
 first | rfl | simp [Around.under,Code.weight,Code.isCreation,Code.isGuard,Code.isCaller,Code.frames,Code.isFrame,guardIds]
theorem xje {A:Around} {C:Addr} {us:List Value} {kw:List (Str × Value)}:(A.under (.builtin "type.__call__" ⟨.ref C :: us,kw⟩)).units=A.units + 1:=by
 first | rfl | simp [Around.under,Code.cUnits,Code.frames,Code.isFrame]
theorem Room.make {k:Nat} {A:Around} (r:Room q0 (k + 1) A) (C:Addr) (us:List Value) (kw:List (Str × Value)):Room q0 k (A.under (.builtin "type.__call__" ⟨.ref C :: us,kw⟩)) :=
 ⟨r.hd,by have:=r.dp; rw [xjs]; omega,by have:=r.un; rw [xje]; omega⟩
theorem Room.depth {k:Nat} {A:Around} (r:Room q0 k A):A.depth < recursionLimit:=by have:=r.dp; omega
theorem Room.units {k:Nat} {A:Around} (r:Room q0 k A):A.units + 64 < cLine:=by have:=r.un; omega
def tNil:TA:=fun _ H Q=>Q [] H
def xnk (ta:TE) (tr:TA):TA:=fun σ H Q=>ta σ H fun x H1=>tr σ H1 fun xs H2=>Q (x :: xs) H2
section
variable {X:Cx} {e:Expr} {es:List Expr} {te:TE} {t:TA} {pos:Pos}
theorem xb:PA X [] tNil:=fun _ _ _ _ H Q I h=>Calls.spliced_nil ⟨[],H,I,.nil,h⟩
theorem xa (ha:PE X e te) (hr:PA X es t) (hs:starEach (e :: es) X.env=(false,eval e X.env) :: starEach es X.env:=by rfl):PA X (e :: es) (xnk te t):=by
 intro pos pins s σ H Q I h
 rw [hs]
 show wpAny _ _ (spliced ((false,eval e X.env) :: backTo pos (starEach es X.env))) _ _ s
 refine Calls.spliced_cons (thn (ha pins s σ H _ I h) fun u s1 ⟨x,H1,I1,r1,q1⟩=>?_)
 exact thn (hr pos pins s1 σ H1 _ I1 q1) fun us s2 ⟨xs,H2,I2,r2,q2⟩=>⟨x :: xs,H2,I2,.cons r1 r2,q2⟩
def tTup (t:TA):TE:=fun σ H Q=>t σ H fun xs H1=>xs.length≤sizeLine∧∀ p,H1 p=none→Q (.ref p) (upd H1 p (.tup xs))
def tLst (t:TA):TE:=fun σ H Q=>t σ H fun xs H1=>xs.length≤sizeLine∧∀ p,H1 p=none→Q (.ref p) (upd H1 p (.lst xs))
theorem xau {x1} (h:PA X es t):PE X (.Tuple es x1 pos) (tTup t):=by
 intro pins s σ H Q I hq
 refine wpAny_Tuple_spliced (thn (h pos pins s σ H _ I hq) fun us s1 ⟨xs,H1,I1,r,z,q⟩=>⟨by rw [← r.length]; exact z,?_⟩)
 have hf:H1 s1.heap.objs.size=none:=I1.hok.fresh (Nat.le_refl _)
 refine ⟨.ref s1.heap.objs.size,upd H1 s1.heap.objs.size (.tup xs),I1.laid (t':=s1.toks) (fun b u e=>Heap.get?_push_of_some _ e) (Nat.le_refl _) ?_,rfl,q _ hf⟩
 exact ⟨z,us,r,⟨_,Heap.get?_push_size _ rfl,rfl,_,rfl⟩⟩
theorem xaw (h:PA X es t):PE X (.List es pos) (tLst t):=by
 intro pins s σ H Q I hq
 refine wpAny_List_spliced (thn (h pos pins s σ H _ I hq) fun us s1 ⟨xs,H1,I1,r,z,q⟩=>⟨by rw [← r.length]; exact z,?_⟩)
 have hf:H1 s1.heap.objs.size=none:=I1.hok.fresh (Nat.le_refl _)
 refine ⟨.ref s1.heap.objs.size,upd H1 s1.heap.objs.size (.lst xs),I1.laid (t':=s1.toks) (fun b u e=>Heap.get?_push_of_some _ e) (Nat.le_refl _) ?_,rfl,q _ hf⟩
 exact ⟨z,us,0,r,Heap.get?_push_size _ rfl⟩
end
abbrev Sp:=List V→Hp→VK→XK→Prop
abbrev CXT:=List Env→Hp→Shared→XK→Value→Shared→Prop
structure Env0 (P:Program) (w:World) (K:PySem.W.Frag) (mg:Str→Option Value) (base:Heap) (A:Around) (outer:List Env) (s:Shared) (H:Hp):Prop where
 frames:A.frames=some outer
 mod:Mod K mg base
 bs:∀ b o,base.get? b=some o→s.heap.get? b=some o∧H b=none
 bsz:base.objs.size≤s.heap.objs.size
 funs:s.heap.FunFrames base outer
 frf:∀ b ∈ frs outer,H b=none
 hok:HOk P w H s.heap
 bare:AllBare s.gens
def CE (outer:List Env) (P:Program) (w:World) (H:Hp) (s:Shared) (Q:VK) (u:Value) (s':Shared):Prop :=
 ∃ v H',s'.os=s.os∧AllBare s'.gens∧Un (frs outer) [] H H' s.heap s'.heap∧HOk P w H' s'.heap∧RelV v u∧Q v H'
def CR (CX:CXT) (outer:List Env) (P:Program) (w:World) (H:Hp) (s:Shared) (Q:VK) (E:XK) (r:Result) (s':Shared):Prop :=
 match r with
 | .ok (.ret u)=>CE outer P w H s Q u s'
 | .ok _=>False
 | .error e=>CX outer H s E e s'
structure FnOk (q0:Bool) (P:Program) (w:World) (K:PySem.W.Frag) (mg:Str→Option Value) (base:Heap) (CX:CXT) (k:Nat) (f:Addr) (fd:FuncData) (ps:List Str) (sp:Sp):Prop where
 len:∀ vs H Q E,sp vs H Q E→vs.length=ps.length
 run:∀ (A:Around) (outer:List Env) (s:Shared) (H:Hp) (args:Args) (us:List Value) (vs:List V) (Q:VK) (E:XK),Room q0 k A→Env0 P w K mg base A outer s H→BindsTo s fd args (ps.zip us)→Vals vs us→sp vs H Q E →
  codeAny (model P w) A (.call (.ref f) args) (CR CX outer P w H s Q E) s
theorem Env0.make {P:Program} {w:World} {K:PySem.W.Frag} {mg:Str→Option Value} {base:Heap} {A:Around} {outer:List Env} {s:Shared} {H:Hp} (e:Env0 P w K mg base A outer s H) (C:Addr) (us:List Value) (kw:List (Str × Value)) :
    Env0 P w K mg base (A.under (.builtin "type.__call__" ⟨.ref C :: us,kw⟩)) outer s H:=⟨by first | exact e.frames | (simpa [Around.under,Code.envs,Code.isFrame,pushEnvs] using e.frames),e.mod,e.bs,e.bsz,e.funs,e.frf,e.hok,e.bare⟩
section
variable {X:Cx} {pins:List (Addr × Obj)} {σ:St} {H:Hp} {s s':Shared}
theorem Inv.env0 (I:Inv X pins σ H s):Env0 X.prog X.w X.K X.mg X.base X.A X.stack s H :=
 ⟨I.ok.frames,I.ok.mod,I.bs,Nat.le_trans I.ok.bsz I.sz,I.stack,I.stkFree,I.hok,I.bare⟩
theorem Inv.after {Q:VK} {u:Value} (I:Inv X pins σ H s) (h:CE X.stack X.prog X.w H s Q u s'):EP X pins σ Q u s':=by
 obtain ⟨v,H',os,bare,un,hok,r,q⟩:=h
 obtain ⟨hh,g,d,t,os'⟩:=s'
 obtain rfl:os'=s.os:=os
 exact ⟨v,H',I.call (h':=hh) (g':=g) (d':=d) (t':=t) (ch:=[]) un hok bare (fun b z=>absurd z (by simp)),r,q⟩
end
def xrn (sp:Sp) (dvs:List V) (E:St→XK) (t:TA):TE:=fun σ H Q=>t σ H fun vs H1=>sp (vs ++ dvs) H1 Q (E σ)
def xnf (C:Addr) (m:Str) (sp:Sp) (dvs:List V) (E:St→XK) (ta:TE) (t:TA):TE:=fun σ H Q=>ta σ H fun x H1=>∃ a dx fs,x=.ref a∧H1 a=some (.ins C dx fs)∧fs.lookup m=none ∧
 t σ H1 fun vs H2=>sp (x :: (vs ++ dvs)) H2 Q (E σ)
def xqx (C:Addr) (sp:Sp) (dvs:List V) (E:St→XK) (t:TA):TE:=fun σ H Q=>t σ H fun vs H1=>∀ x dx,H1 x=none→H1 dx=none→dx≠x →
 sp (.ref x :: (vs ++ dvs)) (upd (upd H1 dx (.own x)) x (.ins C dx [])) (fun v H2=>v=.non∧Q (.ref x) H2) (E σ)
def xae (K:PySem.W.Frag) (fd:FuncData) (ps:List Str) (ds:List Value):Prop :=
 ∀ (s:Shared) (us:List Value),K.In s.heap→(us ++ ds).length=ps.length→BindsTo s fd ⟨us,[]⟩ (ps.zip (us ++ ds))
theorem xae.all {K:PySem.W.Frag} {fd:FuncData} {ps:List Str} (h:∀ us:List Value,us.length=ps.length→bindArgs fd ⟨us,[]⟩=pure (ps.zip us)):xae K fd ps []:=fun s us _ hl=>by
 rw [List.append_nil] at hl ⊢
 exact .of_eq (h us hl)
def xdg (CX:CXT) (X:Cx) (E:St→XK):Prop:=∀ (pins:List (Addr × Obj)) (σ:St) (H:Hp) (s:Shared) (e:Value) (s':Shared),Inv X pins σ H s→CX X.stack H s (E σ) e s'→X.xe e s'
section
variable {X:Cx} {CX:CXT} {k:Nat} {f C:Addr} {fd:FuncData} {ps:List Str} {sp:Sp} {dvs:List V} {ds:List Value} {E:St→XK} {x m:Str} {p pos apos:Pos} {e o:Expr} {es:List Expr} {ta:TE} {t:TA}
theorem xig {pins:List (Addr × Obj)} {σ:St} {H:Hp} {s:Shared} {Q:VK} {us:List Value} {vs:List V} (F:FnOk q0 X.prog X.w X.K X.mg X.base CX k f fd ps sp) (hr:Room q0 k X.A) (hb:xae X.K fd ps ds) (hd:Vals dvs ds) (hx:xdg CX X E)
    (I:Inv X pins σ H s) (r:Vals vs us) (h:sp (vs ++ dvs) H Q (E σ)):wpAny (model X.prog X.w) X.A (call (.ref f) us) (EP X pins σ Q) X.xe s:=by
  have r2:Vals (vs ++ dvs) (us ++ ds):=r.append hd
  have hl:(us ++ ds).length=ps.length:=by rw [← r2.length]; exact F.len _ _ _ _ h
  refine wpAny_call (codeAny_mono (F.run X.A X.stack s H ⟨us,[]⟩ (us ++ ds) (vs ++ dvs) Q (E σ) hr I.env0 (hb s us I.kIn hl) r2 h) fun r s' hq=>?_)
  cases r with
  | error e=>exact hx pins σ H s e s' I hq
  | ok fl =>
    cases fl with
    | ret u=>exact I.after hq
    | next=>exact False.elim hq
    | brk=>exact False.elim hq
    | cont=>exact False.elim hq
theorem xq (F:FnOk q0 X.prog X.w X.K X.mg X.base CX k f fd ps sp) (hr:Room q0 k X.A) (hg:Gl X x) (hm:X.mg x=some (.ref f)) (hk:PySem.W.keepIn X.K (.ref f)=true) (hb:xae X.K fd ps ds) (hd:Vals dvs ds) (hx:xdg CX X E)
    (ha:PA X (e :: es) t) (hdb:(x == ("__debug__":Str))=false:=by decide) (he:starEach (e :: es) X.env=(false,eval e X.env) :: starEach es X.env:=by rfl) (hpl:(backTo pos (starEach es X.env)).any (·.1)=false:=by rfl) :
    PE X (.Call (.Name x p) (e :: es) [] pos) (xrn sp dvs E t):=by
  intro pins s σ H Q I h
  refine wpAny_Call_Name_kw (xgc I hg hm ?_ hdb)
  refine PySem.W.callWith_K (h₀:=X.base) I.ok.mod.kin hk (thn (ha pos pins s σ H _ I h) fun us s1 ⟨vs,H1,I1,r,q⟩=>⟨I1.kIn,?_⟩) he hpl
  exact xig F hr hb hd hx I1 r q
theorem xd0 {pl:Sem Bool} (he:PE X o ta) (c:Cls X.K C) (hm:Meth X.K C m f) (F:FnOk q0 X.prog X.w X.K X.mg X.base CX k f fd ps sp) (hr:Room q0 k X.A) (hb:xae X.K fd ps ds) (hd:Vals dvs ds) (hx:xdg CX X E) (ha:PA X (e :: es) t)
    (hst:starEach (e :: es) X.env=(false,eval e X.env) :: starEach es X.env:=by rfl) (hpl:(backTo pos (starEach es X.env)).any (·.1)=false:=by rfl)
    (ht:eval (.Call (.Attribute o m apos) (e :: es) [] pos) X.env=(do
      let ov ← eval o X.env
      standAt apos.atName
      let (f,first) ← holding [ov] (getMethod ov m pl)
      callWith pos f first (backTo pos (starEach (e :: es) X.env)) (backToKw pos (keywordEach [] X.env))):=by rfl) :
    PE X (.Call (.Attribute o m apos) (e :: es) [] pos) (xnf C m sp dvs E ta t):=by
  intro pins s σ H Q I h
  refine PySem.W.methodCall_KW (pl:=pl) (thn (he pins s σ H _ I h) fun u s1 ⟨x,H1,I1,rx,a,dx,fs,ex,ea,l,q⟩=>?_) ht
  subst ex
  obtain rfl:u=Value.ref a:=rx
  refine xf3 I1 ea c hm l ?_
  refine PySem.W.callWith_K (first:=[.ref a]) (h₀:=X.base) I.ok.mod.kin hm.kp (thn (ha pos pins s1 σ H1 _ I1 q) fun us s2 ⟨vs,H2,I2,r,q2⟩=>⟨I2.kIn,?_⟩) hst hpl
  exact xig (us:=.ref a :: us) (vs:=.ref a :: vs) F hr hb hd hx I2 (.cons rfl r) q2
theorem xc9 {pl:Sem Bool} (he:PE X o ta) (c:Cls X.K C) (hm:Meth X.K C m f) (F:FnOk q0 X.prog X.w X.K X.mg X.base CX k f fd ps sp) (hr:Room q0 k X.A) (hb:xae X.K fd ps ds) (hd:Vals dvs ds) (hx:xdg CX X E)
    (ht:eval (.Call (.Attribute o m apos) [] [] pos) X.env=(do
      let ov ← eval o X.env
      standAt apos.atName
      let (f,first) ← holding [ov] (getMethod ov m pl)
      callWith pos f first (backTo pos (starEach [] X.env)) (backToKw pos (keywordEach [] X.env))):=by rfl) :
    PE X (.Call (.Attribute o m apos) [] [] pos) (xnf C m sp dvs E ta tNil):=by
  intro pins s σ H Q I h
  refine PySem.W.methodCall_KW (pl:=pl) (thn (he pins s σ H _ I h) fun u s1 ⟨x,H1,I1,rx,a,dx,fs,ex,ea,l,q⟩=>?_) ht
  subst ex
  obtain rfl:u=Value.ref a:=rx
  refine xf3 I1 ea c hm l ?_
  exact PySem.W.callWith_K0 (first:=[.ref a]) I1.kIn hm.kp (xig (us:=[.ref a]) (vs:=[.ref a]) F hr hb hd hx I1 (.cons rfl .nil) q)
structure Mk (K:PySem.W.Frag) (C f:Addr):Prop where
 makes:PySem.W.makesIn K C=true
 init:PySem.W.findIn K (.ref C) "__init__"=some (some (.ref f))
 fn:PySem.W.isFn K (.ref f)=true
 kp:PySem.W.keepIn K (.ref C)=true
theorem xly {pins:List (Addr × Obj)} {σ:St} {H:Hp} {s:Shared} {Q:VK} {us:List Value} {vs:List V} (M:Mk X.K C f) (F:FnOk q0 X.prog X.w X.K X.mg X.base CX k f fd ps sp) (hr:Room q0 (k + 1) X.A) (hb:xae X.K fd ps ds) (hd:Vals dvs ds)
    (hx:xdg CX X E) (I:Inv X pins σ H s) (r:Vals vs us)
    (h:∀ x dx,H x=none→H dx=none→dx≠x→sp (.ref x :: (vs ++ dvs)) (upd (upd H dx (.own x)) x (.ins C dx [])) (fun v H2=>v=.non∧Q (.ref x) H2) (E σ)) :
    wpAny (model X.prog X.w) X.A (call (.ref C) us) (EP X pins σ Q) X.xe s:=by
  have hq:=h (s.heap.objs.size + 1) s.heap.objs.size (I.hok.fresh (Nat.le_succ _)) (I.hok.fresh (Nat.le_refl _)) (Nat.ne_of_lt (Nat.lt_succ_self _))
  have I2:=Inv.made (C:=C) I
  have r2:Vals (V.ref (s.heap.objs.size + 1) :: (vs ++ dvs)) (Value.ref (s.heap.objs.size + 1) :: (us ++ ds)):=.cons rfl (r.append hd)
  have hl:(Value.ref (s.heap.objs.size + 1) :: us ++ ds).length=ps.length:=by
    have e:=r2.length
    rw [F.len _ _ _ _ hq] at e
    exact e.symm
  refine wpAny_call (xm4 (f:=f) I.kIn M.makes M.init (beq_iff_eq.mp M.fn) (codeAny_mono (F.run _ X.stack _ _ ⟨Value.ref (s.heap.objs.size + 1) :: us,[]⟩ (Value.ref (s.heap.objs.size + 1) :: (us ++ ds)) _ _ (E σ) (hr.make C us [])
    (I2.env0.make C us []) (hb _ (Value.ref (s.heap.objs.size + 1) :: us) I2.kIn hl) r2 hq) fun r s' hq'=>?_))
  cases r with
  | error e=>exact hx pins σ _ _ e s' I2 hq'
  | ok fl =>
    cases fl with
    | ret u =>
      obtain ⟨v,H',I3,rv,ev,q3⟩:=I2.after hq'
      subst ev
      exact ⟨rv,⟨V.ref (s.heap.objs.size + 1),H',I3,rfl,q3⟩⟩
    | next=>exact False.elim hq'
    | brk=>exact False.elim hq'
    | cont=>exact False.elim hq'
theorem xgl (M:Mk X.K C f) (F:FnOk q0 X.prog X.w X.K X.mg X.base CX k f fd ps sp) (hr:Room q0 (k + 1) X.A) (hg:Gl X x) (hm:X.mg x=some (.ref C)) (hb:xae X.K fd ps ds) (hd:Vals dvs ds) (hx:xdg CX X E)
    (ha:PA X (e :: es) t) (hdb:(x == ("__debug__":Str))=false:=by decide) (he:starEach (e :: es) X.env=(false,eval e X.env) :: starEach es X.env:=by rfl) (hpl:(backTo pos (starEach es X.env)).any (·.1)=false:=by rfl) :
    PE X (.Call (.Name x p) (e :: es) [] pos) (xqx C sp dvs E t):=by
  intro pins s σ H Q I h
  refine wpAny_Call_Name_kw (xgc I hg hm ?_ hdb)
  refine PySem.W.callWith_K (h₀:=X.base) I.ok.mod.kin M.kp (thn (ha pos pins s σ H _ I h) fun us s1 ⟨vs,H1,I1,r,q⟩=>⟨I1.kIn,?_⟩) he hpl
  exact xly M F hr hb hd hx I1 r q
end
section
variable {X:Cx} {CX:CXT} {k:Nat} {f C:Addr} {fd:FuncData} {ps ks:List Str} {sp:Sp} {E:St→XK} {x m:Str} {p pos apos kpos:Pos} {e o:Expr} {es:List Expr} {kws:List Keyword} {te ta:TE} {t tk:TA} {nm:Option Str}
variable {g:List Value→List Value→List Value} {gV:List V→List V→List V}
end
structure x9 (N P:List Str) (sc:Scope):Prop where
 kind:sc.kind=.function
 co:sc.isCoroutine=false
 gen:sc.isGenerator=false
 nd:N.Nodup
 pre:N.take P.length=P
 par:∀ x ∈ P,sc.names.lookup x=some .local∨sc.names.lookup x=some .cell
 nofree:∀ y ∈ sc.names,y.2≠.free
theorem xgq {kindOf:Str→Option NameKind} {x:Str}:∀ {binds:List (Str × Value)} {m:Str→Option Value},(∀ v,(x,v) ∉ binds)→bindL kindOf binds m x=m x
 | [],_,_=>rfl
 | (n,v) :: r,m,h=>by
  unfold bindL
  rw [xgq fun w hw=>h w (List.mem_cons_of_mem _ hw)]
  split
  ·have:x≠n:=by rintro rfl; exact h v List.mem_cons_self
   simp [this]
  ·rfl
theorem xg3 {kindOf:Str→Option NameKind} {x:Str}:∀ {binds:List (Str × Value)} {m:Str→Option Value},(∀ v,(x,v) ∉ binds)→bindC kindOf binds m x=m x
 | [],_,_=>rfl
 | (n,v) :: r,m,h=>by
  unfold bindC
  rw [xg3 fun w hw=>h w (List.mem_cons_of_mem _ hw)]
  split
  ·rfl
  ·have:x≠n:=by rintro rfl; exact h v List.mem_cons_self
   simp [this]
theorem xgu {kindOf:Str→Option NameKind} {x:Str} {v:Value}:∀ {P:List Str} {vs:List Value} {i:Nat} {m:Str→Option Value},P.Nodup→P[i]?=some x→vs[i]?=some v→kindOf x=some .local →
    bindL kindOf (P.zip vs) m x=some v
  | [],_,_,_,_,h,_,_=>by simp at h
  | _ :: _,[],_,_,_,_,h,_=>by simp at h
  | p :: P,w :: vs,0,m,nd,h1,h2,hk=>by
    simp at h1 h2; subst h1; subst h2
    show bindL kindOf ((p,w) :: P.zip vs) m p=_
    unfold bindL
    rw [xgq fun v hv=>(List.nodup_cons.mp nd).1 (List.of_mem_zip hv).1,if_pos hk]
    simp
  | p :: P,w :: vs,i + 1,m,nd,h1,h2,hk=>by
    show bindL kindOf ((p,w) :: P.zip vs) m x=_
    unfold bindL
    exact xgu (i:=i) (List.nodup_cons.mp nd).2 (by simpa using h1) (by simpa using h2) hk
theorem xgt {kindOf:Str→Option NameKind} {x:Str} {v:Value}:∀ {P:List Str} {vs:List Value} {i:Nat} {m:Str→Option Value},P.Nodup→P[i]?=some x→vs[i]?=some v→kindOf x≠some .local →
    bindC kindOf (P.zip vs) m x=some v
  | [],_,_,_,_,h,_,_=>by simp at h
  | _ :: _,[],_,_,_,_,h,_=>by simp at h
  | p :: P,w :: vs,0,m,nd,h1,h2,hk=>by
    simp at h1 h2; subst h1; subst h2
    show bindC kindOf ((p,w) :: P.zip vs) m p=_
    unfold bindC
    rw [xg3 fun v hv=>(List.nodup_cons.mp nd).1 (List.of_mem_zip hv).1,if_neg hk]
    simp
  | p :: P,w :: vs,i + 1,m,nd,h1,h2,hk=>by
    show bindC kindOf ((p,w) :: P.zip vs) m x=_
    unfold bindC
    exact xgt (i:=i) (List.nodup_cons.mp nd).2 (by simpa using h1) (by simpa using h2) hk
def xcx (N:List Str) (vs:List V):St:=vs.map some ++ List.replicate (N.length - vs.length) none
def cxOf (q0:Bool) (CX:CXT) (P:Program) (w:World) (K:PySem.W.Frag) (mg:Str→Option Value) (base:Heap) (N:List Str) (qual:Str) (scope:Scope) (f:Addr) (cd:Value) (A:Around) (outer:List Env) (s:Shared) (H:Hp) (E:XK):Cx where
 prog:=P
 w:=w
 K:=K
 mg:=mg
 base:=base
 A:=A.deeper (envOfC qual scope s.heap.objs.size f cd)
 N:=N
 s₀:=s
 H₀:=H
 env:=envOfC qual scope s.heap.objs.size f cd
 outer:=outer
 stack:=envOfC qual scope s.heap.objs.size f cd :: outer
 ex:=[]
 calm:=q0
 fn:=fun _=>true
 pn:=[]
 xe:=fun e s'=>wpAny (model P w) (A.deeper (envOfC qual scope s.heap.objs.size f cd)) (leaving (envOfC qual scope s.heap.objs.size f cd) e) (fun _ s''=>CX outer H s E e s'') (fun e' s''=>CX outer H s E e' s'') s'
theorem xhh {sc:Scope} {n:Nat} {x:Str} (h:sc.names.lookup x=some .cell):∃ c,(cellsFrom n sc.names []).lookup x=some c:=by
 have q:=PySem.W.cellsFrom_some sc.names n [] (.inl h)
 exact Option.isSome_iff_exists.mp q
theorem xll {CX:CXT} {P:Program} {w:World} {K:PySem.W.Frag} {mg:Str→Option Value} {base:Heap} {N ps:List Str} {qual:Str} {scope:Scope} {f:Addr} {cd:Value} {A:Around} {outer:List Env} {s s1:Shared} {H:Hp} {E:XK} {us:List Value} {vs:List V}
    (S:x9 N ps scope) (hd:q0=true→A.handled=none) (e0:Env0 P w K mg base A outer s H) (hl:vs.length=ps.length) (r:Vals vs us)
    (x:InCallC s s.heap.objs.size (bindL (envOfC qual scope s.heap.objs.size f cd).kindOf (ps.zip us) fun _=>none) (cellsFrom (s.heap.objs.size + 1) scope.names []) (bindC (envOfC qual scope s.heap.objs.size f cd).kindOf (ps.zip us) fun _=>none) s1) :
    Inv (cxOf q0 CX P w K mg base N qual scope f cd A outer s H E) [] (xcx N vs) H s1:=by
  have hpl:ps.length≤N.length:=by have:=congrArg List.length S.pre; rw [List.length_take] at this; omega
  obtain ⟨h1,tk,rfl,hk⟩:=x.done
  have noA:∀ b:Addr,b ∉ (cxOf q0 CX P w K mg base N qual scope f cd A outer s H E).ex:=fun b z=>absurd (show b ∈ ([]:List Addr) from z) (by simp)
  refine ⟨⟨e0.mod,S.kind,rfl,rfl,Nat.le_refl _,fun y z c h1 h2=>?_,fun y hy=>?_,fun y c _ h=>?_,hd,Around.frames_deeper e0.frames,.inr ⟨rfl,rfl⟩,fun b z=>absurd z (noA b),e0.bs,e0.bsz,fun b _ _=>noA b,fun b z=>absurd z (noA b),e0.funs,e0.frf⟩,
    rfl,e0.bare,Un.kept hk,⟨_,x.toInCall.ns,fun i y v h1 h2 h3=>?_⟩,fun y c h=>⟨_,x.cell y c h⟩,e0.hok.fresh (Nat.le_refl _),fun y c h=>?_,fun p hp=>absurd (show p ∈ ([]:List (Addr × Obj)) from hp) (by simp),e0.hok.kept hk,?_⟩
  · exact name_of_addr x.apart (PySem.mem_of_lookup h1) (PySem.mem_of_lookup h2)
  · have hy:scope.names.lookup y=some .cell∨scope.names.lookup y=some .free:=hy
    rcases hy with hy | hy
    · exact xhh hy
    · exact absurd rfl (S.nofree _ (PySem.mem_of_lookup hy))
  · exact Nat.le_of_lt (x.above y c (PySem.mem_of_lookup h))
  · have hi:i < vs.length:=by
      unfold xcx at h2
      by_cases hi:i < vs.length
      · exact hi
      · rw [List.getElem?_append_right (by simpa using hi)] at h2
        rw [List.getElem?_replicate] at h2
        split at h2 <;> cases h2
    have ha:vs[i]?=some v:=by
      unfold xcx at h2
      rw [List.getElem?_append_left (by simpa using hi),List.getElem?_map] at h2
      cases e:vs[i]? with
      | none=>rw [e] at h2; cases h2
      | some a=>rw [e] at h2; cases h2; rfl
    obtain ⟨u,hu,rv⟩:=r.get ha
    have hp:ps[i]?=some y:=by
      rw [← S.pre,List.getElem?_take_of_lt (by omega)]; exact h1
    have ndP:ps.Nodup:=by rw [← S.pre]; exact S.nd.sublist (List.take_sublist _ _)
    refine ⟨u,rv,?_⟩
    rcases S.par y (List.mem_of_getElem? hp) with k | k
    · exact .inl ⟨k,xgu ndP hp hu k⟩
    · obtain ⟨c,e⟩:=xhh (n:=s.heap.objs.size + 1) k
      refine .inr ⟨.inl k,c,e,?_⟩
      have q:=x.cell y c e
      rw [xgt ndP hp hu (by show scope.names.lookup y≠_; rw [k]; decide)] at q
      exact q
  · exact e0.hok.fresh (Nat.le_of_lt (x.above y c (PySem.mem_of_lookup h)))
  · unfold xcx
    show _=N.length
    rw [List.length_append,List.length_map,List.length_replicate]
    omega
theorem xja {CX:CXT} {P:Program} {w:World} {K:PySem.W.Frag} {mg:Str→Option Value} {base:Heap} {k:Nat} {f:Addr} {name qual:Str} {params:Arguments} {body:List Stmt} {scope:Scope} {dV kV doc pm cdv ct oc:Value} {an od:Option Addr}
    {osl:Array (Option Value)} {N ps:List Str} {sp:Sp} (lk:K.lookup f=some ⟨oc,od,.func (PySem.W.fnOf name qual params body scope dV kV doc pm an cdv ct),osl⟩) (hcd:PySem.W.codeIn K cdv qual=true) (S:x9 N ps scope)
    (len:∀ vs H Q E,sp vs H Q E→vs.length=ps.length)
    (hbody:∀ (A:Around) (outer:List Env) (s:Shared) (H:Hp) (vs:List V) (Q:VK) (E:XK),Room q0 k (A.deeper (envOfC qual scope s.heap.objs.size f cdv))→sp vs H Q E →
      ∃ t,PSs (cxOf q0 CX P w K mg base N qual scope f cdv A outer s H E) body t∧t { nx:=fun _ H'=>Q .non H',rt:=Q } (xcx N vs) H) :
    FnOk q0 P w K mg base CX (k + 1) f (PySem.W.fnOf name qual params body scope dV kV doc pm an cdv ct) ps sp:=by
  refine ⟨len,fun A outer s H args us vs Q E hr e0 hb r hsp=>?_⟩
  have hl:=len _ _ _ _ hsp
  have KX:K.In s.heap:=e0.mod.kin.keeps fun b o e=>(e0.bs b o e).1
  have lim:s.heap.NoLimit:=e0.mod.nolimit.keeps fun b o e=>(e0.bs b o e).1
  have hkind:∀ y ∈ ps.zip us,scope.names.lookup y.1=some .local∨(scope.names.lookup y.1=some .cell∧((cellsFrom (s.heap.objs.size + 1) scope.names []).lookup y.1).isSome=true):=fun ⟨n,v⟩ hy=>by
    rcases S.par n (List.of_mem_zip hy).1 with q | q
    · exact .inl q
    · exact .inr ⟨q,PySem.W.cellsFrom_some _ _ _ (.inl q)⟩
  refine codeAny_call_function hr.depth (KX _ _ lk) rfl S.co S.gen rfl (PySem.W.codeRec_of KX hcd) (hb _ _ _ _ ?_)
  refine wpAny_newFunctionEnv_cells S.kind hkind fun env he s1 x=>?_
  subst he
  refine ⟨lim.keeps x.toInCall.keep,codeAny_func ?_⟩
  obtain ⟨t,ht,hq⟩:=hbody A outer s H vs Q E (hr.deeper _) hsp
  have I:Inv (cxOf q0 CX P w K mg base N qual scope f cdv A outer s H E) [] (xcx N vs) H s1:=xll S hr.hd e0 hl r x
  refine wpAny_mono (ht [] s1 (xcx N vs) H _ I hq) (fun fl s' hs=>?_) fun e s' hs=>hs
  have fin:∀ {σ':St} {H':Hp} {v:V} {u:Value},Inv (cxOf q0 CX P w K mg base N qual scope f cdv A outer s H E) [] σ' H' s'→RelV v u→Q v H'→CE outer P w H s Q u s' :=
    fun {σ' H' v u} J rv q=>⟨v,H',J.os,J.bare,J.base,J.hok,rv,q⟩
  cases fl with
  | ret u =>
    obtain ⟨v,σ',H',J,rv,q⟩:=hs
    exact fin J rv q
  | next =>
    obtain ⟨σ',H',J,q⟩:=hs
    exact fin (v:=V.non) (u:=Value.none) J rfl q
  | brk =>
    obtain ⟨_,_,_,q⟩:=hs
    exact False.elim q
  | cont =>
    obtain ⟨_,_,_,q⟩:=hs
    exact False.elim q
end L2
namespace L2
open PySem PySem.Spec PyProof.Rows
variable {q0:Bool}
section
variable {X:Cx} {x:Str} {p pos:Pos} {e:Expr} {es:List Expr} {t:TA} {id T:String} {r:List V→Hp→VK→Prop}
def tCB (r:List V→Hp→VK→Prop) (t:TA):TE:=fun σ H Q=>t σ H fun vs H1=>r vs H1 Q
theorem xab (hc:xb4 X (.builtin id) r) (hg:Gl X x) (hm:X.mg x=none) (hv:bootBuiltins x=some (.builtin id)) (ha:PA X (e :: es) t) (hn:x≠"__name__":=by decide) (hdb:(x == ("__debug__":Str))=false:=by decide)
    (he:starEach (e :: es) X.env=(false,eval e X.env) :: starEach es X.env:=by rfl) (hpl:(backTo pos (starEach es X.env)).any (·.1)=false:=by rfl):PE X (.Call (.Name x p) (e :: es) [] pos) (tCB r t):=by
  intro pins s σ H Q I h
  refine wpAny_Call_Name_kw (xdb I hg hm hv ?_ hn hdb)
  exact PyProof.Rows.callWith_builtin1 (thn (ha pos pins s σ H _ I h) fun us s1 ⟨vs,H1,I1,r1,q1⟩=>hc pins s1 σ H1 vs us Q I1 r1 q1) he hpl
theorem xad (hc:xb4 X (.type T) r) (hg:Gl X x) (hm:X.mg x=none) (hv:bootBuiltins x=some (.type T)) (ha:PA X (e :: es) t) (hn:x≠"__name__":=by decide) (hdb:(x == ("__debug__":Str))=false:=by decide)
    (he:starEach (e :: es) X.env=(false,eval e X.env) :: starEach es X.env:=by rfl) (hpl:(backTo pos (starEach es X.env)).any (·.1)=false:=by rfl):PE X (.Call (.Name x p) (e :: es) [] pos) (tCB r t):=by
  intro pins s σ H Q I h
  refine wpAny_Call_Name_kw (xdb I hg hm hv ?_ hn hdb)
  exact PyProof.Rows.callWith_type1 (thn (ha pos pins s σ H _ I h) fun us s1 ⟨vs,H1,I1,r1,q1⟩=>hc pins s1 σ H1 vs us Q I1 r1 q1) he hpl
end
end L2
namespace HT
open PySem PyProof.Rows
section
open PySem.SeqAt
open PySem.AutoSeq1 (wpAny_loadPart')
open PySem.MeetsSeq PySem.MeetsSeq2 PySem.MeetsSeq3
end
section
variable {prog:Program} {w:World} {A:Around} {E:Value→Shared→Prop} {s:Shared}
theorem cat_tup {t b:Addr} {vs ws:List Value} {Q:Value→Shared→Prop} (ht:IsTup s.heap t vs.toArray) (hb:IsTup s.heap b ws.toArray) (hv:vs≠[])
    (h1:ws=[]→Q (.ref t) s) (h2:ws≠[]→Q (.ref s.heap.objs.size) { s with heap:=s.heap.push { cls:=.type "tuple",data:=.seq (vs ++ ws).toArray } })
    (hsz:vs.length + ws.length≤sizeLine):wpAny (model prog w) A (binaryOp .Add (.ref t) (.ref b)) Q E s:=by
  obtain ⟨⟨cls,dd,data,sl⟩,ho,hc,n,hd⟩:=id ht
  obtain ⟨⟨cls2,dd2,data2,sl2⟩,ho2,hc2,n2,hd2⟩:=id hb
  simp only at hc hd hc2 hd2
  subst hc hd hc2 hd2
  have e:vs.toArray ++ ws.toArray=(vs ++ ws).toArray:=by simp
  by_cases hw:ws=[]
  · exact concat_meets ⟨_,ho,rfl⟩ ⟨_,ho2,rfl⟩ noFill_tuple_add seq_tuple_add PySem.F.slot_tuple_add PySem.F.entry_tuple_add (PySem.F.args_tuple_add_2 _ _)
      (tuple_addW1 t b vs.toArray ws.toArray n n2 dd dd2 sl sl2 (by simpa using hv) (by simp [hw])) ⟨ho,ho2,h1 hw⟩
  · refine concat_meets ⟨_,ho,rfl⟩ ⟨_,ho2,rfl⟩ noFill_tuple_add seq_tuple_add PySem.F.slot_tuple_add PySem.F.entry_tuple_add (PySem.F.args_tuple_add_2 _ _)
      (tuple_addW2 t b vs.toArray ws.toArray n n2 dd dd2 sl sl2 (by simpa using hv) (by simpa using hw) (by rw [List.size_toArray,List.size_toArray]; exact hsz)) ⟨ho,ho2,?_⟩
    rw [e]
    exact h2 hw
def sIx (n d:Nat):Option Int→Nat
 | none=>d
 | some v=>if v < 0 then (v + (n:Int)).toNat else min v.toNat n
end
end HT
namespace L2
open PySem PySem.Spec PyProof.Rows
variable {q0:Bool}
abbrev TO:=St→Hp→(Option Int→Hp→Prop)→Prop
def PO (X:Cx) (e:Option Expr) (t:TO):Prop :=
 ∀ (pins:List (Addr × Obj)) (s:Shared) (σ:St) (H:Hp) (Q:Option Int→Hp→Prop),Inv X pins σ H s→t σ H Q →
  wpAny (model X.prog X.w) X.A (evalPart e X.env) (fun u s'=>∃ o H',Inv X pins σ H' s'∧IsPart u o∧Q o H') X.xe s
def xoj:TO:=fun _ H Q=>Q none H
def xq4 (t:TE):TO:=fun σ H Q=>t σ H fun x H1=>∃ i,x=.int i∧Q (some i) H1
section
variable {X:Cx} {e:Expr} {te:TE} {lo hi:Option Expr} {tl th:TO} {pos p2:Pos}
theorem xbw:PO X none xoj:=by
 intro pins s σ H Q I h
 rw [evalPart_none]
 exact wpAny_pure ⟨none,H,I,.none,h⟩
theorem xa4 (h:PE X e te):PO X (some e) (xq4 te):=by
 intro pins s σ H Q I hw
 rw [evalPart_some]
 refine thn (h pins s σ H _ I hw) fun u s1 ⟨x,H1,I1,r1,q1⟩=>?_
 obtain ⟨i,rfl,q⟩:=q1
 obtain ⟨t,rfl⟩:=r1
 exact ⟨some i,H1,I1,.int i t,q⟩
def SlR (X:Cx) (r:V→Option Int→Option Int→Hp→VK→Prop):Prop :=
 ∀ (pins:List (Addr × Obj)) (s:Shared) (σ:St) (H:Hp) (x:V) (v vl vu:Value) (lo hi:Option Int) (sl:Addr) (Q:VK),Inv X pins σ H s→RelV x v→s.heap.IsSliceOf sl vl vu .none→IsPart vl lo→IsPart vu hi→r x lo hi H Q →
  ∃ T id,typeLookup (.type T) "__getitem__"=pure (some (.builtin id))∧s.TypeIs v T∧wpAny (model X.prog X.w) X.A (getItem v (.ref sl)) (EP X pins σ Q) X.xe s
def tSl (r:V→Option Int→Option Int→Hp→VK→Prop) (te:TE) (tl th:TO):TE:=fun σ H Q=>te σ H fun x H1=>tl σ H1 fun l H2=>th σ H2 fun u H3=>r x l u H3 Q
theorem xa6 {r:V→Option Int→Option Int→Hp→VK→Prop} (hr:SlR X r) (he:PE X e te) (hl:PO X lo tl) (hu:PO X hi th):PE X (.Subscript e (.Slice lo hi none p2) pos) (tSl r te tl th):=by
 intro pins s σ H Q I h
 refine Subscript_ (thn (he pins s σ H _ I h) fun v s1 ⟨x,H1,I1,r1,q1⟩=>?_)
 refine wpAny_Slice (thn (hl pins s1 σ H1 _ I1 q1) fun vl s2 ⟨l,H2,I2,pl,q2⟩=>thn (hu pins s2 σ H2 _ I2 q2) fun vu s3 ⟨u,H3,I3,pu,q3⟩=>?_)
 rw [evalPart_none]
 refine wpAny_pure ?_
 have I4:Inv X pins σ H3 { s3 with heap:=s3.heap.push { cls:=.type "slice",data:=.fields #[vl,vu,.none] } }:=I3.kept (t':=s3.toks) fun b ob q=>Heap.get?_push_of_some _ q
 obtain ⟨T,id,hT,ht,hg⟩:=hr pins { s3 with heap:=s3.heap.push { cls:=.type "slice",data:=.fields #[vl,vu,.none] } } σ H3 x v vl vu l u s3.heap.objs.size Q I4 r1 (Heap.IsSliceOf.new ..) pl pu q3
 show wpAny (model X.prog X.w) X.A (subscriptTail e (.Slice lo hi none p2) v (.ref s3.heap.objs.size)) (EP X pins σ Q) X.xe { s3 with heap:=s3.heap.push { cls:=.type "slice",data:=.fields #[vl,vu,.none] } }
 exact tail_any (ops:=[.ref s3.heap.objs.size,v]) ht hT hg (by with_unfolding_all rfl)
def cutV (xs:List V) (lo hi:Option Int):List V:=(xs.drop (HT.sIx xs.length 0 lo)).take (HT.sIx xs.length xs.length hi - HT.sIx xs.length 0 lo)
theorem xii (xs:List V) (lo hi:Option Int):(cutV xs lo hi).length≤xs.length:=by
 unfold cutV
 rw [List.length_take,List.length_drop]
 omega
def xnc (K:PySem.W.Frag):R2:=fun x y H Q=>∃ a b xs ys,x=.ref a∧y=.ref b∧SqT K H a xs∧SqT K H b ys∧xs≠[]∧xs.length + ys.length≤sizeLine ∧
 (ys=[]→Q (.ref a) H)∧(ys≠[]→∀ p,H p=none→Q (.ref p) (upd H p (.tup (xs ++ ys))))
theorem Vals.nil_iff {xs:List V} {us:List Value} (r:Vals xs us):us=[] ↔ xs=[]:=by
 cases r with
 | nil=>simp
 | cons _ _=>simp
theorem xom:OpR X (binaryOp .Add) (xnc X.K):=by
 intro pins s σ H x y v u Q I rx ry h
 obtain ⟨a,b,xs,ys,rfl,rfl,ha,hb,hx,hz,q1,q2⟩:=h
 cases rx
 cases ry
 obtain ⟨its,r1,p1,_⟩:=I.tuple ha
 obtain ⟨its2,r2,p2,_⟩:=I.tuple hb
 refine HT.cat_tup p1 p2 (fun z=>hx (r1.nil_iff.mp z)) (fun z=>⟨.ref a,H,I,rfl,q1 (r2.nil_iff.mp z)⟩) (fun z=>?_) (by rw [← r1.length,← r2.length]; exact hz)
 refine ⟨.ref s.heap.objs.size,_,I.laid (t':=s.toks) (o:=.tup (xs ++ ys)) (fun b ob q=>Heap.get?_push_of_some _ q) (Nat.le_refl _) ?_,rfl,q2 (fun w=>z (r2.nil_iff.mpr w)) _ (I.hok.fresh (Nat.le_refl _))⟩
 exact ⟨by rw [List.length_append]; exact hz,_,r1.append r2,IsTup.new _ _⟩
end
end L2
namespace L2
open PySem PySem.Spec PyProof.Rows
variable {q0:Bool}
def ixN (n:Nat) (i:Int):Option Nat:=if 0≤i then (if i < n then some i.toNat else none) else if -(n:Int)≤i then some (i + n).toNat else none
def atI {α:Type} (xs:List α) (i:Int):Option α:=(ixN xs.length i).bind fun j=>xs[j]?
theorem xip {n:Nat} {i:Int} {j:Nat} (h:ixN n i=some j):seqIndex? i n=some j∧j < n∧-(n:Int)≤i∧i < n:=by
 unfold ixN at h
 by_cases h0:0≤i
 ·rw [if_pos h0] at h
  by_cases h1:i < n
  ·rw [if_pos h1] at h
   have e:i.toNat=j:=Option.some.inj h
   exact ⟨by rw [seqIndex_of h0 h1,e],by omega,by omega,h1⟩
  ·rw [if_neg h1] at h; cases h
 ·rw [if_neg h0] at h
  by_cases h1:-(n:Int)≤i
  ·rw [if_pos h1] at h
   have e:(i + n).toNat=j:=Option.some.inj h
   exact ⟨by rw [seqIndex_neg (by omega) h1,e],by omega,h1,by omega⟩
  ·rw [if_neg h1] at h; cases h
theorem xgk {α:Type} {xs:List α} {i:Int} {v:α} (h:atI xs i=some v):∃ j,seqIndex? i xs.length=some j∧xs[j]?=some v∧j < xs.length∧-(xs.length:Int)≤i∧i < xs.length:=by
 unfold atI at h
 cases e:ixN xs.length i with
 | none=>rw [e] at h; cases h
 | some j =>
  rw [e] at h
  obtain ⟨h1,h2,h3,h4⟩:=xip e
  exact ⟨j,h1,h,h2,h3,h4⟩
theorem xbs {α:Type} {xs:List α} {j:Nat} {v:α} (h:xs[j]?=some v):atI xs (j:Int)=some v:=by
 have hj:j < xs.length:=(List.getElem?_eq_some_iff.mp h).1
 have e:ixN xs.length (j:Int)=some j:=by
  unfold ixN
  rw [if_pos (by omega),if_pos (by omega)]; simp
 unfold atI; rw [e]; exact h
def xoo (b:Expr):Prop:=∀ o i,subscripted b false o i=operate [o,i] (getItem o i)
def IxR (X:Cx) (r:R2):Prop :=
 ∀ (value slice:Expr) (pins:List (Addr × Obj)) (s:Shared) (σ:St) (H:Hp) (x y:V) (v u:Value) (Q:VK),Inv X pins σ H s→RelV x v→RelV y u→r x y H Q →
  subscripted slice false v u=operate [v,u] (getItem v u)→wpAny (model X.prog X.w) X.A (subscriptTail value slice v u) (EP X pins σ Q) X.xe s
def MtR (X:Cx) (id:String) (r:V→List V→Hp→VK→Prop):Prop :=
 ∀ (pins:List (Addr × Obj)) (s:Shared) (σ:St) (H:Hp) (x:V) (xs:List V) (v:Value) (us:List Value) (Q:VK),Inv X pins σ H s→RelV x v→Vals xs us→r x xs H Q →
  wpAny (model X.prog X.w) X.A (call (.builtin id) (v :: us)) (EP X pins σ Q) X.xe s
section
variable {X:Cx} {a b:Expr} {ta tb:TE} {pos:Pos}
theorem xaq {r:R2} (hr:IxR X r) (ha:PE X a ta) (hb:PE X b tb) (hs:xoo b):PE X (.Subscript a b pos) (tOp r ta tb):=by
 intro pins s σ H Q I h
 exact Subscript_ (binT ha hb I h fun v u s2 x y H2 I2 rx ry q=>hr a b pins s2 σ H2 x y v u Q I2 rx ry q (hs _ _))
def rIxL (K:PySem.W.Frag):R2:=fun x y H Q=>∃ p xs i v,x=.ref p∧y=.int i∧SqL K H p xs∧atI xs i=some v∧Q v H
def rIxT (K:PySem.W.Frag):R2:=fun x y H Q=>∃ p xs i v,x=.ref p∧y=.int i∧SqT K H p xs∧atI xs i=some v∧Q v H
def rIxS:R2:=fun x y H Q=>∃ z i c,x=.str z∧y=.int i∧z.length≤sizeLine∧atI z.cps.toList i=some c∧Q (.str ⟨#[c]⟩) H
theorem xam:IxR X (rIxL X.K):=by
 intro value slice pins s σ H x y v u Q I rx ry h hs
 obtain ⟨p,xs,i,z,rfl,rfl,hq,he,q⟩:=h
 cases rx
 obtain ⟨t,rfl⟩:=ry
 obtain ⟨its,r,pl,hz⟩:=I.list hq
 obtain ⟨j,h1,h2,h3,h4,h5⟩:=xgk he
 obtain ⟨w,ew,rw'⟩:=r.get h2
 have hl:=r.length
 have hn:=xdh
 have fin:EP X pins σ Q w s:=⟨z,H,I,rw',q⟩
 by_cases h0:0≤i
 ·have hj:i.toNat=j:=by
   rw [seqIndex_of h0 h5] at h1
   exact Option.some.inj h1
  exact item_listR pl.isList h0 (by omega) (by rw [hj]; simpa using ew) fin hs
 ·have hj:(i + (its.toArray.size:Int)).toNat=j:=by
   rw [seqIndex_neg (by omega) h4] at h1
   rw [List.size_toArray,← hl]
   exact Option.some.inj h1
  exact subscriptTail_builtinR (x:=w) pl.isList.typeIs slot_list_getitem.lookup
   (wpAny_getItem_list_neg (Q:=fun r s'=>r=w∧EP X pins σ Q r s') pl.isList (by omega) (by rw [List.size_toArray] <;> omega) (by omega) (by rw [hj]; simpa using ew) ⟨rfl,fin⟩) hs
theorem xes:IxR X (rIxT X.K):=by
 intro value slice pins s σ H x y v u Q I rx ry h hs
 obtain ⟨p,xs,i,z,rfl,rfl,hq,he,q⟩:=h
 cases rx
 obtain ⟨t,rfl⟩:=ry
 obtain ⟨its,r,pl,hz⟩:=I.tuple hq
 obtain ⟨j,h1,h2,h3,h4,h5⟩:=xgk he
 obtain ⟨w,ew,rw'⟩:=r.get h2
 have hl:=r.length
 have hn:=xdh
 have fin:EP X pins σ Q w s:=⟨z,H,I,rw',q⟩
 exact subscriptTail_builtinR (x:=w) pl.typeIs slot_tuple_getitem.lookup
  (getItem_tuple (j:=j) (Q:=fun r s'=>r=w∧EP X pins σ Q r s') pl (by omega) (by omega) (by rw [List.size_toArray,← hl]; exact h1) (by simpa using ew) ⟨rfl,fin⟩) hs
theorem xp2:IxR X rIxS:=by
 intro value slice pins s σ H x y v u Q I rx ry h hs
 obtain ⟨z,i,c,rfl,rfl,hz,he,q⟩:=h
 obtain ⟨t,rfl⟩:=rx
 obtain ⟨t',rfl⟩:=ry
 obtain ⟨j,h1,h2,h3,h4,h5⟩:=xgk he
 have hl:z.cps.toList.length=z.length:=by simp [Str.length]
 rw [hl] at h1 h4 h5
 have hn:=xdh
 exact tail_any (typeIs_str s z t) slot_str_getitem.lookup (getItem_str (c:=c) (by
  have e1:decide (i < -(2 ^ 63:Int))=false:=decide_eq_false (by omega)
  have e2:decide (i ≥ 2 ^ 63)=false:=decide_eq_false (by omega)
  rw [e1,e2,Bool.or_false]) (by rw [h1]; simpa using h2) ⟨.str ⟨#[c]⟩,H,I.tok _,⟨_,rfl⟩,q⟩) hs
theorem xjt (its:List Value) (n j:Nat) (u:Value):Obj.mapSeq (·.setIfInBounds j u) { cls:=.type "list",data:=.seq its.toArray n }={ cls:=.type "list",data:=.seq (its.set j u).toArray n }:=by
 simp [Obj.mapSeq]
theorem Inv.lst {pins:List (Addr × Obj)} {σ:St} {H:Hp} {s:Shared} {p:Addr} {xs:List V} (I:Inv X pins σ H s) (h:H p=some (.lst xs)) :
    ∃ (its:List Value) (n:Nat),Vals xs its∧s.heap.get? p=some { cls:=.type "list",data:=.seq its.toArray n }∧xs.length≤sizeLine:=by
  obtain ⟨z,its,n,r,e⟩:=I.hok p _ h
  exact ⟨its,n,r,e,z⟩
theorem Inv.lstUpd {pins:List (Addr × Obj)} {σ:St} {H:Hp} {s:Shared} {p:Addr} {xs ys:List V} {its its':List Value} {n n':Nat} {f:Obj→Obj} (I:Inv X pins σ H s) (h:H p=some (.lst xs))
    (ho:s.heap.get? p=some { cls:=.type "list",data:=.seq its.toArray n }) (hf:f { cls:=.type "list",data:=.seq its.toArray n }={ cls:=.type "list",data:=.seq its'.toArray n' }) (r:Vals ys its') (hz:ys.length≤sizeLine) (t:Nat) :
    Inv X pins σ (upd H p (.lst ys)) { s with heap:=s.heap.update p f,toks:=t }:=by
  have e:(s.heap.update p f).get? p=some { cls:=.type "list",data:=.seq its'.toArray n' }:=by
    rw [Heap.get?_update_self f ho (by rw [hf] <;> rfl),hf]
  refine I.write (x:=p) (e:=p) (by rw [h]; trivial) (.inl rfl) (fun b u hb q=>(Heap.get?_update_other _ _ (Ne.symm hb)).trans q) ⟨_,e⟩ ?_
  exact ⟨hz,its',n',r,e⟩
def xrf:V→V→V→Hp→(Hp→Prop)→Prop:=fun o i v H Q=>∃ p xs k j,o=.ref p∧i=.int k∧H p=some (.lst xs)∧ixN xs.length k=some j∧Q (upd H p (.lst (xs.set j v)))
theorem xlx:PSet X xrf:=by
 intro pins s σ H o i v ov iv u Q I ro ri rv h
 obtain ⟨p,xs,k,j,rfl,rfl,hp,hj,q⟩:=h
 cases ro
 obtain ⟨t,rfl⟩:=ri
 obtain ⟨its,n,r,ho,hz⟩:=I.lst hp
 obtain ⟨h1,h2,h3,h4⟩:=xip hj
 have hl:=r.length
 have hn:=xdh
 have I':Inv X pins σ (upd H p (.lst (xs.set j v))) { s with heap:=s.heap.update p (Obj.mapSeq (·.setIfInBounds j u)) } :=
  I.lstUpd hp ho (xjt its n j u) (r.set rv j) (by rw [List.length_set]; exact hz) s.toks
 by_cases h0:0≤k
 ·have hk:k.toNat=j:=by
   rw [seqIndex_of h0 h4] at h1
   exact Option.some.inj h1
  exact PySem.W.ki_setAt ho h0 (by omega) (by rw [List.size_toArray,← hl]; exact h4) (by rw [hk]; exact ⟨_,I',q⟩)
 ·have hk:(k + (its.toArray.size:Int)).toNat=j:=by
   rw [seqIndex_neg (by omega) h3] at h1
   rw [List.size_toArray,← hl]
   exact Option.some.inj h1
  exact PySem.W.ki_setBack ho (by omega) (by rw [List.size_toArray,← hl]; exact h3) (by omega) (by rw [hk]; exact ⟨_,I',q⟩)
theorem xhn (lo hi:Option Int) (n:Nat):(sliceBounds lo hi none n).1=((HT.sIx n 0 lo:Nat):Int)∧(sliceBounds lo hi none n).2.1=((HT.sIx n n hi:Nat):Int)∧(sliceBounds lo hi none n).2.2=1:=by
 refine ⟨?_,?_,rfl⟩
 ·cases lo with
  | none=>simp [sliceBounds,HT.sIx]
  | some i =>
   simp only [sliceBounds,HT.sIx,Option.getD_none,show (1:Int) > 0 by decide,if_true]
   by_cases h:i < 0
   ·simp only [h,if_true] <;> omega
   ·simp only [h,if_false] <;> omega
 ·cases hi with
  | none=>simp [sliceBounds,HT.sIx]
  | some i =>
   simp only [sliceBounds,HT.sIx,Option.getD_none,show (1:Int) > 0 by decide,if_true]
   by_cases h:i < 0
   ·simp only [h,if_true] <;> omega
   ·simp only [h,if_false] <;> omega
theorem xg5 (its:List Value) (lo hi:Option Int):slicePick its.toArray lo hi none=((its.drop (HT.sIx its.length 0 lo)).take (HT.sIx its.length its.length hi - HT.sIx its.length 0 lo)).toArray:=by
 obtain ⟨h1,h2,h3⟩:=xhn lo hi its.toArray.size
 unfold slicePick
 rw [h1,h2,h3]
 simp only [sliceRange_one,pick_run,List.size_toArray] <;> rfl
def rSlL (K:PySem.W.Frag):V→Option Int→Option Int→Hp→VK→Prop:=fun x lo hi H Q=>∃ a xs,x=.ref a∧SqL K H a xs∧∀ p,H p=none→Q (.ref p) (upd H p (.lst (cutV xs lo hi)))
theorem xbf:SlR X (rSlL X.K):=by
 intro pins s σ H x v vl vu lo hi sl Q I rx hs pl pu h
 obtain ⟨a,xs,rfl,hx,q⟩:=h
 cases rx
 obtain ⟨its,r,ht,hz⟩:=I.list hx
 have hlen:=r.length
 refine ⟨"list",_,slot_list_getitem.lookup,ht.isList.typeIs,?_⟩
 refine wpAny_getItem_list_slice ht.isList hs pl pu .none (by simp) ?_ (by rw [List.size_toArray] <;> omega)
 rw [xg5,← hlen]
 refine ⟨.ref s.heap.objs.size,_,I.laid (t':=s.toks) (o:=.lst (cutV xs lo hi)) (fun b ob q=>Heap.get?_push_of_some _ q) (Nat.le_refl _) ?_,rfl,q _ (I.hok.fresh (Nat.le_refl _))⟩
 exact ⟨Nat.le_trans (xii xs lo hi) hz,_,0,(r.drop (HT.sIx xs.length 0 lo)).take (HT.sIx xs.length xs.length hi - HT.sIx xs.length 0 lo),Heap.get?_push_size _ rfl⟩
def xcm:V→Bool
 | .non=>true
 | .bl _=>true
 | .int _=>true
 | .str _=>true
 | _=>false
def eqV:V→V→Bool
 | .non,.non=>true
 | .bl a,.bl b=>a == b
 | .bl a,.int b=>(if a then 1 else 0) == b
 | .int a,.bl b=>a == (if b then 1 else 0)
 | .int a,.int b=>a == b
 | .str a,.str b=>a == b
 | _,_=>false
theorem xqj {A:Around} {s:Shared} {y x:V} {u v:Value} (ry:RelV y u) (rx:RelV x v) (fy:xcm y=true) (fx:xcm x=true):SeqAt.EqAt A s u v (eqV y x):=by
 cases y with
 | non =>
  cases ry
  cases x with
  | non=>cases rx; exact SeqAt.EqAt.same _
  | bl b=>cases rx; exact SeqAt.EqAt.none_bool b
  | int b=>obtain ⟨t,rfl⟩:=rx; exact SeqAt.EqAt.none_int b t
  | str b=>obtain ⟨t,rfl⟩:=rx; exact SeqAt.EqAt.none_str b t
  | _=>exact absurd (show false=true from fx) Bool.false_ne_true
 | bl a =>
  cases ry
  cases x with
  | non=>cases rx; exact SeqAt.EqAt.bool_none a
  | bl b=>cases rx; exact SeqAt.EqAt.bool_bool a b
  | int b=>obtain ⟨t,rfl⟩:=rx; exact SeqAt.EqAt.bool_int a b t
  | str b=>obtain ⟨t,rfl⟩:=rx; exact SeqAt.EqAt.bool_str a b t
  | _=>exact absurd (show false=true from fx) Bool.false_ne_true
 | int a =>
  obtain ⟨t',rfl⟩:=ry
  cases x with
  | non=>cases rx; exact SeqAt.EqAt.int_none a t'
  | bl b=>cases rx; exact SeqAt.EqAt.int_bool a t' b
  | int b=>obtain ⟨t,rfl⟩:=rx; exact SeqAt.EqAt.int_int a t' b t
  | str b=>obtain ⟨t,rfl⟩:=rx; exact SeqAt.EqAt.int_str a t' b t
  | _=>exact absurd (show false=true from fx) Bool.false_ne_true
 | str a =>
  obtain ⟨t',rfl⟩:=ry
  cases x with
  | non=>cases rx; exact SeqAt.EqAt.str_none a t'
  | bl b=>cases rx; exact SeqAt.EqAt.str_bool a t' b
  | int b=>obtain ⟨t,rfl⟩:=rx; exact SeqAt.EqAt.str_int a t' b t
  | str b=>obtain ⟨t,rfl⟩:=rx; exact SeqAt.EqAt.str_str a t' b t
  | _=>exact absurd (show false=true from fx) Bool.false_ne_true
 | _=>exact absurd (show false=true from fy) Bool.false_ne_true
def eqU (x:V) (u:Value):Bool:=match u with
 | .none=>eqV .non x
 | .bool b=>eqV (.bl b) x
 | .int i _=>eqV (.int i) x
 | .str z _=>eqV (.str z) x
 | _=>false
theorem xka {x y:V} {u:Value} (r:RelV y u) (f:xcm y=true):eqU x u=eqV y x:=by
 cases y with
 | non=>cases r; rfl
 | bl b=>cases r; rfl
 | int i=>obtain ⟨t,rfl⟩:=r; rfl
 | str z=>obtain ⟨t,rfl⟩:=r; rfl
 | _=>exact absurd (show false=true from f) Bool.false_ne_true
theorem xd3 {x:V}:∀ {xs:List V} {us:List Value},Vals xs us→xs.all xcm=true→us.any (eqU x)=xs.any fun y=>eqV y x
 | _,_,.nil,_=>rfl
 | y :: xs,u :: us,.cons r t,f=>by
  rw [List.all_cons,Bool.and_eq_true] at f
  rw [List.any_cons,List.any_cons,xka r f.1,xd3 t f.2]
theorem xde {A:Around} {s:Shared} {x:V} {v:Value} (rx:RelV x v) (fx:xcm x=true):∀ {xs:List V} {us:List Value},Vals xs us→xs.all xcm=true→∀ u ∈ us,SeqAt.EqAt A s u v (eqU x u)
 | _,_,.nil,_=>fun u hu=>by cases hu
 | y :: xs,u :: us,.cons r t,f=>fun u' hu=>by
  rw [List.all_cons,Bool.and_eq_true] at f
  rcases List.mem_cons.mp hu with rfl | hu
  ·rw [xka r f.1]; exact xqj r rx f.1 fx
  ·exact xde rx fx t f.2 u' hu
def inV (x:V) (xs:List V):Bool:=xs.any fun y=>eqV y x
def rIn (K:PySem.W.Frag) (neg:Bool):R2:=fun x y H Q=>∃ p xs,y=.ref p∧(SqL K H p xs∨SqT K H p xs)∧xcm x=true∧xs.all xcm=true∧Q (.bl (if neg then !inV x xs else inV x xs)) H
theorem xg2:OpR X (compareOp .In) (rIn X.K false):=by
 intro pins s σ H x y v u Q I rx ry h
 obtain ⟨p,xs,rfl,hq,fx,fs,q⟩:=h
 cases ry
 rcases hq with hq | hq
 ·obtain ⟨its,r,pl,hz⟩:=I.list hq
  refine SeqAt.in_listAt (eqU x) pl.isList (fun w hw=>xde rx fx r fs w (by simpa using hw)) ⟨.bl _,H,I,rfl,?_⟩
  rw [show its.toArray.any (eqU x)=its.any (eqU x) by simp,xd3 r fs]
  exact q
 ·obtain ⟨its,r,pl,hz⟩:=I.tuple hq
  refine SeqAt.in_tupleAt (eqU x) pl (fun w hw=>xde rx fx r fs w (by simpa using hw)) ⟨.bl _,H,I,rfl,?_⟩
  rw [show its.toArray.any (eqU x)=its.any (eqU x) by simp,xd3 r fs]
  exact q
theorem xbt:OpR X (compareOp .NotIn) (rIn X.K true):=by
 intro pins s σ H x y v u Q I rx ry h
 obtain ⟨p,xs,rfl,hq,fx,fs,q⟩:=h
 cases ry
 rcases hq with hq | hq
 ·obtain ⟨its,r,pl,hz⟩:=I.list hq
  refine SeqAt.notIn_listAt (eqU x) pl.isList (fun w hw=>xde rx fx r fs w (by simpa using hw)) ⟨.bl _,H,I,rfl,?_⟩
  rw [show its.toArray.any (eqU x)=its.any (eqU x) by simp,xd3 r fs]
  exact q
 ·obtain ⟨its,r,pl,hz⟩:=I.tuple hq
  refine SeqAt.notIn_tupleAt (eqU x) pl (fun w hw=>xde rx fx r fs w (by simpa using hw)) ⟨.bl _,H,I,rfl,?_⟩
  rw [show its.toArray.any (eqU x)=its.any (eqU x) by simp,xd3 r fs]
  exact q
theorem xac:xb4 X (.builtin "len") (fun xs H Q=>∃ p ys,xs=[.ref p]∧(SqL X.K H p ys∨SqT X.K H p ys)∧Q (.int ys.length) H):=by
 intro pins s σ H xs us Q I r h
 obtain ⟨p,ys,rfl,hq,q⟩:=h
 obtain ⟨u,rfl,rx⟩:=xci r
 cases rx
 have hn:=xdh
 rcases hq with hq | hq
 ·obtain ⟨its,r',pl,hz⟩:=I.list hq
  have hlen:=r'.length
  exact Calls.call_len_list pl.isList (by simp only [List.size_toArray] <;> omega) ⟨.int ys.length,H,I.tok _,⟨s.toks + 1,by rw [List.size_toArray,hlen]⟩,q⟩
 ·obtain ⟨its,r',pl,hz⟩:=I.tuple hq
  have hlen:=r'.length
  exact len_tuple pl (by simp only [List.size_toArray] <;> omega) ⟨.int ys.length,H,I.tok _,⟨s.toks + 1,by rw [List.size_toArray,hlen]⟩,q⟩
theorem xdd:xb4 X (.builtin "len") (fun xs H Q=>∃ z,xs=[.str z]∧z.length≤sizeLine∧Q (.int z.length) H):=by
 intro pins s σ H xs us Q I r h
 obtain ⟨z,rfl,hz,q⟩:=h
 obtain ⟨u,rfl,t,rfl⟩:=xci r
 have hn:=xdh
 exact len_str (by omega) ⟨.int z.length,H,I.tok _,⟨_,rfl⟩,q⟩
theorem xeq:xb4 X (.type "list") (fun xs H Q=>∃ p ys,xs=[.ref p]∧(SqL X.K H p ys∨SqT X.K H p ys)∧∀ l,H l=none→Q (.ref l) (upd H l (.lst ys))):=by
  intro pins s σ H xs us Q I r h
  obtain ⟨p,ys,rfl,hq,q⟩:=h
  obtain ⟨u,rfl,rx⟩:=xci r
  cases rx
  have fin:∀ (its:List Value),Vals ys its→ys.length≤sizeLine→∀ (h':Heap) (c':Nat),(∀ b o',s.heap.get? b=some o'→h'.get? b=some o') →
      h'.get? s.heap.objs.size=some { cls:=.type "list",dict:=none,data:=.seq its.toArray c',slots:=#[] }→EP X pins σ Q (.ref s.heap.objs.size) { s with heap:=h' }:=fun its r' hz h' c' kp e =>
    ⟨.ref s.heap.objs.size,_,I.laid (t':=s.toks) kp (Nat.le_refl _) (show xap X.prog X.w _ h' _ (.lst ys) from ⟨hz,its,c',r',e⟩),rfl,q _ (I.hok.fresh (Nat.le_refl _))⟩
  rcases hq with hq | hq
  · obtain ⟨its,r',pl,hz⟩:=I.list hq
    have hlen:=r'.length
    obtain ⟨o,ho,hc,n,hd⟩:=pl.isList
    exact call_list_seq p (.inl rfl) ho hc hd (fun h' c' kp e=>fin its r' hz h' c' kp e) (by simp only [List.size_toArray] <;> omega)
  · obtain ⟨its,r',pl,hz⟩:=I.tuple hq
    have hlen:=r'.length
    obtain ⟨o,ho,hc,n,hd⟩:=pl
    exact call_list_seq p (.inr rfl) ho hc hd (fun h' c' kp e=>fin its r' hz h' c' kp e) (by simp only [List.size_toArray] <;> omega)
def tyV (K:PySem.W.Frag) (T:String) (x:V) (H:Hp):Prop:=match x with
  | .str _=>T="str"
  | .int _=>T="int"
  | .ref p=>(T="list"∧∃ xs,SqL K H p xs)∨(T="tuple"∧∃ o,K.lookup p=some o∧o.cls=.type "tuple"∧o.dict=none) ∨
      (T="dict"∧((∃ kvs,H p=some (.dK kvs))∨∃ kvs,H p=some (.dT kvs)))∨(T="set"∧∃ S n,H p=some (.set S n))
  | _=>False
theorem xkz {pins:List (Addr × Obj)} {σ:St} {H:Hp} {s:Shared} {T:String} {x:V} {v:Value} (I:Inv X pins σ H s) (r:RelV x v) (ty:tyV X.K T x H) :
    s.TypeIs v T∧∀ a,v=.ref a→∃ ob,s.heap.get? a=some ob∧ob.dict=none:=by
  cases x with
  | str z =>
    obtain ⟨t,rfl⟩:=r
    cases (show T="str" from ty)
    exact ⟨typeIs_str s z t,fun _ e=>nomatch e⟩
  | int i =>
    obtain ⟨t,rfl⟩:=r
    cases (show T="int" from ty)
    exact ⟨typeIs_int s i t,fun _ e=>nomatch e⟩
  | ref p =>
    cases r
    rcases ty with ⟨rfl,xs,hq⟩ | ⟨rfl,o,hk,hc,hd⟩ | ⟨rfl,hk⟩ | ⟨rfl,S,n,hk⟩
    · obtain ⟨its,_,pl,_⟩:=I.list hq
      refine ⟨pl.isList.typeIs,fun a e=>?_⟩
      cases e
      obtain ⟨o,n,e,c,hd,_⟩:=pl
      exact ⟨o,e,hd⟩
    · refine ⟨⟨o,I.kIn p o hk,hc⟩,fun a e=>?_⟩
      cases e
      exact ⟨o,I.kIn _ o hk,hd⟩
    · have z:∃ o,s.heap.get? p=some o∧o.ExactDict:=by
        rcases hk with ⟨kvs,hk⟩ | ⟨kvs,hk⟩
        · obtain ⟨_,_,_,_,o,_,_,e,ex,_⟩:=I.hok p _ hk
          exact ⟨o,e,ex⟩
        · obtain ⟨_,_,_,_,o,_,_,e,ex,_⟩:=I.hok p _ hk
          exact ⟨o,e,ex⟩
      obtain ⟨o,e,ex⟩:=z
      refine ⟨⟨o,e,ex.1⟩,fun a e2=>?_⟩
      cases e2
      exact ⟨o,e,ex.2.1⟩
    · obtain ⟨o,_,_,_,e,ex,_⟩:=I.hok p _ hk
      refine ⟨⟨o,e,ex.1⟩,fun a e2=>?_⟩
      cases e2
      exact ⟨o,e,ex.2.1⟩
  | _=>exact False.elim ty
def tBM0 (K:PySem.W.Frag) (T:String) (r:V→List V→Hp→VK→Prop) (to:TE):TE:=fun σ H Q=>to σ H fun x H1=>tyV K T x H1∧r x [] H1 Q
def tBM (K:PySem.W.Frag) (T:String) (r:V→List V→Hp→VK→Prop) (to:TE) (t:TA):TE:=fun σ H Q=>to σ H fun x H1=>tyV K T x H1∧t σ H1 fun xs H2=>r x xs H2 Q
variable {o e:Expr} {es:List Expr} {to:TE} {t:TA} {name:Str} {apos cpos:Pos} {T id:String} {r:V→List V→Hp→VK→Prop}
theorem xpy (pa:PlainAttrs T) (slot:Slot T name id) (hty:typeOf (.builtin id)=pure (.type "method_descriptor")) (hm:MtR X id r) (ho:PE X o to)
    (hbase:attributeBase o name X.env (eval o X.env)=eval o X.env:=by rfl) (hline:(apos.endLine == cpos.line)=true:=by rfl):PE X (.Call (.Attribute o name apos) [] [] cpos) (tBM0 X.K T r to):=by
  intro pins s σ H Q I h
  refine wpAny_Call_method0_late hbase hline (thn (ho pins s σ H _ I h) fun v s1 ⟨x,H1,I1,r1,ty,q1⟩=>?_)
  obtain ⟨h1,h2⟩:=xkz I1 r1 ty
  exact ⟨T,id,pa,slot,hty,h1,h2,Calls.callWith_builtin rfl (PySem.evalArgs_none (hm pins s1 σ H1 x [] v [] Q I1 r1 .nil q1))⟩
theorem xbm (pa:PlainAttrs T) (slot:Slot T name id) (hty:typeOf (.builtin id)=pure (.type "method_descriptor")) (hm:MtR X id r) (ho:PE X o to) (ha:PA X (e :: es) t)
    (hbase:attributeBase o name X.env (eval o X.env)=eval o X.env:=by rfl)
    (hfew:((backTo cpos (starEach (e :: es) X.env)).all (fun x=>!x.1) && (backToKw cpos (keywordEach [] X.env)).all (fun x=>x.1.isSome)
      && decide ((e :: es).length + ([]:List Keyword).length + (if ([]:List Keyword).isEmpty then 0 else 1) < 30))=true:=by rfl)
    (hline:(apos.endLine == cpos.line)=true:=by rfl) (hs:starEach (e :: es) X.env=(false,eval e X.env) :: starEach es X.env:=by rfl) (hplain:(backTo cpos (starEach es X.env)).any (·.1)=false:=by rfl) :
    PE X (.Call (.Attribute o name apos) (e :: es) [] cpos) (tBM X.K T r to t):=by
  intro pins s σ H Q I h
  refine wpAny_Call_method_late hbase hfew hline rfl (thn (ho pins s σ H _ I h) fun v s1 ⟨x,H1,I1,r1,ty,q1⟩=>?_)
  obtain ⟨h1,h2⟩:=xkz I1 r1 ty
  refine ⟨T,id,pa,slot,hty,h1,h2,?_⟩
  have hA:=ha cpos pins s1 σ H1 _ I1 q1
  rw [hs] at hA ⊢
  refine Calls.callWith_builtin (by show (false || (backTo cpos (starEach es X.env)).any (·.1))=false; rw [hplain] <;> rfl) (Calls.evalArgs_plain ?_)
  exact thn hA fun us s2 ⟨vs,H2,I2,r2,q2⟩=>hm pins s2 σ H2 x vs v us Q I2 r1 r2 q2
end
end L2
namespace L2
open PySem PySem.Spec PyProof.Rows
variable {q0:Bool}
def MtM (X:Cx) (id:String) (r:V→List V→Hp→VK→Prop):Prop :=
 ∀ (pins:List (Addr × Obj)) (s:Shared) (σ:St) (H:Hp) (x:V) (xs:List V) (v:Value) (us:List Value) (Q:VK),Inv X pins σ H s→RelV x v→Vals xs us→r x xs H Q →
  wpAny (model X.prog X.w) X.A (call (.builtin id) (v :: us)) (EP X pins σ Q) X.xe s
theorem Vals.one:∀ {x:V} {us:List Value},Vals [x] us→∃ u,us=[u]∧RelV x u
 | _,_,.cons r .nil=>⟨_,rfl,r⟩
theorem Vals.zero:∀ {us:List Value},Vals [] us→us=[]
 | _,.nil=>rfl
theorem Vals.eraseIdx:∀ {xs:List V} {us:List Value} (i:Nat),Vals xs us→Vals (xs.eraseIdx i) (us.eraseIdx i)
 | _,_,_,.nil=>.nil
 | _,_,0,.cons _ t=>t
 | _,_,i + 1,.cons r t=>.cons r (Vals.eraseIdx i t)
theorem xgw {α:Type}:∀ (l:List α) (i:Nat),(l.eraseIdx i).length≤l.length
 | [],_=>Nat.le_refl _
 | _ :: _,0=>Nat.le_succ _
 | _ :: r,i + 1=>Nat.succ_le_succ (xgw r i)
section
variable {X:Cx} {pins:List (Addr × Obj)} {σ:St} {H:Hp} {s:Shared} {l b:Addr} {xs ys zs:List V}
theorem Inv.lset {its its':List Value} {n:Nat} {f:Array Value→Array Value} {t':Nat} (I:Inv X pins σ H s) (hH:H l=some (.lst xs))
    (e:s.heap.get? l=some { cls:=.type "list",data:=.seq its.toArray n }) (hf:f its.toArray=its'.toArray) (hv:Vals ys its') (hz:ys.length≤sizeLine) :
    Inv X pins σ (upd H l (.lst ys)) { s with heap:=s.heap.update l (Obj.mapSeq f),toks:=t' }:=by
  have q:=PySem.IsL.update e f
  rw [hf] at q
  refine I.write (x:=l) (e:=l) (by rw [hH]; exact trivial) (.inl rfl) (fun b' u hb hu=>(Heap.get?_update_other s.heap (Obj.mapSeq f) (Ne.symm hb)).trans hu) ⟨_,q⟩ ?_
  exact ⟨hz,its',_,hv,q⟩
theorem Inv.lnew {its:List Value} {t':Nat} (I:Inv X pins σ H s) (hv:Vals ys its) (hz:ys.length≤sizeLine) :
    Inv X pins σ (upd H s.heap.objs.size (.lst ys)) { s with heap:=s.heap.push { cls:=.type "list",data:=.seq its.toArray },toks:=t' } :=
  I.laid (fun _ _ q=>Heap.get?_push_of_some _ q) (Nat.le_refl _) ⟨hz,its,0,hv,Heap.get?_push_size _ rfl⟩
theorem Inv.fresh (I:Inv X pins σ H s):H s.heap.objs.size=none:=I.hok.fresh (Nat.le_refl _)
theorem Inv.lstM (I:Inv X pins σ H s) (hH:H l=some (.lst xs)):xs.length≤sizeLine∧∃ (its:List Value) (n:Nat),Vals xs its∧xs.length=its.length∧s.heap.get? l=some { cls:=.type "list",data:=.seq its.toArray n }:=by
 obtain ⟨z,its,n,r,e⟩:=I.hok l _ hH
 exact ⟨z,its,n,r,r.length,e⟩
theorem xmz {n:Nat} (h:n≤sizeLine):Builtin.List.listTooLong n=false:=by
 unfold Builtin.List.listTooLong
 exact decide_eq_false (by omega)
end
section
variable {X:Cx}
def xnp:V→List V→Hp→VK→Prop:=fun x vs H Q=>∃ l xs y,x=.ref l∧vs=[y]∧H l=some (.lst xs)∧xs.length < sizeLine∧Q .non (upd H l (.lst (xs ++ [y])))
theorem xa7:MtM X "list.append" xnp:=by
 intro pins s σ H x vs v us Q I rx rv h
 obtain ⟨l,xs,y,rfl,rfl,hH,hz,q⟩:=h
 cases rx
 obtain ⟨u,rfl,ru⟩:=rv.one
 obtain ⟨z,its,n,r,hl,e⟩:=I.lstM hH
 refine call_meets F.slot_list_append ⟨_,e,rfl⟩ F.entry_list_append (F.args_list_append_2 _ _) (PySem.list_append l its.toArray n u (by rw [List.size_toArray]; omega)) ⟨e,?_⟩
 refine ⟨.non,_,I.lset (its':=its ++ [u]) hH e (by simp) (r.append (.cons ru .nil)) ?_,rfl,q⟩
 rw [List.length_append,List.length_singleton]
 omega
def xot:V→List V→Hp→VK→Prop:=fun x vs H Q=>∃ l b xs zs,x=.ref l∧vs=[.ref b]∧H l=some (.lst xs)∧H b=some (.lst zs)∧xs.length + zs.length≤sizeLine∧Q .non (upd H l (.lst (xs ++ zs)))
theorem xgz:MtM X "list.extend" xot:=by
 intro pins s σ H x vs v us Q I rx rv h
 obtain ⟨l,b,xs,zs,rfl,rfl,hH,hB,hz,q⟩:=h
 cases rx
 obtain ⟨u,rfl,ru⟩:=rv.one
 cases ru
 obtain ⟨z,its,n,r,hl,e⟩:=I.lstM hH
 obtain ⟨z2,its2,n2,r2,hl2,e2⟩:=I.lstM hB
 have hsz:its.toArray.size + its2.toArray.size≤sizeLine:=by rw [List.size_toArray,List.size_toArray]; omega
 have hlong:¬ (!its.toArray.isEmpty && Builtin.List.listTooLong (its.toArray.size + its2.toArray.size))=true:=by
  rw [xmz hsz,Bool.and_false]
  exact Bool.false_ne_true
 refine call_meets F.slot_list_extend ⟨_,e,rfl⟩ F.entry_list_extend (F.args_list_extend_2 _ _)
  (AutoSeq1.list_extend_list_list_0 l its.toArray n b its2.toArray n2 hlong (by rw [List.size_toArray]; omega) (by omega)) ⟨e,e2,?_⟩
 refine ⟨.non,_,I.lset (its':=its ++ its2) hH e (by simp) (r.append r2) ?_,rfl,q⟩
 rw [List.length_append]
 omega
def xo5:V→List V→Hp→VK→Prop:=fun x vs H Q=>∃ l xs i k y,x=.ref l∧vs=[.int i]∧H l=some (.lst xs)∧-(2 ^ 63)≤i∧i < 2 ^ 63∧seqIndex? i xs.length=some k∧xs[k]?=some y∧Q y (upd H l (.lst (xs.eraseIdx k)))
theorem xl9:MtM X "list.pop" xo5:=by
 intro pins s σ H x vs v us Q I rx rv h
 obtain ⟨l,xs,i,k,y,rfl,rfl,hH,h1,h2,hk,hy,q⟩:=h
 cases rx
 obtain ⟨u,rfl,ru⟩:=rv.one
 obtain ⟨t,rfl⟩:=ru
 obtain ⟨z,its,n,r,hl,e⟩:=I.lstM hH
 obtain ⟨w,hw,rw'⟩:=r.get hy
 refine call_meets F.slot_list_pop ⟨_,e,rfl⟩ F.entry_list_pop (F.args_list_pop_2 _ _)
  (MeetsSeq.list_pop_at l its.toArray n i t k w (fitsIndex_both h1 h2) (by rw [List.size_toArray,← hl]; exact hk) (by rw [← Array.getElem?_toList]; exact hw) (by rw [List.size_toArray]; omega)) ⟨e,?_⟩
 refine ⟨y,_,I.lset (its':=its.eraseIdx k) hH e ?_ (r.eraseIdx k) ?_,rw',q⟩
 ·show its.toArray.eraseIdxIfInBounds k=(its.eraseIdx k).toArray
  rw [List.eraseIdxIfInBounds_toArray]
 ·have:=xgw xs k
  omega
def xpd:V→List V→Hp→VK→Prop:=fun x vs H Q=>∃ l xs,x=.ref l∧vs=[]∧H l=some (.lst xs)∧Q .non (upd H l (.lst []))
theorem xlz:MtM X "list.clear" xpd:=by
 intro pins s σ H x vs v us Q I rx rv h
 obtain ⟨l,xs,rfl,rfl,hH,q⟩:=h
 cases rx
 have hus:=rv.zero
 subst hus
 obtain ⟨z,its,n,r,hl,e⟩:=I.lstM hH
 refine call_meets F.slot_list_clear ⟨_,e,rfl⟩ F.entry_list_clear (F.args_list_clear_1 _) (AutoSeq1.list_clear_list_0 l its.toArray n (by rw [List.size_toArray]; omega)) ⟨e,?_⟩
 exact ⟨.non,_,I.lset (its':=[]) (ys:=[]) hH e rfl .nil (Nat.zero_le _),rfl,q⟩
def rCat:R2:=fun x y H Q=>∃ l b xs zs,x=.ref l∧y=.ref b∧H l=some (.lst xs)∧H b=some (.lst zs)∧xs.length + zs.length≤sizeLine∧∀ p,H p=none→Q (.ref p) (upd H p (.lst (xs ++ zs)))
theorem xc2:OpR X (binaryOp .Add) rCat:=by
 intro pins s σ H x y v u Q I rx ry h
 obtain ⟨l,b,xs,zs,rfl,rfl,hH,hB,hz,q⟩:=h
 cases rx
 cases ry
 obtain ⟨z,its,n,r,hl,e⟩:=I.lstM hH
 obtain ⟨z2,its2,n2,r2,hl2,e2⟩:=I.lstM hB
 refine PySem.P.add_list e e2 ?_ (by rw [List.size_toArray,List.size_toArray]; omega)
 have ea:its.toArray ++ its2.toArray=(its ++ its2).toArray:=by simp
 rw [ea]
 exact ⟨.ref _,_,I.lnew (t':=s.toks) (r.append r2) (by rw [List.length_append]; omega),rfl,q _ I.fresh⟩
end
section
variable {prog:Program} {w:World} {A:Around} {E:Value→Shared→Prop} {s:Shared}
end
section
variable {X:Cx}
end
end L2
namespace L2
open PySem PySem.Spec PyProof.Rows
variable {q0:Bool}
section
variable {κ:Type} [DecidableEq κ]
def valV (kvs:List (κ × V)) (k:κ):Option V:=(kvs.find? fun kv=>decide (kv.1=k)).map (·.2)
def putK (kvs:List (κ × V)) (k:κ) (v:V):List (κ × V) :=
 if (kvs.any fun kv=>decide (kv.1=k))=true then kvs.map (fun kv=>if kv.1=k then (kv.1,v) else kv) else kvs ++ [(k,v)]
theorem xd9 {p:κ × V} {r:List (κ × V)} {k:κ} (e:p.1=k):valV (p :: r) k=some p.2:=by simp [valV,List.find?_cons,e]
theorem xck {p:κ × V} {r:List (κ × V)} {k:κ} (e:¬ p.1=k):valV (p :: r) k=valV r k:=by simp [valV,List.find?_cons,e]
theorem xfk (k:κ):∀ kvs:List (κ × V),(kvs.any fun kv=>decide (kv.1=k))=(valV kvs k).isSome
 | []=>rfl
 | p :: r=>by
  rw [List.any_cons]
  by_cases e:p.1=k
  ·simp only [xd9 e,decide_eq_true e,Bool.true_or,Option.isSome_some]
  ·rw [xck e,decide_eq_false e,Bool.false_or]; exact xfk k r
theorem xdv (kvs:List (κ × V)) (k:κ) (v:V):(putK kvs k v).length≤kvs.length + 1:=by
 unfold putK
 split
 ·rw [List.length_map]; omega
 ·rw [List.length_append,List.length_cons,List.length_nil]; omega
theorem xda {kvs:List (κ × V)} {k:κ} (v:V) (h:valV kvs k=none):putK kvs k v=kvs ++ [(k,v)]:=by
 unfold putK
 rw [xfk,h]
 exact if_neg (by decide)
theorem RelO.isSome_eq {o:Option V} {u:Option Value} (r:RelO o u):o.isSome=u.isSome:=by
 cases o with
 | none=>cases u with
  | none=>rfl
  | some _=>exact (show False from r).elim
 | some _=>cases u with
  | none=>exact (show False from r).elim
  | some _=>rfl
theorem KV.val {kvs:List (κ × V)} {vs:List (κ × Value)} (r:KV kvs vs) (k:κ):RelO (valV kvs k) (valueAt vs k):=by
 unfold KV at r
 induction r with
 | nil=>exact True.intro
 | @cons p q ps qs h t ih =>
  obtain ⟨h1,h2⟩:=h
  by_cases e:p.1=k
  ·have e':q.1=k:=h1.symm.trans e
   have b:valueAt (q :: qs) k=some q.2:=by simp [valueAt,List.find?_cons,e']
   rw [xd9 e,b]; exact h2
  ·have e':¬ q.1=k:=fun z=>e (h1.trans z)
   have b:valueAt (q :: qs) k=valueAt qs k:=by simp [valueAt,List.find?_cons,e']
   rw [xck e,b]; exact ih
theorem KV.any {kvs:List (κ × V)} {vs:List (κ × Value)} (r:KV kvs vs) (k:κ):(kvs.any fun kv=>decide (kv.1=k))=vs.any fun kv=>decide (kv.1=k):=by
 unfold KV at r
 induction r with
 | nil=>rfl
 | cons h t ih=>rw [List.any_cons,List.any_cons,ih,h.1]
theorem KV.repl {kvs:List (κ × V)} {vs:List (κ × Value)} (r:KV kvs vs) (k:κ) {y:V} {u:Value} (ry:RelV y u) :
    KV (kvs.map fun kv=>if kv.1=k then (kv.1,y) else kv) (vs.map fun kv=>if kv.1=k then (kv.1,u) else kv):=by
  unfold KV at r ⊢
  induction r with
  | nil=>exact .nil
  | @cons p q ps qs h t ih =>
    rw [List.map_cons,List.map_cons]
    refine .cons ?_ ih
    obtain ⟨h1,h2⟩:=h
    by_cases e:p.1=k
    · rw [if_pos e,if_pos (h1.symm.trans e)]; exact ⟨h1,ry⟩
    · rw [if_neg e,if_neg (fun z=>e (h1.trans z))]; exact ⟨h1,h2⟩
theorem KV.put {kvs:List (κ × V)} {vs:List (κ × Value)} (r:KV kvs vs) (k:κ) {y:V} {u:Value} (ry:RelV y u):KV (putK kvs k y) (stored vs k u):=by
 unfold putK stored
 rw [r.any k]
 by_cases e:(vs.any fun kv=>decide (kv.1=k))=true
 ·rw [if_pos e,if_pos e]; exact r.repl k ry
 ·rw [if_neg e,if_neg e]; exact Paired.snoc r ⟨rfl,ry⟩
theorem KV.keys {kvs:List (κ × V)} {vs:List (κ × Value)} (r:KV kvs vs):kvs.map (·.1)=vs.map (·.1):=by
 unfold KV at r
 induction r with
 | nil=>rfl
 | cons h t ih=>rw [List.map_cons,List.map_cons,ih,h.1]
theorem KV.length {kvs:List (κ × V)} {vs:List (κ × Value)} (r:KV kvs vs):kvs.length=vs.length:=Paired.length r
end
theorem xds {P:Program} {w:World} {k:Key} {u:Value} (r:RelV (kV k) u):(xas P w).is k u=true:=by
 cases k with
 | inl i=>obtain ⟨t,e⟩:=(show ∃ t,u=Value.int i t from r); subst e; exact xij P w i t
 | inr x=>obtain ⟨t,e⟩:=(show ∃ t,u=Value.str x t from r); subst e; exact xik P w x t
theorem xgx {P:Program} {w:World}:∀ {ks:List Key} {us:List Value},Vals (ks.map kV) us→ItemsAre (xas P w) ks us
 | [],_,r=>by rw [List.map_nil] at r; cases r; exact .nil
 | k :: ks,_,r=>by
  rw [List.map_cons] at r
  cases r with
  | cons h t=>exact .cons (xds h) (xgx t)
abbrev KT (H:Hp):List (List Key × V)→List (List Key × Addr × Value)→Prop:=Paired fun p q=>p.1=q.1∧H q.2.1=some (.tup (p.1.map kV))∧RelV p.2 q.2.2
theorem KT.val {H:Hp} {kvs:List (List Key × V)} {xs:List (List Key × Addr × Value)} (r:KT H kvs xs) (k:List Key):RelO (valV kvs k) ((atKey xs k).map (·.2)):=by
 induction r with
 | nil=>exact True.intro
 | @cons p q ps qs h t ih =>
  obtain ⟨h1,_,h2⟩:=h
  by_cases e:p.1=k
  ·have e':q.1=k:=h1.symm.trans e
   have b:atKey (q :: qs) k=some q.2:=by simp [atKey,List.find?_cons,e']
   rw [xd9 e,b]; exact h2
  ·have e':¬ q.1=k:=fun z=>e (h1.trans z)
   have b:atKey (q :: qs) k=atKey qs k:=by simp [atKey,List.find?_cons,e']
   rw [xck e,b]; exact ih
theorem KT.repl {H:Hp} {kvs:List (List Key × V)} {xs:List (List Key × Addr × Value)} (r:KT H kvs xs) (k:List Key) {y:V} {u:Value} (ry:RelV y u) :
    KT H (kvs.map fun kv=>if kv.1=k then (kv.1,y) else kv) (xs.map (putAt k u)):=by
  induction r with
  | nil=>exact .nil
  | @cons p q ps qs h t ih =>
    rw [List.map_cons,List.map_cons]
    refine .cons ?_ ih
    obtain ⟨h1,h2,h3⟩:=h
    unfold putAt
    by_cases e:p.1=k
    · rw [if_pos e,if_pos (h1.symm.trans e)]; exact ⟨h1,h2,ry⟩
    · rw [if_neg e,if_neg (fun z=>e (h1.trans z))]; exact ⟨h1,h2,h3⟩
theorem KT.put {H:Hp} {kvs:List (List Key × V)} {xs:List (List Key × Addr × Value)} (r:KT H kvs xs) (k:List Key) {b:Addr} {y:V} {u:Value} (hb:H b=some (.tup (k.map kV))) (ry:RelV y u) :
    KT H (putK kvs k y) (storedH xs k b u):=by
  have e:(kvs.any fun kv=>decide (kv.1=k))=(atKey xs k).isSome:=by
    rw [xfk,(r.val k).isSome_eq,Option.isSome_map]
  unfold putK storedH
  rw [e]
  by_cases q:(atKey xs k).isSome=true
  · rw [if_pos q,if_pos q]; exact r.repl k ry
  · rw [if_neg q,if_neg q]; exact Paired.snoc r ⟨rfl,hb,ry⟩
theorem KT.keeps {H H':Hp} {kvs:List (List Key × V)} {xs:List (List Key × Addr × Value)} (r:KT H kvs xs) (ht:∀ b ys,H b=some (.tup ys)→H' b=some (.tup ys)):KT H' kvs xs :=
 Paired.mapP r fun _ _ z=>⟨z.1,ht _ _ z.2.1,z.2.2⟩
section
variable {P:Program} {w:World} {H:Hp} {h:Heap} {a:Addr}
theorem xna {u:HO} (ok:HOk P w H h) (e:Rd H a u):xap P w H h a u:=e.ok ok
theorem xfw {kvs:List (Key × V)} (ok:HOk P w H h) (e:Rd H a (.dK kvs)):kvs.length≤sizeLine∧(a == sysModules)=false∧∃ vs,KV kvs vs∧h.DictOf (xas P w) a vs :=
 show xap P w H h a (.dK kvs) from xna ok e
theorem xjv {kvs:List (Key × V)} (ok:HOk P w H h) (e:H a=some (.dK kvs)):kvs.length≤sizeLine∧(a == sysModules)=false∧∃ vs,KV kvs vs∧h.DictOf (xas P w) a vs:=xfw ok (.inl e)
theorem xf1 {ks:List Key} (ok:HOk P w H h) (e:H a=some (.tup (ks.map kV))):(tupleKind (xas P w)).is h ks a:=by
 obtain ⟨_,its,r,o,h1,h2,n,h3⟩:=(show xap P w H h a (.tup (ks.map kV)) from ok a _ e)
 exact ⟨o,its.toArray,n,h1,h2,h3,by simpa using xgx r⟩
theorem xhb {kvs:List (List Key × V)} (ok:HOk P w H h) (e:Rd H a (.dT kvs)):kvs.length≤sizeLine∧(a == sysModules)=false ∧
    ∃ xs,KT H kvs xs∧h.DictOfH (tupleKind (xas P w)) a xs:=by
  obtain ⟨z,y,xs,r,o,es,ep,h1,h2,h3,h4,h5⟩:=(show xap P w H h a (.dT kvs) from xna ok e)
  refine ⟨z,y,xs,r,o,es,ep,h1,h2,h3,h4,fun x hx=>?_,h5⟩
  have all:∀ {l:List (List Key × V)} {m:List (List Key × Addr × Value)},KT H l m→∀ x ∈ m,(tupleKind (xas P w)).is h x.1 x.2.1:=by
    intro l m q
    induction q with
    | nil=>intro x hx; exact nomatch hx
    | @cons p q ps qs hq t ih =>
      intro x hx
      rcases List.mem_cons.mp hx with e | hx
      · subst e
        exact xf1 ok (by rw [← hq.1]; exact hq.2.1)
      · exact ih x hx
  exact all r x hx
theorem xni {kvs:List (List Key × V)} (ok:HOk P w H h) (e:H a=some (.dT kvs)):kvs.length≤sizeLine∧(a == sysModules)=false ∧
    ∃ xs,KT H kvs xs∧h.DictOfH (tupleKind (xas P w)) a xs:=xhb ok (.inl e)
end
def DGet (H:Hp) (a:Addr) (y:V) (r:Option V):Prop :=
 (∃ kvs k,Rd H a (.dK kvs)∧y=kV k∧r=valV kvs k)∨∃ kvs k b,Rd H a (.dT kvs)∧y=.ref b∧H b=some (.tup (k.map kV))∧r=valV kvs k
def DPut (H:Hp) (a:Addr) (y v:V) (H':Hp):Prop :=
 (∃ kvs k,H a=some (.dK kvs)∧y=kV k∧kvs.length < sizeLine∧H'=upd H a (.dK (putK kvs k v))) ∨
 ∃ kvs k b,H a=some (.dT kvs)∧y=.ref b∧H b=some (.tup (k.map kV))∧kvs.length < sizeLine∧H'=upd H a (.dT (putK kvs k v))
theorem DGet.k {H:Hp} {a:Addr} {kvs:List (Key × V)} {k:Key} (e:H a=some (.dK kvs)):DGet H a (kV k) (valV kvs k):=.inl ⟨kvs,k,.inl e,rfl,rfl⟩
theorem DGet.t {H:Hp} {a b:Addr} {kvs:List (List Key × V)} {k:List Key} (e:H a=some (.dT kvs)) (eb:H b=some (.tup (k.map kV))):DGet H a (.ref b) (valV kvs k):=.inr ⟨kvs,k,b,.inl e,rfl,eb,rfl⟩
theorem DPut.k {H:Hp} {a:Addr} {kvs:List (Key × V)} {k:Key} {v:V} (e:H a=some (.dK kvs)) (hl:kvs.length < sizeLine):DPut H a (kV k) v (upd H a (.dK (putK kvs k v))):=.inl ⟨kvs,k,e,rfl,hl,rfl⟩
theorem DPut.t {H:Hp} {a b:Addr} {kvs:List (List Key × V)} {k:List Key} {v:V} (e:H a=some (.dT kvs)) (eb:H b=some (.tup (k.map kV))) (hl:kvs.length < sizeLine) :
    DPut H a (.ref b) v (upd H a (.dT (putK kvs k v))):=.inr ⟨kvs,k,b,e,rfl,eb,hl,rfl⟩
section
variable {X:Cx} {pins:List (Addr × Obj)} {σ:St} {H:Hp} {s:Shared} {a:Addr} {y v:V} {u r:Value} {o:Option V} {A:Around} {E:Value→Shared→Prop}
theorem Inv.big (I:Inv X pins σ H s):sysModules < s.heap.objs.size:=by
 have h:mainGlobals < s.heap.objs.size:=(I.mod.glob.keeps I.bk).lt
 exact Nat.lt_trans (by decide) h
theorem xky {Q:Value→Shared→Prop} (hu:A.units + 1 < cLine) (I:Inv X pins σ H s) (g:DGet H a y (some v)) (ry:RelV y u) (h:∀ w' s',Inv X pins σ H s'→RelV v w'→Q w' s') :
    wpAny (model X.prog X.w) A (getItem (.ref a) u) Q E s:=by
  rcases g with ⟨kvs,k,e,ey,l⟩ | ⟨kvs,k,b,e,ey,eb,l⟩
  · subst ey
    obtain ⟨z,hd,vs,rel,dd⟩:=xfw I.hok e
    obtain ⟨w',hw,rw'⟩:=RelO.some_of (v:=v) (o:=valueAt vs k) (by rw [l]; exact rel.val k)
    exact wpAny_getItem_of (xds ry) dd.mapOf hw (h w' _ (I.tok _) rw')
  · subst ey
    cases (show u=Value.ref b from ry)
    obtain ⟨z,hd,xs,rel,dd⟩:=xhb I.hok e
    obtain ⟨w',hw,rw'⟩:=RelO.some_of (v:=v) (o:=(atKey xs k).map (·.2)) (by rw [l]; exact rel.val k)
    obtain ⟨p,hp,hp2⟩:=Option.map_eq_some_iff.mp hw
    refine wpAny_getItem_heap (tupleKind_room_in1 hu) (xf1 I.hok eb) dd hp ?_
    rw [hp2]
    exact h w' _ (I.tok _) rw'
theorem d_in {Q:Value→Shared→Prop} (hu:A.units + 1 < cLine) (I:Inv X pins σ H s) (g:DGet H a y o) (ry:RelV y u) (h:∀ s',Inv X pins σ H s'→Q (.bool o.isSome) s') :
    wpAny (model X.prog X.w) A (compareOp .In u (.ref a)) Q E s:=by
  rcases g with ⟨kvs,k,e,ey,l⟩ | ⟨kvs,k,b,e,ey,eb,l⟩
  · subst ey
    obtain ⟨z,hd,vs,rel,dd⟩:=xfw I.hok e
    refine wpAny_in_of (xds ry) hd dd.mapOf ?_
    rw [← (rel.val k).isSome_eq,← l]
    exact h _ (I.tok _)
  · subst ey
    cases (show u=Value.ref b from ry)
    obtain ⟨z,hd,xs,rel,dd⟩:=xhb I.hok e
    refine wpAny_in_heap (tupleKind_room_in1 hu) (xf1 I.hok eb) hd dd ?_
    have q:=(rel.val k).isSome_eq
    rw [Option.isSome_map] at q
    rw [← q,← l]
    exact h _ (I.tok _)
theorem xf9 {h':Heap} {t':Nat} {ob:HO} (I:Inv X pins σ H s) (mu:Mut (H a)) (hs:Heap.SameBut a s.heap h') (he:∃ q,h'.get? a=some q) (new:xap X.prog X.w (upd H a ob) h' a ob) :
    Inv X pins σ (upd H a ob) { s with heap:=h',toks:=t' } :=
  I.write (x:=a) (e:=a) mu (.inl rfl) (fun b q hb z=>(hs.2 b hb).trans z) he new
theorem xj5 {P:Program} {w:World} {H':Hp} {h':Heap} {kvs:List (Key × V)} {vs:List (Key × Value)} (z:kvs.length≤sizeLine) (hd:(a == sysModules)=false) (rel:KV kvs vs) (dd:h'.DictOf (xas P w) a vs) :
    xap P w H' h' a (.dK kvs):=⟨z,hd,vs,rel,dd⟩
theorem xj4 {H':Hp} {Q:Unit→Shared→Prop} (hu:A.units + 1 < cLine) (I:Inv X pins σ H s) (g:DPut H a y v H') (ry:RelV y u) (rv:RelV v r) (h:∀ s',Inv X pins σ H' s'→Q () s') :
    wpAny (model X.prog X.w) A (setItem (.ref a) u r) Q E s:=by
  rcases g with ⟨kvs,k,e,ey,l,eH⟩ | ⟨kvs,k,b,e,ey,eb,l,eH⟩
  · subst ey eH
    obtain ⟨z,hd,vs,rel,dd⟩:=xjv I.hok e
    have hz:vs.length≤sizeLine:=by rw [← rel.length]; exact z
    have hl:(putK kvs k v).length≤sizeLine:=by have:=xdv kvs k v; omega
    refine wpAny_setItem_pairs (hsz:=hz) (xds ry) dd fun h' dd' hs=>h _ ?_
    have he:∃ q,h'.get? a=some q:=let ⟨q,_,_,hq,_⟩:=dd'; ⟨q,hq⟩
    exact xf9 I (by rw [e]; exact True.intro) hs he (xj5 hl hd (rel.put k rv) dd')
  · subst ey eH
    cases (show u=Value.ref b from ry)
    obtain ⟨z,hd,xs,rel,dd⟩:=xni I.hok e
    have hz:xs.length≤sizeLine:=by rw [← Paired.length rel]; exact z
    have hl:(putK kvs k v).length≤sizeLine:=by have:=xdv kvs k v; omega
    refine wpAny_setItem_heap (hsz:=hz) (tupleKind_room_in1 hu) (xf1 I.hok eb) dd fun h' dd' hs=>h _ ?_
    obtain ⟨q,es,ep,hq,h2,h3,h4,_,h5⟩:=dd'
    refine xf9 I (by rw [e]; exact True.intro) hs ⟨q,hq⟩ ⟨hl,hd,_,(rel.put k eb rv).keeps fun c ys ec=>?_,q,es,ep,hq,h2,h3,h4,h5⟩
    rw [xj (xbk ec e (fun z=>nomatch z))]
    exact ec
end
section
variable {X:Cx} {pins:List (Addr × Obj)} {σ:St} {H:Hp} {s:Shared} {a:Addr} {kvs:List (Key × V)} {k:Key} {u:Value} {A:Around} {E:Value→Shared→Prop}
theorem xq0 {Q:Value→Shared→Prop} (I:Inv X pins σ H s) (e:Rd H a (.dK kvs)) (h:∀ t s',Inv X pins σ H s'→Q (.int kvs.length t) s'):wpAny (model X.prog X.w) A (call (.builtin "len") [.ref a]) Q E s:=by
 obtain ⟨z,hd,vs,rel,dd⟩:=xfw I.hok e
 refine call_len_dict hd dd (by rw [← rel.length]; rw [sizeLine_eq] at z; omega) ?_
 rw [← rel.length]
 exact h _ _ (I.tok _)
end
def NoSl (i:Expr):Prop:=∀ ov iv,subscripted i false ov iv=operate [ov,iv] (getItem ov iv)
theorem xnz {prog:Program} {w:World} {A:Around} {E:Value→Shared→Prop} {s:Shared} {env:Env} {value slice:Expr} {pos:Pos} {T id:String} {Q:Value→Shared→Prop}
    (hl:typeLookup (.type T) "__getitem__"=pure (some (.builtin id))) (hs:NoSl slice)
    (h:wpAny (model prog w) A (eval value env) (fun o s₁=>wpAny (model prog w) A (eval slice env) (fun i s₂=>s₂.TypeIs o T∧wpAny (model prog w) A (getItem o i) Q E s₂) E s₁) E s) :
    wpAny (model prog w) A (eval (.Subscript value slice pos) env) Q E s:=by
  refine Subscript_ (wpAny_mono h (fun o s₁ h₁=>wpAny_mono h₁ (fun i s₂ h₂=>?_) fun _ _ x=>x) fun _ _ x=>x)
  obtain ⟨hT,h₂⟩:=h₂
  unfold subscriptTail
  refine wpAny_bind ?_
  rw [getitemInPython_of_ne hT.not_modules]
  refine wpAny_bind (wpAny_specialOf hT hl ?_)
  have fin:wpAny (model prog w) A (subscripted slice false o i) (fun r s₃=>wpAny (model prog w) A (letTemporaryGo value o r >>= fun _=>pure r) Q E s₃) E s₂:=by
    rw [hs o i]
    exact wpAny_operating (wpAny_mono h₂ (fun r s₃ h₃=>wpAny_bind (wpAny_letTemporaryGo (wpAny_pure h₃))) fun _ _ x=>x)
  first
    | exact wpAny_pure (wpAny_bind fin)
    | exact wpAny_bind (wpAny_pure (wpAny_bind fin))
    | exact wpAny_bind fin
theorem xih {X:Cx} {pins:List (Addr × Obj)} {σ:St} {H:Hp} {s:Shared} {a:Addr} {y:V} {o:Option V} (I:Inv X pins σ H s) (g:DGet H a y o):s.TypeIs (.ref a) "dict":=by
 rcases g with ⟨kvs,k,e,_,_⟩ | ⟨kvs,k,b,e,_,_,_⟩
 ·obtain ⟨_,_,vs,_,dd⟩:=xfw I.hok e
  exact dd.typeIs
 ·obtain ⟨_,_,xs,_,dd⟩:=xhb I.hok e
  exact dd.typeIs
def xqp (td ty:TE):TE:=fun σ H Q=>td σ H fun x H1=>ty σ H1 fun y H2=>∃ a v,x=.ref a∧DGet H2 a y (some v)∧Q v H2
def tDIn (ty td:TE):TE:=fun σ H Q=>ty σ H fun y H1=>td σ H1 fun x H2=>∃ a o,x=.ref a∧DGet H2 a y o∧Q (.bl o.isSome) H2
def xrh (td ty tv:TE):TS:=fun D σ H=>tv σ H fun v H1=>td σ H1 fun x H2=>ty σ H2 fun y H3=>∃ a H4,x=.ref a∧DPut H3 a y v H4∧D.nx σ H4
section
variable {X:Cx} {o i e value:Expr} {pos pos' tpos:Pos} {td ty tv:TE}
theorem xc7 (hu:X.A.units + 1 < cLine) (ho:PE X o td) (hi:PE X i ty) (hs:NoSl i):PE X (.Subscript o i pos) (xqp td ty):=by
 intro pins s σ H Q I h
 refine xnz PySem.F.slot_dict_getitem.lookup hs (thn (ho pins s σ H _ I h) fun u s1 ⟨x,H1,I1,rx,q1⟩=>thn (hi pins s1 σ H1 _ I1 q1) fun iv s2 ⟨y,H2,I2,ry,a,v,ex,g,q2⟩=>?_)
 subst ex
 obtain rfl:u=Value.ref a:=rx
 exact ⟨xih I2 g,xky hu I2 g ry fun w' s3 I3 rw'=>⟨v,H2,I3,rw',q2⟩⟩
theorem xku (hu:X.A.units + 1 < cLine) (hi:PE X i ty) (ho:PE X o td):PC X .In i o (tDIn ty td):=by
 intro pins s σ H Q I h
 refine thn (hi pins s σ H _ I h) fun iv s1 ⟨y,H1,I1,ry,q1⟩=>thn (ho pins s1 σ H1 _ I1 q1) fun u s2 ⟨x,H2,I2,rx,a,ov,ex,g,q2⟩=>?_
 subst ex
 obtain rfl:u=Value.ref a:=rx
 exact d_in hu I2 g ry fun s3 I3=>⟨.bl ov.isSome,H2,I3,rfl,q2⟩
theorem xit (hu:X.A.units + 1 < cLine) (ho:PE X o td) (hi:PE X i ty) (hv:PE X value tv) (hs:swapsWith value (some (.Subscript o i pos')) pos.line X.env=pure false) :
    PS X (.Assign [.Subscript o i pos'] value pos) (xrh td ty tv):=by
  intro pins s σ H D I h
  refine wpAny_Assign_Subscript (thn (hv pins s σ H _ I h) fun r s1 ⟨v,H1,I1,rv,q1⟩=>thn (ho pins s1 σ H1 _ I1 q1) fun u s2 ⟨x,H2,I2,rx,q2⟩=>thn (hi pins s2 σ H2 _ I2 q2) fun iv s3 ⟨y,H3,I3,ry,a,H4,ex,g,q3⟩=>?_) hs
  subst ex
  obtain rfl:u=Value.ref a:=rx
  exact xj4 hu I3 g ry rv fun s4 I4=>⟨σ,H4,I4,q3⟩
end
theorem xhj {P:Program} {w:World} {H:Hp} (h:Heap) (hb:sysModules < h.objs.size):xap P w H (h.push { cls:=.type "dict",data:=.dict #[] }) h.objs.size (.dK []) :=
 ⟨Nat.zero_le _,beq_eq_false_iff_ne.mpr (Ne.symm (Nat.ne_of_lt hb)),[],.nil,Heap.DictOf.new h⟩
theorem xlt {P:Program} {w:World} {H:Hp} (h:Heap) (hb:sysModules < h.objs.size):xap P w H (h.push { cls:=.type "dict",data:=.dict #[] }) h.objs.size (.dT []) :=
 ⟨Nat.zero_le _,beq_eq_false_iff_ne.mpr (Ne.symm (Nat.ne_of_lt hb)),[],.nil,_,#[],0,Heap.get?_push_size _ rfl,⟨rfl,rfl,rfl⟩,rfl,rfl,List.nodup_nil⟩
def xpz:TE:=fun _ H Q=>∀ p,H p=none→Q (.ref p) (upd H p (.dK []))
def xo7:TE:=fun _ H Q=>∀ p,H p=none→Q (.ref p) (upd H p (.dT []))
section
variable {X:Cx} {pos:Pos}
theorem xl1:PE X (.Dict [] [] pos) xpz:=fun pins s σ H Q I h =>
 wpAny_Dict_empty ⟨.ref s.heap.objs.size,_,I.laid (a:=s.heap.objs.size) (o:=.dK []) (t':=s.toks) (fun _ _ q=>Heap.get?_push_of_some _ q) (Nat.le_refl _) (xhj s.heap I.big),rfl,h _ (I.hok.fresh (Nat.le_refl _))⟩
theorem xmg:PE X (.Dict [] [] pos) xo7:=fun pins s σ H Q I h =>
 wpAny_Dict_empty ⟨.ref s.heap.objs.size,_,I.laid (a:=s.heap.objs.size) (o:=.dT []) (t':=s.toks) (fun _ _ q=>Heap.get?_push_of_some _ q) (Nat.le_refl _) (xlt s.heap I.big),rfl,h _ (I.hok.fresh (Nat.le_refl _))⟩
end
def xh4:List (TE × TE)→St→Hp→(List (V × V)→Hp→Prop)→Prop
 | [],_,H,Q=>Q [] H
 | (tk,tv) :: r,σ,H,Q=>tk σ H fun x H1=>tv σ H1 fun y H2=>xh4 r σ H2 fun ps H3=>Q ((x,y) :: ps) H3
abbrev VV:List (V × V)→List (Value × Value)→Prop:=Paired fun p q=>RelV p.1 q.1∧RelV p.2 q.2
def PPs (X:Cx) (pos:Pos) (keys:List (Option Expr)) (values:List Expr) (trs:List (TE × TE)):Prop :=
 ∀ (pins:List (Addr × Obj)) (s:Shared) (σ:St) (H:Hp) (Q:List (V × V)→Hp→Prop),Inv X pins σ H s→xh4 trs σ H Q →
  wpAny (model X.prog X.w) X.A (evalPairs (pairTrees keys values X.env pos)) (fun vs s'=>∃ ps H',Inv X pins σ H' s'∧VV ps vs∧Q ps H') X.xe s
theorem xnr {X:Cx} {pos:Pos}:PPs X pos [] [] []:=fun pins s σ H Q I h=>pairTrees_nil_walk ⟨[],H,I,.nil,h⟩
theorem xhw {X:Cx} {pos:Pos} {k v:Expr} {ks:List (Option Expr)} {vs:List Expr} {tk tv:TE} {trs:List (TE × TE)} (hk:PE X k tk) (hv:PE X v tv) (hr:PPs X pos ks vs trs) :
    PPs X pos (some k :: ks) (v :: vs) ((tk,tv) :: trs):=fun pins s σ H Q I h =>
  pairTrees_cons_walk (thn (hk pins s σ H _ I h) fun u s1 ⟨x,H1,I1,rx,q1⟩=>thn (hv pins s1 σ H1 _ I1 q1) fun w2 s2 ⟨y,H2,I2,ry,q2⟩ =>
    thn (hr pins s2 σ H2 _ I2 q2) fun ws s3 ⟨ps,H3,I3,rel,q3⟩=>⟨(x,y) :: ps,H3,I3,.cons ⟨rx,ry⟩ rel,q3⟩)
def xd4 (kvs more:List (Key × V)):List (Key × V):=more.foldl (fun acc kv=>putK acc kv.1 kv.2) kvs
theorem KV.merge:∀ {more:List (Key × V)} {rs:List (Key × Value)} {kvs:List (Key × V)} {vs:List (Key × Value)},KV more rs→KV kvs vs→KV (xd4 kvs more) (merged vs rs):=by
 intro more rs kvs vs r
 unfold KV at r
 induction r generalizing kvs vs with
 | nil=>intro q; exact q
 | @cons p q ps qs h t ih =>
  intro r0
  have e:KV (putK kvs p.1 p.2) (stored vs q.1 q.2):=by
   have:=r0.put p.1 h.2
   rw [← h.1]; exact this
  exact ih e
theorem xef:∀ (more kvs:List (Key × V)),(xd4 kvs more).length≤kvs.length + more.length
 | [],kvs=>by show kvs.length≤kvs.length + 0; omega
 | p :: r,kvs=>by
  have h1:=xef r (putK kvs p.1 p.2)
  have h2:=xdv kvs p.1 p.2
  show (xd4 (putK kvs p.1 p.2) r).length≤_
  rw [List.length_cons]; omega
theorem xfu {P:Program} {w:World}:∀ {kvs:List (Key × V)} {ws:List (Value × Value)},VV (kvs.map fun kv=>(kV kv.1,kv.2)) ws→∃ rs,Carries (xas P w) ws rs∧KV kvs rs
 | [],_,r=>by rw [List.map_nil] at r; cases r; exact ⟨[],True.intro,.nil⟩
 | p :: kvs,_,r=>by
  rw [List.map_cons] at r
  cases r with
  | @cons a b as bs h t =>
   obtain ⟨rs,c,q⟩:=xfu (P:=P) (w:=w) t
   obtain ⟨b1,b2⟩:=b
   exact ⟨(p.1,b2) :: rs,⟨xds h.1,rfl,c⟩,.cons ⟨rfl,h.2⟩ q⟩
def xq9 (trs:List (TE × TE)):TE:=fun σ H Q=>∀ p,H p=none→xh4 trs σ (upd H p (.dK [])) fun ps H2=>H2 p=some (.dK [])∧∃ kvs:List (Key × V),ps=kvs.map (fun kv=>(kV kv.1,kv.2))∧kvs.length≤15∧Q (.ref p) (upd H2 p (.dK (xd4 [] kvs)))
theorem xou {X:Cx} {pos:Pos} {keys:List (Option Expr)} {values:List Expr} {trs:List (TE × TE)} (h:PPs X pos keys values trs) (hall:keys.all (·.isSome)=true) (hl:keys.length=values.length) (h0:keys≠[])
    (h15:keys.length≤15):PE X (.Dict keys values pos) (xq9 trs):=by
  intro pins s σ H Q I q
  have hn:=I.hok.fresh (Nat.le_refl s.heap.objs.size)
  have I1:=I.laid (a:=s.heap.objs.size) (o:=.dK []) (h':=s.heap.push { cls:=.type "dict",data:=.dict #[] }) (t':=s.toks) (fun _ _ q=>Heap.get?_push_of_some _ q) (Nat.le_refl _) (xhj s.heap I.big)
  refine wpAny_Dict_walk (knd:=xas X.prog X.w) hall hl h0 h15 (thn (h pins _ σ _ _ I1 (q _ hn)) fun ws s2 ⟨ps,H2,I2,rel,e,kvs,ep,lk,q2⟩=>?_)
  subst ep
  obtain ⟨rs,c,rk⟩:=xfu (P:=X.prog) (w:=X.w) rel
  obtain ⟨z,hd,vs0,r0,dd⟩:=xjv I2.hok e
  cases r0
  refine ⟨rs,c,dd,fun h' dd' hs=>⟨.ref s.heap.objs.size,_,?_,rfl,q2⟩⟩
  have hz:(xd4 [] kvs).length≤sizeLine:=by
    have h1:=xef kvs []
    rw [List.length_nil] at h1
    rw [sizeLine_eq]; omega
  have he:∃ q,h'.get? s.heap.objs.size=some q:=let ⟨q,_,_,hq,_⟩:=dd'; ⟨q,hq⟩
  exact xf9 I2 (by rw [e]; exact True.intro) hs he (xj5 hz hd (rk.merge .nil) dd')
section
variable {X:Cx} {pins:List (Addr × Obj)} {σ:St} {H:Hp} {s:Shared} {a:Addr} {y d:V} {u r:Value} {o:Option V} {A:Around} {E:Value→Shared→Prop}
end
section
variable {X:Cx} {o e f:Expr} {apos cpos:Pos} {td ty tx:TE}
end
section
variable {X:Cx} {pins:List (Addr × Obj)} {σ:St} {H:Hp} {s:Shared} {a:Addr} {kvs:List (Key × V)} {A:Around} {E:Value→Shared→Prop}
end
section
variable {X:Cx} {pins:List (Addr × Obj)} {σ:St} {H:Hp} {s:Shared} {a:Addr} {y:V} {u:Value} {A:Around} {E:Value→Shared→Prop}
end
end L2
namespace Att
open PySem PySem.W PySem.Calls PyProof.Rows
theorem xf4 {P:Params} {h:Heap}:∀ (ns:List Int) (vs:List Value),WellAll P h vs (ns.map WData.int)→IntsAre vs ns:=by
 intro ns
 induction ns with
 | nil =>
  intro vs w
  rw [List.map_nil] at w
  cases w
  exact .nil
 | cons n ns ih =>
  intro vs w
  rw [List.map_cons] at w
  cases w with
  | cons a b =>
   cases a
   exact .cons _ _ (ih _ b)
theorem xk7 {l:OpenLaw} {n:Nat} (hn:l.most=some n) {P:Params} {h:Heap} {args:List WData} {vals:List Value}
    (hpre:l.row.toRowW.claim.pre args=true) (hwl:WellAll P h vals args) :
    ∃ a vs ns,vals=[Value.ref a]∧args=[WData.list (ns.map WData.int)]∧h.get? a=some { cls:=.type "list",data:=.seq vs.toArray }∧IntsAre vs ns∧ns.length≤n:=by
  have hsh:WShape.hasAll [] args [.list .int]=true:=(pre_splitW hpre).1
  have hc:l.pre.holds [] { args:=args }=true:=(pre_splitW hpre).2
  obtain ⟨d,r,rfl,h1,h2⟩:=hasAllW_cons hsh
  obtain rfl:=hasAllW_nil h2
  obtain ⟨xs,rfl,h3⟩:=hasW_list h1
  obtain ⟨ns,rfl⟩:=items_int h3
  have hlen:ns.length≤n:=by
    unfold OpenLaw.pre at hc
    have h4:(WTm.not (.lt (.lit (.int (n:Int))) (.len (.arg 0)))).holds [] { args:=[.list (ns.map .int)] }=true:=by
      have h4:=(holds_andW hc).1
      rw [hn] at h4
      exact h4
    have h5:=condW_of h4 (w_not (w_lt w_lit (w_len_list (w_arg rfl))))
    rw [List.length_map] at h5
    refine Nat.le_of_not_lt fun q=>?_
    have q':(n:Int) < ((ns.length:Nat):Int):=by omega
    first
      | (rw [decide_eq_true q'] at h5; exact absurd h5 (by decide))
      | (simp at h5; omega)
  cases hwl with
  | cons w1 w2 =>
    cases w2
    cases w1 with
    | list ho hall=>exact ⟨_,_,ns,rfl,rfl,ho,xf4 ns _ hall,hlen⟩
theorem xkj (l:OpenLaw) (args:List WData):l.row.toRowW.claim.post args (.bool true) args=true :=
 postW_of (r:=l.row.toRowW) (X:=(true == true))
  (show WShape.has [] (.bool true) .bool=true by first | rfl | decide | simp [WShape.has,WShape.arms,WShape.armsAll])
  (show (WTm.eq .res (.lit (.bool true))).value [] { args:=args,res:=some (.bool true),after:=args }=some (.bool (true == true)) from w_eq_bool (w_res rfl) w_lit) rfl
theorem attach_call {l:OpenLaw} {n:Nat} {q:Program} {loose:List Str} {XP:(Str→Option Value)→Heap→Prop} {YP:World→Heap→Prop} {d:DefRec}
    (hn:l.most=some n) (hdf:d.params.defaults=[])
    (call:∀ (w:World) (s₀ s₁:Shared) (mg mb:Str→Option Value) (fa:Addr) (o:Obj) (pm cd doc:Value) (a:Addr) (vs:List Value) (ns:List Int),
      Ground q loose [] XP w s₀ mg mb s₁.heap→YP w s₁.heap →
      s₁.heap.get? fa=some o→o.data=.func (docDef d.name d.params d.body d.scope pm cd doc)→s₁.heap.CodeRec cd d.name→mg d.name=some (.ref fa) →
      s₁.heap.get? a=some { cls:=.type "list",data:=.seq vs.toArray }→IntsAre vs ns→ns.length≤n→s₁.gens=#[] →
      codeAny (model l.prog w) callerA (.call (.ref fa) ⟨[.ref a],[]⟩) (fun r s'=>r=.ok (.ret (.bool true))∧OldK s₁.heap s'.heap∧s'.os=s₁.os∧AllBare s'.gens) s₁) :
    WalkO q loose XP YP l.row.toRowW d [] (fun f vs=>PySem.call f vs):=by
  intro w s₀ s₁ mg mb G Y fa o pm cd doc dV kV ho hd hcd hD hmg hg args vals as hpre hlay hrd hwl hlo
  obtain rfl:dV=.none:=Dflts.none hD hdf
  obtain rfl:kV=.none:=Dflts.noKw hD
  obtain ⟨a,vs,ns,rfl,rfl,hobj,hints,hlen⟩:=xk7 hn hpre hwl
  refine enter_call (codeAny_mono (call w s₀ s₁ mg mb fa o pm cd doc a vs ns G Y ho (fd_plain hd) hcd hmg hobj hints hlen hg) fun r s' hq=>?_)
  obtain ⟨rfl,h2,h3,h4⟩:=hq
  exact ⟨.inl ⟨.bool true,.bool true,[],rfl,fun _=>rfl,.bool true,xkj l _,fun _=>⟨List.Pairwise.nil,fun _ hm=>(nomatch hm)⟩⟩,h2,h3,h4⟩
section
variable {prog:Program} {w:World} {A:Around} {E:Value→Shared→Prop} {s:Shared} {K:Frag}
def xro (h:Heap) (L d:Addr):List (Addr × Obj):=(List.range h.objs.size).filterMap fun a=>if a=L∨a=d then none else (h.get? a).map fun o=>(a,o)
end
end Att
namespace L2
open PySem PySem.Spec PyProof.Rows
variable {q0:Bool}
theorem xgo:∀ {vs:List Value} {ns:List Int},IntsAre vs ns→Vals (ns.map V.int) vs
 | _,_,.nil=>.nil
 | _,_,.cons n t h=>.cons ⟨t,rfl⟩ (xgo h)
def Only (H:Hp):Prop:=∀ b,H b=none∨∃ o xs,H b=some (.frz o (.lst xs))
theorem xmf {P:Program} {w:World} {K:PySem.W.Frag} {mg mb:Str→Option Value} {CX:CXT} {k:Nat} {fa a:Addr} {fd:FuncData} {x:Str} {sp:Sp} {s₁:Shared} {vs:List Value} {ns:List Int}
    (KX:K.In s₁.heap) (hns:s₁.heap.Ns mainGlobals mg) (hb:s₁.heap.Ns builtinsNs mb) (hbb:∀ x:Str,x≠"__name__"→mb x=bootBuiltins x) (hlim:s₁.heap.NoLimit) (hg:s₁.gens=#[])
    (ha:s₁.heap.get? a=some { cls:=.type "list",data:=.seq vs.toArray }) (hi:IntsAre vs ns) (hl:ns.length≤sizeLine) (hr:Room q0 k callerA)
    (F:∀ base:Heap,K.In base→base.Ns mainGlobals mg→FnOk q0 P w K mg base CX k fa fd [x] sp) (hbind:∀ (s:Shared) (u:Value),BindsTo s fd ⟨[u],[]⟩ [(x,u)])
    (hsp:∀ H:Hp,Only H→SqL K H a (ns.map V.int)→sp [.ref a] H (fun v _=>v=.bl true) fun _ _ _=>False)
    (hCX:∀ H e s',CX [] H s₁ (fun _ _ _=>False) e s'→False) :
    codeAny (model P w) callerA (.call (.ref fa) ⟨[.ref a],[]⟩) (fun r s'=>r=.ok (.ret (.bool true))∧OldK s₁.heap s'.heap∧s'.os=s₁.os∧AllBare s'.gens) s₁:=by
  have rv:=xgo hi
  have lenV:=hi.length
  -- from an abstract heap in which nothing but the script may be tracked
  have core:∀ H:Hp,Only H→SqL K H a (ns.map V.int)→HOk P w H s₁.heap→(∀ b,H b≠none→b=a)→(H a≠none→K.lookup a=none) →
      codeAny (model P w) callerA (.call (.ref fa) ⟨[.ref a],[]⟩) (fun r s'=>r=.ok (.ret (.bool true))∧OldK s₁.heap s'.heap∧s'.os=s₁.os∧AllBare s'.gens) s₁:=by
    intro H hO hS hok hA hK
    have base_of:∀ {b:Addr} {o:Obj},s₁.heap.get? b=some o→H b=none→(hidT s₁.heap H).get? b=some o:=fun e n=>xlw e n
    have noA:∀ {b:Addr} {o:Obj} {es:Array DictEntry} {ep:Nat},s₁.heap.get? b=some o→o.data=.dict es ep→H b=none:=fun {b o es ep} e d=>by
      cases q:H b with
      | none=>rfl
      | some u =>
        have e':b=a:=hA b (by rw [q]; simp)
        subst e'
        rw [ha] at e; cases e
        have d':Data.seq vs.toArray _=Data.dict es ep:=d
        cases d'
    have nsK:∀ {b:Addr} {m:Str→Option Value},s₁.heap.Ns b m→(hidT s₁.heap H).Ns b m:=fun {b m} ⟨o,es,ep,e,d,r⟩=>⟨o,es,ep,base_of e (noA e d),d,r⟩
    have hKb:K.In (hidT s₁.heap H):=fun b o e=>base_of (KX b o e) (by
      cases q:H b with
      | none=>rfl
      | some u =>
        have e':b=a:=hA b (by rw [q]; simp)
        subst e'
        rw [hK (by rw [q]; simp)] at e; cases e)
    have hM:Mod K mg (hidT s₁.heap H):=⟨hKb,nsK hns,⟨mb,nsK hb,hbb⟩,let ⟨mc,h1,h2⟩:=hlim; ⟨mc,nsK h1,h2⟩⟩
    have e0:Env0 P w K mg (hidT s₁.heap H) callerA [] s₁ H:=⟨rfl,hM,fun b o e=>xo0 e,Nat.le_of_eq (xkh _ _),trivial,fun b hb=>absurd (show b ∈ ([]:List Addr) from hb) (by simp),hok,.of_eq hg⟩
    refine codeAny_mono ((F _ hKb (nsK hns)).run callerA [] s₁ H ⟨[.ref a],[]⟩ [.ref a] [.ref a] _ _ hr e0 (hbind s₁ (.ref a)) (.cons rfl .nil) (hsp H hO hS)) fun r s' h=>?_
    cases r with
    | error e=>exact (hCX H e s' h).elim
    | ok fl =>
      cases fl with
      | next=>exact False.elim h
      | brk=>exact False.elim h
      | cont=>exact False.elim h
      | ret u =>
        obtain ⟨v,H',os,bare,un,hok',r',q⟩:=h
        have q':v=.bl true:=q
        subst q'
        obtain rfl:u=Value.bool true:=r'
        refine ⟨rfl,OldK.of_keep fun b o e=>?_,os,bare⟩
        cases q:H b with
        | none=>exact un.keep b o e q (by intro z; exact absurd (show b ∈ ([]:List Addr) from z) (by simp)) (by simp)
        | some u =>
          rcases hO b with z | ⟨ob,xs,z⟩
          · rw [q] at z; cases z
          · have z2:=un.frzs b ob _ z
            obtain ⟨e1,_⟩:=hok b _ z
            obtain ⟨e2,_⟩:=hok' b _ z2
            rw [e] at e1; cases e1
            exact e2
  cases hk:K.lookup a with
  | some o =>
    -- the script is one of the module's own objects
    have e:=KX a o hk
    rw [ha] at e
    cases e
    refine core (fun _=>none) (fun _=>.inl rfl) (.inr ⟨_,vs.toArray,_,hk,rfl,rfl,rfl,by rw [List.size_toArray,lenV]; exact hl,by simpa using rv⟩) (fun b u z=>by have z':(none:Option HO)=some u:=z; cases z') (fun b z=>absurd rfl z) fun z=>absurd rfl z
  | none =>
    refine core (fun b=>if b=a then some (.frz { cls:=.type "list",data:=.seq vs.toArray } (.lst (ns.map V.int))) else none) (fun b=>?_) (.inl (.inr ⟨{ cls:=.type "list",data:=.seq vs.toArray },if_pos rfl⟩)) (fun b u z=>?_) (fun b z=>?_) fun _=>hk
    · by_cases hb:b=a
      · exact .inr ⟨_,_,if_pos hb⟩
      · exact .inl (if_neg hb)
    · by_cases hb:b=a
      · have z':=(if_pos hb).symm.trans z
        cases z'
        subst hb
        exact ⟨ha,by rw [List.length_map]; exact hl,vs,_,rv,ha⟩
      · have z':=(if_neg hb).symm.trans z
        cases z'
    · by_cases hb:b=a
      · exact hb
      · exact absurd (if_neg hb) z
end L2
namespace L2
open PySem PySem.Spec PyProof.Rows
variable {q0:Bool}
abbrev KOf {K:PySem.W.Frag} {h:Heap} (_:K.In h):PySem.W.Frag:=K
theorem walk_of {l:PySem.W.OpenLaw} {n k:Nat} {q:Program} {loose:List Str} {XP:(Str→Option Value)→Heap→Prop} {YP:World→Heap→Prop} {d:DefRec} {K:Params→PySem.W.Frag} {CX:World→CXT} {sp:World→Sp} {x:Str}
    (hn:l.most=some n) (hn2:n≤sizeLine) (hdf:d.params.defaults=[]) (hr:Room q0 k callerA)
    (hY:∀ (w:World) (h:Heap),YP w h→(K w.params).In h)
    (F:∀ (w:World) (mg:Str→Option Value) (fa:Addr) (h:Heap),(K w.params).In h→h.Ns mainGlobals mg→mg d.name=some (.ref fa) →
      ∃ fd:FuncData,(∀ (s:Shared) (u:Value),BindsTo s fd ⟨[u],[]⟩ [(x,u)]) ∧
        ∀ base:Heap,(K w.params).In base→base.Ns mainGlobals mg→FnOk q0 l.prog w (K w.params) mg base (CX w) k fa fd [x] (sp w))
    (hsp:∀ (w:World) (H:Hp) (a:Addr) (ns:List Int),ns.length≤n→Only H→SqL (K w.params) H a (ns.map V.int)→sp w [.ref a] H (fun v _=>v=.bl true) fun _ _ _=>False)
    (hCX:∀ (w:World) (H:Hp) (s:Shared) (e:Value) (s':Shared),CX w [] H s (fun _ _ _=>False) e s'→False) :
    PySem.W.WalkO q loose XP YP l.row.toRowW d [] (fun f vs=>PySem.call f vs):=by
  refine Att.attach_call hn hdf fun w s₀ s₁ mg mb fa o pm cd doc a vs ns G Y ho hd hcd hmg hobj hints hlen hg=>?_
  have KX:=hY w _ Y
  obtain ⟨fd,hb,hF⟩:=F w mg fa _ KX G.T.g hmg
  exact xmf KX G.T.g G.T.b G.T.builtins G.T.nolimit hg hobj hints (Nat.le_trans hlen hn2) hr hF hb (fun H hO hS=>hsp w H a ns hlen hO hS) fun H e s'=>hCX w H s₁ e s'
end L2
namespace L2
open PySem PySem.Spec PyProof.Rows
variable {q0:Bool}
def xcd (s:Stmt) (j:Nat):Stmt:=match s with
 | .ClassDef _ _ _ body _ _ _ _ _ _ _=>body.getD j (.Pass ⟨0,0,0,0⟩)
 | _=>.Pass ⟨0,0,0,0⟩
def x6 (s:Stmt):Arguments:=match s with
 | .FunctionDef _ a _ _ _ _ _ _ _ _=>a
 | _=>{ posonlyargs:=[],args:=[],vararg:=none,kwonlyargs:=[],kw_defaults:=[],kwarg:=none,defaults:=[] }
def x4 (s:Stmt):List Stmt:=match s with
 | .FunctionDef _ _ b _ _ _ _ _ _ _=>b
 | _=>[]
def xi (s:Stmt):Scope:=match s with
 | .FunctionDef _ _ _ _ _ _ sc _ _ _=>sc
 | _=>{ kind:=.function,names:=[],isGenerator:=false,isCoroutine:=false }
abbrev CX0:CXT:=fun _ _ _ _ _ _=>False
structure Fun (K:PySem.W.Frag) (x qual:Str) (st:Stmt) (f:Addr) (fd:FuncData):Prop where
 ex:∃ (oc:Value) (od:Option Addr) (kV doc pm:Value) (an:Option Addr) (cdv ct:Value) (osl:Array (Option Value)),
  fd=PySem.W.fnOf x qual (x6 st) (x4 st) (xi st) .none kV doc pm an cdv ct∧K.lookup f=some ⟨oc,od,.func fd,osl⟩∧PySem.W.codeIn K cdv qual=true
 kp:PySem.W.keepIn K (.ref f)=true
section
variable {P:Program} {w:World} {K:PySem.W.Frag} {mg:Str→Option Value} {base:Heap}
theorem Fun.ok {x qual:Str} {st:Stmt} {f:Addr} {fd:FuncData} {N ps:List Str} {k:Nat} {sp:Sp} (F:Fun K x qual st f fd) (S:x9 N ps (xi st)) (len:∀ vs H Q E,sp vs H Q E→vs.length=ps.length)
    (hbody:∀ (cdv:Value) (A:Around) (outer:List Env) (s:Shared) (H:Hp) (vs:List V) (Q:VK) (E:XK),Room q0 k (A.deeper (envOfC qual (xi st) s.heap.objs.size f cdv))→sp vs H Q E →
      ∃ t,PSs (cxOf q0 CX0 P w K mg base N qual (xi st) f cdv A outer s H E).nox (x4 st) t∧t { nx:=fun _ H'=>Q .non H',rt:=Q } (xcx N vs) H):FnOk q0 P w K mg base CX0 (k + 1) f fd ps sp:=by
  obtain ⟨oc,od,kV,doc,pm,an,cdv,ct,osl,rfl,lk,hcd⟩:=F.ex
  refine xja lk hcd S len fun A outer s H vs Q E hr hsp=>?_
  obtain ⟨t,h,q⟩:=hbody cdv A outer s H vs Q E hr hsp
  exact ⟨t,h.nox,q⟩
theorem Fun.binds {x qual:Str} {st:Stmt} {f:Addr} {fd:FuncData} {ps:List Str} (F:Fun K x qual st f fd)
    (h:∀ (kV doc pm:Value) (an:Option Addr) (cdv ct:Value) (us:List Value),us.length=ps.length→bindArgs (PySem.W.fnOf x qual (x6 st) (x4 st) (xi st) .none kV doc pm an cdv ct) ⟨us,[]⟩=pure (ps.zip us)):xae K fd ps []:=by
  obtain ⟨oc,od,kV,doc,pm,an,cdv,ct,osl,rfl,lk,hcd⟩:=F.ex
  exact .all (h kV doc pm an cdv ct)
theorem xu {x qual:Str} {st:Stmt} {f:Addr} {oc:Value} {od an:Option Addr} {osl:Array (Option Value)} {kV doc pm cdv ct:Value} (l:K.lookup f=some ⟨oc,od,.func (PySem.W.fnOf x qual (x6 st) (x4 st) (xi st) .none kV doc pm an cdv ct),osl⟩)
    (c:PySem.W.codeIn K cdv qual=true) (k:PySem.W.keepIn K (.ref f)=true):Fun K x qual st f (PySem.W.fnOf x qual (x6 st) (x4 st) (xi st) .none kV doc pm an cdv ct):=⟨⟨oc,od,kV,doc,pm,an,cdv,ct,osl,rfl,l,c⟩,k⟩
end
theorem xcu {A:Around} {k:Nat} (hr:Room q0 k A):A.units + 1 < cLine:=Nat.lt_of_le_of_lt (Nat.add_le_add_left (by decide:1≤64) _) hr.units
section
variable {X:Cx}
theorem pv (i:Nat) {x:Str} {pos:Pos} (hN:X.N[i]?=some x:=by rfl) (hv:Vis X.env.scope x:=by first | exact Or.inl rfl | exact Or.inr (Or.inl rfl) | exact Or.inr (Or.inr rfl)) (hd:(x == ("__debug__":Str))=false:=by decide)
    (hcd:(x == ("__classdict__":Str))=false:=by decide):PE X (.Name x pos) (tVar i):=xqa hN hv hd hcd
end
theorem iteF {A B:Prop} (h:B):if false=true then A else B:=by
 rw [if_neg Bool.false_ne_true]
 exact h
theorem iteT {A B:Prop} (h:A):if true=true then A else B:=by
 rw [if_pos rfl]
 exact h
theorem ite2 {c A B:Prop} [Decidable c] (h1:c→A) (h2:¬ c→B):if c then A else B:=by
 by_cases h:c
 ·rw [if_pos h]
  exact h1 h
 ·rw [if_neg h]
  exact h2 h
def Same (H H':Hp):Prop:=∀ b o,H b=some o→H' b=some o
theorem Same.refl (H:Hp):Same H H:=fun _ _ h=>h
theorem Same.trans {H H1 H2:Hp} (a:Same H H1) (b:Same H1 H2):Same H H2:=fun c o h=>b c o (a c o h)
theorem Same.free {H H':Hp} (e:Same H H') {l:Addr} (h:H' l=Option.none):H l=Option.none:=by
 cases q:H l with
 | none=>rfl
 | some o =>
  rw [e l o q] at h
  cases h
theorem Same.seq {K:PySem.W.Frag} {H H':Hp} {a:Addr} {xs:List V} (e:Same H H') (h:SqL K H a xs):SqL K H' a xs:=by
 rcases h with (h | ⟨o,h⟩) | h
 ·exact .inl (.inl (e _ _ h))
 ·exact .inl (.inr ⟨o,e _ _ h⟩)
 ·exact .inr h
end L2
namespace Srt
open PySem PySem.W PyProof.Rows
abbrev CM:=Nat→Nat→(Bool→Shared→Prop)→Shared→Prop
abbrev g (p:Array Nat) (i:Nat):Nat:=p.getD i 0
structure Ord (n:Nat) (lt:Nat→Nat→Bool):Prop where
 irr:∀ i,i < n→lt i i=false
 tr:∀ i j k,i < n→j < n→k < n→lt i j=true→lt j k=true→lt i k=true
 tot:∀ i j,i < n→j < n→i≠j→lt i j=false→lt j i=true
def Cmp (n:Nat) (lt:Nat→Nat→Bool) (cmp:CM) (s:Shared):Prop:=∀ i j,i < n→j < n→∀ Q:Bool→Shared→Prop,Q (lt i j) s→cmp i j Q s
theorem xb9 {α:Type} {cmp:CM} {a:α} {Q:α→Shared→Prop} {s:Shared} (h:Q a s):KasT.kasWp cmp (.ret a) Q s:=h
theorem xev {α:Type} {cmp:CM} {i j:Nat} {k:Bool→KasT α} {Q:α→Shared→Prop} {s:Shared} (h:cmp i j (fun c s'=>KasT.kasWp cmp (k c) Q s') s):KasT.kasWp cmp (.ask i j k) Q s:=h
theorem xqs {p:Array Nat} {n:Nat}:kas_asc p 0 n=.ret n:=by unfold kas_asc; rfl
theorem xrg {p:Array Nat} {f n:Nat}:kas_asc p (f + 1) n=.ask (p.getD n 0) (p.getD (n - 1) 0) fun c=>if c=true then .ret n else kas_asc p f (n + 1):=by rw [kas_asc]
theorem xq8 {p:Array Nat} {k:Nat}:kas_bin 0 p k=.ret p:=by unfold kas_bin; rfl
theorem xq5 {f:Nat} {p:Array Nat} {k:Nat}:kas_bin (f + 1) p k=(kas_place p k k 0 k).bind fun l=>kas_bin f (bubble p k (k - l)) (k + 1):=by rw [kas_bin]
theorem xob {p:Array Nat} {k l r:Nat}:kas_place p k 0 l r=.ret l:=by unfold kas_place; rfl
theorem xn3 {p:Array Nat} {k f l r:Nat}:kas_place p k (f + 1) l r=if l ≥ r then .ret l else .ask (p.getD k 0) (p.getD ((l + r) / 2) 0) fun c=>if c=true then kas_place p k f l ((l + r) / 2) else kas_place p k f ((l + r) / 2 + 1) r:=by rw [kas_place]
theorem xqb {p:Array Nat} {k l:Nat}:kas_desc 0 p k l=.ret (p,k,l):=by unfold kas_desc; rfl
theorem xpx {f:Nat} {p:Array Nat} {k l:Nat}:kas_desc (f + 1) p k l=.ask (p.getD k 0) (p.getD (k - 1) 0) fun c=>if c=true then (if l > 0 then kas_desc f (kas_rev p (k - (l + 1)) k) (k + 1) 0 else kas_desc f p (k + 1) 0) else .ask (p.getD (k - 1) 0) (p.getD k 0) fun d=>if d=true then .ret (p,k,l) else kas_desc f p (k + 1) (l + 1):=by rw [kas_desc]
section
variable {n:Nat} {lt:Nat→Nat→Bool} {cmp:CM} {s:Shared}
structure Arr (n:Nat) (p:Array Nat):Prop where
 sz:p.size=n
 lt:∀ i,i < n→g p i < n
 inj:∀ i j,i < n→j < n→g p i=g p j→i=j
 pm:p.Perm (List.range n).toArray
theorem g_at {p:Array Nat} {i:Nat} {v:Nat} (h:p[i]?=some v):g p i=v:=by
 show p.getD i 0=v
 rw [Array.getD_eq_getD_getElem?,h]
 rfl
theorem Arr.at {p:Array Nat} (a:Arr n p) {i:Nat} (h:i < n):p[i]?=some (g p i):=by
 have z:i < p.size:=by rw [a.sz]; exact h
 have e:p[i]?=some p[i]:=Array.getElem?_eq_getElem z
 rw [e,g_at e]
def Srtd (lt:Nat→Nat→Bool) (p:Array Nat) (m:Nat):Prop:=∀ i j,i < j→j < m→lt (g p i) (g p j)=true
theorem xiw (o:Ord n lt) {p:Array Nat} (a:Arr n p) {m:Nat} (hm:m≤n) (h:∀ i,1≤i→i < m→lt (g p (i - 1)) (g p i)=true):Srtd lt p m:=by
 intro i j hij hj
 obtain ⟨d,rfl⟩:∃ d,j=i + 1 + d:=⟨j - (i + 1),by omega⟩
 induction d with
 | zero=>exact h (i + 1) (by omega) hj
 | succ d ih =>
  have h1:=ih (by omega) (by omega)
  have h2:=h (i + 1 + (d + 1)) (by omega) hj
  exact o.tr _ _ _ (a.lt _ (by omega)) (a.lt _ (by omega)) (a.lt _ (by omega)) h1 h2
theorem xh1 (c:Cmp n lt cmp s) {p:Array Nat} (a:Arr n p) {G:Nat→Shared→Prop}:∀ (f k:Nat),1≤k→k + f≤n →
    (∀ m,k≤m→m≤k + f→(∀ i,k≤i→i < m→lt (g p i) (g p (i - 1))=false)→(m < k + f→lt (g p m) (g p (m - 1))=true)→G m s)→KasT.kasWp cmp (kas_asc p f k) G s
  | 0,k,h1,hf,hG=>by
    rw [xqs]
    exact xb9 (hG k (Nat.le_refl _) (by omega) (fun i h h'=>by omega) (fun h=>by omega))
  | f + 1,k,h1,hf,hG=>by
    rw [xrg]
    refine xev (c _ _ (a.lt k (by omega)) (a.lt (k - 1) (by omega)) _ ?_)
    cases e:lt (g p k) (g p (k - 1)) with
    | true =>
      exact xb9 (hG k (Nat.le_refl _) (by omega) (fun i h h'=>by omega) (fun _=>e))
    | false =>
      show KasT.kasWp cmp (kas_asc p f (k + 1)) G s
      refine xh1 c a f (k + 1) (by omega) (by omega) fun m hm hm2 h3 h4=>hG m (by omega) (by omega) (fun i hi hi2=>?_) (fun h=>h4 (by omega))
      by_cases z:i=k
      · rw [z]; exact e
      · exact h3 i (by omega) hi2
theorem xiy (o:Ord n lt) (c:Cmp n lt cmp s) {p:Array Nat} (a:Arr n p) {G:Array Nat × Nat × Nat→Shared→Prop}:∀ (f k:Nat),1≤k→k + f≤n →
    (∀ m,k≤m→m≤k + f→(∀ i,k≤i→i < m→lt (g p i) (g p (i - 1))=true)→G (p,m,0) s)→KasT.kasWp cmp (kas_desc f p k 0) G s
  | 0,k,h1,hf,hG=>by
    rw [xqb]
    exact xb9 (hG k (Nat.le_refl _) (by omega) (fun i h h'=>by omega))
  | f + 1,k,h1,hf,hG=>by
    rw [xpx]
    refine xev (c _ _ (a.lt k (by omega)) (a.lt (k - 1) (by omega)) _ ?_)
    cases e:lt (g p k) (g p (k - 1)) with
    | true =>
      show KasT.kasWp cmp (kas_desc f p (k + 1) 0) G s
      refine xiy o c a f (k + 1) (by omega) (by omega) fun m hm hm2 h3=>hG m (by omega) (by omega) fun i hi hi2=>?_
      by_cases z:i=k
      · rw [z]; exact e
      · exact h3 i (by omega) hi2
    | false =>
      refine xev (c _ _ (a.lt (k - 1) (by omega)) (a.lt k (by omega)) _ ?_)
      have ne:g p k≠g p (k - 1):=fun z=>by have:=a.inj _ _ (by omega) (by omega) z; omega
      rw [show lt (p.getD (k - 1) 0) (p.getD k 0)=true from o.tot _ _ (a.lt k (by omega)) (a.lt (k - 1) (by omega)) ne e]
      exact xb9 (hG k (Nat.le_refl _) (by omega) (fun i h h'=>by omega))
theorem Arr.rev {p:Array Nat} (a:Arr n p) {k:Nat} (hk:k≤n):Arr n (kas_rev p 0 k)∧∀ i,i < n→g (kas_rev p 0 k) i=if i < k then g p (k - 1 - i) else g p i:=by
 have ge:∀ i,i < n→g (kas_rev p 0 k) i=if i < k then g p (k - 1 - i) else g p i:=fun i hi=>by
  have z:=getElem?_mirror_all (xs:=p) (i:=0) (j:=k) (by rw [a.sz]; exact hk) i
  by_cases c:i < k
  ·rw [if_pos c]
   rw [if_pos ⟨Nat.zero_le _,c⟩,show 0 + k - 1 - i=k - 1 - i by omega,a.at (show k - 1 - i < n by omega)] at z
   exact g_at z
  ·rw [if_neg c]
   rw [if_neg (fun w=>c w.2),a.at hi] at z
   exact g_at z
 refine ⟨⟨by rw [kas_rev_size,a.sz],fun i hi=>?_,fun i j hi hj e=>?_,(mirror_perm _ _ _ _).trans a.pm⟩,ge⟩
 ·rw [ge i hi]
  split <;> exact a.lt _ (by omega)
 ·rw [ge i hi,ge j hj] at e
  split at e <;> split at e <;> have:=a.inj _ _ (by omega) (by omega) e <;> omega
theorem xml (o:Ord n lt) (c:Cmp n lt cmp s) {p:Array Nat} (a:Arr n p) (h2:2≤n) {G:Nat × Array Nat→Shared→Prop}
    (hG:∀ m p',1≤m→m≤n→Arr n p'→Srtd lt p' m→G (m,p') s):KasT.kasWp cmp (kas_count n p) G s:=by
  unfold kas_count
  rw [KasT.kasWp_bind]
  have up:∀ q,Arr n q→∀ i,1≤i→i < n→lt (g q i) (g q (i - 1))=false→lt (g q (i - 1)) (g q i)=true:=fun q b i h1 hi e =>
    o.tot _ _ (b.lt i hi) (b.lt (i - 1) (by omega)) (fun z=>by have:=b.inj _ _ hi (by omega) z; omega) e
  refine xh1 c a (n - 1) 1 (Nat.le_refl _) (by omega) fun m hm hm2 h3 h4=>?_
  have sm:Srtd lt p m:=xiw o a (by omega) fun i hi hi2=>up p a i hi (by omega) (h3 i hi hi2)
  show KasT.kasWp cmp (if (m == n)=true then _ else _) G s
  by_cases e1:m=n
  · rw [if_pos (by simpa using e1)]
    exact xb9 (hG m p hm (by omega) a sm)
  · rw [if_neg (by simpa using e1)]
    by_cases e2:m > 1
    · rw [if_pos e2]
      refine xev (c _ _ (a.lt 0 (by omega)) (a.lt (m - 1) (by omega)) _ ?_)
      rw [show lt (p.getD 0 0) (p.getD (m - 1) 0)=true from sm 0 (m - 1) (by omega) (by omega)]
      exact xb9 (hG m p hm (by omega) a sm)
    · rw [if_neg e2]
      have m1:m=1:=by omega
      subst m1
      have d1:=h4 (by omega)
      unfold kas_descPart
      rw [KasT.kasWp_bind]
      refine xiy o c a (n - (1 + 1)) (1 + 1) (by omega) (by omega) fun k hk hk2 h5=>?_
      show KasT.kasWp cmp (if (0:Nat) > 0 then _ else kas_tail3 k n p) G s
      rw [if_neg (Nat.lt_irrefl 0)]
      unfold kas_tail3
      rw [KasT.kasWp_bind]
      obtain ⟨b,ge⟩:=a.rev (k:=k) (by omega)
      refine xh1 c b (n - k) k (by omega) (by omega) fun m' hm' hm2' h6 _=>?_
      refine xb9 (hG m' _ (by omega) (by omega) b (xiw o b (by omega) fun i hi hi2=>?_))
      by_cases ik:i < k
      · rw [ge i (by omega),ge (i - 1) (by omega),if_pos ik,if_pos (by omega)]
        have e3:k - 1 - (i - 1) - 1=k - 1 - i:=by omega
        by_cases z:k - 1 - (i - 1)=1
        · have z':k - 1 - i=0:=by omega
          rw [z,z']
          exact d1
        · have:=h5 (k - 1 - (i - 1)) (by omega) (by omega)
          rw [e3] at this
          exact this
      · exact up _ b i hi (by omega) (h6 i (by omega) hi2)
theorem xfn (o:Ord n lt) (c:Cmp n lt cmp s) {p:Array Nat} (a:Arr n p) {k:Nat} (hk:k < n) (sk:Srtd lt p k) {G:Nat→Shared→Prop}:∀ (f l r:Nat),l≤r→r≤k→r - l≤f →
    (∀ j,j < l→lt (g p k) (g p j)=false)→(∀ j,r≤j→j < k→lt (g p k) (g p j)=true) →
    (∀ m,m≤k→(∀ j,j < m→lt (g p k) (g p j)=false)→(∀ j,m≤j→j < k→lt (g p k) (g p j)=true)→G m s)→KasT.kasWp cmp (kas_place p k f l r) G s
  | 0,l,r,h1,h2,h3,lo,hi,hG=>by
    rw [xob]
    exact xb9 (hG l (by omega) lo fun j hj hj2=>hi j (by omega) hj2)
  | f + 1,l,r,h1,h2,h3,lo,hi,hG=>by
    rw [xn3]
    by_cases e:l ≥ r
    · rw [if_pos e]
      exact xb9 (hG l (by omega) lo fun j hj hj2=>hi j (by omega) hj2)
    · rw [if_neg e]
      have m1:(l + r) / 2 < r:=by omega
      have m2:l≤(l + r) / 2:=by omega
      refine xev (c _ _ (a.lt k hk) (a.lt _ (by omega)) _ ?_)
      cases e2:lt (g p k) (g p ((l + r) / 2)) with
      | true =>
        show KasT.kasWp cmp (kas_place p k f l ((l + r) / 2)) G s
        refine xfn o c a hk sk f l _ m2 (by omega) (by omega) lo (fun j hj hj2=>?_) hG
        by_cases z:j=(l + r) / 2
        · rw [z]; exact e2
        · exact o.tr _ _ _ (a.lt k hk) (a.lt _ (by omega)) (a.lt _ (by omega)) e2 (sk _ _ (by omega) hj2)
      | false =>
        show KasT.kasWp cmp (kas_place p k f ((l + r) / 2 + 1) r) G s
        refine xfn o c a hk sk f _ r (by omega) h2 (by omega) (fun j hj=>?_) hi hG
        by_cases z:j=(l + r) / 2
        · rw [z]; exact e2
        · cases e3:lt (g p k) (g p j) with
          | false=>rfl
          | true =>
            have:=o.tr _ _ _ (a.lt k hk) (a.lt _ (by omega)) (a.lt _ (by omega)) e3 (sk j ((l + r) / 2) (by omega) (by omega))
            rw [e2] at this
            cases this
theorem Arr.bub {p:Array Nat} (a:Arr n p) {k m:Nat} (hk:k < n) (hm:m≤k):Arr n (bubble p k (k - m))∧∀ i,i < n→g (bubble p k (k - m)) i=if i=m then g p k else if m < i∧i≤k then g p (i - 1) else g p i:=by
 have ge:∀ i,i < n→g (bubble p k (k - m)) i=if i=m then g p k else if m < i∧i≤k then g p (i - 1) else g p i:=fun i hi=>by
  have z:=getElem?_bubble (xs:=p) (src:=k) (by rw [a.sz]; exact hk) (k - m) (by omega) i
  rw [show k - (k - m)=m by omega] at z
  by_cases c:i=m
  ·rw [if_pos c]
   rw [if_pos c,a.at hk] at z
   exact g_at z
  ·rw [if_neg c]
   rw [if_neg c] at z
   by_cases d:m < i∧i≤k
   ·rw [if_pos d]
    rw [if_pos d,a.at (show i - 1 < n by omega)] at z
    exact g_at z
   ·rw [if_neg d]
    rw [if_neg d,a.at hi] at z
    exact g_at z
 refine ⟨⟨by rw [bubble_size,a.sz],fun i hi=>?_,fun i j hi hj e=>?_,(bubble_perm _ _ _).trans a.pm⟩,ge⟩
 ·rw [ge i hi]
  split
  ·exact a.lt _ hk
  ·split <;> exact a.lt _ (by omega)
 ·rw [ge i hi,ge j hj] at e
  split at e <;> (try split at e) <;> (try split at e) <;> (try split at e) <;> first | omega | (have:=a.inj _ _ (by omega) (by omega) e; omega)
theorem xkp (o:Ord n lt) (c:Cmp n lt cmp s) {G:Array Nat→Shared→Prop}:∀ (f k:Nat) (p:Array Nat),k + f=n→Arr n p→Srtd lt p k→(∀ p',Arr n p'→Srtd lt p' n→G p' s)→KasT.kasWp cmp (kas_bin f p k) G s
 | 0,k,p,h,a,sk,hG=>by
  rw [xq8]
  have:k=n:=by omega
  subst this
  exact xb9 (hG p a sk)
 | f + 1,k,p,h,a,sk,hG=>by
  have hk:k < n:=by omega
  rw [xq5,KasT.kasWp_bind]
  refine xfn o c a hk sk k 0 k (Nat.zero_le _) (Nat.le_refl _) (by omega) (fun j hj=>by omega) (fun j hj hj2=>by omega) fun m hm lo hi=>?_
  obtain ⟨b,ge⟩:=a.bub hk hm
  refine xkp o c f (k + 1) _ (by omega) b (fun i j hij hj=>?_) hG
  have inS:∀ i,i < m→lt (g p i) (g p k)=true:=fun i hi'=>o.tot _ _ (a.lt k hk) (a.lt i (by omega)) (fun z=>by have:=a.inj _ _ hk (by omega) z; omega) (lo i hi')
  have g1:∀ i,i < n→i=m→g (bubble p k (k - m)) i=g p k:=fun i hi z=>by rw [ge i hi,if_pos z]
  have g2:∀ i,i < n→m < i→i≤k→g (bubble p k (k - m)) i=g p (i - 1):=fun i hi z z2=>by rw [ge i hi,if_neg (by omega),if_pos ⟨z,z2⟩]
  have g3:∀ i,i < n→i < m→g (bubble p k (k - m)) i=g p i:=fun i hi z=>by rw [ge i hi,if_neg (by omega),if_neg (by omega)]
  by_cases j1:j=m
  ·rw [g1 j (by omega) j1,g3 i (by omega) (by omega)]
   exact inS i (by omega)
  ·by_cases i1:i=m
   ·rw [g1 i (by omega) i1,g2 j (by omega) (by omega) (by omega)]
    exact hi (j - 1) (by omega) (by omega)
   ·by_cases j2:m < j
    ·rw [g2 j (by omega) j2 (by omega)]
     by_cases i2:m < i
     ·rw [g2 i (by omega) i2 (by omega)]
      exact sk _ _ (by omega) (by omega)
     ·rw [g3 i (by omega) (by omega)]
      by_cases z:i=j - 1
      ·omega
      ·exact sk _ _ (by omega) (by omega)
    ·rw [g3 j (by omega) (by omega),g3 i (by omega) (by omega)]
     exact sk _ _ hij (by omega)
theorem xlb:Arr n (List.range n).toArray:=by
 have e:∀ i,i < n→g (List.range n).toArray i=i:=fun i hi=>g_at (by rw [List.getElem?_toArray,List.getElem?_range hi])
 exact ⟨by simp,fun i hi=>by rw [e i hi]; exact hi,fun i j hi hj z=>by rw [e i hi,e j hj] at z; exact z,Array.Perm.refl _⟩
theorem sort_wp (o:Ord n lt) (c:Cmp n lt cmp s) (h2:2≤n) {G:Array Nat→Shared→Prop} (hG:∀ p,Arr n p→Srtd lt p n→G p s):KasT.kasWp cmp (kas_sort n) G s:=by
 unfold kas_sort
 rw [KasT.kasWp_bind]
 refine xml o c xlb h2 fun m p hm hm2 a sm=>?_
 show KasT.kasWp cmp (if m < n then _ else _) G s
 by_cases e:m < n
 ·rw [if_pos e]
  show KasT.kasWp cmp (kas_bin (n - max m 1) p (max m 1)) G s
  rw [Nat.max_eq_left hm]
  exact xkp o c (n - m) m p (by omega) a sm hG
 ·rw [if_neg e]
  have:m=n:=by omega
  subst this
  exact xb9 (hG p a sm)
end
end Srt
set_option maxRecDepth 100000
namespace XL
open PySem
def Xat (h:Heap) (e:Addr) (cls:Value) (od tb:Option Addr):Prop :=
 ∃ oe vs,h.get? e=some oe∧oe.cls=cls∧oe.dict=od∧oe.data=.fields vs∧1 < vs.size ∧
  ((tb=none∧vs[1]?=some Value.none)∨∃ T oT ts,tb=some T∧vs[1]?=some (.ref T)∧T≠e∧h.get? T=some oT∧oT.data=.fields ts∧ts[3]?=some Value.none)
section
variable {M:Model} {A:Around} {E:Value→Shared→Prop} {s:Shared}
end
end XL
set_option maxRecDepth 100000
namespace XL
open PySem
section
variable {prog:Program} {w:World} {A:Around} {E:Value→Shared→Prop} {h:Heap} {g:Array GenState} {d:Drawn} {t:Nat} {os:OsState}
variable {nm qn:Str} {C N:Addr} {bs bm bmB:List Value} {hz:Bool} {sn:List Str} {sub:List Value} {ab:Bool} {col:Option Bool} {dd:Option Addr} {k0 k1 k2 k3 k5:Option Value} {B ni ii:String}
end
end XL
set_option maxRecDepth 100000
namespace XL
open PySem PySem.W PySem.Calls PyProof.Rows Builtin Builtin.ObjectAttr
def vErr:List Value:=[.type "ValueError",.type "Exception",.type "BaseException",.type "object"]
def xe6:List Value→Bool
 | []=>false
 | .ref c :: r=>xe6 r || ((.ref c :: r:List Value) == vErr)
 | v :: r=>(v :: r) == vErr
def xoa (K:Frag) (C:Addr):Bool:=(clsIn K C).any fun cd=>xe6 cd.mro
theorem xfi:∀ {l:List Value},xe6 l=true→l.contains (.type "object")=true∧l.contains (.type "BaseException")=true∧l.isEmpty=false
 | [],e=>by cases e
 | v :: r,e=>by
  have last:((v :: r:List Value) == vErr)=true→(v :: r).contains (.type "object")=true∧(v :: r).contains (.type "BaseException")=true∧(v :: r).isEmpty=false:=fun z=>by
   rw [eq_of_beq z]
   exact ⟨by decide +kernel,by decide +kernel,rfl⟩
  cases v with
  | ref c =>
   rcases Bool.or_eq_true_iff.mp e with z | z
   ·obtain ⟨a,b,_⟩:=xfi z
    exact ⟨by rw [List.contains_cons,a,Bool.or_true],by rw [List.contains_cons,b,Bool.or_true],rfl⟩
   ·exact last z
  | _=>exact last e
structure XC (K:Frag) (C:Addr):Prop where
 over:xoa K C=true
 hd:hasDictIn K C=true
 sa:findIn K (.ref C) "__setattr__"=some (some (.builtin "object.__setattr__"))
 ga:findIn K (.ref C) "__getattribute__"=some (some (.builtin "BaseException.__getattribute__"))
 gh:findIn K (.ref C) "__getattr__"=some none
 ca:findIn K (.ref C) "__class__"=some (some (.builtin "object.__class__"))
 cg:specialIn K (.builtin "object.__class__") "__get__"=some (some (.builtin "getset_descriptor.__get__"))
 ct:takesIn K (.builtin "object.__class__")=some true
section
variable {prog:Program} {w:World} {A:Around} {E:Value→Shared→Prop} {s:Shared} {K:Frag} {x C dx:Addr} {ox:Obj} {od:Option Obj} {name:Str} {v:Value} {R:Result→Shared→Prop}
theorem XC.mro (c:XC K C):∃ cd,clsIn K C=some cd∧xe6 cd.mro=true∧cd.hasDict=true:=by
 obtain ⟨cd,h1,h2⟩:=any_some c.over
 obtain ⟨cd',h3,h4⟩:=any_some c.hd
 rw [h1] at h3
 cases h3
 exact ⟨cd,h1,h2,h4⟩
theorem XC.isObj (c:XC K C):mroIn K C (.type "object")=some true:=by
 obtain ⟨cd,h1,h2,_⟩:=c.mro
 obtain ⟨a,_,b⟩:=xfi h2
 unfold mroIn
 rw [h1,Option.bind_some,if_neg (by rw [b]; decide),a]
theorem XC.isExc (c:XC K C):mroIn K C (.type "BaseException")=some true:=by
 obtain ⟨cd,h1,h2,_⟩:=c.mro
 obtain ⟨_,a,b⟩:=xfi h2
 unfold mroIn
 rw [h1,Option.bind_some,if_neg (by rw [b]; decide),a]
theorem xoz (v:Value):bindSpecial (.builtin "BaseException.__getattribute__") v=pure (.builtin "BaseException.__getattribute__",[v]):=by
 have f:=PySem.F.attr_ValueError.ga.bind v
 exact f
theorem xl8:plainId "BaseException.__getattribute__"=true:=PySem.F.attr_ValueError.ga.plain
theorem xqh {Q:Value→Shared→Prop} {expr fill:Bool} {tk:Tok} (X:K.In s.heap) (c:XC K C) (I:InstAt s.heap x ox C od)
    (h:wpAny (model prog w) A.in1 (Builtin.«object.__getattribute__» ⟨[.ref x,.str name tk],[]⟩)
      (fun fin s'=>match fin with | .done (.ret v)=>wpAny (model prog w) A (handedOut v) Q E s' | _=>False) (fun _ _=>False) s) :
    wpAny (model prog w) A (getAttrBy (.ref x) (.str name tk) fill expr) Q E s:=by
  obtain ⟨hh,g,d,t,os⟩:=s
  have L0:=I.type (M:=model prog w)
  have L1:=looks_findIn (M:=model prog w) X c.ga
  have L2:=looks_findIn (M:=model prog w) X c.gh
  have sub:Looks (model prog w) hh (isInstance (.ref x) (.type "BaseException")) true:=I.type.andThen (looks_mroIn X c.isExc)
  have f2:(onTheHeap (Value.ref C) && Value.builtin "BaseException.__getattribute__" == Value.builtin "object.__getattribute__")=false:=by
    rw [show (Value.builtin "BaseException.__getattribute__" == Value.builtin "object.__getattribute__")=false from by decide +kernel]; rfl
  have f3:(expr && onTheHeap (Value.builtin "BaseException.__getattribute__"))=false:=by cases expr <;> rfl
  unfold getAttrBy
  refine wpAny_holding (wpAny_bind (L0.at (wpAny_bind (L1.at ?_))))
  dsimp only
  rw [f2]
  simp only [Bool.false_eq_true,if_false]
  unfold getAttrByItsOwn hookBefore
  refine wpAny_bind (L2.at (wpAny_bind (wpAny_attempt (wpAny_holding ?_))))
  unfold callGetattribute
  rw [f3]
  simp only [Bool.false_eq_true,if_false]
  unfold boundAndCalled
  rw [xoz]
  refine wpAny_bind (wpAny_pure (wpAny_call (codeAny_call_builtin xl8 PySem.F.entry_bexc_ga
    (@check_slot (model prog w) _ _ ⟨hh,g,d,t,os⟩ "BaseException.__getattribute__" "BaseException" "__getattribute__" (.ref x) [.str name tk] [] _ (by decide +kernel) (by decide +kernel) sub (PySem.F.args_bexc_ga _ _) ?_))))
  refine wpAny_mono h (fun fin s' z=>?_) fun e s' z=>z.elim
  rcases fin with (_ | _ | _ | _) | _ <;> first | exact z | exact z.elim
theorem xlv {Q:Option Value→Shared→Prop} (X:K.In s.heap) (c:XC K C) (I:InstAt s.heap x ox C od) (h:Q (some (.ref C)) { s with toks:=s.toks + 1 }) :
    wpAny (model prog w) A (getAttr? (.ref x) "__class__") Q E s:=by
  obtain ⟨cd,h1,_,h2⟩:=c.mro
  have hf:findObj K C od "__class__"=some (.bind (.builtin "getset_descriptor.__get__") (.builtin "object.__class__")):=by
    unfold findObj
    rw [h1,Option.bind_some,c.ca,Option.bind_some]
    simp [c.cg,c.ct]
  unfold getAttr? getAttrBy?
  refine wpAny_bind (wpAny_mkText (wpAny_bind (wpAny_attempt ?_)))
  refine xqh (s:={ s with toks:=s.toks + 1 }) X c I ?_
  have L0:=I.type (M:=model prog w)
  have L1:=looks_find (M:=model prog w) X I hf
  refine wpAny_bind (wpAny_pure (wpAny_bind (wpAny_pure (wpAny_bind (L0.here (s:={ s with toks:=s.toks + 1 }) (wpAny_bind (L1.here (s:={ s with toks:=s.toks + 1 }) ?_)))))))
  show wpAny _ _ (holding [_] (call _ [_,.ref x,.ref C]) >>= ret) _ _ _
  refine wpAny_bind (wpAny_holding (wpAny_call (class_get (s:={ s with toks:=s.toks + 1 }) (ox:=ox) (od:=od) X I c.isObj ?_)))
  refine wpAny_pure ?_
  show wpAny _ _ (handedOut (.ref C)) _ _ _
  exact wpAny_pure (wpAny_pure h)
end
end XL
set_option maxRecDepth 100000
namespace XL
open PySem
section
variable {M:Model} {A:Around} {E:Value→Shared→Prop} {s:Shared} {env:Env}
end
end XL
set_option maxRecDepth 100000
namespace L2
open PySem PySem.Spec PyProof.Rows XL
variable {q0:Bool}
def XO (e C:Addr) (od:Option Addr):HO:=.ext fun h=>∃ ox vs,h.get? e=some ox∧ox.cls=.ref C∧ox.dict=od∧ox.data=.fields vs
def XD (dx:Addr) (fs:List (Str × V)):HO:=.ext fun h=>fs.length≤1000∧∃ mA,h.Ns1 dx mA∧(∀ f,RelO (fs.lookup f) (mA f))∧PySem.Within mA (fs.map (·.1))
section
variable {P:Program} {w:World} {H:Hp} {h:Heap} {e C dx:Addr} {od:Option Addr} {fs:List (Str × V)}
end
def CXo (P:Program) (w:World):CXT:=fun outer H s E u s'=>∃ e C od H' T,u=.ref e∧s'.os=s.os∧AllBare s'.gens∧Un (frs outer) [] H H' s.heap s'.heap∧HOk P w H' s'.heap ∧
 Xat s'.heap e (.ref C) od (some T)∧H' e=some (XO e C od)∧s.heap.objs.size≤T∧H' T=none∧E e C H'
section
variable {X:Cx} {pins:List (Addr × Obj)} {σ:St} {H:Hp} {s:Shared} {e C:Addr} {od tb:Option Addr}
theorem Inv.size_lt (I:Inv X pins σ H s) {b:Addr} (h:s.heap.objs.size≤b):H b=none∧b≠X.env.locals∧(∀ x c,X.env.cells.lookup x=some c→c≠b)∧∀ p ∈ X.pn ++ pins,p.1≠b:=by
 refine ⟨I.hok.fresh h,fun z=>?_,fun x c hc z=>?_,fun p hp z=>?_⟩
 ·rw [z] at h
  exact absurd I.lt (Nat.not_lt.mpr h)
 ·obtain ⟨v,o,ho,_⟩:=I.cell x c hc
  rw [z] at ho
  exact absurd (Heap.lt_size ho) (Nat.not_lt.mpr h)
 ·have g:=(I.pin p hp).1
  rw [z] at g
  exact absurd (Heap.lt_size g) (Nat.not_lt.mpr h)
theorem xn:xdg (CXo X.prog X.w) X (fun _ _ _ _=>False):=fun pins σ H s u s' I h=>by
 obtain ⟨e,C,od,H',T,_,_,_,_,_,_,_,_,_,q⟩:=h
 exact q.elim
end
end L2
set_option maxRecDepth 100000
namespace XL
open PySem PySem.W
end XL
namespace L2
open PySem PySem.Spec PyProof.Rows XL
variable {q0:Bool}
section
variable {X:Cx} {pins:List (Addr × Obj)} {σ:St} {H:Hp} {s:Shared} {a C dx:Addr} {od:Option Addr} {fs:List (Str × V)} {f:Str} {v y:V} {u:Value} {A:Around} {E:Value→Shared→Prop}
theorem xq2 (I:Inv X pins σ H s) (e:H a=some (XO a C od)):∃ ox vs,s.heap.get? a=some ox∧ox.cls=.ref C∧ox.dict=od∧ox.data=.fields vs:=(I.hok a _ e).1
theorem xnh (I:Inv X pins σ H s) (e:H dx=some (XD dx fs)):fs.length≤1000∧∃ mA,s.heap.Ns1 dx mA∧(∀ f,RelO (fs.lookup f) (mA f))∧PySem.Within mA (fs.map (·.1)):=(I.hok dx _ e).1
theorem xif {o:Obj} {vs:Array Value} (d:o.data=.fields vs):PySem.W.notCls o=true:=by
 unfold PySem.W.notCls
 rw [d]
end
section
variable {X:Cx} {o e value:Expr} {f:Str} {pos pos' tpos:Pos} {ta tv te:TE}
end
section
variable {X:Cx} {k:Nat} {f C:Addr} {fd:FuncData} {ps:List Str} {sp:Sp} {dvs:List V} {ds:List Value} {E:St→XK} {x m:Str} {p pos apos:Pos} {e o:Expr} {es:List Expr} {ta te:TE} {t:TA}
end
end L2
set_option maxRecDepth 100000
namespace XL
open PySem PySem.W
section
variable {M:Model} {A:Around} {E:Value→Shared→Prop} {s:Shared}
variable {nm qn nm' qn':Str} {C N C' N':Addr} {bs bm bs' bm':List Value} {hz hz':Bool} {sn sn':List Str} {sub sub':List Value} {ab ab':Bool} {col col':Option Bool} {dd dd':Option Addr} {k0 k1 k2 k3 k5 j0 j1 j2 j3 j5:Option Value} {ni ni':String}
end
end XL
namespace L2
open PySem PySem.Spec PyProof.Rows XL
variable {q0:Bool}
section
variable {X:Cx} {pins:List (Addr × Obj)} {σ:St} {H:Hp} {s:Shared}
end
section
variable {X:Cx} {pos np hpos:Pos} {body hbody:List Stmt} {b0:Stmt} {cx n:Str} {C0:Addr} {j:Nat} {E:St→XK} {tb th:TS}
end
end L2
set_option maxRecDepth 100000
namespace XL
open PySem PySem.W
theorem xkl {K:Frag} {x C:Addr} (c:XC K C):KitX K (.ref x) (.ref C) (fun h=>∃ ox od,InstAt h x ox C od) where
 ty:=fun _ _ _ ⟨_,_,I⟩=>I.type
 it:=fun _ _ X _=>by
  obtain ⟨cd,hc,_,_⟩:=c.mro
  unfold clsIn at hc
  split at hc
  ·rename_i c' d' cd' sl' ho
   intro A' Q' E' s' k q
   unfold isType loadHead
   exact wpAny_bind (wpAny_loadPart (k _ _ (X _ _ ho)) (wpAny_pure q))
  ·cases hc
 ne:=fun h tp dd its n sl X htp=>by
  obtain ⟨cd,hc,_,_⟩:=c.mro
  refine Bool.eq_false_iff.mpr fun q=>?_
  have e:C=tp:=Value.ref.inj (beq_iff_eq.mp q)
  subst e
  unfold clsIn at hc
  split at hc
  ·rename_i c' d' cd' sl' ho
   have z:=(X _ _ ho).symm.trans htp
   cases z
  ·cases hc
 ca:=fun X ⟨ox,od,I⟩ k=>xlv X c I k
end XL
namespace L2
open PySem PySem.Spec PyProof.Rows XL
variable {q0:Bool}
def clsV:V→Option Value
 | .ty n=>some (.type n)
 | .ref a=>some (.ref a)
 | _=>none
theorem xfo {c:V} {u cv:Value} (e:clsV c=some cv) (r:RelV c u):u=cv:=by
 cases c <;> first | (cases e; exact r) | cases e
def xjk:List V→Option (List Value)
 | []=>some []
 | c :: r=>(clsV c).bind fun a=>(xjk r).map (a :: ·)
theorem xgr:∀ {cs:List V} {us cv:List Value},xjk cs=some cv→Vals cs us→us=cv
 | [],_,_,e,.nil=>by cases e; rfl
 | c :: r,_,_,e,.cons rc rr=>by
  obtain ⟨a,e1,e2⟩:=Option.bind_eq_some_iff.mp e
  obtain ⟨b,e3,rfl⟩:=Option.map_eq_some_iff.mp e2
  rw [xfo e1 rc,xgr e3 rr]
section
variable {X:Cx} {pins:List (Addr × Obj)} {σ:St} {H:Hp} {s:Shared} {A:Around} {E:Value→Shared→Prop} {Q:Value→Shared→Prop}
theorem xi7 {a C:Addr} {od:Option Addr} (I:Inv X pins σ H s) (h:H a=some (XO a C od)) (hd:∀ d,od=some d→∃ o,s.heap.get? d=some o):∃ ox odx,PySem.W.InstAt s.heap a ox C odx:=by
 obtain ⟨ox,vs,g,ce,oo,de⟩:=xq2 I h
 cases e:od with
 | none=>exact ⟨ox,none,g,ce,xif de,by rw [oo,e]; trivial⟩
 | some d =>
  obtain ⟨o,go⟩:=hd d e
  exact ⟨ox,some o,g,ce,xif de,by rw [oo,e]; exact go⟩
end
def xnm (K:PySem.W.Frag):List V→Hp→VK→Prop:=fun xs H Q=>∃ x c,xs=[x,c]∧((∃ t cv b,TyOf K H x t∧clsV c=some cv∧PySem.W.kitOne K t cv=some b∧Q (.bl b) H) ∨
 (∃ a C od cv b,x=.ref a∧H a=some (XO a C od)∧(∀ d,od=some d→∃ fs,H d=some (XD d fs))∧XC K C∧clsV c=some cv∧PySem.W.kitOne K (.ref C) cv=some b∧Q (.bl b) H) ∨
 (∃ a C od p cs cv b,x=.ref a∧H a=some (XO a C od)∧(∀ d,od=some d→∃ fs,H d=some (XD d fs))∧XC K C∧c=.ref p∧SqT K H p cs∧xjk cs=some cv∧PySem.W.kitAny K (.ref C) cv=some b∧Q (.bl b) H))
section
variable {X:Cx}
theorem xbi:xb4 X (.builtin "isinstance") (xnm X.K):=by
 intro pins s σ H us xs Q I r h
 obtain ⟨x,c,rfl,h⟩:=h
 obtain ⟨u,v,rfl,ru,rv⟩:=xju r
 rcases h with ⟨t,cv,b,ty,ec,ek,q⟩ | ⟨a,C,od,cv,b,rfl,ha,hd,xc,ec,ek,q⟩ | ⟨a,C,od,p,cs,cv,b,rfl,ha,hd,xc,rfl,hp,ec,ek,q⟩
 ·obtain rfl:=xfo ec rv
  exact xkc I ru ty ek fun tk=>⟨.bl b,H,I.tok tk,rfl,q⟩
 ·obtain rfl:=xfo ec rv
  obtain rfl:u=Value.ref a:=ru
  refine PySem.W.kia_one (xkl xc) I.kIn (xi7 I ha fun d e=>?_) ek (fun z=>nomatch z) fun tk=>⟨.bl b,H,I.tok tk,rfl,q⟩
  obtain ⟨fs,hw⟩:=hd d e
  obtain ⟨_,_,⟨o,_,_,go,_⟩,_⟩:=xnh I hw
  exact ⟨o,go⟩
 ·obtain rfl:u=Value.ref a:=ru
  obtain rfl:v=Value.ref p:=rv
  obtain ⟨its,vi,it,_⟩:=I.tuple hp
  obtain rfl:=xgr ec vi
  obtain ⟨o,g,oc,n,od'⟩:=it
  obtain ⟨c1,d1,dt1,sl1⟩:=o
  dsimp only at oc od'
  subst oc od'
  refine PySem.W.kia_tup (xkl xc) I.kIn (xi7 I ha fun d e=>?_) g ek (fun z=>nomatch z) fun tk=>⟨.bl b,H,I.tok tk,rfl,q⟩
  obtain ⟨fs,hw⟩:=hd d e
  obtain ⟨_,_,⟨o,_,_,go,_⟩,_⟩:=xnh I hw
  exact ⟨o,go⟩
end
end L2
set_option maxRecDepth 100000
namespace L2
open PySem PySem.Spec PyProof.Rows XL
variable {q0:Bool}
def xcn (scope:Scope):List Str:=(scope.names.filter fun x=>x.2 == .free).map (·.1)
def Cx.clo (X:Cx) (scope:Scope):List (Str × Addr):=(xcn scope).reverse.map fun n=>(n,(X.env.cells.lookup n).getD 0)
theorem xfp {env:Env} {f:Str→Addr}:∀ (l:List (Str × NameKind)) (acc:List (Str × Addr)),(∀ x ∈ l,x.2=.free→env.cells.lookup x.1=some (f x.1)) →
    (forIn l acc fun x cs=>(if x.2 == .free then do let c ← cellOf env x.1; pure (ForInStep.yield ((x.1,c) :: cs)) else pure (ForInStep.yield cs):Sem (ForInStep (List (Str × Addr))))) =
      pure ((((l.filter fun x=>x.2 == .free).map (·.1)).reverse.map fun n=>(n,f n)) ++ acc)
  | [],acc,_=>rfl
  | x :: r,acc,h=>by
    have ih:=fun a=>xfp r a fun y hy=>h y (List.mem_cons_of_mem _ hy)
    rw [List.forIn_cons]
    by_cases q:x.2=.free
    · have e:=h x List.mem_cons_self q
      have qb:(x.2 == NameKind.free)=true:=by rw [q]; rfl
      rw [if_pos qb,List.filter_cons,if_pos qb]
      have ec:cellOf env x.1=pure (f x.1):=by unfold cellOf; rw [e]
      rw [ec]
      simp only [pure_bind]
      rw [ih]
      simp
    · have qb:(x.2 == NameKind.free)=false:=by simpa using q
      rw [if_neg (by rw [qb]; decide),List.filter_cons,if_neg (by rw [qb]; decide)]
      simp only [pure_bind]
      rw [ih]
theorem xj8 {X:Cx} {scope:Scope} (h:∀ n ∈ xcn scope,∃ c,X.env.cells.lookup n=some c):closureFor scope X.env=pure (X.clo scope):=by
 unfold closureFor
 have z:=xfp (env:=X.env) (f:=fun n=>(X.env.cells.lookup n).getD 0) scope.names [] fun x hx hf=>by
  obtain ⟨c,e⟩:=h x.1 (List.mem_map.mpr ⟨x,List.mem_filter.mpr ⟨hx,by simp [hf]⟩,rfl⟩)
  rw [e]
  rfl
 rw [List.append_nil] at z
 refine (bind_pure (m:=Sem) _).trans ?_
 exact z
theorem xnn {X:Cx} {scope:Scope} {n:Str} {c:Addr} (h:(X.clo scope).lookup n=some c):n ∈ xcn scope∧c=(X.env.cells.lookup n).getD 0:=by
 have z:=PySem.mem_of_lookup h
 unfold Cx.clo at z
 obtain ⟨y,hy,e⟩:=List.mem_map.mp z
 injection e with e1 e2
 subst e1
 exact ⟨List.mem_reverse.mp hy,e2.symm⟩
theorem xdj {f:Str→Addr} {n:Str}:∀ {l:List Str},n ∈ l→(l.map fun y=>(y,f y)).lookup n=some (f n)
 | [],h=>by simp at h
 | y :: r,h=>by
  rw [List.map_cons,List.lookup_cons]
  by_cases q:n=y
  ·subst q
   simp
  ·rw [show (n == y)=false from by simpa using q]
   exact xdj ((List.mem_cons.mp h).resolve_left q)
theorem xix {X:Cx} {scope:Scope} {n:Str} {c:Addr} (hn:n ∈ xcn scope) (h:X.env.cells.lookup n=some c):(X.clo scope).lookup n=some c:=by
 have z:=xdj (f:=fun n=>(X.env.cells.lookup n).getD 0) (List.mem_reverse.mpr hn)
 unfold Cx.clo
 rw [z,h]
 rfl
section
variable {X:Cx} {pins:List (Addr × Obj)} {σ:St} {H:Hp} {s:Shared} {scope:Scope} {x:Str} {ys:List Str} {fr:List Nat} {fp:List Addr}
end
section
variable {X:Cx} {pins:List (Addr × Obj)} {σ:St} {H:Hp} {s:Shared} {scope:Scope} {x:Str} {ys:List Str} {fr:List Nat} {fp:List Addr}
end
def xdn:TT:=fun _ H Q=>Q true H
def PIf (X:Cx) (ifs:List Expr) (t:TT):Prop :=
 ∀ (pins:List (Addr × Obj)) (s:Shared) (σ:St) (H:Hp) (Q:Bool→Hp→Prop),Inv X pins σ H s→t σ H Q →
  wpAny (model X.prog X.w) X.A (forIn ifs true fun c r=>if r=true then do let ok ← isTrue c X.env (eval c X.env); pure (ForInStep.yield ok) else pure (ForInStep.yield r)) (TP X pins σ Q) X.xe s
theorem xce {X:Cx}:PIf X [] xdn:=fun pins s σ H Q I h=>wpAny_pure ⟨H,I,h⟩
theorem xc8 {X:Cx} {c:Expr} {t:TT} (hc:PT X c t):PIf X [c] t:=fun pins s σ H Q I h=>by
 rw [List.forIn_cons]
 refine wpAny_bind ?_
 rw [if_pos rfl]
 refine wpAny_bind (wpAny_mono (hc pins s σ H Q I h) (fun b s1 q=>wpAny_pure ?_) fun _ _ z=>z)
 exact wpAny_pure q
section
variable {X:Cx} {scope:Scope} {x:Str} {ys:List Str} {fr:List Nat} {elt iter:Expr} {ifs:List Expr} {px pos:Pos} {wi:TI} {tc:TT} {te:TE}
end
end L2
set_option maxRecDepth 100000
namespace L2
open PySem PySem.Spec PyProof.Rows XL
variable {q0:Bool}
theorem xkw {env:Env} {scope:Scope} (nc:∀ y ∈ scope.names,y.2≠.cell) (n:Str) (h:(relabel scope env).names.lookup n=some .cell∨(relabel scope env).names.lookup n=some .free):n ∈ xcn scope:=by
 have key:∀ k,(relabel scope env).names.lookup n=some k→(k=.cell∨k=.free)→n ∈ xcn scope:=fun k e hk=>by
  obtain ⟨y,hy,ey⟩:=List.mem_map.mp (PySem.mem_of_lookup e)
  obtain ⟨m,j⟩:=y
  dsimp only at ey
  split at ey
  ·rename_i q
   injection ey with e1 e2
   subst e1
   have:j=.free:=by
    simp only [Bool.and_eq_true,beq_iff_eq] at q
    exact q.1.1
   subst this
   exact List.mem_map.mpr ⟨_,List.mem_filter.mpr ⟨hy,by simp⟩,rfl⟩
  ·injection ey with e1 e2
   subst e1 e2
   rcases hk with z | z
   ·exact absurd z (nc _ hy)
   ·subst z
    exact List.mem_map.mpr ⟨_,List.mem_filter.mpr ⟨hy,by simp⟩,rfl⟩
 rcases h with h | h
 ·exact key _ h (.inl rfl)
 ·exact key _ h (.inr rfl)
theorem xjj {env:Env} {scope:Scope} {n:Str} (h:scope.names.lookup n=some .free):(relabel scope env).names.lookup n=some .cell∨(relabel scope env).names.lookup n=some .free:=by
  have key:∀ (l:List (Str × NameKind)),l.lookup n=some .free→(l.map fun (m,k)=>if (k == NameKind.free && env.scope.kind == .function && env.kindOf m == some .cell) then (m,NameKind.cell) else (m,k)).lookup n=some .cell ∨
      (l.map fun (m,k)=>if (k == NameKind.free && env.scope.kind == .function && env.kindOf m == some .cell) then (m,NameKind.cell) else (m,k)).lookup n=some .free:=fun l=>by
    induction l with
    | nil=>intro e; simp at e
    | cons y r ih =>
      intro e
      obtain ⟨m,k⟩:=y
      rw [List.map_cons]
      rw [List.lookup_cons] at e
      cases q:n == m with
      | true =>
        rw [q] at e
        cases e
        dsimp only
        split
        · left; rw [List.lookup_cons,q]
        · right; rw [List.lookup_cons,q]
      | false =>
        rw [q] at e
        have z:=ih e
        dsimp only
        split <;> (rw [List.lookup_cons,q]; exact z)
  exact key _ h
section
variable {P:Program} {w:World} {K:PySem.W.Frag} {mg:Str→Option Value} {base:Heap}
theorem Fun.okn {x qual:Str} {st:Stmt} {f:Addr} {fd:FuncData} {N ps:List Str} {k:Nat} {sp:Sp} (F:Fun K x qual st f fd) (S:x9 N ps (xi st)) (len:∀ vs H Q E,sp vs H Q E→vs.length=ps.length)
    (hbody:∀ (cdv:Value) (A:Around) (outer:List Env) (s:Shared) (H:Hp) (vs:List V) (Q:VK) (E:XK),Room q0 k (A.deeper (envOfC qual (xi st) s.heap.objs.size f cdv))→sp vs H Q E →
      ∃ t,PSs (cxOf q0 (CXo P w) P w K mg base N qual (xi st) f cdv A outer s H E).nox (x4 st) t∧t { nx:=fun _ H'=>Q .non H',rt:=Q } (xcx N vs) H):FnOk q0 P w K mg base (CXo P w) (k + 1) f fd ps sp:=by
  obtain ⟨oc,od,kV,doc,pm,an,cdv,ct,osl,rfl,lk,hcd⟩:=F.ex
  refine xja lk hcd S len fun A outer s H vs Q E hr hsp=>?_
  obtain ⟨t,h,q⟩:=hbody cdv A outer s H vs Q E hr hsp
  exact ⟨t,h.nox,q⟩
end
end L2
set_option maxRecDepth 100000
namespace L2
open PySem PySem.Spec PyProof.Rows XL
theorem ifP {b:Bool} {A B:Prop} (h:b=true) (q:A):if b=true then A else B:=by
 rw [if_pos h]
 exact q
theorem ifN {b:Bool} {A B:Prop} (h:b=false) (q:B):if b=true then A else B:=by
 rw [if_neg (by rw [h]; decide)]
 exact q
end L2
set_option maxRecDepth 100000
namespace L2
open PySem PySem.Spec PyProof.Rows XL
def sgn (c:Nat):V:=.str ⟨#[c]⟩
def Its (x:Str):It:=⟨fun i _=>i < x.cps.toList.length,fun i H v H'=>H'=H∧∃ c,x.cps.toList[i]?=some c∧v=sgn c,fun i _=>x.cps.toList.length≤i⟩
theorem xn0 {h h':Heap} {it:Addr} {ty:String} {x:Str} {t:Tok} {i:Nat} (y:h.IsStrIter it ty x t i) (k:∀ o,h.get? it=some o→h'.get? it=some o):h'.IsStrIter it ty x t i:=by
 obtain ⟨o,ho,r⟩:=y
 exact ⟨o,k o ho,r⟩
theorem xmx {P:Program} {w:World} {K:PySem.W.Frag} {tg:Expr} {x:Str} (t:Tok) (it:Addr):Turn P w K tg (Its x) [it] it (fun i h=>h.IsStrIter it "str_ascii_iterator" x t i) where
 mem:=by simp
 obj:=fun i h st b hb=>by
  have e:b=it:=by simpa using hb
  subst e
  obtain ⟨o,e,c,d⟩:=st
  exact ⟨o,e,fun v z=>by rw [d] at z; cases z⟩
 keep:=fun i h h' st k=>xn0 st fun o e=>k it (by simp) o e
 item:=by
  intro X hP hw hK hc i pins s σ H E I hf st hg
  subst hP hw hK
  have lt:i < x.cps.toList.length:=hg
  have ex:x.cps[i]?=some (x.cps.toList[i]):=by simp
  obtain ⟨f0,f1,f2,f3,f4,f5⟩:=hf it (by simp)
  refine wpAny_pyNext_ascii_item st ex fun h' st' sb=>?_
  have I1:Inv X pins σ H { s with heap:=h',toks:=s.toks + 1 }:=I.turned (t':=s.toks + 1) (fun b o hb e=>(sb.2 b hb).trans e) f0 f1 f3 f4 f5
  obtain ⟨o,e,c,d⟩:=id st'
  exact ⟨_,rfl,xhc (s:={ s with heap:=h',toks:=s.toks + 1 }) e c d (by decide) ⟨sgn (x.cps.toList[i]),H,I1,⟨_,rfl⟩,⟨rfl,_,by simp,rfl⟩,st',fun b hb=>(hf b hb).1⟩⟩
 done:=by
  intro X hP hw hK hc i pins s σ H E I hf st hg
  subst hP hw hK
  have ge:x.cps.toList.length≤i:=hg
  obtain ⟨f0,f1,f2,f3,f4,f5⟩:=hf it (by simp)
  exact wpAny_pyNext_ascii_end (I.ok.hd hc) st (by simpa using ge) fun h' eb=>⟨rfl,I.turned (t':=s.toks) (fun b o hb e=>eb b o hb e) f0 f1 f3 f4 f5⟩
 self:=fun _ _ _ _ _ st h=>wpAny_pyIter_striter_ascii st h
def iStr (tl:TE):TI:=fun σ H R=>tl σ H fun v H1=>∃ x:Str,v=.str x∧x.cps.all (· < 128)=true∧R (Its x) H1
theorem xpe {X:Cx} {tg l:Expr} {tl:TE} (hl:PE X l tl):PI X tg l (iStr tl):=by
 intro pins s σ H R I h
 refine thn (hl pins s σ H _ I h) fun v s1 ⟨y,H1,I1,r1,x,e,ha,q⟩=>?_
 subst e
 obtain ⟨t,rfl⟩:=r1
 refine wpAny_pyIter_ascii ha ?_
 refine ⟨s1.heap.objs.size,[s1.heap.objs.size],_,_,H1,rfl,I1.kept (t':=s1.toks) fun b o e=>Heap.get?_push_of_some _ e,xmx t _,⟨_,Heap.get?_push_size _ rfl,rfl,rfl⟩,fun b hb=>?_,q⟩
 have e:b=s1.heap.objs.size:=by simpa using hb
 subst e
 exact I1.fpOk (Nat.le_refl _) (I1.hok.fresh (Nat.le_refl _))
theorem xn6 {x:Str} {g:TG} {tb:TS} {D:Ends} {σ:St} {H:Hp} (Pv:Nat→St→Hp→Prop) (h0:Pv 0 σ H)
    (hs:∀ i c σ H,x.cps.toList[i]?=some c→Pv i σ H→g (sgn c) σ H fun σ2 H2=>tb { D with nx:=Pv (i + 1),ct:=Pv (i + 1),bk:=D.nx } σ2 H2) (hd:∀ σ H,Pv x.cps.toList.length σ H→D.nx σ H) :
    ∃ W:Nat→Nat→St→Hp→Prop,(∃ m,W 0 m σ H)∧∀ i m σ H,W i m σ H →
      ((Its x).stop i H∧D.nx σ H)∨((Its x).go i H∧∃ N:St→Hp→Prop,(∀ σ' H',N σ' H'→∃ m',m' < m∧W (i + 1) m' σ' H')∧∀ v H',(Its x).yld i H v H'→g v σ H' fun σ2 H2=>tb { D with nx:=N,ct:=N,bk:=D.nx } σ2 H2):=by
  refine ⟨fun i m σ H=>m=x.cps.toList.length - i∧i≤x.cps.toList.length∧Pv i σ H,⟨x.cps.toList.length,by simp,Nat.zero_le _,h0⟩,?_⟩
  rintro i m σ H ⟨rfl,hi,p⟩
  by_cases lt:i < x.cps.toList.length
  · refine .inr ⟨lt,Pv (i + 1),fun σ' H' p'=>⟨x.cps.toList.length - (i + 1),by omega,rfl,lt,p'⟩,fun v H' y=>?_⟩
    obtain ⟨e,c,ec,ev⟩:=y
    subst e ev
    exact hs i c σ _ ec p
  · have e:i=x.cps.toList.length:=by omega
    subst e
    exact .inl ⟨Nat.le_refl _,hd σ H p⟩
section
variable {X:Cx}
theorem xdp:OpR X (compareOp .LtE) (fun x y H Q=>∃ i j,x=.str i∧y=.str j∧Q (.bl (!decide (j.cps.toList < i.cps.toList))) H):=by
 intro pins s σ H x y v u Q I rx ry h
 obtain ⟨i,j,rfl,rfl,q⟩:=h
 obtain ⟨t,rfl⟩:=rx
 obtain ⟨t',rfl⟩:=ry
 exact PySem.P.le_str (xak I q rfl)
theorem xdx:xb4 X (.type "range") (fun xs H Q=>∃ i j,xs=[.int i,.int j]∧∀ p,H p=none→Q (.ref p) (upd H p (.rng i j))):=by
 intro pins s σ H xs us Q I r h
 obtain ⟨i,j,rfl,q⟩:=h
 obtain ⟨u,w',rfl,⟨t,rfl⟩,⟨t',rfl⟩⟩:=xju r
 refine call_range_2 ⟨.ref s.heap.objs.size,_,I.laid (t':=s.toks + 1) (fun b o e=>Heap.get?_push_of_some _ e) (Nat.le_refl _) (show xap X.prog X.w _ _ _ (.rng i j) from ⟨_,_,_,Heap.get?_push_size _ rfl⟩),rfl,q _ (I.hok.fresh (Nat.le_refl _))⟩
end
end L2
set_option maxRecDepth 100000
namespace L2
open PySem PySem.Spec PyProof.Rows
variable {q0:Bool}
section
variable {X:Cx}
theorem xge:∀ {us:List Value} {ys:List V},us.length=ys.length→(∀ (j:Nat) (y:V) (u:Value),ys[j]?=some y→us[j]?=some u→RelV y u)→Vals ys us
 | [],[],_,_=>.nil
 | u :: us,y :: ys,hl,h=>.cons (h 0 y u rfl rfl) (xge (Nat.succ.inj hl) fun j y' u' e e'=>h (j + 1) y' u' e e')
def rngL (lo hi:Int):List V:=(List.range (hi - lo).toNat).map fun (i:Nat)=>V.int (lo + (i:Int))
theorem xc3 (hc:X.calm=true):xb4 X (.type "list") (fun xs H Q=>∃ p lo hi,xs=[.ref p]∧H p=some (.rng lo hi)∧(-(2 ^ 62)≤lo∧lo < 2 ^ 62∧-(2 ^ 62)≤hi∧hi < 2 ^ 62)∧(hi - lo).toNat≤1000 ∧
    ∀ l,H l=none→Q (.ref l) (upd H l (.lst (rngL lo hi)))):=by
  intro pins s σ H xs us Q I r h
  obtain ⟨p,lo,hi,rfl,hp,⟨h1,h2,h3,h4⟩,hn,q⟩:=h
  obtain ⟨u,rfl,rx⟩:=xci r
  cases rx
  obtain ⟨t1,t2,t3,g⟩:=(show xap X.prog X.w H s.heap p (.rng lo hi) from I.hok p _ hp)
  refine call_list_range (I.ok.hd hc) g (small_one h1 h2 h3 h4) (n:=(hi - lo).toNat) (by rw [rangeSize_one]; split <;> omega) (Nat.le_trans hn (by decide)) fun h' tk acc' c' kp e it=>?_
  have len:acc'.toList.length=(rngL lo hi).length:=by rw [rngL,List.length_map,List.length_range]; exact it.1
  refine ⟨.ref s.heap.objs.size,_,I.laid (t':=tk) kp (Nat.le_refl _) (show xap X.prog X.w _ h' _ (.lst (rngL lo hi)) from ⟨?_,acc'.toList,c',xge len fun j y u ey eu=>?_,by simpa using e⟩),rfl,q _ (I.hok.fresh (Nat.le_refl _))⟩
  · rw [rngL,List.length_map,List.length_range]
    exact Nat.le_trans hn (by decide)
  · have eu':acc'[j]?=some u:=by simpa using eu
    obtain ⟨t,e2⟩:=it.2 j u eu'
    have lt:j < (hi - lo).toNat:=by
      have:=(List.getElem?_eq_some_iff.mp ey).1
      simpa [rngL] using this
    rw [rngL,List.getElem?_map,List.getElem?_range lt] at ey
    cases ey
    exact ⟨t,by rw [e2,Int.mul_one]⟩
end
end L2
set_option maxRecDepth 100000
namespace L2
open PySem PySem.Spec PyProof.Rows
variable {q0:Bool}
structure FunD (K:PySem.W.Frag) (x qual:Str) (st:Stmt) (T f:Addr) (fd:FuncData):Prop where
 ex:∃ (oc:Value) (od:Option Addr) (kV doc pm:Value) (an:Option Addr) (cdv ct:Value) (osl:Array (Option Value)),
  fd=PySem.W.fnOf x qual (x6 st) (x4 st) (xi st) (.ref T) kV doc pm an cdv ct∧K.lookup f=some ⟨oc,od,.func fd,osl⟩∧PySem.W.codeIn K cdv qual=true
 kp:PySem.W.keepIn K (.ref f)=true
section
variable {P:Program} {w:World} {K:PySem.W.Frag} {mg:Str→Option Value} {base:Heap}
theorem FunD.okn {x qual:Str} {st:Stmt} {T f:Addr} {fd:FuncData} {N ps:List Str} {k:Nat} {sp:Sp} (F:FunD K x qual st T f fd) (S:x9 N ps (xi st)) (len:∀ vs H Q E,sp vs H Q E→vs.length=ps.length)
    (hbody:∀ (cdv:Value) (A:Around) (outer:List Env) (s:Shared) (H:Hp) (vs:List V) (Q:VK) (E:XK),Room q0 k (A.deeper (envOfC qual (xi st) s.heap.objs.size f cdv))→sp vs H Q E →
      ∃ t,PSs (cxOf q0 (CXo P w) P w K mg base N qual (xi st) f cdv A outer s H E).nox (x4 st) t∧t { nx:=fun _ H'=>Q .non H',rt:=Q } (xcx N vs) H):FnOk q0 P w K mg base (CXo P w) (k + 1) f fd ps sp:=by
  obtain ⟨oc,od,kV,doc,pm,an,cdv,ct,osl,rfl,lk,hcd⟩:=F.ex
  refine xja lk hcd S len fun A outer s H vs Q E hr hsp=>?_
  obtain ⟨t,h,q⟩:=hbody cdv A outer s H vs Q E hr hsp
  exact ⟨t,h.nox,q⟩
theorem FunD.binds {x qual:Str} {st:Stmt} {T f:Addr} {fd:FuncData} {ps:List Str} {o:Obj} {items:Array Value} {n:Nat} {ds:List Value} (F:FunD K x qual st T f fd) (ho:K.lookup T=some o) (hs:o.data=.seq items n) (m:Nat) (hm:m + ds.length=ps.length)
    (h:∀ (kV doc pm:Value) (an:Option Addr) (cdv ct:Value) (us:List Value),us.length=m →
      ∃ k,bindArgs (PySem.W.fnOf x qual (x6 st) (x4 st) (xi st) (.ref T) kV doc pm an cdv ct) ⟨us,[]⟩=seqItems? (.ref T) >>= k∧k (some items)=pure (ps.zip (us ++ ds))):xae K fd ps ds:=by
  obtain ⟨oc,od,kV,doc,pm,an,cdv,ct,osl,rfl,lk,hcd⟩:=F.ex
  intro s us hK hl
  rw [List.length_append] at hl
  obtain ⟨k,h1,h2⟩:=h kV doc pm an cdv ct us (by omega)
  exact BindsTo.of_defaults rfl (hK _ _ ho) hs h1 h2
theorem xis {x qual:Str} {st:Stmt} {T f:Addr} {oc:Value} {od an:Option Addr} {osl:Array (Option Value)} {kV doc pm cdv ct:Value} (l:K.lookup f=some ⟨oc,od,.func (PySem.W.fnOf x qual (x6 st) (x4 st) (xi st) (.ref T) kV doc pm an cdv ct),osl⟩)
    (c:PySem.W.codeIn K cdv qual=true) (k:PySem.W.keepIn K (.ref f)=true):FunD K x qual st T f (PySem.W.fnOf x qual (x6 st) (x4 st) (xi st) (.ref T) kV doc pm an cdv ct):=⟨⟨oc,od,kV,doc,pm,an,cdv,ct,osl,rfl,l,c⟩,k⟩
end
end L2
set_option maxRecDepth 100000
namespace L2
open PySem PySem.Spec PyProof.Rows XL
variable {q0:Bool}
abbrev Cx.blkG (X:Cx) (scope:Scope) (zs:List Str) (ys:List Str) (C:Addr) (ex:List Addr) (s:Shared) (H:Hp) (pn:List (Addr × Obj)):Cx where
 prog:=X.prog
 w:=X.w
 K:=X.K
 mg:=X.mg
 base:=X.base
 A:=X.A
 N:=zs ++ ys
 s₀:=s
 H₀:=H
 env:=compEnvC scope (X.clo scope) C X.env
 outer:=X.stack
 stack:=X.stack
 ex:=ex
 fn:=fun _=>false
 calm:=X.calm
 pn:=pn
 xe:=fun _ _=>False
theorem xfv {prog:Program} {w:World} {A:Around} {R:Result→Shared→Prop} {s:Shared} {elt target iter:Expr} {ifs:List Expr} {scope:Scope} {pos:Pos} {it acc:Value} {env:Env} (I:Nat→Shared→Prop)
    (turn:∀ n s,I n s→wpAny (model prog w) A (pyNext it) (fun r s₁=>match r with
      | none=>R (.ok .next) s₁
      | some v=>wpAny (model prog w) A (letOwnedTupleGo target it v) (fun _ s₀=>wpAny (model prog w) A (assign target env v) (fun _ s₂ =>
          wpAny (model prog w) A (forIn ifs true fun c r=>if r=true then do let ok ← isTrue c env (eval c env); pure (ForInStep.yield ok) else pure (ForInStep.yield r)) (fun ok s₃ =>
            if ok=true then wpAny (model prog w) A (eval elt env) (fun x s₄ =>
              wpAny (model prog w) A (call (.builtin "list.append") [acc,x]) (fun _ s₅=>∃ m,m < n∧I m s₅) (notedBy (model prog w) A env fun e s'=>R (.error e) s') s₄) (notedBy (model prog w) A env fun e s'=>R (.error e) s') s₃
            else ∃ m,m < n∧I m s₃) (notedBy (model prog w) A env fun e s'=>R (.error e) s') s₂) (notedBy (model prog w) A env fun e s'=>R (.error e) s') s₀) (notedBy (model prog w) A env fun e s'=>R (.error e) s') s₁) (notedBy (model prog w) A env fun e s'=>R (.error e) s') s)
    (n:Nat) (h:I n s):codeAny (model prog w) A (.compLoop (.ListComp elt [⟨target,iter,ifs,0⟩] scope pos) 0 it acc env) R s:=by
  refine codeAny_loop rfl I (fun n s hI=>?_) n h
  show wpAny _ A ((compTurn (.ListComp elt [⟨target,iter,ifs,0⟩] scope pos) 0 it acc env).onRaise (fun x=>do noteFrame x env; theTreesLotGoes x)) _ _ s
  refine wpAny_noted ?_
  rw [compTurn_list]
  refine wpAny_bind (wpAny_standAt (wpAny_bind (wpAny_mono (turn n s hI) (fun r s₁ h₁=>?_) fun _ _ h'=>h')))
  cases r with
  | none=>exact wpAny_pure h₁
  | some v =>
    refine wpAny_bind (wpAny_mono h₁ (fun _ s₀ h₀=>wpAny_bind (wpAny_mono h₀ (fun _ s₂ h₂=>wpAny_bind (wpAny_mono h₂ (fun ok s₃ h₃=>?_) fun _ _ h'=>h')) fun _ _ h'=>h')) fun _ _ h'=>h')
    cases ok with
    | false=>exact wpAny_pure ⟨rfl,h₃⟩
    | true =>
      exact wpAny_bind (wpAny_bind (wpAny_mono h₃ (fun x s₄ h₄=>wpAny_bind (wpAny_mono h₄ (fun _ s₅ h₅=>wpAny_pure (wpAny_pure ⟨rfl,h₅⟩)) fun _ _ h'=>h')) fun _ _ h'=>h'))
structure BlkG (X:Cx) (scope:Scope) (zs:List Str) (ys:List Str) (fr:List Nat):Prop where
 kind:scope.kind=.function
 own:∀ x ∈ zs,scope.names.lookup x=some .local
 ncell:∀ y ∈ scope.names,y.2≠.cell
 names:∀ y ∈ scope.names,y.2=.local→scope.names.lookup y.1=some .local
 free:∀ n ∈ xcn scope,X.env.scope.names.lookup n=some .cell
 has:∀ n,((relabel scope X.env).names.lookup n=some .cell∨(relabel scope X.env).names.lookup n=some .free)→n ∈ xcn scope
 slots:fr.map (fun i=>X.N[i]?)=ys.map some
 ysf:∀ y ∈ ys,y ∈ xcn scope
 ysc:∀ y ∈ ys,(relabel scope X.env).names.lookup y=some .cell∨(relabel scope X.env).names.lookup y=some .free
 st:X.stack=X.env :: X.outer
 nd:X.N.Nodup
 ndb:(zs ++ ys).Nodup
def blk0 (σ:St) (fr:List Nat) (n:Nat):St:=List.replicate n none ++ fr.map fun i=>(σ[i]?).join
section
variable {X:Cx} {pins:List (Addr × Obj)} {σ:St} {H:Hp} {s:Shared} {scope:Scope} {zs:List Str} {ys:List Str} {fr:List Nat} {fp:List Addr}
theorem BlkG.cells (B:BlkG X scope zs ys fr) (I:Inv X pins σ H s):∀ n ∈ xcn scope,∃ c,X.env.cells.lookup n=some c:=fun n hn=>I.ok.has n (.inl (B.free n hn))
theorem BlkG.sub (B:BlkG X scope zs ys fr) (I:Inv X pins σ H s) {n:Str} {c:Addr} (h:(X.clo scope).lookup n=some c):X.env.cells.lookup n=some c:=by
 obtain ⟨a,b⟩:=xnn h
 obtain ⟨d,e⟩:=B.cells I n a
 rw [e] at b
 rw [b,e]
 rfl
theorem Inv.blkG {h1:Heap} {m1:Str→Option Value} {t':Nat} (B:BlkG X scope zs ys fr) (I:Inv X pins σ H s) (hf:∀ b ∈ fp,FpOk X pins H b) (hz:∀ b ∈ fp,b < s.heap.objs.size) (n1:h1.Ns s.heap.objs.size m1) (k1:∀ b o,s.heap.get? b=some o→h1.get? b=some o) :
    Inv (X.blkG scope zs ys s.heap.objs.size fp s H (X.pn ++ pins)) [] (blk0 σ fr zs.length) H { s with heap:=h1,toks:=t' }:=by
  have sub:∀ n c,(X.clo scope).lookup n=some c→X.env.cells.lookup n=some c:=fun n c h=>B.sub I h
  have cz:∀ n c,X.env.cells.lookup n=some c→c < s.heap.objs.size:=fun n c e=>by
    obtain ⟨v,o,ho,_⟩:=I.cell n c e
    exact Heap.lt_size ho
  have nfs:∀ b ∈ fp,b ∉ frs X.stack:=fun b hb z=>(List.mem_cons.mp (I.stkSub b z)).elim (hf b hb).2.1 (hf b hb).2.2.1
  have fz:∀ b,b ∈ frs X.stack→b < s.heap.objs.size:=fun b hb=>by
    obtain ⟨_,o,ho,_⟩:=I.stack.mem hb
    exact Heap.lt_size ho
  refine ⟨⟨I.ok.mod,B.kind,I.ok.glob,I.ok.blt,Nat.le_refl _,fun y z c h1 h2=>I.ok.inj y z c (sub y c h1) (sub z c h2),fun y hy=>?_,(fun y c hy _=>nomatch hy),I.ok.hd,I.ok.frames,.inl rfl,fun b hb=>⟨?_,fun y c h=>(hf b hb).2.2.2.2.1 y c (sub y c h)⟩,
      I.bs,Nat.le_trans I.ok.bsz I.sz,fun b o e hb=>?_,fun b hb=>nfs b hb,I.stack,I.stkFree⟩,
    rfl,I.bare,Un.kept k1,⟨m1,n1,fun i y v e1 e2 e3=>?_⟩,fun y c h=>?_,I.hok.fresh (Nat.le_refl _),fun y c h=>I.freeC y c (sub y c h),fun p hp=>?_,I.hok.kept k1,?_⟩
  · obtain ⟨c,e⟩:=B.cells I y (B.has y hy)
    exact ⟨c,xix (B.has y hy) e⟩
  · exact Nat.ne_of_lt (hz b hb)
  · rcases (hf b hb).2.2.2.1 with z | z
    · exact I.ok.noex b o e z
    · exact absurd (Nat.lt_of_lt_of_le (Heap.lt_size (I.ok.bs b o e).1) z) (Nat.lt_irrefl _)
  · have ln:(List.replicate zs.length (none:Option V)).length=zs.length:=List.length_replicate
    by_cases lt:i < zs.length
    · have e2':(blk0 σ fr zs.length)[i]?=some (some v):=e2
      unfold blk0 at e2'
      rw [List.getElem?_append_left (by rw [ln]; exact lt),List.getElem?_replicate] at e2'
      split at e2' <;> cases e2'
    · obtain ⟨k,rfl⟩:∃ k,i=zs.length + k:=⟨i - zs.length,by omega⟩
      have e2':(fr.map fun i=>(σ[i]?).join)[k]?=some (some v):=by
        have z:(blk0 σ fr zs.length)[zs.length + k]?=some (some v):=e2
        unfold blk0 at z
        rw [List.getElem?_append_right (by rw [ln]; omega),ln] at z
        simpa using z
      have e1':ys[k]?=some y:=by
        have z:(zs ++ ys)[zs.length + k]?=some y:=e1
        rw [List.getElem?_append_right (by omega)] at z
        simpa using z
      rw [List.getElem?_map] at e2'
      obtain ⟨j,hj,ej⟩:=Option.map_eq_some_iff.mp e2'
      have ev:σ[j]?=some (some v):=by
        cases q:σ[j]? with
        | none=>rw [q] at ej; cases ej
        | some w=>rw [q] at ej; exact congrArg some ej
      have eN:X.N[j]?=some y:=by
        have z:=congrArg (fun l=>l[k]?) B.slots
        simp only [List.getElem?_map,hj,e1',Option.map_some] at z
        exact Option.some.inj z
      have my:y ∈ ys:=List.mem_of_getElem? e1'
      obtain ⟨m,_,lk⟩:=I.loc
      obtain ⟨u,r,l⟩:=lk j y v eN ev (.inr (.inl (B.free y (B.ysf y my))))
      refine ⟨u,r,.inr ⟨B.ysc y my,?_⟩⟩
      rcases l with ⟨kk,_⟩ | ⟨_,c,e,o,ho,hd⟩
      · have z:=B.free y (B.ysf y my)
        rw [show X.env.scope.names.lookup y=some .local from kk] at z
        cases z
      · exact ⟨c,xix (B.ysf y my) e,o,k1 c o ho,hd⟩
  · obtain ⟨v,o,ho,hd⟩:=I.cell y c (sub y c h)
    exact ⟨v,o,k1 c o ho,hd⟩
  · have hp':p ∈ X.pn ++ pins:=by simpa using hp
    obtain ⟨a1,a2,a3,a4,a5⟩:=I.pin p hp'
    exact ⟨k1 _ _ a1,a2,Nat.ne_of_lt (Heap.lt_size a1),fun z=>(List.mem_cons.mp (I.stkSub _ z)).elim a3 a4,a5⟩
  · have z:=congrArg List.length B.slots
    simp only [List.length_map] at z
    simp [blk0,z]
end
section
variable {X:Cx} {pins:List (Addr × Obj)} {σ:St} {H:Hp} {s:Shared} {scope:Scope} {zs:List Str} {ys:List Str} {fr:List Nat} {fp:List Addr}
theorem Inv.unblkG {C:Addr} {s':Shared} {h2:Heap} {σ':St} {H':Hp} {pl:List (Addr × Obj)} (I:Inv X pins σ H s) (hf:∀ b ∈ fp,FpOk X pins H b) (hC:s.heap.objs.size≤C) (J:Inv (X.blkG scope zs ys C fp s H (X.pn ++ pins)) pl σ' H' s') (sb:Heap.SameBut C s'.heap h2) :
    Inv X pins σ H' { s' with heap:=h2 }:=by
  have kp:∀ b o,b≠C→s'.heap.get? b=some o→h2.get? b=some o:=fun b o nb g=>(sb.2 b nb).trans g
  have old:∀ b o,s.heap.get? b=some o→b≠C:=fun b o g=>Nat.ne_of_lt (Nat.lt_of_lt_of_le (Heap.lt_size g) hC)
  have trk:∀ b u,H' b=some u→b≠C:=fun b u hb z=>by
    have f:H' C=none:=J.free
    rw [z,f] at hb
    cases hb
  refine I.call' (s':={ s' with heap:=h2 }) J.os (ch:=fp) ⟨fun b o e n hb hx=>kp b o (old b o e) (J.base.keep b o e n hb hx),fun b o e n hb hx=>?_,fun b o e n hx=>J.base.free b o e n hx,fun b o e hx=>?_,J.base.tups,J.base.frzs,J.base.tbls⟩ (fun b u hb=>?_) J.bare fun b hb=>?_
  · obtain ⟨sl,q⟩:=J.base.slot b o e n hb hx
    exact ⟨sl,kp b _ (old b o e) q⟩
  · obtain ⟨o',q⟩:=J.base.there b o e hx
    exact ⟨o',kp b o' (old b o e) q⟩
  · refine (J.hok b u hb).stay (fun c v hc q=>?_) (fun c q=>q) fun c xs q=>q
    rcases hc with rfl | hc
    · exact kp c v (trk c u hb) q
    · exact kp c v (trk c _ hc) q
  · obtain ⟨_,a1,_,a3,a4,a5⟩:=hf b hb
    exact ⟨a3,a1,a4,a5⟩
end
def GOk (n:Nat) (g:TG):Prop:=∀ v σ H Q,g v σ H Q→g v σ H (fun σ' H'=>Q σ' H'∧σ'.length=σ.length∧∀ i,n≤i→σ'[i]?=σ[i]?)
theorem xbo {i n:Nat} (h:i < n):GOk n (xe4 i):=fun v σ H Q q=>⟨q,by simp,fun j hj=>by rw [List.getElem?_set_ne (by omega)]⟩
def xcv (J:It) (n:Nat) (g:TG) (σ:St) (fr:List Nat) (tc:TT) (te:TE) (l:Addr) (H1:Hp) (Q:VK):Prop:=∃ W:Nat→Nat→List V→Hp→Prop,(∃ m,W 0 m [] (upd H1 l (.lst [])))∧∀ i m xs H2,W i m xs H2 →
 (J.stop i H2∧Q (.ref l) H2)∨(J.go i H2∧∀ v H3,J.yld i H2 v H3→g v (blk0 σ fr n) H3 fun σ' H3'=>tc σ' H3' fun b H4=>if b=true then
  (te σ' H4 fun y H5=>H5 l=some (.lst xs)∧xs.length < sizeLine∧∃ m',m' < m∧W (i + 1) m' (xs ++ [y]) (upd H5 l (.lst (xs ++ [y])))) else ∃ m',m' < m∧W (i + 1) m' xs H4)
def xhl (wi:TI) (n:Nat) (g:TG) (fr:List Nat) (tc:TT) (te:TE):TE:=fun σ H Q=>wi σ H fun J H1=>∀ l,H1 l=none→xcv J n g σ fr tc te l H1 Q
section
variable {X:Cx} {scope:Scope} {zs:List Str} {ys:List Str} {fr:List Nat} {elt iter tg:Expr} {g:TG} {ifs:List Expr} {px pos:Pos} {wi:TI} {tc:TT} {te:TE}
theorem xf7 {pins:List (Addr × Obj)} {s:Shared} {σ:St} {H:Hp} {Q:VK} {U:Option (Value→Sem Unit)} {R:Value→Shared→Prop} (hc:X.calm=true) (B:BlkG X scope zs ys fr) (hi:PI X tg iter wi) (hg:∀ C ex s H pn,(∀ x ∈ zs,(relabel scope X.env).names.lookup x=some .local)→(zs ++ ys).Nodup→PG (X.blkG scope zs ys C ex s H pn) tg g) (gok:GOk zs.length g)
    (hif:∀ C ex s H pn,PIf (X.blkG scope zs ys C ex s H pn) ifs tc) (he:∀ C ex s H pn,PE (X.blkG scope zs ys C ex s H pn) elt te) (I:Inv X pins σ H s) (h:xhl wi zs.length g fr tc te σ H Q)
    (fin:∀ C l H' s' m,(X.s₀.heap.objs.size≤C∧C≠X.env.locals∧(∀ x c,X.env.cells.lookup x=some c→c≠C)∧∀ p ∈ X.pn ++ pins,p.1≠C)→H' C=none→s'.heap.Ns C m→(∀ h2,Heap.SameBut C s'.heap h2→Inv X pins σ H' { s' with heap:=h2 })→Q (.ref l) H'→compPost (model X.prog X.w) X.A X.xe U R (.ref l) C (.ok .next) s') :
    wpAny (model X.prog X.w) X.A (eval iter X.env) (fun v s1=>wpAny (model X.prog X.w) X.A (pyIter v) (fun it s2=>wpAny (model X.prog X.w) X.A (newList []) (fun acc s3 =>
      wpAny (model X.prog X.w) X.A (newFunctionEnv scope X.env.globals (X.clo scope) [] X.env.qual none .none (some X.env)) (fun cenv s4 =>
        codeAny (model X.prog X.w) X.A (.compStart (.ListComp elt [⟨tg,iter,ifs,0⟩] scope pos) 0 it acc { cenv with scope:=relabel scope X.env }) (compPost (model X.prog X.w) X.A X.xe U R acc cenv.locals) s4) X.xe s3) X.xe s2) X.xe s1) X.xe s:=by
  refine thn (hi pins s σ H _ I h) fun v s1 h1=>thn h1 fun itv s2 h2=>?_
  obtain ⟨it,fp,tn,J,H2,rfl,I2,T,st2,f2,body⟩:=h2
  have hN:H2 s2.heap.objs.size=none:=I2.hok.fresh (Nat.le_refl _)
  obtain ⟨W,⟨m0,w0⟩,turn⟩:=body s2.heap.objs.size hN
  refine wpAny_newObj_type ?_
  generalize hs3:({ s2 with heap:=s2.heap.push { cls:=.type "list",data:=.seq ([]:List Value).toArray } }:Shared)=s3
  have k3:∀ b o,s2.heap.get? b=some o→s3.heap.get? b=some o:=fun b o g=>by rw [← hs3]; exact Heap.get?_push_of_some _ g
  have I3:Inv X pins σ (upd H2 s2.heap.objs.size (.lst [])) s3:=by
    rw [← hs3]
    exact I2.laid (t':=s2.toks) (fun b u e=>Heap.get?_push_of_some _ e) (Nat.le_refl _) ⟨Nat.zero_le _,[],0,.nil,Heap.get?_push_size _ rfl⟩
  have z2:∀ b ∈ fp,b < s2.heap.objs.size:=fun b hb=>by
    obtain ⟨o,g,_⟩:=T.obj 0 _ st2 b hb
    exact Heap.lt_size g
  have z3:∀ b ∈ fp,b < s3.heap.objs.size:=fun b hb=>by
    obtain ⟨o,g,_⟩:=T.obj 0 _ st2 b hb
    exact Heap.lt_size (k3 b o g)
  have f3:∀ b ∈ fp,FpOk X pins (upd H2 s2.heap.objs.size (.lst [])) b:=fun b hb=>⟨by rw [xj (Nat.ne_of_lt (z2 b hb))]; exact (f2 b hb).1,(f2 b hb).2⟩
  have st3:tn 0 s3.heap:=T.keep _ _ _ st2 fun b _ o g=>k3 b o g
  refine wpAny_newFunctionEnv B.ncell (by intro y hy; simp at hy) (fun h1 n1 sb1=>?_) B.kind
  have k4:∀ b o,s3.heap.get? b=some o→h1.get? b=some o:=fun b o g=>sb1.extBut b o (Nat.ne_of_lt (Heap.lt_size g)) (Heap.get?_push_of_some _ g)
  have I4:=I3.blkG (t':=s3.toks + ([]:List (Str × Value)).length) B f3 z3 n1 k4
  have st4:tn 0 h1:=T.keep _ _ _ st3 fun b _ o g=>k4 b o g
  have own':∀ x ∈ zs,(relabel scope X.env).names.lookup x=some .local:=fun x hx=>lookup_relabel_local (B.own x hx)
  -- the iterator's objects,through the loop
  have stat:∀ {H':Hp},(∀ b ∈ fp,H' b=none)→∀ b ∈ fp,FpOk (X.blkG scope zs ys s3.heap.objs.size fp s3 (upd H2 s2.heap.objs.size (.lst [])) (X.pn ++ pins)) [] H' b:=fun hn b hb=>by
    obtain ⟨_,a1,a2,a3,a4,a5⟩:=f3 b hb
    exact ⟨hn b hb,Nat.ne_of_lt (z3 b hb),fun z=>(List.mem_cons.mp (I3.stkSub b z)).elim a1 a2,.inl hb,fun y c h=>a4 y c (B.sub I3 h),fun p hp=>a5 p (by simpa using hp)⟩
  have loop:∀ s4:Shared,s4={ s3 with heap:=h1,toks:=s3.toks + ([]:List (Str × Value)).length } →
      codeAny (model X.prog X.w) X.A (.compLoop (.ListComp elt [⟨tg,iter,ifs,0⟩] scope pos) 0 (.ref it) (.ref s2.heap.objs.size) (compEnvC scope (X.clo scope) s3.heap.objs.size X.env))
        (compPost (model X.prog X.w) X.A X.xe U R (.ref s2.heap.objs.size) s3.heap.objs.size) s4:=by
    rintro s4 rfl
    refine xfv (fun n s'=>∃ i xs H',Inv (X.blkG scope zs ys s3.heap.objs.size fp s3 (upd H2 s2.heap.objs.size (.lst [])) (X.pn ++ pins)) [] (blk0 σ fr zs.length) H' s'∧tn i s'.heap∧(∀ b ∈ fp,H' b=none)∧W i n xs H') ?_ m0
      ⟨0,[],_,I4,st4,fun b hb=>(f3 b hb).1,w0⟩
    rintro n s5 ⟨i,xs,H5,I5,st5,fr5,w5⟩
    rcases turn i n xs H5 w5 with ⟨stop,q⟩ | ⟨go,step⟩
    · refine wpAny_mono (T.done (X.blkG scope zs ys s3.heap.objs.size fp s3 (upd H2 s2.heap.objs.size (.lst [])) (X.pn ++ pins)) rfl rfl rfl hc i [] s5 _ H5 (fun _ _=>False) I5 (stat fr5) st5 stop) (fun r s6 ⟨hr,I6⟩=>?_) fun _ _ z=>z.elim
      subst hr
      obtain ⟨m,hm,_⟩:=I6.loc
      exact fin _ _ H5 s6 m ⟨I3.sz,(I3.size_lt (Nat.le_refl _)).2⟩ I6.free hm (fun h2 sb=>I3.unblkG f3 (Nat.le_refl _) I6 sb) q
    · refine wpAny_mono (T.item (X.blkG scope zs ys s3.heap.objs.size fp s3 (upd H2 s2.heap.objs.size (.lst [])) (X.pn ++ pins)) rfl rfl rfl hc i [] s5 _ H5 (fun _ _=>False) I5 (stat fr5) st5 go) (fun r s6 ⟨u,hr,h6⟩=>?_) fun _ _ z=>z.elim
      subst hr
      refine wpAny_mono h6 (fun _ s7 ⟨y,H7,I7,r7,y7,st7,fr7⟩=>?_) fun _ _ z=>z.elim
      have I7':=I7.pinned (stat fr7) (T.obj _ _ st7)
      refine wpAny_mono (hg _ _ _ _ _ own' B.ndb _ s7 _ H7 y u _ I7' r7 (gok _ _ _ _ (step y H7 y7))) (fun _ s8 ⟨σ8,H8,I8,q8,l8,k8⟩=>?_) fun _ _ z=>z.elim
      have back:∀ {s9:Shared} {H9:Hp} {xs':List V},Inv (X.blkG scope zs ys s3.heap.objs.size fp s3 (upd H2 s2.heap.objs.size (.lst [])) (X.pn ++ pins)) ([] ++ xey fp s7.heap) σ8 H9 s9→(∃ m',m' < n∧W (i + 1) m' xs' H9) →
          ∃ m,m < n∧∃ i xs H',Inv (X.blkG scope zs ys s3.heap.objs.size fp s3 (upd H2 s2.heap.objs.size (.lst [])) (X.pn ++ pins)) [] (blk0 σ fr zs.length) H' s9∧tn i s9.heap∧(∀ b ∈ fp,H' b=none)∧W i m xs H':=fun {s9 H9 xs'} I9 ⟨m',lt,w9⟩=>by
        refine ⟨m',lt,i + 1,xs',H9,I9.unpinned.weak l8.symm (fun j v e=>?_),T.keep _ _ _ st7 fun b hb o e=>(I9.pin (b,o) (List.mem_append_right _ (List.mem_append_right _ (xc6 hb e)))).1,fun b hb=>?_,w9⟩
        · by_cases lj:j < zs.length
          · unfold blk0 at e
            rw [List.getElem?_append_left (by rw [List.length_replicate]; exact lj),List.getElem?_replicate] at e
            split at e <;> cases e
          · rw [k8 j (by omega)]
            exact e
        obtain ⟨o,e,d⟩:=T.obj _ _ st7 b hb
        exact (I9.pin (b,o) (List.mem_append_right _ (List.mem_append_right _ (xc6 hb e)))).2.1
      refine wpAny_mono (hif _ _ _ _ _ _ s8 _ H8 _ I8 q8) (fun ok s9 ⟨H9,I9,q9⟩=>?_) fun _ _ z=>z.elim
      cases ok with
      | false =>
        rw [if_neg (by decide)] at q9 ⊢
        exact back I9 q9
      | true =>
        rw [if_pos rfl] at q9 ⊢
        refine wpAny_mono (he _ _ _ _ _ _ s9 _ H9 _ I9 q9) (fun ev s10 ⟨yv,H10,I10,r10,hl,len,w10⟩=>?_) fun _ _ z=>z.elim
        refine wpAny_mono (xa7 (X:=X.blkG scope zs ys s3.heap.objs.size fp s3 (upd H2 s2.heap.objs.size (.lst [])) (X.pn ++ pins)) _ s10 _ H10 (.ref s2.heap.objs.size) [yv] (.ref s2.heap.objs.size) [ev] (fun v H'=>H'=upd H10 s2.heap.objs.size (.lst (xs ++ [yv]))) I10 rfl (.cons r10 .nil) ⟨_,xs,yv,rfl,rfl,hl,len,rfl⟩)
          (fun _ s11 ⟨_,H11,I11,_,e11⟩=>?_) fun _ _ z=>z.elim
        subst e11
        exact back I11 w10
  exact codeAny_compStart_list (loop _ rfl) (T.self _ 0 _ _ _ st4 (loop _ rfl))
theorem xcj (hc:X.calm=true) (B:BlkG X scope zs ys fr) (hi:PI X tg iter wi) (hg:∀ C ex s H pn,(∀ x ∈ zs,(relabel scope X.env).names.lookup x=some .local)→(zs ++ ys).Nodup→PG (X.blkG scope zs ys C ex s H pn) tg g) (gok:GOk zs.length g) (hif:∀ C ex s H pn,PIf (X.blkG scope zs ys C ex s H pn) ifs tc) (he:∀ C ex s H pn,PE (X.blkG scope zs ys C ex s H pn) elt te)
    (hs:∀ x,foldedSetIterable iter X.env x=pure x:=by intro _; rfl):PE X (.ListComp elt [⟨tg,iter,ifs,0⟩] scope pos) (xhl wi zs.length g fr tc te):=by
  intro pins s σ H Q I h
  rw [eval_ListComp]
  refine wpAny_comprehension_free (use:=none) rfl hs (xj8 (B.cells I)) B.kind B.names (xf7 hc B hi hg gok hif he I h fun C l H' s' m _ _ hm iv q=>?_)
  exact ⟨m,hm,fun h2 sb=>⟨.ref l,H',iv h2 sb,rfl,q⟩⟩
theorem xcb {j:Nat} {y:Str} {py spos:Pos} (hc:X.calm=true) (B:BlkG X scope zs ys fr) (hi:PI X tg iter wi) (hg:∀ C ex s H pn,(∀ x ∈ zs,(relabel scope X.env).names.lookup x=some .local)→(zs ++ ys).Nodup→PG (X.blkG scope zs ys C ex s H pn) tg g) (gok:GOk zs.length g) (hif:∀ C ex s H pn,PIf (X.blkG scope zs ys C ex s H pn) ifs tc) (he:∀ C ex s H pn,PE (X.blkG scope zs ys C ex s H pn) elt te)
    (hj:X.N[j]?=some y) (hy:Loc X.env.scope y) (hf:X.fn y=true∨X.env.scope.names.lookup y=some .local:=by first | exact .inl rfl | exact .inr rfl | assumption)
    (hsw:swapsWith (.ListComp elt [⟨tg,iter,ifs,0⟩] scope pos) (some (.Name y py)) spos.line X.env=pure true:=by rfl)
    (hs:∀ x,foldedSetIterable iter X.env x=pure x:=by intro _; rfl):PS X (.Assign [.Name y py] (.ListComp elt [⟨tg,iter,ifs,0⟩] scope pos) spos) (tAsg (xhl wi zs.length g fr tc te) (xe4 j)):=by
  intro pins s σ H D I h
  rw [exec_Assign_Name_used _ _ _ _ hsw]
  refine wpAny_bind (wpAny_standAt (wpAny_bind ?_))
  show wpAny _ _ (do let _ ← comprehension (.ListComp elt [⟨tg,iter,ifs,0⟩] scope pos) scope X.env _ (newList []) false (eval iter X.env) (some (assign (.Name y py) X.env))) _ _ s
  refine wpAny_bind (wpAny_mono (wpAny_comprehension_free (use:=some (assign (.Name y py) X.env)) (Q:=fun _ s'=>SP X pins D .next s') rfl hs (xj8 (B.cells I)) B.kind B.names
    (xf7 hc B hi hg gok hif he I h fun C l H' s' m hC hn hm iv q=>?_)) (fun _ s' z=>wpAny_pure (wpAny_pure z)) fun _ _ e=>e)
  show wpAny _ _ (assign (.Name y py) X.env (.ref l)) _ _ _
  have J:Inv X pins σ H' s':=iv s'.heap (.refl ..)
  refine wpAny_assign_Name (xgv (v:=V.ref l) J B.nd hj hy rfl (fun s2 J2 ⟨a,sb,ha⟩=>?_) hf)
  have na:a≠C:=by
    rcases ha with z | z
    · rw [z]; exact Ne.symm hC.2.1
    · exact hC.2.2.1 _ _ z
  refine ⟨m,?_,fun h2 s3=>?_⟩
  · obtain ⟨o,es,ep,g,r⟩:=hm
    exact ⟨o,es,ep,(sb.2 C (Ne.symm na)).trans g,r⟩
  · exact ⟨_,H',J2.turned (t':=s2.toks) (fun b o nb g=>(s3.2 b nb).trans g) hn (hC.2.1) (.inr hC.1) hC.2.2.1 hC.2.2.2,q⟩
end
def xkn (scope sc0:Scope) (N0:List Str) (zs:List Str) (ys:List Str) (fr:List Nat):Bool :=
 scope.kind == .function && zs.all (fun x=>scope.names.lookup x == some .local) && scope.names.all (fun y=>y.2 != .cell) && scope.names.all (fun y=>y.2 != .local || scope.names.lookup y.1 == some .local) &&
 (xcn scope).all (fun n=>sc0.names.lookup n == some .cell) && fr.map (fun i=>N0[i]?) == ys.map some && ys.all (fun y=>scope.names.lookup y == some .free) && decide N0.Nodup && decide (zs ++ ys).Nodup
theorem xbe {X:Cx} {scope sc0:Scope} {N0:List Str} {zs:List Str} {ys:List Str} {fr:List Nat} (chk:xkn scope sc0 N0 zs ys fr=true) (es:X.env.scope=sc0) (eN:X.N=N0) (st:X.stack=X.env :: X.outer):BlkG X scope zs ys fr:=by
 unfold xkn at chk
 simp only [Bool.and_eq_true,beq_iff_eq,List.all_eq_true,decide_eq_true_eq] at chk
 obtain ⟨⟨⟨⟨⟨⟨⟨⟨a1,a2⟩,a3⟩,a4⟩,a5⟩,a6⟩,a7⟩,a8⟩,a9⟩:=chk
 have nc:∀ y ∈ scope.names,y.2≠.cell:=fun y hy=>by simpa using a3 y hy
 refine ⟨a1,a2,nc,fun y hy hl=>?_,fun n hn=>by rw [es]; exact a5 n hn,fun n h=>xkw nc n h,by rw [eN]; exact a6,fun y hy=>?_,fun y hy=>xjj (a7 y hy),st,by rw [eN]; exact a8,a9⟩
 ·have z:=a4 y hy
  rw [hl] at z
  simpa using z
 ·exact List.mem_map.mpr ⟨(y,.free),List.mem_filter.mpr ⟨PySem.mem_of_lookup (a7 y hy),by simp⟩,rfl⟩
theorem xgd {K:PySem.W.Frag} {m n:Nat} {t:TGs} (h:∀ vs σ H Q,t vs σ H Q→t vs σ H (fun σ' H'=>Q σ' H'∧σ'.length=σ.length∧∀ i,n≤i→σ'[i]?=σ[i]?)):GOk n (gTup K m t):=fun v σ H Q q=>by
 obtain ⟨a,xs,e,hs,hl,q⟩:=q
 exact ⟨a,xs,e,hs,hl,h _ _ _ _ q⟩
theorem xfm {n:Nat}:∀ vs σ H Q,gNil vs σ H Q→gNil vs σ H (fun σ' H'=>Q σ' H'∧σ'.length=σ.length∧∀ i,n≤i→σ'[i]?=σ[i]?):=fun vs σ H Q q=>⟨q.1,q.2,rfl,fun _ _=>rfl⟩
theorem xcl {i n:Nat} (hi:i < n) {t:TGs} (h:∀ vs σ H Q,t vs σ H Q→t vs σ H (fun σ' H'=>Q σ' H'∧σ'.length=σ.length∧∀ i,n≤i→σ'[i]?=σ[i]?)) :
    ∀ vs σ H Q,xjm (xe4 i) t vs σ H Q→xjm (xe4 i) t vs σ H (fun σ' H'=>Q σ' H'∧σ'.length=σ.length∧∀ i,n≤i→σ'[i]?=σ[i]?):=fun vs σ H Q q=>by
  obtain ⟨v,r,e,q⟩:=q
  refine ⟨v,r,e,?_⟩
  have z:=h _ _ _ _ q
  have e2:∀ (j:Nat),n≤j→(σ.set i (some v))[j]?=σ[j]?:=fun j hj=>by rw [List.getElem?_set_ne (by omega)]
  have e1:(σ.set i (some v)).length=σ.length:=by simp
  have key:(fun σ' H'=>Q σ' H'∧σ'.length=(σ.set i (some v)).length∧∀ j,n≤j→σ'[j]?=(σ.set i (some v))[j]?)=(fun σ' (H':Hp)=>Q σ' H'∧σ'.length=σ.length∧∀ j,n≤j→σ'[j]?=σ[j]?):=by
    funext σ' H'
    rw [e1]
    refine propext ⟨fun ⟨a,b,c⟩=>⟨a,b,fun j hj=>(c j hj).trans (e2 j hj)⟩,fun ⟨a,b,c⟩=>⟨a,b,fun j hj=>(c j hj).trans (e2 j hj).symm⟩⟩
  rw [key] at z
  exact z
theorem xct {J:It} {n:Nat} {g:TG} {σ:St} {fr:List Nat} {tc:TT} {te:TE} {l:Addr} {H1:Hp} {Q:VK} (len:Nat) (Pv:Nat→List V→Hp→Prop) (h0:Pv 0 [] (upd H1 l (.lst []))) (hgo:∀ i xs H,i < len→Pv i xs H→J.go i H)
    (step:∀ i xs H2 v H3,i < len→Pv i xs H2→J.yld i H2 v H3→∀ N:List V→Hp→Prop,(∀ xs' H',Pv (i + 1) xs' H'→N xs' H')→g v (blk0 σ fr n) H3 fun σ' H3'=>tc σ' H3' fun b H4=>if b=true then
      (te σ' H4 fun y H5=>H5 l=some (.lst xs)∧xs.length < sizeLine∧N (xs ++ [y]) (upd H5 l (.lst (xs ++ [y])))) else N xs H4)
    (fin:∀ xs H2,Pv len xs H2→J.stop len H2∧Q (.ref l) H2):xcv J n g σ fr tc te l H1 Q:=by
  refine ⟨fun i m xs H=>m=len - i∧i≤len∧Pv i xs H,⟨len,by simp,Nat.zero_le _,h0⟩,?_⟩
  rintro i m xs H2 ⟨rfl,hi,p⟩
  by_cases lt:i < len
  · exact .inr ⟨hgo i xs H2 lt p,fun v H3 y=>step i xs H2 v H3 lt p y (fun xs' H'=>∃ m',m' < len - i∧m'=len - (i + 1)∧i + 1≤len∧Pv (i + 1) xs' H') fun xs' H' q=>⟨_,by omega,rfl,lt,q⟩⟩
  · have e:i=len:=by omega
    subst e
    exact .inl (fin xs H2 p)
end L2
set_option maxRecDepth 100000
namespace L2
open PySem PySem.Spec PyProof.Rows XL
variable {q0:Bool}
section
variable {X:Cx} {pins:List (Addr × Obj)} {σ:St} {H:Hp} {s:Shared}
theorem Inv.adopt {p:Addr} {o:HO} (I:Inv X pins σ H s) (n:H p=none) (h0:X.s₀.heap.objs.size≤p) (hL:p≠X.env.locals) (hC:∀ x c,X.env.cells.lookup x=some c→c≠p) (hp:∀ q ∈ X.pn ++ pins,q.1≠p)
    (new:xap X.prog X.w (upd H p o) s.heap p o):Inv X pins σ (upd H p o) s:=by
  have ne:∀ b u,H b=some u→b≠p:=fun b u e=>xm e n
  refine ⟨I.ok,I.os,I.bare,⟨I.base.keep,I.base.slot,fun b ob e hn hx=>?_,I.base.there,fun b xs e=>?_,fun b ob u e=>?_,fun b ps e=>?_⟩,I.loc,I.cell,?_,fun x c e=>?_,fun q hq=>?_,fun b u e=>?_,I.len⟩
  · rw [xj (Nat.ne_of_lt (Nat.lt_of_lt_of_le (Heap.lt_size e) h0))]
    exact I.base.free b ob e hn hx
  · have z:=I.base.tups b xs e
    rw [xj (ne b _ z)]
    exact z
  · have z:=I.base.frzs b ob u e
    rw [xj (ne b _ z)]
    exact z
  · obtain ⟨m,z⟩:=I.base.tbls b ps e
    exact ⟨m,by rw [xj (ne b _ z)]; exact z⟩
  · rw [xj (Ne.symm hL)]
    exact I.free
  · rw [xj (hC x c e)]
    exact I.freeC x c e
  · obtain ⟨a1,a2,a3⟩:=I.pin q hq
    exact ⟨a1,by rw [xj (hp q hq)]; exact a2,a3⟩
  · by_cases hb:b=p
    · subst hb
      rw [xf] at e
      cases e
      exact new
    · rw [xj hb] at e
      exact (I.hok b u e).stay (fun c v _ q=>q) (fun c q=>by rw [xj (ne c _ q)]; exact q) fun c xs q=>by rw [xj (ne c _ q)]; exact q
theorem Inv.thaw {d:Addr} {o:Obj} {u:HO} (I:Inv X pins σ H s) (e:H d=some (.frz o u)) (nf:∀ o' u',X.H₀ d≠some (.frz o' u')):Inv X pins σ (upd H d u) s:=by
 have ne:∀ b v,H b=some v→(∀ o' u',v≠.frz o' u')→b≠d:=fun b v h1 h2 z=>by
  subst z
  rw [e] at h1
  cases h1
  exact h2 _ _ rfl
 have ne0:∀ b,H b=none→b≠d:=fun b h1 z=>by
  subst z
  rw [e] at h1
  cases h1
 refine ⟨I.ok,I.os,I.bare,⟨I.base.keep,I.base.slot,fun b ob q hn hx=>?_,I.base.there,fun b xs q=>?_,fun b ob v q=>?_,fun b ps q=>?_⟩,I.loc,I.cell,?_,fun x c q=>?_,fun p hp=>?_,fun b v q=>?_,I.len⟩
 ·have z:=I.base.free b ob q hn hx
  rw [xj (ne0 b z)]
  exact z
 ·have z:=I.base.tups b xs q
  rw [xj (ne b _ z (fun _ _ h=>nomatch h))]
  exact z
 ·have z:=I.base.frzs b ob v q
  have hb:b≠d:=fun w=>by
   subst w
   exact nf _ _ q
  rw [xj hb]
  exact z
 ·obtain ⟨m,z⟩:=I.base.tbls b ps q
  exact ⟨m,by rw [xj (ne b _ z (fun _ _ h=>nomatch h))]; exact z⟩
 ·rw [xj (ne0 _ I.free)]
  exact I.free
 ·rw [xj (ne0 _ (I.freeC x c q))]
  exact I.freeC x c q
 ·obtain ⟨a1,a2,a3⟩:=I.pin p hp
  exact ⟨a1,by rw [xj (ne0 _ a2)]; exact a2,a3⟩
 ·have st:∀ (a:Addr) (v:HO),xap X.prog X.w H s.heap a v→xap X.prog X.w (upd H d u) s.heap a v:=fun a v k =>
   k.stay (fun c v _ q=>q) (fun c q=>by rw [xj (ne c _ q (fun _ _ h=>nomatch h))]; exact q) fun c xs q=>by rw [xj (ne c _ q (fun _ _ h=>nomatch h))]; exact q
  by_cases hb:b=d
  ·subst hb
   rw [xf] at q
   cases q
   obtain ⟨g,ok⟩:=I.hok b _ e
   exact st _ _ ok
  ·rw [xj hb] at q
   exact st _ _ (I.hok b v q)
theorem Inv.nofrz {d:Addr} {kvs:List (Key × V)} (I:Inv X pins σ H s) (e:H d=some (.dK kvs)):∀ o' u',X.H₀ d≠some (.frz o' u'):=fun o' u' z=>by
 have q:=I.base.frzs d o' u' z
 rw [e] at q
 cases q
theorem KV.get:∀ {kvs:List (Key × V)} {vs:List (Key × Value)} {i:Nat} {k:Key} {x:V},KV kvs vs→kvs[i]?=some (k,x)→∃ u,vs[i]?=some (k,u)∧RelV x u
 | _,_,_,_,_,.nil,e=>by simp at e
 | _,(_,_) :: _,0,_,_,.cons r _,e=>by
  simp at e
  subst e
  obtain ⟨r1,r2⟩:=r
  dsimp only at r1 r2
  subst r1
  exact ⟨_,rfl,r2⟩
 | _,_,i + 1,k,x,.cons _ t,e=>by
  obtain ⟨u,h1,h2⟩:=KV.get (i:=i) (k:=k) (x:=x) t (by simpa using e)
  exact ⟨u,by simpa using h1,h2⟩
theorem xpo {P:Program} {w:World} {k:Key} {u:Value} (h:(xas P w).is k u=true):RelV (kV k) u:=by
 rcases xa9 (show xd8 k u=true from h) with ⟨i,t,rfl,rfl⟩ | ⟨x,t,rfl,rfl⟩
 ·exact ⟨t,rfl⟩
 ·exact ⟨t,rfl⟩
theorem xk8 {d:Addr} {o:Obj} {kvs:List (Key × V)} {ep:Nat} (I:Inv X pins σ H s) (e:H d=some (.frz o (.dK kvs))) (hep:∃ es,o.data=.dict es ep):∃ vs,KV kvs vs∧s.heap.DictAt (xas X.prog X.w) d vs ep:=by
 obtain ⟨g,_,_,vs,rel,o',es',ep',g',ex,hdat,hk,hp,hn⟩:=I.hok d _ e
 rw [g] at g'
 cases g'
 obtain ⟨es,he⟩:=hep
 rw [he] at hdat
 cases hdat
 exact ⟨vs,rel,o,_,g,ex,he,hk,hp,hn⟩
end
def Iti (d:Addr) (o:Obj) (kvs:List (Key × V)):It :=
 ⟨fun i H=>H d=some (.frz o (.dK kvs))∧i < kvs.length,fun i H v H'=>∃ p k x,kvs[i]?=some (k,x)∧v=.ref p∧H p=none∧H'=upd H p (.tup [kV k,x]),fun i H=>H d=some (.frz o (.dK kvs))∧kvs.length≤i⟩
theorem xjr {P:Program} {w:World} {K:PySem.W.Frag} {elts:List Expr} {x1} {tpos:Pos} (d it:Addr) (o:Obj) (kvs:List (Key × V)) (ep:Nat) (hep:∃ es,o.data=.dict es ep) :
    Turn P w K (.Tuple elts x1 tpos) (Iti d o kvs) [it] it (fun i h=>∃ ok ov,IsItemIter h it d i kvs.length ep ok ov) where
  mem:=by simp
  obj:=fun i h st b hb=>by
    have e:b=it:=by simpa using hb
    subst e
    obtain ⟨ok,ov,st⟩:=st
    exact ⟨_,st,fun v z=>by
      have z':Data.fields _=Data.cell v:=z
      cases z'⟩
  keep:=fun i h h' ⟨ok,ov,st⟩ k=>⟨ok,ov,k it (by simp) _ st⟩
  item:=by
    intro X hP hw hK hc i pins s σ H E I hf st hg
    subst hP hw hK
    obtain ⟨ok,ov,st⟩:=st
    obtain ⟨e,lt⟩:=hg
    obtain ⟨vs,rel,da⟩:=xk8 I e hep
    obtain ⟨f0,f1,f2,f3,f4,f5⟩:=hf it (by simp)
    have hl:kvs.length=vs.length:=rel.length
    obtain ⟨⟨k,x⟩,q⟩:∃ y,kvs[i]=y:=⟨_,rfl⟩
    have hx:kvs[i]?=some (k,x):=by rw [List.getElem?_eq_getElem lt,q]
    obtain ⟨u,hv,ru⟩:=rel.get hx
    rw [hl] at st
    refine wpAny_pyNext_items_item st da hv fun key h' hkey hout ht hz hkp=>?_
    refine ⟨_,rfl,wpAny_letOwnedTupleGo_items hout fun h'' hit' hsb=>?_⟩
    have kk:∀ b o,b≠it→s.heap.get? b=some o→h''.get? b=some o:=fun b o hb g=>(hsb.2 b hb).trans (hkp b o hb g)
    have I1:Inv X pins σ H { s with heap:=h'' }:=I.turned (t':=s.toks) kk f0 f1 f3 f4 f5
    obtain ⟨n0,nL,nC,nP⟩:=I.size_lt (Nat.le_refl s.heap.objs.size)
    have itlt:it < s.heap.objs.size:=Heap.lt_size st
    have pne:s.heap.objs.size≠it:=Nat.ne_of_gt itlt
    have hp:h''.get? s.heap.objs.size=some { cls:=.type "tuple",data:=.seq #[key,u] }:=(hsb.2 _ pne).trans ht
    refine ⟨.ref s.heap.objs.size,upd H s.heap.objs.size (.tup [kV k,x]),I1.adopt n0 I.sz nL nC nP ⟨by show 2≤sizeLine; decide,[key,u],.cons (xpo hkey) (.cons ru .nil),_,hp,rfl,_,rfl⟩,rfl,⟨_,k,x,hx,rfl,n0,rfl⟩,?_,fun b hb=>?_⟩
    · rw [← hl] at hit'
      exact ⟨_,_,hit'⟩
    · have e:b=it:=by simpa using hb
      subst e
      rw [xj (Ne.symm pne)]
      exact f0
  done:=by
    intro X hP hw hK hc i pins s σ H E I hf st hg
    subst hP hw hK
    obtain ⟨ok,ov,st⟩:=st
    obtain ⟨e,le⟩:=hg
    obtain ⟨vs,rel,da⟩:=xk8 I e hep
    obtain ⟨f0,f1,f2,f3,f4,f5⟩:=hf it (by simp)
    have hl:kvs.length=vs.length:=rel.length
    rw [hl] at st
    exact wpAny_pyNext_items_end (I.ok.hd hc) st da (by simpa using (by omega:vs.length≤i)) fun h' eb=>⟨rfl,I.turned (t':=s.toks) (fun b o hb e=>eb b o hb e) f0 f1 f3 f4 f5⟩
  self:=fun _ _ _ _ _ ⟨ok,ov,st⟩ h=>PySem.W.kcp_self st h
def xp4 (X:Cx) (to:TE):TI:=fun σ H R=>to σ H fun x H1=>∃ d kvs,x=.ref d∧H1 d=some (.dK kvs)∧∀ ob,(∀ o' u',X.H₀ d≠some (.frz o' u'))→R (Iti d ob kvs) (upd H1 d (.frz ob (.dK kvs)))
section
variable {X:Cx} {o:Expr} {to:TE} {elts:List Expr} {x1:_} {tpos apos cpos:Pos}
theorem xmw (ho:PE X o to) (hbase:attributeBase o "items" X.env (eval o X.env)=eval o X.env:=by rfl) (hline:(apos.endLine == cpos.line)=true:=by rfl) :
    PI X (.Tuple elts x1 tpos) (.Call (.Attribute o "items" apos) [] [] cpos) (xp4 X to):=by
  intro pins s σ H R I h
  refine wpAny_Call_method0_late hbase hline (thn (ho pins s σ H _ I h) fun v s1 ⟨x,H1,I1,r1,q1⟩=>?_)
  obtain ⟨d,kvs,e1,e,q⟩:=q1
  subst e1
  cases r1
  obtain ⟨z,hd,vs,rel,dd⟩:=xjv I1.hok e
  obtain ⟨ob,es,ep,g,ex,hdat,hk,hp,hn⟩:=id dd
  refine ⟨"dict", "dict.items",PySem.F.plainAttrs_dict,PySem.F.slot_dict_items,PySem.F.type_dict_items,dd.typeIs,fun a e2=>?_,Calls.callWith_builtin rfl (PySem.evalArgs_none ?_)⟩
  · cases e2
    exact ⟨ob,g,ex.2.1⟩
  refine call_meetsIn PySem.F.slot_dict_items dd.typeIs PySem.F.entry_dict_items (PySem.F.args_dict_items_1 _) (meets_dict_items (xas X.prog X.w) d hd) ⟨⟨vs,dd⟩,?_⟩
  have da:(s1.heap.push { cls:=.type "dict_items",data:=.fields #[.ref d] }).DictAt (xas X.prog X.w) d vs ep:=⟨ob,es,Heap.get?_push_of_some _ g,ex,hdat,hk,hp,hn⟩
  refine wpAny_pyIter_items (s:={ s1 with heap:=s1.heap.push { cls:=.type "dict_items",data:=.fields #[.ref d] } }) ⟨_,Heap.get?_push_size _ rfl,rfl,rfl⟩ da ?_
  have I2:Inv X pins σ H1 { s1 with heap:=s1.heap.push { cls:=.type "dict_items",data:=.fields #[.ref d] } }:=I1.kept (t':=s1.toks) fun b o e=>Heap.get?_push_of_some _ e
  generalize hs2:({ s1 with heap:=s1.heap.push { cls:=.type "dict_items",data:=.fields #[.ref d] } }:Shared)=s2 at I2
  have g2:s2.heap.get? d=some ob:=by rw [← hs2]; exact Heap.get?_push_of_some _ g
  have I3:Inv X pins σ (upd H1 d (.frz ob (.dK kvs))) s2:=I2.write (t':=s2.toks) (x:=d) (e:=d) (by rw [e]; exact True.intro) (.inl rfl) (fun b u _ q=>q) ⟨ob,g2⟩ ⟨g2,I2.hok d _ e⟩
  have I4:Inv X pins σ (upd H1 d (.frz ob (.dK kvs))) { s2 with heap:=s2.heap.push { cls:=.type "dict_itemiterator",data:=.fields #[.none,.bool false,.ref d,.int 0 0,.int vs.length 0,.int ep 0,.none,.none] } } :=
    I3.kept (t':=s2.toks) fun b o e=>Heap.get?_push_of_some _ e
  have fin:PIE X pins σ (.Tuple elts x1 tpos) R (.ref s2.heap.objs.size) { s2 with heap:=s2.heap.push { cls:=.type "dict_itemiterator",data:=.fields #[.none,.bool false,.ref d,.int 0 0,.int vs.length 0,.int ep 0,.none,.none] } }:=by
    refine ⟨s2.heap.objs.size,[s2.heap.objs.size],_,_,upd H1 d (.frz ob (.dK kvs)),rfl,I4,xjr d _ ob kvs ep ⟨es,hdat⟩,⟨.none,.none,?_⟩,fun b hb=>?_,q ob (I1.nofrz e)⟩
    · have hl:kvs.length=vs.length:=rel.length
      show IsItemIter _ _ d 0 kvs.length ep .none .none
      rw [hl]
      exact Heap.get?_push_size _ rfl
    · have eb:b=s2.heap.objs.size:=by simpa using hb
      subst eb
      exact I3.fpOk (Nat.le_refl _) (I3.hok.fresh (Nat.le_refl _))
  exact fin
theorem xmh {pins:List (Addr × Obj)} {σ:St} {Q:VK} {u:Value} {s:Shared} (h:EP X pins σ (fun v H2=>∃ d ob u,H2 d=some (.frz ob u)∧(∀ o' u',X.H₀ d≠some (.frz o' u'))∧Q v (upd H2 d u)) u s):EP X pins σ Q u s:=by
 obtain ⟨v,H2,I2,r2,d,ob,u',e,nf,q⟩:=h
 exact ⟨v,_,I2.thaw e nf,r2,q⟩
theorem xn4 {e:Expr} {t:TE} (h:PE X e t):PE X e (fun σ H Q=>t σ H fun v H2=>∃ d ob u,H2 d=some (.frz ob u)∧(∀ o' u',X.H₀ d≠some (.frz o' u'))∧Q v (upd H2 d u)):=fun pins s σ H Q I q =>
 thn (h pins s σ H _ I q) fun _ _ z=>xmh z
end
end L2
set_option maxRecDepth 100000
namespace PySem.F
end PySem.F
namespace L2
open PySem PySem.Spec PyProof.Rows XL
variable {q0:Bool}
section
variable {X:Cx} {pins:List (Addr × Obj)} {σ:St} {H:Hp} {s:Shared} {a:Addr} {y v:V} {u r:Value} {A:Around} {E:Value→Shared→Prop}
end
end L2
set_option maxRecDepth 100000
namespace L2
open PySem PySem.Spec PyProof.Rows XL
variable {q0:Bool}
section
variable {X:Cx} {tg:Expr}
end
theorem xe5 {xs:List V} {us:List Value} (r:Vals xs us) {j:Nat} (h:j < us.toArray.size):∃ x,xs[j]?=some x∧RelV x us.toArray[j]:=by
 have hl:=r.length
 have hj:j < xs.length:=by simp at h; omega
 obtain ⟨u,h1,h2⟩:=r.get (x:=xs[j]) (List.getElem?_eq_getElem hj)
 refine ⟨xs[j],List.getElem?_eq_getElem hj,?_⟩
 have:us.toArray[j]=u:=by
  have z:=List.getElem?_eq_some_iff.mp h1
  obtain ⟨z1,z2⟩:=z
  simpa using z2
 rw [this]
 exact h2
section
variable {X:Cx} {pins:List (Addr × Obj)} {σ:St} {H:Hp} {s:Shared}
end
theorem xbr {A:Around} {k:Nat} (hr:Room q0 k A):A.units + 20 < cLine:=by have:=hr.un; omega
theorem xlp {X:Cx}:xb4 X (.builtin "len") (fun xs H Q=>∃ a kvs,xs=[.ref a]∧H a=some (.dK kvs)∧Q (.int kvs.length) H):=by
 intro pins s σ H xs us Q I r h
 obtain ⟨a,kvs,rfl,e,q⟩:=h
 obtain ⟨u,rfl,rx⟩:=xci r
 obtain rfl:u=Value.ref a:=rx
 exact xq0 I (.inl e) fun t s' I'=>⟨.int _,H,I',⟨t,rfl⟩,q⟩
inductive Ents (w:World):List DictEntry→List (Key × V)→Prop
 | nil:Ents w [] []
 | cons {k:Key} {x:V} {key val:Value} {h:Int} {es:List DictEntry} {kvs:List (Key × V)} (hh:h=keyH w k) (hk:RelV (kV k) key) (hv:RelV x val) (r:Ents w es kvs):Ents w (⟨h,key,val⟩ :: es) ((k,x) :: kvs)
def xjf (w:World) (K:PySem.W.Frag) (D:Addr) (kvs:List (Key × V)):Prop:=(D == sysModules)=false∧∃ (es:Array DictEntry) (ep:Nat),K.lookup D=some ⟨.type "dict",none,.dict es ep,#[]⟩∧Ents w es.toList kvs∧(kvs.map (·.1)).Nodup
theorem Ents.ok {P:Program} {w:World} {es:List DictEntry} {kvs:List (Key × V)} (h:Ents w es kvs):∃ vs,KV kvs vs∧Pairs (xas P w) es vs∧∀ e ∈ es,∃ k,(xas P w).is k e.key=true∧e.hash=(xas P w).hash k:=by
 induction h with
 | nil=>exact ⟨[],.nil,.nil,fun e z=>nomatch z⟩
 | @cons k x key val h es kvs hh hk hv _ ih =>
  obtain ⟨vs,a,b,c⟩:=ih
  refine ⟨(k,val) :: vs,.cons ⟨rfl,hv⟩ a,.cons (xds hk) rfl b,fun e he=>?_⟩
  rcases List.mem_cons.mp he with rfl | z
  ·exact ⟨k,xds hk,hh⟩
  ·exact c e z
section
variable {X:Cx} {pins:List (Addr × Obj)} {σ:St} {H:Hp} {s:Shared} {D:Addr} {kvs:List (Key × V)}
theorem xm3 (I:Inv X pins σ H s) (g:xjf X.w X.K D kvs):∃ vs,KV kvs vs∧s.heap.DictOf (xas X.prog X.w) D vs:=by
 obtain ⟨_,es,ep,l,en,nd⟩:=g
 obtain ⟨vs,a,b,c⟩:=en.ok (P:=X.prog)
 refine ⟨vs,a,_,es,ep,I.kIn _ _ l,⟨rfl,rfl,rfl⟩,rfl,fun e he=>c e (by simpa using he),b,?_⟩
 rw [← a.keys]
 exact nd
def tGIn (kvs:List (Key × V)) (neg:Bool) (ty:TE):TE:=fun σ H Q=>ty σ H fun y H1=>∃ k:Key,y=kV k∧Q (.bl (if neg then !(valV kvs k).isSome else (valV kvs k).isSome)) H1
theorem xkr {i:Expr} {ty:TE} {x:Str} {p:Pos} (hi:PE X i ty) (hg:Gl X x) (hm:X.mg x=some (.ref D)) (g:xjf X.w X.K D kvs) (hd:(x == ("__debug__":Str))=false:=by decide):PC X .NotIn i (.Name x p) (tGIn kvs true ty):=by
 intro pins s σ H Q I h
 refine thn (hi pins s σ H _ I h) fun iv s1 ⟨y,H1,I1,ry,k,ey,q1⟩=>thn (xe7 (v:=.ref D) hg hm rfl hd pins s1 σ H1 (fun v H2=>v=.ref D∧H2=H1) I1 ⟨rfl,rfl⟩) fun u s2 ⟨x,H2,I2,rx,e1,e2⟩=>?_
 subst ey e1 e2
 obtain rfl:u=Value.ref D:=rx
 obtain ⟨vs,rel,dd⟩:=xm3 I2 g
 refine wpAny_notIn_of (xds ry) g.1 dd.mapOf ?_
 rw [← (rel.val k).isSome_eq]
 exact ⟨.bl _,_,I2.tok _,rfl,q1⟩
end
end L2
set_option maxRecDepth 100000
namespace L2
open PySem PySem.Spec PyProof.Rows XL
variable {q0:Bool}
end L2
set_option maxRecDepth 100000
namespace L2
open PySem PySem.Spec PyProof.Rows XL
variable {q0:Bool}
section
variable {X:Cx} {pins:List (Addr × Obj)} {σ:St} {H:Hp} {s:Shared} {h':Heap}
theorem Inv.turnedL {t':Nat} {ch:List Addr} (I:Inv X pins σ H s) (k:∀ b o,b ∉ ch→s.heap.get? b=some o→h'.get? b=some o) (hf:∀ b ∈ ch,FpOk X pins H b):Inv X pins σ H { s with heap:=h',toks:=t' }:=by
 have nit:∀ b u,H b=some u→b ∉ ch:=fun b u e z=>by
  have:=(hf b z).1
  rw [this] at e
  cases e
 refine I.step (g':=s.gens) (d':=s.drawn) (ch:=ch) (fun b hb=>?_) (fun b o _ _ hc e _=>k b o hc e) (fun b o _ _ hc e _=>⟨o.slots,k b o hc e⟩) (fun _ _ _ _ n=>n)
  (fun b o hc e=>⟨o,k b o hc e⟩) (fun _ _ e=>e) (fun _ _ _ e=>e) (fun b ps e=>⟨#[],by rw [e]; simp⟩) (fun m hm=>?_) (fun b u e=>?_) I.bare
 ·obtain ⟨f0,f1,f2,f3,f4,f5⟩:=hf b hb
  exact ⟨f3,f1,f4,f5⟩
 ·obtain ⟨o,es,ep,ho,r⟩:=hm
  exact ⟨o,es,ep,k _ o (fun z=>(hf _ z).2.1 rfl) ho,r⟩
 ·refine (I.hok b u e).stay (fun c v hc q=>k c v ?_ q) (fun _ q=>q) fun _ _ q=>q
  rcases hc with z | z
  ·rw [z]; exact nit b u e
  ·exact nit c _ z
end
section
variable {X:Cx} {tg:Expr}
end
def Itz (K:PySem.W.Frag) (l1 l2:Addr):It :=
  ⟨fun i H=>∃ xs ys x y,SqL K H l1 xs∧SqL K H l2 ys∧xs[i]?=some x∧ys[i]?=some y,
   fun i H v H'=>∃ p x y,(∀ xs,SqL K H l1 xs→xs[i]?=some x)∧(∀ ys,SqL K H l2 ys→ys[i]?=some y)∧v=.ref p∧H p=none∧H'=upd H p (.tup [x,y]),
   fun i H=>∃ xs ys,SqL K H l1 xs∧SqL K H l2 ys∧(xs.length≤i∨ys.length≤i)⟩
structure Five (z TI TO i1 i2:Addr):Prop where
 TIz:TI≠z
 TOz:TO≠z
 i1z:i1≠z
 i2z:i2≠z
 TITO:TI≠TO
 TIi1:TI≠i1
 TIi2:TI≠i2
 TOi1:TO≠i1
 TOi2:TO≠i2
 i12:i1≠i2
theorem xb5 {a b:Nat} (h:a≠b):(a:Addr)≠(b:Addr):=h
theorem xof (n:Nat):Five (n + 4) (n + 2) (n + 3) n (n + 1) :=
 ⟨xb5 (by omega),xb5 (by omega),xb5 (by omega),xb5 (by omega),xb5 (by omega),xb5 (by omega),xb5 (by omega),xb5 (by omega),xb5 (by omega),xb5 (by omega)⟩
def xm9 (z TI TO i1 i2 l1 l2:Addr) (i:Nat) (h:Heap):Prop:=IsZip h z TI TO .none∧IsPair h TI (.ref i1) (.ref i2)∧(∃ a b,IsPair h TO a b)∧h.IsListIter i1 l1 i∧h.IsListIter i2 l2 i
theorem xcy {h:Heap} {a b:Addr} {x y:String} (ha:∃ o,h.get? a=some o∧o.cls=.type x) (hb:∃ o,h.get? b=some o∧o.cls=.type y) (n:(Value.type x == Value.type y)=false):a≠b:=fun e=>by
 subst e
 obtain ⟨o,ho,hc⟩:=ha
 obtain ⟨u,hu,hd⟩:=hb
 rw [ho] at hu
 cases hu
 rw [hc] at hd
 rw [hd] at n
 simp at n
theorem xg1 {z TI TO i1 i2 l1 l2:Addr} {i:Nat} {h:Heap} {xs ys:Array Value} (D:Five z TI TO i1 i2) (st:xm9 z TI TO i1 i2 l1 l2 i h) (hl1:h.IsList l1 xs) (hl2:h.IsList l2 ys):ZipApart z TI TO i1 i2 l1 l2:=by
 obtain ⟨hz,hTI,⟨a,b,hTO⟩,h1,h2⟩:=st
 have cz:∃ o,h.get? z=some o∧o.cls=.type "zip":=⟨_,hz,rfl⟩
 have cO:∃ o,h.get? TO=some o∧o.cls=.type "tuple":=⟨_,hTO,rfl⟩
 have c1:∃ o,h.get? i1=some o∧o.cls=.type "list_iterator":=let ⟨o,e,c,_⟩:=h1; ⟨o,e,c⟩
 have c2:∃ o,h.get? i2=some o∧o.cls=.type "list_iterator":=let ⟨o,e,c,_⟩:=h2; ⟨o,e,c⟩
 have k1:∃ o,h.get? l1=some o∧o.cls=.type "list":=let ⟨o,e,c,_⟩:=hl1; ⟨o,e,c⟩
 have k2:∃ o,h.get? l2=some o∧o.cls=.type "list":=let ⟨o,e,c,_⟩:=hl2; ⟨o,e,c⟩
 exact ⟨D.TIz,D.TOz,D.i1z,D.i2z,D.TITO,D.TIi1,D.TIi2,D.TOi1,D.TOi2,D.i12,xcy k1 cz (by decide),xcy k1 cO (by decide),xcy k1 c1 (by decide),xcy k1 c2 (by decide),xcy k2 cz (by decide),xcy k2 cO (by decide),xcy k2 c1 (by decide),xcy k2 c2 (by decide)⟩
theorem xms {P:Program} {w:World} {K:PySem.W.Frag} {elts:List Expr} {x1} {tpos:Pos} (z TI TO i1 i2 l1 l2:Addr) (D:Five z TI TO i1 i2) :
    Turn P w K (.Tuple elts x1 tpos) (Itz K l1 l2) [z,TI,TO,i1,i2] z (xm9 z TI TO i1 i2 l1 l2) where
  mem:=by simp
  obj:=fun i h st b hb=>by
    obtain ⟨hz,hTI,⟨a,c,hTO⟩,⟨o1,e1,c1,d1⟩,⟨o2,e2,c2,d2⟩⟩:=st
    simp only [List.mem_cons,List.not_mem_nil,or_false] at hb
    rcases hb with rfl | rfl | rfl | rfl | rfl
    · exact ⟨_,hz,fun v k=>by have k':Data.fields _=Data.cell v:=k; cases k'⟩
    · exact ⟨_,hTI,fun v k=>by have k':Data.seq _ _=Data.cell v:=k; cases k'⟩
    · exact ⟨_,hTO,fun v k=>by have k':Data.seq _ _=Data.cell v:=k; cases k'⟩
    · exact ⟨_,e1,fun v k=>by rw [d1] at k; cases k⟩
    · exact ⟨_,e2,fun v k=>by rw [d2] at k; cases k⟩
  keep:=fun i h h' ⟨hz,hTI,⟨a,c,hTO⟩,h1,h2⟩ k=>⟨k z (by simp) _ hz,k TI (by simp) _ hTI,⟨a,c,k TO (by simp) _ hTO⟩,h1.at fun o e=>k i1 (by simp) o e,h2.at fun o e=>k i2 (by simp) o e⟩
  item:=by
    intro X hP hw hK hc i pins s σ H E I hf st hg
    subst hP hw hK
    obtain ⟨xs,ys,x,y,hq1,hq2,hx,hy⟩:=hg
    obtain ⟨its,rv,p,hz1⟩:=I.list hq1
    obtain ⟨its2,rv2,p2,hz2⟩:=I.list hq2
    obtain ⟨u,hu,ru⟩:=rv.get hx
    obtain ⟨u2,hu2,ru2⟩:=rv2.get hy
    have ap:=xg1 D st p.isList p2.isList
    obtain ⟨hz,hTI,⟨a,c,hTO⟩,h1,h2⟩:=id st
    refine wpAny_pyNext_zip_item ap hz hTI hTO h1 h2 p.isList p2.isList (x:=u) (y:=u2) (by simpa using hu) (by simpa using hu2) fun h' a1 a2 a3 a4 a5 a6 a7=>?_
    refine ⟨_,rfl,wpAny_letOwnedTupleGo_zip (s:={ s with heap:=h' }) a1 fun h'' hz' hsb=>?_⟩
    have zlt:z < s.heap.objs.size:=Heap.lt_size hz
    have pne:s.heap.objs.size≠z:=Nat.ne_of_gt zlt
    have kk:∀ b o,b ∉ [z,TI,TO,i1,i2]→s.heap.get? b=some o→h''.get? b=some o:=fun b o hb g=>by
      simp only [List.mem_cons,List.not_mem_nil,or_false,not_or] at hb
      exact (hsb.2 b hb.1).trans (a7 b o hb.1 hb.2.2.1 hb.2.2.2.1 hb.2.2.2.2 g)
    have I1:Inv X pins σ H { s with heap:=h'' }:=I.turnedL (t':=s.toks) kk hf
    obtain ⟨n0,nL,nC,nP⟩:=I.size_lt (Nat.le_refl s.heap.objs.size)
    have hp:h''.get? s.heap.objs.size=some { cls:=.type "tuple",data:=.seq #[u,u2] }:=(hsb.2 _ pne).trans a5
    have hTI':h'.get? TI=_:=a7 TI _ ap.TIz ap.TITO ap.TIi1 ap.TIi2 hTI
    refine ⟨.ref s.heap.objs.size,upd H s.heap.objs.size (.tup [x,y]),I1.adopt n0 I.sz nL nC nP ⟨by show 2≤sizeLine; decide,[u,u2],.cons ru (.cons ru2 .nil),_,hp,rfl,_,rfl⟩,rfl,
      ⟨_,x,y,fun zs hz=>by rw [I.list_inj hz hq1]; exact hx,fun zs hz=>by rw [I.list_inj hz hq2]; exact hy,rfl,n0,rfl⟩,?_,fun b hb=>?_⟩
    · exact ⟨hz',hsb.extBut _ _ ap.TIz hTI',⟨_,_,hsb.extBut _ _ ap.TOz a2⟩,a3.extBut hsb.extBut ap.i1z,a4.extBut hsb.extBut ap.i2z⟩
    · obtain ⟨o,ho,_⟩:∃ o,s.heap.get? b=some o∧∀ v,o.data≠.cell v:=by
        obtain ⟨⟨o1,e1,c1,d1⟩,⟨o2,e2,c2,d2⟩⟩:=And.intro h1 h2
        simp only [List.mem_cons,List.not_mem_nil,or_false] at hb
        rcases hb with rfl | rfl | rfl | rfl | rfl
        · exact ⟨_,hz,fun v k=>by have k':Data.fields _=Data.cell v:=k; cases k'⟩
        · exact ⟨_,hTI,fun v k=>by have k':Data.seq _ _=Data.cell v:=k; cases k'⟩
        · exact ⟨_,hTO,fun v k=>by have k':Data.seq _ _=Data.cell v:=k; cases k'⟩
        · exact ⟨_,e1,fun v k=>by rw [d1] at k; cases k⟩
        · exact ⟨_,e2,fun v k=>by rw [d2] at k; cases k⟩
      rw [xj (Nat.ne_of_lt (Heap.lt_size ho))]
      exact (hf b hb).1
  done:=by
    intro X hP hw hK hc i pins s σ H E I hf st hg
    subst hP hw hK
    obtain ⟨xs,ys,hq1,hq2,hl⟩:=hg
    obtain ⟨its,rv,p,hz1⟩:=I.list hq1
    obtain ⟨its2,rv2,p2,hz2⟩:=I.list hq2
    have e1:=rv.length
    have e2:=rv2.length
    have ap:=xg1 D st p.isList p2.isList
    obtain ⟨hz,hTI,⟨a,c,hTO⟩,h1,h2⟩:=id st
    refine wpAny_pyNext_zip_end (I.ok.hd hc) ap hz hTI hTO h1 h2 p.isList p2.isList ?_ fun h' a7=>⟨rfl,I.turnedL (t':=s.toks) (fun b o hb g=>?_) hf⟩
    · rcases hl with l | l
      · left; simp; omega
      · right; simp; omega
    · simp only [List.mem_cons,List.not_mem_nil,or_false,not_or] at hb
      exact a7 b o hb.1 hb.2.2.1 hb.2.2.2.1 hb.2.2.2.2 g
  self:=fun _ _ _ _ _ st h=>wpAny_pyIter_zip st.1 h
def iZip (K:PySem.W.Frag) (ta:TA):TI:=fun σ H R=>ta σ H fun vs H1=>∃ a b xs ys,vs=[.ref a,.ref b]∧SqL K H1 a xs∧SqL K H1 b ys∧R (Itz K a b) H1
section
variable {X:Cx} {elts:List Expr} {x1:_} {tpos:Pos}
theorem xqk {a b:Expr} {ta:TA} {p pos:Pos} (hg:Gl X "zip") (hm:X.mg "zip"=none) (ha:PA X [a,b] ta) (hs:starEach [a,b] X.env=[(false,eval a X.env),(false,eval b X.env)]:=by rfl) (hs2:starEach [b] X.env=[(false,eval b X.env)]:=by rfl) :
    PI X (.Tuple elts x1 tpos) (.Call (.Name "zip" p) [a,b] [] pos) (iZip X.K ta):=by
  intro pins s σ H R I h
  refine Call_ (xdb I hg hm PyProof.Rows.Boot.«zip» (PyProof.Rows.callWith_type1 (thn (ha pos pins s σ H _ I h) fun us s1 ⟨vs,H1,I1,r1,q1⟩=>?_) (by rw [hs,hs2]) (by rw [hs2]; rfl)))
  obtain ⟨l1,l2,xs,ys,e,hq1,hq2,q⟩:=q1
  subst e
  obtain ⟨u,u2,rfl,ru,ru2⟩:=xju r1
  obtain rfl:u=Value.ref l1:=ru
  obtain rfl:u2=Value.ref l2:=ru2
  obtain ⟨its,rv,p1,hz1⟩:=I1.list hq1
  obtain ⟨its2,rv2,p2,hz2⟩:=I1.list hq2
  refine call_zip_2 p1.isList p2.isList fun h' hz hTI hTO h1 h2 hsz hk=>?_
  refine wpAny_pyIter_zip (s:={ s1 with heap:=h' }) hz ?_
  have I2:Inv X pins σ H1 { s1 with heap:=h' }:=I1.kept (t':=s1.toks) hk
  refine ⟨_,[s1.heap.objs.size + 4,s1.heap.objs.size + 2,s1.heap.objs.size + 3,s1.heap.objs.size,s1.heap.objs.size + 1],_,_,H1,rfl,I2,xms _ _ _ _ _ l1 l2 (xof s1.heap.objs.size),⟨hz,hTI,⟨_,_,hTO⟩,h1,h2⟩,fun b hb=>?_,q⟩
  have hb':s1.heap.objs.size≤b:=by
    simp only [List.mem_cons,List.not_mem_nil,or_false] at hb
    rcases hb with rfl | rfl | rfl | rfl | rfl
    · exact Nat.le_add_right _ 4
    · exact Nat.le_add_right _ 2
    · exact Nat.le_add_right _ 3
    · exact Nat.le_refl _
    · exact Nat.le_add_right _ 1
  exact I1.fpOk hb' (I1.hok.fresh hb')
end
end L2
set_option maxRecDepth 100000
namespace L2
open PySem PySem.Spec PyProof.Rows XL
variable {q0:Bool}
section
variable {X:Cx} {elts:List Expr} {x1:_} {tpos:Pos}
end
end L2
namespace L2
open PySem PySem.Spec PyProof.Rows XL
end L2
set_option maxRecDepth 100000
namespace L2
open PySem PySem.Spec PyProof.Rows XL
def tMid (t:TS):TS:=fun D σ H=>∃ Pv:St→Hp→Prop,t { D with nx:=Pv } σ H∧∀ σ' H',Pv σ' H'→D.nx σ' H'
theorem xc0 {X:Cx} {st:Stmt} {t:TS} (h:PS X st t):PS X st (tMid t):=by
 intro pins s σ H D I q
 obtain ⟨Pv,q1,q2⟩:=q
 refine thn (h pins s σ H { D with nx:=Pv } I q1) fun fl s1 z=>?_
 cases fl with
 | next =>
  obtain ⟨σ',H',I',r⟩:=z
  exact ⟨σ',H',I',q2 _ _ r⟩
 | _=>exact z
end L2
set_option maxRecDepth 100000
namespace XL
open PySem PySem.W
section
variable {prog:Program} {w:World} {A:Around} {E:Value→Shared→Prop} {h:Heap} {g:Array GenState} {d:Drawn} {t:Nat} {os:OsState}
variable {nm qn:Str} {C N:Addr} {bs bm bmB:List Value} {hz:Bool} {sn:List Str} {sub:List Value} {ab:Bool} {col:Option Bool} {dd:Option Addr} {k0 k1 k2 k3 k5:Option Value} {B ni ii:String}
end
end XL
namespace L2
open PySem PySem.Spec PyProof.Rows XL
variable {q0:Bool}
section
variable {X:Cx} {C:Addr} {x:Str} {p pos:Pos}
end
section
variable {X:Cx} {pos np hpos np1 np2 hpos1 hpos2:Pos} {body hbody hbody1 hbody2:List Stmt} {b0 b1 b2:Stmt} {cx cx1 cx2 n:Str} {C0 C1 C2:Addr} {j:Nat} {E:St→XK} {tb th th1 th2:TS} {rest:List ExceptHandler}
end
end L2
set_option maxRecDepth 100000
namespace L2
open PySem PySem.Spec PyProof.Rows XL
section
variable {X:Cx} {a b c d:Expr} {ta tb tc td:TE} {pos:Pos}
end
end L2
set_option maxRecDepth 100000
set_option maxHeartbeats 4000000
namespace L2
open PySem PySem.Calls PyProof PyProof.Rows
theorem xq1 {x y z:V} {us:List Value} (r:Vals [x,y,z] us):∃ u v w,us=[u,v,w]∧RelV x u∧RelV y v∧RelV z w:=by
 cases r with
 | cons r1 r2 =>
  cases r2 with
  | cons r3 r4 =>
   cases r4 with
   | cons r5 r6=>cases r6; exact ⟨_,_,_,rfl,r1,r3,r5⟩
theorem xj9 {X:Cx} (hc:X.calm=true):xb4 X (.builtin "min") (fun xs H Q=>∃ i j k:Int,xs=[.int i,.int j,.int k]∧∀ m:Int,m≤i→m≤j→m≤k→(m=i∨m=j∨m=k)→Q (.int m) H):=by
 intro pins s σ H xs us Q I r h
 obtain ⟨i,j,k,rfl,q⟩:=h
 obtain ⟨u,v,w',rfl,⟨t,rfl⟩,⟨t',rfl⟩,⟨t2,rfl⟩⟩:=xq1 r
 refine min_three_ints (I.ok.hd hc) fun h' tk k'=>?_
 by_cases h1:j < i
 ·rw [if_pos h1]
  by_cases h2:k < j
  ·rw [if_pos h2]
   exact ⟨.int k,H,I.kept k',⟨_,rfl⟩,q k (by omega) (by omega) (by omega) (.inr (.inr rfl))⟩
  ·rw [if_neg h2]
   exact ⟨.int j,H,I.kept k',⟨_,rfl⟩,q j (by omega) (by omega) (by omega) (.inr (.inl rfl))⟩
 ·rw [if_neg h1]
  by_cases h2:k < i
  ·rw [if_pos h2]
   exact ⟨.int k,H,I.kept k',⟨_,rfl⟩,q k (by omega) (by omega) (by omega) (.inr (.inr rfl))⟩
  ·rw [if_neg h2]
   exact ⟨.int i,H,I.kept k',⟨_,rfl⟩,q i (by omega) (by omega) (by omega) (.inl rfl)⟩
def eU (e:V→Bool) (u:Value):Bool:=match absV u with | some y=>e y | none=>false
theorem xng {e:V→Bool} {y:V} {u:Value} (r:RelV y u):eU e u=e y:=by unfold eU; rw [r.abs]
theorem xle {e:V→Bool}:∀ {xs:List V} {us:List Value},Vals xs us→us.any (eU e)=xs.any e
 | _,_,.nil=>rfl
 | y :: xs,u :: us,.cons r t=>by rw [List.any_cons,List.any_cons,xng r,xle t]
theorem xiv:∀ {xs:List V} {us:List Value},Vals xs us→∀ u ∈ us,∃ y ∈ xs,RelV y u
 | _,_,.nil=>fun u hu=>nomatch hu
 | y :: xs,u :: us,.cons r t=>fun u' hu=>by
  rcases List.mem_cons.mp hu with rfl | hu
  ·exact ⟨y,List.mem_cons_self,r⟩
  ·obtain ⟨z,h1,h2⟩:=xiv t u' hu
   exact ⟨z,List.mem_cons_of_mem _ h1,h2⟩
section
variable {X:Cx}
end
end L2
set_option maxRecDepth 100000
namespace PySem.F
end PySem.F
namespace L2
open PySem PySem.Spec PyProof.Rows XL
variable {q0:Bool}
end L2
set_option maxRecDepth 100000
namespace L2
open PySem PySem.Spec PyProof.Rows XL
variable {q0:Bool}
section
variable {z TI TO i1 i2 l1 l2:Addr} {P:Nat→Prop} {i:Nat} {h:Heap}
end
end L2
set_option maxRecDepth 100000
namespace L2
open PySem PySem.Spec PyProof.Rows XL
variable {q0:Bool}
end L2
set_option maxRecDepth 100000
namespace L2
open PySem PySem.Spec PyProof.Rows XL
variable {q0:Bool}
section
variable {X:Cx} {pos np1 np2 np3 hpos1 hpos2 hpos3:Pos} {body hbody1 hbody2 hbody3:List Stmt} {rest:List ExceptHandler} {b1 b2 b3:Stmt} {cx1 cx2 cx3 n:Str} {C1 C2 C3:Addr} {j:Nat} {E:St→XK} {tb th1 th2 th3:TS}
end
theorem FnOk.or {P:Program} {w:World} {K:PySem.W.Frag} {mg:Str→Option Value} {base:Heap} {CX:CXT} {k:Nat} {f:Addr} {fd:FuncData} {ps:List Str} {s1 s2:Sp} (F:FnOk q0 P w K mg base CX k f fd ps s1) (G:FnOk q0 P w K mg base CX k f fd ps s2) :
    FnOk q0 P w K mg base CX k f fd ps (fun vs H Q E=>s1 vs H Q E∨s2 vs H Q E) :=
  ⟨fun vs H Q E h=>h.elim (F.len vs H Q E) (G.len vs H Q E),fun A outer s H args us vs Q E hr e0 b v h=>h.elim (F.run A outer s H args us vs Q E hr e0 b v) (G.run A outer s H args us vs Q E hr e0 b v)⟩
end L2
set_option maxRecDepth 100000
namespace L2
open PySem PySem.Spec PyProof.Rows XL PySem.W
variable {q0:Bool}
theorem xgb {prog:Program} {w:World} {A:Around} {E:Value→Shared→Prop} {s:Shared} {a:Addr} {vs:List Value} {n:Nat} {P:PySem.Fin→Shared→Prop}
    (h:s.heap.get? a=some (seqObj "list" vs.toArray n)) (h2:2≤vs.length) (h64:vs.length < 64)
    (hk:∀ s':Shared,s'.heap=(((s.heap.update a (Obj.mapSeq fun x=>#[])).push (seqObj "tuple" vs.toArray 0)).push (seqObj "list" #[] 0))→s'={ s with heap:=s'.heap } →
      wpAny (model prog w) A (keyKind' vs.toArray) (fun κ s''=>s''=s'∧KasT.kasWp (kas_ask prog w A κ vs) (kas_sort vs.length) (fun p s3=>s3=s'∧P (.done (.ret .none)) { s with heap:=sortedHeap s.heap a vs (p.map fun i=>vs.getD i .none) }) s'') (fun _ _=>False) s') :
    wpAny (model prog w) A (Builtin.«list.sort» { pos:=[.ref a] }) P E s:=by
  obtain ⟨hp,g,d,tk,os⟩:=s
  rw [list_sort_plain]
  repeat (any_goals (first | assumption | wp_step))
  have z:¬ vs.toArray.toList.toArray.size > sizeLine:=by
    simp
    exact Nat.le_of_lt (Nat.lt_trans h64 (by decide))
  rw [if_neg z]
  generalize keyKind' vs.toArray=kk at hk ⊢
  repeat (any_goals (first | assumption | wp_step))
  have hk':=hk { heap:=((hp.update a (Obj.mapSeq fun x=>#[])).push (seqObj "tuple" vs.toArray 0)).push (seqObj "list" #[] 0),gens:=g,drawn:=d,toks:=tk,os:=os } rfl rfl
  refine wpAny_mono hk' (fun κ s'' z=>?_) (fun _ _ z=>z.elim)
  obtain ⟨e,q⟩:=z
  subst e
  show wpAny _ _ (StateT.run (if vs.toArray.size < 2 then pure () else sortRuns') _ >>= _) _ _ _
  rw [if_neg (by simp; omega)]
  refine wpAny_bind (wpAny_mono (kat_run (E:=E) (Q:=fun st' s'=>∃ p:Array Nat,p.size=vs.length∧arrOf st'=Array.map (kas_item (vs.toArray.zip vs.toArray)) p∧failedOf st'=none∧s'=_∧P (.done (.ret .none)) { heap:=sortedHeap hp a vs (p.map fun i=>vs.getD i .none),gens:=g,drawn:=d,toks:=tk,os:=os }) rfl h2 h64 (fun p st' s' hp' e f q'=>⟨p,hp',e,f,q'.1,q'.2⟩) q) (fun r s' z=>?_) fun _ _ z=>z)
  obtain ⟨u,st⟩:=r
  obtain ⟨p,psz,e,f,rfl,q'⟩:=z
  have al:a < hp.objs.size:=Heap.lt_size h
  have g1:(((hp.update a (Obj.mapSeq fun x=>#[])).push (seqObj "tuple" vs.toArray 0)).push (seqObj "list" #[] 0)).get? a=some (seqObj "list" #[] (n + 1)):=by
    refine Heap.get?_push_of_some _ (Heap.get?_push_of_some _ ?_)
    rw [Heap.get?_update_self _ h rfl]
    have z:((0:Nat) == vs.length)=false:=by
      cases vs with
      | nil=>simp at h2
      | cons=>rfl
    simp [Obj.mapSeq,z]
  have e2:(if (((fun x=>#[]) vs.toArray:Array Value).size == vs.toArray.size)=true then n else n + 1)=n + 1:=by
    rw [if_neg]
    simp
    omega
  simp only [e2,f]
  have e3:Array.map (fun x=>x.snd) (arrOf st)=p.map fun i=>vs.getD i .none:=by
    rw [e,Array.map_map]
    congr 1
    funext i
    show (kas_item (vs.toArray.zip vs.toArray) i).snd=_
    unfold kas_item
    by_cases c:i < vs.length
    · simp [List.getElem?_eq_getElem c,c]
    · simp [List.getElem?_eq_none (by omega:vs.length≤i),c]
  simp only [e3]
  repeat (any_goals (first | assumption | wp_step))
  have e4:(Obj.mapSeq (fun x=>Array.map (fun i=>vs.getD i Value.none) p) (seqObj "list" #[] (n + 1))).data.pastItsLine=none:=by
    show (if (Array.map (fun i=>vs.getD i Value.none) p).size > sizeLine + 1 then _ else none)=none
    rw [if_neg]
    rw [Array.size_map,psz]
    have:vs.length < sizeLine:=Nat.lt_trans h64 (by decide)
    omega
  rw [e4]
  refine wpAny_pure ?_
  rw [f]
  show wpAny _ _ (if (n + 1 != n + 1)=true then _ else _) _ _ _
  rw [if_neg (by simp)]
  exact wpAny_pure q'
theorem xhx {prog:Program} {w:World} {A:Around} {E:Value→Shared→Prop} {s:Shared} {it d:Addr} {i ep:Nat} {o:Obj} {es:Array DictEntry} {en:DictEntry} {Q:Option Value→Shared→Prop}
    (st:s.heap.IsKeyIter it d i es.size ep) (hd:s.heap.get? d=some o) (hx:o.ExactDict) (hdat:o.data=.dict es ep) (hi:es[i]?=some en)
    (h:∀ h',h'.IsKeyIter it d (i + 1) es.size ep→Heap.SameBut it s.heap h'→Q (some en.key) { s with heap:=h' }):wpAny (model prog w) A (pyNext (.ref it)) Q E s:=by
  unfold pyNext
  refine wpAny_bind (wpAny_attempt (wpAny_callSpecial?_slot st.typeIs F.slot_dict_keyiterator_next ?_))
  refine wpAny_call_entry F.slot_dict_keyiterator_next st.typeIs F.entry_dict_keyiterator_next ?_ (F.args_dict_keyiterator_next_1 _)
  have ti:=st.typeIs
  obtain ⟨hp,g,dr,tk,os⟩:=s
  obtain ⟨⟨c,dct,dat,sl⟩,hit,ci,di⟩:=st
  simp only at ci di
  subst ci di
  unfold Builtin.«dict_keyiterator.__next__»
  repeat (any_goals (first | assumption | (with_reducible refine wpAny_typeNameOfWhole_keyiter ti ?_) | (with_reducible refine wpAny_isOneOf_keyiter ti ?_) | (with_reducible refine wpAny_dictEntries hd hdat ?_) | (with_reducible refine wpAny_dictEpoch hd hdat ?_) | wp_step))
  have e1:(if (i:Int) < 0 then none else es[(i:Int).toNat]?)=some en:=by
    rw [if_neg (by omega),Int.toNat_natCast]
    exact hi
  rw [e1]
  repeat (any_goals (first | assumption | (with_reducible refine wpAny_typeNameOfWhole_keyiter ti ?_) | (with_reducible refine wpAny_isOneOf_keyiter ti ?_) | (with_reducible refine wpAny_dictEntries hd hdat ?_) | (with_reducible refine wpAny_dictEpoch hd hdat ?_) | wp_step))
  refine ⟨_,rfl,wpAny_pure (h _ ?_ (Heap.SameBut.update _ _ _))⟩
  refine ⟨_,Heap.get?_update_self _ hit rfl,rfl,?_⟩
  rfl
theorem xil {prog:Program} {w:World} {A:Around} {E:Value→Shared→Prop} {s:Shared} {it d:Addr} {ep:Nat} {o:Obj} {es:Array DictEntry} {Q:Option Value→Shared→Prop}
    (hA:A.handled=none) (st:s.heap.IsKeyIter it d es.size es.size ep) (hd:s.heap.get? d=some o) (hx:o.ExactDict) (hdat:o.data=.dict es ep)
    (h:∀ h',Heap.ExtBut it s.heap h'→Q none { s with heap:=h' }):wpAny (model prog w) A (pyNext (.ref it)) Q E s:=by
  unfold pyNext
  refine wpAny_bind (wpAny_attempt (wpAny_callSpecial?_slot st.typeIs F.slot_dict_keyiterator_next ?_))
  refine wpAny_call_entry F.slot_dict_keyiterator_next st.typeIs F.entry_dict_keyiterator_next ?_ (F.args_dict_keyiterator_next_1 _)
  have ti:=st.typeIs
  obtain ⟨hp,g,dr,tk,os⟩:=s
  obtain ⟨⟨c,dct,dat,sl⟩,hit,ci,di⟩:=st
  simp only at ci di
  subst ci di
  unfold Builtin.«dict_keyiterator.__next__»
  repeat (any_goals (first | assumption | (with_reducible refine wpAny_typeNameOfWhole_keyiter ti ?_) | (with_reducible refine wpAny_isOneOf_keyiter ti ?_) | (with_reducible refine wpAny_dictEntries hd hdat ?_) | (with_reducible refine wpAny_dictEpoch hd hdat ?_) | wp_step))
  have e1:(if (es.size:Int) < 0 then none else es[(es.size:Int).toNat]?)=none:=by
    rw [if_neg (by omega),Int.toNat_natCast]
    simp
  rw [e1]
  repeat (any_goals (first | assumption | (with_reducible refine wpAny_typeNameOfWhole_keyiter ti ?_) | (with_reducible refine wpAny_isOneOf_keyiter ti ?_) | (with_reducible refine wpAny_dictEntries hd hdat ?_) | (with_reducible refine wpAny_dictEpoch hd hdat ?_) | wp_step))
  refine wpAny_raiseNew_none hA ?_
  refine wpAny_bind (wpAny_isInstance ⟨_,Heap.get?_push_size _ rfl,rfl⟩ isSubtype_stop (wpAny_pure (h _ fun b o nb e=>?_)))
  refine Heap.get?_push_of_some _ (Heap.get?_push_of_some _ ?_)
  rw [Heap.get?_update_other _ _ (Ne.symm nb)]
  exact e
theorem xmk {prog:Program} {w:World} {A:Around} {E:Value→Shared→Prop} {s:Shared} {d:Addr} {ep:Nat} {o:Obj} {es:Array DictEntry} {Q:Value→Shared→Prop}
    (hs:(d == sysModules)=false) (hd:s.heap.get? d=some o) (hx:o.ExactDict) (hdat:o.data=.dict es ep)
    (h:Q (.ref s.heap.objs.size) { s with heap:=s.heap.push { cls:=.type "dict_keyiterator",data:=.fields #[.ref d,.int 0 0,.int es.size 0,.int ep 0] } }):wpAny (model prog w) A (pyIter (.ref d)) Q E s:=by
  have ti:s.TypeIs (.ref d) "dict":=⟨o,hd,hx.1⟩
  obtain ⟨c,dct,dat,sl⟩:=o
  obtain ⟨x1,x2,x3⟩:=hx
  simp only at x1 x2 x3 hdat
  subst x1 x2 x3 hdat
  refine wpAny_pyIter_slot ti F.slot_dict_iter ?_
  refine wpAny_call_entry F.slot_dict_iter ti F.entry_dict_iter ?_ (F.args_dict_iter_1 _)
  obtain ⟨hp,g,dr,tk,os⟩:=s
  unfold Builtin.«dict.__iter__»
  repeat (any_goals (first | assumption | (with_reducible refine wpAny_notOrdered_dict ti ?_) | (with_reducible refine wpAny_dictEntries hd rfl ?_) | (with_reducible refine wpAny_dictEpoch hd rfl ?_) | wp_step))
  exact ⟨_,rfl,_,_,⟨_,Heap.get?_push_size _ rfl,rfl⟩,F.slot_dict_keyiterator_next.lookup,h⟩
theorem xno {prog:Program} {w:World} {d:Addr} {ep:Nat} {o:Obj} {es:Array DictEntry} (hs:(d == sysModules)=false) (hx:o.ExactDict) (hdat:o.data=.dict es ep) :
    KdlSrc prog w "dict" d d es.size (fun i v=>∃ en,es[i]?=some en∧v=en.key) (fun h=>h.get? d=some o) where
  type:=fun s h=>⟨o,h,hx.1⟩
  there:=fun h e=>⟨Heap.lt_size e,Heap.lt_size e⟩
  keep:=fun h h' e k=>k d (.inl rfl) o e
  notList:=by decide
  notTuple:=by decide
  hint:=fun A E s Q h q=>kdl_hint_dict ⟨o,h,hx.1⟩ q
  iter:=fun A s hA h=>by
    have dl:=Heap.lt_size h
    refine ⟨{ cls:=.type "dict_keyiterator",data:=.fields #[.ref d,.int 0 0,.int es.size 0,.int ep 0] },fun i h=>h.IsKeyIter s.heap.objs.size d i es.size ep∧h.get? d=some o,fun E Q q=>xmk hs h hx hdat q,?_,⟨_,Heap.get?_push_size _ rfl,rfl,rfl⟩,Heap.get?_push_of_some _ h⟩
    have dn:d≠s.heap.objs.size:=Nat.ne_of_lt dl
    exact {
      sub:=fun b hb=>by
        have e:b=s.heap.objs.size:=by simpa using hb
        rw [e]
        simp
      frame:=fun i h h' st k=>⟨st.1.at fun o e=>k _ (by simp) o e,k _ (by simp) _ st.2⟩
      item:=fun i s' Q E hi st q=>by
        refine xhx st.1 st.2 hx hdat (Array.getElem?_eq_getElem hi) fun h' st' sb=>q _ h' s'.toks ⟨_,Array.getElem?_eq_getElem hi,rfl⟩ ⟨st',(sb.2 d dn).trans st.2⟩ fun b o hb e=>?_
        exact (sb.2 b (by simpa using hb)).trans e
      done:=fun s' Q E st q=>by
        refine xil hA st.1 st.2 hx hdat fun h' eb=>q h' s'.toks fun b o hb e=>?_
        exact eb b o (by simpa using hb) e
      self:=fun i s' Q E st q=>wpAny_pyIter_keyiter st.1 q }
end L2
set_option maxRecDepth 100000
namespace L2
open PySem PySem.Spec PyProof.Rows XL PySem.W
variable {q0:Bool}
def xco:Key→Key→Bool
 | .inl a,.inl b=>decide (a < b)
 | .inr a,.inr b=>decide (a.cps.toList < b.cps.toList)
 | _,_=>false
def lexK:List Key→List Key→Bool
 | [],[]=>false
 | [],_ :: _=>true
 | _ :: _,[]=>false
 | x :: xs,y :: ys=>if x=y then lexK xs ys else xco x y
abbrev shp (k:List Key):List Bool:=k.map Sum.isLeft
theorem xop {a b:Str} (h:a.cps.toList=b.cps.toList):a=b:=by
 cases a
 cases b
 simp at h
 rw [h]
theorem xlf (x:Key):xco x x=false:=by
 cases x with
 | inl a=>simp [xco]
 | inr a=>exact PyProof.Rows.strKind.irrefl a.cps.toList
theorem xmp {x y z:Key} (h1:xco x y=true) (h2:xco y z=true):xco x z=true:=by
 cases x <;> cases y <;> cases z <;> simp only [xco,Bool.false_eq_true] at h1 h2
 ·have a:=of_decide_eq_true h1
  have b:=of_decide_eq_true h2
  exact decide_eq_true (Int.lt_trans a b)
 ·exact PyProof.Rows.strKind.trans _ _ _ h1 h2
theorem xk2 {x y:Key} (hs:x.isLeft=y.isLeft) (ne:x≠y) (h:xco x y=false):xco y x=true:=by
 cases x with
 | inl a =>
  cases y with
  | inl b =>
   have h':¬ a < b:=of_decide_eq_false h
   have n':a≠b:=fun e=>ne (by rw [e])
   exact decide_eq_true (show b < a by omega)
  | inr b=>cases hs
 | inr a =>
  cases y with
  | inl b=>cases hs
  | inr b =>
   cases e:xco (.inr b) (.inr a) with
   | true=>rfl
   | false=>exact absurd (by rw [xop (PyProof.Rows.strKind.total _ _ h e)]) ne
theorem xh2:∀ x:List Key,lexK x x=false
 | []=>rfl
 | x :: xs=>by
  unfold lexK
  rw [if_pos rfl]
  exact xh2 xs
theorem xin:∀ {x y z:List Key},shp x=shp y→shp y=shp z→lexK x y=true→lexK y z=true→lexK x z=true
 | [],[],_,_,_,h,_=>by cases h
 | [],_ :: _,_,h,_,_,_=>by cases h
 | _ :: _,[],_,h,_,_,_=>by cases h
 | _ :: _,_ :: _,[],_,h,_,_=>by cases h
 | x :: xs,y :: ys,z :: zs,h1,h2,h3,h4=>by
  simp only [shp,List.map_cons,List.cons.injEq] at h1 h2
  unfold lexK at h3 h4 ⊢
  by_cases xy:x=y
  ·subst xy
   rw [if_pos rfl] at h3
   by_cases yz:x=z
   ·rw [if_pos yz] at h4 ⊢
    exact xin h1.2 h2.2 h3 h4
   ·rw [if_neg yz] at h4 ⊢
    exact h4
  ·rw [if_neg xy] at h3
   by_cases yz:y=z
   ·subst yz
    rw [if_neg xy]
    exact h3
   ·rw [if_neg yz] at h4
    have h5:=xmp h3 h4
    rw [if_neg (fun e=>by rw [e,xlf] at h5; cases h5)]
    exact h5
theorem xh8:∀ {x y:List Key},shp x=shp y→x≠y→lexK x y=false→lexK y x=true
 | [],[],_,h,_=>absurd rfl h
 | [],_ :: _,h,_,_=>by cases h
 | _ :: _,[],h,_,_=>by cases h
 | x :: xs,y :: ys,h1,h2,h3=>by
  simp only [shp,List.map_cons,List.cons.injEq] at h1
  unfold lexK at h3 ⊢
  by_cases xy:x=y
  ·subst xy
   rw [if_pos rfl] at h3 ⊢
   exact xh8 h1.2 (fun e=>h2 (by rw [e])) h3
  ·rw [if_neg xy] at h3
   rw [if_neg (fun e=>xy e.symm)]
   exact xk2 h1.1 xy h3
theorem xho {prog:Program} {w:World} {A:Around} {s:Shared} {b:Bool} {Q:Bool→Shared→Prop}:∀ (xs ys:List Key) (us vs:List Value) (i:Nat),shp xs=shp ys→Vals (xs.map kV) us→Vals (ys.map kV) vs→Q (lexK xs ys) s→KatLex prog w A b false Q (us.zip vs) i s
 | [],[],_,_,i,_,.nil,.nil,q=>kat_nil q
 | [],_ :: _,_,_,_,h,_,_,_=>by cases h
 | _ :: _,[],_,_,_,h,_,_,_=>by cases h
 | x :: xs,y :: ys,_,_,i,h,.cons ru r,.cons rv r',q=>by
  simp only [shp,List.map_cons,List.cons.injEq] at h
  unfold lexK at q
  cases x with
  | inl a =>
   cases y with
   | inr c=>cases h.1
   | inl c =>
    obtain ⟨t,rfl⟩:=ru
    obtain ⟨t',rfl⟩:=rv
    refine kat_cons (wpAny_eqBool_int ?_)
    unfold KatGo
    by_cases e:a=c
    ·subst e
     rw [if_pos rfl] at q
     rw [if_pos (by simp)]
     exact xho xs ys _ _ (i + 1) h.2 r r' q
    ·rw [if_neg (fun z=>e (Sum.inl.inj z))] at q
     rw [if_neg (by simpa using e)]
     cases (b && i == 0) with
     | true=>exact oneLt_int q
     | false=>exact kat_one _ _ (lt_int q)
  | inr a =>
   cases y with
   | inl c=>cases h.1
   | inr c =>
    obtain ⟨t,rfl⟩:=ru
    obtain ⟨t',rfl⟩:=rv
    refine kat_cons (wpAny_eqBool_str ?_)
    unfold KatGo
    by_cases e:a=c
    ·subst e
     rw [if_pos rfl] at q
     rw [if_pos (by simp)]
     exact xho xs ys _ _ (i + 1) h.2 r r' q
    ·rw [if_neg (fun z=>e (Sum.inr.inj z))] at q
     rw [if_neg (by simpa using e)]
     cases (b && i == 0) with
     | true=>exact oneLt_str q
     | false=>exact kat_one _ _ (lt_str q)
theorem xg7 {prog:Program} {w:World} {A:Around} {E:Value→Shared→Prop} {s:Shared} {a:Addr} {vs:List Value} {n:Nat} {P:PySem.Fin→Shared→Prop}
    (h:s.heap.get? a=some (seqObj "list" vs.toArray n)) (h2:vs.length < 2) (q':P (.done (.ret .none)) { s with heap:=sortedHeap s.heap a vs vs.toArray }) :
    wpAny (model prog w) A (Builtin.«list.sort» { pos:=[.ref a] }) P E s:=by
  obtain ⟨hp,g,d,tk,os⟩:=s
  rcases vs with _ | ⟨v,_ | ⟨v',r⟩⟩
  · rw [list_sort_plain]
    repeat (any_goals (first | assumption | wp_step))
    show wpAny _ _ (pure (PUnit.unit,SortSt.mk' general' ((#[]:Array Value).zip #[]) #[] 7 none)) _ _ _
    refine wpAny_pure ?_
    have e3:Array.map (fun x=>x.snd) (arrOf (SortSt.mk' general' ((#[]:Array Value).zip #[]) #[] 7 none))=#[]:=by
      show Array.map (fun x=>x.snd) ((#[]:Array Value).zip #[])=#[]
      simp
    simp only [e3]
    have g1:(((hp.update a (Obj.mapSeq fun x=>#[])).push (seqObj "tuple" #[] 0)).push (seqObj "list" #[] 0)).get? a=some (seqObj "list" #[] (n)):=by
      refine Heap.get?_push_of_some _ (Heap.get?_push_of_some _ ?_)
      rw [Heap.get?_update_self _ h rfl]
      rfl
    show wpAny _ _ (seqEpoch a >>= _) _ _ _
    repeat (any_goals (first | assumption | wp_step))
  · rw [list_sort_plain]
    repeat (any_goals (first | assumption | wp_step))
    show wpAny _ _ (pure (PUnit.unit,SortSt.mk' general' ((#[v]:Array Value).zip #[v]) #[] 7 none)) _ _ _
    refine wpAny_pure ?_
    have e3:Array.map (fun x=>x.snd) (arrOf (SortSt.mk' general' ((#[v]:Array Value).zip #[v]) #[] 7 none))=#[v]:=by
      show Array.map (fun x=>x.snd) ((#[v]:Array Value).zip #[v])=#[v]
      simp
    simp only [e3]
    have g1:(((hp.update a (Obj.mapSeq fun x=>#[])).push (seqObj "tuple" #[v] 0)).push (seqObj "list" #[] 0)).get? a=some (seqObj "list" #[] (n + 1)):=by
      refine Heap.get?_push_of_some _ (Heap.get?_push_of_some _ ?_)
      rw [Heap.get?_update_self _ h rfl]
      rfl
    show wpAny _ _ (seqEpoch a >>= _) _ _ _
    repeat (any_goals (first | assumption | wp_step))
  · simp at h2
    omega
theorem xex {α:Type} (f:α→Addr):∀ (es:List α),Vals (es.map fun x=>V.ref (f x)) (es.map fun x=>Value.ref (f x))
 | []=>.nil
 | x :: r=>.cons rfl (xex f r)
theorem xpf {H:Hp} {kvs:List (List Key × V)} {es:List (List Key × Addr × Value)} (h:KT H kvs es):(∀ x ∈ es,H x.2.1=some (.tup (x.1.map kV)))∧es.map (·.1)=kvs.map (·.1):=by
 induction h with
 | nil=>exact ⟨(fun _ z=>nomatch z),rfl⟩
 | @cons p x kvs es hp r ih =>
  obtain ⟨e1,e2,_⟩:=hp
  refine ⟨fun y hy=>?_,by rw [List.map_cons,List.map_cons,ih.2,e1]⟩
  rcases List.mem_cons.mp hy with rfl | z
  ·rw [← e1]
   exact e2
  ·exact ih.1 y z
theorem xla {P:Program} {w:World} {H:Hp} {h:Heap} (ok:HOk P w H h) {b:Bool} {sh:List Bool}:∀ (es:List (List Key × Addr × Value)),(∀ x ∈ es,H x.2.1=some (.tup (x.1.map kV)))→(∀ x ∈ es,shp x.1=b :: sh) →
    ∃ fs,KatTups h (es.map fun x=>Value.ref x.2.1) fs∧fs.length=es.length∧∀ v ∈ fs,if b=true then ∃ i t,v=Value.int i t else ∃ i t,v=Value.str i t
  | [],_,_=>⟨[],KatTups.nil,rfl,fun _ z=>nomatch z⟩
  | x :: es,h1,h2=>by
    obtain ⟨fs,k,l,m⟩:=xla ok es (fun y hy=>h1 y (List.mem_cons_of_mem _ hy)) (fun y hy=>h2 y (List.mem_cons_of_mem _ hy))
    obtain ⟨z2,ts,rt,ot,et,ct,nt,dt⟩:=ok x.2.1 _ (h1 x List.mem_cons_self)
    have s1:=h2 x List.mem_cons_self
    obtain ⟨k1,a1,v1⟩:=x
    cases k1 with
    | nil=>cases s1
    | cons k0 kr =>
      simp only [shp,List.map_cons,List.cons.injEq] at s1
      simp only [List.map_cons] at rt
      cases rt with
      | @cons _ u _ us ru rr =>
        refine ⟨u :: fs,KatTups.cons et ct dt (by simp) k,by simp [l],fun v hv=>?_⟩
        rcases List.mem_cons.mp hv with rfl | hv'
        · cases k0 with
          | inl i =>
            obtain ⟨t,rfl⟩:=ru
            rw [if_pos (show b=true from s1.1.symm)]
            exact ⟨i,t,rfl⟩
          | inr i =>
            obtain ⟨t,rfl⟩:=ru
            rw [if_neg (show ¬ b=true by rw [← s1.1]; simp)]
            exact ⟨i,t,rfl⟩
        · exact m v hv'
theorem xlk {X:Cx} {pins:List (Addr × Obj)} {σ:St} {H:Hp} {s:Shared} {h1:Heap} {tk:Nat} {Q:VK} {sh:List Bool} (es':List (List Key × Addr × Value)) (I1:Inv X pins σ H { s with heap:=h1,toks:=tk })
    (hl:es'.length < 64) (km:∀ x ∈ es',H x.2.1=some (.tup (x.1.map kV))) (shE:∀ x ∈ es',shp x.1=sh) (hpos:0 < sh.length) (hnd:(List.map (fun x=>x.fst) es').Nodup)
    (q:∀ (l:Addr) (ts:List (List Key × Addr)),H l=none→ts.Perm (es'.map fun x=>(x.1,x.2.1))→(ts.map (·.1)).Pairwise (fun x y=>lexK x y=true)→Q (.ref l) (upd H l (.lst (ts.map fun t=>.ref t.2)))) :
    wpAny (model X.prog X.w) X.A.in1 (newList (es'.map fun x=>Value.ref x.2.1) >>= fun l=>holding [l] (call (.builtin "list.sort") [l] []) >>= fun _=>ret l) (fun fin s'=>∃ v,fin=Fin.done (Flow.ret v)∧EP X pins σ Q v s') X.xe { s with heap:=h1,toks:=tk }:=by
  have hz:es'.length≤sizeLine:=Nat.le_of_lt (Nat.lt_trans hl (by decide))
  have vals:Vals (es'.map fun x=>V.ref x.2.1) (es'.map fun x=>Value.ref x.2.1):=xex (fun x=>x.2.1) es'
  have I2:=I1.lnew (t':=tk) vals (by rw [List.length_map]; exact hz)
  refine wpAny_bind (wpAny_newList ?_ (by rw [List.length_map]; exact hz))
  have fr:H h1.objs.size=none:=I1.fresh
  have gl:(h1.push { cls:=.type "list",data:=.seq (es'.map fun x=>Value.ref x.2.1).toArray }).get? h1.objs.size=some (seqObj "list" (es'.map fun x=>Value.ref x.2.1).toArray 0):=Heap.get?_push_size _ rfl
  refine wpAny_bind (wpAny_holding (wpAny_call_entry slot_list_sort ⟨_,gl,rfl⟩ entry_list_sort ?_ (args_list_sort _)))
  have J1:=I2.lset (l:=h1.objs.size) (its:=es'.map fun x=>Value.ref x.2.1) (its':=[]) (ys:=[]) (f:=fun _=>#[]) (t':=tk) xf gl rfl .nil (Nat.zero_le _)
  have J2:=J1.kept (t':=tk) (h':=(((h1.push { cls:=.type "list",data:=.seq (es'.map fun x=>Value.ref x.2.1).toArray }).update h1.objs.size (Obj.mapSeq fun _=>#[])).push (seqObj "tuple" (es'.map fun x=>Value.ref x.2.1).toArray 0)).push (seqObj "list" #[] 0)) fun b u e=>Heap.get?_push_of_some _ (Heap.get?_push_of_some _ e)
  obtain ⟨z9,its9,n9,r9,hl9,e9⟩:=J2.lstM xf
  have done:∀ (ts:List (List Key × Addr)),ts.Perm (es'.map fun x=>(x.1,x.2.1))→(ts.map (·.1)).Pairwise (fun x y=>lexK x y=true) →
      EP X pins σ Q (.ref h1.objs.size) { s with heap:=sortedHeap (h1.push { cls:=.type "list",data:=.seq (es'.map fun x=>Value.ref x.2.1).toArray }) h1.objs.size (es'.map fun x=>Value.ref x.2.1) (ts.map fun t=>Value.ref t.2).toArray,toks:=tk }:=by
    intro ts pm pw
    have tl:ts.length=es'.length:=by rw [pm.length_eq,List.length_map]
    have J3:=J2.lset (l:=h1.objs.size) (its:=its9) (its':=ts.map fun t=>Value.ref t.2) (ys:=ts.map fun t=>V.ref t.2) (f:=fun _=>(ts.map fun t=>Value.ref t.2).toArray) (t':=tk) xf e9 rfl (xex (fun t=>t.2) ts) (by rw [List.length_map,tl]; exact hz)
    rw [xgh,xgh] at J3
    exact ⟨.ref h1.objs.size,_,J3,rfl,q _ ts fr pm pw⟩
  by_cases few:es'.length < 2
  · refine xg7 gl (by rw [List.length_map]; exact few) ⟨_,rfl,wpAny_pure ⟨_,rfl,?_⟩⟩
    have:=done (es'.map fun x=>(x.1,x.2.1)) (List.Perm.refl _) ?_
    · rw [List.map_map] at this
      exact this
    · match es',few with
      | [],_=>exact .nil
      | [x],_=>exact List.pairwise_singleton _ _
      | _ :: _ :: _,h=>exact absurd h (by simp)
  · refine xgb gl (by rw [List.length_map]; omega) (by rw [List.length_map]; exact hl) fun s' es1 es2=>?_
    obtain ⟨b,sh0,rfl⟩:∃ b sh0,sh=b :: sh0:=by
      cases sh with
      | nil=>simp at hpos
      | cons b r=>exact ⟨b,r,rfl⟩
    rw [es1] at es2
    subst es2
    have km2:∀ x ∈ es',upd (upd H h1.objs.size (.lst (es'.map fun x=>V.ref x.2.1))) h1.objs.size (.lst []) x.2.1=some (.tup (x.1.map kV)):=fun x hx=>by
      rw [xj (xm (km x hx) fr),xj (xm (km x hx) fr)]
      exact km x hx
    obtain ⟨fs,kt,fl,fm⟩:=xla J2.hok es' km2 shE
    have few':2≤es'.length:=by omega
    refine kat_kind (T:=if b=true then .type "int" else .type "str") kt (by omega) (fun v hv=>?_) (by cases b <;> rfl) ⟨rfl,?_⟩
    · have z:=fm v hv
      cases b with
      | true =>
        obtain ⟨i,t,rfl⟩:=z
        exact fun A Q E s _ q=>wpAny_typeOf (T:="int") rfl q
      | false =>
        obtain ⟨i,t,rfl⟩:=z
        exact fun A Q E s _ q=>wpAny_typeOf (T:="str") rfl q
    rw [List.length_map]
    have eAt:∀ i,i < es'.length→es'[i]?=some (es'.getD i ([],0,.none)):=fun i hi=>by
      rw [List.getD_eq_getElem?_getD,List.getElem?_eq_getElem hi]
      rfl
    have eM:∀ i,i < es'.length→es'.getD i ([],0,.none) ∈ es':=fun i hi=>List.mem_of_getElem? (eAt i hi)
    have vAt:∀ i,i < es'.length→(es'.map fun x=>Value.ref x.2.1).getD i .none=.ref (es'.getD i ([],0,.none)).2.1:=fun i hi=>by
      rw [List.getD_eq_getElem?_getD,List.getElem?_map,eAt i hi]
      rfl
    have shI:∀ i j,i < es'.length→j < es'.length→shp (es'.getD i ([],0,.none)).1=shp (es'.getD j ([],0,.none)).1:=fun i j hi hj=>by rw [shE _ (eM i hi),shE _ (eM j hj)]
    refine Srt.sort_wp (lt:=fun i j=>lexK (es'.getD i ([],0,.none)).1 (es'.getD j ([],0,.none)).1) ⟨fun i hi=>xh2 _,fun i j k hi hj hk=>xin (shI i j hi hj) (shI j k hj hk),fun i j hi hj ne=>xh8 (shI i j hi hj) fun e=>ne ?_⟩ (fun i j hi hj Q' q'=>?_) few' fun p arr srt=>⟨rfl,_,rfl,wpAny_pure ⟨_,rfl,?_⟩⟩
    · have e1:(es'.map (·.1))[i]?=(es'.map (·.1))[j]?:=by rw [List.getElem?_map,List.getElem?_map,eAt i hi,eAt j hj]; exact congrArg some e
      exact (List.getElem?_inj (by rw [List.length_map]; exact hi) hnd).mp e1
    · show wpAny _ _ (keyLt' _ ((es'.map fun x=>Value.ref x.2.1).getD i .none) ((es'.map fun x=>Value.ref x.2.1).getD j .none)) _ _ _
      rw [vAt i hi,vAt j hj]
      obtain ⟨_,ti,ri,oi,ei,_,ni,di⟩:=J2.hok _ _ (km2 _ (eM i hi))
      obtain ⟨_,tj,rj,oj,ej,_,nj,dj⟩:=J2.hok _ _ (km2 _ (eM j hj))
      have l1:=Vals.length ri
      have l2:=Vals.length rj
      have l3:=congrArg List.length (shI i j hi hj)
      simp only [List.length_map] at l1 l2 l3
      refine kat_lt ei di ej dj ?_
      rw [decide_eq_false (by simp; omega)]
      exact xho _ _ _ _ 0 (shI i j hi hj) ri rj q'
    have pl:∀ i ∈ p.toList,i < es'.length:=fun i hi=>by
      have:=(Array.Perm.mem_iff arr.pm).mp (Array.mem_toList_iff.mp hi)
      simpa using this
    have:=done (p.toList.map fun i=>((es'.getD i ([],0,.none)).1,(es'.getD i ([],0,.none)).2.1)) ?_ ?_
    · rw [List.map_map] at this
      have e2:(p.map fun i=>(es'.map fun x=>Value.ref x.2.1).getD i .none)=(p.toList.map ((fun t:List Key × Addr=>Value.ref t.2) ∘ fun i=>((es'.getD i ([],0,.none)).1,(es'.getD i ([],0,.none)).2.1))).toArray:=by
        rw [← Array.toList_inj,Array.toList_map]
        exact List.map_congr_left fun i hi=>vAt i (pl i hi)
      rw [e2]
      exact this
    · have e3:(es'.map fun x=>(x.1,x.2.1))=(List.range es'.length).map fun i=>((es'.getD i ([],0,.none)).1,(es'.getD i ([],0,.none)).2.1):=by
        refine List.ext_getElem? fun i=>?_
        by_cases c:i < es'.length
        · rw [List.getElem?_map,eAt i c,List.getElem?_map,List.getElem?_range c]
          rfl
        · rw [List.getElem?_eq_none (by rw [List.length_map]; omega),List.getElem?_eq_none (by simp; omega)]
      rw [e3]
      refine List.Perm.map _ ?_
      have:=Array.Perm.toList arr.pm
      simpa using this
    · rw [List.map_map,List.pairwise_map,List.pairwise_iff_getElem]
      intro i j hi hj hij
      have z:=srt i j hij (by rw [← arr.sz]; simpa using hj)
      have gi:Srt.g p i=p.toList[i]:=Srt.g_at (by rw [← Array.getElem?_toList]; exact List.getElem?_eq_getElem hi)
      have gj:Srt.g p j=p.toList[j]:=Srt.g_at (by rw [← Array.getElem?_toList]; exact List.getElem?_eq_getElem hj)
      rw [gi,gj] at z
      exact z
def xmn:List V→Hp→VK→Prop:=fun xs H Q=>∃ (d:Addr) (kvs:List (List Key × V)) (sh:List Bool),xs=[.ref d]∧H d=some (.dT kvs)∧kvs.length < 64∧(∀ p ∈ kvs,shp p.1=sh)∧0 < sh.length ∧
 ∀ (l:Addr) (ts:List (List Key × Addr)),H l=none→(∀ t ∈ ts,H t.2=some (.tup (t.1.map kV)))→(ts.map (·.1)).Perm (kvs.map (·.1))→(ts.map (·.1)).Pairwise (fun x y=>lexK x y=true)→Q (.ref l) (upd H l (.lst (ts.map fun t=>.ref t.2)))
theorem xhg {X:Cx} (hc:X.calm=true):xb4 X (.builtin "sorted") xmn:=by
 intro pins s σ H xs us Q I r h
 obtain ⟨d,kvs,sh,rfl,hd,hl,hsh,hpos,q⟩:=h
 obtain ⟨u,rfl,ru⟩:=xci r
 obtain rfl:u=Value.ref d:=ru
 obtain ⟨z,hsys,es',rel,dd⟩:=xni I.hok hd
 obtain ⟨o,es,ep,ho,hx,hdat,hes,hkk,hnd⟩:=dd
 have ln:=Paired.length rel
 have esz:es.size=es'.length:=by rw [← Array.length_toList,hes,List.length_map]
 refine Calls.call_function_entry kind_sorted plain_sorted entry_sorted (args_sorted1 _) ?_
 unfold Builtin.sorted
 refine wpAny_bind (wpAny_pure ?_)
 show wpAny _ _ (collect (.ref d) >>= _) _ _ _
 refine wpAny_bind (kdu_collect (xno hsys hx hdat) (I.ok.hd hc) ho (by rw [esz,← ln]; exact z) fun h1 tk acc keep items=>?_)
 have acl:acc.toList=es'.map fun x=>Value.ref x.2.1:=by
  refine List.ext_getElem? fun j=>?_
  obtain ⟨i1,i2⟩:=items
  by_cases c:j < es'.length
  ·have c':j < acc.size:=by rw [i1,esz]; exact c
   have e:acc[j]?=some acc[j]:=Array.getElem?_eq_getElem c'
   obtain ⟨en,he,hv⟩:=i2 j acc[j] e
   rw [Array.getElem?_toList,e,hv]
   have he':es.toList[j]?=some en:=by rw [Array.getElem?_toList]; exact he
   rw [hes,List.getElem?_map,List.getElem?_eq_getElem c] at he'
   rw [List.getElem?_map,List.getElem?_eq_getElem c]
   have:=Option.some.inj he'
   rw [← this]
   rfl
  ·rw [List.getElem?_eq_none (by rw [Array.length_toList,i1,esz]; omega),List.getElem?_eq_none (by rw [List.length_map]; omega)]
 rw [acl]
 have I1:Inv X pins σ H { s with heap:=h1,toks:=tk }:=I.kept keep
 obtain ⟨km,ke⟩:=xpf rel
 have shE:∀ x ∈ es',shp x.1=sh:=fun x hx=>by
  have m:x.1 ∈ kvs.map (·.1):=by rw [← ke]; exact List.mem_map.mpr ⟨x,hx,rfl⟩
  obtain ⟨p,hp,e⟩:=List.mem_map.mp m
  rw [← e]
  exact hsh p hp
 refine xlk es' I1 (by rw [← ln]; exact hl) km shE hpos hnd fun l ts fr pm pw=>q l ts fr (fun t ht=>?_) ?_ pw
 ·obtain ⟨x,hx,rfl⟩:=List.mem_map.mp (pm.mem_iff.mp ht)
  exact km x hx
 ·have:=pm.map (·.1)
  rw [List.map_map] at this
  rw [← ke]
  exact this
end L2
set_option maxRecDepth 100000
namespace L2
open PySem PySem.Spec PyProof.Rows XL PySem.W
variable {q0:Bool}
theorem xi2 {κ:Type} [DecidableEq κ]:∀ {kvs:List (κ × V)} {k:κ} {v:V},valV kvs k=some v→∃ i:Nat,kvs[i]?=some (k,v)
 | [],k,v,h=>by cases h
 | p :: r,k,v,h=>by
  by_cases e:p.1=k
  ·rw [xd9 e] at h
   cases h
   exact ⟨0,by simp [← e]⟩
  ·rw [xck e] at h
   obtain ⟨i,hi⟩:=xi2 h
   exact ⟨i + 1,by simpa using hi⟩
section
variable {X:Cx} {o e:Expr} {td ty:TE} {apos cpos:Pos}
end
end L2
set_option maxRecDepth 100000
namespace L2
open PySem PySem.Spec PyProof.Rows XL PySem.W
variable {q0:Bool}
end L2
set_option maxRecDepth 100000
set_option maxHeartbeats 1000000
namespace L2
open PySem PySem.Spec PyProof.Rows XL PySem.W
inductive DV where
 | non
 | bl (b:Bool)
 | int (i:Int)
 | str (x:Str)
 | tup (xs:List DV)
 | lst (xs:List DV)
mutual
def dEq:DV→DV→Bool
 | .non,.non=>true
 | .bl a,.bl b=>a == b
 | .bl a,.int b=>(if a then 1 else 0) == b
 | .int a,.bl b=>a == (if b then 1 else 0)
 | .int a,.int b=>a == b
 | .str a,.str b=>a == b
 | .tup xs,.tup ys=>dEqs xs ys
 | .lst xs,.lst ys=>dEqs xs ys
 | _,_=>false
def dEqs:List DV→List DV→Bool
 | [],[]=>true
 | x :: xs,y :: ys=>dEq x y && dEqs xs ys
 | _,_=>false
end
mutual
theorem xb6:∀ d,dEq d d=true
 | .non=>rfl
 | .bl _=>by simp [dEq]
 | .int _=>by simp [dEq]
 | .str _=>by simp [dEq]
 | .tup xs=>by simp only [dEq]; exact xcz xs
 | .lst xs=>by simp only [dEq]; exact xcz xs
theorem xcz:∀ xs,dEqs xs xs=true
 | []=>rfl
 | x :: xs=>by simp only [dEqs,Bool.and_eq_true]; exact ⟨xb6 x,xcz xs⟩
end
mutual
def DV.pl:DV→Bool
 | .bl _=>false
 | .tup xs=>pls xs
 | .lst xs=>pls xs
 | _=>true
def pls:List DV→Bool
 | []=>true
 | x :: xs=>x.pl && pls xs
end
mutual
theorem xkm:∀ {d e:DV},d.pl=true→e.pl=true→dEq d e=true→d=e
 | .non,.non,_,_,_=>rfl
 | .int a,.int b,_,_,h=>by simp only [dEq,beq_iff_eq] at h; rw [h]
 | .str a,.str b,_,_,h=>by simp only [dEq,beq_iff_eq] at h; rw [h]
 | .tup xs,.tup ys,p,q,h=>by
  simp only [dEq] at h
  simp only [DV.pl] at p q
  rw [xgi p q h]
 | .lst xs,.lst ys,p,q,h=>by
  simp only [dEq] at h
  simp only [DV.pl] at p q
  rw [xgi p q h]
 | .bl _,_,p,_,_=>by simp [DV.pl] at p
 | .non,.bl _,_,q,_=>by simp [DV.pl] at q
 | .int _,.bl _,_,q,_=>by simp [DV.pl] at q
 | .str _,.bl _,_,q,_=>by simp [DV.pl] at q
 | .tup _,.bl _,_,q,_=>by simp [DV.pl] at q
 | .lst _,.bl _,_,q,_=>by simp [DV.pl] at q
 | .non,.int _,_,_,h=>by simp [dEq] at h
 | .non,.str _,_,_,h=>by simp [dEq] at h
 | .non,.tup _,_,_,h=>by simp [dEq] at h
 | .non,.lst _,_,_,h=>by simp [dEq] at h
 | .int _,.non,_,_,h=>by simp [dEq] at h
 | .int _,.str _,_,_,h=>by simp [dEq] at h
 | .int _,.tup _,_,_,h=>by simp [dEq] at h
 | .int _,.lst _,_,_,h=>by simp [dEq] at h
 | .str _,.non,_,_,h=>by simp [dEq] at h
 | .str _,.int _,_,_,h=>by simp [dEq] at h
 | .str _,.tup _,_,_,h=>by simp [dEq] at h
 | .str _,.lst _,_,_,h=>by simp [dEq] at h
 | .tup _,.non,_,_,h=>by simp [dEq] at h
 | .tup _,.int _,_,_,h=>by simp [dEq] at h
 | .tup _,.str _,_,_,h=>by simp [dEq] at h
 | .tup _,.lst _,_,_,h=>by simp [dEq] at h
 | .lst _,.non,_,_,h=>by simp [dEq] at h
 | .lst _,.int _,_,_,h=>by simp [dEq] at h
 | .lst _,.str _,_,_,h=>by simp [dEq] at h
 | .lst _,.tup _,_,_,h=>by simp [dEq] at h
theorem xgi:∀ {xs ys:List DV},pls xs=true→pls ys=true→dEqs xs ys=true→xs=ys
 | [],[],_,_,_=>rfl
 | x :: xs,y :: ys,p,q,h=>by
  simp only [pls,Bool.and_eq_true] at p q
  simp only [dEqs,Bool.and_eq_true] at h
  rw [xkm p.1 q.1 h.1,xgi p.2 q.2 h.2]
 | [],_ :: _,_,_,h=>by simp [dEqs] at h
 | _ :: _,[],_,_,h=>by simp [dEqs] at h
end
theorem xn9 {d e:DV} {α:Type} {x y:α} [DecidableEq α] (p:d.pl=true) (q:e.pl=true) (f:d=e ↔ x=y):dEq d e=decide (x=y):=by
 by_cases c:x=y
 ·rw [decide_eq_true c,f.mpr c]
  exact xb6 _
 ·rw [decide_eq_false c]
  cases z:dEq d e with
  | false=>rfl
  | true=>exact absurd (f.mp (xkm p q z)) c
theorem xfl:∀ {xs ys:List DV} {e:Nat→Bool},(∀ (j:Nat) (x y:DV),xs[j]?=some x→ys[j]?=some y→e j=dEq x y)→((List.range (min xs.length ys.length)).all e && xs.length == ys.length)=dEqs xs ys
 | [],[],_,_=>rfl
 | [],_ :: _,_,_=>by simp [dEqs]
 | _ :: _,[],_,_=>by simp [dEqs]
 | x :: xs,y :: ys,e,h=>by
  have ih:=xfl (xs:=xs) (ys:=ys) (e:=fun j=>e (j + 1)) (fun j a b ha hb=>h (j + 1) a b (by simpa using ha) (by simpa using hb))
  have h0:=h 0 x y rfl rfl
  rw [List.length_cons,List.length_cons,show min (xs.length + 1) (ys.length + 1)=min xs.length ys.length + 1 by omega,List.range_succ_eq_map,List.all_cons,List.all_map]
  show _=(dEq x y && dEqs xs ys)
  rw [← ih,h0]
  have z:((xs.length + 1 == ys.length + 1):Bool)=(xs.length == ys.length):=by
   rw [Bool.eq_iff_iff]
   simp
  rw [z,Bool.and_assoc]
  rfl
theorem xeb:∀ {xs ys:List DV},xs.length≠ys.length→dEqs xs ys=false
 | [],[],h=>absurd rfl h
 | [],_ :: _,_=>rfl
 | _ :: _,[],_=>rfl
 | x :: xs,y :: ys,h=>by
  show (dEq x y && dEqs xs ys)=false
  rw [xeb (xs:=xs) (ys:=ys) (fun z=>h (by simp [z]))]
  exact Bool.and_false _
inductive Dv (K:PySem.W.Frag) (H:Hp):Nat→V→DV→Prop
 | non {n:Nat}:Dv K H n .non .non
 | bl {n:Nat} {b:Bool}:Dv K H n (.bl b) (.bl b)
 | int {n:Nat} {b:Int}:Dv K H n (.int b) (.int b)
 | str {n:Nat} {b:Str}:Dv K H n (.str b) (.str b)
 | tup {n:Nat} {a:Addr} {xs:List V} {ds:List DV} (ha:SqT K H a xs) (hl:xs.length=ds.length) (h:∀ (j:Nat) (x:V) (d:DV),xs[j]?=some x→ds[j]?=some d→Dv K H n x d):Dv K H (n + 1) (.ref a) (.tup ds)
 | lst {n:Nat} {a:Addr} {xs:List V} {ds:List DV} (ha:SqL K H a xs) (hl:xs.length=ds.length) (h:∀ (j:Nat) (x:V) (d:DV),xs[j]?=some x→ds[j]?=some d→Dv K H n x d):Dv K H (n + 1) (.ref a) (.lst ds)
section
variable {X:Cx} {pins:List (Addr × Obj)} {σ:St} {H:Hp} {s:Shared}
theorem xgs {h:Heap} {a:Addr} {i j:Array Value} (p:h.IsTuple a i) (q:PlainL h a j):False:=by
 obtain ⟨o,e,c,_⟩:=p
 obtain ⟨o',n,e',c',_⟩:=q
 rw [e] at e'
 cases e'
 rw [c] at c'
 exact absurd c' (by decide)
theorem xk4 {xs ys:List DV} (h:xs.length=ys.length) (f:∀ (j:Nat) (x y:DV),xs[j]?=some x→ys[j]?=some y→x=y):xs=ys:=by
 refine List.ext_getElem? fun j=>?_
 by_cases c:j < xs.length
 ·rw [List.getElem?_eq_getElem c,List.getElem?_eq_getElem (by omega),f j _ _ (List.getElem?_eq_getElem c) (List.getElem?_eq_getElem (by omega))]
 ·rw [List.getElem?_eq_none (by omega),List.getElem?_eq_none (by omega)]
theorem xhp (I:Inv X pins σ H s) {n:Nat} {x:V} {d:DV} (h:Dv X.K H n x d):∀ {m:Nat} {e:DV},Dv X.K H m x e→d=e:=by
 induction h with
 | non=>intro m e h; cases h; rfl
 | bl=>intro m e h; cases h; rfl
 | int=>intro m e h; cases h; rfl
 | str=>intro m e h; cases h; rfl
 | @tup n a xs ds ha hl h ih =>
  intro m e h2
  cases h2 with
  | @tup m _ ys es hb kl k =>
   obtain rfl:=I.tuple_inj ha hb
   refine congrArg DV.tup (xk4 (by omega) fun j d e h1 h2=>?_)
   have lt:j < xs.length:=by
    have:=(List.getElem?_eq_some_iff.mp h1).1
    omega
   exact ih j xs[j] d (List.getElem?_eq_getElem lt) h1 (k j xs[j] e (List.getElem?_eq_getElem lt) h2)
  | @lst m _ ys es hb kl k =>
   obtain ⟨its,_,t1,_⟩:=I.tuple ha
   obtain ⟨its2,_,t2,_⟩:=I.list hb
   exact (xgs t1 t2).elim
 | @lst n a xs ds ha hl h ih =>
  intro m e h2
  cases h2 with
  | @lst m _ ys es hb kl k =>
   obtain rfl:=I.list_inj ha hb
   refine congrArg DV.lst (xk4 (by omega) fun j d e h1 h2=>?_)
   have lt:j < xs.length:=by
    have:=(List.getElem?_eq_some_iff.mp h1).1
    omega
   exact ih j xs[j] d (List.getElem?_eq_getElem lt) h1 (k j xs[j] e (List.getElem?_eq_getElem lt) h2)
  | @tup m _ ys es hb kl k =>
   obtain ⟨its,_,t1,_⟩:=I.tuple hb
   obtain ⟨its2,_,t2,_⟩:=I.list ha
   exact (xgs t1 t2).elim
def at2 (f:DV→DV→Bool) (ds es:List DV) (j:Nat):Bool:=match ds[j]?,es[j]? with | some d,some e=>f d e | _,_=>false
theorem xfq {f:DV→DV→Bool} {ds es:List DV} {j:Nat} {d e:DV} (h:ds[j]?=some d) (h2:es[j]?=some e):at2 f ds es j=f d e:=by
 unfold at2
 rw [h,h2]
theorem xjz (I:Inv X pins σ H s) {n:Nat} {x:V} {d:DV} (h:Dv X.K H n x d):∀ {m:Nat} {y:V} {e:DV},Dv X.K H m y e→∀ {A:Around} {u v:Value},A.units + n + m < cLine→RelV x u→RelV y v →
    SeqAt.EqAt A s u v (dEq d e)∧SeqAt.RcAt A s u v (dEq d e)∧SeqAt.RcNeAt A s u v (!dEq d e):=by
  induction h with
  | @non n =>
    intro m y e h2 A u v hu rx ry
    obtain rfl:u=Value.none:=rx
    cases h2 with
    | @non  =>
      obtain rfl:v=Value.none:=ry
      exact ⟨SeqAt.EqAt.same _,SeqAt.RcAt.none_none,SeqAt.RcNeAt.none_none⟩
    | @bl _ b2 =>
      obtain rfl:v=Value.bool _:=ry
      exact ⟨SeqAt.EqAt.none_bool _,SeqAt.RcAt.none_bool _,SeqAt.RcNeAt.none_bool _⟩
    | @int _ b2 =>
      obtain ⟨_,rfl⟩:=ry
      exact ⟨SeqAt.EqAt.none_int _ _,SeqAt.RcAt.none_int _ _,SeqAt.RcNeAt.none_int _ _⟩
    | @str _ b2 =>
      obtain ⟨_,rfl⟩:=ry
      exact ⟨SeqAt.EqAt.none_str _ _,SeqAt.RcAt.none_str _ _,SeqAt.RcNeAt.none_str _ _⟩
    | @tup m b ys es hb kl k =>
      obtain rfl:v=Value.ref _:=ry
      obtain ⟨its2,r2,t2,z2⟩:=I.tuple hb
      have l2:=r2.length
      exact ⟨SeqAt.EqAt.none_tuple t2 (by omega),SeqAt.RcAt.none_tuple t2 (by omega),SeqAt.RcNeAt.none_tuple t2 (by omega)⟩
    | @lst m b ys es hb kl k =>
      obtain rfl:v=Value.ref _:=ry
      obtain ⟨its2,r2,t2,z2⟩:=I.list hb
      have l2:=r2.length
      exact ⟨SeqAt.EqAt.none_list t2.isList (by omega),SeqAt.RcAt.none_list t2.isList (by omega),SeqAt.RcNeAt.none_list t2.isList (by omega)⟩
  | @bl n b1 =>
    intro m y e h2 A u v hu rx ry
    obtain rfl:u=Value.bool _:=rx
    cases h2 with
    | @non  =>
      obtain rfl:v=Value.none:=ry
      exact ⟨SeqAt.EqAt.bool_none _,SeqAt.RcAt.bool_none _,SeqAt.RcNeAt.bool_none _⟩
    | @bl _ b2 =>
      obtain rfl:v=Value.bool _:=ry
      exact ⟨SeqAt.EqAt.bool_bool _ _,SeqAt.RcAt.bool_bool _ _,SeqAt.RcNeAt.bool_bool _ _⟩
    | @int _ b2 =>
      obtain ⟨_,rfl⟩:=ry
      exact ⟨SeqAt.EqAt.bool_int _ _ _,SeqAt.RcAt.bool_int _ _ _,SeqAt.RcNeAt.bool_int _ _ _⟩
    | @str _ b2 =>
      obtain ⟨_,rfl⟩:=ry
      exact ⟨SeqAt.EqAt.bool_str _ _ _,SeqAt.RcAt.bool_str _ _ _,SeqAt.RcNeAt.bool_str _ _ _⟩
    | @tup m b ys es hb kl k =>
      obtain rfl:v=Value.ref _:=ry
      obtain ⟨its2,r2,t2,z2⟩:=I.tuple hb
      have l2:=r2.length
      exact ⟨SeqAt.EqAt.bool_tuple _ t2 (by omega),SeqAt.RcAt.bool_tuple _ t2 (by omega),SeqAt.RcNeAt.bool_tuple _ t2 (by omega)⟩
    | @lst m b ys es hb kl k =>
      obtain rfl:v=Value.ref _:=ry
      obtain ⟨its2,r2,t2,z2⟩:=I.list hb
      have l2:=r2.length
      exact ⟨SeqAt.EqAt.bool_list _ t2.isList (by omega),SeqAt.RcAt.bool_list _ t2.isList (by omega),SeqAt.RcNeAt.bool_list _ t2.isList (by omega)⟩
  | @int n b1 =>
    intro m y e h2 A u v hu rx ry
    obtain ⟨_,rfl⟩:=rx
    cases h2 with
    | @non  =>
      obtain rfl:v=Value.none:=ry
      exact ⟨SeqAt.EqAt.int_none _ _,SeqAt.RcAt.int_none _ _,SeqAt.RcNeAt.int_none _ _⟩
    | @bl _ b2 =>
      obtain rfl:v=Value.bool _:=ry
      exact ⟨SeqAt.EqAt.int_bool _ _ _,SeqAt.RcAt.int_bool _ _ _,SeqAt.RcNeAt.int_bool _ _ _⟩
    | @int _ b2 =>
      obtain ⟨_,rfl⟩:=ry
      exact ⟨SeqAt.EqAt.int_int _ _ _ _,SeqAt.RcAt.int_int _ _ _ _,SeqAt.RcNeAt.int_int _ _ _ _⟩
    | @str _ b2 =>
      obtain ⟨_,rfl⟩:=ry
      exact ⟨SeqAt.EqAt.int_str _ _ _ _,SeqAt.RcAt.int_str _ _ _ _,SeqAt.RcNeAt.int_str _ _ _ _⟩
    | @tup m b ys es hb kl k =>
      obtain rfl:v=Value.ref _:=ry
      obtain ⟨its2,r2,t2,z2⟩:=I.tuple hb
      have l2:=r2.length
      exact ⟨SeqAt.EqAt.int_tuple _ _ t2 (by omega),SeqAt.RcAt.int_tuple _ _ t2 (by omega),SeqAt.RcNeAt.int_tuple _ _ t2 (by omega)⟩
    | @lst m b ys es hb kl k =>
      obtain rfl:v=Value.ref _:=ry
      obtain ⟨its2,r2,t2,z2⟩:=I.list hb
      have l2:=r2.length
      exact ⟨SeqAt.EqAt.int_list _ _ t2.isList (by omega),SeqAt.RcAt.int_list _ _ t2.isList (by omega),SeqAt.RcNeAt.int_list _ _ t2.isList (by omega)⟩
  | @str n b1 =>
    intro m y e h2 A u v hu rx ry
    obtain ⟨_,rfl⟩:=rx
    cases h2 with
    | @non  =>
      obtain rfl:v=Value.none:=ry
      exact ⟨SeqAt.EqAt.str_none _ _,SeqAt.RcAt.str_none _ _,SeqAt.RcNeAt.str_none _ _⟩
    | @bl _ b2 =>
      obtain rfl:v=Value.bool _:=ry
      exact ⟨SeqAt.EqAt.str_bool _ _ _,SeqAt.RcAt.str_bool _ _ _,SeqAt.RcNeAt.str_bool _ _ _⟩
    | @int _ b2 =>
      obtain ⟨_,rfl⟩:=ry
      exact ⟨SeqAt.EqAt.str_int _ _ _ _,SeqAt.RcAt.str_int _ _ _ _,SeqAt.RcNeAt.str_int _ _ _ _⟩
    | @str _ b2 =>
      obtain ⟨_,rfl⟩:=ry
      exact ⟨SeqAt.EqAt.str_str _ _ _ _,SeqAt.RcAt.str_str _ _ _ _,SeqAt.RcNeAt.str_str _ _ _ _⟩
    | @tup m b ys es hb kl k =>
      obtain rfl:v=Value.ref _:=ry
      obtain ⟨its2,r2,t2,z2⟩:=I.tuple hb
      have l2:=r2.length
      exact ⟨SeqAt.EqAt.str_tuple _ _ t2 (by omega),SeqAt.RcAt.str_tuple _ _ t2 (by omega),SeqAt.RcNeAt.str_tuple _ _ t2 (by omega)⟩
    | @lst m b ys es hb kl k =>
      obtain rfl:v=Value.ref _:=ry
      obtain ⟨its2,r2,t2,z2⟩:=I.list hb
      have l2:=r2.length
      exact ⟨SeqAt.EqAt.str_list _ _ t2.isList (by omega),SeqAt.RcAt.str_list _ _ t2.isList (by omega),SeqAt.RcNeAt.str_list _ _ t2.isList (by omega)⟩
  | @tup n a xs ds ha hl h ih =>
    intro m y e h2 A u v hu rx ry
    obtain rfl:u=Value.ref _:=rx
    obtain ⟨its,r1,t1,z1⟩:=I.tuple ha
    have l1:=r1.length
    cases h2 with
    | @non  =>
      obtain rfl:v=Value.none:=ry
      exact ⟨SeqAt.EqAt.tuple_none t1 (by omega),SeqAt.RcAt.tuple_none t1 (by omega),SeqAt.RcNeAt.tuple_none t1 (by omega)⟩
    | @bl _ b2 =>
      obtain rfl:v=Value.bool _:=ry
      exact ⟨SeqAt.EqAt.tuple_bool _ t1 (by omega),SeqAt.RcAt.tuple_bool _ t1 (by omega),SeqAt.RcNeAt.tuple_bool _ t1 (by omega)⟩
    | @int _ b2 =>
      obtain ⟨_,rfl⟩:=ry
      exact ⟨SeqAt.EqAt.tuple_int _ _ t1 (by omega),SeqAt.RcAt.tuple_int _ _ t1 (by omega),SeqAt.RcNeAt.tuple_int _ _ t1 (by omega)⟩
    | @str _ b2 =>
      obtain ⟨_,rfl⟩:=ry
      exact ⟨SeqAt.EqAt.tuple_str _ _ t1 (by omega),SeqAt.RcAt.tuple_str _ _ t1 (by omega),SeqAt.RcNeAt.tuple_str _ _ t1 (by omega)⟩
    | @tup m b ys es hb kl k =>
      obtain rfl:v=Value.ref _:=ry
      obtain ⟨its2,r2,t2,z2⟩:=I.tuple hb
      have l2:=r2.length
      have step:∀ (j:Nat) (h1:j < its.toArray.size) (h2:j < its2.toArray.size),SeqAt.EqAt A.in1 s its.toArray[j] its2.toArray[j] (at2 dEq ds es j):=fun j h1 h2=>by
        obtain ⟨x,hx,rx⟩:=xe5 r1 h1
        obtain ⟨y,hy,ry⟩:=xe5 r2 h2
        have j1:j < ds.length:=by simp at h1; omega
        have j2:j < es.length:=by simp at h2; omega
        rw [xfq (List.getElem?_eq_getElem j1) (List.getElem?_eq_getElem j2)]
        exact (ih j x _ hx (List.getElem?_eq_getElem j1) (k j y _ hy (List.getElem?_eq_getElem j2)) (A:=A.in1) (by show A.units + 1 + n + m < cLine; omega) rx ry).1
      have all:=xfl (xs:=ds) (ys:=es) (e:=at2 dEq ds es) fun j x y h1 h2=>xfq h1 h2
      have both:SeqAt.RcAt A s (.ref a) (.ref b) (dEqs ds es)∧SeqAt.RcNeAt A s (.ref a) (.ref b) (!dEqs ds es):=by
        have z1:=SeqAt.RcAt.tuples (A:=A) (e:=at2 dEq ds es) (show s.heap.IsTuple a its.toArray from t1) (show s.heap.IsTuple b its2.toArray from t2) (by omega) step
        have z2:=SeqAt.RcNeAt.tuples (A:=A) (e:=at2 dEq ds es) (show s.heap.IsTuple a its.toArray from t1) (show s.heap.IsTuple b its2.toArray from t2) (by omega) step
        have e1:its.toArray.size=ds.length:=by simp; omega
        have e2:its2.toArray.size=es.length:=by simp; omega
        rw [e1,e2,all] at z1 z2
        exact ⟨z1,z2⟩
      simp only [dEq]
      refine ⟨?_,both⟩
      by_cases q:a=b
      · subst q
        have ed:DV.tup ds=DV.tup es:=xhp I (Dv.tup ha hl h) (Dv.tup hb kl k)
        rw [show es=ds by injection ed with z; exact z.symm,xcz]
        exact SeqAt.EqAt.same _
      · exact .of_refs q both.1
    | @lst m b ys es hb kl k =>
      obtain rfl:v=Value.ref _:=ry
      obtain ⟨its2,r2,t2,z2⟩:=I.list hb
      have l2:=r2.length
      exact ⟨SeqAt.EqAt.tuple_list t1 t2.isList (by omega),SeqAt.RcAt.tuple_list t1 t2.isList (by omega),SeqAt.RcNeAt.tuple_list t1 t2.isList (by omega)⟩
  | @lst n a xs ds ha hl h ih =>
    intro m y e h2 A u v hu rx ry
    obtain rfl:u=Value.ref _:=rx
    obtain ⟨its,r1,t1,z1⟩:=I.list ha
    have l1:=r1.length
    cases h2 with
    | @non  =>
      obtain rfl:v=Value.none:=ry
      exact ⟨SeqAt.EqAt.list_none t1.isList (by omega),SeqAt.RcAt.list_none t1.isList (by omega),SeqAt.RcNeAt.list_none t1.isList (by omega)⟩
    | @bl _ b2 =>
      obtain rfl:v=Value.bool _:=ry
      exact ⟨SeqAt.EqAt.list_bool _ t1.isList (by omega),SeqAt.RcAt.list_bool _ t1.isList (by omega),SeqAt.RcNeAt.list_bool _ t1.isList (by omega)⟩
    | @int _ b2 =>
      obtain ⟨_,rfl⟩:=ry
      exact ⟨SeqAt.EqAt.list_int _ _ t1.isList (by omega),SeqAt.RcAt.list_int _ _ t1.isList (by omega),SeqAt.RcNeAt.list_int _ _ t1.isList (by omega)⟩
    | @str _ b2 =>
      obtain ⟨_,rfl⟩:=ry
      exact ⟨SeqAt.EqAt.list_str _ _ t1.isList (by omega),SeqAt.RcAt.list_str _ _ t1.isList (by omega),SeqAt.RcNeAt.list_str _ _ t1.isList (by omega)⟩
    | @tup m b ys es hb kl k =>
      obtain rfl:v=Value.ref _:=ry
      obtain ⟨its2,r2,t2,z2⟩:=I.tuple hb
      have l2:=r2.length
      exact ⟨SeqAt.EqAt.list_tuple t1.isList t2 (by omega),SeqAt.RcAt.list_tuple t1.isList t2 (by omega),SeqAt.RcNeAt.list_tuple t1.isList t2 (by omega)⟩
    | @lst m b ys es hb kl k =>
      obtain rfl:v=Value.ref _:=ry
      obtain ⟨its2,r2,t2,z2⟩:=I.list hb
      have l2:=r2.length
      have step:∀ (j:Nat) (h1:j < its.toArray.size) (h2:j < its2.toArray.size),SeqAt.EqAt A.in1 s its.toArray[j] its2.toArray[j] (at2 dEq ds es j):=fun j h1 h2=>by
        obtain ⟨x,hx,rx⟩:=xe5 r1 h1
        obtain ⟨y,hy,ry⟩:=xe5 r2 h2
        have j1:j < ds.length:=by simp at h1; omega
        have j2:j < es.length:=by simp at h2; omega
        rw [xfq (List.getElem?_eq_getElem j1) (List.getElem?_eq_getElem j2)]
        exact (ih j x _ hx (List.getElem?_eq_getElem j1) (k j y _ hy (List.getElem?_eq_getElem j2)) (A:=A.in1) (by show A.units + 1 + n + m < cLine; omega) rx ry).1
      have all:=xfl (xs:=ds) (ys:=es) (e:=at2 dEq ds es) fun j x y h1 h2=>xfq h1 h2
      have both:SeqAt.RcAt A s (.ref a) (.ref b) (dEqs ds es)∧SeqAt.RcNeAt A s (.ref a) (.ref b) (!dEqs ds es):=by
        have e1:its.toArray.size=ds.length:=by simp; omega
        have e2:its2.toArray.size=es.length:=by simp; omega
        by_cases c:ds.length=es.length
        · have z1:=SeqAt.RcAt.lists (A:=A) (e:=at2 dEq ds es) t1.isList t2.isList (by omega) (by omega) step
          have z2:=SeqAt.RcNeAt.lists (A:=A) (e:=at2 dEq ds es) t1.isList t2.isList (by omega) (by omega) step
          have all':(List.range ds.length).all (at2 dEq ds es)=dEqs ds es:=by
            rw [← all,c,Nat.min_self]
            simp
          rw [e1,all'] at z1 z2
          exact ⟨z1,z2⟩
        · rw [xeb c]
          exact ⟨SeqAt.RcAt.lists_lengths (A:=A) t1.isList t2.isList (by rw [e1,e2]; simpa using c) (by omega),SeqAt.RcNeAt.lists_lengths (A:=A) t1.isList t2.isList (by rw [e1,e2]; simpa using c) (by omega)⟩
      simp only [dEq]
      refine ⟨?_,both⟩
      by_cases q:a=b
      · subst q
        have ed:DV.lst ds=DV.lst es:=xhp I (Dv.lst ha hl h) (Dv.lst hb kl k)
        rw [show es=ds by injection ed with z; exact z.symm,xcz]
        exact SeqAt.EqAt.same _
      · exact .of_refs q both.1
end
theorem Same.seqL {K:PySem.W.Frag} {H H':Hp} {a:Addr} {xs:List V} (s:Same H H') (h:SqL K H a xs):SqL K H' a xs:=by
 rcases h with (h | ⟨ob,h⟩) | h
 ·exact .inl (.inl (s _ _ h))
 ·exact .inl (.inr ⟨ob,s _ _ h⟩)
 ·exact .inr h
def rEqV (K:PySem.W.Frag):R2:=fun x y H Q=>∃ (n m:Nat) (d e:DV),Dv K H n x d∧Dv K H m y e∧n≤9∧m≤9∧Q (.bl (dEq d e)) H
def rNeV (K:PySem.W.Frag):R2:=fun x y H Q=>∃ (n m:Nat) (d e:DV),Dv K H n x d∧Dv K H m y e∧n≤9∧m≤9∧Q (.bl (!dEq d e)) H
def rInV (K:PySem.W.Frag) (neg:Bool):R2:=fun x y H Q=>∃ (n m:Nat) (d:DV) (es:List DV),Dv K H n x d∧Dv K H m y (.lst es)∧n≤9∧m≤9∧Q (.bl (if neg then !es.any (fun z=>dEq z d) else es.any fun z=>dEq z d)) H
section
variable {X:Cx}
theorem xhf (hu:X.A.units + 20 < cLine):OpR X (compareOp .Eq) (rEqV X.K):=by
 intro pins s σ H x y u v Q I rx ry h
 obtain ⟨n,m,d,e,h1,h2,hn,hm,q⟩:=h
 exact (xjz I h1 h2 (A:=X.A) (by omega) rx ry).2.1 X.prog X.w X.xe _ ⟨.bl _,H,I,rfl,q⟩
theorem xc1 (hu:X.A.units + 20 < cLine):OpR X (compareOp .NotEq) (rNeV X.K):=by
 intro pins s σ H x y u v Q I rx ry h
 obtain ⟨n,m,d,e,h1,h2,hn,hm,q⟩:=h
 exact PySem.W.cmp_ofNotEq ((xjz I h1 h2 (A:=X.A) (by omega) rx ry).2.2 X.prog X.w X.xe _ ⟨.bl _,H,I,rfl,q⟩)
theorem xkg {α β:Type} {f:α→Bool} {g:β→Bool}:∀ {xs:List α} {ys:List β},xs.length=ys.length→(∀ (j:Nat) (x:α) (y:β),xs[j]?=some x→ys[j]?=some y→f x=g y)→xs.any f=ys.any g
 | [],[],_,_=>rfl
 | [],_ :: _,h,_=>by cases h
 | _ :: _,[],h,_=>by cases h
 | x :: xs,y :: ys,h,k=>by
  rw [List.any_cons,List.any_cons,k 0 x y rfl rfl,xkg (xs:=xs) (ys:=ys) (by simpa using h) fun j a b h1 h2=>k (j + 1) a b (by simpa using h1) (by simpa using h2)]
noncomputable def eOf (K:PySem.W.Frag) (H:Hp) (m:Nat) (d:DV) (z:V):Bool:=@dite Bool (∃ e,Dv K H m z e) (Classical.propDecidable _) (fun h=>dEq h.choose d) fun _=>false
theorem xlj {pins:List (Addr × Obj)} {σ:St} {H:Hp} {s:Shared} (I:Inv X pins σ H s) {m:Nat} {d e:DV} {z:V} (h:Dv X.K H m z e):eOf X.K H m d z=dEq e d:=by
 unfold eOf
 rw [dif_pos ⟨e,h⟩]
 have ex:∃ e,Dv X.K H m z e:=⟨e,h⟩
 rw [xhp I ex.choose_spec h]
theorem xld (hu:X.A.units + 20 < cLine):OpR X (compareOp .In) (rInV X.K false):=by
 intro pins s σ H x y v u Q I rx ry h
 obtain ⟨n,m,d,es,h1,h2,hn,hm,q⟩:=h
 cases h2 with
 | @lst m a xs _ ha hl k =>
  cases ry
  obtain ⟨its,r,pl,hz⟩:=I.list ha
  have get:∀ z ∈ xs,∃ (j:Nat) (e:DV),xs[j]?=some z∧es[j]?=some e∧Dv X.K H m z e:=fun z hz=>by
   obtain ⟨j,hj⟩:=List.getElem?_of_mem hz
   have lt:j < es.length:=by rw [← hl]; exact (List.getElem?_eq_some_iff.mp hj).1
   exact ⟨j,es[j],hj,List.getElem?_eq_getElem lt,k j z _ hj (List.getElem?_eq_getElem lt)⟩
  refine SeqAt.in_listAt (eU (eOf X.K H m d)) pl.isList (fun w hw=>?_) ⟨.bl _,H,I,rfl,?_⟩
  ·obtain ⟨z,m1,m2⟩:=xiv r w (by simpa using hw)
   obtain ⟨j,e,_,_,he⟩:=get z m1
   rw [xng m2,xlj I he]
   exact (xjz I he h1 (A:=X.A.in1) (by show X.A.units + 1 + m + n < cLine; omega) m2 rx).1
  ·rw [show its.toArray.any (eU (eOf X.K H m d))=its.any (eU (eOf X.K H m d)) by simp,xle r,xkg (g:=fun z=>dEq z d) hl fun j z e g1 g2=>xlj I (k j z e g1 g2)]
   exact q
end
end L2
set_option maxRecDepth 100000
set_option maxHeartbeats 1000000
namespace L2
open PySem PySem.Spec PyProof.Rows XL PySem.W
def Tp (H H':Hp):Prop:=∀ b xs,H b=some (.tup xs)→H' b=some (.tup xs)
theorem Same.tp {H H':Hp} (s:Same H H'):Tp H H':=fun b xs e=>s b _ e
theorem Tp.trans {H H' H'':Hp} (s:Tp H H') (r:Tp H' H''):Tp H H'':=fun b xs e=>r b xs (s b xs e)
theorem xli {H:Hp} {l:Addr} {xs ys:List V} (h:H l=some (.lst xs)):Tp H (upd H l (.lst ys)):=fun b zs e=>by
 rw [xj (fun z=>by rw [z,h] at e; cases e)]
 exact e
section
variable {J:It} {n:Nat} {g:TG} {σ:St} {fr:List Nat} {tc:TT} {te:TE} {l:Addr} {H1:Hp} {Q:VK}
theorem xiq (len:Nat) (hlen:len < sizeLine) (hl:H1 l=none) (x:Nat→V) (hgo:∀ i H,i < len→Same H1 H→J.go i H) (hy:∀ i H v H',i < len→Same H1 H→J.yld i H v H'→H'=H∧v=x i) (hst:∀ H,Same H1 H→J.stop len H)
    (p:Nat→Bool) (F:Nat→V→Hp→Prop) (stab:∀ i y H H',Tp H H'→F i y H→F i y H')
    (step:∀ i H2,i < len→Same H1 H2→∀ (N:V→Hp→Prop) (M:Hp→Prop),(∀ y H',Same H2 H'→p i=true→F i y H'→N y H')→(∀ H',Same H2 H'→p i=false→M H') →
      g (x i) (blk0 σ fr n) H2 fun σ' H3=>tc σ' H3 fun b H4=>if b=true then te σ' H4 N else M H4)
    (fin:∀ ys H2,Same H1 H2→H2 l=some (.lst ys)→ys.length=((List.range len).filter p).length→(∀ (j:Nat) (y:V) (i:Nat),ys[j]?=some y→((List.range len).filter p)[j]?=some i→F i y H2)→Q (.ref l) H2):xcv J n g σ fr tc te l H1 Q:=by
  refine xct len (fun i ys H2=>Same H1 H2∧H2 l=some (.lst ys)∧ys.length=((List.range i).filter p).length∧∀ (j:Nat) (y:V) (k:Nat),ys[j]?=some y→((List.range i).filter p)[j]?=some k→F k y H2) ?_ ?_ ?_ ?_
  · refine ⟨fun b u e=>?_,xf,rfl,fun j y k e=>by simp at e⟩
    rw [xj (xm e hl)]
    exact e
  · rintro i ys H2 lt ⟨s,_⟩
    exact hgo i H2 lt s
  · rintro i ys H2 v H3 lt ⟨s,el,ly,f⟩ yl N hN
    obtain ⟨rfl,rfl⟩:=hy i H2 v H3 lt s yl
    refine step i H3 lt s _ _ (fun y H' s' pt hf=>?_) (fun H' s' pf=>?_)
    · have el':=s' _ _ el
      have ylen:ys.length < sizeLine:=by
        rw [ly]
        refine Nat.lt_of_le_of_lt (List.length_filter_le _ _) ?_
        rw [List.length_range]
        omega
      refine ⟨el',ylen,hN _ _ ⟨fun b u e=>?_,xf,?_,fun j z k e1 e2=>?_⟩⟩
      · rw [xj (xm e hl)]
        exact s' _ _ (s _ _ e)
      · rw [List.range_succ,List.filter_append,List.length_append,List.length_append,ly,List.filter_cons_of_pos pt]
        rfl
      · rw [List.range_succ,List.filter_append,List.filter_cons_of_pos pt] at e2
        by_cases c:j < ys.length
        · rw [List.getElem?_append_left c] at e1
          rw [List.getElem?_append_left (by omega)] at e2
          exact stab _ _ _ _ ((Same.tp s').trans (xli el')) (f j z k e1 e2)
        · rw [List.getElem?_append_right (by omega)] at e1 e2
          rw [← ly] at e2
          cases hj:j - ys.length with
          | zero =>
            rw [hj] at e1 e2
            simp at e1 e2
            subst e1 e2
            exact stab _ _ _ _ (xli el') hf
          | succ m =>
            rw [hj] at e1
            simp at e1
    · refine hN _ _ ⟨s.trans s',s' _ _ el,?_,fun j z k e1 e2=>?_⟩
      · rw [List.range_succ,List.filter_append,List.filter_cons_of_neg (by simp [pf])]
        simpa using ly
      · rw [List.range_succ,List.filter_append,List.filter_cons_of_neg (by simp [pf])] at e2
        simp only [List.filter_nil,List.append_nil] at e2
        exact stab _ _ _ _ (Same.tp s') (f j z k e1 e2)
  · rintro ys H2 ⟨s,el,ly,f⟩
    exact ⟨hst _ s,fin ys H2 s el ly f⟩
theorem xf0 {K:PySem.W.Frag} {a:Addr} {xs:List V} (hs:SqL K H1 a xs) (hlen:xs.length < sizeLine) (hl:H1 l=none) (p:Nat→Bool) (F:Nat→V→Hp→Prop) (stab:∀ i y H H',Tp H H'→F i y H→F i y H')
    (step:∀ (i:Nat) (x:V) (H2:Hp),xs[i]?=some x→Same H1 H2→∀ (N:V→Hp→Prop) (M:Hp→Prop),(∀ y H',Same H2 H'→p i=true→F i y H'→N y H')→(∀ H',Same H2 H'→p i=false→M H') →
      g x (blk0 σ fr n) H2 fun σ' H3=>tc σ' H3 fun b H4=>if b=true then te σ' H4 N else M H4)
    (fin:∀ ys H2,Same H1 H2→H2 l=some (.lst ys)→ys.length=((List.range xs.length).filter p).length→(∀ (j:Nat) (y:V) (i:Nat),ys[j]?=some y→((List.range xs.length).filter p)[j]?=some i→F i y H2)→Q (.ref l) H2):xcv (Itl K a) n g σ fr tc te l H1 Q:=by
  refine xiq xs.length hlen hl (fun i=>xs.getD i .non) (fun i H lt s=>⟨xs,xs[i],Same.seqL s hs,List.getElem?_eq_getElem lt⟩) (fun i H v H' lt s y=>?_) (fun H s=>⟨xs,Same.seqL s hs,Nat.le_refl _⟩) p F stab (fun i H2 lt s N M h1 h2=>?_) fin
  · obtain ⟨e,f⟩:=y
    have z:=f xs (Same.seqL s hs)
    refine ⟨e,?_⟩
    simp [z]
  · have e:xs[i]?=some (xs.getD i .non):=by simp [List.getElem?_eq_getElem lt]
    exact step i _ H2 e s N M h1 h2
theorem xec {i:Nat} {x:V} {σ0:St} {H2:Hp} {N:V→Hp→Prop} {M:Hp→Prop} {g:TG} {te:TE} (h:g x σ0 H2 fun σ' H3=>te σ' H3 N):g x σ0 H2 fun σ' H3=>xdn σ' H3 fun b H4=>if b=true then te σ' H4 N else M H4:=by
 have e:(fun (σ':St) (H3:Hp)=>xdn σ' H3 fun b H4=>if b=true then te σ' H4 N else M H4)=fun σ' H3=>te σ' H3 N:=by
  funext σ' H3
  show (if true=true then te σ' H3 N else M H3)=te σ' H3 N
  rw [if_pos rfl]
 rw [e]
 exact h
theorem xc4 (m:Nat):(List.range m).filter (fun _=>true)=List.range m:=by simp
theorem xdt {K:PySem.W.Frag} {a:Addr} {xs:List V} (hs:SqL K H1 a xs) (hlen:xs.length < sizeLine) (hl:H1 l=none) (F:Nat→V→Hp→Prop) (stab:∀ i y H H',Tp H H'→F i y H→F i y H')
    (step:∀ (i:Nat) (x:V) (H2:Hp),xs[i]?=some x→Same H1 H2→∀ (N:V→Hp→Prop),(∀ y H',Same H2 H'→F i y H'→N y H')→g x (blk0 σ fr n) H2 fun σ' H3=>te σ' H3 N)
    (fin:∀ ys H2,Same H1 H2→H2 l=some (.lst ys)→ys.length=xs.length→(∀ (i:Nat) (y:V),ys[i]?=some y→F i y H2)→Q (.ref l) H2):xcv (Itl K a) n g σ fr xdn te l H1 Q:=by
  refine xf0 hs hlen hl (fun _=>true) F stab (fun i x H2 hx s N M h1 h2=>xec (i:=i) (step i x H2 hx s N fun y H' s' f=>h1 y H' s' rfl f)) (fun ys H2 s e ly f=>?_)
  rw [xc4,List.length_range] at ly
  refine fin ys H2 s e ly fun i y hy=>f i y i hy ?_
  rw [xc4,List.getElem?_range (by have:=(List.getElem?_eq_some_iff.mp hy).1; omega)]
theorem xim {lo:Int} {m:Nat} (hlen:m < sizeLine) (hl:H1 l=none) (p:Nat→Bool) (F:Nat→V→Hp→Prop) (stab:∀ i y H H',Tp H H'→F i y H→F i y H')
    (step:∀ (i:Nat) H2,i < m→Same H1 H2→∀ (N:V→Hp→Prop) (M:Hp→Prop),(∀ y H',Same H2 H'→p i=true→F i y H'→N y H')→(∀ H',Same H2 H'→p i=false→M H') →
      g (.int (lo + i)) (blk0 σ fr n) H2 fun σ' H3=>tc σ' H3 fun b H4=>if b=true then te σ' H4 N else M H4)
    (fin:∀ ys H2,Same H1 H2→H2 l=some (.lst ys)→ys.length=((List.range m).filter p).length→(∀ (j:Nat) (y:V) (i:Nat),ys[j]?=some y→((List.range m).filter p)[j]?=some i→F i y H2)→Q (.ref l) H2):xcv (Itr lo m) n g σ fr tc te l H1 Q:=by
  exact xiq m hlen hl (fun i=>.int (lo + i)) (fun i H lt s=>lt) (fun i H v H' lt s y=>y) (fun H s=>Nat.le_refl _) p F stab (fun i H2 lt s N M h1 h2=>step i H2 lt s N M h1 h2) fin
theorem xjl {lo:Int} {m:Nat} (hlen:m < sizeLine) (hl:H1 l=none) (F:Nat→V→Hp→Prop) (stab:∀ i y H H',Tp H H'→F i y H→F i y H')
    (step:∀ (i:Nat) H2,i < m→Same H1 H2→∀ (N:V→Hp→Prop),(∀ y H',Same H2 H'→F i y H'→N y H')→g (.int (lo + i)) (blk0 σ fr n) H2 fun σ' H3=>te σ' H3 N)
    (fin:∀ ys H2,Same H1 H2→H2 l=some (.lst ys)→ys.length=m→(∀ (i:Nat) (y:V),ys[i]?=some y→F i y H2)→Q (.ref l) H2):xcv (Itr lo m) n g σ fr xdn te l H1 Q:=by
  refine xim hlen hl (fun _=>true) F stab (fun i H2 hi s N M h1 h2=>xec (i:=i) (step i H2 hi s N fun y H' s' f=>h1 y H' s' rfl f)) (fun ys H2 s e ly f=>?_)
  rw [xc4,List.length_range] at ly
  refine fin ys H2 s e ly fun i y hy=>f i y i hy ?_
  rw [xc4,List.getElem?_range (by have:=(List.getElem?_eq_some_iff.mp hy).1; omega)]
end
theorem xjh {α:Type} {f:α→V}:∀ {as:List α} {ys:List V},ys.length=as.length→(∀ (i:Nat) (y:V) (a:α),ys[i]?=some y→as[i]?=some a→y=f a)→ys=as.map f
 | [],[],_,_=>rfl
 | [],_ :: _,h,_=>by cases h
 | _ :: _,[],h,_=>by cases h
 | a :: as,y :: ys,h,k=>by
  rw [List.map_cons,k 0 y a rfl rfl,xjh (as:=as) (ys:=ys) (by simpa using h) fun i y' a' h1 h2=>k (i + 1) y' a' (by simpa using h1) (by simpa using h2)]
theorem xi0 {α:Type} (q:α→Bool):∀ (as:List α) (p:Nat→Bool),(∀ (i:Nat) (a:α),as[i]?=some a→p i=q a)→((List.range as.length).filter p).filterMap (fun i=>as[i]?)=as.filter q
 | [],_,_=>rfl
 | a :: as,p,h=>by
  have ih:=xi0 q as (fun i=>p (i + 1)) fun i b hb=>h (i + 1) b (by simpa using hb)
  rw [List.length_cons,List.range_succ_eq_map]
  have e:((List.range as.length).map Nat.succ).filter p=((List.range as.length).filter (fun i=>p (i + 1))).map Nat.succ:=by
   rw [List.filter_map]
   rfl
  have h0:=h 0 a rfl
  by_cases c:q a=true
  ·rw [List.filter_cons_of_pos (by rw [h0]; exact c),List.filter_cons_of_pos c,e,List.filterMap_cons]
   simp only [List.getElem?_cons_zero,List.filterMap_map]
   rw [← ih]
   rfl
  ·rw [List.filter_cons_of_neg (by rw [h0]; exact c),List.filter_cons_of_neg c,e,List.filterMap_map,← ih]
   rfl
theorem xox {α:Type} (q:α→Bool) {as:List α} {p:Nat→Bool} (h:∀ (i:Nat) (a:α),as[i]?=some a→p i=q a):((List.range as.length).filter p).length=(as.filter q).length∧∀ j i:Nat,((List.range as.length).filter p)[j]?=some i→as[i]?=(as.filter q)[j]?:=by
 rw [← xi0 q as p h]
 have all:∀ i ∈ (List.range as.length).filter p,∃ a,as[i]?=some a:=fun i hi=>by
  have:=List.mem_range.mp (List.mem_filter.mp hi).1
  exact ⟨as[i],List.getElem?_eq_getElem this⟩
 generalize (List.range as.length).filter p=is at all
 induction is with
 | nil=>exact ⟨rfl,fun j i e=>by simp at e⟩
 | cons i is ih =>
  obtain ⟨a,ha⟩:=all i List.mem_cons_self
  obtain ⟨h1,h2⟩:=ih fun k hk=>all k (List.mem_cons_of_mem _ hk)
  rw [List.filterMap_cons,ha]
  refine ⟨by simp [h1],fun j k e=>?_⟩
  cases j with
  | zero =>
   simp at e
   subst e
   exact ha
  | succ m=>exact h2 m k (by simpa using e)
end L2
set_option maxRecDepth 100000
set_option maxHeartbeats 1000000
namespace XL
open PySem PySem.MeetsSeq PySem.MeetsSeq2 PySem.MeetsSeq3 PySem.SeqAt
open AutoSeq1 (wpAny_loadPart')
end XL
namespace L2
open PySem PySem.Spec PyProof.Rows XL PySem.W
def xkd:Expr→Bool
 | .Starred _ _=>false
 | _=>true
theorem xjx {e:Expr} {es:List Expr} {env:Env} (h:xkd e=true):starEach (e :: es) env=(false,eval e env) :: starEach es env:=by
 cases e <;> first | rfl | cases h
theorem xan {X:Cx} {e:Expr} {es:List Expr} {te:TE} {t:TA} (ha:PE X e te) (hr:PA X es t) (hn:xkd e=true):PA X (e :: es) (xnk te t):=xa ha hr (xjx hn)
section
variable {X:Cx}
end
def Np (H H':Hp):Prop:=∀ b u,(∀ xs,u≠HO.lst xs)→H b=some u→H' b=some u
theorem xp0 {H:Hp} {l:Addr} {xs ys:List V} (h:H l=some (.lst xs)):Np H (upd H l (.lst ys)):=fun b u n e=>by
 rw [xj (fun z=>by rw [z,h] at e; cases e; exact n _ rfl)]
 exact e
section
variable {J:It} {n:Nat} {g:TG} {σ:St} {fr:List Nat} {tc:TT} {te:TE} {l:Addr} {H1:Hp} {Q:VK}
end
end L2
set_option maxRecDepth 100000
set_option maxHeartbeats 1000000
namespace XL
open PySem L2
open PyProof.Rows (assign_Tuple)
section
variable {prog:Program} {w:World} {A:Around} {E:Value→Shared→Prop}
theorem xhs {it t:Addr} {its:Array Value} (ne:t≠it):∀ (n i:Nat) (s:Shared) (Q:List Value→Shared→Prop),s.heap.IsListIter it t i→s.heap.IsList t its→i + n≤its.size →
    (∀ h',h'.IsListIter it t (i + n)→Heap.SameBut it s.heap h'→Q ((its.toList.drop i).take n) { s with heap:=h' })→wpAny (model prog w) A (draw (.ref it) n) Q E s
  | 0,i,s,Q,hit,_,_,q=>by
    show wpAny _ _ (pure []) Q E s
    exact wpAny_pure (by simpa using q s.heap hit (Heap.SameBut.refl ..))
  | n + 1,i,s,Q,hit,ht,le,q=>by
    have lt:i < its.size:=by omega
    show wpAny _ _ (pyNext (.ref it) >>= _) Q E s
    refine wpAny_bind (wpAny_pyNext_list_item hit ht (x:=its[i]) (by simp [lt]) fun h1 i1 s1=>?_)
    refine wpAny_bind (wpAny_holding (xhs ne n (i + 1) _ _ i1 (ht.extBut s1.extBut ne) (by omega) fun h2 i2 s2=>wpAny_pure ?_))
    have e:its.toList.drop i=its[i] :: its.toList.drop (i + 1):=by simp [List.drop_eq_getElem_cons,lt]
    have z:=q h2 (by rw [show i + (n + 1)=i + 1 + n by omega]; exact i2) (s1.trans s2)
    rw [e,List.take_succ_cons] at z
    exact z
theorem xfd {env:Env} {es:List Expr} {k} {pos:Pos} {t:Addr} {its:Array Value} {s:Shared} {Q:Unit→Shared→Prop} (hh:A.handled=none) (ht:s.heap.IsList t its)
    (hn:(assignEach es env).length=its.size) (hs:(assignEach es env).findIdx? (·.1)=none)
    (h:∀ h',Heap.ExtBut s.heap.objs.size s.heap h'→wpAny (model prog w) A (assignInOrder ((assignEach es env).map (·.2)) its.toList) Q E { s with heap:=h' }) :
    wpAny (model prog w) A (assign (.Tuple es k pos) env (.ref t)) Q E s:=by
  rw [assign_Tuple]
  refine wpAny_bind (wpAny_standAt ?_)
  unfold unpack
  rw [hn,hs]
  refine wpAny_bind (wpAny_holding ?_)
  have ne:t≠s.heap.objs.size:=by
    obtain ⟨o,e,_⟩:=ht
    exact Nat.ne_of_lt (Heap.lt_size e)
  unfold unpackItems
  refine wpAny_bind ?_
  unfold notIterableAtAll
  refine wpAny_bind (wpAny_specialOf ht.typeIs slot_list_iter.lookup ?_)
  refine wpAny_pure ?_
  simp only [Bool.false_eq_true,if_false]
  refine wpAny_bind (wpAny_holding (wpAny_pyIter_list ht ?_))
  refine wpAny_bind (wpAny_holding (xhs ne its.size 0 _ _ ⟨_,Heap.get?_push_size _ rfl,rfl,rfl⟩ (ht.push _) (by omega) fun h1 i1 s1=>?_))
  rw [show List.take its.size (List.drop 0 its.toList)=its.toList by rw [List.drop_zero]; exact List.take_of_length_le (by simp)]
  rw [if_neg (by simp)]
  have t1:h1.IsList t its:=(ht.push _).extBut s1.extBut ne
  refine wpAny_bind (wpAny_holding (wpAny_pyNext_list_end hh i1 t1 (by simp) fun h2 e2=>?_))
  simp only [Option.isSome_none,Bool.false_eq_true,if_false]
  exact wpAny_pure (h h2 fun b o hb e=>e2 b o hb (s1.extBut b o hb (Heap.get?_push_of_some _ e)))
end
section
variable {X:Cx} {pos:Pos}
def xrj (K:PySem.W.Frag) (n:Nat) (t:TGs):TG:=fun v σ H Q=>∃ a xs,v=.ref a∧SqL K H a xs∧xs.length=n∧t xs σ H Q
theorem xd5 {es:List Expr} {k:Nat} {t:TGs} {n:Nat} (hc:X.calm=true) (h:PGs X es t)
    (hn:(assignEach es X.env).length=n:=by rfl) (hst:(assignEach es X.env).findIdx? (·.1)=none:=by rfl):PG X (.Tuple es k pos) (xrj X.K n t):=by
  intro pins s σ H v u Q I r hw
  obtain ⟨a,xs,e1,hq,hl,hw⟩:=hw
  subst e1
  cases r
  obtain ⟨its,rv,pl,hz⟩:=I.list hq
  refine xfd (I.ok.hd hc) pl.isList (by simp [hn,← hl,rv.length]) hst fun h' hx=>?_
  have I1:Inv X pins σ H { s with heap:=h' }:=I.kept (t':=s.toks) fun b o e=>hx b o (Nat.ne_of_lt (Heap.lt_size e)) e
  exact h pins _ σ H xs _ Q I1 (by simpa using rv) hw
end
end XL
set_option maxRecDepth 100000
set_option maxHeartbeats 1000000
namespace L2
open PySem PySem.Spec PyProof.Rows XL PySem.W
section
variable {J:It} {n:Nat} {g:TG} {σ:St} {fr:List Nat} {tc:TT} {te:TE} {l:Addr} {H1:Hp} {Q:VK}
end
end L2
set_option maxRecDepth 100000
set_option maxHeartbeats 1000000
namespace L2
open PySem PySem.Spec PyProof.Rows XL PySem.W
section
variable {J:It} {n:Nat} {g:TG} {σ:St} {fr:List Nat} {tc:TT} {te:TE} {l:Addr} {H1:Hp} {Q:VK}
end
end L2
set_option maxRecDepth 100000
set_option maxHeartbeats 1000000
namespace L2
open PySem PySem.Spec PyProof.Rows XL PySem.W PySem.Builtin PySem.Builtin.Str
theorem xgy (x y:Str):(Txt.split x y).length≤x.length + 2:=by
 unfold Txt.split
 split
 ·exact Nat.le_add_left 1 (x.length + 1)
 ·split
  ·exact Nat.le_add_left 1 (x.length + 1)
  ·have:=StrLaws.occ_length_le x y 0 x.length (x.length + 1)
   rw [length_partsBetween]
   omega
theorem xgp:∀ (l:List (Str × Tok)),Vals ((l.map (·.1)).map V.str) (strValues l)
 | []=>.nil
 | (x,t) :: l=>.cons ⟨t,rfl⟩ (xgp l)
section
variable {prog:Program} {w:World} {A:Around} {E:Value→Shared→Prop} {s:Shared} {x y:Str} {t u:Tok} {Q:Value→Shared→Prop}
theorem xlr (hy:(y.length == 0)=false) (hz:x.length + 2≤sizeLine)
    (h:∀ (l:List (Str × Tok)) (k:Nat),l.map (·.1)=Txt.split x y→Q (.ref s.heap.objs.size) { s with heap:=s.heap.push { cls:=.type "list",data:=.seq (strValues l).toArray },toks:=k }) :
    wpAny (model prog w) A (call (.builtin "str.split") [.str x t,.str y u]) Q E s:=by
  have sl:=xgy x y
  have go:=fun {S:PySem.Spec}=>call_meets (prog:=prog) (w:=w) (A:=A) (E:=E) (s:=s) (S:=S) (Q:=Q) F.slot_str_split (typeIs_str s x t) F.entry_str_split (F.args_str_split_2 _ _) (rest:=[.str y u])
  by_cases c:(decide (x.length < y.length) || decide (strKind x < strKind y))=true
  · exact go (meets_str_split_cannot_occur x y t u c) (h [(x,t)] s.toks (by unfold Txt.split; rw [if_pos c]; rfl))
  · have c':=Bool.eq_false_iff.mpr c
    by_cases f:(occurrences x y 0 x.length (x.length + 1)).isEmpty=true
    · exact go (meets_str_split_not_found x y t u c' hy f) (h [(x,t)] s.toks (by unfold Txt.split; rw [if_neg c,if_pos f]; rfl))
    · have e:Txt.split x y=partsBetween x (occurrences x y 0 x.length (x.length + 1)) y.length:=by unfold Txt.split; rw [if_neg c,if_neg f]
      rw [e] at sl
      refine go (meets_str_split_sep x y t u c' hy (Bool.eq_false_iff.mpr f) (by omega) (by omega)) ?_
      have z:=h (numbered s.toks (Txt.split x y)) (s.toks + (Txt.split x y).length) (numbered_texts _ _)
      rw [← strsFrom_eq,e] at z
      exact z
end
section
variable {X:Cx}
theorem xie:MtR X "str.split" (fun x xs H Q=>∃ a b,x=.str a∧xs=[.str b]∧(b.length == 0)=false∧a.length + 2≤sizeLine∧∀ l,H l=none→Q (.ref l) (upd H l (.lst ((Txt.split a b).map V.str)))):=by
 intro pins s σ H x xs v us Q I rx rs h
 obtain ⟨a,b,rfl,rfl,hb,hz,q⟩:=h
 obtain ⟨t,rfl⟩:=rx
 obtain ⟨u,rfl,t',rfl⟩:=xci rs
 refine xlr hb hz fun l k e=>?_
 have sl:=xgy a b
 rw [← e] at q sl
 have new:xap X.prog X.w (upd H s.heap.objs.size (.lst ((l.map (·.1)).map V.str))) (s.heap.push { cls:=.type "list",data:=.seq (strValues l).toArray }) s.heap.objs.size (.lst ((l.map (·.1)).map V.str)):=⟨by rw [List.length_map]; omega,strValues l,0,xgp l,Heap.get?_push_size _ rfl⟩
 exact ⟨.ref s.heap.objs.size,_,I.laid (t':=k) (fun b o e=>Heap.get?_push_of_some _ e) (Nat.le_refl _) new,rfl,q _ (I.hok.fresh (Nat.le_refl _))⟩
theorem xg8:xb4 X (.type "int") (fun xs H Q=>∃ (x:Str) (n:Int),xs=[.str x]∧PySem.intText? x=some n∧x.length≤640∧Q (.int n) H):=by
 intro pins s σ H xs us Q I r h
 obtain ⟨x,n,rfl,e,hz,q⟩:=h
 obtain ⟨u,rfl,t,rfl⟩:=xci r
 exact KIN.call_text e hz ⟨.int n,H,I.tok _,⟨_,rfl⟩,q⟩
end
theorem xj2 {c:Nat}:∀ {a b X Y:List Nat},c ∉ a→c ∉ b→a ++ c :: X=b ++ c :: Y→a=b∧X=Y
 | [],[],X,Y,_,_,h=>⟨rfl,(List.cons.inj h).2⟩
 | [],z :: b,X,Y,_,hb,h=>absurd (List.cons.inj h).1 fun e=>hb (e ▸ List.mem_cons_self)
 | z :: a,[],X,Y,ha,_,h=>absurd (List.cons.inj h).1.symm fun e=>ha (e ▸ List.mem_cons_self)
 | z :: a,y :: b,X,Y,ha,hb,h=>by
  obtain ⟨e1,e2⟩:=List.cons.inj h
  obtain ⟨r1,r2⟩:=xj2 (fun m=>ha (List.mem_cons_of_mem _ m)) (fun m=>hb (List.mem_cons_of_mem _ m)) e2
  exact ⟨by rw [e1,r1],r2⟩
theorem xcr {a b:Str} (h:a.cps.toList=b.cps.toList):a=b:=by
 obtain ⟨a⟩:=a
 obtain ⟨b⟩:=b
 exact congrArg Str.mk (Array.toList_inj.mp h)
theorem xbx (c:Nat) (a b:Str) (r:List Str):(Str.join ⟨#[c]⟩ (a :: b :: r)).cps.toList=a.cps.toList ++ c :: (Str.join ⟨#[c]⟩ (b :: r)).cps.toList:=by
 show (a ++ (⟨#[c]⟩:Str) ++ Str.join ⟨#[c]⟩ (b :: r)).cps.toList=_
 show ((a.cps ++ #[c]) ++ (Str.join ⟨#[c]⟩ (b :: r)).cps).toList=_
 simp
theorem xhu {c:Nat}:∀ {ws vs:List Str},ws≠[]→vs≠[]→(∀ p ∈ ws,c ∉ p.cps.toList)→(∀ p ∈ vs,c ∉ p.cps.toList)→Str.join ⟨#[c]⟩ ws=Str.join ⟨#[c]⟩ vs→ws=vs
 | [],_,h,_,_,_,_=>absurd rfl h
 | _ :: _,[],_,h,_,_,_=>absurd rfl h
 | [a],[b],_,_,_,_,h=>by
  have e:a=b:=h
  rw [e]
 | [a],b :: b2 :: r,_,_,ha,_,h=>by
  have e:=congrArg (fun s:Str=>s.cps.toList) h
  change a.cps.toList=(Str.join ⟨#[c]⟩ (b :: b2 :: r)).cps.toList at e
  rw [xbx] at e
  exact absurd (by rw [e]; simp) (ha a List.mem_cons_self)
 | a :: a2 :: r,[b],_,_,_,hb,h=>by
  have e:=congrArg (fun s:Str=>s.cps.toList) h
  change (Str.join ⟨#[c]⟩ (a :: a2 :: r)).cps.toList=b.cps.toList at e
  rw [xbx] at e
  exact absurd (by rw [← e]; simp) (hb b List.mem_cons_self)
 | a :: a2 :: r,b :: b2 :: r',_,_,ha,hb,h=>by
  have e:=congrArg (fun s:Str=>s.cps.toList) h
  change (Str.join ⟨#[c]⟩ (a :: a2 :: r)).cps.toList=(Str.join ⟨#[c]⟩ (b :: b2 :: r')).cps.toList at e
  rw [xbx,xbx] at e
  obtain ⟨e1,e2⟩:=xj2 (ha a List.mem_cons_self) (hb b List.mem_cons_self) e
  rw [xcr e1,xhu (ws:=a2 :: r) (vs:=b2 :: r') (by simp) (by simp) (fun p hp=>ha p (List.mem_cons_of_mem _ hp)) (fun p hp=>hb p (List.mem_cons_of_mem _ hp)) (xcr e2)]
theorem xmq (x y:Str):Txt.split x y≠[]:=by
 unfold Txt.split
 split
 ·simp
 ·split
  ·simp
  ·intro e
   have:=congrArg List.length e
   rw [length_partsBetween] at this
   simp at this
theorem xf6 {c:Nat} {ws:List Str} (ne:ws≠[]) (free:∀ p ∈ ws,c ∉ p.cps.toList):Txt.split (Str.join ⟨#[c]⟩ ws) ⟨#[c]⟩=ws :=
 xhu (xmq _ _) ne (StrLaws.split_free _ _) free (StrLaws.join_split _ _)
end L2
set_option maxRecDepth 100000
set_option maxHeartbeats 1000000
namespace L2
open PySem PySem.Spec PyProof.Rows XL
open AutoSeq1 (wpAny_loadPart')
section
variable {prog:Program} {w:World} {A:Around} {E:Value→Shared→Prop} {s:Shared}
end
section
variable {prog:Program} {w:World} {A:Around} {E:Value→Shared→Prop} {s:Shared}
end
section
variable {prog:Program} {w:World} {K:Type} [DecidableEq K] {knd:KeyKind prog w K} {A:Around} {E:Value→Shared→Prop} {s:Shared}
end
section
variable {X:Cx} {elts:List Expr} {x1:_} {tpos:Pos}
end
section
variable {X:Cx} {o:Expr} {to:TE} {tg:Expr} {apos cpos:Pos}
end
end L2
set_option maxRecDepth 100000
set_option maxHeartbeats 1000000
namespace L2
open PySem PySem.Spec PyProof.Rows XL
section
variable {prog:Program} {w:World} {A:Around} {E:Value→Shared→Prop} {s:Shared}
end
section
variable {X:Cx}
end
end L2
set_option maxRecDepth 100000
set_option maxHeartbeats 1000000
namespace L2
open PySem PySem.Spec PyProof.Rows XL
section
variable {X:Cx} {o:Expr} {to:TE} {tg:Expr}
end
end L2
set_option maxRecDepth 100000
set_option maxHeartbeats 1000000
namespace L2
open PySem PySem.Spec PyProof.Rows XL
open AutoSeq1 (wpAny_loadPart')
section
variable {M:Model} {A:Around} {E:Value→Shared→Prop} {s:Shared} {env:Env}
theorem xfe {pos:Pos} {T:String} {first:List Value} {args:List (Bool × Sem Value)} {keywords:List (Option Str × Sem Value)} {Q:Value→Shared→Prop}
    (hplain:args.any (·.1)=false) (hkw:keywords.any (·.1.isNone)=false)
    (h:wpAny M A (evalArgs (.type T) true args keywords) (fun a s₁=>wpAny M A (call (.type T) (first ++ a.pos) a.kw) Q E s₁) E s) :
    wpAny M A (callWith pos (.type T) first args keywords) Q E s:=by
  unfold callWith
  refine wpAny_bind (wpAny_holding (wpAny_mono h (fun a s₁ h₁=>wpAny_bind (wpAny_standAt ?_)) fun _ _ x=>x))
  simp only [hplain,hkw,Bool.or_false]
  refine wpAny_bind (wpAny_pure ?_)
  exact wpAny_bind (wpAny_mono h₁ (fun r s₂ hr=>wpAny_bind (wpAny_holding (wpAny_point (wpAny_pure hr)))) fun _ _ x=>x)
theorem xht {pos:Pos} {T:String} {e:Expr} {rest:List Expr} {kws:List Keyword} {Q:Value→Shared→Prop}
    (h:wpAny M A (spliced (backTo pos (starEach (e :: rest) env))) (fun vs s₁=>wpAny M A (evalAll ((backToKw pos (keywordEach kws env)).map (·.2)))
      (fun kvs s₂=>wpAny M A (call (.type T) vs (((backToKw pos (keywordEach kws env)).filterMap (·.1)).zip kvs)) Q E s₂) E s₁) E s)
    (he:backTo pos (starEach (e :: rest) env)=(false,eval e env) :: backTo pos (starEach rest env):=by rfl)
    (hplain:(backTo pos (starEach (e :: rest) env)).any (·.1)=false:=by rfl)
    (hall:(backToKw pos (keywordEach kws env)).all (·.1.isSome)=true:=by rfl)
    (hkw:(backToKw pos (keywordEach kws env)).any (·.1.isNone)=false:=by rfl) :
    wpAny M A (callWith pos (.type T) [] (backTo pos (starEach (e :: rest) env)) (backToKw pos (keywordEach kws env))) Q E s:=by
  refine xfe hplain hkw ?_
  rw [he] at h ⊢
  exact evalArgs_kwB hall h
end
section
variable {prog:Program} {w:World} {A:Around} {E:Value→Shared→Prop} {s:Shared}
theorem xfc {T newId initId:String} {Bn Bi:Builtin} {args:List Value} {kw:List (Str × Value)} {S:PySem.Spec} {Q Q₁:Value→Shared→Prop} (ft:TypeCalled T newId initId)
    (hct:checkTypeCall T ⟨args,kw⟩=pure ()) (hcn:checkBuiltinCall newId ⟨.type T :: args,kw⟩=pure ())
    (entryN:entryFor table newId=some Bn) (entryI:entryFor table initId=some Bi) (g:Meets (Bn ⟨.type T :: args,kw⟩) S)
    (h:S A.in1 (wants Q₁ E) s)
    (hnext:∀ obj s₁,Q₁ obj s₁→s₁.TypeIs obj T∧argsOk initId ⟨obj :: args,kw⟩∧∃ Si,Meets (Bi ⟨obj :: args,kw⟩) Si∧Si A.in1 (wants (fun r s₂=>r=.none∧Q obj s₂) E) s₁) :
    wpAny (model prog w) A (call (.type T) args kw) Q E s:=by
  obtain ⟨c,tl,hmro⟩:=ft.mro
  have hmade:=ft.made
  have hsub:=ft.sub
  refine wpAny_call (codeAny_of_tree ?_)
  show wpAny _ _ (callAny (.type T) _) _ _ _
  refine wpAny_pure ⟨Code.quiet_builtin _ (by decide +kernel),codeAny_builtin F.entry_type_call ?_⟩
  rw [Around.under_plain (weight_type_call_type T args kw) (units_type_call_type T args kw)]
  have h1:=ft.notType
  have h2:=ft.canCreate
  repeat (any_goals (first | assumption | wp_step))
  refine codeAny_mono (codeAny_call_builtin ft.plain entryN (wpAny_of_eq hcn (g prog w A.in1 _ s h))) fun r s₁ hr=>?_
  cases r with
  | error e=>exact hr
  | ok fl =>
    cases fl with
    | ret obj =>
      obtain ⟨hT,hok,Si,gi,hsi⟩:=hnext _ _ hr
      have hli:=ft.init.lookup
      have hbi:=ft.init.bind obj
      repeat (any_goals (first | assumption | wp_step))
      refine codeAny_mono (codeAny_call_builtin ft.init.plain entryI (ft.init.check _ _ _ _ _ _ _ _ hT hok (gi prog w A.in1 _ s₁ hsi))) fun r₂ s₂ hr₂=>?_
      cases r₂ with
      | error e=>exact hr₂
      | ok fl₂ =>
        cases fl₂ with
        | ret r =>
          obtain ⟨rfl,hq⟩:=hr₂
          repeat (any_goals (first | assumption | wp_step))
        | _=>exact hr₂.elim
    | _=>exact hr.elim
end
theorem xed (l:Addr) (items:Array Value) (n:Nat) (dct:Option Addr) (sl:Array (Option Value)) (tc:Tok) :
    Meets (Builtin.«enumerate.__new__» ⟨[.type "enumerate",.ref l],[(Str.ofString "start",.int 1 tc)]⟩) (fun _ R s=>s.heap.get? l=some { cls:=.type "list",dict:=dct,data:=.seq items n,slots:=sl } ∧
      R (.ok (.ret (.ref (s.heap.push { cls:=.type "list_iterator",data:=.fields #[.ref l,.int 0 0] }).objs.size)))
        { s with heap:=(s.heap.push { cls:=.type "list_iterator",data:=.fields #[.ref l,.int 0 0] }).push { cls:=.type "enumerate",data:=.fields #[.none,.bool false,.ref s.heap.objs.size,rawInt 1,.none,.none] } }) :=
  .of_wp fun prog w A R s h=>by
    obtain ⟨hp,g,d,tk,os⟩:=s; obtain ⟨hl,h⟩:=h
    have hsub:=sub_enumerate
    have hL:Heap.IsList (Shared.heap ⟨hp,g,d,tk,os⟩) l items:=⟨_,hl,rfl,n,rfl⟩
    wp_walk using wpAny_loadPart' hl
    refine wpAny_stack_any fun st=>wpAny_pure ?_
    split
    · rename_i c _ _ _ _ _
      cases (c == Value.type "enumerate")
      · wp_walk using wpAny_loadPart' hl,wpAny_pyIter_list hL
        exact ⟨_,rfl,h⟩
      · wp_walk using wpAny_loadPart' hl,wpAny_pyIter_list hL
        exact ⟨_,rfl,h⟩
    · wp_walk using wpAny_loadPart' hl,wpAny_pyIter_list hL
      exact ⟨_,rfl,h⟩
section
variable {prog:Program} {w:World} {A:Around} {E:Value→Shared→Prop} {s:Shared}
theorem xjo {e it l:Addr} {i:Nat} {items:Array Value} {x old:Value} {Q:Value→Shared→Prop}
    (he:IsEnum s.heap e it ((i:Int) + 1) old) (hit:s.heap.IsListIter it l i) (hl:s.heap.IsList l items) (hx:items[i]?=some x) (hne:e≠it)
    (hQ:∀ h',IsEnumOut h' e it ((i:Int) + 1 + 1) x s.heap.objs.size→h'.IsListIter it l (i + 1) →
      h'.get? s.heap.objs.size=some { cls:=.type "tuple",data:=.seq #[.int ((i:Int) + 1) s.toks,x] }→h'.objs.size=s.heap.objs.size + 1 →
      (∀ b o,b≠e→b≠it→s.heap.get? b=some o→h'.get? b=some o)→Q (.ref s.heap.objs.size) { s with heap:=h',toks:=s.toks + 1 }) :
    wpAny (model prog w) A (Builtin.«enumerate.__next__» ⟨[.ref e],[]⟩) (fun fin s'=>∃ v,fin=.done (.ret v)∧Q v s') E s:=by
  obtain ⟨hp,g,d,tk,os⟩:=s
  show wpAny _ _ (field (.ref e) 2 >>= _) _ _ _
  refine wpAny_bind (wpAny_field he rfl (x:=.ref it) rfl ?_)
  refine wpAny_bind (wpAny_nextOf_list_item hit hl hx fun h₁ hit₁ hs₁=>?_)
  replace hs₁:Heap.SameBut it hp h₁:=hs₁
  have he₁:IsEnum h₁ e it ((i:Int) + 1) old:=(hs₁.2 e hne).trans he
  show wpAny _ _ (field (.ref e) 3 >>= _) _ _ ⟨h₁,g,d,tk,os⟩
  refine wpAny_bind (wpAny_field he₁ rfl (x:=rawInt ((i:Int) + 1)) rfl ?_)
  show wpAny _ _ (field (.ref e) 4 >>= _) _ _ ⟨h₁,g,d,tk,os⟩
  refine wpAny_bind (wpAny_field he₁ rfl (x:=.none) rfl ?_)
  show wpAny _ _ (mkInt ((i:Int) + 1) >>= _) _ _ ⟨h₁,g,d,tk,os⟩
  refine wpAny_bind (wpAny_mkInt ?_)
  show wpAny _ _ (setField (.ref e) 3 (rawInt ((i:Int) + 1 + 1)) >>= _) _ _ ⟨h₁,g,d,tk + 1,os⟩
  refine wpAny_bind (wpAny_setField_rec he₁ (by simp) fun h₂ he₂ hs₂=>?_)
  replace hs₂:Heap.SameBut e h₁ h₂:=hs₂
  replace he₂:IsEnum h₂ e it ((i:Int) + 1 + 1) old:=he₂
  show wpAny _ _ (setField (.ref e) 4 .none >>= _) _ _ ⟨h₂,g,d,tk + 1,os⟩
  refine wpAny_bind (wpAny_setField_rec he₂ (by simp) fun h₃ he₃ hs₃=>?_)
  replace hs₃:Heap.SameBut e h₂ h₃:=hs₃
  replace he₃:IsEnum h₃ e it ((i:Int) + 1 + 1) old:=he₃
  show wpAny _ _ (newTuple [.int ((i:Int) + 1) tk,x] >>= _) _ _ ⟨h₃,g,d,tk + 1,os⟩
  refine wpAny_bind (wpAny_newTuple ?_)
  have he₄:IsEnum (h₃.push { cls:=.type "tuple",data:=.seq #[.int ((i:Int) + 1) tk,x] }) e it ((i:Int) + 1 + 1) old:=Heap.get?_push_of_some _ he₃
  generalize hh₄:h₃.push { cls:=.type "tuple",data:=.seq #[.int ((i:Int) + 1) tk,x] }=h₄ at he₄
  have hsz:h₃.objs.size=hp.objs.size:=by rw [hs₃.1,hs₂.1,hs₁.1]
  have hel:e < hp.objs.size:=Heap.lt_size he
  have ht₄:h₄.get? hp.objs.size=some { cls:=.type "tuple",data:=.seq #[.int ((i:Int) + 1) tk,x] }:=by rw [← hh₄,← hsz]; exact Heap.get?_push_size _ rfl
  have hz₄:h₄.objs.size=hp.objs.size + 1:=by rw [← hh₄,Heap.size_push,hsz]
  have hk₄:∀ b o,b≠e→b≠it→hp.get? b=some o→h₄.get? b=some o:=fun b o hbe hbi hb=>by
    rw [← hh₄]; exact Heap.get?_push_of_some _ (hs₃.extBut b o hbe (hs₂.extBut b o hbe (hs₁.extBut b o hbi hb)))
  have hit₄:h₄.IsListIter it l (i + 1):=by
    rw [← hh₄]; obtain ⟨o,ho,r⟩:=(hit₁.extBut hs₂.extBut (Ne.symm hne)).extBut hs₃.extBut (Ne.symm hne); exact ⟨o,Heap.get?_push_of_some _ ho,r⟩
  show wpAny _ _ (Builtin.SmallTypes.ownedTupleIsFree (.ref e) >>= _) _ _ ⟨h₄,g,d,tk + 1,os⟩
  rw [hsz]
  clear hh₄ he₃ hs₃ he₂ hs₂ he₁ hs₁ hit₁ hsz h₃ h₂ h₁
  refine wpAny_bind ?_
  · unfold Builtin.SmallTypes.ownedTupleIsFree
    refine wpAny_bind (wpAny_field he₄ rfl (x:=.none) rfl (wpAny_pure ?_))
    simp only [if_true]
    refine wpAny_bind (wpAny_rule ?_)
    refine wpAny_bind (wpAny_field he₄ rfl (x:=old) rfl ?_)
    refine wpAny_bind (wpAny_setField_rec he₄ (by simp) fun h₅ he₅ hs₅=>?_)
    replace hs₅:Heap.SameBut e h₄ h₅:=hs₅
    replace he₅:IsEnum h₅ e it ((i:Int) + 1 + 1) x:=he₅
    show wpAny _ _ (Builtin.SmallTypes.ownedTupleHandOut (.ref e) (.ref hp.objs.size) >>= _) _ _ ⟨h₅,g,d,tk + 1,os⟩
    refine wpAny_bind ?_
    · unfold Builtin.SmallTypes.ownedTupleHandOut
      refine wpAny_bind (wpAny_setField_rec he₅ (by simp) fun h₆ he₆ hs₆=>?_)
      replace hs₆:Heap.SameBut e h₅ h₆:=hs₆
      replace he₆:IsEnumOut h₆ e it ((i:Int) + 1 + 1) x hp.objs.size:=he₆
      refine wpAny_setField_rec he₆ (by simp) fun h₇ he₇ hs₇=>?_
      replace hs₇:Heap.SameBut e h₆ h₇:=hs₇
      replace he₇:IsEnumOut h₇ e it ((i:Int) + 1 + 1) x hp.objs.size:=he₇
      refine wpAny_bind (wpAny_letGo (wpAny_pure ⟨_,rfl,hQ h₇ he₇ ?_ ?_ ?_ ?_⟩))
      · exact ((hit₄.extBut hs₅.extBut (Ne.symm hne)).extBut hs₆.extBut (Ne.symm hne)).extBut hs₇.extBut (Ne.symm hne)
      · exact hs₇.extBut _ _ (Nat.ne_of_gt hel) (hs₆.extBut _ _ (Nat.ne_of_gt hel) (hs₅.extBut _ _ (Nat.ne_of_gt hel) ht₄))
      · rw [hs₇.1,hs₆.1,hs₅.1,hz₄]
      · exact fun b o hbe hbi hb=>hs₇.extBut b o hbe (hs₆.extBut b o hbe (hs₅.extBut b o hbe (hk₄ b o hbe hbi hb)))
theorem xeg (a v:Value):checkTypeCall "enumerate" ⟨[a],[(Str.ofString "start",v)]⟩=pure ():=by kernel_rfl
theorem xeu (a v:Value):checkBuiltinCall "enumerate.__new__" ⟨[.type "enumerate",a],[(Str.ofString "start",v)]⟩=pure ():=by kernel_rfl
theorem xdu (a b v:Value):argsOk "object.__init__" ⟨[a,b],[(Str.ofString "start",v)]⟩:=by unfold argsOk; kernel_rfl
theorem xgn {T newId:String} {self a v:Value} (hl:typeLookup (.type T) "__init__"=pure (some (.builtin "object.__init__")))
    (hm:Bind.madeBy (.type T)=pure (some newId)) (hne:(some newId != some "object.__new__")=true) :
    Meets (Builtin.«object.__init__» ⟨[self,a],[(Str.ofString "start",v)]⟩) (fun _ R s=>s.TypeIs self T∧R (.ok (.ret .none)) s):=by
  refine Meets.of_wp fun prog w A R s hs=>?_
  obtain ⟨hT,hq⟩:=hs
  repeat (any_goals (first | assumption | wp_step))
  exact ⟨_,rfl,hq⟩
theorem xfs {l:Addr} {items:Array Value} {tc:Tok} {Q:Value→Shared→Prop} (hL:s.heap.IsList l items)
    (h:∀ h',IsEnum h' (s.heap.objs.size + 1) s.heap.objs.size 1 .none→h'.IsListIter s.heap.objs.size l 0→h'.objs.size=s.heap.objs.size + 2 →
      (∀ b o,s.heap.get? b=some o→h'.get? b=some o)→Q (.ref (s.heap.objs.size + 1)) { s with heap:=h' }) :
    wpAny (model prog w) A (call (.type "enumerate") [.ref l] [(Str.ofString "start",.int 1 tc)]) Q E s:=by
  obtain ⟨⟨c,dct,dt,sl⟩,hl,hc,n,hd⟩:=hL
  replace hc:c=.type "list":=hc
  replace hd:dt=.seq items n:=hd
  subst hc hd
  refine xfc F.called_enumerate (xeg _ _) (xeu _ _) F.entry_enumerate_new F.entry_object_init (xed l items n dct sl tc) (Q₁:=fun obj s₁=>s₁.TypeIs obj "enumerate"∧Q obj s₁) ⟨hl,?_⟩ fun obj _ hq =>
    ⟨hq.1,xdu obj _ _,_,xgn F.called_enumerate.init.lookup F.called_enumerate.made (by decide),hq.1,rfl,hq.2⟩
  have hz:(s.heap.push { cls:=.type "list_iterator",data:=.fields #[.ref l,.int 0 0] }).objs.size=s.heap.objs.size + 1:=Heap.size_push ..
  show _∧_
  rw [hz]
  have he:IsEnum ((s.heap.push { cls:=.type "list_iterator",data:=.fields #[.ref l,.int 0 0] }).push
      { cls:=.type "enumerate",data:=.fields #[.none,.bool false,.ref s.heap.objs.size,rawInt 1,.none,.none] }) (s.heap.objs.size + 1) s.heap.objs.size 1 .none:=by
    have:=Heap.get?_push_size (s.heap.push { cls:=.type "list_iterator",data:=.fields #[.ref l,.int 0 0] })
      (o:={ cls:=.type "enumerate",data:=.fields #[.none,.bool false,.ref s.heap.objs.size,rawInt 1,.none,.none] }) rfl
    rw [hz] at this; exact this
  refine ⟨⟨_,he,rfl⟩,h _ he ⟨_,Heap.get?_push_of_some _ (Heap.get?_push_size _ rfl),rfl,rfl⟩ (by rw [Heap.size_push,hz]) fun b o x=>Heap.get?_push_of_some _ (Heap.get?_push_of_some _ x)⟩
end
end L2
set_option maxRecDepth 100000
set_option maxHeartbeats 1000000
namespace L2
open PySem PySem.Spec PyProof.Rows XL
def Ite1 (K:PySem.W.Frag) (a:Addr):It :=
 ⟨fun i H=>∃ xs x,SqL K H a xs∧xs[i]?=some x,fun i H v H'=>∃ p x,(∀ xs,SqL K H a xs→xs[i]?=some x)∧v=.ref p∧H p=none∧H'=upd H p (.tup [.int ((i:Int) + 1),x]),fun i H=>∃ xs,SqL K H a xs∧xs.length≤i⟩
theorem xjw {P:Program} {w:World} {K:PySem.W.Frag} {elts:List Expr} {x1} {tpos:Pos} (e it l:Addr) (hei:e≠it) :
    Turn P w K (.Tuple elts x1 tpos) (Ite1 K l) [e,it] e (fun i h=>(∃ old,IsEnum h e it ((i:Int) + 1) old)∧h.IsListIter it l i) where
  mem:=by simp
  obj:=fun i h st b hb=>by
    obtain ⟨⟨old,he⟩,⟨o1,e1,c1,d1⟩⟩:=st
    simp only [List.mem_cons,List.not_mem_nil,or_false] at hb
    rcases hb with rfl | rfl
    · exact ⟨_,he,fun v k=>by have k':Data.fields _=Data.cell v:=k; cases k'⟩
    · exact ⟨_,e1,fun v k=>by rw [d1] at k; cases k⟩
  keep:=fun i h h' ⟨⟨old,he⟩,h1⟩ k=>⟨⟨old,k e (by simp) _ he⟩,h1.at fun o z=>k it (by simp) o z⟩
  item:=by
    intro X hP hw hK hc i pins s σ H E I hf st hg
    subst hP hw hK
    obtain ⟨xs,x,hq,hx⟩:=hg
    obtain ⟨its,rv,p,hz1⟩:=I.list hq
    obtain ⟨u,hu,ru⟩:=rv.get hx
    obtain ⟨⟨old,he⟩,h1⟩:=id st
    have hTy:s.TypeIs (.ref e) "enumerate":=⟨_,he,rfl⟩
    unfold pyNext
    refine wpAny_bind (wpAny_attempt (wpAny_callSpecial?_slot (name:=Str.ofString "__next__") hTy F.slot_enumerate_next
      (wpAny_call_entry F.slot_enumerate_next hTy F.entry_enumerate_next
        (xjo he h1 p.isList (x:=u) (by simpa using hu) hei fun h' ho hit' hT hsz hk=>wpAny_pure ?_) (F.args_enumerate_next_1 _))))
    refine ⟨_,rfl,wpAny_letOwnedTupleGo_enum (s:={ s with heap:=h',toks:=s.toks + 1 }) ho fun h'' he' hs'=>?_⟩
    have elt:e < s.heap.objs.size:=Heap.lt_size he
    have pne:s.heap.objs.size≠e:=Nat.ne_of_gt elt
    have kk:∀ b o,b ∉ [e,it]→s.heap.get? b=some o→h''.get? b=some o:=fun b o hb g=>by
      simp only [List.mem_cons,List.not_mem_nil,or_false,not_or] at hb
      exact (hs'.2 b hb.1).trans (hk b o hb.1 hb.2 g)
    have I1:Inv X pins σ H { s with heap:=h'',toks:=s.toks + 1 }:=I.turnedL kk hf
    obtain ⟨n0,nL,nC,nP⟩:=I.size_lt (Nat.le_refl s.heap.objs.size)
    have hp:h''.get? s.heap.objs.size=some { cls:=.type "tuple",data:=.seq #[.int ((i:Int) + 1) s.toks,u] }:=(hs'.2 _ pne).trans hT
    refine ⟨.ref s.heap.objs.size,upd H s.heap.objs.size (.tup [.int ((i:Int) + 1),x]),I1.adopt n0 I.sz nL nC nP ⟨by show 2≤sizeLine; decide,[.int ((i:Int) + 1) s.toks,u],.cons ⟨_,rfl⟩ (.cons ru .nil),_,hp,rfl,_,rfl⟩,rfl,
      ⟨_,x,fun zs hz=>by rw [I.list_inj hz hq]; exact hx,rfl,n0,rfl⟩,?_,fun b hb=>?_⟩
    · exact ⟨⟨_,by simpa using he'⟩,hit'.at fun o y=>(hs'.2 it (Ne.symm hei)).trans y⟩
    · obtain ⟨o,ho⟩:∃ o,s.heap.get? b=some o:=by
        obtain ⟨o1,e1,c1,d1⟩:=h1
        simp only [List.mem_cons,List.not_mem_nil,or_false] at hb
        rcases hb with rfl | rfl
        · exact ⟨_,he⟩
        · exact ⟨_,e1⟩
      rw [xj (Nat.ne_of_lt (Heap.lt_size ho))]
      exact (hf b hb).1
  done:=by
    intro X hP hw hK hc i pins s σ H E I hf st hg
    subst hP hw hK
    obtain ⟨xs,hq,hl⟩:=hg
    obtain ⟨its,rv,p,hz1⟩:=I.list hq
    have e1:=rv.length
    obtain ⟨⟨old,he⟩,h1⟩:=id st
    have fin:∀ h',Heap.ExtBut it s.heap h'→(none:Option Value)=none∧Inv X pins σ H { s with heap:=h' }:=fun h' hx=>⟨rfl,I.turnedL (t':=s.toks) (fun b o hb g=>by
      simp only [List.mem_cons,List.not_mem_nil,or_false,not_or] at hb
      exact hx b o hb.2 g) hf⟩
    have hTy:s.TypeIs (.ref e) "enumerate":=⟨_,he,rfl⟩
    unfold pyNext
    refine wpAny_bind (wpAny_attempt (wpAny_callSpecial?_slot (name:=Str.ofString "__next__") hTy F.slot_enumerate_next
      (wpAny_call_entry F.slot_enumerate_next hTy F.entry_enumerate_next ?_ (F.args_enumerate_next_1 _))))
    show wpAny _ _ (field (.ref e) 2 >>= _) _ _ _
    refine wpAny_bind (wpAny_field he rfl (x:=.ref it) rfl ?_)
    refine wpAny_bind (wpAny_nextOf_list_end (I.ok.hd hc) h1 p.isList (by simp; omega) fun h' x he' hx'=>?_)
    obtain ⟨o,ho,hc⟩:=hx'
    refine wpAny_bind (wpAny_isInstance (T:="StopIteration") (b:=true) ⟨o,ho,hc⟩ isSubtype_stop ?_)
    exact wpAny_pure (fin _ he')
  self:=fun _ _ _ _ _ ⟨⟨_,st⟩,_⟩ h=>wpAny_pyIter_enum st h
def xp8 (K:PySem.W.Frag) (ta:TA) (tk:TE):TI:=fun σ H R=>ta σ H fun vs H1=>tk σ H1 fun k H2=>∃ a xs,vs=[.ref a]∧k=.int 1∧SqL K H2 a xs∧R (Ite1 K a) H2
section
variable {X:Cx} {elts:List Expr} {x1:_} {tpos:Pos}
theorem xme {a k:Expr} {ta:TA} {tk:TE} {p pos kp:Pos} (hg:Gl X "enumerate") (hm:X.mg "enumerate"=none) (ha:PA X [a] ta) (hk:PE X k tk) (hs:starEach [a] X.env=[(false,eval a X.env)]:=by rfl) :
    PI X (.Tuple elts x1 tpos) (.Call (.Name "enumerate" p) [a] [⟨some "start",k,kp⟩] pos) (xp8 X.K ta tk):=by
  intro pins s σ H R I h
  refine wpAny_Call_Name_kw (xdb I hg hm PyProof.Rows.Boot.«enumerate» (xht (thn (ha pos pins s σ H _ I h) fun us s1 ⟨vs,H1,I1,r1,q1⟩=>?_) (by rw [hs]; rfl) (by rw [hs]; rfl)))
  refine kws_cons (thn (hk pins s1 σ H1 _ I1 q1) fun u2 s2 ⟨x2,H2,I2,r2,q2⟩=>kws_nil ?_)
  obtain ⟨l,xs,e,e2,hq,q⟩:=q2
  subst e
  subst e2
  obtain ⟨u,rfl,ru⟩:=xci r1
  obtain rfl:u=Value.ref l:=ru
  obtain ⟨tk2,rfl⟩:=r2
  obtain ⟨its,rv,p1,hz1⟩:=I2.list hq
  refine xfs p1.isList fun h' he h1 hsz hk'=>?_
  refine wpAny_pyIter_enum (s:={ s2 with heap:=h' }) he ?_
  have I3:Inv X pins σ H2 { s2 with heap:=h' }:=I2.kept (t':=s2.toks) hk'
  refine ⟨_,[s2.heap.objs.size + 1,s2.heap.objs.size],_,_,H2,rfl,I3,xjw _ _ l (xb5 (by omega)),⟨⟨_,he⟩,h1⟩,fun b hb=>?_,q⟩
  have hb':s2.heap.objs.size≤b:=by
    simp only [List.mem_cons,List.not_mem_nil,or_false] at hb
    rcases hb with rfl | rfl
    · exact Nat.le_add_right _ 1
    · exact Nat.le_refl _
  exact I2.fpOk hb' (I2.hok.fresh hb')
end
theorem xk5 {K:PySem.W.Frag} {a:Addr} {xs:List V} {g:TG} {tb:TS} {D:Ends} {σ:St} {H:Hp} (Pv:Nat→St→Hp→Prop) (h0:Pv 0 σ H) (hl:∀ i σ H,i≤xs.length→Pv i σ H→SqL K H a xs)
    (hs:∀ i x p σ H,xs[i]?=some x→H p=none→Pv i σ H→g (.ref p) σ (upd H p (.tup [.int ((i:Int) + 1),x])) fun σ2 H2=>tb { D with nx:=Pv (i + 1),ct:=Pv (i + 1),bk:=D.nx } σ2 H2) (hd:∀ σ H,Pv xs.length σ H→D.nx σ H) :
    ∃ W:Nat→Nat→St→Hp→Prop,(∃ m,W 0 m σ H)∧∀ i m σ H,W i m σ H →
      ((Ite1 K a).stop i H∧D.nx σ H)∨((Ite1 K a).go i H∧∃ N:St→Hp→Prop,(∀ σ' H',N σ' H'→∃ m',m' < m∧W (i + 1) m' σ' H')∧∀ x H',(Ite1 K a).yld i H x H'→g x σ H' fun σ2 H2=>tb { D with nx:=N,ct:=N,bk:=D.nx } σ2 H2):=by
  refine ⟨fun i m σ H=>m=xs.length - i∧i≤xs.length∧Pv i σ H,⟨xs.length,by simp,Nat.zero_le _,h0⟩,?_⟩
  rintro i m σ H ⟨rfl,hi,p⟩
  have q:=hl i σ H hi p
  by_cases hlt:i < xs.length
  · refine .inr ⟨⟨xs,xs[i],q,by simp [hlt]⟩,Pv (i + 1),fun σ' H' p'=>⟨xs.length - (i + 1),by omega,rfl,hlt,p'⟩,fun x H' y=>?_⟩
    obtain ⟨r,x',e1,rfl,hr,rfl⟩:=y
    exact hs i x' r σ H (e1 _ q) hr p
  · have e:i=xs.length:=by omega
    subst e
    exact .inl ⟨⟨xs,q,Nat.le_refl _⟩,hd σ H p⟩
end L2
set_option maxRecDepth 100000
set_option maxHeartbeats 1000000
namespace L2
open PySem PySem.Spec PyProof.Rows XL
def numT (n:Nat):Str:=Str.ofString (toString (n:Int))
def xha (n:Nat):Bool:=(numT n).cps.toList.all (fun c=>decide (48≤c) && decide (c≤57)) && (decide ((numT n).length=1) || (decide ((numT n).length=2) && !decide ((numT n).cps.toList.head?=some 48))) && decide (PySem.intText? (numT n)=some (n:Int))
theorem xez:∀ n,n < 100→xha n=true:=by decide +kernel
theorem xfh {n:Nat} (h:n < 100):∀ c ∈ (numT n).cps.toList,48≤c∧c≤57:=by
 have z:=xez n h
 unfold xha at z
 rw [Bool.and_eq_true,Bool.and_eq_true,List.all_eq_true] at z
 intro c hc
 have:=z.1.1 c hc
 rw [Bool.and_eq_true] at this
 exact ⟨of_decide_eq_true this.1,of_decide_eq_true this.2⟩
theorem xhv {n:Nat} (h:n < 100):PySem.intText? (numT n)=some (n:Int):=by
 have z:=xez n h
 unfold xha at z
 rw [Bool.and_eq_true] at z
 exact of_decide_eq_true z.2
theorem xd6 {n:Nat} (h:n < 100):(numT n).length=1∨((numT n).length=2∧(numT n).cps.toList.head?≠some 48):=by
 have z:=xez n h
 unfold xha at z
 rw [Bool.and_eq_true,Bool.and_eq_true] at z
 have y:=z.1.2
 rw [Bool.or_eq_true,Bool.and_eq_true] at y
 rcases y with y | ⟨y1,y2⟩
 ·exact .inl (of_decide_eq_true y)
 ·refine .inr ⟨of_decide_eq_true y1,?_⟩
  simpa using y2
theorem xb8 {n c:Nat} (h:n < 100) (hc:c < 48):c ∉ (numT n).cps.toList:=fun m=>by
 have:=xfh h c m
 omega
end L2
set_option maxRecDepth 100000
set_option maxHeartbeats 1000000
namespace L2
open PySem PySem.Spec PyProof.Rows XL PySem.W PySem.Builtin PySem.Builtin.Str
section
variable {J:It} {n:Nat} {g:TG} {σ:St} {fr:List Nat} {tc:TT} {te:TE} {l:Addr} {H1:Hp} {Q:VK}
theorem xjc {K:PySem.W.Frag} {a:Addr} {xs:List V} (hs:SqL K H1 a xs) (hlen:xs.length < sizeLine) (hl:H1 l=none) (F:Nat→List V→Hp→Prop) (F0:∀ H,Same H1 H→F 0 [] H) (stab:∀ i ys zs H H',H l=some (.lst zs)→(∀ b u,b≠l→H b=some u→H' b=some u)→F i ys H→F i ys H')
    (step:∀ (i:Nat) (x:V) (ys:List V) H2,xs[i]?=some x→Same H1 H2→H2 l=some (.lst ys)→F i ys H2→∀ (N:V→Hp→Prop),(∀ y H',Same H2 H'→F (i + 1) (ys ++ [y]) H'→N y H')→g x (blk0 σ fr n) H2 fun σ' H3=>te σ' H3 N)
    (fin:∀ ys H2,Same H1 H2→H2 l=some (.lst ys)→ys.length=xs.length→F xs.length ys H2→Q (.ref l) H2):xcv (Itl K a) n g σ fr xdn te l H1 Q:=by
  refine xct xs.length (fun i ys H2=>Same H1 H2∧H2 l=some (.lst ys)∧ys.length=i∧F i ys H2) ?_ ?_ ?_ ?_
  · have s0:Same H1 (upd H1 l (.lst [])):=fun b u e=>by
      rw [xj (xm e hl)]
      exact e
    exact ⟨s0,xf,rfl,F0 _ s0⟩
  · rintro i ys H2 lt ⟨s,_⟩
    exact ⟨xs,xs[i],Same.seqL s hs,List.getElem?_eq_getElem lt⟩
  · rintro i ys H2 v H3 lt ⟨s,el,ly,f⟩ ⟨rfl,yv⟩ N hN
    have hv:=yv xs (Same.seqL s hs)
    refine xec (i:=i) (step i v ys H3 hv s el f _ fun y H' s' f'=>?_)
    have el':=s' _ _ el
    refine ⟨el',by omega,hN _ _ ⟨fun b u e=>?_,xf,by simp [ly],stab _ _ _ _ _ el' (fun b u nb e=>?_) f'⟩⟩
    · rw [xj (xm e hl)]
      exact s' _ _ (s _ _ e)
    · rw [xj nb]
      exact e
  · rintro ys H2 ⟨s,el,ly,f⟩
    exact ⟨⟨xs,Same.seqL s hs,Nat.le_refl _⟩,fin ys H2 s el ly f⟩
end
theorem xbg (a b:Str):(a ++ b).cps.toList=a.cps.toList ++ b.cps.toList:=by
 show (a.cps ++ b.cps).toList=_
 simp
theorem xmr (c:Nat) (a:Str):Str.join ⟨#[c]⟩ [a]=a:=rfl
theorem xbq {c:Nat} {w:Str}:∀ {ws:List Str},ws≠[]→Str.join ⟨#[c]⟩ ws ++ (⟨#[c]⟩:Str) ++ w=Str.join ⟨#[c]⟩ (ws ++ [w])
 | [],h=>absurd rfl h
 | [a],_=>by
  apply xcr
  rw [xbg,xbg]
  show _=(Str.join ⟨#[c]⟩ (a :: w :: [])).cps.toList
  rw [xbx]
  simp [xmr]
 | a :: b :: r,_=>by
  have ih:=congrArg (fun s:Str=>s.cps.toList) (xbq (c:=c) (w:=w) (ws:=b :: r) (by simp))
  change (Str.join ⟨#[c]⟩ (b :: r) ++ (⟨#[c]⟩:Str) ++ w).cps.toList=(Str.join ⟨#[c]⟩ (b :: (r ++ [w]))).cps.toList at ih
  rw [xbg,xbg] at ih
  apply xcr
  show _=(Str.join ⟨#[c]⟩ (a :: b :: (r ++ [w]))).cps.toList
  rw [xbg,xbg,xbx,xbx,← ih]
  simp
theorem xb1 (a:Str):a.length=a.cps.toList.length:=by simp [Str.length]
theorem xdc {c k:Nat}:∀ {ws:List Str},(∀ p ∈ ws,p.length≤k)→(Str.join ⟨#[c]⟩ ws).length≤ws.length * (k + 1)
 | [],_=>by show (Str.join ⟨#[c]⟩ []).length≤0 * (k + 1); rw [Nat.zero_mul]; exact Nat.le_of_eq rfl
 | [a],h=>by
  have:=h a List.mem_cons_self
  show a.length≤1 * (k + 1)
  omega
 | a :: b :: r,h=>by
  have h1:=h a List.mem_cons_self
  have ih:=xdc (c:=c) (k:=k) (ws:=b :: r) fun p hp=>h p (List.mem_cons_of_mem _ hp)
  rw [xb1] at h1 ih
  rw [xb1,xbx,List.length_append,List.length_cons,List.length_cons,Nat.succ_mul]
  omega
end L2
set_option maxRecDepth 100000
set_option maxHeartbeats 1000000
namespace L2
open PySem PySem.Spec PyProof.Rows XL PySem.W PySem.Builtin PySem.Builtin.Str
theorem xh5 (s k:Nat):∀ (ws:List Str) (a:Nat),(∀ w ∈ ws,w.length≤k)→ws.foldl (fun n w=>n + w.length + s) a≤a + ws.length * (k + s)
 | [],a,_=>by simp
 | w :: ws,a,h=>by
  have h1:=h w List.mem_cons_self
  have ih:=xh5 s k ws (a + w.length + s) fun v hv=>h v (List.mem_cons_of_mem _ hv)
  rw [List.foldl_cons,List.length_cons,Nat.succ_mul]
  omega
theorem xi9:∀ {ws:List Str} {its:List Value},Vals (ws.map V.str) its→∃ l:List (Str × Tok),its=strValues l∧l.map (·.1)=ws
 | [],_,.nil=>⟨[],rfl,rfl⟩
 | w :: ws,_,.cons r rs=>by
  obtain ⟨t,rfl⟩:=r
  obtain ⟨l,e1,e2⟩:=xi9 rs
  exact ⟨(w,t) :: l,by rw [e1]; rfl,by rw [← e2]; rfl⟩
theorem xet {sep:Str} {k:Nat}:∀ {ws:List Str},(∀ p ∈ ws,p.length≤k)→(Str.join sep ws).length≤ws.length * (k + sep.length)
 | [],_=>by show (Str.join sep []).length≤0 * (k + sep.length); rw [Nat.zero_mul]; exact Nat.le_of_eq rfl
 | [a],h=>by
  have:=h a List.mem_cons_self
  show a.length≤1 * (k + sep.length)
  omega
 | a :: b :: r,h=>by
  have h1:=h a List.mem_cons_self
  have ih:=xet (sep:=sep) (k:=k) (ws:=b :: r) fun p hp=>h p (List.mem_cons_of_mem _ hp)
  have e:(Str.join sep (a :: b :: r)).length=a.length + sep.length + (Str.join sep (b :: r)).length:=by
   show (a ++ sep ++ Str.join sep (b :: r)).length=_
   rw [xb1,xbg,xbg,List.length_append,List.length_append,← xb1,← xb1,← xb1]
  rw [e,List.length_cons,Nat.succ_mul]
  omega
def xrk:V→List V→Hp→VK→Prop:=fun x xs H Q=>∃ (sep:Str) (l:Addr) (ws:List Str) (k:Nat),x=.str sep∧xs=[.ref l]∧H l=some (.lst (ws.map V.str))∧(∀ w ∈ ws,w.length≤k)∧ws.length * (k + sep.length)≤sizeLine∧Q (.str (Str.join sep ws)) H
section
variable {X:Cx}
theorem xgm:MtR X "str.join" xrk:=by
 intro pins s σ H x xs v us Q I rx rs h
 obtain ⟨sep,l,ws,k,rfl,rfl,hl,hk,hz,q⟩:=h
 obtain ⟨t,rfl⟩:=rx
 obtain ⟨u,rfl,ru⟩:=xci rs
 obtain rfl:u=Value.ref l:=ru
 obtain ⟨_,its,n,vs,e⟩:=I.hok _ _ hl
 obtain ⟨ps,rfl,rfl⟩:=xi9 vs
 have fl:=xh5 sep.length k (ps.map (·.1)) 0 hk
 have hl2:tooLong ((ps.map (·.1)).toArray.foldl (· + ·.length + sep.length) 0)=false:=by
  unfold tooLong
  rw [List.foldl_toArray]
  exact decide_eq_false (by omega)
 refine call_meets F.slot_str_join (typeIs_str s sep t) F.entry_str_join (F.args_str_join_2 _ _) (meets_str_join_list sep t l ps hl2) ⟨⟨_,e,rfl,n,rfl⟩,?_⟩
 have jz:=xet (sep:=sep) hk
 have jl:(glued sep (ps.map (·.1))).length≤sizeLine:=by
  rw [StrLaws.glued_eq_join]
  exact Nat.le_trans jz hz
 rw [← StrLaws.glued_eq_join] at q
 match ps,jl,q with
 | [],jl,q=>exact ⟨jl,.str _,H,I.tok _,⟨_,rfl⟩,q⟩
 | [p],jl,q =>
  rw [StrLaws.glued_eq_join] at q
  exact ⟨.str p.1,H,I,⟨_,rfl⟩,q⟩
 | p :: p2 :: r,jl,q=>exact ⟨jl,.str _,H,I.tok _,⟨_,rfl⟩,q⟩
end
end L2
namespace L2
open PySem PySem.Spec PyProof.Rows XL PySem.W
def gOr (g1 g2:TG):TG:=fun v σ H Q=>g1 v σ H Q∨g2 v σ H Q
theorem xnb {X:Cx} {tg:Expr} {g1 g2:TG} (h1:PG X tg g1) (h2:PG X tg g2):PG X tg (gOr g1 g2):=by
 intro pins s σ H v u Q I r h
 rcases h with h | h
 ·exact h1 pins s σ H v u Q I r h
 ·exact h2 pins s σ H v u Q I r h
end L2
set_option maxRecDepth 100000
set_option maxHeartbeats 1000000
namespace L2
open PySem PySem.Spec PyProof.Rows XL PySem.W
def TF:=St→Hp→Str→(Str→Hp→Prop)→Prop
def xrl:TF:=fun σ H out Q=>Q out H
def tfC (x:Str) (t:TF):TF:=fun σ H out Q=>(out ++ x).length≤sizeLine∧t σ H (out ++ x) Q
def tfE (te:TE) (t:TF):TF:=fun σ H out Q=>te σ H fun v H1=>∃ x:Str,((v=.str x∧x.length≤sizeLine)∨∃ i:Int,v=.int i∧i.natAbs.log2 < 1920∧x=toString i)∧(out ++ x).length≤sizeLine∧t σ H1 (out ++ x) Q
section
variable {X:Cx}
def PF (X:Cx) (es:List Expr) (t:TF):Prop:=∀ (pins:List (Addr × Obj)) (s:Shared) (σ:St) (H:Hp) (out:Str) (Q:Str→Hp→Prop),Inv X pins σ H s→out.length≤sizeLine→t σ H out Q→wpAny (model X.prog X.w) X.A (joinParts out (evalEach es X.env)) (EP X pins σ fun v H'=>∃ x,v=.str x∧Q x H') X.xe s
theorem xer:PF X [] xrl:=fun pins s σ H out Q I hz h=>joinParts_nil ⟨.str out,H,I.tok _,⟨_,rfl⟩,out,rfl,h⟩ hz
theorem xa3 {x:Str} {j} {pos:Pos} {es:List Expr} {t:TF} (h:PF X es t):PF X (.Constant (.str x) j pos :: es) (tfC x t):=by
 intro pins s σ H out Q I hz ⟨hl,q⟩
 show wpAny _ _ (joinParts out (eval (.Constant (.str x) j pos) X.env :: evalEach es X.env)) _ _ s
 exact joinParts_cons (Calls.Constant_str ⟨hl,h pins _ σ H _ Q (I.tok _) hl q⟩)
theorem xbj {e:Expr} {pos:Pos} {es:List Expr} {te:TE} {t:TF} (he:PE X e te) (h:PF X es t):PF X (.FormattedValue e (-1) none pos :: es) (tfE te t):=by
 intro pins s σ H out Q I hz q
 show wpAny _ _ (joinParts out (eval (.FormattedValue e (-1) none pos) X.env :: evalEach es X.env)) _ _ s
 refine joinParts_cons (FormattedValue_plain (thn (he pins s σ H _ I q) fun v s1 ⟨y,H1,I1,r1,x,hx,hl,q1⟩=>?_))
 rcases hx with ⟨rfl,xl⟩ | ⟨i,rfl,hi,rfl⟩
 ·obtain ⟨t1,rfl⟩:=r1
  exact formatField_str (fun t' tk=>⟨hl,h pins _ σ H1 _ Q (I1.tok _) hl q1⟩) xl
 ·obtain ⟨t1,rfl⟩:=r1
  exact formatField_int_small hi ⟨hl,h pins _ σ H1 _ Q (I1.tok _) hl q1⟩
theorem xd2 {v1 v2:Expr} {rest:List Expr} {pos:Pos} {t:TF} (h:PF X (v1 :: v2 :: rest) t):PE X (.JoinedStr (v1 :: v2 :: rest) pos) (fun σ H Q=>t σ H Str.empty fun x H'=>Q (.str x) H'):=by
 intro pins s σ H Q I q
 refine JoinedStr_many (thn (h pins s σ H Str.empty _ I (by decide) q) fun v s1 ⟨y,H1,I1,r1,x,e,q1⟩=>⟨y,H1,I1,r1,?_⟩)
 rw [e]
 exact q1
end
end L2
namespace L2
open PySem PySem.Spec PyProof.Rows XL PySem.W
section
variable {X:Cx}
def sgnL (x:Str):List V:=x.cps.toList.map fun c=>V.str ⟨#[c]⟩
theorem xg6 (hc:X.calm=true):xb4 X (.type "list") (fun xs H Q=>∃ x:Str,xs=[.str x]∧x.length≤1000∧∀ l,H l=none→Q (.ref l) (upd H l (.lst (sgnL x)))):=by
 intro pins s σ H xs us Q I r h
 obtain ⟨x,rfl,hn,q⟩:=h
 obtain ⟨u,rfl,t,rfl⟩:=xci r
 refine PySem.call_list_str (I.ok.hd hc) x t (fun h' tk acc' c' kp e it=>?_) (Nat.le_trans hn (by decide))
 have len:acc'.toList.length=(sgnL x).length:=by
  rw [sgnL,List.length_map]
  have:=it.1
  simpa using this
 refine ⟨.ref s.heap.objs.size,_,I.laid (t':=tk) kp (Nat.le_refl _) (show xap X.prog X.w _ h' _ (.lst (sgnL x)) from ⟨?_,acc'.toList,c',xge len fun j y u ey eu=>?_,by simpa using e⟩),rfl,q _ (I.hok.fresh (Nat.le_refl _))⟩
 ·rw [sgnL,List.length_map]
  have:x.cps.toList.length=x.length:=by simp [Str.length]
  exact Nat.le_trans (by omega:_≤1000) (by decide)
 ·have eu':acc'[j]?=some u:=by simpa using eu
  obtain ⟨c,t2,e1,e2⟩:=it.2 j u eu'
  rw [sgnL,List.getElem?_map,Array.getElem?_toList,e1] at ey
  cases ey
  exact ⟨t2,e2⟩
end
end L2
set_option maxRecDepth 100000
set_option maxHeartbeats 1000000
namespace L2
open PySem PySem.Spec PyProof.Rows XL PySem.W
section
variable {J:It} {n:Nat} {g:TG} {σ:St} {fr:List Nat} {tc:TT} {te:TE} {l:Addr} {H1:Hp} {Q:VK} {α:Type}
theorem xdl {K:PySem.W.Frag} {a:Addr} {as:List α} {f gv:α→V} {q:α→Bool} (hs:SqL K H1 a (as.map f)) (hlen:as.length < sizeLine) (hl:H1 l=none)
    (step:∀ (i:Nat) (x:α) (H2:Hp),as[i]?=some x→Same H1 H2→∀ (N:V→Hp→Prop) (M:Hp→Prop),(∀ H',Same H2 H'→q x=true→N (gv x) H')→(∀ H',Same H2 H'→q x=false→M H') →
      g (f x) (blk0 σ fr n) H2 fun σ' H3=>tc σ' H3 fun b H4=>if b=true then te σ' H4 N else M H4)
    (fin:∀ H2,Same H1 H2→H2 l=some (.lst ((as.filter q).map gv))→Q (.ref l) H2):xcv (Itl K a) n g σ fr tc te l H1 Q:=by
  refine xf0 hs (by rw [List.length_map]; exact hlen) hl (fun i=>((as[i]?).map q).getD false) (fun i y _=>∃ x,as[i]?=some x∧y=gv x) (fun _ _ _ _ _ z=>z) (fun i z H2 hz s2 N M hN hM=>?_) (fun ys H2 s2 el ly fy=>?_)
  · rw [List.getElem?_map] at hz
    obtain ⟨x,hx,rfl⟩:=Option.map_eq_some_iff.mp hz
    refine step i x H2 hx s2 N M (fun H' s e=>hN _ _ s (by rw [hx]; exact e) ⟨x,hx,rfl⟩) (fun H' s e=>hM _ s (by rw [hx]; exact e))
  · rw [List.length_map] at ly fy
    obtain ⟨i1,i2⟩:=xox q (as:=as) (p:=fun i=>((as[i]?).map q).getD false) fun i x hx=>by rw [hx]; rfl
    have ey:ys=(as.filter q).map gv:=by
      apply List.ext_getElem?
      intro j
      rcases Nat.lt_or_ge j ys.length with lt | ge
      · have e1:=List.getElem?_eq_getElem lt
        have lt2:j < ((List.range as.length).filter fun i=>((as[i]?).map q).getD false).length:=by rw [← ly]; exact lt
        have e2:=List.getElem?_eq_getElem lt2
        obtain ⟨x,hx,ex⟩:=fy j _ _ e1 e2
        rw [e1,ex,List.getElem?_map,← i2 j _ e2,hx]
        rfl
      · rw [List.getElem?_eq_none ge,List.getElem?_eq_none (by rw [List.length_map,← i1,← ly]; exact ge)]
    rw [ey] at el
    exact fin H2 s2 el
theorem xj0 {β:Type} {K:PySem.W.Frag} {a1 a2:Addr} {as:List α} {bs:List β} {f1:α→V} {f2:β→V} {gv:α→β→V} (h1:SqL K H1 a1 (as.map f1)) (h2:SqL K H1 a2 (bs.map f2)) (el:as.length=bs.length) (hlen:as.length < sizeLine) (hl:H1 l=none)
    (step:∀ (i:Nat) (x:α) (y:β) (p:Addr) (H2:Hp),as[i]?=some x→bs[i]?=some y→Same H1 H2→H2 p=none→∀ (N:V→Hp→Prop),(∀ H',Same (upd H2 p (.tup [f1 x,f2 y])) H'→N (gv x y) H')→g (.ref p) (blk0 σ fr n) (upd H2 p (.tup [f1 x,f2 y])) fun σ' H3=>te σ' H3 N)
    (fin:∀ H2,Same H1 H2→H2 l=some (.lst ((as.zip bs).map fun p=>gv p.1 p.2))→Q (.ref l) H2):xcv (Itz K a1 a2) n g σ fr xdn te l H1 Q:=by
  have zl:(as.zip bs).length=as.length:=by rw [List.length_zip,← el,Nat.min_self]
  refine xct as.length (fun i ys H2=>Same H1 H2∧H2 l=some (.lst ys)∧ys=((as.zip bs).take i).map fun p=>gv p.1 p.2) ?_ ?_ ?_ ?_
  · exact ⟨fun b u e=>by rw [xj (xm e hl)]; exact e,xf,rfl⟩
  · rintro i ys H2 lt ⟨s,_⟩
    have lt2:i < bs.length:=by omega
    exact ⟨_,_,f1 as[i],f2 bs[i],Same.seqL s h1,Same.seqL s h2,by rw [List.getElem?_map,List.getElem?_eq_getElem lt]; rfl,by rw [List.getElem?_map,List.getElem?_eq_getElem lt2]; rfl⟩
  · rintro i ys H2 v H3 lt ⟨s,e,rfl⟩ ⟨p,x,y,ex,ey,rfl,hp,rfl⟩ N hN
    have lt2:i < bs.length:=by omega
    have ex:=ex _ (Same.seqL s h1)
    have ey:=ey _ (Same.seqL s h2)
    rw [List.getElem?_map,List.getElem?_eq_getElem lt] at ex
    rw [List.getElem?_map,List.getElem?_eq_getElem lt2] at ey
    cases ex
    cases ey
    refine xec (i:=i) (step i _ _ p H2 (List.getElem?_eq_getElem lt) (List.getElem?_eq_getElem lt2) s hp _ fun H' s'=>?_)
    have e1:upd H2 p (.tup [f1 as[i],f2 bs[i]]) l=some (.lst (((as.zip bs).take i).map fun p=>gv p.1 p.2)):=by
      rw [xj (xm e hp)]
      exact e
    have e':=s' _ _ e1
    refine ⟨e',?_,hN _ _ ⟨fun b u z=>?_,xf,?_⟩⟩
    · rw [List.length_map,List.length_take]
      omega
    · rw [xj (xm z hl)]
      refine s' _ _ ?_
      have z2:=s _ _ z
      rw [xj (xm z2 hp)]
      exact z2
    · have lz:i < (as.zip bs).length:=by omega
      rw [List.take_succ,List.getElem?_eq_getElem lz,List.map_append,List.getElem_zip]
      rfl
  · rintro ys H2 ⟨s,e,rfl⟩
    refine ⟨⟨_,_,Same.seqL s h1,Same.seqL s h2,.inl (by rw [List.length_map]; exact Nat.le_refl _)⟩,fin H2 s ?_⟩
    rw [e,← zl,List.take_length]
end
end L2
namespace Geo
def dn (y r:Int):Int:=if y < r then 1 else -1
def upN (y r:Int):Nat:=if y < r then (r - y).toNat else (y - r).toNat
def wayI (b:Bool):Int:=if b then -1 else 1
def lvN (w x:Int) (b:Bool):Nat:=if b then (x + 1).toNat else (w + 2 - x).toNat
def upL (x y r:Int):List (Int × Int):=(List.range (upN y r)).map fun (i:Nat)=>(x,y + (i:Int) * dn y r)
def lvL (w x:Int) (b:Bool) (r:Int):List (Int × Int):=(List.range (lvN w x b)).map fun (i:Nat)=>(x + (i:Int) * wayI b,r)
def cells (w x y:Int) (b:Bool) (r:Int):List (Int × Int):=upL x y r ++ lvL w x b r
def btw (v a b:Int):Prop:=min a b≤v∧v≤max a b
instance (v a b:Int):Decidable (btw v a b):=inferInstanceAs (Decidable (_∧_))
end Geo
namespace Runs
def firsts (R:List Nat):List Nat:=R.filter fun r=>!decide (r - 1 ∈ R)
def lasts (R:List Nat):List Nat:=R.filter fun r=>!decide (r + 1 ∈ R)
def step (acc:List (Nat × Nat)) (x:Nat):List (Nat × Nat):=match acc.getLast? with
 | some p=>if p.2 + 1=x then acc.dropLast ++ [(p.1,x)] else acc ++ [(x,x)]
 | none=>acc ++ [(x,x)]
def runs (R:List Nat):List (Nat × Nat):=R.foldl step []
def rng (p:Nat × Nat):List Nat:=(List.range (p.2 + 1 - p.1)).map (p.1 + ·)
def Inc (R:List Nat):Prop:=R.Pairwise (· < ·)∧∀ r ∈ R,1≤r
theorem snocRec {α:Type} {P:List α→Prop} (h0:P []) (hs:∀ R x,P R→P (R ++ [x])):∀ R,P R:=fun R=>by
 have h:∀ S:List α,P S.reverse:=fun S=>by
  induction S with
  | nil=>exact h0
  | cons x S ih=>rw [List.reverse_cons]; exact hs _ _ ih
 have:=h R.reverse
 rwa [List.reverse_reverse] at this
theorem runs_snoc (R:List Nat) (x:Nat):runs (R ++ [x])=step (runs R) x:=by
 unfold runs
 rw [List.foldl_append]
 rfl
theorem xi8 (x:Nat):rng (x,x)=[x]:=by
 unfold rng
 rw [show (x,x).2 + 1 - (x,x).1=1 by show x + 1 - x=1; omega]
 simp
theorem xl5 {a m:Nat} (h:a≤m):rng (a,m + 1)=rng (a,m) ++ [m + 1]:=by
 unfold rng
 show (List.range (m + 1 + 1 - a)).map (a + ·)=(List.range (m + 1 - a)).map (a + ·) ++ [m + 1]
 rw [show m + 1 + 1 - a=(m + 1 - a) + 1 by omega,List.range_succ,List.map_append]
 congr 1
 show [a + (m + 1 - a)]=[m + 1]
 rw [show a + (m + 1 - a)=m + 1 by omega]
structure Ok (R:List Nat) (F L:List Nat) (a m:Nat):Prop where
 mem:∀ r ∈ R,r≤m
 last:m ∈ R
 fs:firsts R=F ++ [a]
 ls:lasts R=L ++ [m]
 len:F.length=L.length
 rn:runs R=F.zip L ++ [(a,m)]
 le:a≤m
 fl:(runs R).flatMap rng=R
 all:∀ p ∈ runs R,p.1≤p.2∧p.1 ∈ R∧p.2 ∈ R
 lr:(runs R).length≤R.length
theorem main:∀ R:List Nat,Inc R→R=[]∨∃ F L a m,Ok R F L a m:=by
 refine snocRec (fun _=>.inl rfl) fun R x ih inc=>.inr ?_
 obtain ⟨pw,pos⟩:=inc
 rw [List.pairwise_append] at pw
 have x1:1≤x:=pos x (by simp)
 have lt:∀ r ∈ R,r < x:=fun r hr=>pw.2.2 r hr x (by simp)
 have incR:Inc R:=⟨pw.1,fun r hr=>pos r (List.mem_append_left _ hr)⟩
 have fsx:firsts (R ++ [x])=firsts R ++ (if x - 1 ∈ R then [] else [x]):=by
  unfold firsts
  rw [List.filter_append]
  congr 1
  ·refine List.filter_congr fun r hr=>?_
   have:=lt r hr
   have e:(r - 1 ∈ R ++ [x]) ↔ r - 1 ∈ R:=by
    rw [List.mem_append,List.mem_singleton]
    constructor
    ·rintro (z | z)
     ·exact z
     ·omega
    ·exact .inl
   simp only [e]
  ·have e:(x - 1 ∈ R ++ [x]) ↔ x - 1 ∈ R:=by
    rw [List.mem_append,List.mem_singleton]
    constructor
    ·rintro (z | z)
     ·exact z
     ·omega
    ·exact .inl
   by_cases c:x - 1 ∈ R
   ·rw [if_pos c,List.filter_cons_of_neg (by simp [e,c])]
    rfl
   ·rw [if_neg c,List.filter_cons_of_pos (by simp [e,c])]
    rfl
 rcases ih incR with rfl | ⟨F,L,a,m,o⟩
 ·refine ⟨[],[],x,x,⟨fun r hr=>by simp at hr; omega,by simp,?_,?_,rfl,?_,Nat.le_refl _,?_,?_,by simp [runs,step]⟩⟩
  ·rw [fsx]
   simp [firsts]
  ·simp [lasts]
  ·rfl
  ·show [(x,x)].flatMap rng=[x]
   rw [List.flatMap_singleton,xi8]
  ·intro p hp
   have:p=(x,x):=by
    change p ∈ [(x,x)] at hp
    simpa using hp
   rw [this]
   simp
 have mx:=lt m o.last
 have mem1:x - 1 ∈ R ↔ x=m + 1:=by
  constructor
  ·intro z
   have:=o.mem _ z
   omega
  ·intro z
   rw [show x - 1=m by omega]
   exact o.last
 have gl:(runs R).getLast?=some (a,m):=by rw [o.rn]; simp
 by_cases c:x=m + 1
 ·have rs:runs (R ++ [x])=F.zip L ++ [(a,x)]:=by
   rw [runs_snoc]
   unfold step
   rw [gl]
   dsimp only
   rw [if_pos c.symm,o.rn,List.dropLast_concat]
  have nodm:∀ r ∈ L,r < m:=by
   intro r hr
   have z:r ∈ lasts R:=by rw [o.ls]; exact List.mem_append_left _ hr
   have pz:(lasts R).Pairwise (· < ·):=incR.1.filter _
   rw [o.ls,List.pairwise_append] at pz
   exact pz.2.2 r hr m (by simp)
  refine ⟨F,L,a,x,⟨fun r hr=>?_,by simp,?_,?_,o.len,rs,by have:=o.le; omega,?_,?_,?_⟩⟩
  ·rcases List.mem_append.mp hr with z | z
   ·have:=lt r z; omega
   ·simp at z; omega
  ·rw [fsx,if_pos (mem1.mpr c),List.append_nil,o.fs]
  ·unfold lasts
   rw [List.filter_append]
   congr 1
   ·have e2:(R.filter fun r=>!decide (r + 1 ∈ R ++ [x]))=(lasts R).filter fun r=>!decide (r + 1=x):=by
     unfold lasts
     rw [List.filter_filter]
     refine List.filter_congr fun r hr=>?_
     by_cases d1:r + 1 ∈ R <;> by_cases d2:r + 1=x <;> simp [d1,d2]
    rw [e2,o.ls,List.filter_append]
    have l1:(L.filter fun r=>!decide (r + 1=x))=L:=List.filter_eq_self.mpr fun r hr=>by
     have:=nodm r hr
     simp
     omega
    rw [l1,List.filter_cons_of_neg (by simp [c])]
    simp
   ·rw [List.filter_cons_of_pos]
    ·rfl
    ·have:x + 1 ∉ R ++ [x]:=fun z=>by
      rcases List.mem_append.mp z with y | y
      ·have:=lt _ y; omega
      ·simp at y
     simp [this]
  ·rw [rs,List.flatMap_append,List.flatMap_singleton,c,xl5 o.le]
   have:=o.fl
   rw [o.rn,List.flatMap_append,List.flatMap_singleton] at this
   rw [← List.append_assoc,this]
  ·intro p hp
   rw [rs] at hp
   rcases List.mem_append.mp hp with z | z
   ·have:=o.all p (by rw [o.rn]; exact List.mem_append_left _ z)
    exact ⟨this.1,List.mem_append_left _ this.2.1,List.mem_append_left _ this.2.2⟩
   ·have e:p=(a,x):=by simpa using z
    have:=o.all (a,m) (by rw [o.rn]; simp)
    rw [e]
    exact ⟨by have:=o.le; show a≤x; omega,List.mem_append_left _ this.2.1,by simp⟩
  ·have:=o.lr
   rw [o.rn] at this
   rw [rs]
   simp only [List.length_append,List.length_singleton] at this ⊢
   omega
 ·have nm:x - 1 ∉ R:=fun z=>c (mem1.mp z)
  have rs:runs (R ++ [x])=runs R ++ [(x,x)]:=by
   rw [runs_snoc]
   unfold step
   rw [gl]
   dsimp only
   rw [if_neg (fun z=>c z.symm)]
  refine ⟨F ++ [a],L ++ [m],x,x,⟨fun r hr=>?_,by simp,?_,?_,by simp [o.len],?_,Nat.le_refl _,?_,?_,?_⟩⟩
  ·rcases List.mem_append.mp hr with z | z
   ·have:=lt r z; omega
   ·simp at z; omega
  ·rw [fsx,if_neg nm,o.fs]
  ·unfold lasts
   rw [List.filter_append]
   congr 1
   ·rw [← o.ls]
    unfold lasts
    refine List.filter_congr fun r hr=>?_
    have hm:=o.mem r hr
    have e:(r + 1 ∈ R ++ [x]) ↔ r + 1 ∈ R:=by
     rw [List.mem_append,List.mem_singleton]
     constructor
     ·rintro (z | z)
      ·exact z
      ·exfalso; omega
     ·exact .inl
    simp only [e]
   ·rw [List.filter_cons_of_pos]
    ·rfl
    ·have:x + 1 ∉ R ++ [x]:=fun z=>by
      rcases List.mem_append.mp z with y | y
      ·have:=lt _ y; omega
      ·simp at y
     simp [this]
  ·rw [rs,o.rn,List.zip_append o.len]
   rfl
  ·rw [rs,List.flatMap_append,List.flatMap_singleton,o.fl,xi8]
  ·intro p hp
   rw [rs] at hp
   rcases List.mem_append.mp hp with z | z
   ·have:=o.all p z
    exact ⟨this.1,List.mem_append_left _ this.2.1,List.mem_append_left _ this.2.2⟩
   ·have e:p=(x,x):=by simpa using z
    rw [e]
    simp
  ·have:=o.lr
   rw [rs]
   simp only [List.length_append,List.length_singleton] at this ⊢
   omega
theorem runs_zip {R:List Nat} (h:Inc R):(firsts R).zip (lasts R)=runs R∧(firsts R).length=(lasts R).length:=by
 rcases main R h with rfl | ⟨F,L,a,m,o⟩
 ·exact ⟨rfl,rfl⟩
 ·rw [o.fs,o.ls,o.rn,List.zip_append o.len]
  exact ⟨rfl,by simp [o.len]⟩
theorem runs_flat {R:List Nat} (h:Inc R):(runs R).flatMap rng=R:=by
 rcases main R h with rfl | ⟨F,L,a,m,o⟩
 ·rfl
 ·exact o.fl
theorem runs_all {R:List Nat} (h:Inc R):∀ p ∈ runs R,p.1≤p.2∧p.1 ∈ R∧p.2 ∈ R:=by
 rcases main R h with rfl | ⟨F,L,a,m,o⟩
 ·intro p hp
  cases hp
 ·exact o.all
theorem runs_len {R:List Nat} (h:Inc R):(runs R).length≤R.length:=by
 rcases main R h with rfl | ⟨F,L,a,m,o⟩
 ·exact Nat.le_refl _
 ·exact o.lr
end Runs
set_option maxRecDepth 100000
set_option maxHeartbeats 4000000
namespace S25
open PySem L2 XL
def top (i:Nat):Stmt:=PySem.Challenge.pw_rimnotes_k25_whole_any_lines_read.main.body.getD i (.Pass ⟨0,0,0,0⟩)
abbrev s_w:Stmt:=xcd (top 17) 0
abbrev s_aq:Stmt:=top 20
abbrev s_r:Stmt:=top 22
abbrev s_ar:Stmt:=top 23
abbrev s_n:Stmt:=xcd (top 29) 0
abbrev s_f:Stmt:=xcd (top 29) 1
abbrev s_d:Stmt:=xcd (top 29) 4
abbrev s_e:Stmt:=xcd (top 29) 6
abbrev s_h:Stmt:=xcd (top 29) 7
abbrev s_b:Stmt:=xcd (top 29) 16
abbrev s_a:Stmt:=xcd (top 29) 17
abbrev s_c:Stmt:=xcd (top 29) 18
abbrev s_p:Stmt:=top 31
abbrev s_am:Stmt:=top 32
abbrev s_af:Stmt:=top 33
abbrev s_al:Stmt:=top 34
abbrev s_ak:Stmt:=top 35
abbrev s_an:Stmt:=top 36
abbrev s_t:Stmt:=top 37
abbrev s_l:Stmt:=top 38
abbrev s_aa:Stmt:=top 39
abbrev s_ac:Stmt:=top 41
abbrev s_ai:Stmt:=top 42
abbrev s_ad:Stmt:=top 43
abbrev s_q:Stmt:=top 44
abbrev s_j:Stmt:=top 46
abbrev s_s:Stmt:=top 47
abbrev s_x:Stmt:=top 48
abbrev s_o:Stmt:=top 49
abbrev s_ae:Stmt:=top 50
abbrev s_z:Stmt:=top 51
abbrev s_ag:Stmt:=top 52
abbrev s_u:Stmt:=top 53
abbrev s_y:Stmt:=top 54
abbrev s_ah:Stmt:=top 55
abbrev s_ab:Stmt:=top 56
abbrev s_m:Stmt:=top 57
abbrev s_g:Stmt:=top 58
abbrev s_i:Stmt:=top 59
abbrev s_v:Stmt:=top 60
abbrev xdk:Stmt:=top 61
set_option genInjectivity false in
set_option genSizeOf false in
structure Adr where
 f_w:Addr
 d_w:FuncData
 f_aq:Addr
 d_aq:FuncData
 f_r:Addr
 d_r:FuncData
 f_ar:Addr
 d_ar:FuncData
 f_n:Addr
 d_n:FuncData
 f_f:Addr
 d_f:FuncData
 T_f:Addr
 f_d:Addr
 d_d:FuncData
 f_e:Addr
 d_e:FuncData
 f_h:Addr
 d_h:FuncData
 f_b:Addr
 d_b:FuncData
 f_a:Addr
 d_a:FuncData
 f_c:Addr
 d_c:FuncData
 f_p:Addr
 d_p:FuncData
 f_am:Addr
 d_am:FuncData
 f_af:Addr
 d_af:FuncData
 f_al:Addr
 d_al:FuncData
 f_ak:Addr
 d_ak:FuncData
 f_an:Addr
 d_an:FuncData
 f_t:Addr
 d_t:FuncData
 f_l:Addr
 d_l:FuncData
 f_aa:Addr
 d_aa:FuncData
 f_ac:Addr
 d_ac:FuncData
 f_ai:Addr
 d_ai:FuncData
 f_ad:Addr
 d_ad:FuncData
 f_q:Addr
 d_q:FuncData
 f_j:Addr
 d_j:FuncData
 f_s:Addr
 d_s:FuncData
 f_x:Addr
 d_x:FuncData
 f_o:Addr
 d_o:FuncData
 f_ae:Addr
 d_ae:FuncData
 f_z:Addr
 d_z:FuncData
 f_ag:Addr
 d_ag:FuncData
 f_u:Addr
 d_u:FuncData
 f_y:Addr
 d_y:FuncData
 f_ah:Addr
 d_ah:FuncData
 f_ab:Addr
 d_ab:FuncData
 f_m:Addr
 d_m:FuncData
 f_g:Addr
 d_g:FuncData
 f_i:Addr
 d_i:FuncData
 f_v:Addr
 d_v:FuncData
 f_law:Addr
 d_law:FuncData
 C_as:Addr
 C_ao:Addr
 C_aj:Addr
 C_k:Addr
 D_ap:Addr
structure Txt (w:World) (K:PySem.W.Frag) (mg:Str→Option Value) (t:Adr):Prop where
 g_as:mg "Side"=some (.ref t.C_as)
 g_ao:mg "LeftSide"=some (.ref t.C_ao)
 g_aj:mg "RightSide"=some (.ref t.C_aj)
 g_k:mg "Picture"=some (.ref t.C_k)
 F_w:Fun K "__init__" "Side.__init__" s_w t.f_w t.d_w
 b_w:xae K t.d_w ["self", "width"] []
 g_aq:mg "side_of"=some (.ref t.f_aq)
 F_aq:Fun K "side_of" "side_of" s_aq t.f_aq t.d_aq
 b_aq:xae K t.d_aq ["word", "width"] []
 g_r:mg "is_whole"=some (.ref t.f_r)
 F_r:Fun K "is_whole" "is_whole" s_r t.f_r t.d_r
 b_r:xae K t.d_r ["thing", "low", "high"] []
 g_ar:mg "is_name"=some (.ref t.f_ar)
 F_ar:Fun K "is_name" "is_name" s_ar t.f_ar t.d_ar
 b_ar:xae K t.d_ar ["thing"] []
 F_n:Fun K "__init__" "Picture.__init__" s_n t.f_n t.d_n
 b_n:xae K t.d_n ["self", "width", "height"] []
 F_f:FunD K "put" "Picture.put" s_f t.T_f t.f_f t.d_f
 b_f:xae K t.d_f ["self", "name", "x", "y", "sides", "low", "high"] []
 F_d:Fun K "open_seat" "Picture.open_seat" s_d t.f_d t.d_d
 b_d:xae K t.d_d ["self", "side", "row"] []
 F_e:Fun K "points" "Picture.points" s_e t.f_e t.d_e
 b_e:xae K t.d_e ["self"] []
 F_h:Fun K "seats" "Picture.seats" s_h t.f_h t.d_h
 b_h:xae K t.d_h ["self"] []
 F_b:Fun K "check_cell" "Picture.check_cell" s_b t.f_b t.d_b
 b_b:xae K t.d_b ["self", "x", "y"] []
 F_a:Fun K "check_lines" "Picture.check_lines" s_a t.f_a t.d_a
 b_a:xae K t.d_a ["self", "name", "x", "y"] []
 F_c:Fun K "check_seat" "Picture.check_seat" s_c t.f_c t.d_c
 b_c:xae K t.d_c ["self", "side", "row"] []
 g_p:mg "picture_of"=some (.ref t.f_p)
 F_p:Fun K "picture_of" "picture_of" s_p t.f_p t.d_p
 b_p:xae K t.d_p ["lines"] []
 g_am:mg "do_line"=some (.ref t.f_am)
 F_am:Fun K "do_line" "do_line" s_am t.f_am t.d_am
 b_am:xae K t.d_am ["picture", "number", "words"] []
 g_af:mg "words_of"=some (.ref t.f_af)
 F_af:Fun K "words_of" "words_of" s_af t.f_af t.d_af
 b_af:xae K t.d_af ["line"] []
 g_al:mg "frame_of"=some (.ref t.f_al)
 F_al:Fun K "frame_of" "frame_of" s_al t.f_al t.d_al
 b_al:xae K t.d_al ["words"] []
 g_ak:mg "rows_of"=some (.ref t.f_ak)
 F_ak:Fun K "rows_of" "rows_of" s_ak t.f_ak t.d_ak
 b_ak:xae K t.d_ak ["words"] []
 g_an:mg "span_of"=some (.ref t.f_an)
 F_an:Fun K "span_of" "span_of" s_an t.f_an t.d_an
 b_an:xae K t.d_an ["word"] []
 g_t:mg "point_of"=some (.ref t.f_t)
 F_t:Fun K "point_of" "point_of" s_t t.f_t t.d_t
 b_t:xae K t.d_t ["words"] []
 g_l:mg "numbers_of"=some (.ref t.f_l)
 F_l:Fun K "numbers_of" "numbers_of" s_l t.f_l t.d_l
 b_l:xae K t.d_l ["words"] []
 g_aa:mg "number_of"=some (.ref t.f_aa)
 F_aa:Fun K "number_of" "number_of" s_aa t.f_aa t.d_aa
 b_aa:xae K t.d_aa ["word"] []
 g_ac:mg "lines_of"=some (.ref t.f_ac)
 F_ac:Fun K "lines_of" "lines_of" s_ac t.f_ac t.d_ac
 b_ac:xae K t.d_ac ["picture"] []
 g_ai:mg "spans_of"=some (.ref t.f_ai)
 F_ai:Fun K "spans_of" "spans_of" s_ai t.f_ai t.d_ai
 b_ai:xae K t.d_ai ["rows"] []
 g_ad:mg "span_word"=some (.ref t.f_ad)
 F_ad:Fun K "span_word" "span_word" s_ad t.f_ad t.d_ad
 b_ad:xae K t.d_ad ["first", "last"] []
 g_q:mg "point_line"=some (.ref t.f_q)
 F_q:Fun K "point_line" "point_line" s_q t.f_q t.d_q
 b_q:xae K t.d_q ["point", "height"] []
 g_j:mg "_law_cell"=some (.ref t.f_j)
 F_j:Fun K "_law_cell" "_law_cell" s_j t.f_j t.d_j
 b_j:xae K t.d_j ["_law_script", "_law_k"] []
 g_s:mg "_law_mix"=some (.ref t.f_s)
 F_s:Fun K "_law_mix" "_law_mix" s_s t.f_s t.d_s
 b_s:xae K t.d_s ["_law_cell_here", "_law_k"] []
 g_x:mg "_law_whole"=some (.ref t.f_x)
 F_x:Fun K "_law_whole" "_law_whole" s_x t.f_x t.d_x
 b_x:xae K t.d_x ["_law_found"] []
 g_o:mg "_law_unlike"=some (.ref t.f_o)
 F_o:Fun K "_law_unlike" "_law_unlike" s_o t.f_o t.d_o
 b_o:xae K t.d_o ["_law_cell_here", "_law_many", "_law_some"] []
 g_ae:mg "_law_open"=some (.ref t.f_ae)
 F_ae:Fun K "_law_open" "_law_open" s_ae t.f_ae t.d_ae
 b_ae:xae K t.d_ae ["_law_cell_here", "_law_height"] []
 g_z:mg "_law_dots"=some (.ref t.f_z)
 F_z:Fun K "_law_dots" "_law_dots" s_z t.f_z t.d_z
 b_z:xae K t.d_z ["_law_script", "_law_start", "_law_width", "_law_height"] []
 g_ag:mg "_law_runs"=some (.ref t.f_ag)
 F_ag:Fun K "_law_runs" "_law_runs" s_ag t.f_ag t.d_ag
 b_ag:xae K t.d_ag ["_law_rows"] []
 g_u:mg "_law_lines"=some (.ref t.f_u)
 F_u:Fun K "_law_lines" "_law_lines" s_u t.f_u t.d_u
 b_u:xae K t.d_u ["_law_width", "_law_height", "_law_rims", "_law_dots_here"] []
 g_y:mg "_law_seats"=some (.ref t.f_y)
 F_y:Fun K "_law_seats" "_law_seats" s_y t.f_y t.d_y
 b_y:xae K t.d_y ["_law_rims"] []
 g_ah:mg "_law_same"=some (.ref t.f_ah)
 F_ah:Fun K "_law_same" "_law_same" s_ah t.f_ah t.d_ah
 b_ah:xae K t.d_ah ["_law_picture", "_law_width", "_law_height", "_law_rims", "_law_dots_here"] []
 g_ab:mg "_law_texts"=some (.ref t.f_ab)
 F_ab:Fun K "_law_texts" "_law_texts" s_ab t.f_ab t.d_ab
 b_ab:xae K t.d_ab ["_law_found", "_law_due"] []
 g_m:mg "_law_pieces"=some (.ref t.f_m)
 F_m:Fun K "_law_pieces" "_law_pieces" s_m t.f_m t.d_m
 b_m:xae K t.d_m ["_law_rows", "_law_cell_here"] []
 g_g:mg "_law_rim_lines"=some (.ref t.f_g)
 F_g:Fun K "_law_rim_lines" "_law_rim_lines" s_g t.f_g t.d_g
 b_g:xae K t.d_g ["_law_side", "_law_words", "_law_cell_here"] []
 g_i:mg "_law_dot_line"=some (.ref t.f_i)
 F_i:Fun K "_law_dot_line" "_law_dot_line" s_i t.f_i t.d_i
 b_i:xae K t.d_i ["_law_dot", "_law_height", "_law_cell_here"] []
 g_v:mg "_law_woven"=some (.ref t.f_v)
 F_v:Fun K "_law_woven" "_law_woven" s_v t.f_v t.d_v
 b_v:xae K t.d_v ["_law_one", "_law_other", "_law_cell_here"] []
 g_law:mg "law"=some (.ref t.f_law)
 F_law:Fun K "law" "law" xdk t.f_law t.d_law
 b_law:xae K t.d_law ["_law_script"] []
 c_as:Cls K t.C_as
 ca_as:PySem.W.findIn K (.ref t.C_as) "__class__"=some (some (.builtin "object.__class__"))
 mo_as:PySem.W.mroIn K t.C_as (.type "object")=some true
 k_as:Mk K t.C_as t.f_w
 c_ao:Cls K t.C_ao
 ca_ao:PySem.W.findIn K (.ref t.C_ao) "__class__"=some (some (.builtin "object.__class__"))
 mo_ao:PySem.W.mroIn K t.C_ao (.type "object")=some true
 k_ao:Mk K t.C_ao t.f_w
 c_aj:Cls K t.C_aj
 ca_aj:PySem.W.findIn K (.ref t.C_aj) "__class__"=some (some (.builtin "object.__class__"))
 mo_aj:PySem.W.mroIn K t.C_aj (.type "object")=some true
 k_aj:Mk K t.C_aj t.f_w
 c_k:Cls K t.C_k
 ca_k:PySem.W.findIn K (.ref t.C_k) "__class__"=some (some (.builtin "object.__class__"))
 mo_k:PySem.W.mroIn K t.C_k (.type "object")=some true
 k_k:Mk K t.C_k t.f_n
 m_f:Meth K t.C_k "put" t.f_f
 m_d:Meth K t.C_k "open_seat" t.f_d
 m_e:Meth K t.C_k "points" t.f_e
 m_h:Meth K t.C_k "seats" t.f_h
 m_b:Meth K t.C_k "check_cell" t.f_b
 m_a:Meth K t.C_k "check_lines" t.f_a
 m_c:Meth K t.C_k "check_seat" t.f_c
 cg:PySem.W.specialIn K (.builtin "object.__class__") "__get__"=some (some (.builtin "getset_descriptor.__get__"))
 ct:PySem.W.takesIn K (.builtin "object.__class__")=some true
 n_at:PySem.W.findIn K (.ref t.C_k) "height"=some none
 n_av:PySem.W.findIn K (.ref t.C_k) "width"=some none
 n_au:PySem.W.findIn K (.ref t.C_k) "placed"=some none
 n_aw:PySem.W.findIn K (.ref t.C_k) "opened"=some none
 n_a2:PySem.W.findIn K (.ref t.C_as) "width"=some none
 n_a0:PySem.W.findIn K (.ref t.C_ao) "width"=some none
 n_ay:PySem.W.findIn K (.ref t.C_aj) "width"=some none
 n_bool:mg "bool"=none
 n_enumerate:mg "enumerate"=none
 n_int:mg "int"=none
 n_isinstance:mg "isinstance"=none
 n_len:mg "len"=none
 n_list:mg "list"=none
 n_min:mg "min"=none
 n_range:mg "range"=none
 n_sorted:mg "sorted"=none
 n_str:mg "str"=none
 n_zip:mg "zip"=none
 v_a1:∃ tk,mg "MOST_ROWS"=some (.int 16 tk)
 v_ax:∃ tk,mg "MOST_COLUMNS"=some (.int 30 tk)
 v_az:∃ tk,mg "MOST_POINTS"=some (.int 12 tk)
 g_ap:mg "MIRRORED_SIDES"=some (.ref t.D_ap)
 D_ap:xjf w K t.D_ap [(.inr "left",.str "right"),(.inr "right",.str "left"),(.inr "both",.str "both")]
theorem txt_mk {w:World} {K:PySem.W.Frag} {h:Heap} {mg:Str→Option Value} (X:K.In h) (G:h.Ns mainGlobals mg) {C_as C_ao C_aj C_k f_w f_aq f_r f_ar f_n f_f T_f f_d f_e f_h f_b f_a f_c f_p f_am f_af f_al f_ak f_an f_t f_l f_aa f_ac f_ai f_ad f_q f_j f_s f_x f_o f_ae f_z f_ag f_u f_y f_ah f_ab f_m f_g f_i f_v f_law:Addr} {oc_w kv_w dc_w pm_w cd_w ct_w:Value} {od_w an_w:Option Addr} {sl_w:Array (Option Value)} {oc_aq kv_aq dc_aq pm_aq cd_aq ct_aq:Value} {od_aq an_aq:Option Addr} {sl_aq:Array (Option Value)} {oc_r kv_r dc_r pm_r cd_r ct_r:Value} {od_r an_r:Option Addr} {sl_r:Array (Option Value)} {oc_ar kv_ar dc_ar pm_ar cd_ar ct_ar:Value} {od_ar an_ar:Option Addr} {sl_ar:Array (Option Value)} {oc_n kv_n dc_n pm_n cd_n ct_n:Value} {od_n an_n:Option Addr} {sl_n:Array (Option Value)} {oc_f kv_f dc_f pm_f cd_f ct_f:Value} {od_f an_f:Option Addr} {sl_f:Array (Option Value)} {oc_d kv_d dc_d pm_d cd_d ct_d:Value} {od_d an_d:Option Addr} {sl_d:Array (Option Value)} {oc_e kv_e dc_e pm_e cd_e ct_e:Value} {od_e an_e:Option Addr} {sl_e:Array (Option Value)} {oc_h kv_h dc_h pm_h cd_h ct_h:Value} {od_h an_h:Option Addr} {sl_h:Array (Option Value)} {oc_b kv_b dc_b pm_b cd_b ct_b:Value} {od_b an_b:Option Addr} {sl_b:Array (Option Value)} {oc_a kv_a dc_a pm_a cd_a ct_a:Value} {od_a an_a:Option Addr} {sl_a:Array (Option Value)} {oc_c kv_c dc_c pm_c cd_c ct_c:Value} {od_c an_c:Option Addr} {sl_c:Array (Option Value)} {oc_p kv_p dc_p pm_p cd_p ct_p:Value} {od_p an_p:Option Addr} {sl_p:Array (Option Value)} {oc_am kv_am dc_am pm_am cd_am ct_am:Value} {od_am an_am:Option Addr} {sl_am:Array (Option Value)} {oc_af kv_af dc_af pm_af cd_af ct_af:Value} {od_af an_af:Option Addr} {sl_af:Array (Option Value)} {oc_al kv_al dc_al pm_al cd_al ct_al:Value} {od_al an_al:Option Addr} {sl_al:Array (Option Value)} {oc_ak kv_ak dc_ak pm_ak cd_ak ct_ak:Value} {od_ak an_ak:Option Addr} {sl_ak:Array (Option Value)} {oc_an kv_an dc_an pm_an cd_an ct_an:Value} {od_an an_an:Option Addr} {sl_an:Array (Option Value)} {oc_t kv_t dc_t pm_t cd_t ct_t:Value} {od_t an_t:Option Addr} {sl_t:Array (Option Value)} {oc_l kv_l dc_l pm_l cd_l ct_l:Value} {od_l an_l:Option Addr} {sl_l:Array (Option Value)} {oc_aa kv_aa dc_aa pm_aa cd_aa ct_aa:Value} {od_aa an_aa:Option Addr} {sl_aa:Array (Option Value)} {oc_ac kv_ac dc_ac pm_ac cd_ac ct_ac:Value} {od_ac an_ac:Option Addr} {sl_ac:Array (Option Value)} {oc_ai kv_ai dc_ai pm_ai cd_ai ct_ai:Value} {od_ai an_ai:Option Addr} {sl_ai:Array (Option Value)} {oc_ad kv_ad dc_ad pm_ad cd_ad ct_ad:Value} {od_ad an_ad:Option Addr} {sl_ad:Array (Option Value)} {oc_q kv_q dc_q pm_q cd_q ct_q:Value} {od_q an_q:Option Addr} {sl_q:Array (Option Value)} {oc_j kv_j dc_j pm_j cd_j ct_j:Value} {od_j an_j:Option Addr} {sl_j:Array (Option Value)} {oc_s kv_s dc_s pm_s cd_s ct_s:Value} {od_s an_s:Option Addr} {sl_s:Array (Option Value)} {oc_x kv_x dc_x pm_x cd_x ct_x:Value} {od_x an_x:Option Addr} {sl_x:Array (Option Value)} {oc_o kv_o dc_o pm_o cd_o ct_o:Value} {od_o an_o:Option Addr} {sl_o:Array (Option Value)} {oc_ae kv_ae dc_ae pm_ae cd_ae ct_ae:Value} {od_ae an_ae:Option Addr} {sl_ae:Array (Option Value)} {oc_z kv_z dc_z pm_z cd_z ct_z:Value} {od_z an_z:Option Addr} {sl_z:Array (Option Value)} {oc_ag kv_ag dc_ag pm_ag cd_ag ct_ag:Value} {od_ag an_ag:Option Addr} {sl_ag:Array (Option Value)} {oc_u kv_u dc_u pm_u cd_u ct_u:Value} {od_u an_u:Option Addr} {sl_u:Array (Option Value)} {oc_y kv_y dc_y pm_y cd_y ct_y:Value} {od_y an_y:Option Addr} {sl_y:Array (Option Value)} {oc_ah kv_ah dc_ah pm_ah cd_ah ct_ah:Value} {od_ah an_ah:Option Addr} {sl_ah:Array (Option Value)} {oc_ab kv_ab dc_ab pm_ab cd_ab ct_ab:Value} {od_ab an_ab:Option Addr} {sl_ab:Array (Option Value)} {oc_m kv_m dc_m pm_m cd_m ct_m:Value} {od_m an_m:Option Addr} {sl_m:Array (Option Value)} {oc_g kv_g dc_g pm_g cd_g ct_g:Value} {od_g an_g:Option Addr} {sl_g:Array (Option Value)} {oc_i kv_i dc_i pm_i cd_i ct_i:Value} {od_i an_i:Option Addr} {sl_i:Array (Option Value)} {oc_v kv_v dc_v pm_v cd_v ct_v:Value} {od_v an_v:Option Addr} {sl_v:Array (Option Value)} {oc_law kv_law dc_law pm_law cd_law ct_law:Value} {od_law an_law:Option Addr} {sl_law:Array (Option Value)} {tk0_f:Tok} {tk1_f:Tok} {toc_f:Value} {tod_f:Option Addr} {tn_f:Nat} {tsl_f:Array (Option Value)} {tkc_a1:Tok} {tkc_ax:Tok} {tkc_az:Tok} {D_ap:Addr} {ta0_ap tb0_ap:Tok} {ta1_ap tb1_ap:Tok} {ta2_ap tb2_ap:Tok} {ep_ap:Nat}
    (g_as:PySem.W.nsIn K mainGlobals "Side"=some (some (.ref C_as)))
    (g_ao:PySem.W.nsIn K mainGlobals "LeftSide"=some (some (.ref C_ao)))
    (g_aj:PySem.W.nsIn K mainGlobals "RightSide"=some (some (.ref C_aj)))
    (g_k:PySem.W.nsIn K mainGlobals "Picture"=some (some (.ref C_k)))
    (a_w:PySem.W.findIn K (.ref C_as) "__init__"=some (some (.ref f_w)))
    (l_w:K.lookup f_w=some ⟨oc_w,od_w,.func (PySem.W.fnOf "__init__" "Side.__init__" (x6 s_w) (x4 s_w) (xi s_w) .none kv_w dc_w pm_w an_w cd_w ct_w),sl_w⟩)
    (c_w:PySem.W.codeIn K cd_w "Side.__init__"=true)
    (k_w:PySem.W.keepIn K (.ref f_w)=true)
    (i_w:PySem.W.isFn K (.ref f_w)=true)
    (a_aq:PySem.W.nsIn K mainGlobals "side_of"=some (some (.ref f_aq)))
    (l_aq:K.lookup f_aq=some ⟨oc_aq,od_aq,.func (PySem.W.fnOf "side_of" "side_of" (x6 s_aq) (x4 s_aq) (xi s_aq) .none kv_aq dc_aq pm_aq an_aq cd_aq ct_aq),sl_aq⟩)
    (c_aq:PySem.W.codeIn K cd_aq "side_of"=true)
    (k_aq:PySem.W.keepIn K (.ref f_aq)=true)
    (i_aq:PySem.W.isFn K (.ref f_aq)=true)
    (a_r:PySem.W.nsIn K mainGlobals "is_whole"=some (some (.ref f_r)))
    (l_r:K.lookup f_r=some ⟨oc_r,od_r,.func (PySem.W.fnOf "is_whole" "is_whole" (x6 s_r) (x4 s_r) (xi s_r) .none kv_r dc_r pm_r an_r cd_r ct_r),sl_r⟩)
    (c_r:PySem.W.codeIn K cd_r "is_whole"=true)
    (k_r:PySem.W.keepIn K (.ref f_r)=true)
    (i_r:PySem.W.isFn K (.ref f_r)=true)
    (a_ar:PySem.W.nsIn K mainGlobals "is_name"=some (some (.ref f_ar)))
    (l_ar:K.lookup f_ar=some ⟨oc_ar,od_ar,.func (PySem.W.fnOf "is_name" "is_name" (x6 s_ar) (x4 s_ar) (xi s_ar) .none kv_ar dc_ar pm_ar an_ar cd_ar ct_ar),sl_ar⟩)
    (c_ar:PySem.W.codeIn K cd_ar "is_name"=true)
    (k_ar:PySem.W.keepIn K (.ref f_ar)=true)
    (i_ar:PySem.W.isFn K (.ref f_ar)=true)
    (a_n:PySem.W.findIn K (.ref C_k) "__init__"=some (some (.ref f_n)))
    (l_n:K.lookup f_n=some ⟨oc_n,od_n,.func (PySem.W.fnOf "__init__" "Picture.__init__" (x6 s_n) (x4 s_n) (xi s_n) .none kv_n dc_n pm_n an_n cd_n ct_n),sl_n⟩)
    (c_n:PySem.W.codeIn K cd_n "Picture.__init__"=true)
    (k_n:PySem.W.keepIn K (.ref f_n)=true)
    (i_n:PySem.W.isFn K (.ref f_n)=true)
    (a_f:PySem.W.findIn K (.ref C_k) "put"=some (some (.ref f_f)))
    (l_f:K.lookup f_f=some ⟨oc_f,od_f,.func (PySem.W.fnOf "put" "Picture.put" (x6 s_f) (x4 s_f) (xi s_f) (.ref T_f) kv_f dc_f pm_f an_f cd_f ct_f),sl_f⟩)
    (c_f:PySem.W.codeIn K cd_f "Picture.put"=true)
    (k_f:PySem.W.keepIn K (.ref f_f)=true)
    (i_f:PySem.W.isFn K (.ref f_f)=true)
    (t_f:K.lookup T_f=some ⟨toc_f,tod_f,.seq #[.str "both" tk0_f,.int 1 tk1_f,.none] tn_f,tsl_f⟩)
    (a_d:PySem.W.findIn K (.ref C_k) "open_seat"=some (some (.ref f_d)))
    (l_d:K.lookup f_d=some ⟨oc_d,od_d,.func (PySem.W.fnOf "open_seat" "Picture.open_seat" (x6 s_d) (x4 s_d) (xi s_d) .none kv_d dc_d pm_d an_d cd_d ct_d),sl_d⟩)
    (c_d:PySem.W.codeIn K cd_d "Picture.open_seat"=true)
    (k_d:PySem.W.keepIn K (.ref f_d)=true)
    (i_d:PySem.W.isFn K (.ref f_d)=true)
    (a_e:PySem.W.findIn K (.ref C_k) "points"=some (some (.ref f_e)))
    (l_e:K.lookup f_e=some ⟨oc_e,od_e,.func (PySem.W.fnOf "points" "Picture.points" (x6 s_e) (x4 s_e) (xi s_e) .none kv_e dc_e pm_e an_e cd_e ct_e),sl_e⟩)
    (c_e:PySem.W.codeIn K cd_e "Picture.points"=true)
    (k_e:PySem.W.keepIn K (.ref f_e)=true)
    (i_e:PySem.W.isFn K (.ref f_e)=true)
    (a_h:PySem.W.findIn K (.ref C_k) "seats"=some (some (.ref f_h)))
    (l_h:K.lookup f_h=some ⟨oc_h,od_h,.func (PySem.W.fnOf "seats" "Picture.seats" (x6 s_h) (x4 s_h) (xi s_h) .none kv_h dc_h pm_h an_h cd_h ct_h),sl_h⟩)
    (c_h:PySem.W.codeIn K cd_h "Picture.seats"=true)
    (k_h:PySem.W.keepIn K (.ref f_h)=true)
    (i_h:PySem.W.isFn K (.ref f_h)=true)
    (a_b:PySem.W.findIn K (.ref C_k) "check_cell"=some (some (.ref f_b)))
    (l_b:K.lookup f_b=some ⟨oc_b,od_b,.func (PySem.W.fnOf "check_cell" "Picture.check_cell" (x6 s_b) (x4 s_b) (xi s_b) .none kv_b dc_b pm_b an_b cd_b ct_b),sl_b⟩)
    (c_b:PySem.W.codeIn K cd_b "Picture.check_cell"=true)
    (k_b:PySem.W.keepIn K (.ref f_b)=true)
    (i_b:PySem.W.isFn K (.ref f_b)=true)
    (a_a:PySem.W.findIn K (.ref C_k) "check_lines"=some (some (.ref f_a)))
    (l_a:K.lookup f_a=some ⟨oc_a,od_a,.func (PySem.W.fnOf "check_lines" "Picture.check_lines" (x6 s_a) (x4 s_a) (xi s_a) .none kv_a dc_a pm_a an_a cd_a ct_a),sl_a⟩)
    (c_a:PySem.W.codeIn K cd_a "Picture.check_lines"=true)
    (k_a:PySem.W.keepIn K (.ref f_a)=true)
    (i_a:PySem.W.isFn K (.ref f_a)=true)
    (a_c:PySem.W.findIn K (.ref C_k) "check_seat"=some (some (.ref f_c)))
    (l_c:K.lookup f_c=some ⟨oc_c,od_c,.func (PySem.W.fnOf "check_seat" "Picture.check_seat" (x6 s_c) (x4 s_c) (xi s_c) .none kv_c dc_c pm_c an_c cd_c ct_c),sl_c⟩)
    (c_c:PySem.W.codeIn K cd_c "Picture.check_seat"=true)
    (k_c:PySem.W.keepIn K (.ref f_c)=true)
    (i_c:PySem.W.isFn K (.ref f_c)=true)
    (a_p:PySem.W.nsIn K mainGlobals "picture_of"=some (some (.ref f_p)))
    (l_p:K.lookup f_p=some ⟨oc_p,od_p,.func (PySem.W.fnOf "picture_of" "picture_of" (x6 s_p) (x4 s_p) (xi s_p) .none kv_p dc_p pm_p an_p cd_p ct_p),sl_p⟩)
    (c_p:PySem.W.codeIn K cd_p "picture_of"=true)
    (k_p:PySem.W.keepIn K (.ref f_p)=true)
    (i_p:PySem.W.isFn K (.ref f_p)=true)
    (a_am:PySem.W.nsIn K mainGlobals "do_line"=some (some (.ref f_am)))
    (l_am:K.lookup f_am=some ⟨oc_am,od_am,.func (PySem.W.fnOf "do_line" "do_line" (x6 s_am) (x4 s_am) (xi s_am) .none kv_am dc_am pm_am an_am cd_am ct_am),sl_am⟩)
    (c_am:PySem.W.codeIn K cd_am "do_line"=true)
    (k_am:PySem.W.keepIn K (.ref f_am)=true)
    (i_am:PySem.W.isFn K (.ref f_am)=true)
    (a_af:PySem.W.nsIn K mainGlobals "words_of"=some (some (.ref f_af)))
    (l_af:K.lookup f_af=some ⟨oc_af,od_af,.func (PySem.W.fnOf "words_of" "words_of" (x6 s_af) (x4 s_af) (xi s_af) .none kv_af dc_af pm_af an_af cd_af ct_af),sl_af⟩)
    (c_af:PySem.W.codeIn K cd_af "words_of"=true)
    (k_af:PySem.W.keepIn K (.ref f_af)=true)
    (i_af:PySem.W.isFn K (.ref f_af)=true)
    (a_al:PySem.W.nsIn K mainGlobals "frame_of"=some (some (.ref f_al)))
    (l_al:K.lookup f_al=some ⟨oc_al,od_al,.func (PySem.W.fnOf "frame_of" "frame_of" (x6 s_al) (x4 s_al) (xi s_al) .none kv_al dc_al pm_al an_al cd_al ct_al),sl_al⟩)
    (c_al:PySem.W.codeIn K cd_al "frame_of"=true)
    (k_al:PySem.W.keepIn K (.ref f_al)=true)
    (i_al:PySem.W.isFn K (.ref f_al)=true)
    (a_ak:PySem.W.nsIn K mainGlobals "rows_of"=some (some (.ref f_ak)))
    (l_ak:K.lookup f_ak=some ⟨oc_ak,od_ak,.func (PySem.W.fnOf "rows_of" "rows_of" (x6 s_ak) (x4 s_ak) (xi s_ak) .none kv_ak dc_ak pm_ak an_ak cd_ak ct_ak),sl_ak⟩)
    (c_ak:PySem.W.codeIn K cd_ak "rows_of"=true)
    (k_ak:PySem.W.keepIn K (.ref f_ak)=true)
    (i_ak:PySem.W.isFn K (.ref f_ak)=true)
    (a_an:PySem.W.nsIn K mainGlobals "span_of"=some (some (.ref f_an)))
    (l_an:K.lookup f_an=some ⟨oc_an,od_an,.func (PySem.W.fnOf "span_of" "span_of" (x6 s_an) (x4 s_an) (xi s_an) .none kv_an dc_an pm_an an_an cd_an ct_an),sl_an⟩)
    (c_an:PySem.W.codeIn K cd_an "span_of"=true)
    (k_an:PySem.W.keepIn K (.ref f_an)=true)
    (i_an:PySem.W.isFn K (.ref f_an)=true)
    (a_t:PySem.W.nsIn K mainGlobals "point_of"=some (some (.ref f_t)))
    (l_t:K.lookup f_t=some ⟨oc_t,od_t,.func (PySem.W.fnOf "point_of" "point_of" (x6 s_t) (x4 s_t) (xi s_t) .none kv_t dc_t pm_t an_t cd_t ct_t),sl_t⟩)
    (c_t:PySem.W.codeIn K cd_t "point_of"=true)
    (k_t:PySem.W.keepIn K (.ref f_t)=true)
    (i_t:PySem.W.isFn K (.ref f_t)=true)
    (a_l:PySem.W.nsIn K mainGlobals "numbers_of"=some (some (.ref f_l)))
    (l_l:K.lookup f_l=some ⟨oc_l,od_l,.func (PySem.W.fnOf "numbers_of" "numbers_of" (x6 s_l) (x4 s_l) (xi s_l) .none kv_l dc_l pm_l an_l cd_l ct_l),sl_l⟩)
    (c_l:PySem.W.codeIn K cd_l "numbers_of"=true)
    (k_l:PySem.W.keepIn K (.ref f_l)=true)
    (i_l:PySem.W.isFn K (.ref f_l)=true)
    (a_aa:PySem.W.nsIn K mainGlobals "number_of"=some (some (.ref f_aa)))
    (l_aa:K.lookup f_aa=some ⟨oc_aa,od_aa,.func (PySem.W.fnOf "number_of" "number_of" (x6 s_aa) (x4 s_aa) (xi s_aa) .none kv_aa dc_aa pm_aa an_aa cd_aa ct_aa),sl_aa⟩)
    (c_aa:PySem.W.codeIn K cd_aa "number_of"=true)
    (k_aa:PySem.W.keepIn K (.ref f_aa)=true)
    (i_aa:PySem.W.isFn K (.ref f_aa)=true)
    (a_ac:PySem.W.nsIn K mainGlobals "lines_of"=some (some (.ref f_ac)))
    (l_ac:K.lookup f_ac=some ⟨oc_ac,od_ac,.func (PySem.W.fnOf "lines_of" "lines_of" (x6 s_ac) (x4 s_ac) (xi s_ac) .none kv_ac dc_ac pm_ac an_ac cd_ac ct_ac),sl_ac⟩)
    (c_ac:PySem.W.codeIn K cd_ac "lines_of"=true)
    (k_ac:PySem.W.keepIn K (.ref f_ac)=true)
    (i_ac:PySem.W.isFn K (.ref f_ac)=true)
    (a_ai:PySem.W.nsIn K mainGlobals "spans_of"=some (some (.ref f_ai)))
    (l_ai:K.lookup f_ai=some ⟨oc_ai,od_ai,.func (PySem.W.fnOf "spans_of" "spans_of" (x6 s_ai) (x4 s_ai) (xi s_ai) .none kv_ai dc_ai pm_ai an_ai cd_ai ct_ai),sl_ai⟩)
    (c_ai:PySem.W.codeIn K cd_ai "spans_of"=true)
    (k_ai:PySem.W.keepIn K (.ref f_ai)=true)
    (i_ai:PySem.W.isFn K (.ref f_ai)=true)
    (a_ad:PySem.W.nsIn K mainGlobals "span_word"=some (some (.ref f_ad)))
    (l_ad:K.lookup f_ad=some ⟨oc_ad,od_ad,.func (PySem.W.fnOf "span_word" "span_word" (x6 s_ad) (x4 s_ad) (xi s_ad) .none kv_ad dc_ad pm_ad an_ad cd_ad ct_ad),sl_ad⟩)
    (c_ad:PySem.W.codeIn K cd_ad "span_word"=true)
    (k_ad:PySem.W.keepIn K (.ref f_ad)=true)
    (i_ad:PySem.W.isFn K (.ref f_ad)=true)
    (a_q:PySem.W.nsIn K mainGlobals "point_line"=some (some (.ref f_q)))
    (l_q:K.lookup f_q=some ⟨oc_q,od_q,.func (PySem.W.fnOf "point_line" "point_line" (x6 s_q) (x4 s_q) (xi s_q) .none kv_q dc_q pm_q an_q cd_q ct_q),sl_q⟩)
    (c_q:PySem.W.codeIn K cd_q "point_line"=true)
    (k_q:PySem.W.keepIn K (.ref f_q)=true)
    (i_q:PySem.W.isFn K (.ref f_q)=true)
    (a_j:PySem.W.nsIn K mainGlobals "_law_cell"=some (some (.ref f_j)))
    (l_j:K.lookup f_j=some ⟨oc_j,od_j,.func (PySem.W.fnOf "_law_cell" "_law_cell" (x6 s_j) (x4 s_j) (xi s_j) .none kv_j dc_j pm_j an_j cd_j ct_j),sl_j⟩)
    (c_j:PySem.W.codeIn K cd_j "_law_cell"=true)
    (k_j:PySem.W.keepIn K (.ref f_j)=true)
    (i_j:PySem.W.isFn K (.ref f_j)=true)
    (a_s:PySem.W.nsIn K mainGlobals "_law_mix"=some (some (.ref f_s)))
    (l_s:K.lookup f_s=some ⟨oc_s,od_s,.func (PySem.W.fnOf "_law_mix" "_law_mix" (x6 s_s) (x4 s_s) (xi s_s) .none kv_s dc_s pm_s an_s cd_s ct_s),sl_s⟩)
    (c_s:PySem.W.codeIn K cd_s "_law_mix"=true)
    (k_s:PySem.W.keepIn K (.ref f_s)=true)
    (i_s:PySem.W.isFn K (.ref f_s)=true)
    (a_x:PySem.W.nsIn K mainGlobals "_law_whole"=some (some (.ref f_x)))
    (l_x:K.lookup f_x=some ⟨oc_x,od_x,.func (PySem.W.fnOf "_law_whole" "_law_whole" (x6 s_x) (x4 s_x) (xi s_x) .none kv_x dc_x pm_x an_x cd_x ct_x),sl_x⟩)
    (c_x:PySem.W.codeIn K cd_x "_law_whole"=true)
    (k_x:PySem.W.keepIn K (.ref f_x)=true)
    (i_x:PySem.W.isFn K (.ref f_x)=true)
    (a_o:PySem.W.nsIn K mainGlobals "_law_unlike"=some (some (.ref f_o)))
    (l_o:K.lookup f_o=some ⟨oc_o,od_o,.func (PySem.W.fnOf "_law_unlike" "_law_unlike" (x6 s_o) (x4 s_o) (xi s_o) .none kv_o dc_o pm_o an_o cd_o ct_o),sl_o⟩)
    (c_o:PySem.W.codeIn K cd_o "_law_unlike"=true)
    (k_o:PySem.W.keepIn K (.ref f_o)=true)
    (i_o:PySem.W.isFn K (.ref f_o)=true)
    (a_ae:PySem.W.nsIn K mainGlobals "_law_open"=some (some (.ref f_ae)))
    (l_ae:K.lookup f_ae=some ⟨oc_ae,od_ae,.func (PySem.W.fnOf "_law_open" "_law_open" (x6 s_ae) (x4 s_ae) (xi s_ae) .none kv_ae dc_ae pm_ae an_ae cd_ae ct_ae),sl_ae⟩)
    (c_ae:PySem.W.codeIn K cd_ae "_law_open"=true)
    (k_ae:PySem.W.keepIn K (.ref f_ae)=true)
    (i_ae:PySem.W.isFn K (.ref f_ae)=true)
    (a_z:PySem.W.nsIn K mainGlobals "_law_dots"=some (some (.ref f_z)))
    (l_z:K.lookup f_z=some ⟨oc_z,od_z,.func (PySem.W.fnOf "_law_dots" "_law_dots" (x6 s_z) (x4 s_z) (xi s_z) .none kv_z dc_z pm_z an_z cd_z ct_z),sl_z⟩)
    (c_z:PySem.W.codeIn K cd_z "_law_dots"=true)
    (k_z:PySem.W.keepIn K (.ref f_z)=true)
    (i_z:PySem.W.isFn K (.ref f_z)=true)
    (a_ag:PySem.W.nsIn K mainGlobals "_law_runs"=some (some (.ref f_ag)))
    (l_ag:K.lookup f_ag=some ⟨oc_ag,od_ag,.func (PySem.W.fnOf "_law_runs" "_law_runs" (x6 s_ag) (x4 s_ag) (xi s_ag) .none kv_ag dc_ag pm_ag an_ag cd_ag ct_ag),sl_ag⟩)
    (c_ag:PySem.W.codeIn K cd_ag "_law_runs"=true)
    (k_ag:PySem.W.keepIn K (.ref f_ag)=true)
    (i_ag:PySem.W.isFn K (.ref f_ag)=true)
    (a_u:PySem.W.nsIn K mainGlobals "_law_lines"=some (some (.ref f_u)))
    (l_u:K.lookup f_u=some ⟨oc_u,od_u,.func (PySem.W.fnOf "_law_lines" "_law_lines" (x6 s_u) (x4 s_u) (xi s_u) .none kv_u dc_u pm_u an_u cd_u ct_u),sl_u⟩)
    (c_u:PySem.W.codeIn K cd_u "_law_lines"=true)
    (k_u:PySem.W.keepIn K (.ref f_u)=true)
    (i_u:PySem.W.isFn K (.ref f_u)=true)
    (a_y:PySem.W.nsIn K mainGlobals "_law_seats"=some (some (.ref f_y)))
    (l_y:K.lookup f_y=some ⟨oc_y,od_y,.func (PySem.W.fnOf "_law_seats" "_law_seats" (x6 s_y) (x4 s_y) (xi s_y) .none kv_y dc_y pm_y an_y cd_y ct_y),sl_y⟩)
    (c_y:PySem.W.codeIn K cd_y "_law_seats"=true)
    (k_y:PySem.W.keepIn K (.ref f_y)=true)
    (i_y:PySem.W.isFn K (.ref f_y)=true)
    (a_ah:PySem.W.nsIn K mainGlobals "_law_same"=some (some (.ref f_ah)))
    (l_ah:K.lookup f_ah=some ⟨oc_ah,od_ah,.func (PySem.W.fnOf "_law_same" "_law_same" (x6 s_ah) (x4 s_ah) (xi s_ah) .none kv_ah dc_ah pm_ah an_ah cd_ah ct_ah),sl_ah⟩)
    (c_ah:PySem.W.codeIn K cd_ah "_law_same"=true)
    (k_ah:PySem.W.keepIn K (.ref f_ah)=true)
    (i_ah:PySem.W.isFn K (.ref f_ah)=true)
    (a_ab:PySem.W.nsIn K mainGlobals "_law_texts"=some (some (.ref f_ab)))
    (l_ab:K.lookup f_ab=some ⟨oc_ab,od_ab,.func (PySem.W.fnOf "_law_texts" "_law_texts" (x6 s_ab) (x4 s_ab) (xi s_ab) .none kv_ab dc_ab pm_ab an_ab cd_ab ct_ab),sl_ab⟩)
    (c_ab:PySem.W.codeIn K cd_ab "_law_texts"=true)
    (k_ab:PySem.W.keepIn K (.ref f_ab)=true)
    (i_ab:PySem.W.isFn K (.ref f_ab)=true)
    (a_m:PySem.W.nsIn K mainGlobals "_law_pieces"=some (some (.ref f_m)))
    (l_m:K.lookup f_m=some ⟨oc_m,od_m,.func (PySem.W.fnOf "_law_pieces" "_law_pieces" (x6 s_m) (x4 s_m) (xi s_m) .none kv_m dc_m pm_m an_m cd_m ct_m),sl_m⟩)
    (c_m:PySem.W.codeIn K cd_m "_law_pieces"=true)
    (k_m:PySem.W.keepIn K (.ref f_m)=true)
    (i_m:PySem.W.isFn K (.ref f_m)=true)
    (a_g:PySem.W.nsIn K mainGlobals "_law_rim_lines"=some (some (.ref f_g)))
    (l_g:K.lookup f_g=some ⟨oc_g,od_g,.func (PySem.W.fnOf "_law_rim_lines" "_law_rim_lines" (x6 s_g) (x4 s_g) (xi s_g) .none kv_g dc_g pm_g an_g cd_g ct_g),sl_g⟩)
    (c_g:PySem.W.codeIn K cd_g "_law_rim_lines"=true)
    (k_g:PySem.W.keepIn K (.ref f_g)=true)
    (i_g:PySem.W.isFn K (.ref f_g)=true)
    (a_i:PySem.W.nsIn K mainGlobals "_law_dot_line"=some (some (.ref f_i)))
    (l_i:K.lookup f_i=some ⟨oc_i,od_i,.func (PySem.W.fnOf "_law_dot_line" "_law_dot_line" (x6 s_i) (x4 s_i) (xi s_i) .none kv_i dc_i pm_i an_i cd_i ct_i),sl_i⟩)
    (c_i:PySem.W.codeIn K cd_i "_law_dot_line"=true)
    (k_i:PySem.W.keepIn K (.ref f_i)=true)
    (i_i:PySem.W.isFn K (.ref f_i)=true)
    (a_v:PySem.W.nsIn K mainGlobals "_law_woven"=some (some (.ref f_v)))
    (l_v:K.lookup f_v=some ⟨oc_v,od_v,.func (PySem.W.fnOf "_law_woven" "_law_woven" (x6 s_v) (x4 s_v) (xi s_v) .none kv_v dc_v pm_v an_v cd_v ct_v),sl_v⟩)
    (c_v:PySem.W.codeIn K cd_v "_law_woven"=true)
    (k_v:PySem.W.keepIn K (.ref f_v)=true)
    (i_v:PySem.W.isFn K (.ref f_v)=true)
    (a_law:PySem.W.nsIn K mainGlobals "law"=some (some (.ref f_law)))
    (l_law:K.lookup f_law=some ⟨oc_law,od_law,.func (PySem.W.fnOf "law" "law" (x6 xdk) (x4 xdk) (xi xdk) .none kv_law dc_law pm_law an_law cd_law ct_law),sl_law⟩)
    (c_law:PySem.W.codeIn K cd_law "law"=true)
    (k_law:PySem.W.keepIn K (.ref f_law)=true)
    (i_law:PySem.W.isFn K (.ref f_law)=true)
    (kc_as:PySem.W.keepIn K (.ref C_as)=true)
    (pg_as:PySem.W.plainGet K C_as Str.empty=true)
    (hd_as:PySem.W.hasDictIn K C_as=true)
    (po_as:PySem.W.plainOver K C_as=true)
    (sa_as:PySem.W.findIn K (.ref C_as) "__setattr__"=some (some (.builtin "object.__setattr__")))
    (mk_as:PySem.W.makesIn K C_as=true)
    (ca_as:PySem.W.findIn K (.ref C_as) "__class__"=some (some (.builtin "object.__class__")))
    (mo_as:PySem.W.mroIn K C_as (.type "object")=some true)
    (kc_ao:PySem.W.keepIn K (.ref C_ao)=true)
    (pg_ao:PySem.W.plainGet K C_ao Str.empty=true)
    (hd_ao:PySem.W.hasDictIn K C_ao=true)
    (po_ao:PySem.W.plainOver K C_ao=true)
    (sa_ao:PySem.W.findIn K (.ref C_ao) "__setattr__"=some (some (.builtin "object.__setattr__")))
    (mk_ao:PySem.W.makesIn K C_ao=true)
    (ca_ao:PySem.W.findIn K (.ref C_ao) "__class__"=some (some (.builtin "object.__class__")))
    (mo_ao:PySem.W.mroIn K C_ao (.type "object")=some true)
    (a_LeftSide_init:PySem.W.findIn K (.ref C_ao) "__init__"=some (some (.ref f_w)))
    (kc_aj:PySem.W.keepIn K (.ref C_aj)=true)
    (pg_aj:PySem.W.plainGet K C_aj Str.empty=true)
    (hd_aj:PySem.W.hasDictIn K C_aj=true)
    (po_aj:PySem.W.plainOver K C_aj=true)
    (sa_aj:PySem.W.findIn K (.ref C_aj) "__setattr__"=some (some (.builtin "object.__setattr__")))
    (mk_aj:PySem.W.makesIn K C_aj=true)
    (ca_aj:PySem.W.findIn K (.ref C_aj) "__class__"=some (some (.builtin "object.__class__")))
    (mo_aj:PySem.W.mroIn K C_aj (.type "object")=some true)
    (a_RightSide_init:PySem.W.findIn K (.ref C_aj) "__init__"=some (some (.ref f_w)))
    (kc_k:PySem.W.keepIn K (.ref C_k)=true)
    (pg_k:PySem.W.plainGet K C_k Str.empty=true)
    (hd_k:PySem.W.hasDictIn K C_k=true)
    (po_k:PySem.W.plainOver K C_k=true)
    (sa_k:PySem.W.findIn K (.ref C_k) "__setattr__"=some (some (.builtin "object.__setattr__")))
    (mk_k:PySem.W.makesIn K C_k=true)
    (ca_k:PySem.W.findIn K (.ref C_k) "__class__"=some (some (.builtin "object.__class__")))
    (mo_k:PySem.W.mroIn K C_k (.type "object")=some true)
    (cg:PySem.W.specialIn K (.builtin "object.__class__") "__get__"=some (some (.builtin "getset_descriptor.__get__")))
    (ct:PySem.W.takesIn K (.builtin "object.__class__")=some true)
    (n_at:PySem.W.findIn K (.ref C_k) "height"=some none)
    (n_av:PySem.W.findIn K (.ref C_k) "width"=some none)
    (n_au:PySem.W.findIn K (.ref C_k) "placed"=some none)
    (n_aw:PySem.W.findIn K (.ref C_k) "opened"=some none)
    (n_a2:PySem.W.findIn K (.ref C_as) "width"=some none)
    (n_a0:PySem.W.findIn K (.ref C_ao) "width"=some none)
    (n_ay:PySem.W.findIn K (.ref C_aj) "width"=some none)
    (n_bool:PySem.W.nsIn K mainGlobals "bool"=some none)
    (n_enumerate:PySem.W.nsIn K mainGlobals "enumerate"=some none)
    (n_int:PySem.W.nsIn K mainGlobals "int"=some none)
    (n_isinstance:PySem.W.nsIn K mainGlobals "isinstance"=some none)
    (n_len:PySem.W.nsIn K mainGlobals "len"=some none)
    (n_list:PySem.W.nsIn K mainGlobals "list"=some none)
    (n_min:PySem.W.nsIn K mainGlobals "min"=some none)
    (n_range:PySem.W.nsIn K mainGlobals "range"=some none)
    (n_sorted:PySem.W.nsIn K mainGlobals "sorted"=some none)
    (n_str:PySem.W.nsIn K mainGlobals "str"=some none)
    (n_zip:PySem.W.nsIn K mainGlobals "zip"=some none)
    (v_a1:PySem.W.nsIn K mainGlobals "MOST_ROWS"=some (some (.int 16 tkc_a1)))
    (v_ax:PySem.W.nsIn K mainGlobals "MOST_COLUMNS"=some (some (.int 30 tkc_ax)))
    (v_az:PySem.W.nsIn K mainGlobals "MOST_POINTS"=some (some (.int 12 tkc_az)))
    (g_ap:PySem.W.nsIn K mainGlobals "MIRRORED_SIDES"=some (some (.ref D_ap)))
    (l_ap:K.lookup D_ap=some ⟨.type "dict",none,.dict #[⟨hashStr w "left",.str "left" ta0_ap,.str "right" tb0_ap⟩,⟨hashStr w "right",.str "right" ta1_ap,.str "left" tb1_ap⟩,⟨hashStr w "both",.str "both" ta2_ap,.str "both" tb2_ap⟩] ep_ap,#[]⟩)
    (ns_ap:(D_ap == sysModules)=false)
   :∃ t,Txt w K mg t :=
  ⟨⟨f_w,_,f_aq,_,f_r,_,f_ar,_,f_n,_,f_f,_,T_f,f_d,_,f_e,_,f_h,_,f_b,_,f_a,_,f_c,_,f_p,_,f_am,_,f_af,_,f_al,_,f_ak,_,f_an,_,f_t,_,f_l,_,f_aa,_,f_ac,_,f_ai,_,f_ad,_,f_q,_,f_j,_,f_s,_,f_x,_,f_o,_,f_ae,_,f_z,_,f_ag,_,f_u,_,f_y,_,f_ah,_,f_ab,_,f_m,_,f_g,_,f_i,_,f_v,_,f_law,_,C_as,C_ao,C_aj,C_k,D_ap⟩,{
    g_as:=PySem.W.mg_of X G g_as
    g_ao:=PySem.W.mg_of X G g_ao
    g_aj:=PySem.W.mg_of X G g_aj
    g_k:=PySem.W.mg_of X G g_k
    F_w:=xu (st:=s_w) l_w c_w k_w
    b_w:=(xu (st:=s_w) l_w c_w k_w).binds (ps:=["self", "width"]) fun _ _ _ _ _ _ us hl=>match us,hl with | [_,_],_=>rfl
    g_aq:=PySem.W.mg_of X G a_aq
    F_aq:=xu (st:=s_aq) l_aq c_aq k_aq
    b_aq:=(xu (st:=s_aq) l_aq c_aq k_aq).binds (ps:=["word", "width"]) fun _ _ _ _ _ _ us hl=>match us,hl with | [_,_],_=>rfl
    g_r:=PySem.W.mg_of X G a_r
    F_r:=xu (st:=s_r) l_r c_r k_r
    b_r:=(xu (st:=s_r) l_r c_r k_r).binds (ps:=["thing", "low", "high"]) fun _ _ _ _ _ _ us hl=>match us,hl with | [_,_,_],_=>rfl
    g_ar:=PySem.W.mg_of X G a_ar
    F_ar:=xu (st:=s_ar) l_ar c_ar k_ar
    b_ar:=(xu (st:=s_ar) l_ar c_ar k_ar).binds (ps:=["thing"]) fun _ _ _ _ _ _ us hl=>match us,hl with | [_],_=>rfl
    F_n:=xu (st:=s_n) l_n c_n k_n
    b_n:=(xu (st:=s_n) l_n c_n k_n).binds (ps:=["self", "width", "height"]) fun _ _ _ _ _ _ us hl=>match us,hl with | [_,_,_],_=>rfl
    F_f:=(xis (st:=s_f) l_f c_f k_f)
    b_f:=(xis (st:=s_f) l_f c_f k_f).binds t_f rfl 7 rfl fun _ _ _ _ _ _ us hl=>match us,hl with | [_,_,_,_,_,_,_],_=>⟨_,rfl,rfl⟩
    F_d:=xu (st:=s_d) l_d c_d k_d
    b_d:=(xu (st:=s_d) l_d c_d k_d).binds (ps:=["self", "side", "row"]) fun _ _ _ _ _ _ us hl=>match us,hl with | [_,_,_],_=>rfl
    F_e:=xu (st:=s_e) l_e c_e k_e
    b_e:=(xu (st:=s_e) l_e c_e k_e).binds (ps:=["self"]) fun _ _ _ _ _ _ us hl=>match us,hl with | [_],_=>rfl
    F_h:=xu (st:=s_h) l_h c_h k_h
    b_h:=(xu (st:=s_h) l_h c_h k_h).binds (ps:=["self"]) fun _ _ _ _ _ _ us hl=>match us,hl with | [_],_=>rfl
    F_b:=xu (st:=s_b) l_b c_b k_b
    b_b:=(xu (st:=s_b) l_b c_b k_b).binds (ps:=["self", "x", "y"]) fun _ _ _ _ _ _ us hl=>match us,hl with | [_,_,_],_=>rfl
    F_a:=xu (st:=s_a) l_a c_a k_a
    b_a:=(xu (st:=s_a) l_a c_a k_a).binds (ps:=["self", "name", "x", "y"]) fun _ _ _ _ _ _ us hl=>match us,hl with | [_,_,_,_],_=>rfl
    F_c:=xu (st:=s_c) l_c c_c k_c
    b_c:=(xu (st:=s_c) l_c c_c k_c).binds (ps:=["self", "side", "row"]) fun _ _ _ _ _ _ us hl=>match us,hl with | [_,_,_],_=>rfl
    g_p:=PySem.W.mg_of X G a_p
    F_p:=xu (st:=s_p) l_p c_p k_p
    b_p:=(xu (st:=s_p) l_p c_p k_p).binds (ps:=["lines"]) fun _ _ _ _ _ _ us hl=>match us,hl with | [_],_=>rfl
    g_am:=PySem.W.mg_of X G a_am
    F_am:=xu (st:=s_am) l_am c_am k_am
    b_am:=(xu (st:=s_am) l_am c_am k_am).binds (ps:=["picture", "number", "words"]) fun _ _ _ _ _ _ us hl=>match us,hl with | [_,_,_],_=>rfl
    g_af:=PySem.W.mg_of X G a_af
    F_af:=xu (st:=s_af) l_af c_af k_af
    b_af:=(xu (st:=s_af) l_af c_af k_af).binds (ps:=["line"]) fun _ _ _ _ _ _ us hl=>match us,hl with | [_],_=>rfl
    g_al:=PySem.W.mg_of X G a_al
    F_al:=xu (st:=s_al) l_al c_al k_al
    b_al:=(xu (st:=s_al) l_al c_al k_al).binds (ps:=["words"]) fun _ _ _ _ _ _ us hl=>match us,hl with | [_],_=>rfl
    g_ak:=PySem.W.mg_of X G a_ak
    F_ak:=xu (st:=s_ak) l_ak c_ak k_ak
    b_ak:=(xu (st:=s_ak) l_ak c_ak k_ak).binds (ps:=["words"]) fun _ _ _ _ _ _ us hl=>match us,hl with | [_],_=>rfl
    g_an:=PySem.W.mg_of X G a_an
    F_an:=xu (st:=s_an) l_an c_an k_an
    b_an:=(xu (st:=s_an) l_an c_an k_an).binds (ps:=["word"]) fun _ _ _ _ _ _ us hl=>match us,hl with | [_],_=>rfl
    g_t:=PySem.W.mg_of X G a_t
    F_t:=xu (st:=s_t) l_t c_t k_t
    b_t:=(xu (st:=s_t) l_t c_t k_t).binds (ps:=["words"]) fun _ _ _ _ _ _ us hl=>match us,hl with | [_],_=>rfl
    g_l:=PySem.W.mg_of X G a_l
    F_l:=xu (st:=s_l) l_l c_l k_l
    b_l:=(xu (st:=s_l) l_l c_l k_l).binds (ps:=["words"]) fun _ _ _ _ _ _ us hl=>match us,hl with | [_],_=>rfl
    g_aa:=PySem.W.mg_of X G a_aa
    F_aa:=xu (st:=s_aa) l_aa c_aa k_aa
    b_aa:=(xu (st:=s_aa) l_aa c_aa k_aa).binds (ps:=["word"]) fun _ _ _ _ _ _ us hl=>match us,hl with | [_],_=>rfl
    g_ac:=PySem.W.mg_of X G a_ac
    F_ac:=xu (st:=s_ac) l_ac c_ac k_ac
    b_ac:=(xu (st:=s_ac) l_ac c_ac k_ac).binds (ps:=["picture"]) fun _ _ _ _ _ _ us hl=>match us,hl with | [_],_=>rfl
    g_ai:=PySem.W.mg_of X G a_ai
    F_ai:=xu (st:=s_ai) l_ai c_ai k_ai
    b_ai:=(xu (st:=s_ai) l_ai c_ai k_ai).binds (ps:=["rows"]) fun _ _ _ _ _ _ us hl=>match us,hl with | [_],_=>rfl
    g_ad:=PySem.W.mg_of X G a_ad
    F_ad:=xu (st:=s_ad) l_ad c_ad k_ad
    b_ad:=(xu (st:=s_ad) l_ad c_ad k_ad).binds (ps:=["first", "last"]) fun _ _ _ _ _ _ us hl=>match us,hl with | [_,_],_=>rfl
    g_q:=PySem.W.mg_of X G a_q
    F_q:=xu (st:=s_q) l_q c_q k_q
    b_q:=(xu (st:=s_q) l_q c_q k_q).binds (ps:=["point", "height"]) fun _ _ _ _ _ _ us hl=>match us,hl with | [_,_],_=>rfl
    g_j:=PySem.W.mg_of X G a_j
    F_j:=xu (st:=s_j) l_j c_j k_j
    b_j:=(xu (st:=s_j) l_j c_j k_j).binds (ps:=["_law_script", "_law_k"]) fun _ _ _ _ _ _ us hl=>match us,hl with | [_,_],_=>rfl
    g_s:=PySem.W.mg_of X G a_s
    F_s:=xu (st:=s_s) l_s c_s k_s
    b_s:=(xu (st:=s_s) l_s c_s k_s).binds (ps:=["_law_cell_here", "_law_k"]) fun _ _ _ _ _ _ us hl=>match us,hl with | [_,_],_=>rfl
    g_x:=PySem.W.mg_of X G a_x
    F_x:=xu (st:=s_x) l_x c_x k_x
    b_x:=(xu (st:=s_x) l_x c_x k_x).binds (ps:=["_law_found"]) fun _ _ _ _ _ _ us hl=>match us,hl with | [_],_=>rfl
    g_o:=PySem.W.mg_of X G a_o
    F_o:=xu (st:=s_o) l_o c_o k_o
    b_o:=(xu (st:=s_o) l_o c_o k_o).binds (ps:=["_law_cell_here", "_law_many", "_law_some"]) fun _ _ _ _ _ _ us hl=>match us,hl with | [_,_,_],_=>rfl
    g_ae:=PySem.W.mg_of X G a_ae
    F_ae:=xu (st:=s_ae) l_ae c_ae k_ae
    b_ae:=(xu (st:=s_ae) l_ae c_ae k_ae).binds (ps:=["_law_cell_here", "_law_height"]) fun _ _ _ _ _ _ us hl=>match us,hl with | [_,_],_=>rfl
    g_z:=PySem.W.mg_of X G a_z
    F_z:=xu (st:=s_z) l_z c_z k_z
    b_z:=(xu (st:=s_z) l_z c_z k_z).binds (ps:=["_law_script", "_law_start", "_law_width", "_law_height"]) fun _ _ _ _ _ _ us hl=>match us,hl with | [_,_,_,_],_=>rfl
    g_ag:=PySem.W.mg_of X G a_ag
    F_ag:=xu (st:=s_ag) l_ag c_ag k_ag
    b_ag:=(xu (st:=s_ag) l_ag c_ag k_ag).binds (ps:=["_law_rows"]) fun _ _ _ _ _ _ us hl=>match us,hl with | [_],_=>rfl
    g_u:=PySem.W.mg_of X G a_u
    F_u:=xu (st:=s_u) l_u c_u k_u
    b_u:=(xu (st:=s_u) l_u c_u k_u).binds (ps:=["_law_width", "_law_height", "_law_rims", "_law_dots_here"]) fun _ _ _ _ _ _ us hl=>match us,hl with | [_,_,_,_],_=>rfl
    g_y:=PySem.W.mg_of X G a_y
    F_y:=xu (st:=s_y) l_y c_y k_y
    b_y:=(xu (st:=s_y) l_y c_y k_y).binds (ps:=["_law_rims"]) fun _ _ _ _ _ _ us hl=>match us,hl with | [_],_=>rfl
    g_ah:=PySem.W.mg_of X G a_ah
    F_ah:=xu (st:=s_ah) l_ah c_ah k_ah
    b_ah:=(xu (st:=s_ah) l_ah c_ah k_ah).binds (ps:=["_law_picture", "_law_width", "_law_height", "_law_rims", "_law_dots_here"]) fun _ _ _ _ _ _ us hl=>match us,hl with | [_,_,_,_,_],_=>rfl
    g_ab:=PySem.W.mg_of X G a_ab
    F_ab:=xu (st:=s_ab) l_ab c_ab k_ab
    b_ab:=(xu (st:=s_ab) l_ab c_ab k_ab).binds (ps:=["_law_found", "_law_due"]) fun _ _ _ _ _ _ us hl=>match us,hl with | [_,_],_=>rfl
    g_m:=PySem.W.mg_of X G a_m
    F_m:=xu (st:=s_m) l_m c_m k_m
    b_m:=(xu (st:=s_m) l_m c_m k_m).binds (ps:=["_law_rows", "_law_cell_here"]) fun _ _ _ _ _ _ us hl=>match us,hl with | [_,_],_=>rfl
    g_g:=PySem.W.mg_of X G a_g
    F_g:=xu (st:=s_g) l_g c_g k_g
    b_g:=(xu (st:=s_g) l_g c_g k_g).binds (ps:=["_law_side", "_law_words", "_law_cell_here"]) fun _ _ _ _ _ _ us hl=>match us,hl with | [_,_,_],_=>rfl
    g_i:=PySem.W.mg_of X G a_i
    F_i:=xu (st:=s_i) l_i c_i k_i
    b_i:=(xu (st:=s_i) l_i c_i k_i).binds (ps:=["_law_dot", "_law_height", "_law_cell_here"]) fun _ _ _ _ _ _ us hl=>match us,hl with | [_,_,_],_=>rfl
    g_v:=PySem.W.mg_of X G a_v
    F_v:=xu (st:=s_v) l_v c_v k_v
    b_v:=(xu (st:=s_v) l_v c_v k_v).binds (ps:=["_law_one", "_law_other", "_law_cell_here"]) fun _ _ _ _ _ _ us hl=>match us,hl with | [_,_,_],_=>rfl
    g_law:=PySem.W.mg_of X G a_law
    F_law:=xu (st:=xdk) l_law c_law k_law
    b_law:=(xu (st:=xdk) l_law c_law k_law).binds (ps:=["_law_script"]) fun _ _ _ _ _ _ us hl=>match us,hl with | [_],_=>rfl
    c_as:=⟨pg_as,hd_as,po_as,sa_as⟩
    ca_as:=ca_as
    mo_as:=mo_as
    k_as:=⟨mk_as,a_w,i_w,kc_as⟩
    c_ao:=⟨pg_ao,hd_ao,po_ao,sa_ao⟩
    ca_ao:=ca_ao
    mo_ao:=mo_ao
    k_ao:=⟨mk_ao,a_LeftSide_init,i_w,kc_ao⟩
    c_aj:=⟨pg_aj,hd_aj,po_aj,sa_aj⟩
    ca_aj:=ca_aj
    mo_aj:=mo_aj
    k_aj:=⟨mk_aj,a_RightSide_init,i_w,kc_aj⟩
    c_k:=⟨pg_k,hd_k,po_k,sa_k⟩
    ca_k:=ca_k
    mo_k:=mo_k
    k_k:=⟨mk_k,a_n,i_n,kc_k⟩
    m_f:=⟨a_f,i_f,k_f⟩
    m_d:=⟨a_d,i_d,k_d⟩
    m_e:=⟨a_e,i_e,k_e⟩
    m_h:=⟨a_h,i_h,k_h⟩
    m_b:=⟨a_b,i_b,k_b⟩
    m_a:=⟨a_a,i_a,k_a⟩
    m_c:=⟨a_c,i_c,k_c⟩
    cg:=cg
    ct:=ct
    n_at:=n_at
    n_av:=n_av
    n_au:=n_au
    n_aw:=n_aw
    n_a2:=n_a2
    n_a0:=n_a0
    n_ay:=n_ay
    n_bool:=PySem.W.mg_none_of X G n_bool
    n_enumerate:=PySem.W.mg_none_of X G n_enumerate
    n_int:=PySem.W.mg_none_of X G n_int
    n_isinstance:=PySem.W.mg_none_of X G n_isinstance
    n_len:=PySem.W.mg_none_of X G n_len
    n_list:=PySem.W.mg_none_of X G n_list
    n_min:=PySem.W.mg_none_of X G n_min
    n_range:=PySem.W.mg_none_of X G n_range
    n_sorted:=PySem.W.mg_none_of X G n_sorted
    n_str:=PySem.W.mg_none_of X G n_str
    n_zip:=PySem.W.mg_none_of X G n_zip
    v_a1:=⟨_,PySem.W.mg_of X G v_a1⟩
    v_ax:=⟨_,PySem.W.mg_of X G v_ax⟩
    v_az:=⟨_,PySem.W.mg_of X G v_az⟩
    g_ap:=PySem.W.mg_of X G g_ap
    D_ap:=⟨ns_ap,_,_,l_ap,.cons rfl ⟨_,rfl⟩ ⟨_,rfl⟩ (.cons rfl ⟨_,rfl⟩ ⟨_,rfl⟩ (.cons rfl ⟨_,rfl⟩ ⟨_,rfl⟩ (.nil))),by decide⟩ }⟩
theorem sc_w:x9 ["self", "width"] ["self", "width"] (xi s_w):=⟨rfl,rfl,rfl,by decide +kernel,rfl,by decide +kernel,by decide +kernel⟩
theorem sc_aq:x9 ["word", "width"] ["word", "width"] (xi s_aq):=⟨rfl,rfl,rfl,by decide +kernel,rfl,by decide +kernel,by decide +kernel⟩
theorem sc_r:x9 ["thing", "low", "high"] ["thing", "low", "high"] (xi s_r):=⟨rfl,rfl,rfl,by decide +kernel,rfl,by decide +kernel,by decide +kernel⟩
theorem sc_ar:x9 ["thing"] ["thing"] (xi s_ar):=⟨rfl,rfl,rfl,by decide +kernel,rfl,by decide +kernel,by decide +kernel⟩
theorem sc_n:x9 ["self", "width", "height"] ["self", "width", "height"] (xi s_n):=⟨rfl,rfl,rfl,by decide +kernel,rfl,by decide +kernel,by decide +kernel⟩
theorem sc_f:x9 ["self", "name", "x", "y", "sides", "low", "high", "highest"] ["self", "name", "x", "y", "sides", "low", "high"] (xi s_f):=⟨rfl,rfl,rfl,by decide +kernel,rfl,by decide +kernel,by decide +kernel⟩
theorem sc_d:x9 ["self", "side", "row"] ["self", "side", "row"] (xi s_d):=⟨rfl,rfl,rfl,by decide +kernel,rfl,by decide +kernel,by decide +kernel⟩
theorem sc_e:x9 ["self"] ["self"] (xi s_e):=⟨rfl,rfl,rfl,by decide +kernel,rfl,by decide +kernel,by decide +kernel⟩
theorem sc_h:x9 ["self"] ["self"] (xi s_h):=⟨rfl,rfl,rfl,by decide +kernel,rfl,by decide +kernel,by decide +kernel⟩
theorem sc_b:x9 ["self", "x", "y"] ["self", "x", "y"] (xi s_b):=⟨rfl,rfl,rfl,by decide +kernel,rfl,by decide +kernel,by decide +kernel⟩
theorem sc_a:x9 ["self", "name", "x", "y", "others", "other"] ["self", "name", "x", "y"] (xi s_a):=⟨rfl,rfl,rfl,by decide +kernel,rfl,by decide +kernel,by decide +kernel⟩
theorem sc_c:x9 ["self", "side", "row"] ["self", "side", "row"] (xi s_c):=⟨rfl,rfl,rfl,by decide +kernel,rfl,by decide +kernel,by decide +kernel⟩
theorem sc_p:x9 ["lines", "size", "width", "height", "picture", "number", "line"] ["lines"] (xi s_p):=⟨rfl,rfl,rfl,by decide +kernel,rfl,by decide +kernel,by decide +kernel⟩
theorem sc_am:x9 ["picture", "number", "words", "rows", "point", "row", "name", "x", "y", "sides", "low", "high"] ["picture", "number", "words"] (xi s_am):=⟨rfl,rfl,rfl,by decide +kernel,rfl,by decide +kernel,by decide +kernel⟩
theorem sc_af:x9 ["line", "words"] ["line"] (xi s_af):=⟨rfl,rfl,rfl,by decide +kernel,rfl,by decide +kernel,by decide +kernel⟩
theorem sc_al:x9 ["words"] ["words"] (xi s_al):=⟨rfl,rfl,rfl,by decide +kernel,rfl,by decide +kernel,by decide +kernel⟩
theorem sc_ak:x9 ["words", "spans", "rows", "span"] ["words"] (xi s_ak):=⟨rfl,rfl,rfl,by decide +kernel,rfl,by decide +kernel,by decide +kernel⟩
theorem sc_an:x9 ["word", "ends"] ["word"] (xi s_an):=⟨rfl,rfl,rfl,by decide +kernel,rfl,by decide +kernel,by decide +kernel⟩
theorem sc_t:x9 ["words", "numbers", "x", "y", "sides", "low", "high"] ["words"] (xi s_t):=⟨rfl,rfl,rfl,by decide +kernel,rfl,by decide +kernel,by decide +kernel⟩
theorem sc_l:x9 ["words", "numbers"] ["words"] (xi s_l):=⟨rfl,rfl,rfl,by decide +kernel,rfl,by decide +kernel,by decide +kernel⟩
theorem sc_aa:x9 ["word", "sign"] ["word"] (xi s_aa):=⟨rfl,rfl,rfl,by decide +kernel,rfl,by decide +kernel,by decide +kernel⟩
theorem sc_ac:x9 ["picture", "width", "height", "lines", "rim", "rows"] ["picture"] (xi s_ac):=⟨rfl,rfl,rfl,by decide +kernel,rfl,by decide +kernel,by decide +kernel⟩
theorem sc_ai:x9 ["rows", "firsts", "lasts"] ["rows"] (xi s_ai):=⟨rfl,rfl,rfl,by decide +kernel,rfl,by decide +kernel,by decide +kernel⟩
theorem sc_ad:x9 ["first", "last"] ["first", "last"] (xi s_ad):=⟨rfl,rfl,rfl,by decide +kernel,rfl,by decide +kernel,by decide +kernel⟩
theorem sc_q:x9 ["point", "height", "name", "x", "y", "sides", "low", "high"] ["point", "height"] (xi s_q):=⟨rfl,rfl,rfl,by decide +kernel,rfl,by decide +kernel,by decide +kernel⟩
theorem sc_j:x9 ["_law_script", "_law_k"] ["_law_script", "_law_k"] (xi s_j):=⟨rfl,rfl,rfl,by decide +kernel,rfl,by decide +kernel,by decide +kernel⟩
theorem sc_s:x9 ["_law_cell_here", "_law_k", "_law_number"] ["_law_cell_here", "_law_k"] (xi s_s):=⟨rfl,rfl,rfl,by decide +kernel,rfl,by decide +kernel,by decide +kernel⟩
theorem sc_x:x9 ["_law_found"] ["_law_found"] (xi s_x):=⟨rfl,rfl,rfl,by decide +kernel,rfl,by decide +kernel,by decide +kernel⟩
theorem sc_o:x9 ["_law_cell_here", "_law_many", "_law_some", "_law_left", "_law_found", "_law_k"] ["_law_cell_here", "_law_many", "_law_some"] (xi s_o):=⟨rfl,rfl,rfl,by decide +kernel,rfl,by decide +kernel,by decide +kernel⟩
theorem sc_ae:x9 ["_law_cell_here", "_law_height", "_law_share"] ["_law_cell_here", "_law_height"] (xi s_ae):=⟨rfl,rfl,rfl,by decide +kernel,rfl,by decide +kernel,by decide +kernel⟩
theorem sc_z:x9 ["_law_script", "_law_start", "_law_width", "_law_height", "_law_many", "_law_names", "_law_columns", "_law_rows", "_law_dots_here", "_law_k", "_law_cell_here", "_law_low", "_law_high"] ["_law_script", "_law_start", "_law_width", "_law_height"] (xi s_z):=⟨rfl,rfl,rfl,by decide +kernel,rfl,by decide +kernel,by decide +kernel⟩
theorem sc_ag:x9 ["_law_rows", "_law_runs_here", "_law_row", "_law_words", "_law_low", "_law_high"] ["_law_rows"] (xi s_ag):=⟨rfl,rfl,rfl,by decide +kernel,rfl,by decide +kernel,by decide +kernel⟩
theorem sc_u:x9 ["_law_width", "_law_height", "_law_rims", "_law_dots_here", "_law_lines_here", "_law_side", "_law_name", "_law_x", "_law_y", "_law_sides", "_law_low", "_law_high", "_law_line"] ["_law_width", "_law_height", "_law_rims", "_law_dots_here"] (xi s_u):=⟨rfl,rfl,rfl,by decide +kernel,rfl,by decide +kernel,by decide +kernel⟩
theorem sc_y:x9 ["_law_rims"] ["_law_rims"] (xi s_y):=⟨rfl,rfl,rfl,by decide +kernel,rfl,by decide +kernel,by decide +kernel⟩
theorem sc_ah:x9 ["_law_picture", "_law_width", "_law_height", "_law_rims", "_law_dots_here"] ["_law_picture", "_law_width", "_law_height", "_law_rims", "_law_dots_here"] (xi s_ah):=⟨rfl,rfl,rfl,by decide +kernel,rfl,by decide +kernel,by decide +kernel⟩
theorem sc_ab:x9 ["_law_found", "_law_due"] ["_law_found", "_law_due"] (xi s_ab):=⟨rfl,rfl,rfl,by decide +kernel,rfl,by decide +kernel,by decide +kernel⟩
theorem sc_m:x9 ["_law_rows", "_law_cell_here", "_law_words", "_law_at", "_law_size", "_law_word", "_law_turn"] ["_law_rows", "_law_cell_here"] (xi s_m):=⟨rfl,rfl,rfl,by decide +kernel,rfl,by decide +kernel,by decide +kernel⟩
theorem sc_g:x9 ["_law_side", "_law_words", "_law_cell_here", "_law_lines_here", "_law_at", "_law_size"] ["_law_side", "_law_words", "_law_cell_here"] (xi s_g):=⟨rfl,rfl,rfl,by decide +kernel,rfl,by decide +kernel,by decide +kernel⟩
theorem sc_i:x9 ["_law_dot", "_law_height", "_law_cell_here", "_law_name", "_law_x", "_law_y", "_law_sides", "_law_low", "_law_high", "_law_line", "_law_way"] ["_law_dot", "_law_height", "_law_cell_here"] (xi s_i):=⟨rfl,rfl,rfl,by decide +kernel,rfl,by decide +kernel,by decide +kernel⟩
theorem sc_v:x9 ["_law_one", "_law_other", "_law_cell_here", "_law_lines_here", "_law_first", "_law_last", "_law_k"] ["_law_one", "_law_other", "_law_cell_here"] (xi s_v):=⟨rfl,rfl,rfl,by decide +kernel,rfl,by decide +kernel,by decide +kernel⟩
theorem xby:x9 ["_law_script", "_law_width", "_law_height", "_law_rims", "_law_dots_here", "_law_cell_here", "_law_left", "_law_right", "_law_told", "_law_lines_here", "_law_handed", "_law_picture", "_law_due"] ["_law_script"] (xi xdk):=⟨rfl,rfl,rfl,by decide +kernel,rfl,by decide +kernel,by decide +kernel⟩
end S25
set_option maxRecDepth 100000
set_option maxHeartbeats 4000000
namespace S25
open PySem L2 XL PyProof.Rows
theorem xbv {K:PySem.W.Frag} {v:Value}:PySem.W.kitOne K v v=some true:=if_pos (by simp)
theorem xo {H H':Hp} {p:Addr} {o:HO} (s:Same H H') (hp:H' p=none):Same H (L2.upd H' p o):=fun b u z=>by
 have z':=s b u z
 rw [xj (xm z' hp)]
 exact z'
theorem xnd {H:Hp} {x dx:Addr} {a b c:HO} (hx:H x=none) (hd:H dx=none):Same H (upd (upd (upd H dx a) x b) x c):=fun y o e=>by
 rw [xj (xm e hx),xj (xm e hx),xj (xm e hd)]
 exact e
def x8 (b:Bool):Str:=if b then "left" else "right"
def xqf (t:Adr) (H:Hp) (p:Addr) (b:Bool) (w:Int):Prop:=∃ dx,H p=some (.ins (if b then t.C_ao else t.C_aj) dx [("width",.int w)])
def xps (K:PySem.W.Frag):Sp:=fun vs H Q _=>∃ (p C dx:Addr) (n:Int),vs=[.ref p,.int n]∧H p=some (.ins C dx [])∧Cls K C∧xdf K C "width"∧Q .non (upd H p (.ins C dx [("width",.int n)]))
def xl7 (t:Adr):Sp:=fun vs H Q _=>∃ (b:Bool) (n:Int),vs=[.str (x8 b),.int n]∧∀ p H',H p=none→xqf t H' p b n→Same H H'→Q (.ref p) H'
section
variable {P:Program} {w:World} {K:PySem.W.Frag} {mg:Str→Option Value} {base:Heap} {t:Adr}
theorem ok_w (T:Txt w K mg t):FnOk true P w K mg base (CXo P w) 1 t.f_w t.d_w ["self", "width"] (xps K):=by
 refine T.F_w.okn (k:=0) sc_w (fun vs H Q E h=>?_) (fun cdv A outer s H vs Q E hr h=>?_)
 ·obtain ⟨p,C,dx,n,rfl,_⟩:=h
  rfl
 ·obtain ⟨p,C,dx,n,rfl,h⟩:=h
  refine ⟨_,xk (xei (pv 0) (pv 1) rfl),?_⟩
  obtain ⟨hp,c,na,q⟩:=h
  exact ⟨_,rfl,_,rfl,p,C,dx,[],rfl,hp,c,na,(by show 0 < 1000; decide),q⟩
theorem ok_aq (T:Txt w K mg t):FnOk true P w K mg base (CXo P w) 3 t.f_aq t.d_aq ["word", "width"] (xl7 t):=by
 refine T.F_aq.okn (k:=2) sc_aq (fun vs H Q E h=>?_) (fun cdv A outer s H vs Q E hr h=>?_)
 ·obtain ⟨b,n,rfl,_⟩:=h
  rfl
 ·obtain ⟨b,n,rfl,h⟩:=h
  refine ⟨_,xg (xaf (xbd (xab xbi rfl T.n_isinstance boot_isinstance (xa (pv 0) (xa (xbz (v:=.ty "str") rfl T.n_str boot_str rfl) (xb))))) (xg (xaf (xt xbl (pv 0) (xw) (x0 _)) (xk (x5 (xgl T.k_ao (ok_w T) (hr.mono (by decide)) rfl T.g_ao T.b_w .nil xn (xa (pv 1) (xb))))) (xaa))
   (xk (xaf (xt xbl (pv 0) (xw) (x0 _)) (xk (x5 (xgl T.k_aj (ok_w T) (hr.mono (by decide)) rfl T.g_aj T.b_w .nil xn (xa (pv 1) (xb))))) (xaa)))) (xaa))
   (xk (xa5)),?_⟩
  cases b with
  | true =>
   refine ⟨_,rfl,_,_,rfl,.inl ⟨_,_,true,.str _,rfl,xbv,true,rfl,iteT ?_⟩⟩
   refine ⟨_,rfl,rfl,_,rfl,?_⟩
   refine ifP (by decide +kernel) ?_
   exact ⟨_,rfl,fun x dx hx hdx ne=>⟨x,t.C_ao,dx,n,rfl,xf,T.c_ao,T.n_a0,rfl,h x _ hx ⟨dx,xf⟩ (xnd hx hdx)⟩⟩
  | false =>
   refine ⟨_,rfl,_,_,rfl,.inl ⟨_,_,true,.str _,rfl,xbv,true,rfl,iteT ?_⟩⟩
   refine ⟨_,rfl,rfl,_,rfl,?_⟩
   refine ifN (by decide +kernel) ?_
   refine ⟨_,rfl,rfl,_,rfl,?_⟩
   refine ifP (by decide +kernel) ?_
   exact ⟨_,rfl,fun x dx hx hdx ne=>⟨x,t.C_aj,dx,n,rfl,xf,T.c_aj,T.n_ay,rfl,h x _ hx ⟨dx,xf⟩ (xnd hx hdx)⟩⟩
end
def isNm (x:Str):Bool:=decide (x.length=1) && (!decide (x.cps.toList < [97]) && !decide ([122] < x.cps.toList))
def xqu:Sp:=fun vs H Q _=>∃ (i lo hi:Int),vs=[.int i,.int lo,.int hi]∧lo≤i∧i≤hi∧Q (.bl true) H
def xra:Sp:=fun vs H Q _=>∃ (x:Str),vs=[.str x]∧isNm x=true∧Q (.bl true) H
theorem xq7:("a":Str).cps.toList=[97]:=by decide +kernel
theorem xqt:("z":Str).cps.toList=[122]:=by decide +kernel
section
variable {P:Program} {w:World} {K:PySem.W.Frag} {mg:Str→Option Value} {base:Heap} {t:Adr}
theorem ok_r (T:Txt w K mg t):FnOk true P w K mg base (CXo P w) 1 t.f_r t.d_r ["thing", "low", "high"] (xqu):=by
 refine T.F_r.okn (k:=0) sc_r (fun vs H Q E h=>?_) (fun cdv A outer s H vs Q E hr h=>?_)
 ·obtain ⟨i,lo,hi,rfl,_⟩:=h
  rfl
 ·obtain ⟨i,lo,hi,rfl,h⟩:=h
  refine ⟨_,xk (x5 (xdy (xab xbi rfl T.n_isinstance boot_isinstance (xa (pv 0) (xa (xbz (v:=.ty "int") rfl T.n_int boot_int rfl) (xb)))) (xdy (xj6 (xab xbi rfl T.n_isinstance boot_isinstance (xa (pv 0) (xa (xbz (v:=.ty "bool") rfl T.n_bool boot_bool rfl) (xb))))) (xfz (xh9 xne xne (pv 1) (pv 0) (pv 2)))))),?_⟩
  obtain ⟨c1,c2,q⟩:=h
  refine ⟨_,rfl,_,_,rfl,.inl ⟨_,_,true,.int i,rfl,xbv,true,rfl,iteT ?_⟩⟩
  refine ⟨_,rfl,_,_,rfl,.inl ⟨_,_,false,.int i,rfl,(by rfl),false,rfl,true,rfl,iteT ?_⟩⟩
  refine ⟨_,rfl,_,rfl,_,_,rfl,rfl,_,rfl,ite2 (fun c=>?_) (fun c=>?_)⟩
  ·refine ⟨_,rfl,_,_,rfl,rfl,?_⟩
   show Q (.bl (decide (i≤hi))) H
   rw [decide_eq_true c2]
   exact q
  ·exact absurd (decide_eq_true c1) c
theorem ok_ar (T:Txt w K mg t):FnOk true P w K mg base (CXo P w) 1 t.f_ar t.d_ar ["thing"] (xra):=by
 refine T.F_ar.okn (k:=0) sc_ar (fun vs H Q E h=>?_) (fun cdv A outer s H vs Q E hr h=>?_)
 ·obtain ⟨x,rfl,_⟩:=h
  rfl
 ·obtain ⟨x,rfl,h⟩:=h
  refine ⟨_,xk (x5 (xdy (xab xbi rfl T.n_isinstance boot_isinstance (xa (pv 0) (xa (xbz (v:=.ty "str") rfl T.n_str boot_str rfl) (xb)))) (xdy (xe1 xbl (xab xdd rfl T.n_len boot_len (xa (pv 0) (xb))) (xh) (x0 _)) (xfz (xh9 xdp xdp (xw) (pv 0) (xw)))))),?_⟩
  obtain ⟨hn,q⟩:=h
  unfold isNm at hn
  simp only [Bool.and_eq_true,decide_eq_true_eq,Bool.not_eq_true',decide_eq_false_iff_not] at hn
  obtain ⟨l1,n1,n2⟩:=hn
  refine ⟨_,rfl,_,_,rfl,.inl ⟨_,_,true,.str x,rfl,xbv,true,rfl,iteT ?_⟩⟩
  refine ⟨_,rfl,_,rfl,(by rw [l1]; decide),rfl,_,rfl,ite2 (fun c=>?_) (fun c=>?_)⟩
  ·refine ⟨_,rfl,_,_,rfl,rfl,_,rfl,ite2 (fun d=>?_) (fun d=>?_)⟩
   ·refine ⟨_,_,rfl,rfl,?_⟩
    rw [xqt,decide_eq_false n2]
    exact q
   ·rw [xq7,decide_eq_false n1] at d
    exact absurd rfl d
  ·exact absurd (decide_eq_true (by rw [l1]; rfl)) c
end
section
end
end S25
set_option maxRecDepth 100000
set_option maxHeartbeats 4000000
namespace S25
open PySem L2 XL PyProof.Rows
structure Pt where
 nm:Str
 x:Int
 y:Int
 sd:Str
 lo:Int
 hi:Int
def ptV (p:Pt):List V:=[.int p.x,.int p.y,.str p.sd,.int p.lo,.int p.hi]
inductive Pl (H:Hp):List Pt→List (Key × V)→Prop
 | nil:Pl H [] []
 | cons {p:Pt} {q:Addr} {ps:List Pt} {kvs:List (Key × V)} (h:H q=some (.tup (ptV p))) (r:Pl H ps kvs):Pl H (p :: ps) ((.inr p.nm,.ref q) :: kvs)
inductive PtsL (H:Hp):List Pt→List Addr→Prop
 | nil:PtsL H [] []
 | cons {p:Pt} {q:Addr} {ps:List Pt} {qs:List Addr} (h:H q=some (.tup (.str p.nm :: ptV p))) (r:PtsL H ps qs):PtsL H (p :: ps) (q :: qs)
theorem xrd {σ:L2.St} {H:Hp} {A B:Hp→Prop} (h:A H):xdn σ H (fun b H4=>if b=true then A H4 else B H4):=by
 show if true=true then A H else B H
 rw [if_pos rfl]
 exact h
def Tups (H H':Hp):Prop:=∀ b xs,H b=some (.tup xs)→H' b=some (.tup xs)
theorem Pl.keep {H H':Hp} (s:Tups H H') {ps:List Pt} {kvs:List (Key × V)} (h:Pl H ps kvs):Pl H' ps kvs:=by
 induction h with
 | nil=>exact .nil
 | cons h _ ih=>exact .cons (s _ _ h) ih
theorem PtsL.keep {H H':Hp} (s:Tups H H') {ps:List Pt} {qs:List Addr} (h:PtsL H ps qs):PtsL H' ps qs:=by
 induction h with
 | nil=>exact .nil
 | cons h _ ih=>exact .cons (s _ _ h) ih
theorem Pl.len {H:Hp} {ps:List Pt} {kvs:List (Key × V)} (h:Pl H ps kvs):kvs.length=ps.length:=by
 induction h with
 | nil=>rfl
 | cons _ _ ih=>simp [ih]
theorem PtsL.len {H:Hp} {ps:List Pt} {qs:List Addr} (h:PtsL H ps qs):qs.length=ps.length:=by
 induction h with
 | nil=>rfl
 | cons _ _ ih=>simp [ih]
theorem Pl.no {H:Hp} {ps:List Pt} {kvs:List (Key × V)} (h:Pl H ps kvs) {nm:Str} (e:∀ p ∈ ps,p.nm≠nm):valV kvs (.inr nm)=none:=by
 induction h with
 | nil=>rfl
 | @cons p q ps kvs h _ ih =>
  rw [xck (fun z=>e p List.mem_cons_self (Sum.inr.inj z))]
  exact ih fun p' hp=>e p' (List.mem_cons_of_mem _ hp)
theorem Pl.get {H:Hp} {ps:List Pt} {kvs:List (Key × V)} (h:Pl H ps kvs) {i:Nat} {k:Key} {x:V} (e:kvs[i]?=some (k,x)):∃ p q,ps[i]?=some p∧k=.inr p.nm∧x=.ref q∧H q=some (.tup (ptV p)):=by
 induction h generalizing i with
 | nil=>simp at e
 | @cons p q ps kvs h _ ih =>
  cases i with
  | zero =>
   simp at e
   exact ⟨p,q,rfl,e.1.symm,e.2.symm,h⟩
  | succ j=>exact ih (by simpa using e)
theorem PtsL.get {H:Hp} {ps:List Pt} {qs:List Addr} (h:PtsL H ps qs) {i:Nat} {q:Addr} (e:qs[i]?=some q):∃ p,ps[i]?=some p∧H q=some (.tup (.str p.nm :: ptV p)):=by
 induction h generalizing i with
 | nil=>simp at e
 | @cons p q' ps qs h _ ih =>
  cases i with
  | zero =>
   simp at e
   subst e
   exact ⟨p,rfl,h⟩
  | succ j=>exact ih (by simpa using e)
theorem Pl.snoc {H:Hp} {ps:List Pt} {kvs:List (Key × V)} (h:Pl H ps kvs) {p:Pt} {q:Addr} (e:H q=some (.tup (ptV p))):Pl H (ps ++ [p]) (kvs ++ [(.inr p.nm,.ref q)]):=by
 induction h with
 | nil=>exact .cons e .nil
 | cons h _ ih=>exact .cons h ih
theorem PtsL.snoc {H:Hp} {ps:List Pt} {qs:List Addr} (h:PtsL H ps qs) {p:Pt} {q:Addr} (e:H q=some (.tup (.str p.nm :: ptV p))):PtsL H (ps ++ [p]) (qs ++ [q]):=by
 induction h with
 | nil=>exact .cons e .nil
 | cons h _ ih=>exact .cons h ih
abbrev picF (w h:Int) (dp do_:Addr):List (Str × V):=[("width",.int w),("height",.int h),("placed",.ref dp),("opened",.ref do_)]
structure Pic (t:Adr) (H:Hp) (a dp do_:Addr) (w h:Int) (ps:List Pt):Prop where
 ins:∃ dx,H a=some (.ins t.C_k dx (picF w h dp do_))
 pl:∃ kvs,H dp=some (.dK kvs)∧Pl H ps kvs
 w1:1≤w
 w2:w≤30
 h1:1≤h
 h2:h≤16
 len:ps.length≤12
theorem Same.tups {H H':Hp} (s:Same H H'):Tups H H':=fun b xs e=>s b _ e
theorem Pic.same {t:Adr} {H H':Hp} {a dp do_:Addr} {w h:Int} {ps:List Pt} (s:Same H H') (p:Pic t H a dp do_ w h ps):Pic t H' a dp do_ w h ps :=
 ⟨let ⟨dx,e⟩:=p.ins; ⟨dx,s _ _ e⟩,let ⟨kvs,e,q⟩:=p.pl; ⟨kvs,s _ _ e,q.keep (Same.tups s)⟩,p.w1,p.w2,p.h1,p.h2,p.len⟩
theorem xcg {w h:Int} {dp do_:Addr} {m:Str} (e:((["width", "height", "placed", "opened"]:List Str).all fun k=>!(m == k))=true):(picF w h dp do_).lookup m=none:=by
 simp only [List.all_cons,List.all_nil,Bool.and_eq_true,Bool.not_eq_true'] at e
 obtain ⟨e1,e2,e3,e4,_⟩:=e
 unfold picF
 rw [List.lookup_cons,e1]
 show List.lookup m [("height",V.int h),("placed",V.ref dp),("opened",V.ref do_)]=none
 rw [List.lookup_cons,e2]
 show List.lookup m [("placed",V.ref dp),("opened",V.ref do_)]=none
 rw [List.lookup_cons,e3]
 show List.lookup m [("opened",V.ref do_)]=none
 rw [List.lookup_cons,e4]
 rfl
theorem lkW {w h:Int} {dp do_:Addr}:(picF w h dp do_).lookup ("width":Str)=some (.int w):=by
 unfold picF
 rw [List.lookup_cons,show (("width":Str) == "width")=true from by decide +kernel]
theorem lkH {w h:Int} {dp do_:Addr}:(picF w h dp do_).lookup ("height":Str)=some (.int h):=by
 unfold picF
 rw [List.lookup_cons,show (("height":Str) == "width")=false from by decide +kernel]
 show List.lookup ("height":Str) [("height",V.int h),("placed",V.ref dp),("opened",V.ref do_)]=_
 rw [List.lookup_cons,show (("height":Str) == "height")=true from by decide +kernel]
theorem lkP {w h:Int} {dp do_:Addr}:(picF w h dp do_).lookup ("placed":Str)=some (.ref dp):=by
 unfold picF
 rw [List.lookup_cons,show (("placed":Str) == "width")=false from by decide +kernel]
 show List.lookup ("placed":Str) [("height",V.int h),("placed",V.ref dp),("opened",V.ref do_)]=_
 rw [List.lookup_cons,show (("placed":Str) == "height")=false from by decide +kernel]
 show List.lookup ("placed":Str) [("placed",V.ref dp),("opened",V.ref do_)]=_
 rw [List.lookup_cons,show (("placed":Str) == "placed")=true from by decide +kernel]
def xnu (t:Adr):Sp:=fun vs H Q _=>∃ (p dx:Addr) (w h:Int),vs=[.ref p,.int w,.int h]∧H p=some (.ins t.C_k dx [])∧1≤w∧w≤30∧1≤h∧h≤16 ∧
 ∀ H' dp do_,H dp=none→H do_=none→(∀ b u,b≠p→H b=some u→H' b=some u)→Pic t H' p dp do_ w h []→H' do_=some (.dT [])→Q .non H'
def spCC (t:Adr):Sp:=fun vs H Q _=>∃ (a dp do_:Addr) (pw ph:Int) (ps:List Pt) (x y:Int),vs=[.ref a,.int x,.int y]∧Pic t H a dp do_ pw ph ps∧1≤x∧x≤pw∧1≤y∧y≤ph∧Q .non H
def xqr (t:Adr):Sp:=fun vs H Q _=>∃ (a dp do_:Addr) (pw ph:Int) (ps:List Pt),vs=[.ref a]∧Pic t H a dp do_ pw ph ps∧∀ H' l qs,Same H H'→H' l=some (.lst (qs.map V.ref))→PtsL H' ps qs→Q (.ref l) H'
def spCL (t:Adr):Sp:=fun vs H Q _=>∃ (a dp do_:Addr) (pw ph:Int) (ps:List Pt) (nm:Str) (x y:Int),vs=[.ref a,.str nm,.int x,.int y]∧Pic t H a dp do_ pw ph ps∧(∀ p ∈ ps,p.nm≠nm→p.x≠x∧p.y≠y)∧∀ H',Same H H'→Q .non H'
def spCS (t:Adr):Sp:=fun vs H Q _=>∃ (a dp do_:Addr) (pw ph:Int) (ps:List Pt) (b:Bool) (r:Int),vs=[.ref a,.str (x8 b),.int r]∧Pic t H a dp do_ pw ph ps∧1≤r∧r≤ph∧∀ H',Same H H'→Q .non H'
def xqz (t:Adr):Sp:=fun vs H Q _=>∃ (a dp do_:Addr) (pw ph:Int) (ps:List Pt) (nm:Str) (x y:Int) (sd:Str) (lo hi:Int) (hv:V),vs=[.ref a,.str nm,.int x,.int y,.str sd,.int lo,hv]∧Pic t H a dp do_ pw ph ps ∧
 ((hv=.non∧hi=ph)∨hv=.int hi)∧isNm nm=true∧1≤x∧x≤pw∧1≤y∧y≤ph∧(sd="left"∨sd="right"∨sd="both")∧1≤lo∧lo≤hi∧hi≤ph∧(∀ p ∈ ps,p.nm≠nm∧p.x≠x∧p.y≠y)∧ps.length < 12 ∧
 ∀ H',(∀ b u,b≠dp→H b=some u→H' b=some u)→Pic t H' a dp do_ pw ph (ps ++ [⟨nm,x,y,sd,lo,hi⟩])→Q .non H'
section
variable {P:Program} {w:World} {K:PySem.W.Frag} {mg:Str→Option Value} {base:Heap} {t:Adr}
theorem ok_n (T:Txt w K mg t):FnOk true P w K mg base (CXo P w) 2 t.f_n t.d_n ["self", "width", "height"] (xnu t):=by
 refine T.F_n.okn (k:=1) sc_n (fun vs H Q E h=>?_) (fun cdv A outer s H vs Q E hr h=>?_)
 ·obtain ⟨p,dx,pw,ph,rfl,_⟩:=h
  rfl
 ·obtain ⟨p,dx,pw,ph,rfl,h⟩:=h
  refine ⟨_,xg (xaf (PW.pt (xbp (xbc (xbd (xq (ok_r T) (hr.mono (by decide)) rfl T.g_r T.F_r.kp T.b_r .nil xn (xa (pv 1) (xa (xh) (xa (xe7 (v:=.int 30) rfl T.v_ax.choose_spec ⟨_,rfl⟩) (xb))))))) (xba (xbc (xbd (xq (ok_r T) (hr.mono (by decide)) rfl T.g_r T.F_r.kp T.b_r .nil xn (xa (pv 2) (xa (xh) (xa (xe7 (v:=.int 16) rfl T.v_a1.choose_spec ⟨_,rfl⟩) (xb)))))))))) (xk (xa5)) (xaa))
   (xg (xei (pv 0) (pv 1) rfl)
   (xg (xei (pv 0) (pv 2) rfl)
   (xg (xei (pv 0) (xl1) rfl)
   (xk (xei (pv 0) (xmg) rfl))))),?_⟩
  obtain ⟨hp,w1,w2,h1,h2,q⟩:=h
  refine ⟨_,rfl,pw,1,30,rfl,w1,w2,true,rfl,iteF ⟨_,rfl,ph,1,16,rfl,h1,h2,true,rfl,iteF ?_⟩⟩
  refine ⟨_,rfl,_,rfl,p,_,dx,_,rfl,hp,T.c_k,T.n_av,(by show 0 < 1000; decide),?_⟩
  refine ⟨_,rfl,_,rfl,p,_,dx,_,rfl,xf,T.c_k,T.n_at,(by show 1 < 1000; decide),?_⟩
  rw [xgh]
  refine fun dp hdp=>?_
  have n1:p≠dp:=xm xf hdp
  refine ⟨_,rfl,p,_,dx,_,rfl,(by rw [xj n1]; exact xf),T.c_k,T.n_au,(by show 2 < 1000; decide),fun do_ hdo=>?_⟩
  have n2:p≠do_:=xm xf hdo
  have n3:dp≠do_:=xm (by rw [xj (Ne.symm n1)]; exact xf) hdo
  refine ⟨_,rfl,p,_,dx,_,rfl,(by rw [xj n2]; exact xf),T.c_k,T.n_aw,(by show 3 < 1000; decide),?_⟩
  rw [xj (Ne.symm n1)] at hdp
  have hdo':H do_=none:=by
   have z:=hdo
   rw [xj (Ne.symm n2),xj (Ne.symm n3),xj (Ne.symm n2)] at z
   exact z
  refine q _ dp do_ hdp hdo' (fun b u nb e=>?_) ⟨⟨dx,xf⟩,⟨[],?_,.nil⟩,w1,w2,h1,h2,Nat.zero_le _⟩ ?_
  ·have c1:b≠dp:=xm e hdp
   have c2:b≠do_:=fun z=>by
    subst z
    rw [xj nb,xj c1,xj nb] at hdo
    rw [e] at hdo
    cases hdo
   rw [xj nb,xj c2,xj nb,xj c1,xj nb]
   exact e
  ·rw [xj (Ne.symm n1),xj n3,xj (Ne.symm n1)]
   exact xf
  ·rw [xj (Ne.symm n2)]
   exact xf
theorem ok_b (T:Txt w K mg t):FnOk true P w K mg base (CXo P w) 2 t.f_b t.d_b ["self", "x", "y"] (spCC t):=by
 refine T.F_b.okn (k:=1) sc_b (fun vs H Q E h=>?_) (fun cdv A outer s H vs Q E hr h=>?_)
 ·obtain ⟨a,dp,do_,pw,ph,ps,x,y,rfl,_⟩:=h
  rfl
 ·obtain ⟨a,dp,do_,pw,ph,ps,x,y,rfl,h⟩:=h
  refine ⟨_,xk (xaf (PW.pt (xbp (xbc (xbd (xq (ok_r T) (hr.mono (by decide)) rfl T.g_r T.F_r.kp T.b_r .nil xn (xa (pv 1) (xa (xh) (xa (xa8 (pv 0) rfl) (xb))))))) (xba (xbc (xbd (xq (ok_r T) (hr.mono (by decide)) rfl T.g_r T.F_r.kp T.b_r .nil xn (xa (pv 2) (xa (xh) (xa (xa8 (pv 0) rfl) (xb)))))))))) (xk (xa5)) (xaa)),?_⟩
  obtain ⟨pic,x1,x2,y1,y2,q⟩:=h
  obtain ⟨⟨dx,hp⟩,_,_⟩:=id pic
  exact ⟨_,rfl,_,rfl,a,_,dx,_,_,rfl,hp,T.c_k,T.n_av,lkW,x,1,pw,rfl,x1,x2,true,rfl,iteF ⟨_,rfl,_,rfl,a,_,dx,_,_,rfl,hp,T.c_k,T.n_at,lkH,y,1,ph,rfl,y1,y2,true,rfl,iteF q⟩⟩
theorem ok_e (T:Txt w K mg t):FnOk true P w K mg base (CXo P w) 1 t.f_e t.d_e ["self"] (xqr t):=by
 refine T.F_e.okn (k:=0) sc_e (fun vs H Q E h=>?_) (fun cdv A outer s H vs Q E hr h=>?_)
 ·obtain ⟨a,dp,do_,pw,ph,ps,rfl,_⟩:=h
  rfl
 ·obtain ⟨a,dp,do_,pw,ph,ps,rfl,h⟩:=h
  refine ⟨_,xk (x5 (xn4 (xcj rfl (xbe (zs:=["name", "rest"]) (ys:=[]) (fr:=[]) (N0:=["self"]) (sc0:=xi s_e) (by decide +kernel) rfl rfl rfl) (xmw (xa8 (pv 0) rfl)) (fun _ _ _ _ _ ow nd=>(xca rfl (xx (xr (i:=0) nd rfl (Or.inl (ow _ (by simp))) (Or.inr (ow _ (by simp)))) (xx (xr (i:=1) nd rfl (Or.inl (ow _ (by simp))) (Or.inr (ow _ (by simp)))) (xbb))):PG _ _ (gTup K 2 _))) (xgd (xcl (by decide) (xcl (by decide) (xfm)))) (fun _ _ _ _ _=>xce) (fun _ _ _ _ _=>xp (r:=xnc K) xom (xau (xa (pv 0) (xb))) (pv 1))))),?_⟩
  obtain ⟨pic,q⟩:=h
  obtain ⟨⟨dx,hp⟩,⟨kvs,hk,pl⟩,_⟩:=id pic
  refine ⟨_,rfl,a,_,dx,_,_,rfl,hp,T.c_k,T.n_au,lkP,dp,kvs,rfl,hk,fun ob nf l hl=>?_⟩
  have nl:l≠dp:=fun z=>by
   rw [z,xf] at hl
   cases hl
  have hl0:H l=none:=by rwa [xj nl] at hl
  refine xct kvs.length (fun i xs H2=>∃ qs:List Addr,xs=qs.map V.ref∧qs.length≤i∧H2 dp=some (.frz ob (.dK kvs))∧(∀ b u,b≠dp→H b=some u→H2 b=some u)∧H2 l=some (.lst xs)∧PtsL H2 (ps.take i) qs) ?_ ?_ ?_ ?_
  ·refine ⟨[],rfl,Nat.le_refl _,?_,fun b u nb e=>?_,xf,by simpa using PtsL.nil⟩
   ·rw [xj (Ne.symm nl)]
    exact xf
   ·rw [xj (xm e hl0),xj nb]
    exact e
  ·rintro i xs H2 lt ⟨qs,_,_,hd,_⟩
   exact ⟨hd,lt⟩
  ·rintro i xs H2 v H3 lt ⟨qs,rfl,ql,hd,sm,hl2,pts⟩ ⟨p,k,x,hx,rfl,hpn,rfl⟩ N hN
   obtain ⟨pt,q0,hpt,rfl,rfl,hq0⟩:=pl.get hx
   have e0:H2 q0=some (.tup (ptV pt)):=sm _ _ (xbk hq0 hk (fun z=>nomatch z)) hq0
   refine ⟨p,_,rfl,SqT.of xf,rfl,_,_,rfl,_,_,rfl,rfl,?_⟩
   refine xrd ?_
   have n0:q0≠p:=xm e0 hpn
   refine ⟨_,rfl,(by show 1≤sizeLine; decide),fun p1 h1=>⟨_,rfl,p1,q0,_,ptV pt,rfl,rfl,SqT.of xf,SqT.of ?_,(by simp),(by show 1 + 5≤sizeLine; decide),(fun z=>nomatch z),fun _ p2 h2=>?_⟩⟩
   ·rw [xj (xm (by rw [xj n0]; exact e0) h1),xj n0]
    exact e0
   have up:∀ b u,H2 b=some u→(upd (upd (upd H2 p (.tup [.str pt.nm,.ref q0])) p1 (.tup [.str pt.nm])) p2 (.tup ([.str pt.nm] ++ ptV pt))) b=some u:=fun b u e=>by
    have c1:b≠p:=xm e hpn
    have e1:upd H2 p (.tup [.str pt.nm,.ref q0]) b=some u:=by rw [xj c1]; exact e
    have c2:b≠p1:=xm e1 h1
    have e2:upd (upd H2 p (.tup [.str pt.nm,.ref q0])) p1 (.tup [.str pt.nm]) b=some u:=by rw [xj c2]; exact e1
    rw [xj (xm e2 h2)]
    exact e2
   have c3:l≠p2:=xm (show upd (upd H2 p (.tup [.str pt.nm,.ref q0])) p1 (.tup [.str pt.nm]) l=some (.lst (qs.map V.ref)) from by
    have c1:l≠p:=xm hl2 hpn
    have e1:upd H2 p (.tup [.str pt.nm,.ref q0]) l=some (.lst (qs.map V.ref)):=by rw [xj c1]; exact hl2
    rw [xj (xm e1 h1)]
    exact e1) h2
   have tk:ps.take (i + 1)=ps.take i ++ [pt]:=by
    rw [List.take_add_one,hpt]
    rfl
   have ll:qs.length < sizeLine:=Nat.lt_trans (by have:=pl.len; have:=pic.len; omega:qs.length < 13) (by decide)
   refine ⟨up _ _ hl2,by rw [List.length_map]; exact ll,hN _ _ ⟨qs ++ [p2],by simp,by simp; omega,?_,fun b u nb e=>?_,xf,?_⟩⟩
   ·rw [xj (Ne.symm nl)]
    exact up _ _ hd
   ·have e2:=up _ _ (sm b u nb e)
    rw [xj (xm e hl0)]
    exact e2
   ·rw [tk]
    refine PtsL.snoc (PtsL.keep (fun b xs e=>?_) pts) ?_
    ·have e2:=up _ _ e
     rw [xj (xbk e2 (up _ _ hl2) (fun z=>nomatch z))]
     exact e2
    ·rw [xj (Ne.symm c3)]
     exact xf
  ·rintro xs H2 ⟨qs,rfl,_,hd,sm,hl2,pts⟩
   refine ⟨⟨hd,Nat.le_refl _⟩,dp,ob,_,hd,nf,q _ l qs (fun b u e=>?_) ?_ (PtsL.keep (fun b xs e=>?_) (by rw [pl.len,List.take_length] at pts; exact pts))⟩
   ·by_cases c:b=dp
    ·subst c
     rw [hk] at e
     cases e
     exact xf
    ·rw [xj c]
     exact sm b u c e
   ·rw [xj nl]
    exact hl2
   ·rw [xj (xbk e hd (fun z=>nomatch z))]
    exact e
theorem ok_a (T:Txt w K mg t):FnOk true P w K mg base (CXo P w) 2 t.f_a t.d_a ["self", "name", "x", "y"] (spCL t):=by
 refine T.F_a.okn (k:=1) sc_a (fun vs H Q E h=>?_) (fun cdv A outer s H vs Q E hr h=>?_)
 ·obtain ⟨a,dp,do_,pw,ph,ps,nm,x,y,rfl,_⟩:=h
  rfl
 ·obtain ⟨a,dp,do_,pw,ph,ps,nm,x,y,rfl,h⟩:=h
  refine ⟨_,xg (xcb rfl (xbe (zs:=["other"]) (ys:=["name"]) (fr:=[1]) (N0:=["self", "name", "x", "y", "others", "other"]) (sc0:=xi s_a) (by decide +kernel) rfl rfl rfl) (xax (xc9 (pv 0) T.c_k T.m_e (ok_e T) (hr.mono (by decide)) T.b_e .nil xn)) (fun _ _ _ _ _ ow nd=>xr (i:=0) nd rfl (Or.inl (ow _ (by simp))) (Or.inr (ow _ (by simp)))) (xbo (by decide)) (fun _ _ _ _ _=>xc8 (xt xdr (xaq (r:=rIxT K) xes (pv 0) (xh) (fun _ _=>rfl)) (pv 1) (x0 _))) (fun _ _ _ _ _=>pv 0) (j:=4) rfl (Or.inl rfl))
   (xg (xbu PassesOwn.never rfl (xax (pv 4)) (xr (i:=5) sc_a.nd rfl (Or.inl rfl)) (xk (xaf (xt xbl (xaq xes (pv 5) (xh) (fun _ _=>rfl)) (pv 2) (x0 _)) (xk (xa5)) (xaa))))
   (xk (xbu PassesOwn.never rfl (xax (pv 4)) (xr (i:=5) sc_a.nd rfl (Or.inl rfl)) (xk (xaf (xt xbl (xaq xes (pv 5) (xh) (fun _ _=>rfl)) (pv 3) (x0 _)) (xk (xa5)) (xaa)))))),?_⟩
  obtain ⟨pic,no,q⟩:=h
  obtain ⟨⟨dx,hp⟩,⟨kvs,hk,pl⟩,_⟩:=id pic
  refine ⟨_,rfl,a,dx,_,rfl,hp,xcg (by decide +kernel),a,dp,do_,pw,ph,ps,rfl,pic,fun H1 l1 qs s1 hl1 pt1=>⟨l1,rfl,⟨_,SqL.of hl1⟩,fun l hl=>?_⟩⟩
  refine xct qs.length (fun i xs H2=>∃ os:List Addr,xs=os.map V.ref∧os.length≤i∧Same H1 H2∧H2 l=some (.lst xs)∧∀ o ∈ os,∃ p ∈ ps,p.nm≠nm∧H1 o=some (.tup (.str p.nm :: ptV p))) ?_ ?_ ?_ ?_
  ·exact ⟨[],rfl,Nat.le_refl _,xo (Same.refl _) hl,xf,fun o z=>nomatch z⟩
  ·rintro i xs H2 lt ⟨os,_,_,s2,_⟩
   exact ⟨_,.ref qs[i],SqL.of (s2 _ _ hl1),by simp [lt]⟩
  ·rintro i xs H2 v H3 lt ⟨os,rfl,ol,s2,hl2,hos⟩ ⟨rfl,hv⟩ N hN
   have hv':=hv _ (SqL.of (s2 _ _ hl1))
   rw [List.getElem?_map] at hv'
   obtain ⟨o,ho,rfl⟩:=Option.map_eq_some_iff.mp hv'
   obtain ⟨p,hpp,ep⟩:=pt1.get ho
   refine ⟨_,rfl,o,_,0,_,rfl,rfl,SqT.of (s2 _ _ ep),rfl,_,rfl,rfl,_,rfl,ite2 (fun c=>?_) (fun c=>?_)⟩
   ·have cn:p.nm≠nm:=fun z=>by
     rw [z] at c
     simp at c
    refine ⟨_,rfl,hl2,(by rw [List.length_map]; exact Nat.lt_trans (by have:=pt1.len; have:=pic.len; omega:os.length < 13) (by decide)),hN _ _ ⟨os ++ [o],by simp,by simp; omega,?_,xf,?_⟩⟩
    ·intro b u e
     by_cases cb:b=l
     ·subst cb
      rw [e] at hl
      cases hl
     ·rw [xj cb]
      exact s2 b u e
    ·intro o' ho'
     rcases List.mem_append.mp ho' with z | z
     ·exact hos o' z
     ·have:=List.mem_singleton.mp z
      subst this
      exact ⟨p,List.mem_of_getElem? hpp,cn,ep⟩
   ·exact hN _ _ ⟨os,rfl,by omega,s2,hl2,hos⟩
  ·rintro xs H2 ⟨os,rfl,ol,s2,hl2,hos⟩
   refine ⟨⟨_,SqL.of (s2 _ _ hl1),by simp⟩,?_⟩
   have loop:∀ (o:Addr),o ∈ os→∃ p ∈ ps,p.nm≠nm∧H2 o=some (.tup (.str p.nm :: ptV p)):=fun o ho=>by
    obtain ⟨p,h1,h2,h3⟩:=hos o ho
    exact ⟨p,h1,h2,s2 _ _ h3⟩
   refine ⟨_,rfl,l,rfl,⟨_,SqL.of hl2⟩,xb7 (xs:=os.map V.ref) (Pv:=fun i σ H3=>∃ v5:Option V,σ=[some (.ref a),some (.str nm),some (.int x),some (.int y),some (.ref l),v5]∧H2=H3) ⟨_,rfl,rfl⟩ (fun _ _ _ _ ⟨_,_,z⟩=>by rw [← z]; exact SqL.of hl2) ?_ ?_⟩
   ·rintro i v σ _ hv ⟨v5,rfl,rfl⟩
    rw [List.getElem?_map] at hv
    obtain ⟨o,ho,rfl⟩:=Option.map_eq_some_iff.mp hv
    obtain ⟨p,m1,m2,m3⟩:=loop o (List.mem_of_getElem? ho)
    refine ⟨_,rfl,o,_,1,_,rfl,rfl,SqT.of m3,rfl,_,rfl,rfl,_,rfl,ifN (decide_eq_false fun z=>(no p m1 m2).1 (V.int.inj z)) ⟨_,rfl,rfl⟩⟩
   ·rintro σ _ ⟨v5,rfl,rfl⟩
    refine ⟨_,rfl,l,rfl,⟨_,SqL.of hl2⟩,xb7 (xs:=os.map V.ref) (Pv:=fun i σ H3=>∃ v5:Option V,σ=[some (.ref a),some (.str nm),some (.int x),some (.int y),some (.ref l),v5]∧H2=H3) ⟨_,rfl,rfl⟩ (fun _ _ _ _ ⟨_,_,z⟩=>by rw [← z]; exact SqL.of hl2) ?_ ?_⟩
    ·rintro i v σ _ hv ⟨v5,rfl,rfl⟩
     rw [List.getElem?_map] at hv
     obtain ⟨o,ho,rfl⟩:=Option.map_eq_some_iff.mp hv
     obtain ⟨p,m1,m2,m3⟩:=loop o (List.mem_of_getElem? ho)
     refine ⟨_,rfl,o,_,2,_,rfl,rfl,SqT.of m3,rfl,_,rfl,rfl,_,rfl,ifN (decide_eq_false fun z=>(no p m1 m2).2 (V.int.inj z)) ⟨_,rfl,rfl⟩⟩
    ·rintro σ _ ⟨v5,rfl,rfl⟩
     exact q _ (s1.trans s2)
theorem ok_c (T:Txt w K mg t):FnOk true P w K mg base (CXo P w) 4 t.f_c t.d_c ["self", "side", "row"] (spCS t):=by
 refine T.F_c.okn (k:=3) sc_c (fun vs H Q E h=>?_) (fun cdv A outer s H vs Q E hr h=>?_)
 ·obtain ⟨a,dp,do_,pw,ph,ps,b,r,rfl,_⟩:=h
  rfl
 ·obtain ⟨a,dp,do_,pw,ph,ps,b,r,rfl,h⟩:=h
  refine ⟨_,xg (xav (xq (ok_aq T) (hr.mono (by decide)) rfl T.g_aq T.F_aq.kp T.b_aq .nil xn (xa (pv 1) (xa (xa8 (pv 0) rfl) (xb)))))
   (xk (xaf (xbc (xbd (xq (ok_r T) (hr.mono (by decide)) rfl T.g_r T.F_r.kp T.b_r .nil xn (xa (pv 2) (xa (xh) (xa (xa8 (pv 0) rfl) (xb))))))) (xk (xa5)) (xaa))),?_⟩
  obtain ⟨pic,r1,r2,q⟩:=h
  obtain ⟨⟨dx,hp⟩,_,_⟩:=id pic
  refine ⟨_,rfl,_,rfl,a,_,dx,_,_,rfl,hp,T.c_k,T.n_av,lkW,b,pw,rfl,fun p H1 hp1 sd1 s1=>?_⟩
  exact ⟨_,rfl,_,rfl,a,_,dx,_,_,rfl,(s1 _ _ hp),T.c_k,T.n_at,lkH,r,1,ph,rfl,r1,r2,true,rfl,iteF (q H1 s1)⟩
theorem ok_f (T:Txt w K mg t):FnOk true P w K mg base (CXo P w) 3 t.f_f t.d_f ["self", "name", "x", "y", "sides", "low", "high"] (xqz t):=by
 refine T.F_f.okn (k:=2) sc_f (fun vs H Q E h=>?_) (fun cdv A outer s H vs Q E hr h=>?_)
 ·obtain ⟨a,dp,do_,pw,ph,ps,nm,x,y,sd,lo,hi,hv,rfl,_⟩:=h
  rfl
 ·obtain ⟨a,dp,do_,pw,ph,ps,nm,x,y,sd,lo,hi,hv,rfl,h⟩:=h
  refine ⟨_,xg (xv (i:=7) sc_f.nd rfl (Or.inl rfl) (xcc (xt xeh (pv 6) (xa0) (x0 _)) (xa8 (pv 0) rfl) (pv 6)))
   (xg (xaf (xbc (xbd (xq (ok_ar T) (hr.mono (by decide)) rfl T.g_ar T.F_ar.kp T.b_ar .nil xn (xa (pv 1) (xb))))) (xk (xa5)) (xaa))
   (xg (xav (xd0 (pv 0) T.c_k T.m_b (ok_b T) (hr.mono (by decide)) T.b_b .nil xn (xa (pv 2) (xa (pv 3) (xb)))))
   (xg (xaf (PW.pt (xbp (xbc (xbd (xab xbi rfl T.n_isinstance boot_isinstance (xa (pv 4) (xa (xbz (v:=.ty "str") rfl T.n_str boot_str rfl) (xb)))))) (xba (xic (xkr (pv 4) rfl T.g_ap T.D_ap))))) (xk (xa5)) (xaa))
   (xg (xaf (PW.pt (xbp (xbc (xbd (xq (ok_r T) (hr.mono (by decide)) rfl T.g_r T.F_r.kp T.b_r .nil xn (xa (pv 5) (xa (xh) (xa (xa8 (pv 0) rfl) (xb))))))) (xba (xbc (xbd (xq (ok_r T) (hr.mono (by decide)) rfl T.g_r T.F_r.kp T.b_r .nil xn (xa (pv 7) (xa (pv 5) (xa (xa8 (pv 0) rfl) (xb)))))))))) (xk (xa5)) (xaa))
   (xg (xaf (xic (xku (xcu hr) (pv 1) (xa8 (pv 0) rfl))) (xk (xa5)) (xaa))
   (xg (xaf (xt xrb (xab xlp rfl T.n_len boot_len (xa (xa8 (pv 0) rfl) (xb))) (xe7 (v:=.int 12) rfl T.v_az.choose_spec ⟨_,rfl⟩) (x0 _)) (xk (xa5)) (xaa))
   (xg (xav (xd0 (pv 0) T.c_k T.m_a (ok_a T) (hr.mono (by decide)) T.b_a .nil xn (xa (pv 1) (xa (pv 2) (xa (pv 3) (xb))))))
   (xk (xit (xcu hr) (xa8 (pv 0) rfl) (pv 1) (xau (xa (pv 2) (xa (pv 3) (xa (pv 4) (xa (pv 5) (xa (pv 7) (xb))))))) rfl))))))))),?_⟩
  obtain ⟨pic,hhv,hn,x1,x2,y1,y2,hsd,l1,l2,l3,no,len,q⟩:=h
  obtain ⟨⟨dx,hp⟩,⟨kvs,hk,pl⟩,_⟩:=id pic
  have hsd':(valV ([(Sum.inr "left",V.str "right"),(Sum.inr "right",V.str "left"),(Sum.inr "both",V.str "both")]:List (Key × V)) (Sum.inr sd)).isSome=true:=by
   rcases hsd with rfl | rfl | rfl <;> decide +kernel
  rcases hhv with ⟨rfl,e⟩ | rfl
  ·obtain rfl:=e.symm
   refine ⟨_,rfl,rfl,_,rfl,ifP (by rfl) ⟨_,rfl,a,_,dx,_,_,rfl,hp,T.c_k,T.n_at,lkH,?_⟩⟩
   refine ⟨_,rfl,nm,rfl,hn,true,rfl,iteF ?_⟩
   refine ⟨_,rfl,a,dx,_,rfl,hp,xcg (by decide +kernel),_,rfl,_,rfl,a,dp,do_,pw,ph,ps,x,y,rfl,pic,x1,x2,y1,y2,?_⟩
   refine ⟨_,rfl,_,_,rfl,.inl ⟨_,_,true,.str _,rfl,xbv,true,rfl,iteF ⟨_,rfl,.inr sd,rfl,false,(by rw [hsd']; rfl),iteF ?_⟩⟩⟩
   refine ⟨_,rfl,_,rfl,a,_,dx,_,_,rfl,hp,T.c_k,T.n_at,lkH,lo,1,ph,rfl,l1,(by omega),true,rfl,iteF ⟨_,rfl,_,rfl,_,rfl,a,_,dx,_,_,rfl,hp,T.c_k,T.n_at,lkH,ph,lo,ph,rfl,(by omega),(by omega),true,rfl,iteF ?_⟩⟩
   refine ⟨_,rfl,_,rfl,a,_,dx,_,_,rfl,hp,T.c_k,T.n_au,lkP,dp,none,rfl,(by rw [← pl.no (nm:=nm) (fun p hp=>(no p hp).1)]; exact DGet.k (k:=.inr nm) hk),false,rfl,iteF ?_⟩
   refine ⟨_,rfl,a,_,dx,_,_,rfl,hp,T.c_k,T.n_au,lkP,dp,kvs,rfl,hk,_,_,rfl,rfl,_,rfl,ifN (decide_eq_false (by have:=pl.len; omega)) ?_⟩
   refine ⟨_,rfl,a,dx,_,rfl,hp,xcg (by decide +kernel),_,rfl,_,rfl,_,rfl,a,dp,do_,pw,ph,ps,nm,x,y,rfl,pic,fun p hp _=>(no p hp).2,fun H1 s1=>?_⟩
   refine ⟨_,rfl,_,rfl,_,rfl,_,rfl,_,rfl,(by show 5≤sizeLine; decide),fun q1 hq1=>?_⟩
   have hp1:upd H1 q1 (.tup [.int x,.int y,.str sd,.int lo,.int ph]) a=some (.ins t.C_k dx (picF pw ph dp do_)):=by rw [xj (xm (s1 _ _ hp) hq1)]; exact s1 _ _ hp
   have hk1:upd H1 q1 (.tup [.int x,.int y,.str sd,.int lo,.int ph]) dp=some (.dK kvs):=by rw [xj (xm (s1 _ _ hk) hq1)]; exact s1 _ _ hk
   refine ⟨_,rfl,a,_,dx,_,_,rfl,hp1,T.c_k,T.n_au,lkP,_,rfl,dp,_,rfl,DPut.k (k:=.inr nm) hk1 (Nat.lt_trans (by have:=pl.len; omega:kvs.length < 12) (by decide)),?_⟩
   rw [xda (.ref q1) (pl.no (nm:=nm) (fun p hp=>(no p hp).1))]
   have nq:q1≠dp:=fun z=>by
    subst z
    rw [s1 _ _ hk] at hq1
    cases hq1
   refine q _ (fun b u nb e=>?_) ⟨⟨dx,?_⟩,⟨_,xf,Pl.snoc (p:=⟨nm,x,y,sd,lo,ph⟩) (pl.keep (fun b xs e=>?_)) ?_⟩,pic.w1,pic.w2,pic.h1,pic.h2,(by rw [List.length_append]; exact len)⟩
   ·rw [xj nb,xj (xm (s1 _ _ e) hq1)]
    exact s1 _ _ e
   ·rw [xj (xbk hp1 hk1 (fun z=>nomatch z))]
    exact hp1
   ·have e':=s1 _ _ e
    rw [xj (xbk e' (s1 _ _ hk) (fun z=>nomatch z)),xj (xm e' hq1)]
    exact e'
   ·rw [xj nq]
    exact xf
  ·refine ⟨_,rfl,rfl,_,rfl,ifN (by rfl) ⟨_,rfl,?_⟩⟩
   refine ⟨_,rfl,nm,rfl,hn,true,rfl,iteF ?_⟩
   refine ⟨_,rfl,a,dx,_,rfl,hp,xcg (by decide +kernel),_,rfl,_,rfl,a,dp,do_,pw,ph,ps,x,y,rfl,pic,x1,x2,y1,y2,?_⟩
   refine ⟨_,rfl,_,_,rfl,.inl ⟨_,_,true,.str _,rfl,xbv,true,rfl,iteF ⟨_,rfl,.inr sd,rfl,false,(by rw [hsd']; rfl),iteF ?_⟩⟩⟩
   refine ⟨_,rfl,_,rfl,a,_,dx,_,_,rfl,hp,T.c_k,T.n_at,lkH,lo,1,ph,rfl,l1,(by omega),true,rfl,iteF ⟨_,rfl,_,rfl,_,rfl,a,_,dx,_,_,rfl,hp,T.c_k,T.n_at,lkH,hi,lo,ph,rfl,(by omega),(by omega),true,rfl,iteF ?_⟩⟩
   refine ⟨_,rfl,_,rfl,a,_,dx,_,_,rfl,hp,T.c_k,T.n_au,lkP,dp,none,rfl,(by rw [← pl.no (nm:=nm) (fun p hp=>(no p hp).1)]; exact DGet.k (k:=.inr nm) hk),false,rfl,iteF ?_⟩
   refine ⟨_,rfl,a,_,dx,_,_,rfl,hp,T.c_k,T.n_au,lkP,dp,kvs,rfl,hk,_,_,rfl,rfl,_,rfl,ifN (decide_eq_false (by have:=pl.len; omega)) ?_⟩
   refine ⟨_,rfl,a,dx,_,rfl,hp,xcg (by decide +kernel),_,rfl,_,rfl,_,rfl,a,dp,do_,pw,ph,ps,nm,x,y,rfl,pic,fun p hp _=>(no p hp).2,fun H1 s1=>?_⟩
   refine ⟨_,rfl,_,rfl,_,rfl,_,rfl,_,rfl,(by show 5≤sizeLine; decide),fun q1 hq1=>?_⟩
   have hp1:upd H1 q1 (.tup [.int x,.int y,.str sd,.int lo,.int hi]) a=some (.ins t.C_k dx (picF pw ph dp do_)):=by rw [xj (xm (s1 _ _ hp) hq1)]; exact s1 _ _ hp
   have hk1:upd H1 q1 (.tup [.int x,.int y,.str sd,.int lo,.int hi]) dp=some (.dK kvs):=by rw [xj (xm (s1 _ _ hk) hq1)]; exact s1 _ _ hk
   refine ⟨_,rfl,a,_,dx,_,_,rfl,hp1,T.c_k,T.n_au,lkP,_,rfl,dp,_,rfl,DPut.k (k:=.inr nm) hk1 (Nat.lt_trans (by have:=pl.len; omega:kvs.length < 12) (by decide)),?_⟩
   rw [xda (.ref q1) (pl.no (nm:=nm) (fun p hp=>(no p hp).1))]
   have nq:q1≠dp:=fun z=>by
    subst z
    rw [s1 _ _ hk] at hq1
    cases hq1
   refine q _ (fun b u nb e=>?_) ⟨⟨dx,?_⟩,⟨_,xf,Pl.snoc (p:=⟨nm,x,y,sd,lo,hi⟩) (pl.keep (fun b xs e=>?_)) ?_⟩,pic.w1,pic.w2,pic.h1,pic.h2,(by rw [List.length_append]; exact len)⟩
   ·rw [xj nb,xj (xm (s1 _ _ e) hq1)]
    exact s1 _ _ e
   ·rw [xj (xbk hp1 hk1 (fun z=>nomatch z))]
    exact hp1
   ·have e':=s1 _ _ e
    rw [xj (xbk e' (s1 _ _ hk) (fun z=>nomatch z)),xj (xm e' hq1)]
    exact e'
   ·rw [xj nq]
    exact xf
end
end S25
set_option maxRecDepth 100000
set_option maxHeartbeats 4000000
namespace S25
open PySem L2 XL PyProof.Rows
theorem lkO {w h:Int} {dp do_:Addr}:(picF w h dp do_).lookup ("opened":Str)=some (.ref do_):=by
 unfold picF
 rw [List.lookup_cons,show (("opened":Str) == "width")=false from by decide +kernel]
 show List.lookup ("opened":Str) [("height",V.int h),("placed",V.ref dp),("opened",V.ref do_)]=_
 rw [List.lookup_cons,show (("opened":Str) == "height")=false from by decide +kernel]
 show List.lookup ("opened":Str) [("placed",V.ref dp),("opened",V.ref do_)]=_
 rw [List.lookup_cons,show (("opened":Str) == "placed")=false from by decide +kernel]
 show List.lookup ("opened":Str) [("opened",V.ref do_)]=_
 rw [List.lookup_cons,show (("opened":Str) == "opened")=true from by decide +kernel]
abbrev Seat:=Bool × Int
def xbh (s:Seat):List Key:=[.inr (x8 s.1),.inl s.2]
def xd7 (s:Seat):List V:=[.str (x8 s.1),.int s.2]
theorem xej {a b:Bool} (h:x8 a=x8 b):a=b:=by
 cases a <;> cases b <;> first | rfl | exact absurd h (by decide +kernel)
theorem xki {s t:Seat} (h:xbh s=xbh t):s=t:=by
 simp only [xbh,List.cons.injEq,Sum.inr.injEq,Sum.inl.injEq] at h
 exact Prod.ext (xej h.1) h.2.1
def Sts (H:Hp) (do_:Addr) (ss:List Seat):Prop:=∃ kvs:List (List Key × V),H do_=some (.dT kvs)∧kvs.map (·.1)=ss.map xbh∧ss.Nodup∧ss.length≤32
theorem Sts.same {H H':Hp} {do_:Addr} {ss:List Seat} (s:Same H H') (h:Sts H do_ ss):Sts H' do_ ss:=let ⟨k,e,r⟩:=h; ⟨k,s _ _ e,r⟩
theorem xpt {kvs:List (List Key × V)} {ss:List Seat} (e:kvs.map (·.1)=ss.map xbh) {s:Seat} (h:s ∉ ss):valV kvs (xbh s)=none:=by
 cases z:valV kvs (xbh s) with
 | none=>rfl
 | some v =>
  obtain ⟨i,hi⟩:=xi2 z
  have m:xbh s ∈ kvs.map (·.1):=List.mem_map.mpr ⟨_,List.mem_of_getElem? hi,rfl⟩
  rw [e] at m
  obtain ⟨t,ht,et⟩:=List.mem_map.mp m
  exact absurd ht (by rw [xki et]; exact h)
inductive xa2 (H:Hp):List Seat→List Addr→Prop
 | nil:xa2 H [] []
 | cons {s:Seat} {q:Addr} {ss:List Seat} {qs:List Addr} (h:H q=some (.tup (xd7 s))) (r:xa2 H ss qs):xa2 H (s :: ss) (q :: qs)
theorem xa2.keep {H H':Hp} (k:Tups H H') {ss:List Seat} {qs:List Addr} (h:xa2 H ss qs):xa2 H' ss qs:=by
 induction h with
 | nil=>exact .nil
 | cons h _ ih=>exact .cons (k _ _ h) ih
theorem xa2.len {H:Hp} {ss:List Seat} {qs:List Addr} (h:xa2 H ss qs):qs.length=ss.length:=by
 induction h with
 | nil=>rfl
 | cons _ _ ih=>simp [ih]
def xeo (s t:Seat):Prop:=(s.1=true∧t.1=false)∨(s.1=t.1∧s.2 < t.2)
theorem xma {s t:Seat} (h:lexK (xbh s) (xbh t)=true):xeo s t:=by
 obtain ⟨a,i⟩:=s
 obtain ⟨b,j⟩:=t
 unfold xbh at h
 unfold lexK at h
 by_cases e:x8 a=x8 b
 ·rw [if_pos (by rw [e])] at h
  unfold lexK at h
  by_cases e2:i=j
  ·rw [if_pos (by rw [e2])] at h
   unfold lexK at h
   cases h
  ·rw [if_neg (fun z=>e2 (Sum.inl.inj z))] at h
   exact .inr ⟨xej e,of_decide_eq_true h⟩
 ·rw [if_neg (fun z=>e (Sum.inr.inj z))] at h
  cases a <;> cases b
  ·exact absurd rfl e
  ·exact absurd h (by show ¬ xco (.inr (x8 false)) (.inr (x8 true))=true; decide +kernel)
  ·exact .inl ⟨rfl,rfl⟩
  ·exact absurd rfl e
def unK:List Key→Seat
 | [.inr s,.inl r]=>(decide (s="left"),r)
 | _=>(true,0)
theorem xib (s:Seat):unK (xbh s)=s:=by
 obtain ⟨b,r⟩:=s
 cases b
 ·show (decide (("right":Str)="left"),r)=_
  rw [decide_eq_false (by decide +kernel)]
 ·show (decide (("left":Str)="left"),r)=_
  rw [decide_eq_true rfl]
def xqd (t:Adr):Sp:=fun vs H Q _=>∃ (a dp do_:Addr) (pw ph:Int) (ps:List Pt) (ss:List Seat) (b:Bool) (r:Int),vs=[.ref a,.str (x8 b),.int r]∧Pic t H a dp do_ pw ph ps∧Sts H do_ ss∧1≤r∧r≤ph∧(b,r) ∉ ss∧ss.length < 32 ∧
 ∀ H',(∀ c u,c≠do_→H c=some u→H' c=some u)→Pic t H' a dp do_ pw ph ps→Sts H' do_ (ss ++ [(b,r)])→Q .non H'
def xoh (t:Adr):Sp:=fun vs H Q _=>∃ (a dp do_:Addr) (pw ph:Int) (ps:List Pt) (ss:List Seat),vs=[.ref a]∧Pic t H a dp do_ pw ph ps∧Sts H do_ ss ∧
 ∀ (l:Addr) (ss':List Seat) (qs:List Addr),H l=none→xa2 H ss' qs→ss'.Perm ss→ss'.Pairwise xeo→Q (.ref l) (upd H l (.lst (qs.map V.ref)))
theorem Pic.but {t:Adr} {H H':Hp} {a dp do_:Addr} {w h:Int} {ps:List Pt} {kvs:List (List Key × V)} (e:H do_=some (.dT kvs)) (s:∀ c u,c≠do_→H c=some u→H' c=some u) (p:Pic t H a dp do_ w h ps):Pic t H' a dp do_ w h ps :=
 ⟨let ⟨dx,x⟩:=p.ins; ⟨dx,s _ _ (xbk x e (fun z=>nomatch z)) x⟩,let ⟨k,x,q⟩:=p.pl; ⟨k,s _ _ (xbk x e (fun z=>nomatch z)) x,q.keep fun b xs x=>s _ _ (xbk x e (fun z=>nomatch z)) x⟩,p.w1,p.w2,p.h1,p.h2,p.len⟩
section
variable {P:Program} {w:World} {K:PySem.W.Frag} {mg:Str→Option Value} {base:Heap} {t:Adr}
theorem ok_d (T:Txt w K mg t):FnOk true P w K mg base (CXo P w) 5 t.f_d t.d_d ["self", "side", "row"] (xqd t):=by
 refine T.F_d.okn (k:=4) sc_d (fun vs H Q E h=>?_) (fun cdv A outer s H vs Q E hr h=>?_)
 ·obtain ⟨a,dp,do_,pw,ph,ps,ss,b,r,rfl,_⟩:=h
  rfl
 ·obtain ⟨a,dp,do_,pw,ph,ps,ss,b,r,rfl,h⟩:=h
  refine ⟨_,xg (xav (xd0 (pv 0) T.c_k T.m_c (ok_c T) (hr.mono (by decide)) T.b_c .nil xn (xa (pv 1) (xa (pv 2) (xb)))))
   (xg (xaf (xic (xku (xcu hr) (xau (xa (pv 1) (xa (pv 2) (xb)))) (xa8 (pv 0) rfl))) (xk (xa5)) (xaa))
   (xk (xit (xcu hr) (xa8 (pv 0) rfl) (xau (xa (pv 1) (xa (pv 2) (xb)))) (xe2) rfl))),?_⟩
  obtain ⟨pic,st,r1,r2,no,len,q⟩:=h
  obtain ⟨⟨dx,hp⟩,_,_⟩:=id pic
  obtain ⟨kvs,hk,ek,nd,l32⟩:=id st
  refine ⟨_,rfl,a,dx,_,rfl,hp,xcg (by decide +kernel),_,rfl,_,rfl,a,dp,do_,pw,ph,ps,b,r,rfl,pic,r1,r2,fun H1 s1=>?_⟩
  refine ⟨_,rfl,_,rfl,(by show 2≤sizeLine; decide),fun q1 hq1=>?_⟩
  have s2:Same H1 (upd H1 q1 (.tup [.str (x8 b),.int r])):=xo (Same.refl _) hq1
  have g2:upd H1 q1 (.tup [.str (x8 b),.int r]) q1=some (.tup [.str (x8 b),.int r]):=xf
  revert s2 g2
  generalize upd H1 q1 (.tup [.str (x8 b),.int r])=H2
  intro s2 g2
  have hk2:=s2 _ _ (s1 _ _ hk)
  have hp2:=s2 _ _ (s1 _ _ hp)
  have n0:valV kvs (xbh (b,r))=none:=xpt ek no
  refine ⟨_,rfl,a,_,dx,_,_,rfl,hp2,T.c_k,T.n_aw,lkO,do_,none,rfl,(by rw [← n0]; exact DGet.t (k:=xbh (b,r)) hk2 g2),false,rfl,iteF ?_⟩
  refine ⟨_,rfl,a,_,dx,_,_,rfl,hp2,T.c_k,T.n_aw,lkO,_,rfl,_,rfl,(by show 2≤sizeLine; decide),fun q3 hq3=>?_⟩
  have s3:Same H2 (upd H2 q3 (.tup [.str (x8 b),.int r])):=xo (Same.refl _) hq3
  have g3:upd H2 q3 (.tup [.str (x8 b),.int r]) q3=some (.tup [.str (x8 b),.int r]):=xf
  revert s3 g3
  generalize upd H2 q3 (.tup [.str (x8 b),.int r])=H3
  intro s3 g3
  have kl:kvs.length=ss.length:=by
   have:=congrArg List.length ek
   simpa using this
  refine ⟨do_,_,rfl,DPut.t (k:=xbh (b,r)) (s3 _ _ hk2) g3 (Nat.lt_trans (by omega:kvs.length < 33) (by decide)),?_⟩
  have bt:∀ c u,c≠do_→H c=some u→upd H3 do_ (.dT (putK kvs (xbh (b,r)) (.bl true))) c=some u:=fun c u nc e=>by
   rw [xj nc]
   exact s3 _ _ (s2 _ _ (s1 _ _ e))
  refine q _ bt (Pic.but hk bt pic) ⟨_,xf,?_,?_,?_⟩
  ·rw [xda _ n0,List.map_append,List.map_append,ek]
   rfl
  ·rw [List.nodup_append]
   exact ⟨nd,by simp,fun x hx y hy=>by rw [List.mem_singleton.mp hy]; exact fun e=>no (e ▸ hx)⟩
  ·rw [List.length_append]
   show ss.length + 1≤32
   omega
theorem ok_h (T:Txt w K mg t):FnOk true P w K mg base (CXo P w) 1 t.f_h t.d_h ["self"] (xoh t):=by
 refine T.F_h.okn (k:=0) sc_h (fun vs H Q E h=>?_) (fun cdv A outer s H vs Q E hr h=>?_)
 ·obtain ⟨a,dp,do_,pw,ph,ps,ss,rfl,_⟩:=h
  rfl
 ·obtain ⟨a,dp,do_,pw,ph,ps,ss,rfl,h⟩:=h
  refine ⟨_,xk (x5 (xab (xhg rfl) rfl T.n_sorted PyProof.Rows.Boot.«sorted» (xa (xa8 (pv 0) rfl) (xb)))),?_⟩
  obtain ⟨pic,st,q⟩:=h
  obtain ⟨⟨dx,hp⟩,_,_⟩:=id pic
  obtain ⟨kvs,hk,ek,nd,l32⟩:=id st
  have kl:kvs.length=ss.length:=by
   have:=congrArg List.length ek
   simpa using this
  refine ⟨_,rfl,a,_,dx,_,_,rfl,hp,T.c_k,T.n_aw,lkO,do_,kvs,[false,true],rfl,hk,by omega,fun p hp'=>?_,by decide,fun l ts fr tm pm pw'=>?_⟩
  ·have m:p.1 ∈ kvs.map (·.1):=List.mem_map.mpr ⟨p,hp',rfl⟩
   rw [ek] at m
   obtain ⟨s,_,e⟩:=List.mem_map.mp m
   rw [← e]
   rfl
  rw [ek] at pm
  have back:∀ t ∈ ts,xbh (unK t.1)=t.1:=fun t ht=>by
   obtain ⟨s,_,e⟩:=List.mem_map.mp (pm.mem_iff.mp (List.mem_map.mpr ⟨t,ht,rfl⟩))
   rw [← e,xib]
  have z:=q l ((ts.map (·.1)).map unK) (ts.map (·.2)) fr ?_ ?_ ?_
  ·rw [List.map_map] at z
   exact z
  ·clear pm pw'
   induction ts with
   | nil=>exact .nil
   | cons t ts ih =>
    refine .cons ?_ (ih (fun x hx=>tm x (List.mem_cons_of_mem _ hx)) fun x hx=>back x (List.mem_cons_of_mem _ hx))
    have e:=tm t List.mem_cons_self
    rw [← back t List.mem_cons_self] at e
    exact e
  ·have z2:=pm.map unK
   have e2:(ss.map xbh).map unK=ss:=by
    rw [List.map_map,show (unK ∘ xbh)=id from funext xib]
    exact List.map_id _
   rw [e2] at z2
   exact z2
  ·rw [List.pairwise_map] at pw'
   rw [List.map_map,List.pairwise_map]
   refine pw'.imp_of_mem fun {x y} hx hy hxy=>xma ?_
   show lexK (xbh (unK x.1)) (xbh (unK y.1))=true
   rw [back x hx,back y hy]
   exact hxy
end
end S25
set_option maxRecDepth 100000
set_option maxHeartbeats 4000000
namespace S25
open PySem L2 XL PyProof.Rows
def SsOk (h:Int) (ss:List Seat):Prop:=ss.Nodup∧ss.length≤32∧∀ s ∈ ss,1≤s.2∧s.2≤h
theorem xa2.get {H:Hp} {ss:List Seat} {qs:List Addr} (h:xa2 H ss qs) {i:Nat} {q:Addr} (e:qs[i]?=some q):∃ s,ss[i]?=some s∧H q=some (.tup (xd7 s)):=by
 induction h generalizing i with
 | nil=>simp at e
 | @cons s q' ss qs h _ ih =>
  cases i with
  | zero =>
   simp at e
   subst e
   exact ⟨s,rfl,h⟩
  | succ j=>exact ih (by simpa using e)
theorem xlo {α β:Type} {f:α→β} (inj:∀ a b,f a=f b→a=b) {l:List α} (h:l.Nodup):(l.map f).Nodup:=by
 rw [List.nodup_iff_pairwise_ne,List.pairwise_map]
 exact h.imp fun hne e=>hne (inj _ _ e)
theorem xdw {α:Type} {R:α→α→Prop} (as:∀ a b,R a b→¬ R b a):∀ {l l':List α},l.Perm l'→l.Pairwise R→l'.Pairwise R→l=l'
 | [],l',p,_,_=>(List.Perm.nil_eq p)
 | a :: t,[],p,_,_=>absurd p.symm (by intro z; exact absurd (List.Perm.nil_eq z) (by simp))
 | a :: t,b :: t',p,h,h'=>by
  have h1:=List.pairwise_cons.mp h
  have h2:=List.pairwise_cons.mp h'
  by_cases e:a=b
  ·subst e
   rw [xdw as ((List.perm_cons a).mp p) h1.2 h2.2]
  ·have ma:a ∈ t':=by
    have:=p.mem_iff.mp (List.mem_cons_self (a:=a) (l:=t))
    rcases List.mem_cons.mp this with z | z
    ·exact absurd z e
    ·exact z
   have mb:b ∈ t:=by
    have:=p.mem_iff.mpr (List.mem_cons_self (a:=b) (l:=t'))
    rcases List.mem_cons.mp this with z | z
    ·exact absurd z.symm e
    ·exact z
   exact absurd (h2.1 a ma) (as _ _ (h1.1 b mb))
theorem xen (a b:Seat) (h:xeo a b):¬ xeo b a:=by
 rintro (⟨x,y⟩ | ⟨x,y⟩) <;> rcases h with ⟨z,w⟩ | ⟨z,w⟩
 ·rw [x] at w; cases w
 ·rw [x,y] at z; cases z
 ·rw [z,w] at x; cases x
 ·omega
def xnj (s:Seat):DV:=.tup [.str (x8 s.1),.int s.2]
theorem xol {K:PySem.W.Frag} {H:Hp} {q:Addr} {s:Seat} (h:H q=some (.tup (xd7 s))):Dv K H 1 (.ref q) (xnj s):=by
 refine .tup (SqT.of h) rfl fun j x d h1 h2=>?_
 match j,h1,h2 with
 | 0,h1,h2=>cases h1; cases h2; exact .str
 | 1,h1,h2=>cases h1; cases h2; exact .int
 | j + 2,h1,h2=>simp [xd7] at h1
theorem xa2.dv {K:PySem.W.Frag} {H:Hp} {ss:List Seat} {qs:List Addr} (h:xa2 H ss qs) {l:Addr} (e:H l=some (.lst (qs.map V.ref))):Dv K H 2 (.ref l) (.lst (ss.map xnj)):=by
 refine .lst (SqL.of e) (by rw [List.length_map,List.length_map,h.len]) fun j x d h1 h2=>?_
 rw [List.getElem?_map] at h1 h2
 obtain ⟨q,hq,rfl⟩:=Option.map_eq_some_iff.mp h1
 obtain ⟨p,hp,rfl⟩:=Option.map_eq_some_iff.mp h2
 obtain ⟨p',hp',e'⟩:=h.get hq
 rw [hp] at hp'
 cases hp'
 exact xol e'
theorem xa2.pick {H:Hp}:∀ {ss:List Seat} {ys:List V},ys.length=ss.length→(∀ (j:Nat) (y:V) (s:Seat),ys[j]?=some y→ss[j]?=some s→∃ q,y=.ref q∧H q=some (.tup (xd7 s)))→∃ rs:List Addr,ys=rs.map V.ref∧xa2 H ss rs
 | [],[],_,_=>⟨[],rfl,.nil⟩
 | [],_ :: _,h,_=>by cases h
 | _ :: _,[],h,_=>by cases h
 | s :: ss,y :: ys,h,k=>by
  obtain ⟨q,e,hq⟩:=k 0 y s rfl rfl
  obtain ⟨rs,e2,r⟩:=xa2.pick (ss:=ss) (ys:=ys) (by simpa using h) fun j y s h1 h2=>k (j + 1) y s (by simpa using h1) (by simpa using h2)
  exact ⟨q :: rs,by rw [e,e2]; rfl,.cons hq r⟩
theorem xkb {α:Type} [DecidableEq α]:∀ {l m:List α},l.Nodup→(∀ x ∈ l,x ∈ m)→l.length≤m.length
 | [],m,_,_=>Nat.zero_le _
 | a :: l,m,nd,sub=>by
  obtain ⟨h1,h2⟩:=List.nodup_cons.mp nd
  have ha:=sub a List.mem_cons_self
  have z:=xkb (l:=l) (m:=m.erase a) h2 (fun x hx=>(List.mem_erase_of_ne (fun e:x=a=>h1 (e ▸ hx))).mpr (sub x (List.mem_cons_of_mem _ hx)))
  rw [List.length_erase_of_mem ha] at z
  have:=List.length_pos_of_mem ha
  rw [List.length_cons]
  omega
def ptD (p:Pt):DV:=.tup [.str p.nm,.int p.x,.int p.y,.str p.sd,.int p.lo,.int p.hi]
theorem xqw {K:PySem.W.Frag} {H:Hp} {q:Addr} {p:Pt} (h:H q=some (.tup (.str p.nm :: ptV p))):Dv K H 1 (.ref q) (ptD p):=by
 refine .tup (SqT.of h) rfl fun j x d h1 h2=>?_
 match j,h1,h2 with
 | 0,h1,h2=>cases h1; cases h2; exact .str
 | 1,h1,h2=>cases h1; cases h2; exact .int
 | 2,h1,h2=>cases h1; cases h2; exact .int
 | 3,h1,h2=>cases h1; cases h2; exact .str
 | 4,h1,h2=>cases h1; cases h2; exact .int
 | 5,h1,h2=>cases h1; cases h2; exact .int
 | j + 6,h1,h2=>simp [ptV] at h1
theorem PtsL.dv {K:PySem.W.Frag} {H:Hp} {ps:List Pt} {qs:List Addr} (h:PtsL H ps qs) {l:Addr} (e:H l=some (.lst (qs.map V.ref))):Dv K H 2 (.ref l) (.lst (ps.map ptD)):=by
 refine .lst (SqL.of e) (by rw [List.length_map,List.length_map,h.len]) fun j x d h1 h2=>?_
 rw [List.getElem?_map] at h1 h2
 obtain ⟨q,hq,rfl⟩:=Option.map_eq_some_iff.mp h1
 obtain ⟨p,hp,rfl⟩:=Option.map_eq_some_iff.mp h2
 obtain ⟨p',hp',e'⟩:=h.get hq
 rw [hp] at hp'
 cases hp'
 exact xqw e'
theorem xcp {K:PySem.W.Frag} {H:Hp} {q:Addr} {a b:Int} (h:H q=some (.tup [.int a,.int b])):Dv K H 1 (.ref q) (.tup [.int a,.int b]):=by
 refine .tup (SqT.of h) rfl fun j x d h1 h2=>?_
 match j,h1,h2 with
 | 0,h1,h2=>cases h1; cases h2; exact .int
 | 1,h1,h2=>cases h1; cases h2; exact .int
 | j + 2,h1,h2=>simp at h1
section
variable {P:Program} {w:World} {K:PySem.W.Frag} {mg:Str→Option Value} {base:Heap} {t:Adr}
end
structure PtOk (w h:Int) (p:Pt):Prop where
 nm:isNm p.nm=true
 x1:1≤p.x
 x2:p.x≤w
 y1:1≤p.y
 y2:p.y≤h
 sd:p.sd="left"∨p.sd="right"∨p.sd="both"
 l1:1≤p.lo
 l2:p.lo≤p.hi
 l3:p.hi≤h
structure xfx (w h:Int) (ps:List Pt):Prop where
 ok:∀ p ∈ ps,PtOk w h p
 nn:(ps.map (·.nm)).Nodup
 nx:(ps.map (·.x)).Nodup
 ny:(ps.map (·.y)).Nodup
 le:ps.length≤12
section
variable {P:Program} {w:World} {K:PySem.W.Frag} {mg:Str→Option Value} {base:Heap} {t:Adr}
end
end S25
set_option maxRecDepth 100000
set_option maxHeartbeats 4000000
namespace S25
open PySem L2 XL PyProof.Rows
theorem xpj {c:Nat} (h:48≤c):¬ ([c] < [48]):=by
 rw [List.cons_lt_cons_iff]
 rintro (z | ⟨_,z⟩)
 ·omega
 ·cases z
theorem xpv {c:Nat} (h:c≤57):¬ ([57] < [c]):=by
 rw [List.cons_lt_cons_iff]
 rintro (z | ⟨_,z⟩)
 ·omega
 ·cases z
def xrm:Sp:=fun vs H Q _=>∃ n:Nat,vs=[.str (numT n)]∧n < 100∧∀ H',Same H H'→Q (.int n) H'
def xp6:Sp:=fun vs H Q _=>∃ (l:Addr) (ns:List Nat),vs=[.ref l]∧H l=some (.lst (ns.map fun (n:Nat)=>V.str (numT n)))∧(∀ n ∈ ns,n < 100)∧ns.length≤1000∧∀ H' l',Same H H'→H l'=none→H' l'=some (.lst (ns.map fun (n:Nat)=>V.int (n:Int)))→Q (.ref l') H'
theorem xlm (ns:List Nat):(ns.map fun (n:Nat)=>V.int (n:Int)).all xcm=true:=by
 rw [List.all_eq_true]
 intro z hz
 obtain ⟨i,_,rfl⟩:=List.mem_map.mp hz
 rfl
theorem xn8 (ns:List Nat):inV .non (ns.map fun (n:Nat)=>V.int (n:Int))=false:=by
 unfold inV
 rw [List.any_eq_false]
 intro z hz
 obtain ⟨i,_,rfl⟩:=List.mem_map.mp hz
 exact Bool.false_ne_true
section
variable {P:Program} {w:World} {K:PySem.W.Frag} {mg:Str→Option Value} {base:Heap} {t:Adr}
theorem ok_aa (T:Txt w K mg t):FnOk true P w K mg base (CXo P w) 1 t.f_aa t.d_aa ["word"] (xrm):=by
 refine T.F_aa.okn (k:=0) sc_aa (fun vs H Q E h=>?_) (fun cdv A outer s H vs Q E hr h=>?_)
 ·obtain ⟨n,rfl,_⟩:=h
  rfl
 ·obtain ⟨n,rfl,h⟩:=h
  refine ⟨_,xg (xbu PassesOwn.never rfl (xpe (pv 0)) (xr (i:=1) sc_aa.nd rfl (Or.inl rfl)) (xk (xaf (xbc (xmi xdp xdp (xw) (pv 1) (xw))) (xk (x5 (xa0))) (xaa))))
   (xg (xaf (PW.pt (xbp (xt xbt (xab xdd rfl T.n_len boot_len (xa (pv 0) (xb))) (xau (xa (xh) (xa (xh) (xb)))) (by rfl)) (xba (PW.pt (xek (xt xbl (xab xdd rfl T.n_len boot_len (xa (pv 0) (xb))) (xh) (x0 _)) (xe3 (xt xbl (xaq xp2 (pv 0) (xh) (fun _ _=>rfl)) (xw) (x0 _)))))))) (xk (x5 (xa0))) (xaa))
   (xk (x5 (xad xg8 rfl T.n_int boot_int (xa (pv 0) (xb)))))),?_⟩
  obtain ⟨hn,q⟩:=h
  have hd:=xfh hn
  refine ⟨_,rfl,numT n,rfl,?_,?_⟩
  ·rw [← Array.all_toList,List.all_eq_true]
   intro c hc
   have:=hd c hc
   simp
   omega
  refine xn6 (Pv:=fun i σ H5=>∃ v1:Option V,σ=[some (.str (numT n)),v1]∧H=H5) ⟨_,rfl,rfl⟩ ?_ ?_
  ·rintro i c σ _ hc ⟨v1,rfl,rfl⟩
   have hd':=hd c (List.mem_of_getElem? hc)
   refine ⟨_,rfl,_,_,rfl,rfl,_,rfl,ifP ?_ ⟨_,_,rfl,rfl,_,rfl,ifN ?_ ⟨_,rfl,rfl⟩⟩⟩
   ·exact Bool.not_eq_true' _ |>.mpr (decide_eq_false (xpj hd'.1))
   ·rw [show (Str.ofString "9").cps.toList=[57] from by decide +kernel,decide_eq_false (xpv hd'.2)]
    rfl
  ·rintro σ _ ⟨v1,rfl,rfl⟩
   have hln:=xd6 hn
   have lle:(numT n).length≤2:=by rcases hln with z | z <;> omega
   refine ⟨_,rfl,_,rfl,Nat.le_trans lle (by decide),(by show 2≤sizeLine; decide),fun q1 hq1=>?_⟩
   have s1:Same H (upd H q1 (.tup [.int 1,.int 2])):=xo (Same.refl _) hq1
   have g1:upd H q1 (.tup [.int 1,.int 2]) q1=some (.tup [.int 1,.int 2]):=xf
   revert s1 g1
   generalize upd H q1 (.tup [.int 1,.int 2])=H1
   intro s1 g1
   refine ⟨q1,_,rfl,.inr (SqT.of g1),rfl,rfl,_,rfl,ifN ?_ ?_⟩
   ·rw [if_pos rfl]
    rcases hln with z | ⟨z,_⟩ <;> rw [z] <;> rfl
   refine ⟨_,rfl,_,rfl,Nat.le_trans lle (by decide),rfl,_,rfl,ite2 (fun c=>?_) (fun c=>?_)⟩
   ·have l2:(numT n).length=2:=by
     have:((numT n).length:Int)=2:=by simpa using c
     omega
    obtain ⟨c0,hc0⟩:∃ c0,(numT n).cps.toList[0]?=some c0:=by
     have lz:0 < (numT n).cps.toList.length:=by
      have:(numT n).cps.toList.length=(numT n).length:=by simp [Str.length]
      omega
     exact ⟨_,List.getElem?_eq_getElem lz⟩
    have n48:c0≠48:=fun z=>by
     rcases hln with y | ⟨_,y⟩
     ·omega
     ·exact y (by rw [List.head?_eq_getElem?,hc0,z])
    refine ⟨_,rfl,numT n,0,c0,rfl,rfl,Nat.le_trans lle (by decide),xbs (j:=0) hc0,rfl,_,rfl,ifN ?_ ?_⟩
    ·refine decide_eq_false fun z=>n48 ?_
     have e:=congrArg (fun s:Str=>s.cps.toList) (V.str.inj z)
     have e2:[c0]=[48]:=e.trans (by decide +kernel)
     exact List.head_eq_of_cons_eq e2
    ·exact ⟨_,rfl,numT n,n,rfl,xhv hn,by omega,q _ s1⟩
   ·exact ifN rfl ⟨_,rfl,numT n,n,rfl,xhv hn,by omega,q _ s1⟩
theorem ok_l (T:Txt w K mg t):FnOk true P w K mg base (CXo P w) 2 t.f_l t.d_l ["words"] (xp6):=by
 refine T.F_l.okn (k:=1) sc_l (fun vs H Q E h=>?_) (fun cdv A outer s H vs Q E hr h=>?_)
 ·obtain ⟨l,ns,rfl,_⟩:=h
  rfl
 ·obtain ⟨l,ns,rfl,h⟩:=h
  refine ⟨_,xg (xcb rfl (xbe (zs:=["word"]) (ys:=[]) (fr:=[]) (N0:=["words", "numbers"]) (sc0:=xi s_l) (by decide +kernel) rfl rfl rfl) (xax (pv 0)) (fun _ _ _ _ _ ow nd=>xr (i:=0) nd rfl (Or.inl (ow _ (by simp))) (Or.inr (ow _ (by simp)))) (xbo (by decide)) (fun _ _ _ _ _=>xce) (fun _ _ _ _ _=>xq (ok_aa T) (hr.mono (by decide)) rfl T.g_aa T.F_aa.kp T.b_aa .nil xn (xa (pv 0) (xb))) (j:=1) rfl (Or.inl rfl))
   (xk (x5 (xcc (xt xg2 (xa0) (pv 1) (by rfl)) (xa0) (pv 1)))),?_⟩
  obtain ⟨hl,hn,len,q⟩:=h
  refine ⟨_,rfl,l,rfl,⟨_,SqL.of hl⟩,fun l1 hl1=>?_⟩
  refine xdt (SqL.of hl) (by rw [List.length_map]; exact Nat.lt_of_le_of_lt len (by decide)) hl1 (fun i y _=>∃ n:Nat,ns[i]?=some n∧y=.int (n:Int)) (fun _ _ _ _ _ z=>z) (fun i z H2 hz s2 N hN=>?_) (fun ys H1 s1 el1 ly f1=>?_)
  ·rw [List.getElem?_map] at hz
   obtain ⟨n,hn1,rfl⟩:=Option.map_eq_some_iff.mp hz
   exact ⟨_,rfl,n,rfl,hn n (List.mem_of_getElem? hn1),fun H3 s3=>hN _ _ s3 ⟨n,hn1,rfl⟩⟩
  have ey:ys=ns.map fun (n:Nat)=>V.int (n:Int):=by
   refine xjh (by rw [ly,List.length_map]) fun i y p hy hp=>?_
   obtain ⟨p',a1,a2⟩:=f1 i y hy
   rw [hp] at a1
   cases a1
   exact a2
  subst ey
  exact ⟨_,rfl,l1,_,rfl,.inl (SqL.of el1),rfl,xlm _,_,rfl,ifN (by rw [if_neg (by decide)]; exact xn8 _) ⟨_,rfl,q H1 l1 s1 hl1 el1⟩⟩
end
end S25
set_option maxRecDepth 100000
set_option maxHeartbeats 4000000
namespace S25
open PySem L2 XL PyProof.Rows
def xon:Sp:=fun vs H Q _=>∃ (ws:List Str),vs=[.str (Str.join ⟨#[32]⟩ ws)]∧ws≠[]∧(∀ p ∈ ws,32 ∉ p.cps.toList∧p.cps.toList≠[])∧(Str.join ⟨#[32]⟩ ws).length≤1000∧∀ l,H l=none→Q (.ref l) (upd H l (.lst (ws.map V.str)))
theorem xmm {ws:List Str} (h:∀ p ∈ ws,p.cps.toList≠[]):inV (.str (Str.ofString "")) (ws.map V.str)=false:=by
 unfold inV
 rw [List.any_eq_false]
 intro z hz
 obtain ⟨p,hp,rfl⟩:=List.mem_map.mp hz
 intro e
 have e2:p=Str.ofString "":=by simpa [eqV] using e
 exact h p hp (by rw [e2]; decide +kernel)
theorem xp7 (zs:List Str):(zs.map V.str).all xcm=true:=by
 rw [List.all_eq_true]
 intro z hz
 obtain ⟨i,_,rfl⟩:=List.mem_map.mp hz
 rfl
section
variable {P:Program} {w:World} {K:PySem.W.Frag} {mg:Str→Option Value} {base:Heap} {t:Adr}
theorem ok_af (T:Txt w K mg t):FnOk true P w K mg base (CXo P w) 1 t.f_af t.d_af ["line"] (xon):=by
 refine T.F_af.okn (k:=0) sc_af (fun vs H Q E h=>?_) (fun cdv A outer s H vs Q E hr h=>?_)
 ·obtain ⟨ws,rfl,_⟩:=h
  rfl
 ·obtain ⟨ws,rfl,h⟩:=h
  refine ⟨_,xg (xaf (xbc (xbd (xab xbi rfl T.n_isinstance boot_isinstance (xa (pv 0) (xa (xbz (v:=.ty "str") rfl T.n_str boot_str rfl) (xb)))))) (xk (x5 (xaw (xb)))) (xaa))
   (xg (xv (i:=1) sc_af.nd rfl (Or.inl rfl) (xbm PySem.F.plainAttrs_str PySem.F.slot_str_split PySem.F.type_str_split xie (pv 0) (xa (xw) (xb))))
   (xk (x5 (xcc (xt xg2 (xw) (pv 1) (by rfl)) (xaw (xb)) (pv 1))))),?_⟩
  obtain ⟨ne,fr,len,q⟩:=h
  refine ⟨_,rfl,_,_,rfl,.inl ⟨_,_,true,.str _,rfl,xbv,true,rfl,ifN (by decide) ?_⟩⟩
  refine ⟨_,rfl,rfl,_,_,rfl,rfl,by decide +kernel,Nat.le_trans (Nat.add_le_add_right len 2) (by decide),fun l hl=>?_⟩
  rw [show Str.ofString " "=(⟨#[32]⟩:Str) from by decide +kernel,xf6 ne fun p hp=>(fr p hp).1]
  exact ⟨_,rfl,l,_,rfl,.inl (SqL.of xf),rfl,xp7 _,_,rfl,ifN (by rw [if_neg (by decide)]; exact xmm fun p hp=>(fr p hp).2) ⟨_,rfl,q l hl⟩⟩
end
end S25
set_option maxRecDepth 100000
set_option maxHeartbeats 4000000
namespace S25
open PySem L2 XL PyProof.Rows
def xp5:Sp:=fun vs H Q _=>∃ (es:List Nat) (a b:Nat),vs=[.str (Str.join ⟨#[45]⟩ (es.map numT))]∧((es=[a]∧b=a)∨es=[a,b])∧a < 100∧b < 100∧(Str.join ⟨#[45]⟩ (es.map numT)).length≤1000∧∀ H' l,Same H H'→H l=none→H' l=some (.lst (rngL (a:Int) ((b:Int) + 1)))→Q (.ref l) H'
section
variable {P:Program} {w:World} {K:PySem.W.Frag} {mg:Str→Option Value} {base:Heap} {t:Adr}
theorem ok_an (T:Txt w K mg t):FnOk true P w K mg base (CXo P w) 3 t.f_an t.d_an ["word"] (xp5):=by
 refine T.F_an.okn (k:=2) sc_an (fun vs H Q E h=>?_) (fun cdv A outer s H vs Q E hr h=>?_)
 ·obtain ⟨es,a,b,rfl,_⟩:=h
  rfl
 ·obtain ⟨es,a,b,rfl,h⟩:=h
  refine ⟨_,xg (xv (i:=1) sc_an.nd rfl (Or.inl rfl) (xq (ok_l T) (hr.mono (by decide)) rfl T.g_l T.F_l.kp T.b_l .nil xn (xa (xbm PySem.F.plainAttrs_str PySem.F.slot_str_split PySem.F.type_str_split xie (pv 0) (xa (xw) (xb))) (xb))))
   (xg (xaf (PW.pt (xbp (xt xeh (pv 1) (xa0) (x0 _)) (xba (xt xe9 (xab xac rfl T.n_len boot_len (xa (pv 1) (xb))) (xh) (x0 _))))) (xk (x5 (xaw (xb)))) (xaa))
   (xk (x5 (xad (xc3 rfl) rfl T.n_list boot_list (xa (xad xdx rfl T.n_range boot_range (xa (xaq xam (pv 1) (xh) (fun _ _=>rfl)) (xa (xp xag (xaq xam (pv 1) (xhd xfy (xh)) (fun _ _=>rfl)) (xh)) (xb)))) (xb)))))),?_⟩
  obtain ⟨he,ha,hb,len,q⟩:=h
  have hn:∀ n ∈ es,n < 100:=by
   rcases he with ⟨rfl,rfl⟩ | rfl <;> intro n hm <;> simp at hm <;> omega
  have l2:es.length≤2:=by
   rcases he with ⟨rfl,rfl⟩ | rfl <;> simp
  have ne:es.map numT≠[]:=by
   rcases he with ⟨rfl,rfl⟩ | rfl <;> simp
  refine ⟨_,rfl,rfl,_,_,rfl,rfl,by decide +kernel,Nat.le_trans (Nat.add_le_add_right len 2) (by decide),fun l0 hl0=>?_⟩
  rw [show Str.ofString "-"=(⟨#[45]⟩:Str) from by decide +kernel,xf6 ne fun p hp=>by
   obtain ⟨n,hm,rfl⟩:=List.mem_map.mp hp
   exact xb8 (hn n hm) (by decide),List.map_map]
  have s1:Same H (upd H l0 (.lst (es.map (V.str ∘ numT)))):=xo (Same.refl _) hl0
  have g1:upd H l0 (.lst (es.map (V.str ∘ numT))) l0=some (.lst (es.map (V.str ∘ numT))):=xf
  revert s1 g1
  generalize upd H l0 (.lst (es.map (V.str ∘ numT)))=H1
  intro s1 g1
  refine ⟨l0,es,rfl,g1,hn,by omega,fun H2 l1 s2 fl1 hl1=>?_⟩
  refine ⟨_,rfl,rfl,_,rfl,ifN (by simp) ⟨_,rfl,l1,_,rfl,.inl (SqL.of hl1),_,_,rfl,rfl,_,rfl,ifN (by simp; omega) ?_⟩⟩
  have a0:atI (es.map fun (n:Nat)=>V.int (n:Int)) 0=some (.int (a:Int)):=by
   rcases he with ⟨rfl,rfl⟩ | rfl <;> rfl
  have a1:atI (es.map fun (n:Nat)=>V.int (n:Int)) (-1)=some (.int (b:Int)):=by
   rcases he with ⟨rfl,rfl⟩ | rfl <;> rfl
  refine ⟨_,rfl,l1,_,0,_,rfl,rfl,SqL.of hl1,a0,_,rfl,1,rfl,l1,_,_,_,rfl,rfl,SqL.of hl1,a1,_,_,rfl,rfl,_,_,rfl,fun pr hpr=>?_⟩
  have s3:=xo (o:=.rng (a:Int) ((b:Int) + 1)) (Same.refl _) hpr
  refine ⟨pr,_,_,rfl,xf,⟨by omega,by omega,by omega,by omega⟩,by omega,fun l hl=>?_⟩
  have s4:=xo (o:=.lst (rngL (a:Int) ((b:Int) + 1))) (Same.refl _) hl
  exact q _ l (((s1.trans s2).trans s3).trans s4) (((s1.trans s2).trans s3).free hl) xf
end
end S25
set_option maxRecDepth 100000
set_option maxHeartbeats 4000000
namespace S25
open PySem L2 XL PyProof.Rows
def xnq:Sp:=fun vs H Q _=>∃ (l:Addr) (a b:Nat),vs=[.ref l]∧H l=some (.lst [.str "frame",.str (numT a),.str (numT b)])∧a < 100∧b < 100∧∀ H' l',Same H H'→H l'=none→H' l'=some (.lst [.int (a:Int),.int (b:Int)])→Q (.ref l') H'
section
variable {P:Program} {w:World} {K:PySem.W.Frag} {mg:Str→Option Value} {base:Heap} {t:Adr}
theorem ok_al (T:Txt w K mg t):FnOk true P w K mg base (CXo P w) 3 t.f_al t.d_al ["words"] (xnq):=by
 refine T.F_al.okn (k:=2) sc_al (fun vs H Q E h=>?_) (fun cdv A outer s H vs Q E hr h=>?_)
 ·obtain ⟨l,a,b,rfl,_⟩:=h
  rfl
 ·obtain ⟨l,a,b,rfl,h⟩:=h
  refine ⟨_,xg (xaf (PW.pt (xbp (xt xdr (xab xac rfl T.n_len boot_len (xa (pv 0) (xb))) (xh) (x0 _)) (xba (xt xdr (xaq xam (pv 0) (xh) (fun _ _=>rfl)) (xw) (x0 _))))) (xk (x5 (xa0))) (xaa))
   (xk (x5 (xq (ok_l T) (hr.mono (by decide)) rfl T.g_l T.F_l.kp T.b_l .nil xn (xa (xa6 xbf (pv 0) (xa4 (xh)) xbw) (xb))))),?_⟩
  obtain ⟨hl,ha,hb,q⟩:=h
  refine ⟨_,rfl,l,_,rfl,.inl (SqL.of hl),rfl,_,rfl,ifN (by simp) ⟨_,rfl,l,_,0,_,rfl,rfl,SqL.of hl,rfl,rfl,_,rfl,ifN (by decide +kernel) ?_⟩⟩
  refine ⟨_,rfl,1,rfl,l,_,rfl,SqL.of hl,fun p hp=>?_⟩
  have s1:=xo (o:=.lst [.str (numT a),.str (numT b)]) (Same.refl _) hp
  exact ⟨p,[a,b],rfl,xf,fun n hn=>(by simp at hn; omega),by simp,fun H2 l2 s2 fl2 hl2=>q H2 l2 (s1.trans s2) (s1.free fl2) hl2⟩
end
end S25
set_option maxRecDepth 100000
set_option maxHeartbeats 4000000
namespace S25
open PySem L2 XL PyProof.Rows
structure Wd where
 a:Nat
 b:Nat
 two:Bool
def Wd.es (w:Wd):List Nat:=if w.two then [w.a,w.b] else [w.a]
def Wd.t (w:Wd):Str:=Str.join ⟨#[45]⟩ (w.es.map numT)
structure Wd.Ok (w:Wd):Prop where
 a1:w.a < 30
 b1:w.b < 30
 le:w.a≤w.b
 one:w.two=false→w.b=w.a
def Wd.rs (w:Wd):List Int:=(List.range (w.b + 1 - w.a)).map fun (i:Nat)=>(w.a:Int) + (i:Int)
theorem Wd.rng (w:Wd):rngL (w.a:Int) ((w.b:Int) + 1)=w.rs.map V.int:=by
 unfold rngL Wd.rs
 rw [List.map_map,show ((w.b:Int) + 1 - (w.a:Int)).toNat=w.b + 1 - w.a by omega]
 rfl
theorem Wd.shape {w:Wd} (o:w.Ok):(w.es=[w.a]∧w.b=w.a)∨w.es=[w.a,w.b]:=by
 unfold Wd.es
 cases h:w.two with
 | true=>exact .inr rfl
 | false=>exact .inl ⟨rfl,o.one h⟩
theorem Wd.es_lt {w:Wd} (o:w.Ok):∀ n ∈ w.es,n < 100:=by
 have h1:=o.a1
 have h2:=o.b1
 rcases Wd.shape o with ⟨e,_⟩ | e <;> rw [e] <;> intro n hn <;> simp at hn <;> omega
theorem Wd.len {w:Wd} (o:w.Ok):w.t.length≤6:=by
 have h:=xdc (c:=45) (k:=2) (ws:=w.es.map numT) fun p hp=>by
  obtain ⟨n,hn,rfl⟩:=List.mem_map.mp hp
  rcases xd6 (Wd.es_lt o n hn) with z | ⟨z,_⟩ <;> omega
 have l2:w.es.length≤2:=by
  rcases Wd.shape o with ⟨e,_⟩ | e <;> rw [e] <;> simp
 rw [List.length_map] at h
 show (Str.join ⟨#[45]⟩ (w.es.map numT)).length≤6
 omega
theorem xe0 {n:Nat} (h:n < 100):(numT n).cps.toList≠[]:=fun e=>by
 have z:=xb1 (numT n)
 rw [e] at z
 rcases xd6 h with y | ⟨y,_⟩ <;> rw [y] at z <;> cases z
theorem Wd.ne {w:Wd} (o:w.Ok):w.t.cps.toList≠[]:=by
 have h1:=o.a1
 unfold Wd.t
 rcases Wd.shape o with ⟨e,_⟩ | e <;> rw [e]
 ·exact xe0 (by omega)
 ·show (Str.join ⟨#[45]⟩ (numT w.a :: numT w.b :: [])).cps.toList≠[]
  rw [xbx]
  simp
theorem Wd.free {w:Wd} (o:w.Ok):32 ∉ w.t.cps.toList:=by
 have h1:=o.a1
 have h2:=o.b1
 unfold Wd.t
 rcases Wd.shape o with ⟨e,_⟩ | e <;> rw [e]
 ·exact xb8 (by omega) (by decide)
 ·show 32 ∉ (Str.join ⟨#[45]⟩ (numT w.a :: numT w.b :: [])).cps.toList
  rw [xbx]
  intro z
  rcases List.mem_append.mp z with y | y
  ·exact xb8 (show w.a < 100 by omega) (by decide) y
  ·rcases List.mem_cons.mp y with x | x
   ·cases x
   ·exact xb8 (show w.b < 100 by omega) (by decide) x
theorem Wd.rs_ne {w:Wd} (o:w.Ok):w.rs≠[]:=fun e=>by
 have z:=congrArg List.length e
 unfold Wd.rs at z
 rw [List.length_map,List.length_range] at z
 have:=o.le
 change w.b + 1 - w.a=0 at z
 omega
theorem Wd.rs_len {w:Wd} (o:w.Ok):w.rs.length≤30:=by
 unfold Wd.rs
 rw [List.length_map,List.length_range]
 have:=o.b1
 omega
theorem xhq:∀ {ws:List Wd},(∀ w ∈ ws,w.Ok)→(ws.flatMap Wd.rs).length≤ws.length * 30
 | [],_=>by simp
 | w :: ws,h=>by
  have h1:=Wd.rs_len (h w List.mem_cons_self)
  have h2:=xhq (ws:=ws) fun v hv=>h v (List.mem_cons_of_mem _ hv)
  rw [List.flatMap_cons,List.length_append,List.length_cons]
  omega
theorem xnl {α:V} {xs:List V}:cutV (α :: xs) (some 1) none=xs:=by
 unfold cutV
 simp [HT.sIx]
def wdsV (ws:List Wd):List V:=ws.map fun w=>V.str w.t
def RimW (H:Hp) (l:Addr) (b:Bool) (ws:List Wd):Prop:=H l=some (.lst (.str (x8 b) :: wdsV ws))∧ws≠[]∧(∀ w ∈ ws,w.Ok)∧ws.length≤12
def xo4:Sp:=fun vs H Q _=>∃ (l:Addr) (b:Bool) (ws:List Wd),vs=[.ref l]∧RimW H l b ws∧∀ H' l',Same H H'→H l'=none→H' l'=some (.lst ((ws.flatMap Wd.rs).map V.int))→Q (.ref l') H'
def xmt:Sp:=fun vs H Q _=>∃ (l:Addr) (b:Bool) (ws:List Wd),vs=[.ref l]∧RimW H l b ws∧∀ H',Same H H'→Q .non H'
def xre (l1:Addr) (ws:List Wd) (i:Nat) (ys:List V) (H:Hp):Prop:=∃ rs:List Addr,ys=rs.map V.ref∧rs.length=i∧∀ (j:Nat) (q:Addr) (w:Wd),rs[j]?=some q→ws[j]?=some w→q≠l1∧H q=some (.lst (w.rs.map V.int))
theorem xm0 {K:PySem.W.Frag} {H:Hp} {l1:Addr} {ws:List Wd} {rs:List Addr} (h:H l1=some (.lst (rs.map V.ref))) (el:rs.length=ws.length) (f:∀ (j:Nat) (q:Addr) (w:Wd),rs[j]?=some q→ws[j]?=some w→H q=some (.lst (w.rs.map V.int))):Dv K H 2 (.ref l1) (.lst (ws.map fun w=>.lst (w.rs.map DV.int))):=by
 refine .lst (SqL.of h) (by rw [List.length_map,List.length_map,el]) fun j x d h1 h2=>?_
 rw [List.getElem?_map] at h1 h2
 obtain ⟨q,hq,rfl⟩:=Option.map_eq_some_iff.mp h1
 obtain ⟨w,hw,rfl⟩:=Option.map_eq_some_iff.mp h2
 refine .lst (SqL.of (f j q w hq hw)) (by rw [List.length_map,List.length_map]) fun k x d h1 h2=>?_
 rw [List.getElem?_map] at h1 h2
 obtain ⟨i,hi,rfl⟩:=Option.map_eq_some_iff.mp h1
 rw [hi] at h2
 cases h2
 exact .int
theorem xm5 {ws:List Wd} (ok:∀ w ∈ ws,w.Ok):(ws.map fun w=>DV.lst (w.rs.map DV.int)).any (fun z=>dEq z (.lst []))=false:=by
 rw [List.any_eq_false]
 intro z hz
 obtain ⟨w,hw,rfl⟩:=List.mem_map.mp hz
 intro e
 have:dEqs (w.rs.map DV.int) []=false:=xeb fun z=>by
  rw [List.length_map] at z
  exact Wd.rs_ne (ok w hw) (List.length_eq_zero_iff.mp z)
 change dEqs (w.rs.map DV.int) []=true at e
 rw [this] at e
 cases e
section
variable {P:Program} {w:World} {K:PySem.W.Frag} {mg:Str→Option Value} {base:Heap} {t:Adr}
theorem ok_ak (T:Txt w K mg t):FnOk true P w K mg base (CXo P w) 4 t.f_ak t.d_ak ["words"] (xo4):=by
 refine T.F_ak.okn (k:=3) sc_ak (fun vs H Q E h=>?_) (fun cdv A outer s H vs Q E hr h=>?_)
 ·obtain ⟨l,b,ws,rfl,_⟩:=h
  rfl
 ·obtain ⟨l,b,ws,rfl,h⟩:=h
  refine ⟨_,xg (xaf (PW.pt (xbp (xt xc5 (xab xac rfl T.n_len boot_len (xa (pv 0) (xb))) (xh) (x0 _)) (xba (xt xbt (xaq xam (pv 0) (xh) (fun _ _=>rfl)) (xau (xa (xw) (xa (xw) (xb)))) (by rfl))))) (xk (x5 (xa0))) (xaa))
   (xg (xcb rfl (xbe (zs:=["word"]) (ys:=[]) (fr:=[]) (N0:=["words", "spans", "rows", "span"]) (sc0:=xi s_ak) (by decide +kernel) rfl rfl rfl) (xax (xa6 xbf (pv 0) (xa4 (xh)) xbw)) (fun _ _ _ _ _ ow nd=>xr (i:=0) nd rfl (Or.inl (ow _ (by simp))) (Or.inr (ow _ (by simp)))) (xbo (by decide)) (fun _ _ _ _ _=>xce) (fun _ _ _ _ _=>xq (ok_an T) (hr.mono (by decide)) rfl T.g_an T.F_an.kp T.b_an .nil xn (xa (pv 0) (xb))) (j:=1) rfl (Or.inl rfl))
   (xg (xaf (xt (xld (xbr hr)) (xaw (xb)) (pv 1) (by rfl)) (xk (x5 (xa0))) (xaa))
   (xg (xv (i:=2) sc_ak.nd rfl (Or.inl rfl) (xaw (xb)))
   (xg (xbu PassesOwn.never rfl (xax (pv 1)) (xr (i:=3) sc_ak.nd rfl (Or.inl rfl)) (xk (xav (xbm PySem.F.plainAttrs_list PySem.F.slot_list_extend PySem.F.type_list_extend xgz (pv 2) (xa (pv 3) (xb))))))
   (xk (x5 (pv 2))))))),?_⟩
  obtain ⟨⟨hl,ne,ok,len⟩,q⟩:=h
  refine ⟨_,rfl,l,_,rfl,.inl (SqL.of hl),_,_,rfl,rfl,_,rfl,ifN ?_ ⟨_,rfl,l,_,0,.str (x8 b),rfl,rfl,SqL.of hl,xbs (j:=0) rfl,(by show 2≤sizeLine; decide),fun q1 hq1=>?_⟩⟩
  ·have:ws.length≠0:=fun z=>ne (List.length_eq_zero_iff.mp z)
   simp [wdsV]
   omega
  have s1:Same H (upd H q1 (.tup [.str "left",.str "right"])):=xo (Same.refl _) hq1
  have g1:upd H q1 (.tup [.str "left",.str "right"]) q1=some (.tup [.str "left",.str "right"]):=xf
  revert s1 g1
  generalize upd H q1 (.tup [.str "left",.str "right"])=H1
  intro s1 g1
  refine ⟨q1,_,rfl,.inr (SqT.of g1),rfl,rfl,_,rfl,ifN (by cases b <;> decide +kernel) ?_⟩
  have hl1:=s1 _ _ hl
  refine ⟨_,rfl,1,rfl,l,_,rfl,SqL.of hl1,fun p hp=>?_⟩
  rw [xnl]
  have s2:Same H1 (upd H1 p (.lst (wdsV ws))):=xo (Same.refl _) hp
  have g2:upd H1 p (.lst (wdsV ws)) p=some (.lst (wdsV ws)):=xf
  revert s2 g2
  generalize upd H1 p (.lst (wdsV ws))=H2
  intro s2 g2
  refine ⟨p,rfl,⟨_,SqL.of g2⟩,fun l1 hl1=>?_⟩
  refine xjc (SqL.of g2) (by rw [wdsV,List.length_map]; exact Nat.lt_of_le_of_lt len (by decide)) hl1 (xre l1 ws) (fun _ _=>⟨[],rfl,rfl,fun j q w h=>by simp at h⟩) ?_ (fun i x ys H3 hx s3 el3 f3 N hN=>?_) (fun ys H3 s3 el3 ly3 f3=>?_)
  ·rintro i ys zs H5 H6 _ k ⟨rs,e,lr,f⟩
   exact ⟨rs,e,lr,fun j q w h1 h2=>⟨(f j q w h1 h2).1,k _ _ (f j q w h1 h2).1 (f j q w h1 h2).2⟩⟩
  ·rw [wdsV,List.getElem?_map] at hx
   obtain ⟨w,hw,rfl⟩:=Option.map_eq_some_iff.mp hx
   have o:=ok w (List.mem_of_getElem? hw)
   have h1:=o.a1
   have h2:=o.b1
   have h6:=Wd.len o
   refine ⟨_,rfl,w.es,w.a,w.b,rfl,Wd.shape o,by omega,by omega,Nat.le_trans h6 (by decide),fun H4 l4 s4 fl4 hl4=>hN _ _ s4 ?_⟩
   rw [Wd.rng] at hl4
   obtain ⟨rs,rfl,lr,f⟩:=f3
   refine ⟨rs ++ [l4],by simp,by simp [lr],fun j q v h1 h2=>?_⟩
   rcases Nat.lt_or_ge j rs.length with z | z
   ·rw [List.getElem?_append_left z] at h1
    exact ⟨(f j q v h1 h2).1,s4 _ _ (f j q v h1 h2).2⟩
   ·rw [List.getElem?_append_right z] at h1
    have e0:j - rs.length=0:=by
     rcases Nat.eq_zero_or_pos (j - rs.length) with y | y
     ·exact y
     ·rw [List.getElem?_eq_none (by simp; omega)] at h1
      cases h1
    rw [e0] at h1
    cases h1
    have ej:j=i:=by omega
    subst ej
    rw [hw] at h2
    cases h2
    exact ⟨Ne.symm (xm el3 fl4),hl4⟩
  obtain ⟨rs,rfl,lr,f⟩:=f3
  have lw:rs.length=ws.length:=by rw [lr,wdsV,List.length_map]
  refine ⟨(by show 0≤sizeLine; exact Nat.zero_le _),fun q0 hq0=>?_⟩
  have s4:Same H3 (upd H3 q0 (.lst [])):=xo (Same.refl _) hq0
  have g4:upd H3 q0 (.lst []) q0=some (.lst []):=xf
  revert s4 g4
  generalize upd H3 q0 (.lst [])=H4
  intro s4 g4
  have f4:∀ (j:Nat) (q:Addr) (w:Wd),rs[j]?=some q→ws[j]?=some w→H4 q=some (.lst (w.rs.map V.int)):=fun j q w h1 h2=>s4 _ _ (f j q w h1 h2).2
  refine ⟨_,rfl,1,2,.lst [],_,.lst (SqL.of g4) rfl (fun j x d h=>by simp at h),xm0 (s4 _ _ el3) lw f4,by decide,by decide,_,rfl,ifN (by rw [if_neg (by decide)]; exact xm5 ok) ?_⟩
  refine ⟨(by show 0≤sizeLine; exact Nat.zero_le _),fun lr0 hlr0=>?_⟩
  have s04:Same H H4:=((s1.trans s2).trans s3).trans s4
  have fr0:=s04.free hlr0
  have el4:=s4 _ _ el3
  refine ⟨_,rfl,l1,rfl,⟨_,SqL.of (by rw [xj (xm el4 hlr0)]; exact el4)⟩,?_⟩
  refine xb7 (xs:=rs.map V.ref) (Pv:=fun i σ H5=>∃ v3:Option V,σ=[some (.ref l),some (.ref l1),some (.ref lr0),v3]∧H5 lr0=some (.lst (((ws.take i).flatMap Wd.rs).map V.int))∧∀ b u,b≠lr0→H4 b=some u→H5 b=some u) ⟨_,rfl,xf,fun b u nb e=>by rw [xj nb]; exact e⟩ ?_ ?_ ?_
  ·rintro i σ H5 _ ⟨v3,_,_,k⟩
   exact SqL.of (k _ _ (xm el4 hlr0) el4)
  ·rintro i x σ H5 hx ⟨v3,rfl,h5,k⟩
   rw [List.getElem?_map] at hx
   obtain ⟨q2,hq2,rfl⟩:=Option.map_eq_some_iff.mp hx
   have ilt:i < ws.length:=by
    rw [← lw]
    exact (List.getElem?_eq_some_iff.mp hq2).1
   have hw:ws[i]?=some ws[i]:=List.getElem?_eq_getElem ilt
   have h2:=f4 i q2 _ hq2 hw
   have h3:=k _ _ (xm h2 hlr0) h2
   have b1:=xhq (ws:=ws.take i) fun v hv=>ok v (List.mem_of_mem_take hv)
   have b2:=Wd.rs_len (ok _ (List.mem_of_getElem? hw))
   have b3:(ws.take i).length≤12:=by rw [List.length_take]; omega
   refine ⟨_,rfl,.inl ⟨rfl,_,SqL.of h5⟩,_,rfl,lr0,q2,_,_,rfl,rfl,h5,h3,?_,_,rfl,?_,fun b u nb e=>?_⟩
   ·rw [List.length_map,List.length_map]
    exact Nat.le_trans (by omega:_≤1000) (by decide)
   ·have tk:ws.take (i + 1)=ws.take i ++ [ws[i]]:=by rw [List.take_succ,hw]; rfl
    rw [xf,tk,List.flatMap_append,List.map_append,List.flatMap_singleton]
   ·rw [xj nb]
    exact k b u nb e
  ·rintro σ H5 ⟨v3,rfl,h5,k⟩
   rw [List.length_map,lw,List.take_length] at h5
   exact ⟨_,rfl,q H5 lr0 (fun b u e=>k b u (xm (s04 _ _ e) hlr0) (s04 _ _ e)) fr0 h5⟩
theorem ok_t (T:Txt w K mg t):FnOk true P w K mg base (CXo P w) 3 t.f_t t.d_t ["words"] (xmt):=by
 refine T.F_t.okn (k:=2) sc_t (fun vs H Q E h=>?_) (fun cdv A outer s H vs Q E hr h=>?_)
 ·obtain ⟨l,b,ws,rfl,_⟩:=h
  rfl
 ·obtain ⟨l,b,ws,rfl,h⟩:=h
  refine ⟨_,xg (xaf (PW.pt (xbp (xt xbt (xab xac rfl T.n_len boot_len (xa (pv 0) (xb))) (xau (xa (xh) (xa (xh) (xa (xh) (xb))))) (by rfl)) (xba (xt xdr (xaq xam (pv 0) (xh) (fun _ _=>rfl)) (xw) (x0 _))))) (xk (x5 (xa0))) (xaa))
   (xg (xv (i:=1) sc_t.nd rfl (Or.inl rfl) (xq (ok_l T) (hr.mono (by decide)) rfl T.g_l T.F_l.kp T.b_l .nil xn (xa (xp xc2 (xa6 xbf (pv 0) (xa4 (xh)) (xa4 (xh))) (xa6 xbf (pv 0) (xa4 (xh)) xbw)) (xb))))
   (xg (xaf (xt xeh (pv 1) (xa0) (x0 _)) (xk (x5 (xa0))) (xaa))
   (xg (xcq (xa6 xbf (pv 1) xbw (xa4 (xh))) (xd5 rfl (xx (xr (i:=2) sc_t.nd rfl (Or.inl rfl)) (xx (xr (i:=3) sc_t.nd rfl (Or.inl rfl)) (xbb)))))
   (xg (xv (i:=4) sc_t.nd rfl (Or.inl rfl) (xcc (xt xe9 (xab xac rfl T.n_len boot_len (xa (pv 0) (xb))) (xh) (x0 _)) (xaq xam (pv 0) (xh) (fun _ _=>rfl)) (xw)))
   (xg (xcq (xcc (xt xe9 (xab xac rfl T.n_len boot_len (xa (pv 0) (xb))) (xh) (x0 _)) (xa6 xbf (pv 1) (xa4 (xh)) xbw) (xau (xa (xh) (xa (xa0) (xb))))) (xnb (xca rfl (xx (xr (i:=5) sc_t.nd rfl (Or.inl rfl)) (xx (xr (i:=6) sc_t.nd rfl (Or.inl rfl)) (xbb)))) (xd5 rfl (xx (xr (i:=5) sc_t.nd rfl (Or.inl rfl)) (xx (xr (i:=6) sc_t.nd rfl (Or.inl rfl)) (xbb))))))
   (xk ((by (with_reducible refine' x5 ?e1); (case e1=>((exact xau (xan (xaq xam (pv 0) (xh) (fun _ _=>rfl)) (xan (pv 2) (xan (pv 3) (xan (pv 4) (xan (pv 5) (xan (pv 6) (xb) rfl) rfl) rfl) rfl) rfl) rfl)))))))))))),?_⟩
  obtain ⟨⟨hl,ne,ok,len⟩,q⟩:=h
  refine ⟨_,rfl,l,_,rfl,.inl (SqL.of hl),(by show 3≤sizeLine; decide),fun q1 hq1=>?_⟩
  have s1:Same H (upd H q1 (.tup [.int 4,.int 5,.int 7])):=xo (Same.refl _) hq1
  have g1:upd H q1 (.tup [.int 4,.int 5,.int 7]) q1=some (.tup [.int 4,.int 5,.int 7]):=xf
  revert s1 g1
  generalize upd H q1 (.tup [.int 4,.int 5,.int 7])=H1
  intro s1 g1
  refine ⟨q1,_,rfl,.inr (SqT.of g1),rfl,rfl,_,rfl,ite2 (fun c=>q _ s1) (fun c=>?_)⟩
  exact ⟨_,rfl,l,_,0,.str (x8 b),rfl,rfl,SqL.of (s1 _ _ hl),xbs (j:=0) rfl,rfl,_,rfl,ifP (by cases b <;> decide +kernel) (q _ s1)⟩
end
end S25
set_option maxRecDepth 100000
set_option maxHeartbeats 4000000
namespace S25
open PySem L2 XL PyProof.Rows
structure TxT (s:Str):Prop where
 len:s.length≤10
 fr:32 ∉ s.cps.toList
 ne:s.cps.toList≠[]
inductive Way where
 | a
 | b
 | c
structure Pw where
 nm:Str
 x:Nat
 y:Nat
 sd:Str
 lo:Nat
 hi:Nat
 way:Way
structure Pw.Ok (p:Pw):Prop where
 nm:TxT p.nm
 x:p.x < 100
 y:p.y < 100
 sd:TxT p.sd
 lo:p.lo < 100
 hi:p.hi < 100
def Pw.ws (p:Pw):List Str:=match p.way with
 | .a=>["point",p.nm,numT p.x,numT p.y]
 | .b=>["point",p.nm,numT p.x,numT p.y,p.sd]
 | .c=>["point",p.nm,numT p.x,numT p.y,p.sd,numT p.lo,numT p.hi]
def Pw.t (p:Pw):Str:=Str.join ⟨#[32]⟩ p.ws
def Pw.res (p:Pw):List V:=match p.way with
 | .a=>[.str p.nm,.int p.x,.int p.y,.str "both",.int 1,.non]
 | .b=>[.str p.nm,.int p.x,.int p.y,.str p.sd,.int 1,.non]
 | .c=>[.str p.nm,.int p.x,.int p.y,.str p.sd,.int p.lo,.int p.hi]
def PtW (H:Hp) (l:Addr) (p:Pw):Prop:=H l=some (.lst (p.ws.map V.str))∧p.Ok
def xo2:Sp:=fun vs H Q _=>∃ (l:Addr) (p:Pw),vs=[.ref l]∧PtW H l p∧∀ H',Same H H'→Q .non H'
def xmb:Sp:=fun vs H Q _=>∃ (l:Addr) (p:Pw),vs=[.ref l]∧PtW H l p∧∀ H' q,Same H H'→H' q=some (.tup p.res)→Q (.ref q) H'
theorem xl4 (p:Pw):∃ r,p.ws.map V.str=.str "point" :: r∧3≤r.length:=by
 unfold Pw.ws
 cases p.way <;> exact ⟨_,rfl,by simp⟩
theorem xi4 {x y:Nat} (hx:x < 100) (hy:y < 100):∀ n ∈ [x,y],n < 100:=fun n hn=>by simp at hn; omega
theorem xl2 {x y z u:Nat} (hx:x < 100) (hy:y < 100) (hz:z < 100) (hu:u < 100):∀ n ∈ [x,y,z,u],n < 100:=fun n hn=>by simp at hn; omega
section
variable {P:Program} {w:World} {K:PySem.W.Frag} {mg:Str→Option Value} {base:Heap} {t:Adr}
theorem okD_ak (T:Txt w K mg t):FnOk true P w K mg base (CXo P w) 4 t.f_ak t.d_ak ["words"] (xo2):=by
 refine T.F_ak.okn (k:=3) sc_ak (fun vs H Q E h=>?_) (fun cdv A outer s H vs Q E hr h=>?_)
 ·obtain ⟨l,p,rfl,_⟩:=h
  rfl
 ·obtain ⟨l,p,rfl,h⟩:=h
  refine ⟨_,xg (xaf (PW.pt (xbp (xt xc5 (xab xac rfl T.n_len boot_len (xa (pv 0) (xb))) (xh) (x0 _)) (xba (xt xbt (xaq xam (pv 0) (xh) (fun _ _=>rfl)) (xau (xa (xw) (xa (xw) (xb)))) (by rfl))))) (xk (x5 (xa0))) (xaa))
   (xg (xcb rfl (xbe (zs:=["word"]) (ys:=[]) (fr:=[]) (N0:=["words", "spans", "rows", "span"]) (sc0:=xi s_ak) (by decide +kernel) rfl rfl rfl) (xax (xa6 xbf (pv 0) (xa4 (xh)) xbw)) (fun _ _ _ _ _ ow nd=>xr (i:=0) nd rfl (Or.inl (ow _ (by simp))) (Or.inr (ow _ (by simp)))) (xbo (by decide)) (fun _ _ _ _ _=>xce) (fun _ _ _ _ _=>xq (ok_an T) (hr.mono (by decide)) rfl T.g_an T.F_an.kp T.b_an .nil xn (xa (pv 0) (xb))) (j:=1) rfl (Or.inl rfl))
   (xg (xaf (xt (xld (xbr hr)) (xaw (xb)) (pv 1) (by rfl)) (xk (x5 (xa0))) (xaa))
   (xg (xv (i:=2) sc_ak.nd rfl (Or.inl rfl) (xaw (xb)))
   (xg (xbu PassesOwn.never rfl (xax (pv 1)) (xr (i:=3) sc_ak.nd rfl (Or.inl rfl)) (xk (xav (xbm PySem.F.plainAttrs_list PySem.F.slot_list_extend PySem.F.type_list_extend xgz (pv 2) (xa (pv 3) (xb))))))
   (xk (x5 (pv 2))))))),?_⟩
  obtain ⟨⟨hl,ok⟩,q⟩:=h
  obtain ⟨r,er,lr⟩:=xl4 p
  rw [er] at hl
  refine ⟨_,rfl,l,_,rfl,.inl (SqL.of hl),_,_,rfl,rfl,_,rfl,ifN ?_ ⟨_,rfl,l,_,0,.str "point",rfl,rfl,SqL.of hl,xbs (j:=0) rfl,(by show 2≤sizeLine; decide),fun q1 hq1=>?_⟩⟩
  ·simp
   omega
  have s1:Same H (upd H q1 (.tup [.str "left",.str "right"])):=xo (Same.refl _) hq1
  have g1:upd H q1 (.tup [.str "left",.str "right"]) q1=some (.tup [.str "left",.str "right"]):=xf
  revert s1 g1
  generalize upd H q1 (.tup [.str "left",.str "right"])=H1
  intro s1 g1
  exact ⟨q1,_,rfl,.inr (SqT.of g1),rfl,rfl,_,rfl,ifP (by decide +kernel) (q _ s1)⟩
theorem okD_t (T:Txt w K mg t):FnOk true P w K mg base (CXo P w) 3 t.f_t t.d_t ["words"] (xmb):=by
 refine T.F_t.okn (k:=2) sc_t (fun vs H Q E h=>?_) (fun cdv A outer s H vs Q E hr h=>?_)
 ·obtain ⟨l,p,rfl,_⟩:=h
  rfl
 ·obtain ⟨l,p,rfl,h⟩:=h
  refine ⟨_,xg (xaf (PW.pt (xbp (xt xbt (xab xac rfl T.n_len boot_len (xa (pv 0) (xb))) (xau (xa (xh) (xa (xh) (xa (xh) (xb))))) (by rfl)) (xba (xt xdr (xaq xam (pv 0) (xh) (fun _ _=>rfl)) (xw) (x0 _))))) (xk (x5 (xa0))) (xaa))
   (xg (xv (i:=1) sc_t.nd rfl (Or.inl rfl) (xq (ok_l T) (hr.mono (by decide)) rfl T.g_l T.F_l.kp T.b_l .nil xn (xa (xp xc2 (xa6 xbf (pv 0) (xa4 (xh)) (xa4 (xh))) (xa6 xbf (pv 0) (xa4 (xh)) xbw)) (xb))))
   (xg (xaf (xt xeh (pv 1) (xa0) (x0 _)) (xk (x5 (xa0))) (xaa))
   (xg (xcq (xa6 xbf (pv 1) xbw (xa4 (xh))) (xd5 rfl (xx (xr (i:=2) sc_t.nd rfl (Or.inl rfl)) (xx (xr (i:=3) sc_t.nd rfl (Or.inl rfl)) (xbb)))))
   (xg (xv (i:=4) sc_t.nd rfl (Or.inl rfl) (xcc (xt xe9 (xab xac rfl T.n_len boot_len (xa (pv 0) (xb))) (xh) (x0 _)) (xaq xam (pv 0) (xh) (fun _ _=>rfl)) (xw)))
   (xg (xcq (xcc (xt xe9 (xab xac rfl T.n_len boot_len (xa (pv 0) (xb))) (xh) (x0 _)) (xa6 xbf (pv 1) (xa4 (xh)) xbw) (xau (xa (xh) (xa (xa0) (xb))))) (xnb (xca rfl (xx (xr (i:=5) sc_t.nd rfl (Or.inl rfl)) (xx (xr (i:=6) sc_t.nd rfl (Or.inl rfl)) (xbb)))) (xd5 rfl (xx (xr (i:=5) sc_t.nd rfl (Or.inl rfl)) (xx (xr (i:=6) sc_t.nd rfl (Or.inl rfl)) (xbb))))))
   (xk ((by (with_reducible refine' x5 ?e1); (case e1=>((exact xau (xan (xaq xam (pv 0) (xh) (fun _ _=>rfl)) (xan (pv 2) (xan (pv 3) (xan (pv 4) (xan (pv 5) (xan (pv 6) (xb) rfl) rfl) rfl) rfl) rfl) rfl)))))))))))),?_⟩
  obtain ⟨⟨hl,ok⟩,q⟩:=h
  have ox:=ok.x
  have oy:=ok.y
  have olo:=ok.lo
  have ohi:=ok.hi
  unfold Pw.ws at hl
  unfold Pw.res at q
  cases hw:p.way with
  | a =>
   rw [hw] at hl q
   have hl:H l=some (.lst [.str "point",.str p.nm,.str (numT p.x),.str (numT p.y)]):=hl
   refine ⟨_,rfl,l,_,rfl,.inl (SqL.of hl),(by show 3≤sizeLine; decide),fun q1 hq1=>?_⟩
   have s1:Same H (upd H q1 (.tup [.int 4,.int 5,.int 7])):=xo (Same.refl _) hq1
   have g1:upd H q1 (.tup [.int 4,.int 5,.int 7]) q1=some (.tup [.int 4,.int 5,.int 7]):=xf
   revert s1 g1
   generalize upd H q1 (.tup [.int 4,.int 5,.int 7])=H1
   intro s1 g1
   refine ⟨q1,_,rfl,.inr (SqT.of g1),rfl,rfl,_,rfl,ifN (by rfl) ?_⟩
   have hl1:=s1 _ _ hl
   refine ⟨_,rfl,l,_,0,.str "point",rfl,rfl,SqL.of hl1,rfl,rfl,_,rfl,ifN (by decide +kernel) ?_⟩
   refine ⟨_,rfl,2,rfl,4,rfl,l,_,rfl,SqL.of hl1,fun p1 hp1=>?_⟩
   rw [show cutV [V.str "point",.str p.nm,.str (numT p.x),.str (numT p.y)] (some 2) (some 4)=[.str (numT p.x),.str (numT p.y)] from rfl]
   have s2:Same H1 (upd H1 p1 (.lst [.str (numT p.x),.str (numT p.y)])):=xo (Same.refl _) hp1
   have g2:upd H1 p1 (.lst [.str (numT p.x),.str (numT p.y)]) p1=some (.lst [.str (numT p.x),.str (numT p.y)]):=xf
   revert s2 g2
   generalize upd H1 p1 (.lst [.str (numT p.x),.str (numT p.y)])=H2
   intro s2 g2
   refine ⟨_,rfl,5,rfl,l,_,rfl,SqL.of (s2 _ _ hl1),fun p2 hp2=>?_⟩
   rw [show cutV [V.str "point",.str p.nm,.str (numT p.x),.str (numT p.y)] (some 5) none=[] from rfl]
   have s3:Same H2 (upd H2 p2 (.lst [])):=xo (Same.refl _) hp2
   have g3:upd H2 p2 (.lst []) p2=some (.lst []):=xf
   revert s3 g3
   generalize upd H2 p2 (.lst [])=H3
   intro s3 g3
   refine ⟨p1,p2,_,_,rfl,rfl,s3 _ _ g2,g3,(by show 2 + 0≤sizeLine; decide),fun p3 hp3=>?_⟩
   rw [show ([.str (numT p.x),.str (numT p.y)] ++ []:List V)=[.str (numT p.x),.str (numT p.y)] from rfl]
   have s4:Same H3 (upd H3 p3 (.lst [.str (numT p.x),.str (numT p.y)])):=xo (Same.refl _) hp3
   have g4:upd H3 p3 (.lst [.str (numT p.x),.str (numT p.y)]) p3=some (.lst [.str (numT p.x),.str (numT p.y)]):=xf
   revert s4 g4
   generalize upd H3 p3 (.lst [.str (numT p.x),.str (numT p.y)])=H4
   intro s4 g4
   refine ⟨p3,[p.x,p.y],rfl,g4,xi4 ox oy,by simp,fun H5 l5 s5 fl5 hl5=>?_⟩
   have s05:=(((s1.trans s2).trans s3).trans s4).trans s5
   refine ⟨_,rfl,rfl,_,rfl,ifN (by simp) ?_⟩
   refine ⟨_,rfl,2,rfl,l5,_,rfl,SqL.of hl5,fun p6 hp6=>?_⟩
   rw [show cutV (List.map (fun (n:Nat)=>V.int (n:Int)) [p.x,p.y]) none (some 2)=[.int (p.x:Int),.int (p.y:Int)] from rfl]
   have s6:Same H5 (upd H5 p6 (.lst [.int (p.x:Int),.int (p.y:Int)])):=xo (Same.refl _) hp6
   have g6:upd H5 p6 (.lst [.int (p.x:Int),.int (p.y:Int)]) p6=some (.lst [.int (p.x:Int),.int (p.y:Int)]):=xf
   revert s6 g6
   generalize upd H5 p6 (.lst [.int (p.x:Int),.int (p.y:Int)])=H6
   intro s6 g6
   refine ⟨p6,_,rfl,SqL.of g6,rfl,_,_,rfl,_,_,rfl,rfl,?_⟩
   have hl6:=s6 _ _ (s05 _ _ hl)
   refine ⟨_,rfl,l,_,rfl,.inl (SqL.of hl6),_,_,rfl,rfl,_,rfl,ifN (by rfl) ?_⟩
   refine ⟨_,rfl,l,_,rfl,.inl (SqL.of hl6),_,_,rfl,rfl,_,rfl,ifN (by rfl) ?_⟩
   refine ⟨(by show 2≤sizeLine; decide),fun p7 hp7=>?_⟩
   have s7:Same H6 (upd H6 p7 (.tup [.int 1,.non])):=xo (Same.refl _) hp7
   have g7:upd H6 p7 (.tup [.int 1,.non]) p7=some (.tup [.int 1,.non]):=xf
   revert s7 g7
   generalize upd H6 p7 (.tup [.int 1,.non])=H7
   intro s7 g7
   refine .inl ⟨p7,_,rfl,SqT.of g7,rfl,_,_,rfl,_,_,rfl,rfl,?_⟩
   refine ⟨_,rfl,l,_,1,.str p.nm,rfl,rfl,SqL.of (s7 _ _ hl6),rfl,_,rfl,_,rfl,_,rfl,_,rfl,_,rfl,(by show 6≤sizeLine; decide),fun p8 hp8=>?_⟩
   exact q _ p8 ((s05.trans s6).trans (s7.trans (xo (Same.refl _) hp8))) xf
  | b =>
   rw [hw] at hl q
   have hl:H l=some (.lst [.str "point",.str p.nm,.str (numT p.x),.str (numT p.y),.str p.sd]):=hl
   refine ⟨_,rfl,l,_,rfl,.inl (SqL.of hl),(by show 3≤sizeLine; decide),fun q1 hq1=>?_⟩
   have s1:Same H (upd H q1 (.tup [.int 4,.int 5,.int 7])):=xo (Same.refl _) hq1
   have g1:upd H q1 (.tup [.int 4,.int 5,.int 7]) q1=some (.tup [.int 4,.int 5,.int 7]):=xf
   revert s1 g1
   generalize upd H q1 (.tup [.int 4,.int 5,.int 7])=H1
   intro s1 g1
   refine ⟨q1,_,rfl,.inr (SqT.of g1),rfl,rfl,_,rfl,ifN (by rfl) ?_⟩
   have hl1:=s1 _ _ hl
   refine ⟨_,rfl,l,_,0,.str "point",rfl,rfl,SqL.of hl1,rfl,rfl,_,rfl,ifN (by decide +kernel) ?_⟩
   refine ⟨_,rfl,2,rfl,4,rfl,l,_,rfl,SqL.of hl1,fun p1 hp1=>?_⟩
   rw [show cutV [V.str "point",.str p.nm,.str (numT p.x),.str (numT p.y),.str p.sd] (some 2) (some 4)=[.str (numT p.x),.str (numT p.y)] from rfl]
   have s2:Same H1 (upd H1 p1 (.lst [.str (numT p.x),.str (numT p.y)])):=xo (Same.refl _) hp1
   have g2:upd H1 p1 (.lst [.str (numT p.x),.str (numT p.y)]) p1=some (.lst [.str (numT p.x),.str (numT p.y)]):=xf
   revert s2 g2
   generalize upd H1 p1 (.lst [.str (numT p.x),.str (numT p.y)])=H2
   intro s2 g2
   refine ⟨_,rfl,5,rfl,l,_,rfl,SqL.of (s2 _ _ hl1),fun p2 hp2=>?_⟩
   rw [show cutV [V.str "point",.str p.nm,.str (numT p.x),.str (numT p.y),.str p.sd] (some 5) none=[] from rfl]
   have s3:Same H2 (upd H2 p2 (.lst [])):=xo (Same.refl _) hp2
   have g3:upd H2 p2 (.lst []) p2=some (.lst []):=xf
   revert s3 g3
   generalize upd H2 p2 (.lst [])=H3
   intro s3 g3
   refine ⟨p1,p2,_,_,rfl,rfl,s3 _ _ g2,g3,(by show 2 + 0≤sizeLine; decide),fun p3 hp3=>?_⟩
   rw [show ([.str (numT p.x),.str (numT p.y)] ++ []:List V)=[.str (numT p.x),.str (numT p.y)] from rfl]
   have s4:Same H3 (upd H3 p3 (.lst [.str (numT p.x),.str (numT p.y)])):=xo (Same.refl _) hp3
   have g4:upd H3 p3 (.lst [.str (numT p.x),.str (numT p.y)]) p3=some (.lst [.str (numT p.x),.str (numT p.y)]):=xf
   revert s4 g4
   generalize upd H3 p3 (.lst [.str (numT p.x),.str (numT p.y)])=H4
   intro s4 g4
   refine ⟨p3,[p.x,p.y],rfl,g4,xi4 ox oy,by simp,fun H5 l5 s5 fl5 hl5=>?_⟩
   have s05:=(((s1.trans s2).trans s3).trans s4).trans s5
   refine ⟨_,rfl,rfl,_,rfl,ifN (by simp) ?_⟩
   refine ⟨_,rfl,2,rfl,l5,_,rfl,SqL.of hl5,fun p6 hp6=>?_⟩
   rw [show cutV (List.map (fun (n:Nat)=>V.int (n:Int)) [p.x,p.y]) none (some 2)=[.int (p.x:Int),.int (p.y:Int)] from rfl]
   have s6:Same H5 (upd H5 p6 (.lst [.int (p.x:Int),.int (p.y:Int)])):=xo (Same.refl _) hp6
   have g6:upd H5 p6 (.lst [.int (p.x:Int),.int (p.y:Int)]) p6=some (.lst [.int (p.x:Int),.int (p.y:Int)]):=xf
   revert s6 g6
   generalize upd H5 p6 (.lst [.int (p.x:Int),.int (p.y:Int)])=H6
   intro s6 g6
   refine ⟨p6,_,rfl,SqL.of g6,rfl,_,_,rfl,_,_,rfl,rfl,?_⟩
   have hl6:=s6 _ _ (s05 _ _ hl)
   refine ⟨_,rfl,l,_,rfl,.inl (SqL.of hl6),_,_,rfl,rfl,_,rfl,ifP (by rfl) ⟨_,rfl,l,_,4,.str p.sd,rfl,rfl,SqL.of hl6,rfl,?_⟩⟩
   refine ⟨_,rfl,l,_,rfl,.inl (SqL.of hl6),_,_,rfl,rfl,_,rfl,ifN (by rfl) ?_⟩
   refine ⟨(by show 2≤sizeLine; decide),fun p7 hp7=>?_⟩
   have s7:Same H6 (upd H6 p7 (.tup [.int 1,.non])):=xo (Same.refl _) hp7
   have g7:upd H6 p7 (.tup [.int 1,.non]) p7=some (.tup [.int 1,.non]):=xf
   revert s7 g7
   generalize upd H6 p7 (.tup [.int 1,.non])=H7
   intro s7 g7
   refine .inl ⟨p7,_,rfl,SqT.of g7,rfl,_,_,rfl,_,_,rfl,rfl,?_⟩
   refine ⟨_,rfl,l,_,1,.str p.nm,rfl,rfl,SqL.of (s7 _ _ hl6),rfl,_,rfl,_,rfl,_,rfl,_,rfl,_,rfl,(by show 6≤sizeLine; decide),fun p8 hp8=>?_⟩
   exact q _ p8 ((s05.trans s6).trans (s7.trans (xo (Same.refl _) hp8))) xf
  | c =>
   rw [hw] at hl q
   have hl:H l=some (.lst [.str "point",.str p.nm,.str (numT p.x),.str (numT p.y),.str p.sd,.str (numT p.lo),.str (numT p.hi)]):=hl
   refine ⟨_,rfl,l,_,rfl,.inl (SqL.of hl),(by show 3≤sizeLine; decide),fun q1 hq1=>?_⟩
   have s1:Same H (upd H q1 (.tup [.int 4,.int 5,.int 7])):=xo (Same.refl _) hq1
   have g1:upd H q1 (.tup [.int 4,.int 5,.int 7]) q1=some (.tup [.int 4,.int 5,.int 7]):=xf
   revert s1 g1
   generalize upd H q1 (.tup [.int 4,.int 5,.int 7])=H1
   intro s1 g1
   refine ⟨q1,_,rfl,.inr (SqT.of g1),rfl,rfl,_,rfl,ifN (by rfl) ?_⟩
   have hl1:=s1 _ _ hl
   refine ⟨_,rfl,l,_,0,.str "point",rfl,rfl,SqL.of hl1,rfl,rfl,_,rfl,ifN (by decide +kernel) ?_⟩
   refine ⟨_,rfl,2,rfl,4,rfl,l,_,rfl,SqL.of hl1,fun p1 hp1=>?_⟩
   rw [show cutV [V.str "point",.str p.nm,.str (numT p.x),.str (numT p.y),.str p.sd,.str (numT p.lo),.str (numT p.hi)] (some 2) (some 4)=[.str (numT p.x),.str (numT p.y)] from rfl]
   have s2:Same H1 (upd H1 p1 (.lst [.str (numT p.x),.str (numT p.y)])):=xo (Same.refl _) hp1
   have g2:upd H1 p1 (.lst [.str (numT p.x),.str (numT p.y)]) p1=some (.lst [.str (numT p.x),.str (numT p.y)]):=xf
   revert s2 g2
   generalize upd H1 p1 (.lst [.str (numT p.x),.str (numT p.y)])=H2
   intro s2 g2
   refine ⟨_,rfl,5,rfl,l,_,rfl,SqL.of (s2 _ _ hl1),fun p2 hp2=>?_⟩
   rw [show cutV [V.str "point",.str p.nm,.str (numT p.x),.str (numT p.y),.str p.sd,.str (numT p.lo),.str (numT p.hi)] (some 5) none=[.str (numT p.lo),.str (numT p.hi)] from rfl]
   have s3:Same H2 (upd H2 p2 (.lst [.str (numT p.lo),.str (numT p.hi)])):=xo (Same.refl _) hp2
   have g3:upd H2 p2 (.lst [.str (numT p.lo),.str (numT p.hi)]) p2=some (.lst [.str (numT p.lo),.str (numT p.hi)]):=xf
   revert s3 g3
   generalize upd H2 p2 (.lst [.str (numT p.lo),.str (numT p.hi)])=H3
   intro s3 g3
   refine ⟨p1,p2,_,_,rfl,rfl,s3 _ _ g2,g3,(by show 2 + 2≤sizeLine; decide),fun p3 hp3=>?_⟩
   rw [show ([.str (numT p.x),.str (numT p.y)] ++ [.str (numT p.lo),.str (numT p.hi)]:List V)=[.str (numT p.x),.str (numT p.y),.str (numT p.lo),.str (numT p.hi)] from rfl]
   have s4:Same H3 (upd H3 p3 (.lst [.str (numT p.x),.str (numT p.y),.str (numT p.lo),.str (numT p.hi)])):=xo (Same.refl _) hp3
   have g4:upd H3 p3 (.lst [.str (numT p.x),.str (numT p.y),.str (numT p.lo),.str (numT p.hi)]) p3=some (.lst [.str (numT p.x),.str (numT p.y),.str (numT p.lo),.str (numT p.hi)]):=xf
   revert s4 g4
   generalize upd H3 p3 (.lst [.str (numT p.x),.str (numT p.y),.str (numT p.lo),.str (numT p.hi)])=H4
   intro s4 g4
   refine ⟨p3,[p.x,p.y,p.lo,p.hi],rfl,g4,xl2 ox oy olo ohi,by simp,fun H5 l5 s5 fl5 hl5=>?_⟩
   have s05:=(((s1.trans s2).trans s3).trans s4).trans s5
   refine ⟨_,rfl,rfl,_,rfl,ifN (by simp) ?_⟩
   refine ⟨_,rfl,2,rfl,l5,_,rfl,SqL.of hl5,fun p6 hp6=>?_⟩
   have hl5:H5 l5=some (.lst [.int (p.x:Int),.int (p.y:Int),.int (p.lo:Int),.int (p.hi:Int)]):=hl5
   rw [show cutV (List.map (fun (n:Nat)=>V.int (n:Int)) [p.x,p.y,p.lo,p.hi]) none (some 2)=[.int (p.x:Int),.int (p.y:Int)] from rfl]
   have s6:Same H5 (upd H5 p6 (.lst [.int (p.x:Int),.int (p.y:Int)])):=xo (Same.refl _) hp6
   have g6:upd H5 p6 (.lst [.int (p.x:Int),.int (p.y:Int)]) p6=some (.lst [.int (p.x:Int),.int (p.y:Int)]):=xf
   revert s6 g6
   generalize upd H5 p6 (.lst [.int (p.x:Int),.int (p.y:Int)])=H6
   intro s6 g6
   refine ⟨p6,_,rfl,SqL.of g6,rfl,_,_,rfl,_,_,rfl,rfl,?_⟩
   have hl6:=s6 _ _ (s05 _ _ hl)
   refine ⟨_,rfl,l,_,rfl,.inl (SqL.of hl6),_,_,rfl,rfl,_,rfl,ifP (by rfl) ⟨_,rfl,l,_,4,.str p.sd,rfl,rfl,SqL.of hl6,rfl,?_⟩⟩
   refine ⟨_,rfl,l,_,rfl,.inl (SqL.of hl6),_,_,rfl,rfl,_,rfl,ifP (by rfl) ?_⟩
   refine ⟨_,rfl,2,rfl,l5,_,rfl,SqL.of (s6 _ _ hl5),fun p7 hp7=>?_⟩
   rw [show cutV [V.int (p.x:Int),.int (p.y:Int),.int (p.lo:Int),.int (p.hi:Int)] (some 2) none=[.int (p.lo:Int),.int (p.hi:Int)] from rfl]
   have s7:Same H6 (upd H6 p7 (.lst [.int (p.lo:Int),.int (p.hi:Int)])):=xo (Same.refl _) hp7
   have g7:upd H6 p7 (.lst [.int (p.lo:Int),.int (p.hi:Int)]) p7=some (.lst [.int (p.lo:Int),.int (p.hi:Int)]):=xf
   revert s7 g7
   generalize upd H6 p7 (.lst [.int (p.lo:Int),.int (p.hi:Int)])=H7
   intro s7 g7
   refine .inr ⟨p7,_,rfl,SqL.of g7,rfl,_,_,rfl,_,_,rfl,rfl,?_⟩
   refine ⟨_,rfl,l,_,1,.str p.nm,rfl,rfl,SqL.of (s7 _ _ hl6),rfl,_,rfl,_,rfl,_,rfl,_,rfl,_,rfl,(by show 6≤sizeLine; decide),fun p8 hp8=>?_⟩
   exact q _ p8 ((s05.trans s6).trans (s7.trans (xo (Same.refl _) hp8))) xf
end
end S25
set_option maxRecDepth 100000
set_option maxHeartbeats 4000000
namespace S25
open PySem L2 XL PyProof.Rows
structure Ln where
 b:Bool
 ws:List Wd
def Ln.t (n:Ln):Str:=Str.join ⟨#[32]⟩ (x8 n.b :: n.ws.map Wd.t)
structure Ln.Ok (n:Ln):Prop where
 ne:n.ws≠[]
 ok:∀ w ∈ n.ws,w.Ok
 len:n.ws.length≤12
def Ln.ss (n:Ln):List Seat:=(n.ws.flatMap Wd.rs).map fun i=>(n.b,i)
theorem xdo (b:Bool):(x8 b).length≤6:=by cases b <;> decide +kernel
theorem xji (b:Bool):32 ∉ (x8 b).cps.toList:=by cases b <;> decide +kernel
theorem xm6 (b:Bool):(x8 b).cps.toList≠[]:=by cases b <;> decide +kernel
theorem Ln.len1 {n:Ln} (o:n.Ok):n.t.length≤1000:=by
 have h:=xdc (c:=32) (k:=6) (ws:=x8 n.b :: n.ws.map Wd.t) fun p hp=>by
  rcases List.mem_cons.mp hp with rfl | hp
  ·exact xdo _
  ·obtain ⟨w,hw,rfl⟩:=List.mem_map.mp hp
   exact Wd.len (o.ok w hw)
 have l:=o.len
 rw [List.length_cons,List.length_map] at h
 show (Str.join ⟨#[32]⟩ (x8 n.b :: n.ws.map Wd.t)).length≤1000
 omega
theorem Ln.free {n:Ln} (o:n.Ok):∀ p ∈ x8 n.b :: n.ws.map Wd.t,32 ∉ p.cps.toList∧p.cps.toList≠[]:=fun p hp=>by
 rcases List.mem_cons.mp hp with rfl | hp
 ·exact ⟨xji _,xm6 _⟩
 ·obtain ⟨w,hw,rfl⟩:=List.mem_map.mp hp
  exact ⟨Wd.free (o.ok w hw),Wd.ne (o.ok w hw)⟩
section
variable {P:Program} {w:World} {K:PySem.W.Frag} {mg:Str→Option Value} {base:Heap} {t:Adr}
end
def Pw.pt (ph:Int) (p:Pw):Pt:=match p.way with
 | .a=>⟨p.nm,p.x,p.y, "both",1,ph⟩
 | .b=>⟨p.nm,p.x,p.y,p.sd,1,ph⟩
 | .c=>⟨p.nm,p.x,p.y,p.sd,p.lo,p.hi⟩
theorem Pw.res_eq (p:Pw) (ph:Int):∃ hv,p.res=[.str (p.pt ph).nm,.int (p.pt ph).x,.int (p.pt ph).y,.str (p.pt ph).sd,.int (p.pt ph).lo,hv]∧((hv=.non∧(p.pt ph).hi=ph)∨hv=.int (p.pt ph).hi):=by
 unfold Pw.res Pw.pt
 cases p.way
 ·exact ⟨_,rfl,.inl ⟨rfl,rfl⟩⟩
 ·exact ⟨_,rfl,.inl ⟨rfl,rfl⟩⟩
 ·exact ⟨_,rfl,.inr rfl⟩
def xjb (b:Bool) (ws:List Wd):List Seat:=(ws.flatMap Wd.rs).map fun i=>(b,i)
def DoR (t:Adr) (H:Hp) (Q:VK) (a l:Addr):Prop:=∃ (dp do_:Addr) (pw ph:Int) (ps:List Pt) (ss:List Seat) (b:Bool) (ws:List Wd),Pic t H a dp do_ pw ph ps∧Sts H do_ ss∧RimW H l b ws∧SsOk ph (ss ++ xjb b ws) ∧
 ∀ H',(∀ c u,c≠do_→H c=some u→H' c=some u)→Pic t H' a dp do_ pw ph ps→Sts H' do_ (ss ++ xjb b ws)→Q .non H'
theorem SsOk.part {h:Int} {ss r:List Seat} (o:SsOk h (ss ++ r)):SsOk h ss:=⟨(List.nodup_append.mp o.1).1,by have:=o.2.1; rw [List.length_append] at this; omega,fun s hs=>o.2.2 s (List.mem_append_left _ hs)⟩
section
variable {P:Program} {w:World} {K:PySem.W.Frag} {mg:Str→Option Value} {base:Heap} {t:Adr}
end
def frT (w h:Nat):Str:=Str.join ⟨#[32]⟩ ["frame",numT w,numT h]
theorem xos {w h:Nat} (w1:w < 100) (h1:h < 100):∀ p ∈ [("frame":Str),numT w,numT h],32 ∉ p.cps.toList∧p.cps.toList≠[]:=fun p hp=>by
 rcases List.mem_cons.mp hp with rfl | hp
 ·exact ⟨by decide +kernel,by decide +kernel⟩
 rcases List.mem_cons.mp hp with rfl | hp
 ·exact ⟨xb8 w1 (by decide),xe0 w1⟩
 rcases List.mem_cons.mp hp with rfl | hp
 ·exact ⟨xb8 h1 (by decide),xe0 h1⟩
 ·cases hp
theorem xao {n:Nat} (h:n < 100):(numT n).length≤5:=by rcases xd6 h with z | ⟨z,_⟩ <;> omega
theorem xqg {w h:Nat} (w1:w < 100) (h1:h < 100):(frT w h).length≤18 :=
 xdc (c:=32) (k:=5) (ws:=["frame",numT w,numT h]) fun p hp=>by
  rcases List.mem_cons.mp hp with rfl | hp
  ·decide +kernel
  rcases List.mem_cons.mp hp with rfl | hp
  ·exact xao w1
  rcases List.mem_cons.mp hp with rfl | hp
  ·exact xao h1
  ·cases hp
theorem TxT.num {n:Nat} (h:n < 100):TxT (numT n):=⟨Nat.le_trans (xao h) (by decide),xb8 h (by decide),xe0 h⟩
theorem Pw.words {p:Pw} (o:p.Ok):∀ s ∈ p.ws,TxT s:=by
 have hp:TxT "point":=⟨by decide +kernel,by decide +kernel,by decide +kernel⟩
 unfold Pw.ws
 cases p.way <;> intro s hs <;> simp only [List.mem_cons,List.not_mem_nil,or_false] at hs
 ·rcases hs with rfl | rfl | rfl | rfl
  ·exact hp
  ·exact o.nm
  ·exact .num o.x
  ·exact .num o.y
 ·rcases hs with rfl | rfl | rfl | rfl | rfl
  ·exact hp
  ·exact o.nm
  ·exact .num o.x
  ·exact .num o.y
  ·exact o.sd
 ·rcases hs with rfl | rfl | rfl | rfl | rfl | rfl | rfl
  ·exact hp
  ·exact o.nm
  ·exact .num o.x
  ·exact .num o.y
  ·exact o.sd
  ·exact .num o.lo
  ·exact .num o.hi
theorem Pw.ws_len (p:Pw):p.ws.length≤7∧p.ws≠[]:=by
 unfold Pw.ws
 cases p.way <;> exact ⟨by simp,by simp⟩
theorem Pw.len {p:Pw} (o:p.Ok):p.t.length≤77:=by
 have h:=xdc (c:=32) (k:=10) (ws:=p.ws) fun s hs=>(Pw.words o s hs).len
 have:=p.ws_len.1
 show (Str.join ⟨#[32]⟩ p.ws).length≤77
 omega
section
variable {P:Program} {w:World} {K:PySem.W.Frag} {mg:Str→Option Value} {base:Heap} {t:Adr}
end
end S25
set_option maxRecDepth 100000
set_option maxHeartbeats 4000000
namespace S25
open PySem L2 XL PyProof.Rows
theorem xk9 {x d:Int} (h:0 < d) (h2:d≤4294967296):-(2 ^ 64) < x % d∧x % d < 2 ^ 64:=by
 have a:=Int.emod_nonneg x (show d≠0 by omega)
 have b:=Int.emod_lt_of_pos x h
 exact ⟨by omega,by omega⟩
theorem xcs (x:Int) {d:Int} (h:0 < d):0≤x % d∧x % d < d:=⟨Int.emod_nonneg _ (by omega),Int.emod_lt_of_pos _ h⟩
def xpm (K:PySem.W.Frag):Sp:=fun vs H Q _=>∃ (a:Addr) (ns:List Int) (k:Int),vs=[.ref a,.int k]∧SqL K H a (ns.map V.int)∧0≤k∧k < 2 ^ 62∧∀ c:Int,Q (.int c) H
def xpl:Sp:=fun vs H Q _=>∃ c k:Int,vs=[.int c,.int k]∧0≤k∧∀ m:Int,Q (.int m) H
def xog:Sp:=fun vs H Q _=>∃ i:Int,vs=[.int i]∧Q (.bl true) H
theorem xal {n:Nat} (h:n < 100):((n:Int)).natAbs.log2 < 1920:=by
 have:=Nat.log2_le_self n
 show n.log2 < 1920
 omega
section
variable {P:Program} {w:World} {K:PySem.W.Frag} {mg:Str→Option Value} {base:Heap} {t:Adr}
theorem ok_j (T:Txt w K mg t):FnOk true P w K mg base (CXo P w) 1 t.f_j t.d_j ["_law_script", "_law_k"] (xpm K):=by
 refine T.F_j.okn (k:=0) sc_j (fun vs H Q E h=>?_) (fun cdv A outer s H vs Q E hr h=>?_)
 ·obtain ⟨a,ns,k,rfl,_⟩:=h
  rfl
 ·obtain ⟨a,ns,k,rfl,h⟩:=h
  refine ⟨_,xg (xaf (xt xc5 (pv 1) (xab xac rfl T.n_len boot_len (xa (pv 0) (xb))) (x0 _)) (xk (x5 (xaq xam (pv 0) (pv 1) (fun _ _=>rfl)))) (xaa))
   (xk (x5 (xp xag (xp xdi (xh) (pv 1)) (xh)))),?_⟩
  obtain ⟨hs,k0,k1,q⟩:=h
  refine ⟨_,rfl,_,rfl,a,_,rfl,.inl hs,_,_,rfl,rfl,_,rfl,?_⟩
  refine ite2 (fun c=>?_) (fun c=>?_)
  ·have c':k < (ns.length:Int):=by simpa using c
   obtain ⟨j,rfl⟩:=Int.eq_ofNat_of_zero_le k0
   have lt:j < ns.length:=by omega
   exact ⟨_,rfl,_,rfl,a,_,_,_,rfl,rfl,hs,xbs (by rw [List.getElem?_map,List.getElem?_eq_getElem lt]; rfl),q _⟩
  ·exact ⟨_,rfl,_,_,rfl,rfl,.inl ⟨by decide,by decide⟩,_,_,rfl,rfl,q _⟩
theorem ok_s (T:Txt w K mg t):FnOk true P w K mg base (CXo P w) 1 t.f_s t.d_s ["_law_cell_here", "_law_k"] (xpl):=by
 refine T.F_s.okn (k:=0) sc_s (fun vs H Q E h=>?_) (fun cdv A outer s H vs Q E hr h=>?_)
 ·obtain ⟨c,k,rfl,_⟩:=h
  rfl
 ·obtain ⟨c,k,rfl,h⟩:=h
  refine ⟨_,xg (xaf (xt xbl (xp xa1 (pv 0) (xh)) (xh) (x0 _)) (xk (x5 (xp xa1 (xp xp9 (pv 0) (xp xag (xh) (xp xdi (xh) (pv 1)))) (xp xpk (xh) (xh))))) (xaa))
   (xg (xv (i:=2) sc_s.nd rfl (Or.inl rfl) (xp xa1 (xp xdi (xp xag (xp xag (xp xa1 (pv 0) (xh)) (xp xdi (xh) (pv 1))) (xh)) (xh)) (xh)))
   (xg (xv (i:=2) sc_s.nd rfl (Or.inl rfl) (xp xa1 (xp xag (xp xdi (pv 2) (pv 2)) (xp xdi (xh) (pv 1))) (xh)))
   (xk (x5 (xp xdz (xp xa1 (xp xdi (pv 2) (xp xag (pv 2) (xh))) (xh)) (xh)))))),?_⟩
  obtain ⟨k0,q⟩:=h
  refine ⟨_,rfl,_,_,rfl,rfl,(by show (0:Int) < 4; decide),rfl,_,rfl,ite2 (fun z=>?_) (fun z=>?_)⟩
  ·exact ⟨_,rfl,_,rfl,_,_,rfl,rfl,.inl ⟨by decide,by decide⟩,_,_,rfl,rfl,_,_,rfl,rfl,(by omega),_,_,rfl,rfl,⟨by decide,by decide,by decide⟩,_,_,rfl,rfl,(by show (0:Int) < 2 ^ (40:Int).toNat; decide),q _⟩
  refine ⟨_,rfl,_,_,rfl,rfl,(by show (0:Int) < 2147483629; decide),_,rfl,_,_,rfl,rfl,.inl ⟨by decide,by decide⟩,_,_,rfl,rfl,_,_,rfl,rfl,_,_,rfl,rfl,.inr ⟨by decide,by decide⟩,_,_,rfl,rfl,(by show (0:Int) < 2147483647; decide),?_⟩
  refine ⟨_,rfl,_,rfl,_,_,rfl,rfl,.inl (xk9 (by decide) (by decide)),_,rfl,_,_,rfl,rfl,.inl ⟨by decide,by decide⟩,_,_,rfl,rfl,_,_,rfl,rfl,(by show (0:Int) < 2147483629; decide),?_⟩
  exact ⟨_,rfl,_,rfl,_,_,rfl,rfl,_,_,rfl,rfl,.inl (xk9 (by decide) (by decide)),_,_,rfl,rfl,(by show (0:Int) < 2147483587; decide),_,_,rfl,rfl,⟨by decide,by decide⟩,q _⟩
theorem ok_x (T:Txt w K mg t):FnOk true P w K mg base (CXo P w) 1 t.f_x t.d_x ["_law_found"] (xog):=by
 refine T.F_x.okn (k:=0) sc_x (fun vs H Q E h=>?_) (fun cdv A outer s H vs Q E hr h=>?_)
 ·obtain ⟨i,rfl,_⟩:=h
  rfl
 ·obtain ⟨i,rfl,h⟩:=h
  refine ⟨_,xk (x5 (xdy (xab xbi rfl T.n_isinstance boot_isinstance (xa (pv 0) (xa (xbz (v:=.ty "int") rfl T.n_int boot_int rfl) (xb)))) (xfz (xj6 (xab xbi rfl T.n_isinstance boot_isinstance (xa (pv 0) (xa (xbz (v:=.ty "bool") rfl T.n_bool boot_bool rfl) (xb)))))))),?_⟩
  refine ⟨_,rfl,_,_,rfl,.inl ⟨_,_,true,.int i,rfl,xbv,true,rfl,iteT ?_⟩⟩
  exact ⟨_,rfl,_,_,rfl,.inl ⟨_,_,false,.int i,rfl,(by rfl),false,rfl,h⟩⟩
end
end S25
set_option maxRecDepth 100000
set_option maxHeartbeats 4000000
namespace S25
open PySem L2 XL PyProof.Rows
def DoQ (t:Adr) (H:Hp) (Q:VK) (a l:Addr):Prop:=∃ (dp do_:Addr) (pw ph:Int) (ps:List Pt) (p:Pw),Pic t H a dp do_ pw ph ps∧PtW H l p∧PtOk pw ph (p.pt ph)∧(∀ q ∈ ps,q.nm≠(p.pt ph).nm∧q.x≠(p.pt ph).x∧q.y≠(p.pt ph).y)∧ps.length < 12 ∧
 ∀ H',(∀ c u,c≠dp→H c=some u→H' c=some u)→Pic t H' a dp do_ pw ph (ps ++ [p.pt ph])→Q .non H'
def xqn (t:Adr):Sp:=fun vs H Q _=>∃ (a l:Addr) (nv:V),vs=[.ref a,nv,.ref l]∧(DoR t H Q a l∨DoQ t H Q a l)
inductive Itm where
 | rim (n:Ln)
 | pt (p:Pw)
def Itm.t:Itm→Str
 | .rim n=>n.t
 | .pt p=>p.t
def Itm.Ok:Itm→Prop
 | .rim n=>n.Ok
 | .pt p=>p.Ok
def Itm.ss:Itm→List Seat
 | .rim n=>n.ss
 | .pt _=>[]
def Itm.ps (h:Int):Itm→List Pt
 | .rim _=>[]
 | .pt p=>[p.pt h]
def itV (its:List Itm):List V:=its.map fun i=>V.str i.t
def xoi (t:Adr):Sp:=fun vs H Q _=>∃ (ll:Addr) (w h:Nat) (its:List Itm),vs=[.ref ll]∧H ll=some (.lst (.str (frT w h) :: itV its))∧(1≤w∧w≤30)∧(1≤h∧h≤16)∧(∀ i ∈ its,i.Ok)∧its.length≤1000∧SsOk h (its.flatMap Itm.ss)∧xfx w h (its.flatMap (Itm.ps h)) ∧
 ∀ H' a dp do_,Same H H'→H a=none→H do_=none→H dp=none→Pic t H' a dp do_ w h (its.flatMap (Itm.ps h))→Sts H' do_ (its.flatMap Itm.ss)→Q (.ref a) H'
theorem xfx.pre {w h:Int} {r s:List Pt} {p:Pt} (o:xfx w h (r ++ p :: s)):PtOk w h p∧(∀ q ∈ r,q.nm≠p.nm∧q.x≠p.x∧q.y≠p.y)∧r.length < 12:=by
 refine ⟨o.ok p (by simp),fun q hq=>⟨?_,?_,?_⟩,by have:=o.le; simp at this; omega⟩
 ·have z:=o.nn
  rw [List.map_append,List.nodup_append] at z
  exact z.2.2 _ (List.mem_map.mpr ⟨q,hq,rfl⟩) _ (by simp)
 ·have z:=o.nx
  rw [List.map_append,List.nodup_append] at z
  exact z.2.2 _ (List.mem_map.mpr ⟨q,hq,rfl⟩) _ (by simp)
 ·have z:=o.ny
  rw [List.map_append,List.nodup_append] at z
  exact z.2.2 _ (List.mem_map.mpr ⟨q,hq,rfl⟩) _ (by simp)
def IPc (t:Adr) (H6:Hp) (ll l2 a dp do_:Addr) (w h:Nat) (its:List Itm) (i:Nat) (σ:L2.St) (H7:Hp):Prop:=∃ (v5 v6:Option V),σ=[some (.ref ll),some (.ref l2),some (.int w),some (.int h),some (.ref a),v5,v6]∧(∀ c u,c≠do_→c≠dp→H6 c=some u→H7 c=some u)∧Pic t H7 a dp do_ w h ((its.take i).flatMap (Itm.ps h))∧Sts H7 do_ ((its.take i).flatMap Itm.ss)
theorem Itm.len {i:Itm} (o:i.Ok):i.t.length≤1000:=by
 cases i with
 | rim n=>exact Ln.len1 o
 | pt p=>exact Nat.le_trans (Pw.len o) (by decide)
section
variable {P:Program} {w:World} {K:PySem.W.Frag} {mg:Str→Option Value} {base:Heap} {t:Adr}
theorem ok_am (T:Txt w K mg t):FnOk true P w K mg base (CXo P w) 6 t.f_am t.d_am ["picture", "number", "words"] (xqn t):=by
 refine T.F_am.okn (k:=5) sc_am (fun vs H Q E h=>?_) (fun cdv A outer s H vs Q E hr h=>?_)
 ·obtain ⟨a,l,nv,rfl,_⟩:=h
  rfl
 ·obtain ⟨a,l,nv,rfl,h⟩:=h
  refine ⟨_,xg (xv (i:=3) sc_am.nd rfl (Or.inl rfl) (xq ((ok_ak T).or (okD_ak T)) (hr.mono (by decide)) rfl T.g_ak T.F_ak.kp T.b_ak .nil xn (xa (pv 2) (xb))))
   (xg (xv (i:=4) sc_am.nd rfl (Or.inl rfl) (xq ((ok_t T).or (okD_t T)) (hr.mono (by decide)) rfl T.g_t T.F_t.kp T.b_t .nil xn (xa (pv 2) (xb))))
   (xk (xaf (xt xi5 (pv 3) (xa0) (x0 _)) (xk (xbu PassesOwn.never rfl (xax (pv 3)) (xr (i:=5) sc_am.nd rfl (Or.inl rfl)) (xk (xav (xd0 (pv 0) T.c_k T.m_d (ok_d T) (hr.mono (by decide)) T.b_d .nil xn (xa (xaq xam (pv 2) (xh) (fun _ _=>rfl)) (xa (pv 5) (xb)))))))) (xk (xaf (xt xi5 (pv 4) (xa0) (x0 _)) (xg (xcq (pv 4) (xca rfl (xx (xr (i:=6) sc_am.nd rfl (Or.inl rfl)) (xx (xr (i:=7) sc_am.nd rfl (Or.inl rfl)) (xx (xr (i:=8) sc_am.nd rfl (Or.inl rfl)) (xx (xr (i:=9) sc_am.nd rfl (Or.inl rfl)) (xx (xr (i:=10) sc_am.nd rfl (Or.inl rfl)) (xx (xr (i:=11) sc_am.nd rfl (Or.inl rfl)) (xbb)))))))))
   (xk (xav (xd0 (pv 0) T.c_k T.m_f (ok_f T) (hr.mono (by decide)) T.b_f .nil xn (xan (pv 6) (xan (pv 7) (xan (pv 8) (xan (pv 9) (xan (pv 10) (xan (pv 11) (xb) rfl) rfl) rfl) rfl) rfl) rfl))))) (xk (xa5))))))),?_⟩
  rcases h with ⟨dp,do_,pw,ph,ps,ss,b,ws,pic,st,rim,sok,q⟩ | ⟨dp,do_,pw,ph,ps,p,pic,ptw,pok,unl,l12,q⟩
  ·refine ⟨_,rfl,.inl ⟨l,b,ws,rfl,rim,fun H1 l1 s1 fl1 hl1=>?_⟩⟩
   have rim1:RimW H1 l b ws:=⟨s1 _ _ rim.1,rim.2⟩
   refine ⟨_,rfl,.inl ⟨l,b,ws,rfl,rim1,fun H2 s2=>?_⟩⟩
   refine ⟨_,rfl,rfl,_,rfl,ifP (by rfl) ?_⟩
   have s02:=s1.trans s2
   have hl2:=s2 _ _ hl1
   obtain ⟨ko,hko,_⟩:=id (st.same s02)
   have n1:l1≠do_:=xbk hl2 hko (fun z=>nomatch z)
   have n2:l≠do_:=xbk (s02 _ _ rim.1) hko (fun z=>nomatch z)
   refine ⟨_,rfl,l1,rfl,⟨_,SqL.of hl2⟩,?_⟩
   refine xb7 (xs:=(ws.flatMap Wd.rs).map V.int) (Pv:=fun i σ H5=>∃ (v5 v6 v7 v8 v9 v10 v11:Option V),σ=[some (.ref a),some nv,some (.ref l),some (.ref l1),some .non,v5,v6,v7,v8,v9,v10,v11]∧(∀ c u,c≠do_→H2 c=some u→H5 c=some u)∧Pic t H5 a dp do_ pw ph ps∧Sts H5 do_ (ss ++ ((ws.flatMap Wd.rs).take i).map fun i=>(b,i))) ⟨_,_,_,_,_,_,_,rfl,fun _ _ _ e=>e,Pic.same s02 pic,by rw [List.take_zero,List.map_nil,List.append_nil]; exact st.same s02⟩ ?_ ?_ ?_
   ·rintro i σ H5 _ ⟨_,_,_,_,_,_,_,_,k,_⟩
    exact SqL.of (k _ _ n1 hl2)
   ·rintro i x σ H5 hx ⟨v5,v6,v7,v8,v9,v10,v11,rfl,k,pic5,st5⟩
    rw [List.getElem?_map] at hx
    obtain ⟨r,hr,rfl⟩:=Option.map_eq_some_iff.mp hx
    obtain ⟨⟨dx5,hp5⟩,_⟩:=id pic5
    have tk:(((ws.flatMap Wd.rs).take (i + 1)).map fun i=>(b,i))=(((ws.flatMap Wd.rs).take i).map fun i=>(b,i)) ++ [(b,r)]:=by
     rw [List.take_succ,hr,List.map_append]
     rfl
    have cut:ss ++ xjb b ws=(ss ++ (((ws.flatMap Wd.rs).take (i + 1)).map fun i=>(b,i))) ++ (((ws.flatMap Wd.rs).drop (i + 1)).map fun i=>(b,i)):=by
     rw [List.append_assoc,← List.map_append,List.take_append_drop]
     rfl
    have sok1:=sok
    rw [cut] at sok1
    have sok2:=sok1.part
    rw [tk,← List.append_assoc] at sok2
    have rr:=sok2.2.2 (b,r) (List.mem_append_right _ List.mem_cons_self)
    have nin:(b,r) ∉ ss ++ (((ws.flatMap Wd.rs).take i).map fun i=>(b,i)):=fun z=>(List.nodup_append.mp sok2.1).2.2 _ z _ List.mem_cons_self rfl
    have lt:(ss ++ (((ws.flatMap Wd.rs).take i).map fun i=>(b,i))).length < 32:=by
     have:=sok2.2.1
     rw [List.length_append,List.length_singleton] at this
     omega
    refine ⟨_,rfl,a,dx5,_,rfl,hp5,xcg (by decide +kernel),_,rfl,l,_,0,.str (x8 b),rfl,rfl,SqL.of (k _ _ n2 (s02 _ _ rim.1)),xbs (j:=0) rfl,_,rfl,a,dp,do_,pw,ph,ps,_,b,r,rfl,pic5,st5,rr.1,rr.2,nin,lt,fun H6 k6 pic6 st6=>?_⟩
    refine ⟨_,_,_,_,_,_,_,rfl,fun c u nc e=>k6 c u nc (k c u nc e),pic6,?_⟩
    rw [tk,← List.append_assoc]
    exact st6
   ·rintro σ H5 ⟨_,_,_,_,_,_,_,rfl,k,pic5,st5⟩
    rw [List.length_map,List.take_length] at st5
    exact q H5 (fun c u nc e=>k c u nc (s02 _ _ e)) pic5 st5
  ·refine ⟨_,rfl,.inr ⟨l,p,rfl,ptw,fun H1 s1=>?_⟩⟩
   refine ⟨_,rfl,.inr ⟨l,p,rfl,⟨s1 _ _ ptw.1,ptw.2⟩,fun H2 q2 s2 hq2=>?_⟩⟩
   refine ⟨_,rfl,rfl,_,rfl,ifN (by rfl) ⟨_,rfl,rfl,_,rfl,ifP (by rfl) ?_⟩⟩
   obtain ⟨hv,er,hh⟩:=p.res_eq ph
   rw [er] at hq2
   refine ⟨_,rfl,q2,_,rfl,SqT.of hq2,rfl,_,_,rfl,_,_,rfl,_,_,rfl,_,_,rfl,_,_,rfl,_,_,rfl,rfl,?_⟩
   have s02:=s1.trans s2
   have pic2:=Pic.same s02 pic
   obtain ⟨⟨dx2,hp2⟩,_⟩:=id pic2
   refine ⟨_,rfl,a,dx2,_,rfl,hp2,xcg (by decide +kernel),_,rfl,_,rfl,_,rfl,_,rfl,_,rfl,_,rfl,?_⟩
   exact ⟨a,dp,do_,pw,ph,ps,(p.pt ph).nm,(p.pt ph).x,(p.pt ph).y,(p.pt ph).sd,(p.pt ph).lo,(p.pt ph).hi,hv,rfl,pic2,hh,pok.nm,pok.x1,pok.x2,pok.y1,pok.y2,pok.sd,pok.l1,pok.l2,pok.l3,unl,l12,fun H' k pc=>q H' (fun c u nc e=>k c u nc (s02 _ _ e)) pc⟩
theorem ok_p (T:Txt w K mg t):FnOk true P w K mg base (CXo P w) 7 t.f_p t.d_p ["lines"] (xoi t):=by
 refine T.F_p.okn (k:=6) sc_p (fun vs H Q E h=>?_) (fun cdv A outer s H vs Q E hr h=>?_)
 ·obtain ⟨ll,w',h',its,rfl,_⟩:=h
  rfl
 ·obtain ⟨ll,w',h',its,rfl,h⟩:=h
  refine ⟨_,xg (xaf (PW.pt (xbp (xbc (xbd (xab xbi rfl T.n_isinstance boot_isinstance (xa (pv 0) (xa (xbz (v:=.ty "list") rfl T.n_list boot_list rfl) (xb)))))) (xba (xt xbl (xab xac rfl T.n_len boot_len (xa (pv 0) (xb))) (xh) (x0 _))))) (xk (xa5)) (xaa))
   (xg (xv (i:=1) sc_p.nd rfl (Or.inl rfl) (xq (ok_al T) (hr.mono (by decide)) rfl T.g_al T.F_al.kp T.b_al .nil xn (xa (xq (ok_af T) (hr.mono (by decide)) rfl T.g_af T.F_af.kp T.b_af .nil xn (xa (xaq xam (pv 0) (xh) (fun _ _=>rfl)) (xb))) (xb))))
   (xg (xaf (xt xeh (pv 1) (xa0) (x0 _)) (xk (xa5)) (xaa))
   (xg (xcq (pv 1) (xd5 rfl (xx (xr (i:=2) sc_p.nd rfl (Or.inl rfl)) (xx (xr (i:=3) sc_p.nd rfl (Or.inl rfl)) (xbb)))))
   (xg (xv (i:=4) sc_p.nd rfl (Or.inl rfl) (xgl T.k_k (ok_n T) (hr.mono (by decide)) rfl T.g_k T.b_n .nil xn (xa (pv 2) (xa (pv 3) (xb)))))
   (xg (xbu PassesOwn.never rfl (xme rfl T.n_enumerate (xa (xa6 xbf (pv 0) (xa4 (xh)) xbw) (xb)) (xh)) (xca rfl (xx (xr (i:=5) sc_p.nd rfl (Or.inl rfl)) (xx (xr (i:=6) sc_p.nd rfl (Or.inl rfl)) (xbb)))) (xk (xav (xq (ok_am T) (hr.mono (by decide)) rfl T.g_am T.F_am.kp T.b_am .nil xn (xa (pv 4) (xa (pv 5) (xa (xq (ok_af T) (hr.mono (by decide)) rfl T.g_af T.F_af.kp T.b_af .nil xn (xa (pv 6) (xb))) (xb))))))))
   (xk (x5 (pv 4)))))))),?_⟩
  obtain ⟨hl,⟨w1,w2⟩,⟨h1,h2⟩,ok,len,sok,pok,q⟩:=h
  have w100:w' < 100:=by omega
  have h100:h' < 100:=by omega
  refine ⟨_,rfl,_,_,rfl,.inl ⟨_,_,true,.lst hl,rfl,xbv,true,rfl,ifN (by decide) ⟨_,rfl,ll,_,rfl,.inl (SqL.of hl),rfl,_,rfl,ifN (by simp; omega) ?_⟩⟩⟩
  have fl:=xqg w100 h100
  refine ⟨_,rfl,ll,_,0,.str (frT w' h'),rfl,rfl,SqL.of hl,xbs (j:=0) rfl,[("frame":Str),numT w',numT h'],rfl,by simp,xos w100 h100,Nat.le_trans fl (by decide),fun lw hlw=>?_⟩
  rw [show ([("frame":Str),numT w',numT h'].map V.str)=[V.str "frame",V.str (numT w'),V.str (numT h')] from rfl]
  have s1:Same H (upd H lw (.lst [V.str "frame",V.str (numT w'),V.str (numT h')])):=xo (Same.refl _) hlw
  have g1:upd H lw (.lst [V.str "frame",V.str (numT w'),V.str (numT h')]) lw=some (.lst [V.str "frame",V.str (numT w'),V.str (numT h')]):=xf
  revert s1 g1
  generalize upd H lw (.lst [V.str "frame",V.str (numT w'),V.str (numT h')])=H1
  intro s1 g1
  refine ⟨lw,w',h',rfl,g1,w100,h100,fun H2 l2 s2 fl2 hl2=>?_⟩
  refine ⟨_,rfl,rfl,_,rfl,ifN (by simp) ?_⟩
  refine ⟨_,rfl,l2,_,rfl,SqL.of hl2,rfl,_,_,rfl,_,_,rfl,rfl,?_⟩
  have s02:=s1.trans s2
  refine ⟨_,rfl,_,rfl,fun a dx ha hdx ne=>?_⟩
  refine ⟨a,dx,w',h',rfl,xf,by omega,by omega,by omega,by omega,fun H5 dp do_ hdp hdo k5 pic5 hdt=>⟨rfl,?_⟩⟩
  have s5:Same H H5:=fun b u e=>k5 b u (xm (s02 _ _ e) ha) (by rw [xj (xm (s02 _ _ e) ha),xj (xm (s02 _ _ e) hdx)]; exact s02 _ _ e)
  have up:∀ b,upd (upd H2 dx (.own a)) a (.ins t.C_k dx []) b=none→H2 b=none:=fun b z=>by
   cases e:H2 b with
   | none=>rfl
   | some u=>rw [xj (xm e ha),xj (xm e hdx),e] at z; cases z
  have fdo:H do_=none:=s02.free (up _ hdo)
  have fdp:H dp=none:=s02.free (up _ hdp)
  refine ⟨_,rfl,1,rfl,ll,_,rfl,SqL.of (s5 _ _ hl),fun p hp=>?_⟩
  rw [xnl]
  have s6:Same H5 (upd H5 p (.lst (itV its))):=xo (Same.refl _) hp
  have g6:upd H5 p (.lst (itV its)) p=some (.lst (itV its)):=xf
  revert s6 g6
  generalize upd H5 p (.lst (itV its))=H6
  intro s6 g6
  have s06:=s5.trans s6
  obtain ⟨kd,hkd,_⟩:=id pic5.pl
  have np:p≠do_:=Ne.symm (xm hdt hp)
  have np2:p≠dp:=Ne.symm (xm hkd hp)
  refine ⟨p,_,rfl,rfl,SqL.of g6,?_⟩
  refine xk5 (xs:=itV its) (Pv:=IPc t H6 ll l2 a dp do_ w' h' its) ⟨_,_,rfl,fun _ _ _ _ e=>e,Pic.same s6 pic5,⟨[],s6 _ _ hdt,rfl,List.nodup_nil,Nat.zero_le _⟩⟩ ?_ ?_ ?_
  ·rintro i σ H7 _ ⟨_,_,_,k,_⟩
   exact SqL.of (k _ _ np np2 g6)
  ·rintro i x p2 σ H7 hx hp2 ⟨v5,v6,rfl,k,pic7,st7⟩
   unfold itV at hx
   rw [List.getElem?_map] at hx
   obtain ⟨d,hd,rfl⟩:=Option.map_eq_some_iff.mp hx
   have o:=ok d (List.mem_of_getElem? hd)
   have tk:its.take (i + 1)=its.take i ++ [d]:=by rw [List.take_succ,hd]; rfl
   have cut:its=its.take i ++ d :: its.drop (i + 1):=by
    obtain ⟨y1,y2⟩:=List.getElem?_eq_some_iff.mp hd
    have e:=(List.take_append_drop i its).symm
    rw [List.drop_eq_getElem_cons y1,y2] at e
    exact e
   have s8:Same H7 (upd H7 p2 (.tup [.int ((i:Int) + 1),.str d.t])):=xo (Same.refl _) hp2
   have g8:upd H7 p2 (.tup [.int ((i:Int) + 1),.str d.t]) p2=some (.tup [.int ((i:Int) + 1),.str d.t]):=xf
   revert s8 g8
   generalize upd H7 p2 (.tup [.int ((i:Int) + 1),.str d.t])=H8
   intro s8 g8
   refine ⟨p2,_,rfl,SqT.of g8,rfl,_,_,rfl,_,_,rfl,rfl,?_⟩
   have dl:=Itm.len o
   cases d with
   | rim n =>
    refine ⟨_,rfl,_,rfl,_,rfl,x8 n.b :: n.ws.map Wd.t,rfl,by simp,Ln.free o,dl,fun l9 hl9=>?_⟩
    rw [show ((x8 n.b :: n.ws.map Wd.t).map V.str)=.str (x8 n.b) :: wdsV n.ws by unfold wdsV; rw [List.map_cons,List.map_map]; rfl]
    have s9:Same H8 (upd H8 l9 (.lst (.str (x8 n.b) :: wdsV n.ws))):=xo (Same.refl _) hl9
    have g9:upd H8 l9 (.lst (.str (x8 n.b) :: wdsV n.ws)) l9=some (.lst (.str (x8 n.b) :: wdsV n.ws)):=xf
    revert s9 g9
    generalize upd H8 l9 (.lst (.str (x8 n.b) :: wdsV n.ws))=H9
    intro s9 g9
    have s79:=s8.trans s9
    refine ⟨a,l9,.int ((i:Int) + 1),rfl,.inl ⟨dp,do_,w',h',_,_,n.b,n.ws,Pic.same s79 pic7,st7.same s79,⟨g9,o.ne,o.ok,o.len⟩,?_,fun H' kz pc st'=>?_⟩⟩
    ·have z:=sok
     rw [cut,List.flatMap_append,List.flatMap_cons,← List.append_assoc] at z
     exact z.part
    ·refine ⟨_,_,rfl,fun c u nc nd e=>kz c u nc (s79 _ _ (k c u nc nd e)),?_,?_⟩
     ·rw [tk,List.flatMap_append,List.flatMap_singleton]
      show Pic t H' a dp do_ w' h' (_ ++ [])
      rw [List.append_nil]
      exact pc
     ·rw [tk,List.flatMap_append,List.flatMap_singleton]
      exact st'
   | pt p =>
    refine ⟨_,rfl,_,rfl,_,rfl,p.ws,rfl,p.ws_len.2,fun s hs=>⟨(Pw.words o s hs).fr,(Pw.words o s hs).ne⟩,dl,fun l9 hl9=>?_⟩
    have s9:Same H8 (upd H8 l9 (.lst (p.ws.map V.str))):=xo (Same.refl _) hl9
    have g9:upd H8 l9 (.lst (p.ws.map V.str)) l9=some (.lst (p.ws.map V.str)):=xf
    revert s9 g9
    generalize upd H8 l9 (.lst (p.ws.map V.str))=H9
    intro s9 g9
    have s79:=s8.trans s9
    have z:=pok
    rw [cut,List.flatMap_append,List.flatMap_cons] at z
    obtain ⟨z1,z2,z3⟩:=xfx.pre (p:=p.pt h') (s:=(its.drop (i + 1)).flatMap (Itm.ps h')) z
    refine ⟨a,l9,.int ((i:Int) + 1),rfl,.inr ⟨dp,do_,w',h',_,p,Pic.same s79 pic7,⟨g9,o⟩,z1,z2,z3,fun H' kz pc=>?_⟩⟩
    obtain ⟨ko,hko,hk2⟩:=id (st7.same s79)
    obtain ⟨kp,hkp,_⟩:=(Pic.same s79 pic7).pl
    refine ⟨_,_,rfl,fun c u nc nd e=>kz c u nd (s79 _ _ (k c u nc nd e)),?_,?_⟩
    ·rw [tk,List.flatMap_append,List.flatMap_singleton]
     exact pc
    ·rw [tk,List.flatMap_append,List.flatMap_singleton]
     show Sts H' do_ (_ ++ [])
     rw [List.append_nil]
     exact ⟨ko,kz _ _ (xbk hko hkp (fun z=>nomatch z)) hko,hk2⟩
  ·rintro σ H7 ⟨v5,v6,rfl,k,pic7,st7⟩
   rw [show (itV its).length=its.length from List.length_map _,List.take_length] at pic7 st7
   exact ⟨_,rfl,q H7 a dp do_ (fun b u eb=>k b u (xm eb fdo) (xm eb fdp) (s06 _ _ eb)) (s02.free ha) fdo fdp pic7 st7⟩
end
end S25
set_option maxRecDepth 100000
set_option maxHeartbeats 4000000
namespace S25
open PySem L2 XL PyProof.Rows
def xaj (R:List Nat):List V:=R.map fun (n:Nat)=>V.int (n:Int)
structure xat (R:List Nat):Prop where
 inc:Runs.Inc R
 le:∀ r ∈ R,r≤16
theorem xat.len {R:List Nat} (o:xat R):R.length≤16:=by
 have nd:R.Nodup:=o.inc.1.imp fun h=>Nat.ne_of_lt h
 have z:=xkb (l:=R) (m:=(List.range 16).map (· + 1)) nd fun r hr=>by
  have h1:=o.inc.2 r hr
  have h2:=o.le r hr
  exact List.mem_map.mpr ⟨r - 1,List.mem_range.mpr (by omega),by omega⟩
 simpa using z
def runW (p:Nat × Nat):Wd:=⟨p.1,p.2,decide (p.1≠p.2)⟩
def xaz (R:List Nat):List Wd:=(Runs.runs R).map runW
theorem xor {p:Nat × Nat} (h:p.1≤p.2) (h2:p.2≤16):(runW p).Ok:=by
 refine ⟨by show p.1 < 30; omega,by show p.2 < 30; omega,h,fun e=>?_⟩
 have z:decide (p.1≠p.2)=false:=e
 have:=of_decide_eq_false z
 show p.2=p.1
 omega
theorem xea {R:List Nat} (o:xat R):∀ w ∈ xaz R,w.Ok:=fun w hw=>by
 obtain ⟨p,hp,rfl⟩:=List.mem_map.mp hw
 have a:=Runs.runs_all o.inc p hp
 exact xor a.1 (o.le _ a.2.2)
theorem xft {R:List Nat} (o:xat R):(xaz R).flatMap Wd.rs=R.map fun (n:Nat)=>(n:Int):=by
 have h:=congrArg (List.map fun n:Nat=>(n:Int)) (Runs.runs_flat o.inc)
 rw [← h,List.map_flatMap]
 unfold xaz
 rw [List.flatMap_map]
 congr 1
 funext p
 unfold Runs.rng Wd.rs
 rw [List.map_map]
 show (List.range (p.2 + 1 - p.1)).map _=_
 congr 1
theorem xhz {R:List Nat} (o:xat R) (h:R≠[]):xaz R≠[]:=fun e=>by
 have z:=xft o
 rw [e] at z
 cases R with
 | nil=>exact h rfl
 | cons a r=>cases z
theorem xhi {R:List Nat} (o:xat R):(xaz R).length≤16:=by
 have:=Runs.runs_len o.inc
 have:=o.len
 unfold xaz
 rw [List.length_map]
 omega
theorem xay (x:Str):Str.empty ++ x=x:=xcr (by rw [xbg]; rfl)
theorem xah (a b:Str):(a ++ b).length=a.length + b.length:=by rw [xb1,xbg,List.length_append,← xb1,← xb1]
theorem xe8 (a b:Nat):numT a ++ Str.ofString "-" ++ numT b=Wd.t ⟨a,b,true⟩:=by
 have ej:=xbq (c:=45) (w:=numT b) (ws:=[numT a]) (by simp)
 rw [show Wd.t ⟨a,b,true⟩=Str.join ⟨#[45]⟩ ([numT a] ++ [numT b]) from rfl,← ej]
 rfl
def xo3:Sp:=fun vs H Q _=>∃ (a b:Nat),vs=[.int (a:Int),.int (b:Int)]∧a < 100∧b < 100∧Q (.str (runW (a,b)).t) H
def xj1:Sp:=fun vs H Q _=>∃ (l:Addr) (R:List Nat),vs=[.ref l]∧H l=some (.lst (xaj R))∧xat R∧∀ H' l',Same H H'→H l'=none→H' l'=some (.lst (wdsV (xaz R)))→Q (.ref l') H'
theorem xi3 (R:List Nat) (k:Nat):inV (.int (k:Int)) (xaj R)=decide (k ∈ R):=by
 unfold inV xaj
 rw [List.any_map,Bool.eq_iff_iff,List.any_eq_true,decide_eq_true_iff]
 constructor
 ·rintro ⟨x,hx,e⟩
  change eqV (.int (x:Int)) (.int (k:Int))=true at e
  have:(x:Int)=(k:Int):=by simpa [eqV] using e
  rw [show k=x by omega]
  exact hx
 ·intro h
  refine ⟨k,h,?_⟩
  change eqV (.int (k:Int)) (.int (k:Int))=true
  simp [eqV]
theorem xg0 (R:List Nat):(xaj R).all xcm=true:=by
 rw [List.all_eq_true]
 intro z hz
 obtain ⟨i,_,rfl⟩:=List.mem_map.mp hz
 rfl
section
variable {P:Program} {w:World} {K:PySem.W.Frag} {mg:Str→Option Value} {base:Heap} {t:Adr}
theorem ok_ad (T:Txt w K mg t):FnOk true P w K mg base (CXo P w) 1 t.f_ad t.d_ad ["first", "last"] (xo3):=by
 refine T.F_ad.okn (k:=0) sc_ad (fun vs H Q E h=>?_) (fun cdv A outer s H vs Q E hr h=>?_)
 ·obtain ⟨a,b,rfl,_⟩:=h
  rfl
 ·obtain ⟨a,b,rfl,h⟩:=h
  refine ⟨_,xk (x5 (xcc (xt xbl (pv 0) (pv 1) (x0 _)) (xad xai rfl T.n_str boot_str (xa (pv 0) (xb))) (xd2 (xbj (pv 0) (xa3 (xbj (pv 1) (xer))))))),?_⟩
  obtain ⟨ha,hb,q⟩:=h
  refine ⟨_,rfl,_,rfl,rfl,_,rfl,ite2 (fun c=>?_) (fun c=>?_)⟩
  ·have e:a=b:=by
    have:=V.int.inj (of_decide_eq_true c)
    omega
   subst e
   refine ⟨_,rfl,(a:Int),rfl,xal ha,?_⟩
   rw [show runW (a,a)=⟨a,a,false⟩ by unfold runW; simp] at q
   exact q
  ·have e:a≠b:=fun z=>c (decide_eq_true (by rw [z]))
   have h1:=xao ha
   have h2:=xao hb
   have h3:(Str.ofString "-").length=1:=by decide +kernel
   refine ⟨_,rfl,numT a,.inr ⟨_,rfl,xal ha,rfl⟩,?_,?_,_,rfl,numT b,.inr ⟨_,rfl,xal hb,rfl⟩,?_,?_⟩
   ·rw [xay]
    exact Nat.le_trans (by omega:_≤1000) (by decide)
   ·rw [xay,xah,h3]
    exact Nat.le_trans (by omega:_≤1000) (by decide)
   ·rw [xay,xah,xah,h3]
    exact Nat.le_trans (by omega:_≤1000) (by decide)
   rw [xay,xe8]
   rw [show runW (a,b)=⟨a,b,true⟩ by unfold runW; simp [e]] at q
   exact q
theorem ok_ai (T:Txt w K mg t):FnOk true P w K mg base (CXo P w) 2 t.f_ai t.d_ai ["rows"] (xj1):=by
 refine T.F_ai.okn (k:=1) sc_ai (fun vs H Q E h=>?_) (fun cdv A outer s H vs Q E hr h=>?_)
 ·obtain ⟨l,R,rfl,_⟩:=h
  rfl
 ·obtain ⟨l,R,rfl,h⟩:=h
  refine ⟨_,xg (xcb rfl (xbe (zs:=["row"]) (ys:=["rows"]) (fr:=[0]) (N0:=["rows", "firsts", "lasts"]) (sc0:=xi s_ai) (by decide +kernel) rfl rfl rfl) (xax (pv 0)) (fun _ _ _ _ _ ow nd=>xr (i:=0) nd rfl (Or.inl (ow _ (by simp))) (Or.inr (ow _ (by simp)))) (xbo (by decide)) (fun _ _ _ _ _=>xc8 (xt (r:=rIn K true) xbt (xp xhk (pv 0) (xh)) (pv 1) (by rfl))) (fun _ _ _ _ _=>pv 0) (j:=1) rfl (Or.inl rfl))
   (xg (xcb rfl (xbe (zs:=["row"]) (ys:=["rows"]) (fr:=[0]) (N0:=["rows", "firsts", "lasts"]) (sc0:=xi s_ai) (by decide +kernel) rfl rfl rfl) (xax (pv 0)) (fun _ _ _ _ _ ow nd=>xr (i:=0) nd rfl (Or.inl (ow _ (by simp))) (Or.inr (ow _ (by simp)))) (xbo (by decide)) (fun _ _ _ _ _=>xc8 (xt (r:=rIn K true) xbt (xp xag (pv 0) (xh)) (pv 1) (by rfl))) (fun _ _ _ _ _=>pv 0) (j:=2) rfl (Or.inl rfl))
   (xk (x5 (xcj rfl (xbe (zs:=["first", "last"]) (ys:=[]) (fr:=[]) (N0:=["rows", "firsts", "lasts"]) (sc0:=xi s_ai) (by decide +kernel) rfl rfl rfl) (xqk rfl T.n_zip (xa (pv 1) (xa (pv 2) (xb)))) (fun _ _ _ _ _ ow nd=>(xca rfl (xx (xr (i:=0) nd rfl (Or.inl (ow _ (by simp))) (Or.inr (ow _ (by simp)))) (xx (xr (i:=1) nd rfl (Or.inl (ow _ (by simp))) (Or.inr (ow _ (by simp)))) (xbb))):PG _ _ (gTup K 2 _))) (xgd (xcl (by decide) (xcl (by decide) (xfm)))) (fun _ _ _ _ _=>xce) (fun _ _ _ _ _=>xq (ok_ad T) (hr.mono (by decide)) rfl T.g_ad T.F_ad.kp T.b_ad .nil xn (xa (pv 0) (xa (pv 1) (xb)))))))),?_⟩
  obtain ⟨hl,ok,q⟩:=h
  have len:=ok.len
  have small:R.length < sizeLine:=Nat.lt_of_le_of_lt len (by decide)
  refine ⟨_,rfl,l,rfl,⟨_,SqL.of hl⟩,fun l1 hl1=>?_⟩
  refine xdl (as:=R) (f:=fun n:Nat=>V.int (n:Int)) (gv:=fun n:Nat=>V.int (n:Int)) (q:=fun r=>!decide (r - 1 ∈ R)) (SqL.of hl) small hl1 (fun i r H2 hr s2 N M hN hM=>?_) (fun H1 s1 el1=>?_)
  ·have r1:=ok.inc.2 r (List.mem_of_getElem? hr)
   refine ⟨_,rfl,_,_,rfl,rfl,_,rfl,l,_,rfl,.inl (SqL.of (s2 _ _ hl)),rfl,xg0 R,_,rfl,?_⟩
   have e:inV (.int ((r:Int) - 1)) (xaj R)=decide (r - 1 ∈ R):=by
    rw [show ((r:Int) - 1)=((r - 1:Nat):Int) by omega]
    exact xi3 R _
   refine ite2 (fun c=>?_) (fun c=>?_)
   ·rw [if_pos rfl,e] at c
    exact ⟨_,rfl,hN _ (Same.refl _) c⟩
   ·rw [if_pos rfl,e] at c
    exact hM _ (Same.refl _) (Bool.eq_false_iff.mpr c)
  have hl1':=s1 _ _ hl
  refine ⟨_,rfl,l,rfl,⟨_,SqL.of hl1'⟩,fun l2 hl2=>?_⟩
  refine xdl (as:=R) (f:=fun n:Nat=>V.int (n:Int)) (gv:=fun n:Nat=>V.int (n:Int)) (q:=fun r=>!decide (r + 1 ∈ R)) (SqL.of hl1') small hl2 (fun i r H2 hr s2 N M hN hM=>?_) (fun H2 s2 el2=>?_)
  ·refine ⟨_,rfl,_,_,rfl,rfl,_,rfl,l,_,rfl,.inl (SqL.of (s2 _ _ hl1')),rfl,xg0 R,_,rfl,?_⟩
   have e:inV (.int ((r:Int) + 1)) (xaj R)=decide (r + 1 ∈ R):=xi3 R (r + 1)
   refine ite2 (fun c=>?_) (fun c=>?_)
   ·rw [if_pos rfl,e] at c
    exact ⟨_,rfl,hN _ (Same.refl _) c⟩
   ·rw [if_pos rfl,e] at c
    exact hM _ (Same.refl _) (Bool.eq_false_iff.mpr c)
  have rz:=Runs.runs_zip ok.inc
  have e1:H2 l1=some (.lst ((Runs.firsts R).map fun n:Nat=>V.int (n:Int))):=s2 _ _ el1
  have e2:H2 l2=some (.lst ((Runs.lasts R).map fun n:Nat=>V.int (n:Int))):=el2
  have flen:(Runs.firsts R).length≤R.length:=List.length_filter_le _ _
  refine ⟨_,rfl,_,rfl,l1,l2,_,_,rfl,SqL.of e1,SqL.of e2,fun l3 hl3=>?_⟩
  refine xj0 (gv:=fun a b:Nat=>V.str (runW (a,b)).t) (SqL.of e1) (SqL.of e2) rz.2 (by omega) hl3 (fun i x y p H4 hx hy s4 hp N hN=>?_) (fun H3 s3 el3=>?_)
  ·have hz:(x,y) ∈ Runs.runs R:=by
    rw [← rz.1]
    refine List.mem_of_getElem? (i:=i) ?_
    exact List.getElem?_zip_eq_some.mpr ⟨hx,hy⟩
   have az:=Runs.runs_all ok.inc _ hz
   have ay:=ok.le _ az.2.2
   have ax:x≤y:=az.1
   refine ⟨p,_,rfl,SqT.of xf,rfl,_,_,rfl,_,_,rfl,rfl,?_⟩
   exact ⟨_,rfl,_,rfl,x,y,rfl,by omega,by omega,hN _ (Same.refl _)⟩
  refine q H3 l3 ((s1.trans s2).trans s3) ((s1.trans s2).free hl3) ?_
  rw [el3,rz.1]
  unfold wdsV xaz
  rw [List.map_map]
  rfl
end
end S25
set_option maxRecDepth 100000
set_option maxHeartbeats 4000000
namespace S25
open PySem L2 XL PyProof.Rows
def dotV (p:Pt):List V:=.str p.nm :: ptV p
def pwOf (h:Int) (p:Pt):Pw:=⟨p.nm,p.x.toNat,p.y.toNat,p.sd,p.lo.toNat,p.hi.toNat,if p.lo=1∧p.hi=h then (if p.sd="both" then .a else .b) else .c⟩
theorem xf8 {s:Str} (h:isNm s=true):TxT s:=by
 unfold isNm at h
 rw [Bool.and_eq_true,Bool.and_eq_true,Bool.not_eq_true',decide_eq_true_iff,decide_eq_false_iff_not] at h
 obtain ⟨h1,h2,_⟩:=h
 have hl:=xb1 s
 rw [h1] at hl
 obtain ⟨c,hc⟩:=List.length_eq_one_iff.mp hl.symm
 rw [hc] at h2
 refine ⟨by omega,?_,by rw [hc]; simp⟩
 rw [hc,List.mem_singleton]
 rintro rfl
 exact h2 (by decide)
theorem xf5 {s:Str} (h:s="left"∨s="right"∨s="both"):TxT s:=by
 rcases h with rfl | rfl | rfl <;> exact ⟨by decide +kernel,by decide +kernel,by decide +kernel⟩
theorem xnt {w h:Int} {p:Pt} (w30:w≤30) (h16:h≤16) (o:PtOk w h p):(pwOf h p).Ok:=by
 have a1:=o.x1
 have a2:=o.x2
 have a3:=o.y1
 have a4:=o.y2
 have a5:=o.l1
 have a6:=o.l2
 have a7:=o.l3
 exact ⟨xf8 o.nm,by show p.x.toNat < 100; omega,by show p.y.toNat < 100; omega,xf5 o.sd,by show p.lo.toNat < 100; omega,by show p.hi.toNat < 100; omega⟩
theorem xoy {w h:Int} {p:Pt} (o:PtOk w h p):(pwOf h p).pt h=p:=by
 have a1:=o.x1
 have a3:=o.y1
 have a5:=o.l1
 have a6:=o.l2
 obtain ⟨nm,x,y,sd,lo,hi⟩:=p
 dsimp only at a1 a3 a5 a6
 unfold pwOf Pw.pt
 dsimp only
 by_cases c:lo=1∧hi=h
 ·rw [if_pos c]
  by_cases d:sd="both"
  ·rw [if_pos d]
   dsimp only
   rw [show ((x.toNat:Nat):Int)=x by omega,show ((y.toNat:Nat):Int)=y by omega,c.1,c.2,d]
  ·rw [if_neg d]
   dsimp only
   rw [show ((x.toNat:Nat):Int)=x by omega,show ((y.toNat:Nat):Int)=y by omega,c.1,c.2]
 ·rw [if_neg c]
  dsimp only
  rw [show ((x.toNat:Nat):Int)=x by omega,show ((y.toNat:Nat):Int)=y by omega,show ((lo.toNat:Nat):Int)=lo by omega,show ((hi.toNat:Nat):Int)=hi by omega]
theorem xee:Str.ofString " "=(⟨#[32]⟩:Str):=by decide +kernel
theorem pt_a (nm:Str) (x y:Nat):Str.ofString "point " ++ nm ++ Str.ofString " " ++ numT x ++ Str.ofString " " ++ numT y=Str.join ⟨#[32]⟩ ["point",nm,numT x,numT y]:=by
 have j1:=xbq (c:=32) (w:=nm) (ws:=[("point":Str)]) (by simp)
 have j2:=xbq (c:=32) (w:=numT x) (ws:=[("point":Str),nm]) (by simp)
 have j3:=xbq (c:=32) (w:=numT y) (ws:=[("point":Str),nm,numT x]) (by simp)
 rw [show ([("point":Str),nm,numT x,numT y]:List Str)=[("point":Str),nm,numT x] ++ [numT y] from rfl,← j3,show ([("point":Str),nm,numT x]:List Str)=[("point":Str),nm] ++ [numT x] from rfl,← j2,show ([("point":Str),nm]:List Str)=[("point":Str)] ++ [nm] from rfl,← j1,xee]
 rw [show Str.join ⟨#[32]⟩ [("point":Str)] ++ (⟨#[32]⟩:Str)=Str.ofString "point " from by decide +kernel]
theorem pt_b (nm sd:Str) (x y:Nat):Str.join ⟨#[32]⟩ ["point",nm,numT x,numT y] ++ Str.ofString " " ++ sd=Str.join ⟨#[32]⟩ ["point",nm,numT x,numT y,sd]:=by
 rw [xee]
 exact xbq (c:=32) (w:=sd) (ws:=[("point":Str),nm,numT x,numT y]) (by simp)
theorem pt_c (nm sd:Str) (x y lo hi:Nat):Str.join ⟨#[32]⟩ ["point",nm,numT x,numT y,sd] ++ Str.ofString " " ++ numT lo ++ Str.ofString " " ++ numT hi=Str.join ⟨#[32]⟩ ["point",nm,numT x,numT y,sd,numT lo,numT hi]:=by
 have j1:=xbq (c:=32) (w:=numT lo) (ws:=[("point":Str),nm,numT x,numT y,sd]) (by simp)
 have j2:=xbq (c:=32) (w:=numT hi) (ws:=[("point":Str),nm,numT x,numT y,sd,numT lo]) (by simp)
 rw [xee,j1]
 exact j2
theorem xel (a b c d:Int):dEq (.tup [.int a,.int b]) (.tup [.int c,.int d])=decide ((a,b)=(c,d)):=xn9 rfl rfl (by
 constructor
 ·intro h
  simp only [DV.tup.injEq,List.cons.injEq,DV.int.injEq,and_true] at h
  rw [h.1,h.2]
 ·intro h
  rw [(Prod.mk.inj h).1,(Prod.mk.inj h).2])
def xmy:Sp:=fun vs H Q _=>∃ (q:Addr) (w h:Nat) (p:Pt),vs=[.ref q,.int (h:Int)]∧H q=some (.tup (dotV p))∧PtOk w h p∧w≤30∧h≤16∧∀ H',Same H H'→Q (.str (pwOf h p).t) H'
section
variable {P:Program} {w:World} {K:PySem.W.Frag} {mg:Str→Option Value} {base:Heap} {t:Adr}
theorem ok_q (T:Txt w K mg t):FnOk true P w K mg base (CXo P w) 1 t.f_q t.d_q ["point", "height"] (xmy):=by
 refine T.F_q.okn (k:=0) sc_q (fun vs H Q E h=>?_) (fun cdv A outer s H vs Q E hr h=>?_)
 ·obtain ⟨u,w',h',p,rfl,_⟩:=h
  rfl
 ·obtain ⟨u,w',h',p,rfl,h⟩:=h
  refine ⟨_,xg (xcq (pv 0) (xca rfl (xx (xr (i:=2) sc_q.nd rfl (Or.inl rfl)) (xx (xr (i:=3) sc_q.nd rfl (Or.inl rfl)) (xx (xr (i:=4) sc_q.nd rfl (Or.inl rfl)) (xx (xr (i:=5) sc_q.nd rfl (Or.inl rfl)) (xx (xr (i:=6) sc_q.nd rfl (Or.inl rfl)) (xx (xr (i:=7) sc_q.nd rfl (Or.inl rfl)) (xbb)))))))))
   (xg (xaf (xt (xc1 (xbr hr)) (xau (xa (pv 6) (xa (pv 7) (xb)))) (xau (xa (xh) (xa (pv 1) (xb)))) (x0 _)) (xk (x5 (xd2 (xa3 (xbj (pv 2) (xa3 (xbj (pv 3) (xa3 (xbj (pv 4) (xa3 (xbj (pv 5) (xa3 (xbj (pv 6) (xa3 (xbj (pv 7) (xer)))))))))))))))) (xaa))
   (xg (xaf (xt xdr (pv 5) (xw) (x0 _)) (xk (x5 (xd2 (xa3 (xbj (pv 2) (xa3 (xbj (pv 3) (xa3 (xbj (pv 4) (xa3 (xbj (pv 5) (xer)))))))))))) (xaa))
   (xk (x5 (xd2 (xa3 (xbj (pv 2) (xa3 (xbj (pv 3) (xa3 (xbj (pv 4) (xer)))))))))))),?_⟩
  obtain ⟨hu,ok,w30,h16,q⟩:=h
  obtain ⟨nm,px,py,sd,plo,phi⟩:=p
  have a1:=ok.x1
  have a2:=ok.x2
  have a3:=ok.y1
  have a4:=ok.y2
  have a5:=ok.l1
  have a6:=ok.l2
  have a7:=ok.l3
  dsimp only at a1 a2 a3 a4 a5 a6 a7
  obtain ⟨x,rfl⟩:=Int.eq_ofNat_of_zero_le (show 0≤px by omega)
  obtain ⟨y,rfl⟩:=Int.eq_ofNat_of_zero_le (show 0≤py by omega)
  obtain ⟨lo,rfl⟩:=Int.eq_ofNat_of_zero_le (show 0≤plo by omega)
  obtain ⟨hi,rfl⟩:=Int.eq_ofNat_of_zero_le (show 0≤phi by omega)
  have x1:x < 100:=by omega
  have y1:y < 100:=by omega
  have lo1:lo < 100:=by omega
  have hi1:hi < 100:=by omega
  have tn:=(xf8 ok.nm).len
  have ts:=(xf5 ok.sd).len
  dsimp only at tn ts
  have lx:=xao x1
  have ly:=xao y1
  have ll:=xao lo1
  have lh:=xao hi1
  have e6:(Str.ofString "point ").length=6:=by decide +kernel
  have e1:(Str.ofString " ").length=1:=by decide +kernel
  have nz:nm.length≤sizeLine:=Nat.le_trans tn (by decide)
  have sz:sd.length≤sizeLine:=Nat.le_trans ts (by decide)
  unfold pwOf Pw.t Pw.ws at q
  dsimp only at q
  rw [Int.toNat_natCast,Int.toNat_natCast,Int.toNat_natCast,Int.toNat_natCast] at q
  refine ⟨_,rfl,u,_,rfl,SqT.of hu,rfl,_,_,rfl,_,_,rfl,_,_,rfl,_,_,rfl,_,_,rfl,_,_,rfl,rfl,?_⟩
  refine ⟨_,rfl,_,rfl,(by show 2≤sizeLine; decide),fun q1 hq1=>?_⟩
  have s1:Same H (upd H q1 (.tup [.int (lo:Int),.int (hi:Int)])):=xo (Same.refl _) hq1
  have g1:upd H q1 (.tup [.int (lo:Int),.int (hi:Int)]) q1=some (.tup [.int (lo:Int),.int (hi:Int)]):=xf
  revert s1 g1
  generalize upd H q1 (.tup [.int (lo:Int),.int (hi:Int)])=H1
  intro s1 g1
  refine ⟨_,rfl,(by show 2≤sizeLine; decide),fun q2 hq2=>?_⟩
  have s2:Same H1 (upd H1 q2 (.tup [.int 1,.int (h':Int)])):=xo (Same.refl _) hq2
  have g2:upd H1 q2 (.tup [.int 1,.int (h':Int)]) q2=some (.tup [.int 1,.int (h':Int)]):=xf
  revert s2 g2
  generalize upd H1 q2 (.tup [.int 1,.int (h':Int)])=H2
  intro s2 g2
  have s02:=s1.trans s2
  refine ⟨1,1,_,_,xcp (s2 _ _ g1),xcp g2,by decide,by decide,_,rfl,ite2 (fun c=>?_) (fun c=>?_)⟩
  ·rw [xel,Bool.not_eq_true',decide_eq_false_iff_not] at c
   have c':¬ ((lo:Int)=1∧(hi:Int)=h'):=fun z=>c (by rw [z.1,z.2])
   rw [if_neg c'] at q
   refine ⟨?_,_,rfl,nm,.inl ⟨rfl,nz⟩,?_,?_,_,rfl,numT x,.inr ⟨_,rfl,xal x1,rfl⟩,?_,?_,_,rfl,numT y,.inr ⟨_,rfl,xal y1,rfl⟩,?_,?_,_,rfl,sd,.inl ⟨rfl,sz⟩,?_,?_,_,rfl,numT lo,.inr ⟨_,rfl,xal lo1,rfl⟩,?_,?_,_,rfl,numT hi,.inr ⟨_,rfl,xal hi1,rfl⟩,?_,?_⟩
   rotate_right
   ·have z:=q H2 s02
    rw [xay,pt_a,pt_b,pt_c]
    exact z
   all_goals (refine Nat.le_trans (?_:_≤1000) (by decide); simp only [xay,xah,e6,e1]; omega)
  ·rw [xel,Bool.not_eq_true,Bool.not_eq_false',decide_eq_true_iff] at c
   rw [if_pos ⟨(Prod.mk.inj c).1,(Prod.mk.inj c).2⟩] at q
   refine ⟨_,rfl,rfl,_,rfl,ite2 (fun d=>?_) (fun d=>?_)⟩
   ·have d':sd≠"both":=fun z=>by
     rw [z] at d
     have d2:(!decide (V.str (Str.ofString "both")=V.str (Str.ofString "both")))=true:=d
     exact absurd d2 (by decide +kernel)
    rw [if_neg d'] at q
    refine ⟨?_,_,rfl,nm,.inl ⟨rfl,nz⟩,?_,?_,_,rfl,numT x,.inr ⟨_,rfl,xal x1,rfl⟩,?_,?_,_,rfl,numT y,.inr ⟨_,rfl,xal y1,rfl⟩,?_,?_,_,rfl,sd,.inl ⟨rfl,sz⟩,?_,?_⟩
    rotate_right
    ·have z:=q H2 s02
     rw [xay,pt_a,pt_b]
     exact z
    all_goals (refine Nat.le_trans (?_:_≤1000) (by decide); simp only [xay,xah,e6,e1]; omega)
   ·have d':sd="both":=by
     by_cases z:sd="both"
     ·exact z
     ·exact absurd (by rw [decide_eq_false fun y=>z (V.str.inj y)]; rfl) d
    rw [if_pos d'] at q
    refine ⟨?_,_,rfl,nm,.inl ⟨rfl,nz⟩,?_,?_,_,rfl,numT x,.inr ⟨_,rfl,xal x1,rfl⟩,?_,?_,_,rfl,numT y,.inr ⟨_,rfl,xal y1,rfl⟩,?_,?_⟩
    rotate_right
    ·have z:=q H2 s02
     rw [xay,pt_a]
     exact z
    all_goals (refine Nat.le_trans (?_:_≤1000) (by decide); simp only [xay,xah,e6,e1]; omega)
end
end S25
set_option maxRecDepth 100000
set_option maxHeartbeats 4000000
namespace S25
open PySem L2 XL PyProof.Rows
def lrSs (L R:List Nat):List Seat:=(L.map fun (n:Nat)=>(true,(n:Int))) ++ R.map fun (n:Nat)=>(false,(n:Int))
def xar (b:Bool) (R:List Nat):List Itm:=if R=[] then [] else [.rim ⟨b,xaz R⟩]
def xch (h:Int) (L R:List Nat) (ps:List Pt):List Itm:=xar true L ++ xar false R ++ ps.map fun p=>.pt (pwOf h p)
theorem xgj {L R:List Nat} (hL:xat L) (hR:xat R):(lrSs L R).Pairwise xeo:=by
 unfold lrSs
 rw [List.pairwise_append]
 refine ⟨?_,?_,?_⟩
 ·rw [List.pairwise_map]
  exact hL.inc.1.imp fun {a b} h=>.inr ⟨rfl,by show (a:Int) < b; omega⟩
 ·rw [List.pairwise_map]
  exact hR.inc.1.imp fun {a b} h=>.inr ⟨rfl,by show (a:Int) < b; omega⟩
 ·intro s hs u hu
  obtain ⟨a,_,rfl⟩:=List.mem_map.mp hs
  obtain ⟨b,_,rfl⟩:=List.mem_map.mp hu
  exact .inl ⟨rfl,rfl⟩
def xks (t:Adr):Sp:=fun vs H Q _=>∃ (a dp do_:Addr) (w h:Nat) (ps:List Pt) (ss:List Seat) (L R:List Nat),vs=[.ref a]∧Pic t H a dp do_ w h ps∧Sts H do_ ss∧ss.Perm (lrSs L R)∧xat L∧xat R∧(∀ p ∈ ps,PtOk w h p) ∧
 ∀ H' l,Same H H'→H l=none→H' l=some (.lst (.str (frT w h) :: itV (xch h L R ps)))→Q (.ref l) H'
theorem xhy (w h:Nat):Str.ofString "frame " ++ numT w ++ Str.ofString " " ++ numT h=frT w h:=by
 have z:=xbq (c:=32) (w:=numT h) (ws:=["frame",numT w]) (by simp)
 have y:=xbq (c:=32) (w:=numT w) (ws:=["frame"]) (by simp)
 unfold frT
 rw [show ([("frame":Str),numT w,numT h]:List Str)=[("frame":Str),numT w] ++ [numT h] from rfl,← z,show ([("frame":Str),numT w]:List Str)=[("frame":Str)] ++ [numT w] from rfl,← y,xee]
 rw [show Str.join ⟨#[32]⟩ [("frame":Str)] ++ (⟨#[32]⟩:Str)=Str.ofString "frame " from by decide +kernel]
theorem xh3 (q:Seat→Bool):∀ (ss:List Seat) (qs:List Addr),ss.length=qs.length→(((ss.zip qs).filter fun p=>q p.1).map fun p=>V.int p.1.2)=(ss.filter q).map fun s=>V.int s.2
 | [],_,_=>rfl
 | _ :: _,[],h=>by cases h
 | s :: ss,u :: qs,h=>by
  have ih:=xh3 q ss qs (by simpa using h)
  by_cases c:q s=true
  ·rw [List.zip_cons_cons,List.filter_cons_of_pos (p:=fun p:Seat × Addr=>q p.1) (a:=(s,u)) c,List.filter_cons_of_pos (p:=q) c,List.map_cons,List.map_cons,ih]
  ·rw [List.zip_cons_cons,List.filter_cons_of_neg (p:=fun p:Seat × Addr=>q p.1) (a:=(s,u)) c,List.filter_cons_of_neg (p:=q) c,ih]
theorem xia:∀ (ss:List Seat) (qs:List Addr),ss.length=qs.length→((ss.zip qs).map fun p=>V.ref p.2)=qs.map V.ref
 | [],[],_=>rfl
 | _ :: _,[],h=>by cases h
 | [],_ :: _,h=>by cases h
 | s :: ss,u :: qs,h=>by
  rw [List.zip_cons_cons,List.map_cons,List.map_cons,xia ss qs (by simpa using h)]
def lrB (L R:List Nat):Bool→List Nat
 | true=>L
 | false=>R
theorem xow (L R:List Nat) (b:Bool):(((lrSs L R).filter fun s=>decide (s.1=b)).map fun s=>V.int s.2)=xaj (lrB L R b):=by
 unfold lrSs xaj
 rw [List.filter_append,List.filter_map,List.filter_map,List.map_append,List.map_map,List.map_map]
 cases b
 ·rw [show (L.filter ((fun s:Seat=>decide (s.1=false)) ∘ fun (n:Nat)=>(true,(n:Int))))=[] from List.filter_eq_nil_iff.mpr fun a _=>by simp,show (R.filter ((fun s:Seat=>decide (s.1=false)) ∘ fun (n:Nat)=>(false,(n:Int))))=R from List.filter_eq_self.mpr fun a _=>by simp]
  rfl
 ·rw [show (L.filter ((fun s:Seat=>decide (s.1=true)) ∘ fun (n:Nat)=>(true,(n:Int))))=L from List.filter_eq_self.mpr fun a _=>by simp,show (R.filter ((fun s:Seat=>decide (s.1=true)) ∘ fun (n:Nat)=>(false,(n:Int))))=[] from List.filter_eq_nil_iff.mpr fun a _=>by simp,List.map_nil,List.append_nil]
  rfl
def xcf (L R:List Nat):Nat→List Itm
 | 0=>[]
 | 1=>xar true L
 | _=>xar true L ++ xar false R
theorem xcw (L R:List Nat) {i:Nat} (hi:i < 2):xcf L R (i + 1)=xcf L R i ++ xar (decide (i=0)) (lrB L R (decide (i=0))):=by
 have:i=0∨i=1:=by omega
 rcases this with rfl | rfl <;> rfl
theorem xb2 (b:Bool) (R:List Nat):(xar b R).length≤1:=by unfold xar; split <;> simp
theorem xb3 (a b:List Itm):itV (a ++ b)=itV a ++ itV b:=by unfold itV; rw [List.map_append]
theorem xkf {L R:List Nat} (hL:xat L) (hR:xat R) (b:Bool):xat (lrB L R b):=by cases b <;> assumption
theorem xoc (b:Bool) (R:List Nat):Str.join (Str.ofString " ") ([x8 b] ++ (xaz R).map Wd.t)=Itm.t (.rim ⟨b,xaz R⟩):=by rw [xee]; rfl
section
variable {P:Program} {w:World} {K:PySem.W.Frag} {mg:Str→Option Value} {base:Heap} {t:Adr}
theorem ok_ac (T:Txt w K mg t):FnOk true P w K mg base (CXo P w) 3 t.f_ac t.d_ac ["picture"] (xks t):=by
 refine T.F_ac.okn (k:=2) sc_ac (fun vs H Q E h=>?_) (fun cdv A outer s H vs Q E hr h=>?_)
 ·obtain ⟨a,dp,do_,w',h',ps,ss,L,R,rfl,_⟩:=h
  rfl
 ·obtain ⟨a,dp,do_,w',h',ps,ss,L,R,rfl,h⟩:=h
  refine ⟨_,xg (xv (i:=1) sc_ac.nd rfl (Or.inl rfl) (xa8 (pv 0) rfl))
   (xg (xv (i:=2) sc_ac.nd rfl (Or.inr rfl) (xa8 (pv 0) rfl))
   (xg (xv (i:=3) sc_ac.nd rfl (Or.inl rfl) (xaw (xa (xd2 (xa3 (xbj (pv 1) (xa3 (xbj (pv 2) (xer)))))) (xb))))
   (xg (xbu PassesOwn.never rfl (xpc (xau (xa (xw) (xa (xw) (xb))))) (xr (i:=4) sc_ac.nd rfl (Or.inr rfl)) (xg (xcb rfl (xbe (zs:=["side", "row"]) (ys:=["rim"]) (fr:=[4]) (N0:=["picture", "width", "height", "lines", "rim", "rows"]) (sc0:=xi s_ac) (by decide +kernel) rfl rfl rfl) (xax (xc9 (pv 0) T.c_k T.m_h (ok_h T) (hr.mono (by decide)) T.b_h .nil xn)) (fun _ _ _ _ _ ow nd=>(xca rfl (xx (xr (i:=0) nd rfl (Or.inl (ow _ (by simp))) (Or.inr (ow _ (by simp)))) (xx (xr (i:=1) nd rfl (Or.inl (ow _ (by simp))) (Or.inr (ow _ (by simp)))) (xbb))):PG _ _ (gTup K 2 _))) (xgd (xcl (by decide) (xcl (by decide) (xfm)))) (fun _ _ _ _ _=>xc8 (xt xbl (pv 0) (pv 2) (x0 _))) (fun _ _ _ _ _=>pv 1) (j:=5) rfl (Or.inl rfl))
   (xk (xaf (xl0 (pv 5) (fun _=>rfl)) (xk (xav (xbm PySem.F.plainAttrs_list PySem.F.slot_list_append PySem.F.type_list_append xa7 (pv 3) (xa (xbm PySem.F.plainAttrs_str PySem.F.slot_str_join PySem.F.type_str_join xgm (xw) (xa (xp xc2 (xaw (xa (pv 4) (xb))) (xq (ok_ai T) (hr.mono (by decide)) rfl T.g_ai T.F_ai.kp T.b_ai .nil xn (xa (pv 5) (xb)))) (xb))) (xb))))) (xaa)))))
   (xk (x5 (xp xc2 (pv 3) (xcj rfl (xbe (zs:=["point"]) (ys:=["height"]) (fr:=[2]) (N0:=["picture", "width", "height", "lines", "rim", "rows"]) (sc0:=xi s_ac) (by decide +kernel) rfl rfl rfl) (xax (xc9 (pv 0) T.c_k T.m_e (ok_e T) (hr.mono (by decide)) T.b_e .nil xn)) (fun _ _ _ _ _ ow nd=>xr (i:=0) nd rfl (Or.inl (ow _ (by simp))) (Or.inr (ow _ (by simp)))) (xbo (by decide)) (fun _ _ _ _ _=>xce) (fun _ _ _ _ _=>xq (ok_q T) (hr.mono (by decide)) rfl T.g_q T.F_q.kp T.b_q .nil xn (xa (pv 0) (xa (pv 1) (xb))))))))))),?_⟩
  obtain ⟨pic,sts,pm,okL,okR,pok,q⟩:=h
  have w2:=pic.w2
  have h2:=pic.h2
  have w1:=pic.w1
  have h1:=pic.h1
  have w100:w' < 100:=by omega
  have h100:h' < 100:=by omega
  obtain ⟨⟨dx,hp⟩,_⟩:=id pic
  have wl:=xao w100
  have hl:=xao h100
  have e6:(Str.ofString "frame ").length=6:=by decide +kernel
  have e1:(Str.ofString " ").length=1:=by decide +kernel
  refine ⟨_,rfl,a,_,_,_,_,rfl,hp,T.c_k,T.n_av,lkW,?_⟩
  refine ⟨_,rfl,a,_,_,_,_,rfl,hp,T.c_k,T.n_at,lkH,?_⟩
  refine ⟨?_,_,rfl,numT w',.inr ⟨_,rfl,xal w100,rfl⟩,?_,?_,_,rfl,numT h',.inr ⟨_,rfl,xal h100,rfl⟩,?_,(by show 1≤sizeLine; decide),fun ll hll=>?_⟩
  ·exact Nat.le_trans (by rw [xay,e6]; decide:_≤1000) (by decide)
  ·exact Nat.le_trans (by rw [xay,xah,e6]; omega:_≤1000) (by decide)
  ·exact Nat.le_trans (by rw [xay,xah,xah,e6,e1]; omega:_≤1000) (by decide)
  ·exact Nat.le_trans (by rw [xay,xah,xah,xah,e6,e1]; omega:_≤1000) (by decide)
  rw [xay,xhy]
  have s1:Same H (upd H ll (.lst [.str (frT w' h')])):=xo (Same.refl _) hll
  have g1:upd H ll (.lst [.str (frT w' h')]) ll=some (.lst [.str (frT w' h')]):=xf
  revert s1 g1
  generalize upd H ll (.lst [.str (frT w' h')])=H1
  intro s1 g1
  refine ⟨(by show 2≤sizeLine; decide),fun tq htq=>?_⟩
  have s2:Same H1 (upd H1 tq (.tup [.str "left",.str "right"])):=xo (Same.refl _) htq
  have g2:upd H1 tq (.tup [.str "left",.str "right"]) tq=some (.tup [.str "left",.str "right"]):=xf
  revert s2 g2
  generalize upd H1 tq (.tup [.str "left",.str "right"])=H2
  intro s2 g2
  have s02:=s1.trans s2
  have fll:=hll
  refine ⟨tq,rfl,⟨_,SqT.of g2⟩,?_⟩
  refine xoq (xs:=[.str "left",.str "right"]) (Pv:=fun i σ H5=>∃ (v4 v5:Option V),σ=[some (.ref a),some (.int (w':Int)),some (.int (h':Int)),some (.ref ll),v4,v5]∧(∀ c u,c≠ll→H2 c=some u→H5 c=some u)∧H5 ll=some (.lst (.str (frT w' h') :: itV (xcf L R i)))) ⟨_,_,rfl,fun _ _ _ e=>e,s2 _ _ g1⟩ ?_ ?_ ?_
  ·rintro i σ H5 _ ⟨v4,v5,_,k,_⟩
   exact SqT.of (k _ _ (Ne.symm (xm g1 htq)) g2)
  ·rintro i x σ H5 hx ⟨v4,v5,rfl,k,h5⟩
   obtain ⟨i2,ex⟩:i < 2∧x=.str (x8 (decide (i=0))):=by
    match i,hx with
    | 0,hx=>cases hx; exact ⟨by decide,rfl⟩
    | 1,hx=>cases hx; exact ⟨by decide,rfl⟩
    | i + 2,hx=>simp at hx
   subst ex
   have s05:Same H H5:=fun c u e=>k c u (xm e fll) (s02 _ _ e)
   have pic5:=Pic.same s05 pic
   obtain ⟨⟨dx5,hp5⟩,_⟩:=id pic5
   refine ⟨_,rfl,a,dx5,_,rfl,hp5,xcg (by decide +kernel),a,dp,do_,w',h',ps,ss,rfl,pic5,sts.same s05,fun l6 ss6 qs6 fl6 sl6 pm6 pw6=>?_⟩
   obtain rfl:ss6=lrSs L R:=xdw xen (pm6.trans pm) pw6 (xgj okL okR)
   have s6:Same H5 (upd H5 l6 (.lst (qs6.map V.ref))):=xo (Same.refl _) fl6
   have g6:upd H5 l6 (.lst (qs6.map V.ref)) l6=some (.lst (qs6.map V.ref)):=xf
   revert s6 g6
   generalize upd H5 l6 (.lst (qs6.map V.ref))=H6
   intro s6 g6
   have sl6':=sl6.keep (Same.tups s6)
   have ql:=sl6.len
   have Ll:=okL.len
   have Rl:=okR.len
   have sl32:(lrSs L R).length≤32:=by
    unfold lrSs
    rw [List.length_append,List.length_map,List.length_map]
    omega
   have zl:((lrSs L R).zip qs6).length≤32:=by rw [List.length_zip]; omega
   have g6':H6 l6=some (.lst (((lrSs L R).zip qs6).map fun p=>V.ref p.2)):=by rw [xia _ _ ql.symm]; exact g6
   refine ⟨l6,rfl,⟨_,SqL.of g6⟩,fun l7 hl7=>?_⟩
   refine xdl (as:=(lrSs L R).zip qs6) (f:=fun p=>V.ref p.2) (gv:=fun p=>V.int p.1.2) (q:=fun p=>decide (p.1.1=decide (i=0))) (SqL.of g6') (Nat.lt_of_le_of_lt zl (by decide)) hl7 (fun j z H7 hz s7 N M hN hM=>?_) (fun H7 s7 el7=>?_)
   ·obtain ⟨z1,z2⟩:=List.getElem?_zip_eq_some.mp hz
    obtain ⟨s8,hs8,e8⟩:=sl6'.get z2
    rw [z1] at hs8
    cases hs8
    refine ⟨z.2,_,rfl,SqT.of (s7 _ _ e8),rfl,_,_,rfl,_,_,rfl,rfl,?_⟩
    refine ⟨_,rfl,_,rfl,rfl,_,rfl,ite2 (fun c=>?_) (fun c=>?_)⟩
    ·exact ⟨_,rfl,hN _ (Same.refl _) (decide_eq_true (xej (V.str.inj (of_decide_eq_true c))))⟩
    ·exact hM _ (Same.refl _) (decide_eq_false fun y=>c (decide_eq_true (by rw [y])))
   rw [xh3 (fun s=>decide (s.1=decide (i=0))) _ _ ql.symm,xow] at el7
   have okB:=xkf okL okR (decide (i=0))
   have s57:=s6.trans s7
   refine ⟨_,rfl,!(xaj (lrB L R (decide (i=0)))).isEmpty,.inl ⟨_,SqL.of el7,rfl⟩,ite2 (fun c=>?_) (fun c=>?_)⟩
   ·have ne:lrB L R (decide (i=0))≠[]:=fun z=>by
     rw [z] at c
     cases c
    have h7:=s57 _ _ h5
    refine ⟨_,rfl,.inl ⟨rfl,_,SqL.of h7⟩,rfl,_,rfl,(by show 1≤sizeLine; decide),fun l8 hl8=>?_⟩
    have s8:Same H7 (upd H7 l8 (.lst [.str (x8 (decide (i=0)))])):=xo (Same.refl _) hl8
    have g8:upd H7 l8 (.lst [.str (x8 (decide (i=0)))]) l8=some (.lst [.str (x8 (decide (i=0)))]):=xf
    revert s8 g8
    generalize upd H7 l8 (.lst [.str (x8 (decide (i=0)))])=H8
    intro s8 g8
    refine ⟨_,rfl,l7,_,rfl,s8 _ _ el7,okB,fun H9 l9 s9 fl9 hl9=>?_⟩
    have hlen:=xhi okB
    refine ⟨l8,l9,_,_,rfl,rfl,s9 _ _ g8,hl9,?_,fun l10 hl10=>?_⟩
    ·unfold wdsV
     rw [List.length_map]
     exact Nat.le_trans (by show 1 + _≤1000; omega) (by decide)
    have e10:([V.str (x8 (decide (i=0)))] ++ wdsV (xaz (lrB L R (decide (i=0)))))=([x8 (decide (i=0))] ++ (xaz (lrB L R (decide (i=0)))).map Wd.t).map V.str:=by
     unfold wdsV
     rw [List.map_append,List.map_map]
     rfl
    rw [e10]
    have s10:Same H9 (upd H9 l10 (.lst (([x8 (decide (i=0))] ++ (xaz (lrB L R (decide (i=0)))).map Wd.t).map V.str))):=xo (Same.refl _) hl10
    have g10:upd H9 l10 (.lst (([x8 (decide (i=0))] ++ (xaz (lrB L R (decide (i=0)))).map Wd.t).map V.str)) l10=some (.lst (([x8 (decide (i=0))] ++ (xaz (lrB L R (decide (i=0)))).map Wd.t).map V.str)):=xf
    revert s10 g10
    generalize upd H9 l10 (.lst (([x8 (decide (i=0))] ++ (xaz (lrB L R (decide (i=0)))).map Wd.t).map V.str))=H10
    intro s10 g10
    have s710:=(s8.trans s9).trans s10
    have h10:=s710 _ _ h7
    refine ⟨_,l10,_,6,rfl,rfl,g10,?_,?_,ll,_,_,rfl,rfl,h10,?_,?_⟩
    ·intro z hz
     rcases List.mem_append.mp hz with y | y
     ·rw [List.mem_singleton.mp y]
      exact xdo _
     ·obtain ⟨v,hv,rfl⟩:=List.mem_map.mp y
      exact Wd.len (xea okB v hv)
    ·rw [List.length_append,List.length_map,e1]
     exact Nat.le_trans (by show (1 + _) * _≤1000; omega) (by decide)
    ·rw [List.length_cons]
     have:(itV (xcf L R i)).length≤2:=by
      have r1:=xb2 true L
      have r2:=xb2 false R
      unfold itV
      rw [List.length_map]
      match i with
      | 0=>exact Nat.zero_le _
      | 1=>exact Nat.le_trans r1 (by decide)
      | i + 2=>show (xar true L ++ xar false R).length≤2; rw [List.length_append]; omega
     exact Nat.lt_of_le_of_lt (by omega:_≤1000) (by decide)
    refine ⟨_,_,rfl,fun c u nc e=>?_,?_⟩
    ·rw [xj nc]
     exact s710 _ _ (s57 _ _ (k c u nc e))
    ·rw [xf,xoc,xcw L R i2,xb3,show xar (decide (i=0)) (lrB L R (decide (i=0)))=[.rim ⟨decide (i=0),xaz (lrB L R (decide (i=0)))⟩] from if_neg ne]
     rfl
   ·have ne:lrB L R (decide (i=0))=[]:=by
     cases z:lrB L R (decide (i=0)) with
     | nil=>rfl
     | cons r rs =>
      rw [z] at c
      exact absurd rfl c
    refine ⟨_,_,rfl,fun c u nc e=>s57 _ _ (k c u nc e),?_⟩
    rw [xcw L R i2,xb3,show xar (decide (i=0)) (lrB L R (decide (i=0)))=[] from if_pos ne,s57 _ _ h5]
    unfold itV
    rw [List.map_nil,List.append_nil]
  ·rintro σ H5 ⟨v4,v5,rfl,k,h5⟩
   have s05:Same H H5:=fun c u e=>k c u (xm e fll) (s02 _ _ e)
   have pic5:=Pic.same s05 pic
   obtain ⟨⟨dx5,hp5⟩,_⟩:=id pic5
   refine ⟨_,rfl,_,rfl,a,dx5,_,rfl,hp5,xcg (by decide +kernel),a,dp,do_,w',h',ps,rfl,pic5,fun H6 l6 qs6 s6 hl6 pts=>?_⟩
   refine ⟨l6,rfl,⟨_,SqL.of hl6⟩,fun l7 hl7=>?_⟩
   have plen:=pic.len
   refine xdt (SqL.of hl6) (by rw [List.length_map,pts.len]; exact Nat.lt_of_le_of_lt plen (by decide)) hl7 (fun i y _=>∃ p:Pt,ps[i]?=some p∧y=.str (pwOf h' p).t) (fun _ _ _ _ _ z=>z) (fun i z H7 hz s7 N hN=>?_) (fun ys H7 s7 el7 ly f7=>?_)
   ·rw [List.getElem?_map] at hz
    obtain ⟨u,hu,rfl⟩:=Option.map_eq_some_iff.mp hz
    obtain ⟨p,hp',ep⟩:=pts.get hu
    exact ⟨_,rfl,_,rfl,u,w',h',p,rfl,s7 _ _ ep,pok p (List.mem_of_getElem? hp'),by omega,by omega,fun H8 s8=>hN _ _ s8 ⟨p,hp',rfl⟩⟩
   have ey:ys=itV (ps.map fun p=>.pt (pwOf h' p)):=by
    unfold itV
    rw [List.map_map]
    refine xjh (by rw [ly,List.length_map,pts.len]) fun i y p hy hp'=>?_
    obtain ⟨p',a1,a2⟩:=f7 i y hy
    rw [hp'] at a1
    cases a1
    exact a2
   subst ey
   have h7:=s7 _ _ (s6 _ _ h5)
   refine ⟨ll,l7,_,_,rfl,rfl,h7,el7,?_,fun l8 hl8=>?_⟩
   ·have r1:=xb2 true L
    have r2:=xb2 false R
    unfold itV
    rw [List.length_cons,List.length_map,List.length_map,List.length_map]
    have:(xcf L R 2).length≤2:=by show (xar true L ++ xar false R).length≤2; rw [List.length_append]; omega
    exact Nat.le_trans (by show (xcf L R 2).length + 1 + ps.length≤1000; omega) (by decide)
   have s07:=(s05.trans s6).trans s7
   refine q _ l8 (xo s07 hl8) (s07.free hl8) ?_
   rw [xf]
   unfold xch
   rw [xb3,xb3]
   rw [show xcf L R ([V.str "left",V.str "right"]:List V).length=xar true L ++ xar false R from rfl,xb3]
   rfl
end
end S25
set_option maxRecDepth 100000
set_option maxHeartbeats 4000000
namespace S25
open PySem L2 XL PyProof.Rows
theorem xg4 {α:Type}:∀ {l:List α} {j:Nat} {x:α},l.Nodup→l[j]?=some x→(l.eraseIdx j).Nodup∧x ∉ l.eraseIdx j∧(∀ z ∈ l.eraseIdx j,z ∈ l)∧x ∈ l
 | [],j,x,_,h=>by simp at h
 | a :: l,0,x,nd,h=>by
  cases h
  obtain ⟨h1,h2⟩:=List.nodup_cons.mp nd
  exact ⟨h2,h1,fun z hz=>List.mem_cons_of_mem _ hz,List.mem_cons_self⟩
 | a :: l,j + 1,x,nd,h=>by
  obtain ⟨h1,h2⟩:=List.nodup_cons.mp nd
  obtain ⟨a1,a2,a3,a4⟩:=xg4 h2 (show l[j]?=some x by simpa using h)
  refine ⟨?_,?_,?_,List.mem_cons_of_mem _ a4⟩
  ·rw [List.eraseIdx_cons_succ,List.nodup_cons]
   exact ⟨fun z=>h1 (a3 _ z),a1⟩
  ·rw [List.eraseIdx_cons_succ,List.mem_cons]
   rintro (z | z)
   ·exact h1 (z ▸ a4)
   ·exact a2 z
  ·intro z hz
   rw [List.eraseIdx_cons_succ,List.mem_cons] at hz
   rcases hz with rfl | hz
   ·exact List.mem_cons_self
   ·exact List.mem_cons_of_mem _ (a3 z hz)
def xmj:Sp:=fun vs H Q _=>∃ (c:Int) (n:Nat) (l:Addr) (xs:List V),vs=[.int c,.int (n:Int),.ref l]∧H l=some (.lst xs)∧n≤xs.length∧xs.length≤100∧xs.Nodup∧∀ (ys:List V) H' l',ys.length=n→ys.Nodup→(∀ y ∈ ys,y ∈ xs)→Same H H'→H' l'=some (.lst ys)→Q (.ref l') H'
def xn5:Sp:=fun vs H Q _=>∃ (c:Int) (h:Nat),vs=[.int c,.int (h:Int)]∧h≤16∧∀ (R:List Nat) H' l,xat R→(∀ r ∈ R,r≤h)→Same H H'→H l=none→H' l=some (.lst (xaj R))→Q (.ref l) H'
theorem xl6 (n:Int):∃ s:Int,atI [V.int 0,.int 4,.int 2,.int 3] (n % 4)=some (.int s):=by
 have z:=xcs n (show (0:Int) < 4 by decide)
 have:n % 4=0∨n % 4=1∨n % 4=2∨n % 4=3:=by omega
 rcases this with e | e | e | e <;> rw [e] <;> exact ⟨_,rfl⟩
section
variable {P:Program} {w:World} {K:PySem.W.Frag} {mg:Str→Option Value} {base:Heap} {t:Adr}
theorem ok_o (T:Txt w K mg t):FnOk true P w K mg base (CXo P w) 2 t.f_o t.d_o ["_law_cell_here", "_law_many", "_law_some"] (xmj):=by
 refine T.F_o.okn (k:=1) sc_o (fun vs H Q E h=>?_) (fun cdv A outer s H vs Q E hr h=>?_)
 ·obtain ⟨c,n,l,xs,rfl,_⟩:=h
  rfl
 ·obtain ⟨c,n,l,xs,rfl,h⟩:=h
  refine ⟨_,xg (xv (i:=3) sc_o.nd rfl (Or.inl rfl) (xad xeq rfl T.n_list boot_list (xa (pv 2) (xb))))
   (xg (xv (i:=4) sc_o.nd rfl (Or.inl rfl) (xaw (xb)))
   (xg (xbu PassesOwn.never rfl (xdq rfl T.n_range (xa (pv 1) (xb))) (xr (i:=5) sc_o.nd rfl (Or.inl rfl)) (xk (xav (xbm PySem.F.plainAttrs_list PySem.F.slot_list_append PySem.F.type_list_append xa7 (pv 4) (xa (xbm PySem.F.plainAttrs_list PySem.F.slot_list_pop PySem.F.type_list_pop xl9 (pv 3) (xa (xp xa1 (xq (ok_s T) (hr.mono (by decide)) rfl T.g_s T.F_s.kp T.b_s .nil xn (xa (pv 0) (xa (pv 5) (xb)))) (xab xac rfl T.n_len boot_len (xa (pv 3) (xb)))) (xb))) (xb))))))
   (xk (x5 (pv 4))))),?_⟩
  obtain ⟨hl,nl,x100,nd,q⟩:=h
  refine ⟨_,rfl,l,_,rfl,.inl (SqL.of hl),fun lf hlf=>?_⟩
  have s1:Same H (upd H lf (.lst xs)):=xo (Same.refl _) hlf
  have g1:upd H lf (.lst xs) lf=some (.lst xs):=xf
  revert s1 g1
  generalize upd H lf (.lst xs)=H1
  intro s1 g1
  refine ⟨(by show 0≤sizeLine; exact Nat.zero_le _),fun fd hfd=>?_⟩
  have s2:Same H1 (upd H1 fd (.lst [])):=xo (Same.refl _) hfd
  have g2:upd H1 fd (.lst []) fd=some (.lst []):=xf
  revert s2 g2
  generalize upd H1 fd (.lst [])=H2
  intro s2 g2
  have nfd:fd≠lf:=Ne.symm (xm g1 hfd)
  have f1:=hlf
  have f2:=s1.free hfd
  refine ⟨_,rfl,(n:Int),rfl,by omega,by omega,?_⟩
  refine xep (Pv:=fun i σ H2=>∃ (zs ls:List V) (v5:Option V),σ=[some (.int c),some (.int n),some (.ref l),some (.ref lf),some (.ref fd),v5]∧H2 lf=some (.lst ls)∧H2 fd=some (.lst zs) ∧
   zs.length=i∧ls.length + i=xs.length∧zs.Nodup∧ls.Nodup∧(∀ z ∈ zs,z ∉ ls)∧(∀ z ∈ zs,z ∈ xs)∧(∀ z ∈ ls,z ∈ xs)∧Same H H2) ?_ ?_ ?_
  ·exact ⟨[],xs,_,rfl,s2 _ _ g1,g2,rfl,by simp,List.nodup_nil,nd,(fun z h=>nomatch h),(fun z h=>nomatch h),fun z hz=>hz,s1.trans s2⟩
  ·rintro i σ H2 hi ⟨zs,ls,v5,rfl,h1,h2,e1,e2,d1,d2,d3,b1,b2,s2⟩
   have hi':i < n:=by simpa using hi
   have lp:0 < ls.length:=by omega
   refine ⟨_,rfl,.inl ⟨rfl,_,SqL.of h2⟩,_,rfl,.inl ⟨rfl,_,SqL.of h1⟩,_,rfl,_,rfl,c,_,rfl,by omega,fun m=>?_⟩
   have lp':(0:Int) < (ls.length:Int):=by omega
   obtain ⟨k0,k1⟩:=xcs m lp'
   obtain ⟨j,hj⟩:=Int.eq_ofNat_of_zero_le k0
   have jl:j < ls.length:=by
    have z:=k1
    rw [hj] at z
    omega
   have gy:ls[j]?=some ls[j]:=List.getElem?_eq_getElem jl
   refine ⟨_,rfl,lf,_,rfl,.inl (SqL.of h1),_,_,rfl,rfl,lp',lf,_,_,j,_,rfl,rfl,h1,by omega,?_,?_,gy,fd,zs,_,rfl,rfl,?_,?_,?_⟩
   ·have:(ls.length:Int) < 2 ^ 63:=by omega
    omega
   ·rw [seqIndex_of k0 k1,hj]
    rfl
   ·rw [xj nfd]
    exact h2
   ·exact Nat.lt_trans (by omega:zs.length < 101) (by decide)
   ·obtain ⟨a1,a2,a3,a4⟩:=xg4 d2 gy
    have el:=List.length_eraseIdx_of_lt jl
    refine ⟨zs ++ [ls[j]],ls.eraseIdx j,_,rfl,?_,?_,?_,?_,?_,a1,?_,?_,fun z hz=>b2 z (a3 z hz),?_⟩
    ·rw [xj (Ne.symm nfd),xf]
    ·rw [xf]
    ·rw [List.length_append,e1]
     rfl
    ·omega
    ·rw [List.nodup_append]
     exact ⟨d1,by simp,fun a ha b hb=>by
      have:=List.mem_singleton.mp hb
      subst this
      intro z
      exact d3 a ha (z ▸ a4)⟩
    ·intro z hz
     rcases List.mem_append.mp hz with y | y
     ·exact fun k=>d3 z y (a3 z k)
     ·have:=List.mem_singleton.mp y
      subst this
      exact a2
    ·intro z hz
     rcases List.mem_append.mp hz with y | y
     ·exact b1 z y
     ·have:=List.mem_singleton.mp y
      subst this
      exact b2 _ a4
    ·intro b u e
     rw [xj (xm e f2),xj (xm e f1)]
     exact s2 b u e
  ·rintro σ H2 ⟨zs,ls,v5,rfl,h1,h2,e1,e2,d1,d2,d3,b1,b2,s2⟩
   exact ⟨_,rfl,q zs H2 fd (by simpa using e1) d1 b1 s2 h2⟩
theorem ok_ae (T:Txt w K mg t):FnOk true P w K mg base (CXo P w) 2 t.f_ae t.d_ae ["_law_cell_here", "_law_height"] (xn5):=by
 refine T.F_ae.okn (k:=1) sc_ae (fun vs H Q E h=>?_) (fun cdv A outer s H vs Q E hr h=>?_)
 ·obtain ⟨c,h',rfl,_⟩:=h
  rfl
 ·obtain ⟨c,h',rfl,h⟩:=h
  refine ⟨_,xg (xv (i:=2) sc_ae.nd rfl (Or.inr rfl) (xaq xam (xaw (xa (xh) (xa (xh) (xa (xh) (xa (xh) (xb)))))) (xp xa1 (pv 0) (xh)) (fun _ _=>rfl)))
   (xk (x5 (xcj rfl (xbe (zs:=["_law_row"]) (ys:=["_law_share", "_law_cell_here"]) (fr:=[2,0]) (N0:=["_law_cell_here", "_law_height", "_law_share"]) (sc0:=xi s_ae) (by decide +kernel) rfl rfl rfl) (xkt rfl T.n_range (xa (xh) (xa (xp xag (pv 1) (xh)) (xb)))) (fun _ _ _ _ _ ow nd=>xr (i:=0) nd rfl (Or.inl (ow _ (by simp))) (Or.inr (ow _ (by simp)))) (xbo (by decide)) (fun _ _ _ _ _=>xc8 (xt xc5 (xp xa1 (xq (ok_s T) (hr.mono (by decide)) rfl T.g_s T.F_s.kp T.b_s .nil xn (xa (xp xdz (pv 2) (xh)) (xa (pv 0) (xb)))) (xh)) (pv 1) (x0 _))) (fun _ _ _ _ _=>pv 0)))),?_⟩
  obtain ⟨h16,q⟩:=h
  refine ⟨(by show 4≤sizeLine; decide),fun q0 hq0=>?_⟩
  obtain ⟨sh,esh⟩:=xl6 c
  have s1:Same H (upd H q0 (.lst [V.int 0,.int 4,.int 2,.int 3])):=xo (Same.refl _) hq0
  have g1:upd H q0 (.lst [V.int 0,.int 4,.int 2,.int 3]) q0=some (.lst [V.int 0,.int 4,.int 2,.int 3]):=xf
  revert s1 g1
  generalize upd H q0 (.lst [V.int 0,.int 4,.int 2,.int 3])=H1
  intro s1 g1
  refine ⟨_,rfl,_,_,rfl,rfl,(by show (0:Int) < 4; decide),q0,_,_,.int sh,rfl,rfl,SqL.of g1,esh,?_⟩
  refine ⟨_,rfl,_,_,rfl,rfl,1,(h':Int) + 1,rfl,⟨by decide,by decide,by omega,by omega⟩,fun l hl=>?_⟩
  refine xct h' (fun i ys H2=>Same H1 H2∧H2 l=some (.lst ys)∧∃ R:List Nat,ys=xaj R∧Runs.Inc R∧(∀ r ∈ R,r≤i)∧R.length≤i) ?_ ?_ ?_ ?_
  ·exact ⟨fun b u e=>by rw [xj (xm e hl)]; exact e,xf,[],rfl,⟨.nil,fun r hr=>(nomatch hr)⟩,fun r hr=>(nomatch hr),Nat.le_refl _⟩
  ·rintro i ys H2 lt _
   show i < ((h':Int) + 1 - 1).toNat
   omega
  ·rintro i ys H2 v H3 lt ⟨s,el,R,rfl,inc,le,lR⟩ ⟨rfl,rfl⟩ N hN
   refine ⟨_,rfl,_,_,rfl,rfl,⟨by decide,by decide⟩,_,rfl,_,_,rfl,by omega,fun m=>⟨_,_,rfl,rfl,(by show (0:Int) < 4; decide),_,rfl,_,_,rfl,rfl,_,rfl,ite2 (fun z=>?_) (fun z=>?_)⟩⟩
   ·refine ⟨_,rfl,el,?_,hN _ _ ⟨fun b u e=>?_,xf,R ++ [i + 1],?_,⟨?_,?_⟩,?_,?_⟩⟩
    ·unfold xaj
     rw [List.length_map]
     exact Nat.lt_of_le_of_lt (by omega:_≤1000) (by decide)
    ·rw [xj (xm e hl)]
     exact s _ _ e
    ·unfold xaj
     rw [List.map_append,show (1:Int) + (i:Int)=((i + 1:Nat):Int) by omega]
     rfl
    ·rw [List.pairwise_append]
     exact ⟨inc.1,by simp,fun a ha b hb=>by
      have:=le a ha
      rw [List.mem_singleton.mp hb]
      omega⟩
    ·intro r hr
     rcases List.mem_append.mp hr with y | y
     ·exact inc.2 r y
     ·rw [List.mem_singleton.mp y]
      omega
    ·intro r hr
     rcases List.mem_append.mp hr with y | y
     ·have:=le r y
      omega
     ·rw [List.mem_singleton.mp y]
      exact Nat.le_refl _
    ·rw [List.length_append,List.length_singleton]
     omega
   ·exact hN _ _ ⟨s,el,R,rfl,inc,fun r hr=>by have:=le r hr; omega,by omega⟩
  ·rintro ys H2 ⟨s,el,R,rfl,inc,le,lR⟩
   refine ⟨?_,q R H2 l ⟨inc,fun r hr=>by have:=le r hr; omega⟩ le (s1.trans s) (s1.free hl) el⟩
   show ((h':Int) + 1 - 1).toNat≤h'
   omega
end
end S25
set_option maxRecDepth 100000
set_option maxHeartbeats 4000000
namespace S25
open PySem L2 XL PyProof.Rows
def xpp:Nat→PySem.W.Frag→Sp:=fun st K vs H Q _=>∃ (sc:Addr) (ns:List Int) (w h:Nat),vs=[.ref sc,.int (st:Int),.int (w:Int),.int (h:Int)]∧SqL K H sc (ns.map V.int)∧st≤10∧(1≤w∧w≤30)∧(1≤h∧h≤16)∧∀ H' l ds qs,Same H H'→H' l=some (.lst (qs.map V.ref))→PtsL H' ds qs→xfx w h ds→Q (.ref l) H'
def abcS:Str:="abcdefghijklmnopqrstuvwxyz"
theorem xqi:∀ c ∈ abcS.cps.toList,isNm ⟨#[c]⟩=true:=by decide +kernel
theorem xp3:abcS.cps.toList.Nodup:=by decide +kernel
theorem xqc:(sgnL abcS).Nodup:=by
 unfold sgnL
 exact xlo (fun a b e=>by
  have:=congrArg (fun s:Str=>s.cps.toList) (V.str.inj e)
  exact List.head_eq_of_cons_eq this) xp3
theorem xko (n:Nat):(rngL 1 ((n:Int) + 1)).Nodup:=by
 unfold rngL
 exact xlo (fun a b e=>by
  have:=V.int.inj e
  omega) List.nodup_range
theorem xir:∀ {ys:List V},(∀ y ∈ ys,y ∈ sgnL abcS)→∃ ss:List Str,ys=ss.map V.str∧∀ s ∈ ss,isNm s=true
 | [],_=>⟨[],rfl,fun s hs=>(nomatch hs)⟩
 | y :: ys,h=>by
  obtain ⟨ss,e,hh⟩:=xir (ys:=ys) fun z hz=>h z (List.mem_cons_of_mem _ hz)
  obtain ⟨c,hc,rfl⟩:=List.mem_map.mp (h y List.mem_cons_self)
  refine ⟨⟨#[c]⟩ :: ss,by rw [e]; rfl,fun s hs=>?_⟩
  rcases List.mem_cons.mp hs with rfl | hs
  ·exact xqi c hc
  ·exact hh s hs
theorem xgg {n:Nat}:∀ {ys:List V},(∀ y ∈ ys,y ∈ rngL 1 ((n:Int) + 1))→∃ ss:List Int,ys=ss.map V.int∧∀ s ∈ ss,1≤s∧s≤n
 | [],_=>⟨[],rfl,fun s hs=>(nomatch hs)⟩
 | y :: ys,h=>by
  obtain ⟨ss,e,hh⟩:=xgg (ys:=ys) fun z hz=>h z (List.mem_cons_of_mem _ hz)
  obtain ⟨c,hc,rfl⟩:=List.mem_map.mp (h y List.mem_cons_self)
  rw [List.mem_range] at hc
  refine ⟨(1 + (c:Int)) :: ss,by rw [e]; rfl,fun s hs=>?_⟩
  rcases List.mem_cons.mp hs with rfl | hs
  ·omega
  ·exact hh s hs
theorem xdm {α β:Type} {f:α→β}:∀ {l:List α},(l.map f).Nodup→l.Nodup
 | [],_=>List.nodup_nil
 | a :: l,h=>by
  rw [List.map_cons,List.nodup_cons] at h
  rw [List.nodup_cons]
  exact ⟨fun z=>h.1 (List.mem_map.mpr ⟨a,z,rfl⟩),xdm h.2⟩
theorem xo6 (n:Int):∃ s:Str,atI [V.str "both",.str "left",.str "both",.str "right"] (n % 4)=some (.str s)∧(s="left"∨s="right"∨s="both"):=by
 have z:=xcs n (show (0:Int) < 4 by decide)
 have:n % 4=0∨n % 4=1∨n % 4=2∨n % 4=3:=by omega
 rcases this with e | e | e | e <;> rw [e]
 ·exact ⟨_,rfl,.inr (.inr rfl)⟩
 ·exact ⟨_,rfl,.inl rfl⟩
 ·exact ⟨_,rfl,.inr (.inr rfl)⟩
 ·exact ⟨_,rfl,.inr (.inl rfl)⟩
theorem PtsL.snoc1 {H:Hp} {ps:List Pt} {qs:List Addr} (h:PtsL H ps qs) {p:Pt} {q:Addr} (e:H q=some (.tup (dotV p))):PtsL H (ps ++ [p]) (qs ++ [q]):=by
 induction h with
 | nil=>exact .cons e .nil
 | cons h _ ih=>exact .cons h ih
section
variable {P:Program} {w:World} {K:PySem.W.Frag} {mg:Str→Option Value} {base:Heap} {t:Adr}
theorem ok_z (T:Txt w K mg t):FnOk true P w K mg base (CXo P w) 3 t.f_z t.d_z ["_law_script", "_law_start", "_law_width", "_law_height"] (xpp 7 K):=by
 refine T.F_z.okn (k:=2) sc_z (fun vs H Q E h=>?_) (fun cdv A outer s H vs Q E hr h=>?_)
 ·obtain ⟨sc,ns,w',h',rfl,_⟩:=h
  rfl
 ·obtain ⟨sc,ns,w',h',rfl,h⟩:=h
  refine ⟨_,xg (xv (i:=4) sc_z.nd rfl (Or.inl rfl) (xp xa1 (xq (ok_j T) (hr.mono (by decide)) rfl T.g_j T.F_j.kp T.b_j .nil xn (xa (pv 0) (xa (pv 1) (xb)))) (xp xag (xab (xj9 rfl) rfl T.n_min boot_min (xa (xh) (xa (pv 2) (xa (pv 3) (xb))))) (xh))))
   (xg (xv (i:=5) sc_z.nd rfl (Or.inl rfl) (xq (ok_o T) (hr.mono (by decide)) rfl T.g_o T.F_o.kp T.b_o .nil xn (xa (xq (ok_j T) (hr.mono (by decide)) rfl T.g_j T.F_j.kp T.b_j .nil xn (xa (pv 0) (xa (xp xag (pv 1) (xh)) (xb)))) (xa (pv 4) (xa (xad (xg6 rfl) rfl T.n_list boot_list (xa (xw) (xb))) (xb))))))
   (xg (xv (i:=6) sc_z.nd rfl (Or.inl rfl) (xq (ok_o T) (hr.mono (by decide)) rfl T.g_o T.F_o.kp T.b_o .nil xn (xa (xq (ok_j T) (hr.mono (by decide)) rfl T.g_j T.F_j.kp T.b_j .nil xn (xa (pv 0) (xa (xp xag (pv 1) (xh)) (xb)))) (xa (pv 4) (xa (xad (xc3 rfl) rfl T.n_list boot_list (xa (xad xdx rfl T.n_range boot_range (xa (xh) (xa (xp xag (pv 2) (xh)) (xb)))) (xb))) (xb))))))
   (xg (xv (i:=7) sc_z.nd rfl (Or.inl rfl) (xq (ok_o T) (hr.mono (by decide)) rfl T.g_o T.F_o.kp T.b_o .nil xn (xa (xq (ok_j T) (hr.mono (by decide)) rfl T.g_j T.F_j.kp T.b_j .nil xn (xa (pv 0) (xa (xp xag (pv 1) (xh)) (xb)))) (xa (pv 4) (xa (xad (xc3 rfl) rfl T.n_list boot_list (xa (xad xdx rfl T.n_range boot_range (xa (xh) (xa (xp xag (pv 3) (xh)) (xb)))) (xb))) (xb))))))
   (xg (xv (i:=8) sc_z.nd rfl (Or.inl rfl) (xaw (xb)))
   (xg (xbu PassesOwn.never rfl (xdq rfl T.n_range (xa (pv 4) (xb))) (xr (i:=9) sc_z.nd rfl (Or.inl rfl)) (xg (xv (i:=10) sc_z.nd rfl (Or.inl rfl) (xq (ok_j T) (hr.mono (by decide)) rfl T.g_j T.F_j.kp T.b_j .nil xn (xa (pv 0) (xa (xp xag (xp xag (pv 1) (xh)) (pv 9)) (xb)))))
   (xg (xv (i:=11) sc_z.nd rfl (Or.inl rfl) (xh))
   (xg (xv (i:=12) sc_z.nd rfl (Or.inl rfl) (pv 3))
   (xg (xc0 (xaf (xt xbl (xp xa1 (pv 10) (xh)) (xh) (x0 _)) (xg (xv (i:=11) sc_z.nd rfl (Or.inl rfl) (xp xag (xh) (xp xa1 (xq (ok_s T) (hr.mono (by decide)) rfl T.g_s T.F_s.kp T.b_s .nil xn (xa (xp xdz (pv 10) (xh)) (xa (xh) (xb)))) (pv 3))))
   (xk (xv (i:=12) sc_z.nd rfl (Or.inl rfl) (xp xag (pv 11) (xp xa1 (xq (ok_s T) (hr.mono (by decide)) rfl T.g_s T.F_s.kp T.b_s .nil xn (xa (xp xdz (pv 10) (xh)) (xa (xh) (xb)))) (xp xhk (xp xag (pv 3) (xh)) (pv 11))))))) (xaa)))
   (xk (xav (xbm PySem.F.plainAttrs_list PySem.F.slot_list_append PySem.F.type_list_append xa7 (pv 8) (xa (xau (xan (xaq xam (pv 5) (pv 9) (fun _ _=>rfl)) (xan (xaq xam (pv 6) (pv 9) (fun _ _=>rfl)) (xan (xaq xam (pv 7) (pv 9) (fun _ _=>rfl)) (xan (xaq xam (xaw (xa (xw) (xa (xw) (xa (xw) (xa (xw) (xb)))))) (xp xa1 (xp xdz (pv 10) (xh)) (xh)) (fun _ _=>rfl)) (xan (pv 11) (xan (pv 12) (xb) rfl) rfl) rfl) rfl) rfl) rfl)) (xb))))))))))
   (xk (x5 (pv 8)))))))),?_⟩
  obtain ⟨hs,st10,⟨w1,w2⟩,⟨h1,h2⟩,q⟩:=h
  refine ⟨_,rfl,_,rfl,sc,ns,_,rfl,hs,by omega,by omega,fun c0=>⟨_,rfl,_,rfl,12,_,_,rfl,fun m m1 m2 m3 m4=>⟨_,_,rfl,rfl,_,_,rfl,rfl,(by omega),?_⟩⟩⟩
  have bm:=xcs c0 (show (0:Int) < m + 1 by omega)
  obtain ⟨n,en⟩:=Int.eq_ofNat_of_zero_le bm.1
  have n12:n≤12∧n≤w'∧n≤h':=by omega
  simp only [en]
  refine ⟨_,rfl,_,rfl,_,_,rfl,rfl,sc,ns,_,rfl,hs,by omega,by omega,fun c1=>⟨_,rfl,abcS,rfl,by decide +kernel,fun l1 hl1=>?_⟩⟩
  have s1:Same H (upd H l1 (.lst (sgnL abcS))):=xo (Same.refl _) hl1
  have g1:upd H l1 (.lst (sgnL abcS)) l1=some (.lst (sgnL abcS)):=xf
  revert s1 g1
  generalize upd H l1 (.lst (sgnL abcS))=H1
  intro s1 g1
  refine ⟨c1,n,l1,_,rfl,g1,by rw [show (sgnL abcS).length=26 by decide +kernel]; omega,by decide +kernel,xqc,fun ys1 H2 l2 ly1 nd1 in1 s2 hl2=>?_⟩
  obtain ⟨nms,rfl,nmok⟩:=xir in1
  refine ⟨_,rfl,_,rfl,_,_,rfl,rfl,sc,ns,_,rfl,Same.seqL (s1.trans s2) hs,by omega,by omega,fun c2=>⟨_,rfl,_,rfl,_,_,rfl,rfl,1,(w':Int) + 1,rfl,fun p3 hp3=>?_⟩⟩
  have s3:Same H2 (upd H2 p3 (.rng 1 ((w':Int) + 1))):=xo (Same.refl _) hp3
  have g3:upd H2 p3 (.rng 1 ((w':Int) + 1)) p3=some (.rng 1 ((w':Int) + 1)):=xf
  revert s3 g3
  generalize upd H2 p3 (.rng 1 ((w':Int) + 1))=H3
  intro s3 g3
  refine ⟨p3,_,_,rfl,g3,⟨by decide,by decide,by omega,by omega⟩,by omega,fun l4 hl4=>?_⟩
  have s4:Same H3 (upd H3 l4 (.lst (rngL 1 ((w':Int) + 1)))):=xo (Same.refl _) hl4
  have g4:upd H3 l4 (.lst (rngL 1 ((w':Int) + 1))) l4=some (.lst (rngL 1 ((w':Int) + 1))):=xf
  revert s4 g4
  generalize upd H3 l4 (.lst (rngL 1 ((w':Int) + 1)))=H4
  intro s4 g4
  have rlw:(rngL 1 ((w':Int) + 1)).length=w':=by unfold rngL; rw [List.length_map,List.length_range]; omega
  refine ⟨c2,n,l4,_,rfl,g4,by rw [rlw]; omega,by rw [rlw]; omega,xko _,fun ys2 H5 l5 ly2 nd2 in2 s5 hl5=>?_⟩
  obtain ⟨xs,rfl,xok⟩:=xgg in2
  have s05:=(((s1.trans s2).trans s3).trans s4).trans s5
  refine ⟨_,rfl,_,rfl,_,_,rfl,rfl,sc,ns,_,rfl,Same.seqL s05 hs,by omega,by omega,fun c3=>⟨_,rfl,_,rfl,_,_,rfl,rfl,1,(h':Int) + 1,rfl,fun p6 hp6=>?_⟩⟩
  have s6:Same H5 (upd H5 p6 (.rng 1 ((h':Int) + 1))):=xo (Same.refl _) hp6
  have g6:upd H5 p6 (.rng 1 ((h':Int) + 1)) p6=some (.rng 1 ((h':Int) + 1)):=xf
  revert s6 g6
  generalize upd H5 p6 (.rng 1 ((h':Int) + 1))=H6
  intro s6 g6
  refine ⟨p6,_,_,rfl,g6,⟨by decide,by decide,by omega,by omega⟩,by omega,fun l7 hl7=>?_⟩
  have s7:Same H6 (upd H6 l7 (.lst (rngL 1 ((h':Int) + 1)))):=xo (Same.refl _) hl7
  have g7:upd H6 l7 (.lst (rngL 1 ((h':Int) + 1))) l7=some (.lst (rngL 1 ((h':Int) + 1))):=xf
  revert s7 g7
  generalize upd H6 l7 (.lst (rngL 1 ((h':Int) + 1)))=H7
  intro s7 g7
  have rlh:(rngL 1 ((h':Int) + 1)).length=h':=by unfold rngL; rw [List.length_map,List.length_range]; omega
  refine ⟨c3,n,l7,_,rfl,g7,by rw [rlh]; omega,by rw [rlh]; omega,xko _,fun ys3 H8 l8 ly3 nd3 in3 s8 hl8=>?_⟩
  obtain ⟨ys,rfl,yok⟩:=xgg in3
  rw [List.length_map] at ly1 ly2 ly3
  have s58:=(s6.trans s7).trans s8
  have s08:=s05.trans s58
  refine ⟨(by show 0≤sizeLine; exact Nat.zero_le _),fun ld hld=>?_⟩
  have s9:Same H8 (upd H8 ld (.lst [])):=xo (Same.refl _) hld
  have g9:upd H8 ld (.lst []) ld=some (.lst []):=xf
  revert s9 g9
  generalize upd H8 ld (.lst [])=H9
  intro s9 g9
  have fld:=s08.free hld
  have e2:H8 l2=some (.lst (nms.map V.str)):=(((s3.trans s4).trans s5).trans s58) _ _ hl2
  have e5:H8 l5=some (.lst (xs.map V.int)):=s58 _ _ hl5
  refine ⟨_,rfl,(n:Int),rfl,by omega,by omega,?_⟩
  refine xep (Pv:=fun i σ HA=>i≤n∧∃ (v9 v10 v11 v12:Option V) (ds:List Pt) (qs:List Addr),σ=[some (.ref sc),some (.int ((7:Nat):Int)),some (.int w'),some (.int h'),some (.int n),some (.ref l2),some (.ref l5),some (.ref l8),some (.ref ld),v9,v10,v11,v12]∧(∀ c u,c≠ld→H8 c=some u→HA c=some u)∧HA ld=some (.lst (qs.map V.ref))∧PtsL HA ds qs∧ds.map (·.nm)=nms.take i∧ds.map (·.x)=xs.take i∧ds.map (·.y)=ys.take i∧∀ p ∈ ds,PtOk w' h' p) ⟨Nat.zero_le _,_,_,_,_,[],[],rfl,fun c u nc e=>s9 _ _ e,g9,.nil,rfl,rfl,rfl,fun p hp=>(nomatch hp)⟩ ?_ ?_
  ·rintro i σ HA hi ⟨i1,v9,v10,v11,v12,ds,qs,rfl,k,hA,pts,en1,en2,en3,dok⟩
   have hi':i < n:=by simpa using hi
   have sA:Same H HA:=fun c u e=>k c u (xm e fld) (s08 _ _ e)
   refine ⟨_,rfl,_,rfl,_,_,rfl,rfl,_,rfl,_,_,rfl,rfl,sc,ns,_,rfl,Same.seqL sA hs,by omega,by omega,fun c=>?_⟩
   refine ⟨_,rfl,?_⟩
   refine ⟨fun σ HB=>HA=HB∧∃ lo hi:Int,1≤lo∧lo≤hi∧hi≤h'∧σ=[some (.ref sc),some (.int ((7:Nat):Int)),some (.int w'),some (.int h'),some (.int n),some (.ref l2),some (.ref l5),some (.ref l8),some (.ref ld),some (.int (0 + (i:Int))),some (.int c),some (.int lo),some (.int hi)],?_,?_⟩
   ·refine ⟨_,rfl,_,_,rfl,rfl,(by show (0:Int) < 2; decide),rfl,_,rfl,ite2 (fun z=>?_) (fun z=>⟨rfl,1,h',by omega,by omega,by omega,rfl⟩)⟩
    refine ⟨_,rfl,_,_,rfl,rfl,⟨by decide,by decide⟩,_,_,rfl,by decide,fun a1=>⟨_,rfl,_,_,rfl,rfl,(by omega),_,_,rfl,rfl,?_⟩⟩
    have b1:=xcs a1 (show (0:Int) < h' by omega)
    refine ⟨_,rfl,_,rfl,_,_,rfl,rfl,⟨by decide,by decide⟩,_,_,rfl,by decide,fun a2=>?_⟩
    have pz:(0:Int) < (h':Int) + 1 - (1 + a1 % (h':Int)):=by omega
    have b2:=xcs a2 pz
    exact ⟨_,rfl,_,_,rfl,rfl,_,rfl,_,_,rfl,rfl,_,_,rfl,rfl,pz,_,_,rfl,rfl,rfl,1 + a1 % (h':Int),(1 + a1 % (h':Int)) + a2 % ((h':Int) + 1 - (1 + a1 % (h':Int))),by omega,by omega,by omega,rfl⟩
   rintro σ _ ⟨rfl,lo,hi,lo1,lo2,lo3,rfl⟩
   have nA:∀ {a:Addr} {u:HO},H8 a=some u→HA a=some u:=fun {a u} e=>k _ _ (xm e hld) e
   have a2:=nA e2
   have a5:=nA e5
   have a8:=nA hl8
   obtain ⟨nm,hnm⟩:∃ nm,nms[i]?=some nm:=⟨_,List.getElem?_eq_getElem (by omega)⟩
   obtain ⟨x,hx⟩:∃ x,xs[i]?=some x:=⟨_,List.getElem?_eq_getElem (by omega)⟩
   obtain ⟨y,hy⟩:∃ y,ys[i]?=some y:=⟨_,List.getElem?_eq_getElem (by omega)⟩
   obtain ⟨sd,esd,sdok⟩:=xo6 (c / 2)
   have i0:(0:Int) + (i:Int)=((i:Nat):Int):=by omega
   refine ⟨_,rfl,.inl ⟨rfl,_,SqL.of hA⟩,_,rfl,_,rfl,l2,_,_,.str nm,rfl,rfl,SqL.of a2,?_,_,rfl,_,rfl,l5,_,_,.int x,rfl,rfl,SqL.of a5,?_,_,rfl,_,rfl,l8,_,_,.int y,rfl,rfl,SqL.of a8,?_,(by show 4≤sizeLine; decide),fun qb hqb=>?_⟩
   ·rw [i0]
    exact xbs (by rw [List.getElem?_map,hnm]; rfl)
   ·rw [i0]
    exact xbs (by rw [List.getElem?_map,hx]; rfl)
   ·rw [i0]
    exact xbs (by rw [List.getElem?_map,hy]; rfl)
   have sB:Same HA (upd HA qb (.lst [V.str "both",.str "left",.str "both",.str "right"])):=xo (Same.refl _) hqb
   have gB:upd HA qb (.lst [V.str "both",.str "left",.str "both",.str "right"]) qb=some (.lst [V.str "both",.str "left",.str "both",.str "right"]):=xf
   revert sB gB
   generalize upd HA qb (.lst [V.str "both",.str "left",.str "both",.str "right"])=HB
   intro sB gB
   refine ⟨_,rfl,_,_,rfl,rfl,⟨by decide,by decide⟩,_,_,rfl,rfl,(by show (0:Int) < 4; decide),qb,_,_,.str sd,rfl,rfl,SqL.of gB,esd,_,rfl,_,rfl,(by show 6≤sizeLine; decide),fun qc hqc=>?_⟩
   have sC:Same HB (upd HB qc (.tup [.str nm,.int x,.int y,.str sd,.int lo,.int hi])):=xo (Same.refl _) hqc
   have gC:upd HB qc (.tup [.str nm,.int x,.int y,.str sd,.int lo,.int hi]) qc=some (.tup [.str nm,.int x,.int y,.str sd,.int lo,.int hi]):=xf
   revert sC gC
   generalize upd HB qc (.tup [.str nm,.int x,.int y,.str sd,.int lo,.int hi])=HC
   intro sC gC
   have sAC:=sB.trans sC
   have hC:=sAC _ _ hA
   have plen:=pts.len
   have dlen:ds.length=i:=by
    have:=congrArg List.length en1
    rw [List.length_map,List.length_take] at this
    omega
   have kt:Tups HC (upd HC ld (.lst (qs.map V.ref ++ [.ref qc]))):=fun c xs e=>by rw [xj (xbk e hC (fun z=>nomatch z))]; exact e
   refine ⟨ld,_,_,rfl,rfl,hC,by rw [List.length_map,plen,dlen]; exact Nat.lt_of_le_of_lt (by omega:_≤1000) (by decide),by omega,_,_,_,_,ds ++ [⟨nm,x,y,sd,lo,hi⟩],qs ++ [qc],rfl,fun c u nc e=>?_,?_,?_,?_,?_,?_,fun p hp=>?_⟩
   ·rw [xj nc]
    exact sAC _ _ (k c u nc e)
   ·rw [xf,List.map_append]
    rfl
   ·exact ((pts.keep (Same.tups sAC)).keep kt).snoc1 (kt _ _ gC)
   ·rw [List.map_append,en1,List.take_succ,hnm]
    rfl
   ·rw [List.map_append,en2,List.take_succ,hx]
    rfl
   ·rw [List.map_append,en3,List.take_succ,hy]
    rfl
   ·rcases List.mem_append.mp hp with z | z
    ·exact dok p z
    ·rw [List.mem_singleton.mp z]
     have ox:=xok x (List.mem_of_getElem? hx)
     have oy:=yok y (List.mem_of_getElem? hy)
     exact ⟨nmok nm (List.mem_of_getElem? hnm),ox.1,ox.2,oy.1,oy.2,sdok,lo1,lo2,lo3⟩
  ·rintro σ HA ⟨i1,v9,v10,v11,v12,ds,qs,rfl,k,hA,pts,en1,en2,en3,dok⟩
   rw [Int.toNat_natCast] at en1 en2 en3
   have sA:Same H HA:=fun c u e=>k c u (xm e fld) (s08 _ _ e)
   refine ⟨_,rfl,q HA ld ds qs sA hA pts ⟨dok,?_,?_,?_,?_⟩⟩
   ·rw [en1]
    exact (xdm nd1).sublist (List.take_sublist _ _)
   ·rw [en2]
    exact (xdm nd2).sublist (List.take_sublist _ _)
   ·rw [en3]
    exact (xdm nd3).sublist (List.take_sublist _ _)
   ·have:=congrArg List.length en1
    rw [List.length_map,List.length_take] at this
    omega
end
end S25
set_option maxRecDepth 100000
set_option maxHeartbeats 4000000
namespace S25
open PySem L2 XL PyProof.Rows
theorem xio {xs:List V} {y:V}:ixN (xs ++ [y]).length (-1)=some xs.length:=by
 unfold ixN
 simp
 try omega
theorem xiu {xs:List V} {y:V}:atI (xs ++ [y]) (-1)=some y:=by
 unfold atI
 rw [xio]
 simp
theorem xmu {xs:List V} {y z:V}:(xs ++ [y]).set xs.length z=xs ++ [z]:=by simp
inductive xbn (H:Hp):List (Nat × Nat)→List Addr→Prop
 | nil:xbn H [] []
 | cons {p:Nat × Nat} {q:Addr} {ps:List (Nat × Nat)} {qs:List Addr} (h:H q=some (.tup [.int (p.1:Int),.int (p.2:Int)])) (r:xbn H ps qs):xbn H (p :: ps) (q :: qs)
theorem xbn.keep {H H':Hp} (k:Tups H H') {ps:List (Nat × Nat)} {qs:List Addr} (h:xbn H ps qs):xbn H' ps qs:=by
 induction h with
 | nil=>exact .nil
 | cons h _ ih=>exact .cons (k _ _ h) ih
theorem xbn.len {H:Hp} {ps:List (Nat × Nat)} {qs:List Addr} (h:xbn H ps qs):qs.length=ps.length:=by
 induction h with
 | nil=>rfl
 | cons _ _ ih=>rw [List.length_cons,List.length_cons,ih]
theorem xbn.snoc {H:Hp} {ps:List (Nat × Nat)} {qs:List Addr} (h:xbn H ps qs) {p:Nat × Nat} {q:Addr} (e:H q=some (.tup [.int (p.1:Int),.int (p.2:Int)])):xbn H (ps ++ [p]) (qs ++ [q]):=by
 induction h with
 | nil=>exact .cons e .nil
 | cons h _ ih=>exact .cons h ih
theorem xbn.get {H:Hp} {ps:List (Nat × Nat)} {qs:List Addr} (h:xbn H ps qs) {i:Nat} {q:Addr} (e:qs[i]?=some q):∃ p,ps[i]?=some p∧H q=some (.tup [.int (p.1:Int),.int (p.2:Int)]):=by
 induction h generalizing i with
 | nil=>simp at e
 | @cons p q' ps qs h _ ih =>
  cases i with
  | zero =>
   simp at e
   subst e
   exact ⟨p,rfl,h⟩
  | succ j=>exact ih (by simpa using e)
theorem xbn.cut {H:Hp}:∀ {ps:List (Nat × Nat)} {qs:List Addr} {p:Nat × Nat},xbn H (ps ++ [p]) qs→∃ rs q,qs=rs ++ [q]∧xbn H ps rs∧H q=some (.tup [.int (p.1:Int),.int (p.2:Int)])
 | [],qs,p,h=>by
  cases h with
  | cons h r=>cases r; exact ⟨[],_,rfl,.nil,h⟩
 | a :: ps,qs,p,h=>by
  cases h with
  | cons h r =>
   obtain ⟨rs,q,rfl,r1,r2⟩:=xbn.cut r
   exact ⟨_ :: rs,q,rfl,.cons h r1,r2⟩
def prD (p:Nat × Nat):DV:=.tup [.int (p.1:Int),.int (p.2:Int)]
theorem xbn.dv {K:PySem.W.Frag} {H:Hp} {ps:List (Nat × Nat)} {qs:List Addr} (h:xbn H ps qs) {l:Addr} (e:H l=some (.lst (qs.map V.ref))):Dv K H 2 (.ref l) (.lst (ps.map prD)):=by
 refine .lst (SqL.of e) (by rw [List.length_map,List.length_map,h.len]) fun j x d h1 h2=>?_
 rw [List.getElem?_map] at h1 h2
 obtain ⟨q,hq,rfl⟩:=Option.map_eq_some_iff.mp h1
 obtain ⟨p,hp,rfl⟩:=Option.map_eq_some_iff.mp h2
 obtain ⟨p',hp',e'⟩:=h.get hq
 rw [hp] at hp'
 cases hp'
 exact xcp e'
theorem xk1 {ds:List DV}:dEq (.lst ds) (.lst [])=ds.isEmpty:=by
 cases ds with
 | nil=>rfl
 | cons a r=>exact xeb (by simp)
def xny:Sp:=fun vs H Q _=>∃ (l:Addr) (R:List Nat),vs=[.ref l]∧H l=some (.lst (xaj R))∧xat R∧∀ H' l',Same H H'→H l'=none→H' l'=some (.lst (wdsV (xaz R)))→Q (.ref l') H'
def IRun (H:Hp) (l lr:Addr) (R:List Nat) (i:Nat) (σ:L2.St) (H5:Hp):Prop:=∃ (v2 v3 v4 v5:Option V) (qs:List Addr),σ=[some (.ref l),some (.ref lr),v2,v3,v4,v5]∧Same H H5∧H5 lr=some (.lst (qs.map V.ref))∧xbn H5 (Runs.runs (R.take i)) qs∧qs.length≤i
theorem xew (ps:List (Nat × Nat)) (p:Nat × Nat) (x:Nat):Runs.step (ps ++ [p]) x=if p.2 + 1=x then ps ++ [(p.1,x)] else (ps ++ [p]) ++ [(x,x)]:=by
 unfold Runs.step
 rw [List.getLast?_concat]
 dsimp only
 rw [List.dropLast_concat]
theorem xid (ws:List Wd) (w:Wd):wdsV (ws ++ [w])=wdsV ws ++ [.str w.t]:=by unfold wdsV; rw [List.map_append]; rfl
section
variable {P:Program} {w:World} {K:PySem.W.Frag} {mg:Str→Option Value} {base:Heap} {t:Adr}
theorem ok_ag (T:Txt w K mg t):FnOk true P w K mg base (CXo P w) 1 t.f_ag t.d_ag ["_law_rows"] (xny):=by
 refine T.F_ag.okn (k:=0) sc_ag (fun vs H Q E h=>?_) (fun cdv A outer s H vs Q E hr h=>?_)
 ·obtain ⟨l,R,rfl,_⟩:=h
  rfl
 ·obtain ⟨l,R,rfl,h⟩:=h
  refine ⟨_,xg (xv (i:=1) sc_ag.nd rfl (Or.inl rfl) (xaw (xb)))
   (xg (xbu PassesOwn.never rfl (xax (pv 0)) (xr (i:=2) sc_ag.nd rfl (Or.inl rfl)) (xk (xaf (PW.pt (xek (xt (xc1 (xbr hr)) (pv 1) (xaw (xb)) (x0 _)) (xe3 (xt xbl (xp xag (xaq xes (xaq xam (pv 1) (xhd xfy (xh)) (fun _ _=>rfl)) (xh) (fun _ _=>rfl)) (xh)) (pv 2) (x0 _))))) (xk (xcq (xau (xa (xaq xes (xaq xam (pv 1) (xhd xfy (xh)) (fun _ _=>rfl)) (xh) (fun _ _=>rfl)) (xa (pv 2) (xb)))) (xpb (pv 1) (xhd xfy (xh)) xlx))) (xk (xav (xbm PySem.F.plainAttrs_list PySem.F.slot_list_append PySem.F.type_list_append xa7 (pv 1) (xa (xau (xa (pv 2) (xa (pv 2) (xb)))) (xb))))))))
   (xg (xv (i:=3) sc_ag.nd rfl (Or.inl rfl) (xaw (xb)))
   (xg (xbu PassesOwn.never rfl (xax (pv 1)) (xca rfl (xx (xr (i:=4) sc_ag.nd rfl (Or.inl rfl)) (xx (xr (i:=5) sc_ag.nd rfl (Or.inl rfl)) (xbb)))) (xk (xaf (xt xbl (pv 4) (pv 5) (x0 _)) (xk (xav (xbm PySem.F.plainAttrs_list PySem.F.slot_list_append PySem.F.type_list_append xa7 (pv 3) (xa (xad xai rfl T.n_str boot_str (xa (pv 4) (xb))) (xb))))) (xk (xav (xbm PySem.F.plainAttrs_list PySem.F.slot_list_append PySem.F.type_list_append xa7 (pv 3) (xa (xp xz (xp xz (xad xai rfl T.n_str boot_str (xa (pv 4) (xb))) (xw)) (xad xai rfl T.n_str boot_str (xa (pv 5) (xb)))) (xb))))))))
   (xk (x5 (pv 3)))))),?_⟩
  obtain ⟨hl,ok,q⟩:=h
  have rl:=ok.len
  refine ⟨(by show 0≤sizeLine; exact Nat.zero_le _),fun lr hlr=>?_⟩
  have s1:Same H (upd H lr (.lst [])):=xo (Same.refl _) hlr
  have g1:upd H lr (.lst []) lr=some (.lst []):=xf
  revert s1 g1
  generalize upd H lr (.lst [])=H1
  intro s1 g1
  have flr:=hlr
  have nlr:l≠lr:=xm hl hlr
  refine ⟨_,rfl,l,rfl,⟨_,SqL.of (s1 _ _ hl)⟩,?_⟩
  refine xb7 (xs:=xaj R) (Pv:=IRun H l lr R) ⟨_,_,_,_,[],rfl,s1,g1,.nil,Nat.le_refl _⟩ ?_ ?_ ?_
  ·rintro i σ H5 _ ⟨_,_,_,_,_,_,s5,_⟩
   exact SqL.of (s5 _ _ hl)
  ·rintro i x σ H5 hx ⟨v2,v3,v4,v5,qs,rfl,s5,h5,rs,ql⟩
   unfold xaj at hx
   rw [List.getElem?_map] at hx
   obtain ⟨r,hr,rfl⟩:=Option.map_eq_some_iff.mp hx
   have ilt:i < R.length:=(List.getElem?_eq_some_iff.mp hr).1
   have tk:Runs.runs (R.take (i + 1))=Runs.step (Runs.runs (R.take i)) r:=by
    rw [List.take_succ,hr]
    exact Runs.runs_snoc _ _
   have small:(qs.map V.ref).length < sizeLine:=by rw [List.length_map]; exact Nat.lt_of_le_of_lt (by omega:_≤1000) (by decide)
   refine ⟨_,rfl,(by show 0≤sizeLine; exact Nat.zero_le _),fun q6 hq6=>?_⟩
   have s6:Same H5 (upd H5 q6 (.lst [])):=xo (Same.refl _) hq6
   have g6:upd H5 q6 (.lst []) q6=some (.lst []):=xf
   revert s6 g6
   generalize upd H5 q6 (.lst [])=H6
   intro s6 g6
   have h6:=s6 _ _ h5
   have rs6:=rs.keep (Same.tups s6)
   have app:Runs.step (Runs.runs (R.take i)) r=Runs.runs (R.take i) ++ [(r,r)]→∀ q7,H6 q7=none→IRun H l lr R (i + 1) [some (.ref l),some (.ref lr),some (.int (r:Int)),v3,v4,v5] (upd (upd H6 q7 (.tup [.int (r:Int),.int (r:Int)])) lr (.lst (qs.map V.ref ++ [.ref q7]))):=fun es q7 hq7=>by
    have s7:Same H6 (upd H6 q7 (.tup [.int (r:Int),.int (r:Int)])):=xo (Same.refl _) hq7
    have h7:=s7 _ _ h6
    have kt:Tups (upd H6 q7 (.tup [.int (r:Int),.int (r:Int)])) (upd (upd H6 q7 (.tup [.int (r:Int),.int (r:Int)])) lr (.lst (qs.map V.ref ++ [.ref q7]))):=fun c xs e=>by rw [xj (xbk e h7 (fun z=>nomatch z))]; exact e
    refine ⟨_,_,_,_,qs ++ [q7],rfl,fun c u e=>?_,by rw [xf,List.map_append]; rfl,?_,by rw [List.length_append,List.length_singleton]; omega⟩
    ·rw [xj (xm e flr)]
     exact s7 _ _ (s6 _ _ (s5 _ _ e))
    ·rw [tk,es]
     exact ((rs6.keep (Same.tups s7)).keep kt).snoc (p:=(r,r)) (kt _ _ xf)
   refine ⟨2,1,_,.lst [],rs6.dv h6,.lst (SqL.of g6) rfl (fun j x d h=>by simp at h),by decide,by decide,_,rfl,ite2 (fun c=>?_) (fun c=>?_)⟩
   ·rcases List.eq_nil_or_concat (Runs.runs (R.take i)) with e0 | ⟨ps,p,e0⟩
    ·rw [e0] at c
     cases c
    rw [List.concat_eq_append] at e0
    rw [e0] at rs6 app
    obtain ⟨rs2,qz,eqs,rr,hz⟩:=rs6.cut
    have h6':=h6
    rw [eqs,List.map_append,List.map_singleton] at h6'
    refine ⟨_,rfl,1,rfl,lr,_,-1,.ref qz,rfl,rfl,SqL.of h6',xiu,qz,_,1,.int (p.2:Int),rfl,rfl,SqT.of hz,rfl,_,_,rfl,rfl,_,rfl,rfl,_,rfl,ite2 (fun c2=>?_) (fun c2=>?_)⟩
    ·have e2:p.2 + 1=r:=by
      have:=V.int.inj (of_decide_eq_true c2)
      omega
     refine ⟨_,rfl,1,rfl,lr,_,-1,.ref qz,rfl,rfl,SqL.of h6',xiu,qz,_,0,.int (p.1:Int),rfl,rfl,SqT.of hz,rfl,_,rfl,(by show 2≤sizeLine; decide),fun q7 hq7=>?_⟩
     have s7:Same H6 (upd H6 q7 (.tup [.int (p.1:Int),.int (r:Int)])):=xo (Same.refl _) hq7
     have g7:upd H6 q7 (.tup [.int (p.1:Int),.int (r:Int)]) q7=some (.tup [.int (p.1:Int),.int (r:Int)]):=xf
     revert s7 g7
     generalize upd H6 q7 (.tup [.int (p.1:Int),.int (r:Int)])=H7
     intro s7 g7
     have h7:=s7 _ _ h6'
     refine ⟨_,rfl,1,rfl,lr,_,-1,_,rfl,rfl,h7,xio,?_⟩
     rw [xmu]
     have kt:Tups H7 (upd H7 lr (.lst (rs2.map V.ref ++ [.ref q7]))):=fun c xs e=>by rw [xj (xbk e h7 (fun z=>nomatch z))]; exact e
     refine ⟨_,_,_,_,rs2 ++ [q7],rfl,fun c u e=>?_,by rw [xf,List.map_append]; rfl,?_,?_⟩
     ·rw [xj (xm e flr)]
      exact s7 _ _ (s6 _ _ (s5 _ _ e))
     ·rw [tk,e0,xew,if_pos e2]
      exact ((rr.keep (Same.tups s7)).keep kt).snoc (p:=(p.1,r)) (kt _ _ g7)
     ·rw [eqs,List.length_append] at ql
      rw [List.length_append]
      simp only [List.length_singleton] at ql ⊢
      omega
    ·have e2:¬ p.2 + 1=r:=fun z=>c2 (decide_eq_true (by rw [← z]; rfl))
     exact ⟨_,rfl,.inl ⟨rfl,_,SqL.of h6⟩,_,rfl,_,rfl,(by show 2≤sizeLine; decide),fun q7 hq7=>⟨lr,_,_,rfl,rfl,xo (Same.refl _) hq7 _ _ h6,small,app (by rw [xew,if_neg e2]) q7 hq7⟩⟩
   ·have e0:Runs.runs (R.take i)=[]:=by
     cases z:Runs.runs (R.take i) with
     | nil=>rfl
     | cons p ps =>
      rw [z,xk1] at c
      exact absurd rfl c
    exact ⟨_,rfl,.inl ⟨rfl,_,SqL.of h6⟩,_,rfl,_,rfl,(by show 2≤sizeLine; decide),fun q7 hq7=>⟨lr,_,_,rfl,rfl,xo (Same.refl _) hq7 _ _ h6,small,app (by rw [e0]; rfl) q7 hq7⟩⟩
  ·rintro σ H5 ⟨v2,v3,v4,v5,qs,rfl,s5,h5,rs,ql⟩
   rw [show (xaj R).length=R.length from List.length_map _,List.take_length] at rs
   refine ⟨(by show 0≤sizeLine; exact Nat.zero_le _),fun lw hlw=>?_⟩
   have s6:Same H5 (upd H5 lw (.lst [])):=xo (Same.refl _) hlw
   have g6:upd H5 lw (.lst []) lw=some (.lst []):=xf
   revert s6 g6
   generalize upd H5 lw (.lst [])=H6
   intro s6 g6
   have flw:=s5.free hlw
   have nlw:lr≠lw:=xm h5 hlw
   have qlen:=rs.len
   have rlen:=Runs.runs_len ok.inc
   refine ⟨_,rfl,lr,rfl,⟨_,SqL.of (s6 _ _ h5)⟩,?_⟩
   refine xb7 (xs:=qs.map V.ref) (Pv:=fun i σ H7=>∃ (w2 w4 w5:Option V),σ=[some (.ref l),some (.ref lr),w2,some (.ref lw),w4,w5]∧(∀ c u,c≠lw→H6 c=some u→H7 c=some u)∧H7 lw=some (.lst (wdsV (((Runs.runs R).take i).map runW)))) ⟨_,_,_,rfl,fun _ _ _ e=>e,g6⟩ ?_ ?_ ?_
   ·rintro i σ H7 _ ⟨_,_,_,_,k,_⟩
    exact SqL.of (k _ _ nlw (s6 _ _ h5))
   ·rintro i x σ H7 hx ⟨w2,w4,w5,rfl,k,h7⟩
    rw [List.getElem?_map] at hx
    obtain ⟨u,hu,rfl⟩:=Option.map_eq_some_iff.mp hx
    obtain ⟨p,hp,ep⟩:=rs.get hu
    have hu7:=k _ _ (xbk (s6 _ _ ep) g6 (fun z=>nomatch z)) (s6 _ _ ep)
    have az:=Runs.runs_all ok.inc p (List.mem_of_getElem? hp)
    have a2:=ok.le _ az.2.2
    have p1:p.1 < 100:=by omega
    have p2:p.2 < 100:=by omega
    have ilt:i < (Runs.runs R).length:=(List.getElem?_eq_some_iff.mp hp).1
    have small:(wdsV (((Runs.runs R).take i).map runW)).length < sizeLine:=by
     unfold wdsV
     rw [List.length_map,List.length_map,List.length_take]
     exact Nat.lt_of_le_of_lt (by omega:_≤1000) (by decide)
    have fin:∀ w:Str,w=(runW p).t→∀ v4 v5:Option V,∃ (w2' w4' w5':Option V),([some (.ref l),some (.ref lr),w2,some (.ref lw),v4,v5]:L2.St)=[some (.ref l),some (.ref lr),w2',some (.ref lw),w4',w5']∧(∀ c u,c≠lw→H6 c=some u→upd H7 lw (.lst (wdsV (((Runs.runs R).take i).map runW) ++ [.str w])) c=some u)∧upd H7 lw (.lst (wdsV (((Runs.runs R).take i).map runW) ++ [.str w])) lw=some (.lst (wdsV (((Runs.runs R).take (i + 1)).map runW))):=fun w ew v4 v5=>by
     refine ⟨_,_,_,rfl,fun c u nc e=>by rw [xj nc]; exact k c u nc e,?_⟩
     rw [xf,List.take_succ,hp,List.map_append,ew]
     show some (HO.lst (_ ++ [V.str (runW p).t]))=some (.lst (wdsV (_ ++ [runW p])))
     rw [xid]
    refine ⟨u,_,rfl,SqT.of hu7,rfl,_,_,rfl,_,_,rfl,rfl,?_⟩
    refine ⟨_,rfl,_,rfl,rfl,_,rfl,ite2 (fun c=>?_) (fun c=>?_)⟩
    ·have e:p.1=p.2:=by
      have:=V.int.inj (of_decide_eq_true c)
      omega
     refine ⟨_,rfl,.inl ⟨rfl,_,SqL.of h7⟩,_,rfl,(p.1:Int),rfl,xal p1,lw,_,_,rfl,rfl,h7,small,fin _ ?_ _ _⟩
     rw [show runW p=⟨p.1,p.1,false⟩ by unfold runW; rw [← e]; simp]
     rfl
    ·have e:p.1≠p.2:=fun z=>c (decide_eq_true (by rw [z]))
     have l1:=xao p1
     have l2:=xao p2
     have h3:(Str.ofString "-").length=1:=by decide +kernel
     refine ⟨_,rfl,.inl ⟨rfl,_,SqL.of h7⟩,_,rfl,(p.1:Int),rfl,xal p1,numT p.1,_,rfl,rfl,?_,_,rfl,(p.2:Int),rfl,xal p2,_,numT p.2,rfl,rfl,?_,lw,_,_,rfl,rfl,h7,small,fin _ ?_ _ _⟩
     ·rw [h3]
      exact Nat.le_trans (by omega:_≤1000) (by decide)
     ·rw [xah,h3]
      exact Nat.le_trans (by omega:_≤1000) (by decide)
     ·rw [xe8,show runW p=⟨p.1,p.2,true⟩ by unfold runW; simp [e]]
   ·rintro σ H7 ⟨w2,w4,w5,rfl,k,h7⟩
    rw [List.length_map,qlen,List.take_length] at h7
    exact ⟨_,rfl,q H7 lw (fun c u e=>k c u (xm e flw) (s6 _ _ (s5 _ _ e))) flw h7⟩
end
end S25
set_option maxRecDepth 100000
set_option maxHeartbeats 4000000
namespace S25
open PySem L2 XL PyProof.Rows
structure RimD (H:Hp) (d:Addr) (L R:List Nat):Prop where
 at_:∃ lL lR,H d=some (.dK [(.inr "left",.ref lL),(.inr "right",.ref lR)])∧H lL=some (.lst (xaj L))∧H lR=some (.lst (xaj R))
 okL:xat L
 okR:xat R
theorem RimD.same {H H':Hp} (s:Same H H') {d:Addr} {L R:List Nat} (h:RimD H d L R):RimD H' d L R :=
 ⟨let ⟨a,b,x,y,z⟩:=h.at_; ⟨a,b,s _ _ x,s _ _ y,s _ _ z⟩,h.okL,h.okR⟩
theorem RimD.get {H:Hp} {d:Addr} {L R:List Nat} (h:RimD H d L R) (b:Bool):∃ l,DGet H d (.str (x8 b)) (some (.ref l))∧H l=some (.lst (xaj (lrB L R b))):=by
 obtain ⟨lL,lR,hd,h1,h2⟩:=h.at_
 cases b
 ·refine ⟨lR,?_,h2⟩
  have z:=DGet.k (k:=.inr "right") hd
  rw [xck (by intro y; exact absurd (Sum.inr.inj y) (by decide +kernel))] at z
  exact z
 ·refine ⟨lL,?_,h1⟩
  exact DGet.k (k:=.inr "left") hd
def xmc:Sp:=fun vs H Q _=>∃ (d:Addr) (L R:List Nat),vs=[.ref d]∧RimD H d L R∧∀ H' l qs,Same H H'→H l=none→H' l=some (.lst (qs.map V.ref))→xa2 H' (lrSs L R) qs→Q (.ref l) H'
theorem xlq {H:Hp} {ss ss':List Seat} {qs qs':List Addr} (h:xa2 H ss qs) (h':xa2 H ss' qs'):xa2 H (ss ++ ss') (qs ++ qs'):=by
 induction h with
 | nil=>exact h'
 | cons h _ ih=>exact .cons h ih
theorem xns {K:PySem.W.Frag} {H:Hp} {l:Addr} {R:List Nat} (h:H l=some (.lst (xaj R))):Dv K H 1 (.ref l) (.lst (R.map fun (n:Nat)=>DV.int (n:Int))):=by
 refine .lst (SqL.of h) (by unfold xaj; rw [List.length_map,List.length_map]) fun j x d h1 h2=>?_
 unfold xaj at h1
 rw [List.getElem?_map] at h1 h2
 obtain ⟨s,hs,rfl⟩:=Option.map_eq_some_iff.mp h1
 rw [hs] at h2
 cases h2
 exact .int
theorem xga {K:PySem.W.Frag} {H:Hp} {l:Addr} {ts:List Str} (h:H l=some (.lst (ts.map V.str))):Dv K H 1 (.ref l) (.lst (ts.map DV.str)):=by
 refine .lst (SqL.of h) (by rw [List.length_map,List.length_map]) fun j x d h1 h2=>?_
 rw [List.getElem?_map] at h1 h2
 obtain ⟨s,hs,rfl⟩:=Option.map_eq_some_iff.mp h1
 rw [hs] at h2
 cases h2
 exact .str
def linT (w h:Nat) (L R:List Nat) (ds:List Pt):List Str:=frT w h :: (xch h L R ds).map Itm.t
theorem xkv (w h:Nat) (L R:List Nat) (ds:List Pt):(linT w h L R ds).map V.str=.str (frT w h) :: itV (xch h L R ds):=by unfold linT itV; rw [List.map_cons,List.map_map]; rfl
def xn2:Sp:=fun vs H Q _=>∃ (l m:Addr) (ts:List Str),vs=[.ref l,.ref m]∧H l=some (.lst (ts.map V.str))∧H m=some (.lst (ts.map V.str))∧ts.length≤1000∧∀ H',Same H H'→Q (.bl true) H'
def xpr (t:Adr):Sp:=fun vs H Q _=>∃ (a dp do_ d l:Addr) (w h:Nat) (ps:List Pt) (ss:List Seat) (L R:List Nat) (qs:List Addr),vs=[.ref a,.int (w:Int),.int (h:Int),.ref d,.ref l]∧Pic t H a dp do_ w h ps∧Sts H do_ ss∧ss.Perm (lrSs L R)∧RimD H d L R∧H l=some (.lst (qs.map V.ref))∧PtsL H ps qs∧∀ H',Same H H'→Q (.bl true) H'
section
variable {P:Program} {w:World} {K:PySem.W.Frag} {mg:Str→Option Value} {base:Heap} {t:Adr}
theorem ok_y (T:Txt w K mg t):FnOk true P w K mg base (CXo P w) 1 t.f_y t.d_y ["_law_rims"] (xmc):=by
 refine T.F_y.okn (k:=0) sc_y (fun vs H Q E h=>?_) (fun cdv A outer s H vs Q E hr h=>?_)
 ·obtain ⟨d,L,R,rfl,_⟩:=h
  rfl
 ·obtain ⟨d,L,R,rfl,h⟩:=h
  refine ⟨_,xk (x5 (xp xc2 (xcj rfl (xbe (zs:=["_law_row"]) (ys:=[]) (fr:=[]) (N0:=["_law_rims"]) (sc0:=xi s_y) (by decide +kernel) rfl rfl rfl) (xax (xc7 (xcu hr) (pv 0) (xw) (fun _ _=>rfl))) (fun _ _ _ _ _ ow nd=>xr (i:=0) nd rfl (Or.inl (ow _ (by simp))) (Or.inr (ow _ (by simp)))) (xbo (by decide)) (fun _ _ _ _ _=>xce) (fun _ _ _ _ _=>xau (xa (xw) (xa (pv 0) (xb))))) (xcj rfl (xbe (zs:=["_law_row"]) (ys:=[]) (fr:=[]) (N0:=["_law_rims"]) (sc0:=xi s_y) (by decide +kernel) rfl rfl rfl) (xax (xc7 (xcu hr) (pv 0) (xw) (fun _ _=>rfl))) (fun _ _ _ _ _ ow nd=>xr (i:=0) nd rfl (Or.inl (ow _ (by simp))) (Or.inr (ow _ (by simp)))) (xbo (by decide)) (fun _ _ _ _ _=>xce) (fun _ _ _ _ _=>xau (xa (xw) (xa (pv 0) (xb))))))),?_⟩
  obtain ⟨rd,q⟩:=h
  have lL:=rd.okL.len
  have lR:=rd.okR.len
  obtain ⟨l1,d1,h1⟩:=rd.get true
  refine ⟨_,rfl,d,.ref l1,rfl,d1,l1,rfl,⟨_,SqL.of h1⟩,fun l3 hl3=>?_⟩
  refine xdt (SqL.of h1) (by show (xaj L).length < _; unfold xaj; rw [List.length_map]; exact Nat.lt_of_le_of_lt lL (by decide)) hl3 (fun j y H=>∃ (n:Nat) (q:Addr),L[j]?=some n∧y=.ref q∧H q=some (.tup (xd7 (true,(n:Int))))) (fun i y H H' tp ⟨n,q,e1,e2,e3⟩=>⟨n,q,e1,e2,tp _ _ e3⟩) (fun j z HB hz sB N hN=>?_) (fun ys H3 s3 el3 ly3 f3=>?_)
  ·change (xaj L)[j]?=some z at hz
   unfold xaj at hz
   rw [List.getElem?_map] at hz
   obtain ⟨n,hn,rfl⟩:=Option.map_eq_some_iff.mp hz
   exact ⟨_,rfl,(by show 2≤sizeLine; decide),fun tq htq=>hN _ _ (xo (Same.refl _) htq) ⟨n,tq,hn,rfl,xf⟩⟩
  obtain ⟨q3,rfl,sl3⟩:=xa2.pick (ss:=L.map fun (n:Nat)=>(true,(n:Int))) (by rw [ly3,List.length_map]; show (xaj L).length=_; unfold xaj; rw [List.length_map]) fun j y s e1 e2=>by
   obtain ⟨n,q,a1,a2,a3⟩:=f3 j y e1
   rw [List.getElem?_map,a1] at e2
   cases e2
   exact ⟨q,a2,a3⟩
  obtain ⟨l4,d4,h4⟩:=(rd.same s3).get false
  refine ⟨_,rfl,d,.ref l4,rfl,d4,l4,rfl,⟨_,SqL.of h4⟩,fun l5 hl5=>?_⟩
  refine xdt (SqL.of h4) (by show (xaj R).length < _; unfold xaj; rw [List.length_map]; exact Nat.lt_of_le_of_lt lR (by decide)) hl5 (fun j y H=>∃ (n:Nat) (q:Addr),R[j]?=some n∧y=.ref q∧H q=some (.tup (xd7 (false,(n:Int))))) (fun i y H H' tp ⟨n,q,e1,e2,e3⟩=>⟨n,q,e1,e2,tp _ _ e3⟩) (fun j z HB hz sB N hN=>?_) (fun ys H5 s5 el5 ly5 f5=>?_)
  ·change (xaj R)[j]?=some z at hz
   unfold xaj at hz
   rw [List.getElem?_map] at hz
   obtain ⟨n,hn,rfl⟩:=Option.map_eq_some_iff.mp hz
   exact ⟨_,rfl,(by show 2≤sizeLine; decide),fun tq htq=>hN _ _ (xo (Same.refl _) htq) ⟨n,tq,hn,rfl,xf⟩⟩
  obtain ⟨q5,rfl,sl5⟩:=xa2.pick (ss:=R.map fun (n:Nat)=>(false,(n:Int))) (by rw [ly5,List.length_map]; show (xaj R).length=_; unfold xaj; rw [List.length_map]) fun j y s e1 e2=>by
   obtain ⟨n,q,a1,a2,a3⟩:=f5 j y e1
   rw [List.getElem?_map,a1] at e2
   cases e2
   exact ⟨q,a2,a3⟩
  have k3:=sl3.len
  have k5:=sl5.len
  rw [List.length_map] at k3 k5
  refine ⟨l3,l5,_,_,rfl,rfl,s5 _ _ el3,el5,?_,fun l6 hl6=>?_⟩
  ·rw [List.length_map,List.length_map]
   exact Nat.le_trans (by omega:_≤1000) (by decide)
  rw [← List.map_append]
  have s05:=s3.trans s5
  have s6:Same H5 (upd H5 l6 (.lst ((q3 ++ q5).map V.ref))):=xo (Same.refl _) hl6
  exact q _ l6 (q3 ++ q5) (s05.trans s6) (s05.free hl6) xf (xlq ((sl3.keep (Same.tups s5)).keep (Same.tups s6)) (sl5.keep (Same.tups s6)))
theorem ok_ab (T:Txt w K mg t):FnOk true P w K mg base (CXo P w) 1 t.f_ab t.d_ab ["_law_found", "_law_due"] (xn2):=by
 refine T.F_ab.okn (k:=0) sc_ab (fun vs H Q E h=>?_) (fun cdv A outer s H vs Q E hr h=>?_)
 ·obtain ⟨l,m,ts,rfl,_⟩:=h
  rfl
 ·obtain ⟨l,m,ts,rfl,h⟩:=h
  refine ⟨_,xg (xaf (PW.pt (xbp (xbc (xbd (xab xbi rfl T.n_isinstance boot_isinstance (xa (pv 0) (xa (xbz (v:=.ty "list") rfl T.n_list boot_list rfl) (xb)))))) (xba (xt (xc1 (xbr hr)) (pv 0) (pv 1) (x0 _))))) (xk (x5 (xe2))) (xaa))
   (xk (x5 (xe1 (xhf (xbr hr)) (xcj rfl (xbe (zs:=["_law_line"]) (ys:=[]) (fr:=[]) (N0:=["_law_found", "_law_due"]) (sc0:=xi s_ab) (by decide +kernel) rfl rfl rfl) (xax (pv 0)) (fun _ _ _ _ _ ow nd=>xr (i:=0) nd rfl (Or.inl (ow _ (by simp))) (Or.inr (ow _ (by simp)))) (xbo (by decide)) (fun _ _ _ _ _=>xc8 (xbc (xbd (xab (r:=xnm K) xbi rfl T.n_isinstance boot_isinstance (xa (pv 0) (xa (xbz (v:=.ty "str") rfl T.n_str boot_str rfl) (xb))))))) (fun _ _ _ _ _=>pv 0)) (xaw (xb)) (x0 _)))),?_⟩
  obtain ⟨hl,hm,len,q⟩:=h
  refine ⟨_,rfl,_,_,rfl,.inl ⟨_,_,true,.lst hl,rfl,xbv,true,rfl,ifN (by decide) ⟨_,rfl,_,rfl,1,1,_,_,xga hl,xga hm,by decide,by decide,_,rfl,ifN (by rw [xb6]; rfl) ?_⟩⟩⟩
  refine ⟨_,rfl,l,rfl,⟨_,SqL.of hl⟩,fun l1 hl1=>?_⟩
  refine xdl (as:=ts) (f:=V.str) (gv:=V.str) (q:=fun _=>false) (SqL.of hl) (Nat.lt_of_le_of_lt len (by decide)) hl1 (fun i x H2 hx s2 N M hN hM=>?_) (fun H2 s2 el2=>?_)
  ·exact ⟨_,rfl,_,_,rfl,.inl ⟨_,_,true,.str _,rfl,xbv,true,rfl,hM _ (Same.refl _) rfl⟩⟩
  rw [List.filter_eq_nil_iff.mpr (fun _ _=>by decide)] at el2
  refine ⟨(by show 0≤sizeLine; exact Nat.zero_le _),fun q3 hq3=>?_⟩
  have s3:Same H2 (upd H2 q3 (.lst [])):=xo (Same.refl _) hq3
  have g3:upd H2 q3 (.lst []) q3=some (.lst []):=xf
  revert s3 g3
  generalize upd H2 q3 (.lst [])=H3
  intro s3 g3
  refine ⟨1,1,.lst [],.lst [],.lst (SqL.of (s3 _ _ el2)) rfl (fun j x d h=>by simp at h),.lst (SqL.of g3) rfl (fun j x d h=>by simp at h),by decide,by decide,?_⟩
  rw [xb6]
  exact q _ (s2.trans s3)
theorem ok_ah (T:Txt w K mg t):FnOk true P w K mg base (CXo P w) 2 t.f_ah t.d_ah ["_law_picture", "_law_width", "_law_height", "_law_rims", "_law_dots_here"] (xpr t):=by
 refine T.F_ah.okn (k:=1) sc_ah (fun vs H Q E h=>?_) (fun cdv A outer s H vs Q E hr h=>?_)
 ·obtain ⟨a,dp,do_,d,l,w',h',ps,ss,L,R,qs,rfl,_⟩:=h
  rfl
 ·obtain ⟨a,dp,do_,d,l,w',h',ps,ss,L,R,qs,rfl,h⟩:=h
  refine ⟨_,xg (xaf (PW.pt (xbp (xbc (xbd (xq (ok_x T) (hr.mono (by decide)) rfl T.g_x T.F_x.kp T.b_x .nil xn (xa (xa8 (pv 0) rfl) (xb))))) (xba (xbc (xbd (xq (ok_x T) (hr.mono (by decide)) rfl T.g_x T.F_x.kp T.b_x .nil xn (xa (xa8 (pv 0) rfl) (xb)))))))) (xk (x5 (xe2))) (xaa))
   (xg (xaf (xt (xc1 (xbr hr)) (xau (xa (xa8 (pv 0) rfl) (xa (xa8 (pv 0) rfl) (xb)))) (xau (xa (pv 1) (xa (pv 2) (xb)))) (x0 _)) (xk (x5 (xe2))) (xaa))
   (xk (x5 (xdy (xe1 (xhf (xbr hr)) (xc9 (pv 0) T.c_k T.m_e (ok_e T) (hr.mono (by decide)) T.b_e .nil xn) (pv 4) (x0 _)) (xfz (xe1 (xhf (xbr hr)) (xc9 (pv 0) T.c_k T.m_h (ok_h T) (hr.mono (by decide)) T.b_h .nil xn) (xq (ok_y T) (hr.mono (by decide)) rfl T.g_y T.F_y.kp T.b_y .nil xn (xa (pv 3) (xb))) (x0 _))))))),?_⟩
  obtain ⟨pic,sts,pm,rd,hl,pts,q⟩:=h
  obtain ⟨⟨dx,hp⟩,_⟩:=id pic
  refine ⟨_,rfl,a,_,_,_,_,rfl,hp,T.c_k,T.n_av,lkW,_,rfl,true,rfl,ifN (by decide) ⟨_,rfl,a,_,_,_,_,rfl,hp,T.c_k,T.n_at,lkH,_,rfl,true,rfl,ifN (by decide) ?_⟩⟩
  refine ⟨_,rfl,a,_,_,_,_,rfl,hp,T.c_k,T.n_av,lkW,_,rfl,a,_,_,_,_,rfl,hp,T.c_k,T.n_at,lkH,(by show 2≤sizeLine; decide),fun q1 hq1=>?_⟩
  have s1:Same H (upd H q1 (.tup [.int (w':Int),.int (h':Int)])):=xo (Same.refl _) hq1
  have g1:upd H q1 (.tup [.int (w':Int),.int (h':Int)]) q1=some (.tup [.int (w':Int),.int (h':Int)]):=xf
  revert s1 g1
  generalize upd H q1 (.tup [.int (w':Int),.int (h':Int)])=H1
  intro s1 g1
  refine ⟨_,rfl,_,rfl,(by show 2≤sizeLine; decide),fun q2 hq2=>?_⟩
  have s2:Same H1 (upd H1 q2 (.tup [.int (w':Int),.int (h':Int)])):=xo (Same.refl _) hq2
  have g2:upd H1 q2 (.tup [.int (w':Int),.int (h':Int)]) q2=some (.tup [.int (w':Int),.int (h':Int)]):=xf
  revert s2 g2
  generalize upd H1 q2 (.tup [.int (w':Int),.int (h':Int)])=H2
  intro s2 g2
  have s02:=s1.trans s2
  refine ⟨1,1,_,_,xcp (s2 _ _ g1),xcp g2,by decide,by decide,_,rfl,ifN (by rw [xb6]; rfl) ?_⟩
  refine ⟨_,rfl,a,dx,_,rfl,s02 _ _ hp,xcg (by decide +kernel),a,dp,do_,w',h',ps,rfl,Pic.same s02 pic,fun H3 l3 q3 s3 hl3 pts3=>?_⟩
  have s03:=s02.trans s3
  refine ⟨_,rfl,2,2,_,_,pts3.dv hl3,(pts.keep (Same.tups s03)).dv (s03 _ _ hl),by decide,by decide,true,by rw [xb6],iteT ?_⟩
  refine ⟨_,rfl,a,dx,_,rfl,s03 _ _ hp,xcg (by decide +kernel),a,dp,do_,w',h',ps,ss,rfl,Pic.same s03 pic,sts.same s03,fun l4 ss4 q4 fl4 sl4 pm4 pw4=>?_⟩
  obtain rfl:ss4=lrSs L R:=xdw xen (pm4.trans pm) pw4 (xgj rd.okL rd.okR)
  have s4:Same H3 (upd H3 l4 (.lst (q4.map V.ref))):=xo (Same.refl _) fl4
  have g4:upd H3 l4 (.lst (q4.map V.ref)) l4=some (.lst (q4.map V.ref)):=xf
  revert s4 g4
  generalize upd H3 l4 (.lst (q4.map V.ref))=H4
  intro s4 g4
  have s04:=s03.trans s4
  refine ⟨_,rfl,d,L,R,rfl,rd.same s04,fun H5 l5 q5 s5 fl5 hl5 sl5=>?_⟩
  refine ⟨2,2,_,_,((sl4.keep (Same.tups s4)).keep (Same.tups s5)).dv (s5 _ _ g4),sl5.dv hl5,by decide,by decide,?_⟩
  rw [xb6]
  exact q _ (s04.trans s5)
end
end S25
set_option maxRecDepth 100000
set_option maxHeartbeats 4000000
namespace S25
open PySem L2 XL PyProof.Rows
def xm1:Sp:=fun vs H Q _=>∃ (w h:Nat) (d l:Addr) (L R:List Nat) (ds:List Pt) (qs:List Addr),vs=[.int (w:Int),.int (h:Int),.ref d,.ref l]∧(1≤w∧w≤30)∧(1≤h∧h≤16)∧RimD H d L R∧H l=some (.lst (qs.map V.ref))∧PtsL H ds qs∧(∀ p ∈ ds,PtOk w h p)∧ds.length≤12∧∀ H' l',Same H H'→H l'=none→H' l'=some (.lst ((linT w h L R ds).map V.str))→Q (.ref l') H'
theorem xj3 {b:Bool} {ws:List Wd} (ne:ws≠[]):x8 b ++ Str.ofString " " ++ Str.join (Str.ofString " ") (ws.map Wd.t)=Itm.t (.rim ⟨b,ws⟩):=by
 cases ws with
 | nil=>exact absurd rfl ne
 | cons w ws =>
  rw [xee]
  rfl
def ILn (H:Hp) (w h:Nat) (d l ll:Addr) (its:List Itm) (i:Nat) (σ:L2.St) (H5:Hp):Prop:=∃ (v5 v6 v7 v8 v9 v10 v11 v12:Option V),σ=[some (.int (w:Int)),some (.int (h:Int)),some (.ref d),some (.ref l),some (.ref ll),v5,v6,v7,v8,v9,v10,v11,v12]∧Same H H5∧H5 ll=some (.lst (.str (frT w h) :: itV its))
section
variable {P:Program} {w:World} {K:PySem.W.Frag} {mg:Str→Option Value} {base:Heap} {t:Adr}
theorem ok_u (T:Txt w K mg t):FnOk true P w K mg base (CXo P w) 2 t.f_u t.d_u ["_law_width", "_law_height", "_law_rims", "_law_dots_here"] (xm1):=by
 refine T.F_u.okn (k:=1) sc_u (fun vs H Q E h=>?_) (fun cdv A outer s H vs Q E hr h=>?_)
 ·obtain ⟨w',h',d,l,L,R,ds,qs,rfl,_⟩:=h
  rfl
 ·obtain ⟨w',h',d,l,L,R,ds,qs,rfl,h⟩:=h
  refine ⟨_,xg (xv (i:=4) sc_u.nd rfl (Or.inl rfl) (xaw (xa (xp xz (xp xz (xp xz (xw) (xad xai rfl T.n_str boot_str (xa (pv 0) (xb)))) (xw)) (xad xai rfl T.n_str boot_str (xa (pv 1) (xb)))) (xb))))
   (xg (xbu PassesOwn.never rfl (xax (xaw (xa (xw) (xa (xw) (xb))))) (xr (i:=5) sc_u.nd rfl (Or.inl rfl)) (xk (xc0 (xaf (xt (xc1 (xbr hr)) (xc7 (xcu hr) (pv 2) (pv 5) (fun _ _=>rfl)) (xaw (xb)) (x0 _)) (xk (xav (xbm PySem.F.plainAttrs_list PySem.F.slot_list_append PySem.F.type_list_append xa7 (pv 4) (xa (xp xz (xp xz (pv 5) (xw)) (xbm PySem.F.plainAttrs_str PySem.F.slot_str_join PySem.F.type_str_join xgm (xw) (xa (xq (ok_ag T) (hr.mono (by decide)) rfl T.g_ag T.F_ag.kp T.b_ag .nil xn (xa (xc7 (xcu hr) (pv 2) (pv 5) (fun _ _=>rfl)) (xb))) (xb)))) (xb))))) (xaa)))))
   (xg (xbu PassesOwn.never rfl (xax (pv 3)) (xca rfl (xx (xr (i:=6) sc_u.nd rfl (Or.inl rfl)) (xx (xr (i:=7) sc_u.nd rfl (Or.inl rfl)) (xx (xr (i:=8) sc_u.nd rfl (Or.inl rfl)) (xx (xr (i:=9) sc_u.nd rfl (Or.inl rfl)) (xx (xr (i:=10) sc_u.nd rfl (Or.inl rfl)) (xx (xr (i:=11) sc_u.nd rfl (Or.inl rfl)) (xbb)))))))) (xg (xv (i:=12) sc_u.nd rfl (Or.inl rfl) (xp xz (xp xz (xp xz (xp xz (xp xz (xw) (pv 6)) (xw)) (xad xai rfl T.n_str boot_str (xa (pv 7) (xb)))) (xw)) (xad xai rfl T.n_str boot_str (xa (pv 8) (xb)))))
   (xg (xc0 (xaf (xt (xc1 (xbr hr)) (xau (xa (pv 10) (xa (pv 11) (xb)))) (xau (xa (xh) (xa (pv 1) (xb)))) (x0 _)) (xk (xv (i:=12) sc_u.nd rfl (Or.inl rfl) (xp xz (xp xz (xp xz (xp xz (xp xz (xp xz (pv 12) (xw)) (pv 9)) (xw)) (xad xai rfl T.n_str boot_str (xa (pv 10) (xb)))) (xw)) (xad xai rfl T.n_str boot_str (xa (pv 11) (xb)))))) (xk (xc0 (xaf (xt xdr (pv 9) (xw) (x0 _)) (xk (xv (i:=12) sc_u.nd rfl (Or.inl rfl) (xp xz (xp xz (pv 12) (xw)) (pv 9)))) (xaa))))))
   (xk (xav (xbm PySem.F.plainAttrs_list PySem.F.slot_list_append PySem.F.type_list_append xa7 (pv 4) (xa (pv 12) (xb))))))))
   (xk (x5 (pv 4))))),?_⟩
  obtain ⟨⟨w1,w2⟩,⟨h1,h2⟩,rd,hl,pts,dok,d12,q⟩:=h
  have w100:w' < 100:=by omega
  have h100:h' < 100:=by omega
  have wl:=xao w100
  have hl':=xao h100
  have e6:(Str.ofString "frame ").length=6:=by decide +kernel
  have p6:(Str.ofString "point ").length=6:=by decide +kernel
  have e1:(Str.ofString " ").length=1:=by decide +kernel
  refine ⟨_,rfl,(w':Int),rfl,xal w100,_,numT w',rfl,rfl,?_,_,_,rfl,rfl,?_,_,rfl,(h':Int),rfl,xal h100,_,numT h',rfl,rfl,?_,(by show 1≤sizeLine; decide),fun ll hll=>?_⟩
  ·rw [e6]
   exact Nat.le_trans (by omega:_≤1000) (by decide)
  ·rw [xah,e6,e1]
   exact Nat.le_trans (by omega:_≤1000) (by decide)
  ·rw [xah,xah,e6,e1]
   exact Nat.le_trans (by omega:_≤1000) (by decide)
  rw [xhy]
  have s1:Same H (upd H ll (.lst [.str (frT w' h')])):=xo (Same.refl _) hll
  have g1:upd H ll (.lst [.str (frT w' h')]) ll=some (.lst [.str (frT w' h')]):=xf
  revert s1 g1
  generalize upd H ll (.lst [.str (frT w' h')])=H1
  intro s1 g1
  have fll:=hll
  refine ⟨(by show 2≤sizeLine; decide),fun lq hlq=>?_⟩
  have s2:Same H1 (upd H1 lq (.lst [.str "left",.str "right"])):=xo (Same.refl _) hlq
  have g2:upd H1 lq (.lst [.str "left",.str "right"]) lq=some (.lst [.str "left",.str "right"]):=xf
  revert s2 g2
  generalize upd H1 lq (.lst [.str "left",.str "right"])=H2
  intro s2 g2
  have s02:=s1.trans s2
  refine ⟨lq,rfl,⟨_,SqL.of g2⟩,?_⟩
  have nlq:lq≠ll:=Ne.symm (xm g1 hlq)
  refine xb7 (xs:=[.str "left",.str "right"]) (Pv:=fun i σ H5=>ILn H w' h' d l ll (xcf L R i) i σ H5∧H5 lq=some (.lst [.str "left",.str "right"])) ⟨⟨_,_,_,_,_,_,_,_,rfl,s02,s2 _ _ g1⟩,g2⟩ (fun i σ H5 _ z=>SqL.of z.2) ?_ ?_
  ·rintro i x σ H5 hx ⟨⟨v5,v6,v7,v8,v9,v10,v11,v12,rfl,s5,h5⟩,hq5⟩
   obtain ⟨i2,ex⟩:i < 2∧x=.str (x8 (decide (i=0))):=by
    match i,hx with
    | 0,hx=>cases hx; exact ⟨by decide,rfl⟩
    | 1,hx=>cases hx; exact ⟨by decide,rfl⟩
    | i + 2,hx=>simp at hx
   subst ex
   have rd5:=rd.same s5
   have okB:=xkf rd.okL rd.okR (decide (i=0))
   obtain ⟨l6,d6,h6⟩:=rd5.get (decide (i=0))
   refine ⟨fun σ H5=>ILn H w' h' d l ll (xcf L R (i + 1)) (i + 1) σ H5∧H5 lq=some (.lst [.str "left",.str "right"]),?_,fun _ _ z=>z⟩
   refine ⟨_,rfl,_,rfl,d,.ref l6,rfl,d6,(by show 0≤sizeLine; exact Nat.zero_le _),fun q7 hq7=>?_⟩
   have s7:Same H5 (upd H5 q7 (.lst [])):=xo (Same.refl _) hq7
   have g7:upd H5 q7 (.lst []) q7=some (.lst []):=xf
   revert s7 g7
   generalize upd H5 q7 (.lst [])=H7
   intro s7 g7
   refine ⟨1,1,_,.lst [],xns (s7 _ _ h6),.lst (SqL.of g7) rfl (fun j x d h=>by simp at h),by decide,by decide,_,rfl,ite2 (fun c=>?_) (fun c=>?_)⟩
   ·have ne:lrB L R (decide (i=0))≠[]:=fun z=>by
     rw [z] at c
     cases c
    have h57:=s7 _ _ h5
    obtain ⟨l8,d8,h8⟩:=(rd5.same s7).get (decide (i=0))
    have sl:=xdo (decide (i=0))
    have hlen:=xhi okB
    have jl:(Str.join (Str.ofString " ") ((xaz (lrB L R (decide (i=0)))).map Wd.t)).length≤112:=by
     have z:=xet (sep:=Str.ofString " ") (k:=6) (ws:=(xaz (lrB L R (decide (i=0)))).map Wd.t) fun p hp=>by
      obtain ⟨v,hv,rfl⟩:=List.mem_map.mp hp
      exact Wd.len (xea okB v hv)
     rw [List.length_map,e1] at z
     omega
    refine ⟨_,rfl,.inl ⟨rfl,_,SqL.of h57⟩,_,rfl,_,_,rfl,rfl,?_,rfl,_,rfl,_,rfl,d,.ref l8,rfl,d8,l8,_,rfl,h8,okB,fun H9 l9 s9 fl9 hl9=>?_⟩
    ·rw [e1]
     exact Nat.le_trans (by omega:_≤1000) (by decide)
    have h9:=s9 _ _ h57
    have e9:wdsV (xaz (lrB L R (decide (i=0))))=((xaz (lrB L R (decide (i=0)))).map Wd.t).map V.str:=by
     unfold wdsV
     rw [List.map_map]
     rfl
    rw [e9] at hl9
    refine ⟨_,l9,_,6,rfl,rfl,hl9,?_,?_,_,_,rfl,rfl,?_,ll,_,_,rfl,rfl,h9,?_,?_⟩
    ·intro z hz
     obtain ⟨v,hv,rfl⟩:=List.mem_map.mp hz
     exact Wd.len (xea okB v hv)
    ·rw [List.length_map,e1]
     exact Nat.le_trans (by omega:_≤1000) (by decide)
    ·rw [xah,e1]
     exact Nat.le_trans (by omega:_≤1000) (by decide)
    ·rw [List.length_cons]
     have:(itV (xcf L R i)).length≤2:=by
      have r1:=xb2 true L
      have r2:=xb2 false R
      unfold itV
      rw [List.length_map]
      match i with
      | 0=>exact Nat.zero_le _
      | 1=>exact Nat.le_trans r1 (by decide)
      | i + 2=>show (xar true L ++ xar false R).length≤2; rw [List.length_append]; omega
     exact Nat.lt_of_le_of_lt (by omega:_≤1000) (by decide)
    refine ⟨⟨_,_,_,_,_,_,_,_,rfl,fun c u e=>?_,?_⟩,?_⟩
    ·rw [xj (xm e fll)]
     exact s9 _ _ (s7 _ _ (s5 _ _ e))
    ·rw [xf,xj3 (xhz okB ne),xcw L R i2,xb3,show xar (decide (i=0)) (lrB L R (decide (i=0)))=[.rim ⟨decide (i=0),xaz (lrB L R (decide (i=0)))⟩] from if_neg ne]
     rfl
    ·rw [xj nlq]
     exact s9 _ _ (s7 _ _ hq5)
   ·have ne:lrB L R (decide (i=0))=[]:=by
     cases z:lrB L R (decide (i=0)) with
     | nil=>rfl
     | cons r rs =>
      rw [z,xk1] at c
      exact absurd rfl c
    refine ⟨⟨_,_,_,_,_,_,_,_,rfl,s5.trans s7,?_⟩,s7 _ _ hq5⟩
    rw [xcw L R i2,xb3,show xar (decide (i=0)) (lrB L R (decide (i=0)))=[] from if_pos ne,s7 _ _ h5]
    unfold itV
    rw [List.map_nil,List.append_nil]
  ·rintro σ H5 ⟨⟨v5,v6,v7,v8,v9,v10,v11,v12,rfl,s5,h5⟩,_⟩
   have h5:H5 ll=some (.lst (.str (frT w' h') :: itV (xar true L ++ xar false R))):=h5
   have r2:(xar true L ++ xar false R).length≤2:=by
    have r1:=xb2 true L
    have r2:=xb2 false R
    rw [List.length_append]
    omega
   refine ⟨_,rfl,l,rfl,⟨_,SqL.of (s5 _ _ hl)⟩,?_⟩
   refine xb7 (xs:=qs.map V.ref) (Pv:=fun i σ H6=>ILn H w' h' d l ll (xar true L ++ xar false R ++ (ds.take i).map fun p=>.pt (pwOf h' p)) i σ H6) ⟨_,_,_,_,_,_,_,_,rfl,s5,by rw [List.take_zero,List.map_nil,List.append_nil]; exact h5⟩ ?_ ?_ ?_
   ·rintro i σ H6 _ ⟨_,_,_,_,_,_,_,_,_,s6,_⟩
    exact SqL.of (s6 _ _ hl)
   ·rintro i x σ H6 hx ⟨v5,v6,v7,v8,v9,v10,v11,v12,rfl,s6,h6⟩
    rw [List.getElem?_map] at hx
    obtain ⟨u,hu,rfl⟩:=Option.map_eq_some_iff.mp hx
    obtain ⟨p,hp,ep⟩:=pts.get hu
    have ok:=dok p (List.mem_of_getElem? hp)
    have ilt:i < ds.length:=(List.getElem?_eq_some_iff.mp hp).1
    have tk:(ds.take (i + 1)).map (fun p=>Itm.pt (pwOf h' p))=(ds.take i).map (fun p=>Itm.pt (pwOf h' p)) ++ [.pt (pwOf h' p)]:=by
     rw [List.take_succ,hp,List.map_append]
     rfl
    obtain ⟨nm,px,py,sd,plo,phi⟩:=p
    have a1:=ok.x1
    have a2:=ok.x2
    have a3:=ok.y1
    have a4:=ok.y2
    have a5:=ok.l1
    have a6:=ok.l2
    have a7:=ok.l3
    dsimp only at a1 a2 a3 a4 a5 a6 a7
    obtain ⟨x,rfl⟩:=Int.eq_ofNat_of_zero_le (show 0≤px by omega)
    obtain ⟨y,rfl⟩:=Int.eq_ofNat_of_zero_le (show 0≤py by omega)
    obtain ⟨lo,rfl⟩:=Int.eq_ofNat_of_zero_le (show 0≤plo by omega)
    obtain ⟨hi,rfl⟩:=Int.eq_ofNat_of_zero_le (show 0≤phi by omega)
    have x1:x < 100:=by omega
    have y1:y < 100:=by omega
    have lo1:lo < 100:=by omega
    have hi1:hi < 100:=by omega
    have tn:=(xf8 ok.nm).len
    have ts:=(xf5 ok.sd).len
    dsimp only at tn ts
    have lx:=xao x1
    have ly:=xao y1
    have lz:=xao lo1
    have lh:=xao hi1
    refine ⟨u,_,rfl,SqT.of (s6 _ _ ep),rfl,_,_,rfl,_,_,rfl,_,_,rfl,_,_,rfl,_,_,rfl,_,_,rfl,rfl,?_⟩
    refine ⟨_,rfl,_,nm,rfl,rfl,?_,_,_,rfl,rfl,?_,_,rfl,(x:Int),rfl,xal x1,_,numT x,rfl,rfl,?_,_,_,rfl,rfl,?_,_,rfl,(y:Int),rfl,xal y1,_,numT y,rfl,rfl,?_,?_⟩
    rotate_right
    rotate_left
    all_goals first
     | (refine Nat.le_trans (?_:_≤1000) (by decide); simp only [xah,p6,e1]; omega)
     | skip
    rw [pt_a]
    have jl:(Str.join ⟨#[32]⟩ ["point",nm,numT x,numT y]).length≤30:=by
     rw [← pt_a]
     simp only [xah,p6,e1]
     omega
    refine ⟨fun σ H7=>∃ ln:Str,ln=(pwOf h' ⟨nm,(x:Int),(y:Int),sd,(lo:Int),(hi:Int)⟩).t∧Same H6 H7∧σ=[some (.int (w':Int)),some (.int (h':Int)),some (.ref d),some (.ref l),some (.ref ll),v5,some (.str nm),some (.int (x:Int)),some (.int (y:Int)),some (.str sd),some (.int (lo:Int)),some (.int (hi:Int)),some (.str ln)],?_,?_⟩
    ·unfold pwOf Pw.t Pw.ws
     dsimp only
     rw [Int.toNat_natCast,Int.toNat_natCast,Int.toNat_natCast,Int.toNat_natCast]
     refine ⟨_,rfl,_,rfl,(by show 2≤sizeLine; decide),fun q1 hq1=>?_⟩
     have s7:Same H6 (upd H6 q1 (.tup [.int (lo:Int),.int (hi:Int)])):=xo (Same.refl _) hq1
     have g7:upd H6 q1 (.tup [.int (lo:Int),.int (hi:Int)]) q1=some (.tup [.int (lo:Int),.int (hi:Int)]):=xf
     revert s7 g7
     generalize upd H6 q1 (.tup [.int (lo:Int),.int (hi:Int)])=H7
     intro s7 g7
     refine ⟨_,rfl,(by show 2≤sizeLine; decide),fun q2 hq2=>?_⟩
     have s8:Same H7 (upd H7 q2 (.tup [.int 1,.int (h':Int)])):=xo (Same.refl _) hq2
     have g8:upd H7 q2 (.tup [.int 1,.int (h':Int)]) q2=some (.tup [.int 1,.int (h':Int)]):=xf
     revert s8 g8
     generalize upd H7 q2 (.tup [.int 1,.int (h':Int)])=H8
     intro s8 g8
     have s68:=s7.trans s8
     refine ⟨1,1,_,_,xcp (s8 _ _ g7),xcp g8,by decide,by decide,_,rfl,ite2 (fun c=>?_) (fun c=>?_)⟩
     ·rw [xel,Bool.not_eq_true',decide_eq_false_iff_not] at c
      have c':¬ ((lo:Int)=1∧(hi:Int)=h'):=fun z=>c (by rw [z.1,z.2])
      rw [if_neg c']
      refine ⟨_,rfl,_,_,rfl,rfl,?_,_,rfl,_,sd,rfl,rfl,?_,_,_,rfl,rfl,?_,_,rfl,(lo:Int),rfl,xal lo1,_,numT lo,rfl,rfl,?_,_,_,rfl,rfl,?_,_,rfl,(hi:Int),rfl,xal hi1,_,numT hi,rfl,rfl,?_,_,?_,s68,rfl⟩
      rotate_right
      ·rw [pt_b,pt_c]
      all_goals (refine Nat.le_trans (?_:_≤1000) (by decide); simp only [xah,e1]; omega)
     ·rw [xel,Bool.not_eq_true,Bool.not_eq_false',decide_eq_true_iff] at c
      rw [if_pos ⟨(Prod.mk.inj c).1,(Prod.mk.inj c).2⟩]
      refine ⟨_,?_,fun _ _ z=>z⟩
      refine ⟨_,rfl,rfl,_,rfl,ite2 (fun z=>?_) (fun z=>?_)⟩
      ·have d':sd≠"both":=fun y=>by
        rw [y] at z
        have d2:(!decide (V.str (Str.ofString "both")=V.str (Str.ofString "both")))=true:=z
        exact absurd d2 (by decide +kernel)
       rw [if_neg d']
       refine ⟨_,rfl,_,_,rfl,rfl,?_,_,rfl,_,sd,rfl,rfl,?_,_,?_,s68,rfl⟩
       rotate_right
       ·rw [pt_b]
       all_goals (refine Nat.le_trans (?_:_≤1000) (by decide); simp only [xah,e1]; omega)
      ·have d':sd="both":=by
        by_cases y:sd="both"
        ·exact y
        ·exact absurd (by rw [decide_eq_false fun x=>y (V.str.inj x)]; rfl) z
       rw [if_pos d']
       exact ⟨_,rfl,s68,rfl⟩
    rintro σ H7 ⟨ln,eln,s7,rfl⟩
    have h7:=s7 _ _ h6
    refine ⟨_,rfl,.inl ⟨rfl,_,SqL.of h7⟩,_,rfl,ll,_,_,rfl,rfl,h7,?_,_,_,_,_,_,_,_,_,rfl,fun c u e=>?_,?_⟩
    ·unfold itV
     rw [List.length_cons,List.length_map,List.length_append,List.length_map,List.length_take]
     exact Nat.lt_of_le_of_lt (by omega:_≤1000) (by decide)
    ·rw [xj (xm e fll)]
     exact s7 _ _ (s6 _ _ e)
    ·have z:=xb3 (xar true L ++ xar false R ++ (ds.take i).map fun p=>Itm.pt (pwOf h' p)) [.pt (pwOf h' ⟨nm,(x:Int),(y:Int),sd,(lo:Int),(hi:Int)⟩)]
     rw [xf,tk,← List.append_assoc,z,eln]
     rfl
   ·rintro σ H6 ⟨v5,v6,v7,v8,v9,v10,v11,v12,rfl,s6,h6⟩
    rw [List.length_map,pts.len,List.take_length] at h6
    refine ⟨_,rfl,q H6 ll s6 fll ?_⟩
    rw [h6,xkv]
    rfl
end
end S25
set_option maxRecDepth 100000
set_option maxHeartbeats 4000000
namespace S25
open PySem L2 XL PyProof.Rows
def xm2:Sp:=fun vs H Q _=>∃ (l:Addr) (c:Int) (R:List Nat),vs=[.ref l,.int c]∧H l=some (.lst (xaj R))∧xat R∧∀ H' l' (ws:List Wd),Same H H'→H l'=none→H' l'=some (.lst (wdsV ws))→(∀ w ∈ ws,w.Ok)→(ws.flatMap Wd.rs).Perm (R.map fun (n:Nat)=>(n:Int))→ws.length≤16→Q (.ref l') H'
def WPc (H:Hp) (l lw:Addr) (c:Int) (R:List Nat) (m:Nat) (σ:L2.St) (H5:Hp):Prop:=∃ (n:Nat) (v4 v5 v6:Option V) (ws:List Wd),m=R.length - n∧n≤R.length∧σ=[some (.ref l),some (.int c),some (.ref lw),some (.int (n:Int)),v4,v5,v6]∧Same H H5∧H5 lw=some (.lst (wdsV ws))∧(∀ w ∈ ws,w.Ok)∧ws.flatMap Wd.rs=(R.take n).map (fun (n:Nat)=>(n:Int))∧ws.length≤n
def WIn (H5:Hp) (l lw:Addr) (c:Int) (R:List Nat) (n r:Nat) (v5 v6:Option V) (m:Nat) (σ:L2.St) (H6:Hp):Prop:=∃ k:Nat,m=R.length - k∧1≤k∧n + k≤R.length∧H5=H6∧(∀ j,j < k→R[n + j]?=some (r + j))∧σ=[some (.ref l),some (.int c),some (.ref lw),some (.int (n:Int)),some (.int (k:Int)),v5,v6]
theorem xd1 {R:List Nat} {i r:Nat} (h:R[i]?=some r):atI (xaj R) (i:Int)=some (.int (r:Int)):=xbs (by unfold xaj; rw [List.getElem?_map,h]; rfl)
theorem xmv {R:List Nat} {n r k:Nat} (h:∀ j,j < k→R[n + j]?=some (r + j)):(R.take (n + k))=R.take n ++ (List.range k).map (r + ·):=by
 induction k with
 | zero=>simp
 | succ k ih =>
  rw [← Nat.add_assoc,List.take_succ,ih fun j hj=>h j (by omega),h k (by omega),List.range_succ,List.map_append,List.append_assoc]
  rfl
theorem xfb (n d k:Nat):HT.sIx n d (some (k:Int))=min k n:=by
 unfold HT.sIx
 have z:¬ ((k:Int) < 0):=by omega
 simp [z]
theorem xmd {xs:List V} {k:Nat}:cutV xs (some (k:Int)) none=xs.drop k:=by
 unfold cutV
 rw [xfb]
 show ((xs.drop (min k xs.length)).take (xs.length - min k xs.length))=xs.drop k
 rw [List.take_of_length_le (by rw [List.length_drop]; exact Nat.le_refl _)]
 by_cases h:k≤xs.length
 ·rw [Nat.min_eq_left h]
 ·rw [Nat.min_eq_right (by omega),List.drop_of_length_le (Nat.le_refl _),List.drop_of_length_le (by omega)]
theorem xqo {xs:List V} {k:Nat} (h:k≤xs.length):cutV xs none (some (k:Int))=xs.take k:=by
 unfold cutV
 rw [xfb,Nat.min_eq_left h]
 rfl
section
variable {P:Program} {w:World} {K:PySem.W.Frag} {mg:Str→Option Value} {base:Heap} {t:Adr}
theorem ok_m (T:Txt w K mg t):FnOk true P w K mg base (CXo P w) 2 t.f_m t.d_m ["_law_rows", "_law_cell_here"] (xm2):=by
 refine T.F_m.okn (k:=1) sc_m (fun vs H Q E h=>?_) (fun cdv A outer s H vs Q E hr h=>?_)
 ·obtain ⟨l,c,R,rfl,_⟩:=h
  rfl
 ·obtain ⟨l,c,R,rfl,h⟩:=h
  refine ⟨_,xg (xv (i:=2) sc_m.nd rfl (Or.inl rfl) (xaw (xb)))
   (xg (xv (i:=3) sc_m.nd rfl (Or.inl rfl) (xh))
   (xg (xfj PassesOwn.never (xt xc5 (pv 3) (xab xac rfl T.n_len boot_len (xa (pv 0) (xb))) (x0 _)) (xg (xv (i:=4) sc_m.nd rfl (Or.inl rfl) (xh))
   (xg (xc0 (xfj PassesOwn.never (PW.pt (xek (xt xc5 (pv 4) (xp xag (xh) (xp xa1 (xq (ok_s T) (hr.mono (by decide)) rfl T.g_s T.F_s.kp T.b_s .nil xn (xa (pv 1) (xa (pv 3) (xb)))) (xh))) (x0 _)) (xek (xt xc5 (xp xag (pv 3) (pv 4)) (xab xac rfl T.n_len boot_len (xa (pv 0) (xb))) (x0 _)) (xe3 (xt xbl (xaq xam (pv 0) (xp xag (pv 3) (pv 4)) (fun _ _=>rfl)) (xp xag (xaq xam (pv 0) (pv 3) (fun _ _=>rfl)) (pv 4)) (x0 _)))))) (xk (xv (i:=4) sc_m.nd rfl (Or.inl rfl) (xp xag (pv 4) (xh))))))
   (xg (xv (i:=5) sc_m.nd rfl (Or.inl rfl) (xad xai rfl T.n_str boot_str (xa (xaq xam (pv 0) (pv 3) (fun _ _=>rfl)) (xb))))
   (xg (xc0 (xaf (PW.pt (xbp (xt xe9 (pv 4) (xh) (x0 _)) (xba (xt xbl (xp xa1 (xq (ok_s T) (hr.mono (by decide)) rfl T.g_s T.F_s.kp T.b_s .nil xn (xa (pv 1) (xa (xp xag (xh) (pv 3)) (xb)))) (xh)) (xh) (x0 _))))) (xk (xv (i:=5) sc_m.nd rfl (Or.inl rfl) (xp xz (xp xz (pv 5) (xw)) (xad xai rfl T.n_str boot_str (xa (xp xhk (xp xag (xaq xam (pv 0) (pv 3) (fun _ _=>rfl)) (pv 4)) (xh)) (xb)))))) (xaa)))
   (xg (xav (xbm PySem.F.plainAttrs_list PySem.F.slot_list_append PySem.F.type_list_append xa7 (pv 2) (xa (pv 5) (xb))))
   (xk (xv (i:=3) sc_m.nd rfl (Or.inl rfl) (xp xag (pv 3) (pv 4))))))))))
   (xg (xv (i:=6) sc_m.nd rfl (Or.inl rfl) (xp xa1 (xq (ok_s T) (hr.mono (by decide)) rfl T.g_s T.F_s.kp T.b_s .nil xn (xa (pv 1) (xa (xh) (xb)))) (xp xag (xab xac rfl T.n_len boot_len (xa (pv 2) (xb))) (xh))))
   (xk (x5 (xp xc2 (xa6 xbf (pv 2) (xa4 (pv 6)) xbw) (xa6 xbf (pv 2) xbw (xa4 (pv 6))))))))),?_⟩
  obtain ⟨hl,ok,q⟩:=h
  have rl:=ok.len
  have rlen:(xaj R).length=R.length:=by unfold xaj; rw [List.length_map]
  refine ⟨(by show 0≤sizeLine; exact Nat.zero_le _),fun lw hlw=>?_⟩
  have s1:Same H (upd H lw (.lst [])):=xo (Same.refl _) hlw
  have g1:upd H lw (.lst []) lw=some (.lst []):=xf
  revert s1 g1
  generalize upd H lw (.lst [])=H1
  intro s1 g1
  have flw:=hlw
  refine ⟨WPc H l lw c R,⟨_,0,_,_,_,[],rfl,Nat.zero_le _,rfl,s1,g1,fun w hw=>(nomatch hw),rfl,Nat.le_refl _⟩,?_⟩
  rintro m σ H5 ⟨n,v4,v5,v6,ws,rfl,nle,rfl,s5,h5,wok,wfl,wln⟩
  have hl5:=s5 _ _ hl
  refine ⟨_,rfl,_,rfl,l,_,rfl,.inl (SqL.of hl5),_,_,rfl,rfl,_,rfl,ite2 (fun c1=>?_) (fun c1=>?_)⟩
  ·have nlt:n < R.length:=by
    have:=of_decide_eq_true c1
    rw [rlen] at this
    omega
   obtain ⟨r,hr⟩:∃ r,R[n]?=some r:=⟨_,List.getElem?_eq_getElem nlt⟩
   refine ⟨fun σ' H'=>∃ m',m' < R.length - n∧WPc H l lw c R m' σ' H',fun _ _ z=>z,?_⟩
   have hr16:=ok.le r (List.mem_of_getElem? hr)
   refine ⟨fun σ' H'=>∃ m,WIn H5 l lw c R n r v5 v6 m σ' H',?_,?_⟩
   ·refine ⟨WIn H5 l lw c R n r v5 v6,⟨_,1,rfl,Nat.le_refl _,by omega,rfl,fun j hj=>by rw [show j=0 by omega]; exact hr,rfl⟩,?_⟩
    rintro m σ _ ⟨k,rfl,k1,nk,rfl,run,rfl⟩
    have keep:∃ m,WIn H5 l lw c R n r v5 v6 m [some (.ref l),some (.int c),some (.ref lw),some (.int (n:Int)),some (.int (k:Int)),v5,v6] H5:=⟨_,k,rfl,k1,nk,rfl,run,rfl⟩
    refine ⟨_,rfl,_,rfl,_,rfl,c,_,rfl,by omega,fun mm=>⟨_,_,rfl,rfl,(by show (0:Int) < 3; decide),_,_,rfl,rfl,_,_,rfl,rfl,_,rfl,ite2 (fun b1=>?_) (fun b1=>keep)⟩⟩
    refine ⟨_,rfl,_,rfl,_,_,rfl,rfl,_,rfl,l,_,rfl,.inl (SqL.of hl5),_,_,rfl,rfl,_,rfl,ite2 (fun b2=>?_) (fun b2=>keep)⟩
    have nk2:n + k < R.length:=by
     have:=of_decide_eq_true b2
     rw [rlen] at this
     omega
    obtain ⟨r2,hr2⟩:∃ r2,R[n + k]?=some r2:=⟨_,List.getElem?_eq_getElem nk2⟩
    refine ⟨_,rfl,_,rfl,_,rfl,_,_,rfl,rfl,l,_,_,.int (r2:Int),rfl,rfl,SqL.of hl5,?_,_,rfl,_,rfl,l,_,_,.int (r:Int),rfl,rfl,SqL.of hl5,xd1 hr,_,rfl,_,_,rfl,rfl,rfl,_,rfl,ite2 (fun b3=>?_) (fun b3=>keep)⟩
    ·rw [show (n:Int) + (k:Int)=((n + k:Nat):Int) by omega]
     exact xd1 hr2
    have e3:r2=r + k:=by
     have:=V.int.inj (of_decide_eq_true b3)
     omega
    refine ⟨fun σ' H'=>∃ m',m' < R.length - k∧WIn H5 l lw c R n r v5 v6 m' σ' H',fun _ _ z=>z,?_⟩
    refine ⟨_,rfl,_,_,rfl,rfl,R.length - (k + 1),by omega,k + 1,rfl,by omega,by omega,rfl,fun j hj=>?_,rfl⟩
    by_cases z:j < k
    ·exact run j z
    ·rw [show j=k by omega,hr2,e3]
   rintro σ _ ⟨m,k,rfl,k1,nk,rfl,run,rfl⟩
   have hrk:=ok.le (r + (k - 1)) (List.mem_of_getElem? (run (k - 1) (by omega)))
   have r100:r < 100:=by omega
   have k100:r + k - 1 < 100:=by omega
   have l1:=xao r100
   have l2:=xao k100
   have h3:(Str.ofString "-").length=1:=by decide +kernel
   refine ⟨_,rfl,_,rfl,l,_,_,.int (r:Int),rfl,rfl,SqL.of hl5,xd1 hr,(r:Int),rfl,xal r100,?_⟩
   refine ⟨fun σ' H'=>∃ two:Bool,(two=false→k=1)∧H5=H'∧σ'=[some (.ref l),some (.int c),some (.ref lw),some (.int (n:Int)),some (.int (k:Int)),some (.str (Wd.t ⟨r,r + k - 1,two⟩)),v6],?_,?_⟩
   ·have ei:(r:Int) + (k:Int) - 1=((r + k - 1:Nat):Int):=by omega
    refine ⟨_,rfl,_,_,rfl,rfl,_,rfl,ite2 (fun z=>?_) (fun z=>?_)⟩
    ·refine ⟨_,rfl,numT r,_,rfl,rfl,?_,_,rfl,_,rfl,l,_,_,.int (r:Int),rfl,rfl,SqL.of hl5,xd1 hr,_,rfl,_,_,rfl,rfl,_,_,rfl,rfl,((r + k - 1:Nat):Int),by rw [← ei],xal k100,_,numT (r + k - 1),rfl,rfl,?_,true,(fun z=>nomatch z),rfl,?_⟩
     ·rw [h3]
      exact Nat.le_trans (by omega:_≤1000) (by decide)
     ·rw [xah,h3]
      exact Nat.le_trans (by omega:_≤1000) (by decide)
     ·rw [← xe8]
      rfl
    ·have kk:k=1:=by
      have:¬ (1:Int) < k:=fun y=>z (decide_eq_true y)
      omega
     refine ⟨_,rfl,_,rfl,_,_,rfl,rfl,c,_,rfl,by omega,fun mm=>⟨_,_,rfl,rfl,(by show (0:Int) < 3; decide),rfl,_,rfl,ite2 (fun z2=>?_) (fun z2=>⟨false,fun _=>kk,rfl,?_⟩)⟩⟩
     ·refine ⟨_,rfl,numT r,_,rfl,rfl,?_,_,rfl,_,rfl,l,_,_,.int (r:Int),rfl,rfl,SqL.of hl5,xd1 hr,_,rfl,_,_,rfl,rfl,_,_,rfl,rfl,((r + k - 1:Nat):Int),by rw [← ei],xal k100,_,numT (r + k - 1),rfl,rfl,?_,true,(fun z=>nomatch z),rfl,?_⟩
      ·rw [h3]
       exact Nat.le_trans (by omega:_≤1000) (by decide)
      ·rw [xah,h3]
       exact Nat.le_trans (by omega:_≤1000) (by decide)
      ·rw [← xe8]
       rfl
     ·subst kk
      rfl
   rintro σ _ ⟨two,htwo,rfl,rfl⟩
   have wk:Wd.Ok ⟨r,r + k - 1,two⟩:=⟨by show r < 30; omega,by show r + k - 1 < 30; omega,by show r≤r + k - 1; omega,fun e=>by have:=htwo e; show r + k - 1=r; omega⟩
   refine ⟨_,rfl,.inl ⟨rfl,_,SqL.of h5⟩,_,rfl,lw,_,_,rfl,rfl,h5,?_,?_⟩
   ·unfold wdsV
    rw [List.length_map]
    exact Nat.lt_of_le_of_lt (by omega:_≤1000) (by decide)
   refine ⟨_,rfl,_,rfl,_,_,rfl,rfl,R.length - (n + k),by omega,n + k,_,_,_,ws ++ [⟨r,r + k - 1,two⟩],rfl,nk,rfl,fun c u e=>?_,by rw [xf,xid],fun w hw=>?_,?_,by rw [List.length_append,List.length_singleton]; omega⟩
   ·rw [xj (xm e flw)]
    exact s5 _ _ e
   ·rcases List.mem_append.mp hw with y | y
    ·exact wok w y
    ·rw [List.mem_singleton.mp y]
     exact wk
   ·rw [List.flatMap_append,List.flatMap_singleton,wfl,xmv run,List.map_append]
    congr 1
    show (List.range (r + k - 1 + 1 - r)).map _=_
    rw [show r + k - 1 + 1 - r=k by omega,List.map_map]
    rfl
  ·have nn:n=R.length:=by
    have:¬ n < R.length:=fun y=>c1 (decide_eq_true (by rw [rlen]; omega))
    omega
   subst nn
   rw [List.take_length] at wfl
   refine ⟨_,rfl,c,_,rfl,by decide,fun mm=>?_⟩
   have wl:(wdsV ws).length=ws.length:=by unfold wdsV; rw [List.length_map]
   have pz:(0:Int) < ((wdsV ws).length:Int) + 1:=by omega
   have b:=xcs mm pz
   obtain ⟨t0,et⟩:=Int.eq_ofNat_of_zero_le b.1
   have tle:t0≤(wdsV ws).length:=by omega
   refine ⟨_,rfl,lw,_,rfl,.inl (SqL.of h5),_,_,rfl,rfl,_,_,rfl,rfl,pz,?_⟩
   simp only [et]
   refine ⟨_,rfl,_,rfl,(t0:Int),rfl,lw,_,rfl,SqL.of h5,fun p1 hp1=>?_⟩
   rw [xmd]
   have s6:Same H5 (upd H5 p1 (.lst ((wdsV ws).drop t0))):=xo (Same.refl _) hp1
   have g6:upd H5 p1 (.lst ((wdsV ws).drop t0)) p1=some (.lst ((wdsV ws).drop t0)):=xf
   revert s6 g6
   generalize upd H5 p1 (.lst ((wdsV ws).drop t0))=H6
   intro s6 g6
   refine ⟨_,rfl,_,rfl,(t0:Int),rfl,lw,_,rfl,SqL.of (s6 _ _ h5),fun p2 hp2=>?_⟩
   rw [xqo tle]
   have s7:Same H6 (upd H6 p2 (.lst ((wdsV ws).take t0))):=xo (Same.refl _) hp2
   have g7:upd H6 p2 (.lst ((wdsV ws).take t0)) p2=some (.lst ((wdsV ws).take t0)):=xf
   revert s7 g7
   generalize upd H6 p2 (.lst ((wdsV ws).take t0))=H7
   intro s7 g7
   refine ⟨p1,p2,_,_,rfl,rfl,s7 _ _ g6,g7,?_,fun p3 hp3=>?_⟩
   ·rw [List.length_drop,List.length_take]
    exact Nat.le_trans (by omega:_≤1000) (by decide)
   have s07:=(s5.trans s6).trans s7
   refine q _ p3 (ws.drop t0 ++ ws.take t0) (xo s07 hp3) (s07.free hp3) ?_ (fun w hw=>?_) ?_ ?_
   ·rw [xf]
    unfold wdsV
    rw [List.map_append,List.map_drop,List.map_take]
   ·rcases List.mem_append.mp hw with y | y
    ·exact wok w (List.mem_of_mem_drop y)
    ·exact wok w (List.mem_of_mem_take y)
   ·rw [← wfl,List.flatMap_append]
    refine List.perm_append_comm.trans ?_
    rw [← List.flatMap_append,List.take_append_drop]
   ·rw [List.length_append,List.length_drop,List.length_take]
    omega
end
def lnV (lns:List Ln):List V:=lns.map fun n=>V.str n.t
def xpw:Sp:=fun vs H Q _=>∃ (b:Bool) (l:Addr) (c:Int) (ws:List Wd),vs=[.str (x8 b),.ref l,.int c]∧H l=some (.lst (wdsV ws))∧(∀ w ∈ ws,w.Ok)∧ws.length≤16∧∀ H' l' (lns:List Ln),Same H H'→H l'=none→H' l'=some (.lst (lnV lns))→(∀ n ∈ lns,n.Ok∧n.b=b)→lns.flatMap Ln.ws=ws→lns.length≤16→Q (.ref l') H'
def WRm (H:Hp) (b:Bool) (l ll:Addr) (c:Int) (ws:List Wd) (m:Nat) (σ:L2.St) (H5:Hp):Prop:=∃ (n i:Nat) (v5:Option V) (lns:List Ln),m=ws.length - n∧min n ws.length=i∧σ=[some (.str (x8 b)),some (.ref l),some (.int c),some (.ref ll),some (.int (n:Int)),v5]∧Same H H5∧H5 ll=some (.lst (lnV lns))∧(∀ n ∈ lns,n.Ok∧n.b=b)∧lns.flatMap Ln.ws=ws.take n∧lns.length≤i
theorem xnx {xs:List V} {a b:Nat}:cutV xs (some (a:Int)) (some (b:Int))=(xs.drop a).take (b - a):=by
 unfold cutV
 rw [xfb,xfb,show (min b xs.length - min a xs.length)=min (b - a) (xs.length - a) by omega]
 by_cases h:a≤xs.length
 ·rw [Nat.min_eq_left h]
  by_cases h2:b - a≤xs.length - a
  ·rw [Nat.min_eq_left h2]
  ·rw [Nat.min_eq_right (by omega),List.take_of_length_le (by rw [List.length_drop]; exact Nat.le_refl _),List.take_of_length_le (by rw [List.length_drop]; omega)]
 ·rw [show min a xs.length=xs.length by omega,List.drop_of_length_le (Nat.le_refl _),List.drop_of_length_le (by omega:xs.length≤a)]
  simp
theorem xo1 (b:Bool) (ws:List Wd):Str.join (Str.ofString " ") (x8 b :: ws.map Wd.t)=Ln.t ⟨b,ws⟩:=by rw [xee]; rfl
def xpu:Sp:=fun vs H Q _=>∃ (u:Addr) (w h:Nat) (c:Int) (p:Pt),vs=[.ref u,.int (h:Int),.int c]∧H u=some (.tup (dotV p))∧PtOk w h p∧w≤30∧h≤16∧∀ (d:Pw) H',Same H H'→d.Ok→d.pt h=p→Q (.str d.t) H'
section
variable {P:Program} {w:World} {K:PySem.W.Frag} {mg:Str→Option Value} {base:Heap} {t:Adr}
theorem ok_g (T:Txt w K mg t):FnOk true P w K mg base (CXo P w) 2 t.f_g t.d_g ["_law_side", "_law_words", "_law_cell_here"] (xpw):=by
 refine T.F_g.okn (k:=1) sc_g (fun vs H Q E h=>?_) (fun cdv A outer s H vs Q E hr h=>?_)
 ·obtain ⟨b,l,c,ws,rfl,_⟩:=h
  rfl
 ·obtain ⟨b,l,c,ws,rfl,h⟩:=h
  refine ⟨_,xg (xv (i:=3) sc_g.nd rfl (Or.inl rfl) (xaw (xb)))
   (xg (xv (i:=4) sc_g.nd rfl (Or.inl rfl) (xh))
   (xg (xfj PassesOwn.never (xt xc5 (pv 4) (xab xac rfl T.n_len boot_len (xa (pv 1) (xb))) (x0 _)) (xg (xv (i:=5) sc_g.nd rfl (Or.inl rfl) (xp xag (xh) (xp xa1 (xq (ok_s T) (hr.mono (by decide)) rfl T.g_s T.F_s.kp T.b_s .nil xn (xa (pv 2) (xa (xp xag (xh) (pv 4)) (xb)))) (xh))))
   (xg (xav (xbm PySem.F.plainAttrs_list PySem.F.slot_list_append PySem.F.type_list_append xa7 (pv 3) (xa (xbm PySem.F.plainAttrs_str PySem.F.slot_str_join PySem.F.type_str_join xgm (xw) (xa (xp xc2 (xaw (xa (pv 0) (xb))) (xa6 xbf (pv 1) (xa4 (pv 4)) (xa4 (xp xag (pv 4) (pv 5))))) (xb))) (xb))))
   (xk (xv (i:=4) sc_g.nd rfl (Or.inl rfl) (xp xag (pv 4) (pv 5)))))))
   (xk (x5 (pv 3))))),?_⟩
  obtain ⟨hl,wok,wl,q⟩:=h
  have e1:(Str.ofString " ").length=1:=by decide +kernel
  have wlen:(wdsV ws).length=ws.length:=by unfold wdsV; rw [List.length_map]
  refine ⟨(by show 0≤sizeLine; exact Nat.zero_le _),fun ll hll=>?_⟩
  have s1:Same H (upd H ll (.lst [])):=xo (Same.refl _) hll
  have g1:upd H ll (.lst []) ll=some (.lst []):=xf
  revert s1 g1
  generalize upd H ll (.lst [])=H1
  intro s1 g1
  have fll:=hll
  refine ⟨WRm H b l ll c ws,⟨_,0,0,_,[],rfl,Nat.zero_min _,rfl,s1,g1,fun n hn=>(nomatch hn),rfl,Nat.le_refl _⟩,?_⟩
  rintro m σ H5 ⟨n,i,v5,lns,rfl,ei,rfl,s5,h5,lok,lfl,llen⟩
  have hl5:=s5 _ _ hl
  refine ⟨_,rfl,_,rfl,l,_,rfl,.inl (SqL.of hl5),_,_,rfl,rfl,_,rfl,ite2 (fun c1=>?_) (fun c1=>?_)⟩
  ·have nlt:n < ws.length:=by
    have:=of_decide_eq_true c1
    rw [wlen] at this
    omega
   refine ⟨fun σ' H'=>∃ m',m' < ws.length - n∧WRm H b l ll c ws m' σ' H',fun _ _ z=>z,?_⟩
   refine ⟨_,rfl,_,rfl,_,_,rfl,rfl,c,_,rfl,by omega,fun mm=>⟨_,_,rfl,rfl,(by show (0:Int) < 3; decide),_,_,rfl,rfl,?_⟩⟩
   have bm:=xcs mm (show (0:Int) < 3 by decide)
   obtain ⟨k,ek⟩:=Int.eq_ofNat_of_zero_le (show 0≤1 + mm % 3 by omega)
   have k1:1≤k∧k≤3:=by omega
   simp only [ek]
   refine ⟨_,rfl,.inl ⟨rfl,_,SqL.of h5⟩,rfl,_,rfl,(by show 1≤sizeLine; decide),fun l8 hl8=>?_⟩
   have s8:Same H5 (upd H5 l8 (.lst [.str (x8 b)])):=xo (Same.refl _) hl8
   have g8:upd H5 l8 (.lst [.str (x8 b)]) l8=some (.lst [.str (x8 b)]):=xf
   revert s8 g8
   generalize upd H5 l8 (.lst [.str (x8 b)])=H8
   intro s8 g8
   refine ⟨_,rfl,_,rfl,(n:Int),rfl,_,rfl,_,rfl,_,_,rfl,rfl,((n + k:Nat):Int),by rw [Int.natCast_add],l,_,rfl,SqL.of (s8 _ _ hl5),fun p9 hp9=>?_⟩
   rw [xnx,show n + k - n=k by omega]
   have ew:((wdsV ws).drop n).take k=wdsV ((ws.drop n).take k):=by unfold wdsV; rw [List.map_take,List.map_drop]
   rw [ew]
   have s9:Same H8 (upd H8 p9 (.lst (wdsV ((ws.drop n).take k)))):=xo (Same.refl _) hp9
   have g9:upd H8 p9 (.lst (wdsV ((ws.drop n).take k))) p9=some (.lst (wdsV ((ws.drop n).take k))):=xf
   revert s9 g9
   generalize upd H8 p9 (.lst (wdsV ((ws.drop n).take k)))=H9
   intro s9 g9
   have cl:((ws.drop n).take k).length≤3:=by rw [List.length_take]; omega
   have cne:(ws.drop n).take k≠[]:=fun z=>by
    have:=congrArg List.length z
    rw [List.length_take,List.length_drop] at this
    change min k (ws.length - n)=0 at this
    omega
   have cok:∀ w ∈ (ws.drop n).take k,w.Ok:=fun w hw=>wok w (List.mem_of_mem_drop (List.mem_of_mem_take hw))
   refine ⟨l8,p9,_,_,rfl,rfl,s9 _ _ g8,g9,?_,fun l10 hl10=>?_⟩
   ·unfold wdsV
    rw [List.length_map]
    exact Nat.le_trans (by show 1 + _≤1000; omega) (by decide)
   have e10:([V.str (x8 b)] ++ wdsV ((ws.drop n).take k))=(x8 b :: ((ws.drop n).take k).map Wd.t).map V.str:=by
    unfold wdsV
    rw [List.map_cons,List.map_map]
    rfl
   rw [e10]
   have s10:Same H9 (upd H9 l10 (.lst ((x8 b :: ((ws.drop n).take k).map Wd.t).map V.str))):=xo (Same.refl _) hl10
   have g10:upd H9 l10 (.lst ((x8 b :: ((ws.drop n).take k).map Wd.t).map V.str)) l10=some (.lst ((x8 b :: ((ws.drop n).take k).map Wd.t).map V.str)):=xf
   revert s10 g10
   generalize upd H9 l10 (.lst ((x8 b :: ((ws.drop n).take k).map Wd.t).map V.str))=H10
   intro s10 g10
   have s510:=(s8.trans s9).trans s10
   have h10:=s510 _ _ h5
   refine ⟨_,l10,_,6,rfl,rfl,g10,?_,?_,ll,_,_,rfl,rfl,h10,?_,?_⟩
   ·intro z hz
    rcases List.mem_cons.mp hz with y | y
    ·rw [y]
     exact xdo _
    ·obtain ⟨v,hv,rfl⟩:=List.mem_map.mp y
     exact Wd.len (cok v hv)
   ·rw [List.length_cons,List.length_map,e1]
    exact Nat.le_trans (by omega:_≤1000) (by decide)
   ·unfold lnV
    rw [List.length_map]
    exact Nat.lt_of_le_of_lt (by omega:_≤1000) (by decide)
   refine ⟨_,rfl,_,rfl,_,_,rfl,rfl,ws.length - (n + k),by omega,n + k,_,some (.int (k:Int)),lns ++ [⟨b,(ws.drop n).take k⟩],rfl,rfl,?_,fun c u e=>?_,?_,fun z hz=>?_,?_,?_⟩
   ·rw [Int.natCast_add]
    rfl
   ·rw [xj (xm e fll)]
    exact s510 _ _ (s5 _ _ e)
   ·rw [xf,xo1]
    unfold lnV
    rw [List.map_append]
    rfl
   ·rcases List.mem_append.mp hz with y | y
    ·exact lok z y
    ·rw [List.mem_singleton.mp y]
     exact ⟨⟨cne,cok,by show ((ws.drop n).take k).length≤12; omega⟩,rfl⟩
   ·rw [List.flatMap_append,List.flatMap_singleton,lfl,List.take_add]
   ·rw [List.length_append,List.length_singleton]
    omega
  ·have nn:ws.length≤n:=by
    have:¬ n < ws.length:=fun y=>c1 (decide_eq_true (by rw [wlen]; omega))
    omega
   rw [List.take_of_length_le nn] at lfl
   exact ⟨_,rfl,q H5 ll lns s5 fll h5 lok lfl (by omega)⟩
theorem ok_i (T:Txt w K mg t):FnOk true P w K mg base (CXo P w) 1 t.f_i t.d_i ["_law_dot", "_law_height", "_law_cell_here"] (xpu):=by
 refine T.F_i.okn (k:=0) sc_i (fun vs H Q E h=>?_) (fun cdv A outer s H vs Q E hr h=>?_)
 ·obtain ⟨u,w',h',c,p,rfl,_⟩:=h
  rfl
 ·obtain ⟨u,w',h',c,p,rfl,h⟩:=h
  refine ⟨_,xg (xcq (pv 0) (xca rfl (xx (xr (i:=3) sc_i.nd rfl (Or.inl rfl)) (xx (xr (i:=4) sc_i.nd rfl (Or.inl rfl)) (xx (xr (i:=5) sc_i.nd rfl (Or.inl rfl)) (xx (xr (i:=6) sc_i.nd rfl (Or.inl rfl)) (xx (xr (i:=7) sc_i.nd rfl (Or.inl rfl)) (xx (xr (i:=8) sc_i.nd rfl (Or.inl rfl)) (xbb)))))))))
   (xg (xv (i:=9) sc_i.nd rfl (Or.inl rfl) (xp xz (xp xz (xp xz (xp xz (xp xz (xw) (pv 3)) (xw)) (xad xai rfl T.n_str boot_str (xa (pv 4) (xb)))) (xw)) (xad xai rfl T.n_str boot_str (xa (pv 5) (xb)))))
   (xg (xv (i:=10) sc_i.nd rfl (Or.inl rfl) (xp xa1 (pv 2) (xh)))
   (xg (xc0 (xaf (PW.pt (xbp (xt (xc1 (xbr hr)) (xau (xa (pv 7) (xa (pv 8) (xb)))) (xau (xa (xh) (xa (pv 1) (xb)))) (x0 _)) (xba (xt xbl (pv 10) (xh) (x0 _))))) (xk (x5 (xp xz (xp xz (xp xz (xp xz (xp xz (xp xz (pv 9) (xw)) (pv 6)) (xw)) (xad xai rfl T.n_str boot_str (xa (pv 7) (xb)))) (xw)) (xad xai rfl T.n_str boot_str (xa (pv 8) (xb)))))) (xaa)))
   (xg (xc0 (xaf (PW.pt (xbp (xt xdr (pv 6) (xw) (x0 _)) (xba (xt xbl (pv 10) (xh) (x0 _))))) (xk (x5 (xp xz (xp xz (pv 9) (xw)) (pv 6)))) (xaa)))
   (xk (x5 (pv 9))))))),?_⟩
  obtain ⟨hu,ok,w30,h16,q⟩:=h
  obtain ⟨nm,px,py,sd,plo,phi⟩:=p
  have a1:=ok.x1
  have a2:=ok.x2
  have a3:=ok.y1
  have a4:=ok.y2
  have a5:=ok.l1
  have a6:=ok.l2
  have a7:=ok.l3
  dsimp only at a1 a2 a3 a4 a5 a6 a7
  obtain ⟨x,rfl⟩:=Int.eq_ofNat_of_zero_le (show 0≤px by omega)
  obtain ⟨y,rfl⟩:=Int.eq_ofNat_of_zero_le (show 0≤py by omega)
  obtain ⟨lo,rfl⟩:=Int.eq_ofNat_of_zero_le (show 0≤plo by omega)
  obtain ⟨hi,rfl⟩:=Int.eq_ofNat_of_zero_le (show 0≤phi by omega)
  have x1:x < 100:=by omega
  have y1:y < 100:=by omega
  have lo1:lo < 100:=by omega
  have hi1:hi < 100:=by omega
  have tn:=xf8 ok.nm
  have ts:=xf5 ok.sd
  have tnl:=tn.len
  have tsl:=ts.len
  dsimp only at tn ts tnl tsl
  have lx:=xao x1
  have ly:=xao y1
  have lz:=xao lo1
  have lh:=xao hi1
  have p6:(Str.ofString "point ").length=6:=by decide +kernel
  have e1:(Str.ofString " ").length=1:=by decide +kernel
  have fin:∀ wy:Way,(wy=.a→sd="both")→(wy≠.c→(lo:Int)=1∧(hi:Int)=h')→∀ H',Same H H'→Q (.str (Pw.t ⟨nm,x,y,sd,lo,hi,wy⟩)) H':=fun wy h1 h2 H' s=>by
   refine q ⟨nm,x,y,sd,lo,hi,wy⟩ H' s ⟨tn,x1,y1,ts,lo1,hi1⟩ ?_
   unfold Pw.pt
   cases wy with
   | a =>
    obtain ⟨z1,z2⟩:=h2 (fun z=>nomatch z)
    dsimp only
    rw [z1,z2,h1 rfl]
   | b =>
    obtain ⟨z1,z2⟩:=h2 (fun z=>nomatch z)
    dsimp only
    rw [z1,z2]
   | c=>rfl
  refine ⟨_,rfl,u,_,rfl,SqT.of hu,rfl,_,_,rfl,_,_,rfl,_,_,rfl,_,_,rfl,_,_,rfl,_,_,rfl,rfl,?_⟩
  refine ⟨_,rfl,_,nm,rfl,rfl,?_,_,_,rfl,rfl,?_,_,rfl,(x:Int),rfl,xal x1,_,numT x,rfl,rfl,?_,_,_,rfl,rfl,?_,_,rfl,(y:Int),rfl,xal y1,_,numT y,rfl,rfl,?_,?_⟩
  rotate_right
  rotate_left
  all_goals first
   | (refine Nat.le_trans (?_:_≤1000) (by decide); simp only [xah,p6,e1]; omega)
   | skip
  rw [pt_a]
  have jl:(Str.join ⟨#[32]⟩ ["point",nm,numT x,numT y]).length≤40:=by
   rw [← pt_a]
   simp only [xah,p6,e1]
   omega
  refine ⟨_,rfl,_,_,rfl,rfl,(by show (0:Int) < 3; decide),?_⟩
  refine ⟨fun σ H1=>Same H H1∧((lo:Int)=1∧(hi:Int)=h')∧σ=[some (.ref u),some (.int (h':Int)),some (.int c),some (.str nm),some (.int (x:Int)),some (.int (y:Int)),some (.str sd),some (.int (lo:Int)),some (.int (hi:Int)),some (.str (Str.join ⟨#[32]⟩ ["point",nm,numT x,numT y])),some (.int (c % 3))],?_,?_⟩
  ·refine ⟨_,rfl,_,rfl,(by show 2≤sizeLine; decide),fun q1 hq1=>?_⟩
   have s7:Same H (upd H q1 (.tup [.int (lo:Int),.int (hi:Int)])):=xo (Same.refl _) hq1
   have g7:upd H q1 (.tup [.int (lo:Int),.int (hi:Int)]) q1=some (.tup [.int (lo:Int),.int (hi:Int)]):=xf
   revert s7 g7
   generalize upd H q1 (.tup [.int (lo:Int),.int (hi:Int)])=H7
   intro s7 g7
   refine ⟨_,rfl,(by show 2≤sizeLine; decide),fun q2 hq2=>?_⟩
   have s8:Same H7 (upd H7 q2 (.tup [.int 1,.int (h':Int)])):=xo (Same.refl _) hq2
   have g8:upd H7 q2 (.tup [.int 1,.int (h':Int)]) q2=some (.tup [.int 1,.int (h':Int)]):=xf
   revert s8 g8
   generalize upd H7 q2 (.tup [.int 1,.int (h':Int)])=H8
   intro s8 g8
   have s08:=s7.trans s8
   refine ⟨1,1,_,_,xcp (s8 _ _ g7),xcp g8,by decide,by decide,_,rfl,ite2 (fun z=>?_) (fun z=>?_)⟩
   ·refine ⟨_,rfl,_,_,rfl,rfl,?_,_,rfl,_,sd,rfl,rfl,?_,_,_,rfl,rfl,?_,_,rfl,(lo:Int),rfl,xal lo1,_,numT lo,rfl,rfl,?_,_,_,rfl,rfl,?_,_,rfl,(hi:Int),rfl,xal hi1,_,numT hi,rfl,rfl,?_,?_⟩
    rotate_right
    ·rw [pt_b,pt_c]
     exact fin .c (fun z=>nomatch z) (fun z=>absurd rfl z) _ s08
    all_goals (refine Nat.le_trans (?_:_≤1000) (by decide); simp only [xah,e1]; omega)
   ·rw [xel,Bool.not_eq_true,Bool.not_eq_false',decide_eq_true_iff] at z
    refine ⟨_,rfl,rfl,_,rfl,ite2 (fun z2=>?_) (fun z2=>⟨s08,⟨(Prod.mk.inj z).1,(Prod.mk.inj z).2⟩,rfl⟩)⟩
    refine ⟨_,rfl,_,_,rfl,rfl,?_,_,rfl,_,sd,rfl,rfl,?_,_,_,rfl,rfl,?_,_,rfl,(lo:Int),rfl,xal lo1,_,numT lo,rfl,rfl,?_,_,_,rfl,rfl,?_,_,rfl,(hi:Int),rfl,xal hi1,_,numT hi,rfl,rfl,?_,?_⟩
    rotate_right
    ·rw [pt_b,pt_c]
     exact fin .c (fun z=>nomatch z) (fun z=>absurd rfl z) _ s08
    all_goals (refine Nat.le_trans (?_:_≤1000) (by decide); simp only [xah,e1]; omega)
  rintro σ H1 ⟨s1,hw,rfl⟩
  refine ⟨fun σ H2=>H1=H2∧sd="both"∧σ=[some (.ref u),some (.int (h':Int)),some (.int c),some (.str nm),some (.int (x:Int)),some (.int (y:Int)),some (.str sd),some (.int (lo:Int)),some (.int (hi:Int)),some (.str (Str.join ⟨#[32]⟩ ["point",nm,numT x,numT y])),some (.int (c % 3))],?_,?_⟩
  ·refine ⟨_,rfl,rfl,_,rfl,ite2 (fun z=>?_) (fun z=>?_)⟩
   ·refine ⟨_,rfl,_,_,rfl,rfl,?_,_,rfl,_,sd,rfl,rfl,?_,?_⟩
    rotate_right
    ·rw [pt_b]
     exact fin .b (fun z=>nomatch z) (fun _=>hw) _ s1
    all_goals (refine Nat.le_trans (?_:_≤1000) (by decide); simp only [xah,e1]; omega)
   ·have d':sd="both":=by
     by_cases y:sd="both"
     ·exact y
     ·exact absurd (by rw [decide_eq_false fun x=>y (V.str.inj x)]; rfl) z
    refine ⟨_,rfl,rfl,_,rfl,ite2 (fun z2=>?_) (fun z2=>⟨rfl,d',rfl⟩)⟩
    refine ⟨_,rfl,_,_,rfl,rfl,?_,_,rfl,_,sd,rfl,rfl,?_,?_⟩
    rotate_right
    ·rw [pt_b]
     exact fin .b (fun z=>nomatch z) (fun _=>hw) _ s1
    all_goals (refine Nat.le_trans (?_:_≤1000) (by decide); simp only [xah,e1]; omega)
  rintro σ _ ⟨rfl,d',rfl⟩
  exact ⟨_,rfl,fin .a (fun _=>d') (fun _=>hw) _ s1⟩
end
end S25
set_option maxRecDepth 100000
set_option maxHeartbeats 4000000
namespace S25
open PySem L2 XL PyProof.Rows
inductive Shuf:List Itm→List Itm→List Itm→Prop
 | nil:Shuf [] [] []
 | one {A B C:List Itm} {x:Itm} (h:Shuf A B C):Shuf (A ++ [x]) B (C ++ [x])
 | two {A B C:List Itm} {x:Itm} (h:Shuf A B C):Shuf A (B ++ [x]) (C ++ [x])
theorem Shuf.mem {A B C:List Itm} (h:Shuf A B C):∀ i ∈ C,i ∈ A∨i ∈ B:=by
 induction h with
 | nil=>intro i hi; cases hi
 | one h ih =>
  intro i hi
  rcases List.mem_append.mp hi with z | z
  ·rcases ih i z with y | y
   ·exact .inl (List.mem_append_left _ y)
   ·exact .inr y
  ·exact .inl (List.mem_append_right _ z)
 | two h ih =>
  intro i hi
  rcases List.mem_append.mp hi with z | z
  ·rcases ih i z with y | y
   ·exact .inl y
   ·exact .inr (List.mem_append_left _ y)
  ·exact .inr (List.mem_append_right _ z)
theorem Shuf.len {A B C:List Itm} (h:Shuf A B C):C.length=A.length + B.length:=by
 induction h with
 | nil=>rfl
 | one h ih=>rw [List.length_append,List.length_append,ih,List.length_singleton]; omega
 | two h ih=>rw [List.length_append,List.length_append,ih,List.length_singleton]; omega
theorem Shuf.perm {β:Type} (f:Itm→List β) {A B C:List Itm} (h:Shuf A B C):(C.flatMap f).Perm (A.flatMap f ++ B.flatMap f):=by
 induction h with
 | nil=>exact .refl _
 | @one A B C x h ih =>
  rw [List.flatMap_append,List.flatMap_append,List.flatMap_singleton]
  refine (ih.append_right _).trans ?_
  rw [List.append_assoc,List.append_assoc]
  exact List.Perm.append_left _ List.perm_append_comm
 | @two A B C x h ih =>
  rw [List.flatMap_append,List.flatMap_append,List.flatMap_singleton,← List.append_assoc]
  exact ih.append_right _
theorem Shuf.left {β:Type} (f:Itm→List β) {A B C:List Itm} (h:Shuf A B C) (no:∀ i ∈ B,f i=[]):C.flatMap f=A.flatMap f:=by
 induction h with
 | nil=>rfl
 | one h ih=>rw [List.flatMap_append,List.flatMap_append,ih no]
 | @two A B C x h ih =>
  rw [List.flatMap_append,List.flatMap_singleton,ih fun i hi=>no i (List.mem_append_left _ hi),no x (by simp),List.append_nil]
def xnv:Sp:=fun vs H Q _=>∃ (l m:Addr) (c:Int) (A B:List Itm),vs=[.ref l,.ref m,.int c]∧H l=some (.lst (itV A))∧H m=some (.lst (itV B))∧A.length + B.length≤100∧∀ H' l' (C:List Itm),Same H H'→H l'=none→H' l'=some (.lst (itV C))→Shuf A B C→Q (.ref l') H'
theorem xfr {A:List Itm} {i:Nat} {x:Itm} (h:A[i]?=some x):atI (itV A) (i:Int)=some (.str x.t):=xbs (by unfold itV; rw [List.getElem?_map,h]; rfl)
theorem xb0 (A:List Itm):(itV A).length=A.length:=by unfold itV; rw [List.length_map]
def IWv (H:Hp) (l m ll:Addr) (c:Int) (A B:List Itm) (k:Nat) (σ:L2.St) (H5:Hp):Prop:=∃ (i j:Nat) (v6:Option V) (C:List Itm),i + j=k∧i≤A.length∧j≤B.length∧σ=[some (.ref l),some (.ref m),some (.int c),some (.ref ll),some (.int (i:Int)),some (.int (j:Int)),v6]∧Same H H5∧H5 ll=some (.lst (itV C))∧Shuf (A.take i) (B.take j) C
section
variable {P:Program} {w:World} {K:PySem.W.Frag} {mg:Str→Option Value} {base:Heap} {t:Adr}
theorem ok_v (T:Txt w K mg t):FnOk true P w K mg base (CXo P w) 2 t.f_v t.d_v ["_law_one", "_law_other", "_law_cell_here"] (xnv):=by
 refine T.F_v.okn (k:=1) sc_v (fun vs H Q E h=>?_) (fun cdv A outer s H vs Q E hr h=>?_)
 ·obtain ⟨l,m,c,A,B,rfl,_⟩:=h
  rfl
 ·obtain ⟨l,m,c,A,B,rfl,h⟩:=h
  refine ⟨_,xg (xv (i:=3) sc_v.nd rfl (Or.inl rfl) (xaw (xb)))
   (xg (xv (i:=4) sc_v.nd rfl (Or.inl rfl) (xh))
   (xg (xv (i:=5) sc_v.nd rfl (Or.inl rfl) (xh))
   (xg (xbu PassesOwn.never rfl (xdq rfl T.n_range (xa (xp xag (xab xac rfl T.n_len boot_len (xa (pv 0) (xb))) (xab xac rfl T.n_len boot_len (xa (pv 1) (xb)))) (xb))) (xr (i:=6) sc_v.nd rfl (Or.inl rfl)) (xk (xaf (PW.pt (xbp (xt xbl (pv 5) (xab xac rfl T.n_len boot_len (xa (pv 1) (xb))) (x0 _)) (xba (PW.pt (xek (xt xc5 (pv 4) (xab xac rfl T.n_len boot_len (xa (pv 0) (xb))) (x0 _)) (xe3 (xt xbl (xp xa1 (xq (ok_s T) (hr.mono (by decide)) rfl T.g_s T.F_s.kp T.b_s .nil xn (xa (pv 2) (xa (pv 6) (xb)))) (xh)) (xh) (x0 _)))))))) (xg (xav (xbm PySem.F.plainAttrs_list PySem.F.slot_list_append PySem.F.type_list_append xa7 (pv 3) (xa (xaq xam (pv 0) (pv 4) (fun _ _=>rfl)) (xb))))
   (xk (xv (i:=4) sc_v.nd rfl (Or.inl rfl) (xp xag (pv 4) (xh))))) (xg (xav (xbm PySem.F.plainAttrs_list PySem.F.slot_list_append PySem.F.type_list_append xa7 (pv 3) (xa (xaq xam (pv 1) (pv 5) (fun _ _=>rfl)) (xb))))
   (xk (xv (i:=5) sc_v.nd rfl (Or.inl rfl) (xp xag (pv 5) (xh))))))))
   (xk (x5 (pv 3)))))),?_⟩
  obtain ⟨hl,hm,len,q⟩:=h
  refine ⟨(by show 0≤sizeLine; exact Nat.zero_le _),fun ll hll=>?_⟩
  have s1:Same H (upd H ll (.lst [])):=xo (Same.refl _) hll
  have g1:upd H ll (.lst []) ll=some (.lst []):=xf
  revert s1 g1
  generalize upd H ll (.lst [])=H1
  intro s1 g1
  have fll:=hll
  refine ⟨_,rfl,l,_,rfl,.inl (SqL.of (s1 _ _ hl)),_,rfl,m,_,rfl,.inl (SqL.of (s1 _ _ hm)),_,_,rfl,rfl,(((itV A).length:Int) + ((itV B).length:Int)),rfl,by rw [xb0,xb0]; omega,by rw [xb0,xb0]; omega,?_⟩
  have tn:(((itV A).length:Int) + ((itV B).length:Int)).toNat=A.length + B.length:=by rw [xb0,xb0]; omega
  refine xep (Pv:=IWv H l m ll c A B) ⟨0,0,_,[],rfl,Nat.zero_le _,Nat.zero_le _,rfl,s1,g1,.nil⟩ ?_ ?_
  ·rintro k σ H5 hk ⟨i,j,v6,C,rfl,iA,jB,rfl,s5,h5,sh⟩
   rw [tn] at hk
   have hl5:=s5 _ _ hl
   have hm5:=s5 _ _ hm
   have shl:=sh.len
   have small:(itV C).length < sizeLine:=by
    rw [xb0,shl,List.length_take,List.length_take]
    exact Nat.lt_of_le_of_lt (by omega:_≤1000) (by decide)
   have one:∀ x,A[i]?=some x→IWv H l m ll c A B (i + j + 1) [some (.ref l),some (.ref m),some (.int c),some (.ref ll),some (.int ((i:Int) + 1)),some (.int (j:Int)),some (.int (0 + ((i + j:Nat):Int)))] (upd H5 ll (.lst (itV C ++ [.str x.t]))):=fun x hx=>by
    have lt:=(List.getElem?_eq_some_iff.mp hx).1
    refine ⟨i + 1,j,_,C ++ [x],by omega,lt,jB,rfl,fun c u e=>?_,?_,?_⟩
    ·rw [xj (xm e fll)]
     exact s5 _ _ e
    ·rw [xf,xb3]
     rfl
    ·rw [List.take_succ,hx]
     exact .one sh
   have two:∀ x,B[j]?=some x→IWv H l m ll c A B (i + j + 1) [some (.ref l),some (.ref m),some (.int c),some (.ref ll),some (.int (i:Int)),some (.int ((j:Int) + 1)),some (.int (0 + ((i + j:Nat):Int)))] (upd H5 ll (.lst (itV C ++ [.str x.t]))):=fun x hx=>by
    have lt:=(List.getElem?_eq_some_iff.mp hx).1
    refine ⟨i,j + 1,_,C ++ [x],by omega,iA,lt,rfl,fun c u e=>?_,?_,?_⟩
    ·rw [xj (xm e fll)]
     exact s5 _ _ e
    ·rw [xf,xb3]
     rfl
    ·rw [List.take_succ,hx]
     exact .two sh
   refine ⟨_,rfl,_,rfl,m,_,rfl,.inl (SqL.of hm5),rfl,_,rfl,ite2 (fun c1=>?_) (fun c1=>?_)⟩
   ·have jl:j=B.length:=by
     have:=V.int.inj (of_decide_eq_true c1)
     rw [xb0] at this
     omega
    obtain ⟨x,hx⟩:∃ x,A[i]?=some x:=⟨_,List.getElem?_eq_getElem (by omega)⟩
    exact ⟨_,rfl,.inl ⟨rfl,_,SqL.of h5⟩,_,rfl,_,rfl,l,_,_,.str x.t,rfl,rfl,SqL.of hl5,xfr hx,ll,_,_,rfl,rfl,h5,small,_,rfl,_,_,rfl,rfl,one x hx⟩
   ·have jl:j < B.length:=by
     have:j≠B.length:=fun z=>c1 (decide_eq_true (by rw [xb0,z]))
     omega
    obtain ⟨y,hy⟩:∃ y,B[j]?=some y:=⟨_,List.getElem?_eq_getElem jl⟩
    refine ⟨_,rfl,_,rfl,l,_,rfl,.inl (SqL.of hl5),_,_,rfl,rfl,_,rfl,ite2 (fun c2=>?_) (fun c2=>?_)⟩
    ·have il:i < A.length:=by
      have:=of_decide_eq_true c2
      rw [xb0] at this
      omega
     obtain ⟨x,hx⟩:∃ x,A[i]?=some x:=⟨_,List.getElem?_eq_getElem il⟩
     refine ⟨_,rfl,_,rfl,c,_,rfl,by omega,fun mm=>⟨_,_,rfl,rfl,(by show (0:Int) < 2; decide),rfl,_,rfl,ite2 (fun c3=>?_) (fun c3=>?_)⟩⟩
     ·exact ⟨_,rfl,.inl ⟨rfl,_,SqL.of h5⟩,_,rfl,_,rfl,l,_,_,.str x.t,rfl,rfl,SqL.of hl5,xfr hx,ll,_,_,rfl,rfl,h5,small,_,rfl,_,_,rfl,rfl,one x hx⟩
     ·exact ⟨_,rfl,.inl ⟨rfl,_,SqL.of h5⟩,_,rfl,_,rfl,m,_,_,.str y.t,rfl,rfl,SqL.of hm5,xfr hy,ll,_,_,rfl,rfl,h5,small,_,rfl,_,_,rfl,rfl,two y hy⟩
    ·exact ⟨_,rfl,.inl ⟨rfl,_,SqL.of h5⟩,_,rfl,_,rfl,m,_,_,.str y.t,rfl,rfl,SqL.of hm5,xfr hy,ll,_,_,rfl,rfl,h5,small,_,rfl,_,_,rfl,rfl,two y hy⟩
  ·rintro σ H5 ⟨i,j,v6,C,e,iA,jB,rfl,s5,h5,sh⟩
   rw [tn] at e
   rw [List.take_of_length_le (by omega),List.take_of_length_le (by omega)] at sh
   exact ⟨_,rfl,q H5 ll C s5 fll h5 sh⟩
end
end S25
set_option maxRecDepth 100000
set_option maxHeartbeats 4000000
namespace S25
open PySem L2 XL PyProof.Rows
theorem xnw {h:Nat} {L R:List Nat} (hL:xat L) (hR:xat R) (lL:∀ r ∈ L,r≤h) (lR:∀ r ∈ R,r≤h):SsOk h (lrSs L R):=by
 refine ⟨List.nodup_iff_pairwise_ne.mpr ((xgj hL hR).imp fun {a b} z (e:a=b)=>xen _ _ z (e ▸ z)),?_,fun s hs=>?_⟩
 ·have:=hL.len
  have:=hR.len
  unfold lrSs
  rw [List.length_append,List.length_map,List.length_map]
  omega
 ·rcases List.mem_append.mp hs with z | z
  ·obtain ⟨n,hn,rfl⟩:=List.mem_map.mp z
   have a:=hL.inc.2 n hn
   have b:=lL n hn
   show (1:Int)≤n∧(n:Int)≤h
   omega
  ·obtain ⟨n,hn,rfl⟩:=List.mem_map.mp z
   have a:=hR.inc.2 n hn
   have b:=lR n hn
   show (1:Int)≤n∧(n:Int)≤h
   omega
theorem SsOk.perm {h:Int} {s u:List Seat} (p:s.Perm u) (o:SsOk h u):SsOk h s:=⟨p.nodup_iff.mpr o.1,by rw [p.length_eq]; exact o.2.1,fun x hx=>o.2.2 x (p.mem_iff.mp hx)⟩
def xg9 (K:PySem.W.Frag):Sp:=fun vs H Q _=>∃ (a:Addr) (ns:List Int),vs=[.ref a]∧SqL K H a (ns.map V.int)∧ns.length≤63∧∀ H',Q (.bl true) H'
theorem xm7 (n h:Int) (h1:1≤h) (h2:h≤30):∃ x:Nat,1 + n % h=x∧x < 100∧1≤x∧(x:Int)≤h:=by
 have z:=xcs n (show (0:Int) < h by omega)
 exact ⟨(1 + n % h).toNat,by omega,by omega,by omega,by omega⟩
theorem xh7 {b:Bool} {R:List Nat} (o:xat R):(xar b R).flatMap Itm.ss=R.map fun (n:Nat)=>(b,(n:Int)):=by
 unfold xar
 by_cases c:R=[]
 ·rw [if_pos c,c]
  rfl
 ·rw [if_neg c,List.flatMap_singleton]
  show ((xaz R).flatMap Wd.rs).map _=_
  rw [xft o,List.map_map]
  rfl
theorem xhr (b:Bool) (R:List Nat) (h:Int):(xar b R).flatMap (Itm.ps h)=[]:=by
 unfold xar
 split <;> rfl
theorem xkk {h:Int} {L R:List Nat} {ps:List Pt} (oL:xat L) (oR:xat R):(xch h L R ps).flatMap Itm.ss=lrSs L R:=by
 unfold xch lrSs
 rw [List.flatMap_append,List.flatMap_append,xh7 oL,xh7 oR,List.flatMap_map]
 rw [show (ps.flatMap fun a=>Itm.ss (.pt (pwOf h a)))=[] from List.flatMap_eq_nil_iff.mpr fun _ _=>rfl,List.append_nil]
theorem xln {w h:Int} {L R:List Nat} {ps:List Pt} (ok:∀ p ∈ ps,PtOk w h p):(xch h L R ps).flatMap (Itm.ps h)=ps:=by
 unfold xch
 rw [List.flatMap_append,List.flatMap_append,xhr,xhr,List.flatMap_map]
 show [] ++ [] ++ (ps.flatMap fun a=>[(pwOf h a).pt h])=ps
 rw [List.nil_append,List.nil_append]
 induction ps with
 | nil=>rfl
 | cons p ps ih =>
  rw [List.flatMap_cons,ih fun q hq=>ok q (List.mem_cons_of_mem _ hq),xoy (ok p List.mem_cons_self)]
  rfl
theorem xmo:∀ R:List Nat,Runs.Inc R→R=[]∨∃ m,(∀ r ∈ R,r≤m)∧m ∈ R∧2 * (Runs.runs R).length≤m + 1:=by
 refine Runs.snocRec (fun _=>.inl rfl) fun R x ih inc=>.inr ?_
 obtain ⟨pw,pos⟩:=inc
 rw [List.pairwise_append] at pw
 have x1:1≤x:=pos x (by simp)
 have lt:∀ r ∈ R,r < x:=fun r hr=>pw.2.2 r hr x (by simp)
 have incR:Runs.Inc R:=⟨pw.1,fun r hr=>pos r (List.mem_append_left _ hr)⟩
 refine ⟨x,fun r hr=>?_,by simp,?_⟩
 ·rcases List.mem_append.mp hr with z | z
  ·have:=lt r z; omega
  ·simp at z; omega
 rcases ih incR with rfl | ⟨m',a1,a2,a3⟩
 ·show 2 * 1≤x + 1
  omega
 rcases Runs.main R incR with rfl | ⟨F,L,a,m,o⟩
 ·cases a2
 have em:m'=m:=Nat.le_antisymm (o.mem _ a2) (a1 _ o.last)
 subst em
 have mx:=lt _ a2
 rw [Runs.runs_snoc,o.rn,xew]
 rw [o.rn,List.length_append] at a3
 split
 ·rw [List.length_append]
  simp only [List.length_singleton] at a3 ⊢
  omega
 ·rename_i c
  rw [List.length_append,List.length_append]
  simp only [List.length_singleton] at a3 ⊢
  have:m' + 1≠x:=c
  omega
theorem xpi {R:List Nat} (o:xat R):(xaz R).length≤12:=by
 unfold xaz
 rw [List.length_map]
 rcases xmo R o.inc with rfl | ⟨m,_,a2,a3⟩
 ·exact Nat.zero_le _
 ·have:=o.le m a2
  omega
theorem xqe {w h:Int} {L R:List Nat} {ps:List Pt} (w30:w≤30) (h16:h≤16) (oL:xat L) (oR:xat R) (ok:∀ p ∈ ps,PtOk w h p):∀ i ∈ xch h L R ps,i.Ok:=by
 have rim:∀ b R,xat R→∀ i ∈ xar b R,i.Ok:=fun b R o i hi=>by
  unfold xar at hi
  split at hi
  ·cases hi
  ·rename_i c
   rw [List.mem_singleton.mp hi]
   exact ⟨xhz o c,xea o,xpi o⟩
 intro i hi
 rcases List.mem_append.mp hi with z | z
 ·rcases List.mem_append.mp z with y | y
  ·exact rim _ _ oL i y
  ·exact rim _ _ oR i y
 ·obtain ⟨p,hp,rfl⟩:=List.mem_map.mp z
  exact xnt w30 h16 (ok p hp)
theorem xn7 {h:Int} {L R:List Nat} {ps:List Pt} (l:ps.length≤12):(xch h L R ps).length≤14:=by
 have r1:=xb2 true L
 have r2:=xb2 false R
 unfold xch
 rw [List.length_append,List.length_append,List.length_map]
 omega
theorem Pic.np {t:Adr} {H H':Hp} {a dp do_:Addr} {w h:Int} {ps:List Pt} (s:Np H H') (p:Pic t H a dp do_ w h ps):Pic t H' a dp do_ w h ps :=
 ⟨let ⟨d,e⟩:=p.ins; ⟨d,s _ _ (fun xs z=>nomatch z) e⟩,let ⟨k,e,q⟩:=p.pl; ⟨k,s _ _ (fun xs z=>nomatch z) e,q.keep fun b xs e=>s _ _ (fun xs z=>nomatch z) e⟩,p.w1,p.w2,p.h1,p.h2,p.len⟩
theorem Sts.np {H H':Hp} {d:Addr} {ss:List Seat} (s:Np H H') (p:Sts H d ss):Sts H' d ss:=let ⟨k,e,r⟩:=p; ⟨k,s _ _ (fun xs z=>nomatch z) e,r⟩
theorem xl3 (u v:V):xd4 [] [((.inr "left":Key),u),((.inr "right":Key),v)]=[((.inr "left":Key),u),((.inr "right":Key),v)]:=by
 show putK (putK [] (.inr "left":Key) u) (.inr "right":Key) v=_
 rw [xda u rfl]
 rw [xda v (by
  show valV ([] ++ [((.inr "left":Key),u)]) (.inr "right")=none
  rw [List.nil_append,xck (by intro y; exact absurd (Sum.inr.inj y) (by decide +kernel))]
  rfl)]
 rfl
def rimL (lns:List Ln):List Itm:=lns.map .rim
theorem xkq (lns:List Ln):itV (rimL lns)=lnV lns:=by unfold itV rimL lnV; rw [List.map_map]; rfl
theorem xgf {b:Bool}:∀ {lns:List Ln},(∀ n ∈ lns,n.b=b)→(rimL lns).flatMap Itm.ss=((lns.flatMap Ln.ws).flatMap Wd.rs).map fun i=>(b,i)
 | [],_=>rfl
 | n :: lns,h=>by
  have ih:=xgf (lns:=lns) fun m hm=>h m (List.mem_cons_of_mem _ hm)
  have hb:=h n List.mem_cons_self
  show n.ss ++ (rimL lns).flatMap Itm.ss=_
  rw [ih,List.flatMap_cons,List.flatMap_append,List.map_append]
  unfold Ln.ss
  rw [hb]
def ptL (pws:List Pw):List Itm:=pws.map .pt
theorem xo8 (pws:List Pw):(ptL pws).flatMap Itm.ss=[]:=by
 unfold ptL
 rw [List.flatMap_map]
 exact List.flatMap_eq_nil_iff.mpr fun _ _=>rfl
theorem xo9 (h:Int) (pws:List Pw):(ptL pws).flatMap (Itm.ps h)=pws.map (Pw.pt h):=by
 unfold ptL
 rw [List.flatMap_map]
 induction pws with
 | nil=>rfl
 | cons p ps ih =>
  rw [List.flatMap_cons,ih]
  rfl
theorem xhe {h:Int}:∀ {ds:List Pt} {ys:List V},ys.length=ds.length→(∀ (i:Nat) (y:V),ys[i]?=some y→∃ p:Pw,p.Ok∧ds[i]?=some (p.pt h)∧y=.str p.t)→∃ pws:List Pw,ys=itV (ptL pws)∧(∀ p ∈ pws,p.Ok)∧pws.map (Pw.pt h)=ds
 | [],[],_,_=>⟨[],rfl,fun p hp=>(nomatch hp),rfl⟩
 | [],_ :: _,e,_=>by cases e
 | _ :: _,[],e,_=>by cases e
 | d :: ds,y :: ys,e,f=>by
  obtain ⟨p,o,ed,ey⟩:=f 0 y rfl
  obtain ⟨pws,e1,e2,e3⟩:=xhe (ds:=ds) (ys:=ys) (by simpa using e) fun i y hy=>f (i + 1) y hy
  refine ⟨p :: pws,by rw [e1,ey]; rfl,fun q hq=>?_,?_⟩
  ·rcases List.mem_cons.mp hq with rfl | hq
   ·exact o
   ·exact e2 q hq
  ·rw [List.map_cons,e3]
   congr 1
   exact (Option.some.inj ed).symm
theorem xkx {K:PySem.W.Frag} {H:Hp} {l:Addr} {w h:Nat} {its:List Itm} (e:H l=some (.lst (.str (frT w h) :: itV its))):Dv K H 1 (.ref l) (.lst ((frT w h :: its.map Itm.t).map DV.str)):=xga (by
 rw [e]
 unfold itV
 rw [List.map_cons,List.map_map]
 rfl)
section
variable {P:Program} {w:World} {K:PySem.W.Frag} {mg:Str→Option Value} {base:Heap} {t:Adr}
theorem xpq (T:Txt w K mg t):FnOk true P w K mg base (CXo P w) 8 t.f_law t.d_law ["_law_script"] (xg9 K):=by
 refine T.F_law.okn (k:=7) xby (fun vs H Q E h=>?_) (fun cdv A outer s H vs Q E hr h=>?_)
 ·obtain ⟨sc,ns,rfl,_⟩:=h
  rfl
 ·obtain ⟨sc,ns,rfl,h⟩:=h
  refine ⟨_,xg (xv (i:=1) xby.nd rfl (Or.inl rfl) (xp xag (xh) (xp xa1 (xq (ok_j T) (hr.mono (by decide)) rfl T.g_j T.F_j.kp T.b_j .nil xn (xa (pv 0) (xa (xh) (xb)))) (xh))))
   (xg (xv (i:=2) xby.nd rfl (Or.inr rfl) (xp xag (xh) (xp xa1 (xq (ok_j T) (hr.mono (by decide)) rfl T.g_j T.F_j.kp T.b_j .nil xn (xa (pv 0) (xa (xh) (xb)))) (xh))))
   (xg (xv (i:=3) xby.nd rfl (Or.inl rfl) (xou (xhw (xw) (xq (ok_ae T) (hr.mono (by decide)) rfl T.g_ae T.F_ae.kp T.b_ae .nil xn (xa (xq (ok_j T) (hr.mono (by decide)) rfl T.g_j T.F_j.kp T.b_j .nil xn (xa (pv 0) (xa (xh) (xb)))) (xa (pv 2) (xb)))) (xhw (xw) (xq (ok_ae T) (hr.mono (by decide)) rfl T.g_ae T.F_ae.kp T.b_ae .nil xn (xa (xq (ok_j T) (hr.mono (by decide)) rfl T.g_j T.F_j.kp T.b_j .nil xn (xa (pv 0) (xa (xh) (xb)))) (xa (pv 2) (xb)))) (xnr))) rfl rfl (by simp) (by decide)))
   (xg (xv (i:=4) xby.nd rfl (Or.inr rfl) (xq (ok_z T) (hr.mono (by decide)) rfl T.g_z T.F_z.kp T.b_z .nil xn (xa (pv 0) (xa (xh) (xa (pv 1) (xa (pv 2) (xb)))))))
   (xg (xv (i:=5) xby.nd rfl (Or.inl rfl) (xq (ok_j T) (hr.mono (by decide)) rfl T.g_j T.F_j.kp T.b_j .nil xn (xa (pv 0) (xa (xh) (xb)))))
   (xg (xv (i:=6) xby.nd rfl (Or.inl rfl) (xq (ok_g T) (hr.mono (by decide)) rfl T.g_g T.F_g.kp T.b_g .nil xn (xa (xw) (xa (xq (ok_m T) (hr.mono (by decide)) rfl T.g_m T.F_m.kp T.b_m .nil xn (xa (xc7 (xcu hr) (pv 3) (xw) (fun _ _=>rfl)) (xa (pv 5) (xb)))) (xa (pv 5) (xb))))))
   (xg (xv (i:=7) xby.nd rfl (Or.inl rfl) (xq (ok_g T) (hr.mono (by decide)) rfl T.g_g T.F_g.kp T.b_g .nil xn (xa (xw) (xa (xq (ok_m T) (hr.mono (by decide)) rfl T.g_m T.F_m.kp T.b_m .nil xn (xa (xc7 (xcu hr) (pv 3) (xw) (fun _ _=>rfl)) (xa (xp xag (pv 5) (xh)) (xb)))) (xa (xp xag (pv 5) (xh)) (xb))))))
   (xg (xcb rfl (xbe (zs:=["_law_k"]) (ys:=["_law_height", "_law_dots_here", "_law_script"]) (fr:=[2,4,0]) (N0:=["_law_script", "_law_width", "_law_height", "_law_rims", "_law_dots_here", "_law_cell_here", "_law_left", "_law_right", "_law_told", "_law_lines_here", "_law_handed", "_law_picture", "_law_due"]) (sc0:=xi xdk) (by decide +kernel) rfl rfl rfl) (xdq rfl T.n_range (xa (xab xac rfl T.n_len boot_len (xa (pv 4) (xb))) (xb))) (fun _ _ _ _ _ ow nd=>xr (i:=0) nd rfl (Or.inl (ow _ (by simp))) (Or.inr (ow _ (by simp)))) (xbo (by decide)) (fun _ _ _ _ _=>xce) (fun _ _ _ _ _=>xq (ok_i T) (hr.mono (by decide)) rfl T.g_i T.F_i.kp T.b_i .nil xn (xa (xaq (r:=rIxL K) xam (pv 2) (pv 0) (fun _ _=>rfl)) (xa (pv 1) (xa (xq (ok_s T) (hr.mono (by decide)) rfl T.g_s T.F_s.kp T.b_s .nil xn (xa (xq (ok_j T) (hr.mono (by decide)) rfl T.g_j T.F_j.kp T.b_j .nil xn (xa (pv 3) (xa (xh) (xb)))) (xa (pv 0) (xb)))) (xb))))) (j:=8) rfl (Or.inl rfl))
   (xg (xv (i:=9) xby.nd rfl (Or.inl rfl) (xq (ok_v T) (hr.mono (by decide)) rfl T.g_v T.F_v.kp T.b_v .nil xn (xa (pv 8) (xa (xq (ok_v T) (hr.mono (by decide)) rfl T.g_v T.F_v.kp T.b_v .nil xn (xa (pv 6) (xa (pv 7) (xa (pv 5) (xb))))) (xa (xq (ok_j T) (hr.mono (by decide)) rfl T.g_j T.F_j.kp T.b_j .nil xn (xa (pv 0) (xa (xh) (xb)))) (xb))))))
   (xg (xv (i:=9) xby.nd rfl (Or.inl rfl) (xp xc2 (xaw (xa (xp xz (xp xz (xp xz (xw) (xad xai rfl T.n_str boot_str (xa (pv 1) (xb)))) (xw)) (xad xai rfl T.n_str boot_str (xa (pv 2) (xb)))) (xb))) (pv 9)))
   (xg (xv (i:=10) xby.nd rfl (Or.inl rfl) (xad xeq rfl T.n_list boot_list (xa (pv 9) (xb))))
   (xg (xv (i:=11) xby.nd rfl (Or.inl rfl) (xq (ok_p T) (hr.mono (by decide)) rfl T.g_p T.F_p.kp T.b_p .nil xn (xa (pv 10) (xb))))
   (xg (xaf (xt (xc1 (xbr hr)) (pv 10) (pv 9) (x0 _)) (xk (x5 (xe2))) (xaa))
   (xg (xav (xpy PySem.F.plainAttrs_list PySem.F.slot_list_clear PySem.F.type_list_clear xlz (pv 10)))
   (xg (xv (i:=12) xby.nd rfl (Or.inl rfl) (xq (ok_u T) (hr.mono (by decide)) rfl T.g_u T.F_u.kp T.b_u .nil xn (xa (pv 1) (xa (pv 2) (xa (pv 3) (xa (pv 4) (xb)))))))
   (xg (xaf (PW.pt (xbp (xbc (xbd (xq (ok_ah T) (hr.mono (by decide)) rfl T.g_ah T.F_ah.kp T.b_ah .nil xn (xa (pv 11) (xa (pv 1) (xa (pv 2) (xa (pv 3) (xa (pv 4) (xb))))))))) (xba (xbc (xbd (xq (ok_ab T) (hr.mono (by decide)) rfl T.g_ab T.F_ab.kp T.b_ab .nil xn (xa (xq (ok_ac T) (hr.mono (by decide)) rfl T.g_ac T.F_ac.kp T.b_ac .nil xn (xa (pv 11) (xb))) (xa (pv 12) (xb))))))))) (xk (x5 (xe2))) (xaa))
   (xk (x5 (xq (ok_ah T) (hr.mono (by decide)) rfl T.g_ah T.F_ah.kp T.b_ah .nil xn (xa (xq (ok_p T) (hr.mono (by decide)) rfl T.g_p T.F_p.kp T.b_p .nil xn (xa (xq (ok_ac T) (hr.mono (by decide)) rfl T.g_ac T.F_ac.kp T.b_ac .nil xn (xa (pv 11) (xb))) (xb))) (xa (pv 1) (xa (pv 2) (xa (pv 3) (xa (pv 4) (xb)))))))))))))))))))))))),?_⟩
  obtain ⟨hs,nl,q⟩:=h
  refine ⟨_,rfl,sc,ns,0,rfl,hs,by decide,by decide,fun c0=>⟨_,_,rfl,rfl,(by show (0:Int) < 30; decide),_,_,rfl,rfl,?_⟩⟩
  obtain ⟨w1,ew,w100,w11,w12⟩:=xm7 c0 30 (by decide) (by decide)
  simp only [ew]
  refine ⟨_,rfl,sc,ns,1,rfl,hs,by decide,by decide,fun c1=>⟨_,_,rfl,rfl,(by show (0:Int) < 16; decide),_,_,rfl,rfl,?_⟩⟩
  obtain ⟨h1,eh,h100,h11,h12⟩:=xm7 c1 16 (by decide) (by decide)
  simp only [eh]
  have w30:w1≤30:=by omega
  have h16:h1≤16:=by omega
  refine fun d hd=>?_
  have s1:Same H (upd H d (.dK [])):=xo (Same.refl _) hd
  have g1:upd H d (.dK []) d=some (.dK []):=xf
  revert s1 g1
  generalize upd H d (.dK [])=H1
  intro s1 g1
  refine ⟨_,rfl,sc,ns,2,rfl,Same.seqL s1 hs,by decide,by decide,fun c2=>⟨_,rfl,c2,h1,rfl,h16,fun L H2 lL okL leL s2 fl2 hl2=>?_⟩⟩
  refine ⟨_,rfl,sc,ns,3,rfl,Same.seqL (s1.trans s2) hs,by decide,by decide,fun c3=>⟨_,rfl,c3,h1,rfl,h16,fun R H3 lR okR leR s3 fl3 hl3=>?_⟩⟩
  have s13:=s2.trans s3
  have hd3:=s13 _ _ g1
  refine ⟨hd3,[(.inr "left",.ref lL),(.inr "right",.ref lR)],rfl,by show 2≤15; decide,?_⟩
  rw [xl3]
  have fd:=hd
  have rd:RimD (upd H3 d (.dK [(.inr "left",.ref lL),(.inr "right",.ref lR)])) d L R:=⟨⟨lL,lR,xf,by rw [xj (xbk (s3 _ _ hl2) hd3 (fun z=>nomatch z))]; exact s3 _ _ hl2,by rw [xj (xbk hl3 hd3 (fun z=>nomatch z))]; exact hl3⟩,okL,okR⟩
  have s4:Same H (upd H3 d (.dK [(.inr "left",.ref lL),(.inr "right",.ref lR)])):=fun c u e=>by
   rw [xj (xm e fd)]
   exact s13 _ _ (s1 _ _ e)
  revert rd s4
  generalize upd H3 d (.dK [(.inr "left",.ref lL),(.inr "right",.ref lR)])=H4
  intro rd s4
  refine ⟨_,rfl,_,rfl,_,rfl,sc,ns,w1,h1,rfl,Same.seqL s4 hs,by decide,⟨w11,w30⟩,⟨h11,h16⟩,fun H5 l ds qs s5 hl pts pok=>?_⟩
  have rd5:=rd.same s5
  have s05:=s4.trans s5
  have plen:=pok.le
  refine ⟨_,rfl,sc,ns,4,rfl,Same.seqL s05 hs,by decide,by decide,fun c4=>?_⟩
  obtain ⟨lL1,dL1,hL1⟩:=rd5.get true
  refine ⟨_,rfl,d,.ref lL1,rfl,dL1,_,rfl,lL1,c4,L,rfl,hL1,okL,fun H6 l6 wsL s6 fl6 hl6 wokL wpL wlL=>?_⟩
  refine ⟨_,rfl,true,l6,c4,wsL,rfl,hl6,wokL,wlL,fun H7 l7 lnL s7 fl7 hl7 lokL lflL llL=>?_⟩
  have s57:=s6.trans s7
  obtain ⟨lR1,dR1,hR1⟩:=(rd5.same s57).get false
  refine ⟨_,rfl,d,.ref lR1,rfl,dR1,_,rfl,_,_,rfl,rfl,lR1,_,R,rfl,hR1,okR,fun H8 l8 wsR s8 fl8 hl8 wokR wpR wlR=>?_⟩
  refine ⟨_,rfl,_,_,rfl,rfl,false,l8,_,wsR,rfl,hl8,wokR,wlR,fun H9 l9 lnR s9 fl9 hl9 lokR lflR llR=>?_⟩
  have s79:=s8.trans s9
  have s59:=s57.trans s79
  have s09:=s05.trans s59
  have hl59:=s59 _ _ hl
  have pts9:=pts.keep (Same.tups s59)
  refine ⟨_,rfl,l,_,rfl,.inl (SqL.of hl59),_,rfl,by rw [List.length_map,pts.len]; omega,by rw [List.length_map,pts.len]; omega,fun lt hlt=>?_⟩
  have qn:(((qs.map V.ref).length:Nat):Int).toNat=ds.length:=by rw [List.length_map,pts.len,Int.toNat_natCast]
  refine xjl (m:=(((qs.map V.ref).length:Nat):Int).toNat) (by rw [qn]; exact Nat.lt_of_le_of_lt plen (by decide)) hlt (fun i y _=>∃ p:Pw,p.Ok∧ds[i]?=some (p.pt h1)∧y=.str p.t) (fun _ _ _ _ _ z=>z) (fun i HA hi sA N hN=>?_) (fun ysA HA sA elA lyA fA=>?_)
  ·rw [qn] at hi
   obtain ⟨p,hp⟩:∃ p,ds[i]?=some p:=⟨_,List.getElem?_eq_getElem hi⟩
   obtain ⟨u,hu⟩:∃ u,qs[i]?=some u:=⟨_,List.getElem?_eq_getElem (by rw [pts.len]; exact hi)⟩
   obtain ⟨p',hp',ep⟩:=pts9.get hu
   rw [hp] at hp'
   cases hp'
   refine ⟨_,rfl,_,rfl,l,_,_,.ref u,rfl,rfl,SqL.of (sA _ _ hl59),?_,_,rfl,_,rfl,sc,ns,5,rfl,Same.seqL (s09.trans sA) hs,by decide,by decide,fun c5=>⟨_,rfl,c5,_,rfl,by omega,fun mm=>?_⟩⟩
   ·rw [show (0:Int) + (i:Int)=((i:Nat):Int) by omega]
    exact xbs (by rw [List.getElem?_map,hu]; rfl)
   exact ⟨u,w1,h1,mm,p,rfl,sA _ _ ep,pok.ok p (List.mem_of_getElem? hp),w30,h16,fun dd HB sB dok dpt=>hN _ _ sB ⟨dd,dok,by rw [hp,dpt],rfl⟩⟩
  rw [qn] at lyA
  obtain ⟨pws,rfl,pwok,pwpt⟩:=xhe lyA fA
  have pwl:pws.length≤12:=by
   have:=congrArg List.length pwpt
   rw [List.length_map] at this
   omega
  have hL7:HA l7=some (.lst (itV (rimL lnL))):=by rw [xkq]; exact sA _ _ (s79 _ _ hl7)
  have hR9:HA l9=some (.lst (itV (rimL lnR))):=by rw [xkq]; exact sA _ _ hl9
  have rLl:(rimL lnL).length=lnL.length:=by unfold rimL; rw [List.length_map]
  have rRl:(rimL lnR).length=lnR.length:=by unfold rimL; rw [List.length_map]
  have pTl:(ptL pws).length=pws.length:=by unfold ptL; rw [List.length_map]
  refine ⟨_,rfl,_,rfl,_,rfl,_,rfl,l7,l9,c4,rimL lnL,rimL lnR,rfl,hL7,hR9,by omega,fun HB lB CB sB flB hlB shB=>?_⟩
  have shBl:=shB.len
  refine ⟨_,rfl,sc,ns,6,rfl,Same.seqL ((s09.trans sA).trans sB) hs,by decide,by decide,fun c6=>?_⟩
  refine ⟨lt,lB,c6,ptL pws,CB,rfl,sB _ _ elA,hlB,by omega,fun HC lC CC sC flC hlC shC=>?_⟩
  have shCl:=shC.len
  have s0C:=((s09.trans sA).trans sB).trans sC
  have wl:=xao w100
  have hl':=xao h100
  have e6:(Str.ofString "frame ").length=6:=by decide +kernel
  have e1:(Str.ofString " ").length=1:=by decide +kernel
  refine ⟨_,rfl,(w1:Int),rfl,xal w100,_,numT w1,rfl,rfl,?_,_,_,rfl,rfl,?_,_,rfl,(h1:Int),rfl,xal h100,_,numT h1,rfl,rfl,?_,(by show 1≤sizeLine; decide),fun l0 hl0=>?_⟩
  ·rw [e6]
   exact Nat.le_trans (by omega:_≤1000) (by decide)
  ·rw [xah,e6,e1]
   exact Nat.le_trans (by omega:_≤1000) (by decide)
  ·rw [xah,xah,e6,e1]
   exact Nat.le_trans (by omega:_≤1000) (by decide)
  rw [xhy]
  have sD:Same HC (upd HC l0 (.lst [.str (frT w1 h1)])):=xo (Same.refl _) hl0
  have gD:upd HC l0 (.lst [.str (frT w1 h1)]) l0=some (.lst [.str (frT w1 h1)]):=xf
  revert sD gD
  generalize upd HC l0 (.lst [.str (frT w1 h1)])=HD
  intro sD gD
  refine ⟨_,rfl,l0,lC,_,_,rfl,rfl,gD,sD _ _ hlC,?_,fun lE hlE=>?_⟩
  ·rw [xb0]
   exact Nat.le_trans (by show 1 + _≤1000; omega) (by decide)
  rw [show ([V.str (frT w1 h1)] ++ itV CC)=V.str (frT w1 h1) :: itV CC from rfl]
  have sE:Same HD (upd HD lE (.lst (V.str (frT w1 h1) :: itV CC))):=xo (Same.refl _) hlE
  have gE:upd HD lE (.lst (V.str (frT w1 h1) :: itV CC)) lE=some (.lst (V.str (frT w1 h1) :: itV CC)):=xf
  revert sE gE
  generalize upd HD lE (.lst (V.str (frT w1 h1) :: itV CC))=HE
  intro sE gE
  refine ⟨_,rfl,lE,_,rfl,.inl (SqL.of gE),fun lF hlF=>?_⟩
  have sF:Same HE (upd HE lF (.lst (V.str (frT w1 h1) :: itV CC))):=xo (Same.refl _) hlF
  have gF:upd HE lF (.lst (V.str (frT w1 h1) :: itV CC)) lF=some (.lst (V.str (frT w1 h1) :: itV CC)):=xf
  revert sF gF
  generalize upd HE lF (.lst (V.str (frT w1 h1) :: itV CC))=HF
  intro sF gF
  have s0E:=(s0C.trans sD).trans sE
  have okC:∀ i ∈ CC,i.Ok:=fun i hi=>by
   rcases shC.mem i hi with z | z
   ·obtain ⟨p,hp,rfl⟩:=List.mem_map.mp z
    exact pwok p hp
   ·rcases shB.mem i z with y | y
    ·obtain ⟨n,hn,rfl⟩:=List.mem_map.mp y
     exact (lokL n hn).1
    ·obtain ⟨n,hn,rfl⟩:=List.mem_map.mp y
     exact (lokR n hn).1
  have noP:∀ i ∈ CB,Itm.ps h1 i=[]:=fun i hi=>by
   rcases shB.mem i hi with y | y
   ·obtain ⟨n,hn,rfl⟩:=List.mem_map.mp y
    rfl
   ·obtain ⟨n,hn,rfl⟩:=List.mem_map.mp y
    rfl
  have ePs:CC.flatMap (Itm.ps h1)=ds:=by rw [shC.left _ noP,xo9,pwpt]
  have pSs:(CC.flatMap Itm.ss).Perm (lrSs L R):=by
   refine (shC.perm Itm.ss).trans ?_
   rw [xo8,List.nil_append]
   refine (shB.perm Itm.ss).trans ?_
   rw [xgf fun n hn=>(lokL n hn).2,xgf fun n hn=>(lokR n hn).2,lflL,lflR]
   unfold lrSs
   have mm:∀ (b:Bool) (Z:List Nat),(Z.map fun (n:Nat)=>(b,(n:Int)))=(Z.map fun (n:Nat)=>(n:Int)).map fun i=>(b,i):=fun b Z=>by rw [List.map_map]; rfl
   rw [mm,mm]
   exact (wpL.map _).append (wpR.map _)
  have sok:=xnw okL okR leL leR
  refine ⟨_,rfl,lF,w1,h1,CC,rfl,gF,⟨w11,w30⟩,⟨h11,h16⟩,okC,by omega,SsOk.perm pSs sok,by rw [ePs]; exact pok,fun HG a dp do_ sG fa fdo fdp picG stsG=>?_⟩
  rw [ePs] at picG
  have gE':=sG _ _ (sF _ _ gE)
  have gF':=sG _ _ gF
  refine ⟨_,rfl,_,rfl,1,1,_,_,xkx gF',xkx gE',by decide,by decide,_,rfl,ifN (by rw [xb6]; rfl) ?_⟩
  refine ⟨_,rfl,.inl ⟨rfl,_,SqL.of gF'⟩,lF,_,rfl,rfl,gF',?_⟩
  have np:Np HG (upd HG lF (.lst [])):=xp0 gF'
  have kB:∀ c u,HE c=some u→upd HG lF (.lst []) c=some u:=fun c u e=>by
   rw [xj (xm e hlF)]
   exact sG _ _ (sF _ _ e)
  have picB:=Pic.np np picG
  have stsB:=Sts.np np stsG
  revert np kB picB stsB
  generalize upd HG lF (.lst [])=HI
  intro np kB picB stsB
  have sI:Same HE HI:=kB
  have sEI:=((((s59.trans sA).trans sB).trans sC).trans sD).trans (sE.trans sI)
  have rdI:=rd5.same sEI
  have hlI:=sEI _ _ hl
  have ptsI:=pts.keep (Same.tups sEI)
  refine ⟨_,rfl,_,rfl,_,rfl,_,rfl,w1,h1,d,l,L,R,ds,qs,rfl,⟨w11,w30⟩,⟨h11,h16⟩,rdI,hlI,ptsI,pok.ok,pok.le,fun HJ ld sJ fld hld=>?_⟩
  have i14:=xn7 (h:=(h1:Int)) (L:=L) (R:=R) pok.le
  have tl:(linT w1 h1 L R ds).length≤1000:=by
   unfold linT
   rw [List.length_cons,List.length_map]
   omega
  refine ⟨_,rfl,_,rfl,_,rfl,_,rfl,_,rfl,a,dp,do_,d,l,w1,h1,ds,_,L,R,qs,rfl,Pic.same sJ picB,stsB.same sJ,pSs,rdI.same sJ,sJ _ _ hlI,ptsI.keep (Same.tups sJ),fun HK sK=>⟨true,rfl,ifN (by decide) ?_⟩⟩
  have sJK:=sJ.trans sK
  refine ⟨_,rfl,a,dp,do_,w1,h1,ds,_,L,R,rfl,Pic.same sJK picB,stsB.same sJK,pSs,okL,okR,pok.ok,fun HL le sL fle hle=>?_⟩
  have hle':=hle
  rw [← xkv] at hle'
  refine ⟨_,rfl,le,ld,linT w1 h1 L R ds,rfl,hle',sL _ _ (sK _ _ hld),tl,fun HM sM=>⟨true,rfl,ifN (by decide) ?_⟩⟩
  have sJM:=(sJK.trans sL).trans sM
  refine ⟨_,rfl,a,dp,do_,w1,h1,ds,_,L,R,rfl,Pic.same sJM picB,stsB.same sJM,pSs,okL,okR,pok.ok,fun HN lg sN flg hlg=>?_⟩
  refine ⟨lg,w1,h1,xch h1 L R ds,rfl,hlg,⟨w11,w30⟩,⟨h11,h16⟩,xqe (w:=(w1:Int)) (by omega) (by omega) okL okR pok.ok,by omega,by rw [xkk okL okR]; exact sok,by rw [xln pok.ok]; exact pok,fun HO a2 dp2 do2 sO _ _ _ picO stsO=>?_⟩
  rw [xln pok.ok] at picO
  rw [xkk okL okR] at stsO
  have sJO:=(sJM.trans sN).trans sO
  exact ⟨_,rfl,_,rfl,_,rfl,_,rfl,a2,dp2,do2,d,l,w1,h1,ds,_,L,R,qs,rfl,picO,stsO,.refl _,rdI.same sJO,sJO _ _ hlI,ptsI.keep (Same.tups sJO),fun HP sP=>q _⟩
end
end S25
namespace PySem.W.Fast
def tw12251089944048835861:=0
def tw1371065119137437632:=0
def tw17850735434529440761:=0
def tw9403425896293291981:=0
def tw10903437477263507730:=0
def tw3452221914259679634:=0
def tw4326203630992775357:=0
def tw1149789117434349826:=0
def tw9120307317509692081:=0
def tw5393522940594861313:=0
def tw16072698566365878795:=0
def tw1679537023153003382:=0
def tw6164457609031358208:=0
def tw11353674684708493535:=0
def tw11811875606176746024:=0
def tw9594908640887934069:=0
def tw1494716037118658368:=0
def tw3894499738446349484:=0
def tw11158403714112559334:=0
def tw3120262324277652932:=0
def tw12274597884532369745:=0
def tw13512225918962465234:=0
def tw16929842209705065259:=0
def tw12523551512066004755:=0
def tw15626994087062037822:=0
def tw5172138884071059913:=0
def tw15129425361810719785:=0
def tw8951195748715290634:=0
def tw15949725811239926093:=0
def tw15552388180004297610:=0
def tw2857775492603570336:=0
def tw12263758802318547595:=0
def tw12869341454466326157:=0
def tw5691707931843958409:=0
def tw13447077159444707483:=0
def tw7295713278805985229:=0
def tw6386015945744752292:=0
def tw8209035005521681364:=0
def tw11141089003915508452:=0
def tw4952777652758599531:=0
def tw1465911653967829483:=0
def tw16043742887918545210:=0
def tw2472693394934625830:=0
def tw14889231533388025701:=0
def tw11619536855719452991:=0
def tw8856656175454042858:=0
def tw13902761630017161540:=0
def tw13697786226694366547:=0
def tw17240767353681873716:=0
def tw12109349836959881924:=0
def tw294120697236114919:=0
def tw12158017785999276006:=0
def tw3153894338971587796:=0
def tw6090193528678289311:=0
def tw10598020545636297794:=0
def tw13393626126321717502:=0
def tw1408796394174698199:=0
def tw6052473250548120856:=0
def tw7755876512036343618:=0
def tw6050415541500146765:=0
def tw15054138462133773456:=0
def tw5367100384167554950:=0
def tw10513582769268513576:=0
def tw7152241341048202011:=0
def tw17177873822909137728:=0
def tw13326279986351846582:=0
def tw8923544193232120831:=0
def tw10216021047983130803:=0
def tw8473715655224940868:=0
def tw14885024278174889699:=0
def tw7106666173213162438:=0
def tw18393352765316111413:=0
def tw11915824789832115880:=0
def tw6577315086278937490:=0
def tw16800912696125692065:=0
def tw10590800911393783755:=0
def tw17024668128061731023:=0
def tw16054974769481998246:=0
def tw10119200331792803953:=0
def tw17972618314977637136:=0
def tw3045274681519206520:=0
def tw10781528540945921788:=0
def tw11594756020354175222:=0
def tw8987951005149153001:=0
def tw13356764039070063933:=0
def tw16966029494989971330:=0
def tw7130660934780893949:=0
def tw18232476563740934086:=0
def tw13702089815890368037:=0
def tw11546438616338307881:=0
def tw16621038495300395916:=0
def tw17707112618851664797:=0
def tw18358624419300947965:=0
def tw2327210066856109732:=0
def tw13032382296735057535:=0
def tw10102661983220835122:=0
def tw8442197864983988642:=0
def tw8652331647930670211:=0
def tw18438312968986318160:=0
def tw6070302914666840871:=0
def tw7931045069716472783:=0
def tw13713036824472940854:=0
def tw8764705285873821406:=0
def tw2746818313197908196:=0
def tw10897050013448943626:=0
def tw12840542127298779207:=0
def tw3111541158931366589:=0
def tw9613718959696633920:=0
def tw15656870287722557734:=0
def tw14392995632466761805:=0
def tw17470823985624884555:=0
def tw6386879864435788122:=0
def tw1574035966936533300:=0
def tw2070407433037529764:=0
def tw11423308272506741351:=0
def tw15131673482893751304:=0
def tw12071114598486692167:=0
def tw16462690327305175618:=0
def tw18075017442595884377:=0
def tw14959561279431630205:=0
def tw10103532555361824877:=0
def tw1048656607660252604:=0
def tw1519975608990207023:=0
def tw17124527778595355196:=0
def tw624907031964431305:=0
def tw11976931915545052498:=0
def tw8725848132107981056:=0
def tw470637798228524772:=0
def tw15614997681492348353:=0
def tw888508089891721167:=0
def tw16998069289289764713:=0
def tw16073800698336115268:=0
def tw17090950208628251174:=0
def tw5475497863149249116:=0
def tw16143740653449823587:=0
def tw13496679872401665910:=0
def tw14236996176292316593:=0
def tw18348677010581788562:=0
def tw17188521912599432980:=0
def tw4062564122652335750:=0
def tw10637601647444079369:=0
def tw2197153644642557567:=0
def tw15789537511345351153:=0
def tw6649259213729056200:=0
def tw14742446874495361085:=0
def tw15159862062504838704:=0
def tw8552155973406606251:=0
def tw17577340247080754235:=0
def tw13708363860053854550:=0
def tw10499749428013448345:=0
def tw3533310264150458898:=0
def tw13114124901015485439:=0
def tw15565235431812789326:=0
def tw1660848375266886347:=0
def tw13962886580974460245:=0
def tw16484342025243341831:=0
def tw17976537209927628722:=0
def tw8124712830192833193:=0
def tw10246558810302309597:=0
def tw12061868249640377281:=0
def tw561360739794544567:=0
def tw12501389647418423029:=0
def tw8474777992102647386:=0
def tw7059565371573183553:=0
def tw11784179440729460157:=0
def tw11608850118703715669:=0
def tw10656226321551112158:=0
def tw11584636667597218922:=0
def tw2832626875355443950:=0
def tw10473078285930472366:=0
def tw6343762726284696422:=0
def tw17127277677025745995:=0
def tw4116574791707917060:=0
def tw4020097948217189003:=0
def tw2245436741599640246:=0
def tw16133749745930631095:=0
def tw16750197513924099246:=0
def tw16705435287132326477:=0
def tw16858927677571508229:=0
def tw12150058616649934455:=0
def tw10288962937081654644:=0
def tw8445224730879928452:=0
def tw10552054711409088744:=0
def tw5357096013130692763:=0
def tw5712423281413971461:=0
def tw3841077182749622067:=0
def tw6199922582811192980:=0
def tw17759882428280607846:=0
def tw11849040501898094986:=0
def tw5922300171611448168:=0
def tw5867833287300202051:=0
def tw18050691040141162255:=0
def tw11630198659057113206:=0
def tw4517098991340436422:=0
def tw11616453884987186603:=0
def tw8113155693967981420:=0
def tw10259860080639899937:=0
def tw3412366260417491058:=0
def tw14375609548554505547:=0
def tw17318876614511122643:=0
def tw1523375922036393905:=0
def tw8586807288248972378:=0
def tw7657060601360546819:=0
def tw17489881044956575348:=0
def tw15177524846078088624:=0
def tw11280764990230395779:=0
def tw8535989071501362146:=0
def tw9699689922121415419:=0
def tw6992944046667312440:=0
def tw14159937982925438193:=0
def tw4620392839674193988:=0
def tw9345589759750627157:=0
def tw4012223516595555638:=0
def tw12207048447789648506:=0
def tw5153639881400528865:=0
def tw17075069444321776314:=0
def tw8195283229276410786:=0
def tw15403993197646272028:=0
def tw12276495965498901120:=0
def tw12386730615347883039:=0
def tw10240843135940750713:=0
def tw4153591981381409087:=0
def tw7138816734002423164:=0
def tw14822219138858714288:=0
def tw844803998754189398:=0
def tw18012557158969454421:=0
def tw16082757951069057034:=0
def tw14542270620878572438:=0
def tw8669067809533565141:=0
def tw8650473661696542382:=0
def tw3120951012709632382:=0
def tw6889189627478619710:=0
def tw15935205485276429689:=0
def tw517034641210442336:=0
def tw7664489463527235580:=0
def tw6591794795766400855:=0
def tw7460879289162237146:=0
def tw9806641788997508456:=0
def tw7861309862417754011:=0
def tw2398019966645980131:=0
def tw8631041510404731891:=0
def tw18405396489480739146:=0
def tw13323299275331579832:=0
def tw7829503591325038807:=0
def tw5655181675186182838:=0
def tw11207439095280031403:=0
def tw1333089815171643354:=0
def tw17100156282069813101:=0
def tw14948100573932525289:=0
def tw13954919097775372474:=0
def tw4167929343960876800:=0
def tw10093610543278883838:=0
def tw13547650717575587758:=0
def tw10758597374479133762:=0
def tw9603800845452205132:=0
def tw2244923218022958325:=0
def tw14478474921921499428:=0
def tw4990562238992755785:=0
def tw14341343210334412860:=0
def tw15146269335626075304:=0
def tw8556813500869083841:=0
def tw9548267416905066770:=0
def tw13060113813272222667:=0
def tw8275649852602853487:=0
def tw333856181853505429:=0
def tw14951508146059414421:=0
def tw13376184188046793595:=0
def tw2185067486915845284:=0
def tw11901840226704783610:=0
def tw2452304130007292069:=0
def tw5219159012674945224:=0
def tw2684843883762198621:=0
def tw9681089870409109940:=0
def tw10379870374832823617:=0
def tw13863179069518435537:=0
def tw1799371826880551653:=0
def tw13868154272415793234:=0
def tw3273297319011212770:=0
def tw6851844619487407605:=0
def tw16204458965869890884:=0
def tw8251174138075496690:=0
def tw18014652323047831186:=0
def tw10742070029073556504:=0
def tw11297743914889703818:=0
def tw12446553421543826292:=0
def tw13211445588589032466:=0
def tw13979102242302517367:=0
def tw18065844149816370862:=0
def tw17831472403233302853:=0
def tw8434757786500799513:=0
def tw9187296501697763435:=0
def tw10723263836566143418:=0
def tw9632334609229245292:=0
def tw6276378428586765349:=0
def tw8758099435860933142:=0
def tw12272962137725922363:=0
def tw14996498581014371866:=0
def tw4415861921588312748:=0
def tw11186042273605104698:=0
def tw4836130093021336139:=0
def tw11446949800473372455:=0
def tw13904775103984184571:=0
def tw11217737420380578789:=0
def tw11212265970252781:=0
def tw3941012045456710966:=0
def tw14048742723541647258:=0
def tw17028101883345199031:=0
def tw9488067488464813010:=0
def tw13405907873164219950:=0
def tw9149683420318220456:=0
def tw4173974708529935036:=0
def tw1555504710230537523:=0
def tw11531743168605294239:=0
def tw13789971817150986798:=0
def tw4575259090266799783:=0
def tw2318553924298143704:=0
def tw17990136065122845724:=0
def tw6322725518200017801:=0
def tw11299088765175173328:=0
def tw4989906594677652435:=0
def tw12658607346913323990:=0
def tw15609848923516140627:=0
def tw1068923514982131449:=0
def tw2205371272722014948:=0
def tw3159079499234324168:=0
def tw308588624139805829:=0
def tw9916006484981742547:=0
def tw5815697947992865902:=0
def tw14801624558958179629:=0
def tw6234206193627106219:=0
def tw17269661156462791805:=0
def tw11964252235185905546:=0
def tw15251269966094043786:=0
def tw4949915134064217222:=0
def tw4411649619096483570:=0
def tw13310271593965860022:=0
def tw5928042185504468530:=0
def tw17864143716257654493:=0
def tw18241472287157511561:=0
def tw17545740632342028537:=0
def tw1648902630397483231:=0
def tw1122549940596379049:=0
def tw16116699128538652631:=0
def tw15941165529282523094:=0
def tw6664084400149586147:=0
def tw11500039800799012003:=0
def tw3082349925120600023:=0
def tw15535106772643659191:=0
def tw11574956528870730603:=0
def tw11499795461165741022:=0
def tw14016679821384425929:=0
def tw7696195134694228349:=0
def tw15418033351813059517:=0
def tw16263708772121185067:=0
def tw5271886010280732235:=0
def tw12766222269585696227:=0
def tw9791379311694613478:=0
def tw14017055064016361371:=0
def tw16751320545341109142:=0
def tw7207990827530377541:=0
def tw2975589623590787451:=0
def tw8333559324028627466:=0
def tw17607752202994385400:=0
def tw8337443500600149561:=0
def tw15496070108795309327:=0
def tw13761737220677459283:=0
def tw2830354649707765051:=0
def tw9516609385291588799:=0
def tw6695176950029404566:=0
def tw4805510401179853920:=0
def tw15344028749974199863:=0
def tw2071563128174782707:=0
def tw1297092357720653644:=0
def tw2522404266232777219:=0
def tw18314826726559905644:=0
def tw4377876112884637739:=0
def tw2481434454872977922:=0
def tw17804751700508253716:=0
def tw13740491760127789535:=0
def tw4334729162097414039:=0
def tw10350475922889515132:=0
def tw3716620246022321217:=0
def tw14899093069808440901:=0
def tw2990704303739458067:=0
def tw16725871785793029064:=0
def tw3207388536457988948:=0
def tw10177043796677397205:=0
def tw9538220563796246270:=0
def tw1594964537788828475:=0
def tw7868390483078736791:=0
def tw10358139898762705750:=0
def tw10830650496358215628:=0
def tw9658553517236953677:=0
def tw17537020551251980354:=0
def tw7701038733244744984:=0
def tw712978646360466312:=0
def tw6089303176892217115:=0
def tw9347514110942587782:=0
def tw18055304113640664674:=0
def tw3319357055207325636:=0
def tw9095021319191813354:=0
def tw8091917331051731590:=0
def tw10961743812346403877:=0
def tw15063866635621074912:=0
def tw14124308610904065670:=0
def tw2763406728029271464:=0
def tw17449818625732767444:=0
def tw4985917529968306943:=0
def tw16696446942862129485:=0
def tw13776415797413570703:=0
def tw5647475928581190150:=0
def tw6444207188948388868:=0
def tw8897719495505153708:=0
def tw1405271239596831645:=0
def tw5446825348107766900:=0
def tw17551025226349598864:=0
def tw14103581446642521929:=0
def tw18302958277913319559:=0
def tw1696305956251037738:=0
def tw14901886210917959922:=0
def tw17366066799718909380:=0
def tw1682534500754831622:=0
def tw1423624843431188415:=0
def tw679292061307594625:=0
def tw3440300077832919644:=0
def tw6753601529641704663:=0
def tw8209609250961860197:=0
def tw9767372346772478819:=0
def tw17634349575449463891:=0
def tw16120572081339437199:=0
def tw10534602315100443412:=0
def tw336228684403557272:=0
def tw44560172422020129:=0
def tw13644454264625525005:=0
def tw17214939884427223472:=0
def tw4013204313380811821:=0
def tw13536152765511005324:=0
def tw6937219833899287129:=0
def tw13358451291211388441:=0
def tw12808009803949735142:=0
def tw13743764850995679021:=0
def tw15979398026194159875:=0
def tw16356233235356701756:=0
def tw2812737844180808801:=0
def tw16152747125340424405:=0
def tw8800237398254167924:=0
def tw10421628705572477690:=0
def tw15423786331385259413:=0
def tw3107353458904121666:=0
def tw16602794674907351717:=0
def tw5274261936209651404:=0
def tw4766088120127739266:=0
def tw1640228931782325240:=0
def tw10371164142043425683:=0
def tw5746047146948266531:=0
def tw7669144366290617639:=0
def tw8326587159274206096:=0
def tw7495941850070446097:=0
def tw10239361027588926892:=0
def tw5202971085619524616:=0
def tw10069934652592417453:=0
def tw13146344597924418392:=0
def tw17196640006549919435:=0
def tw7871750525338963758:=0
def tw18122019044571216397:=0
def tw16430705977331388418:=0
def tw565125702319659391:=0
def tw539418873510390065:=0
def tw8512754770592258411:=0
def tw10931451287604592889:=0
def tw8464282496369106974:=0
def tw16316482541948502618:=0
def tw2894768970947245348:=0
def tw1747655216981757405:=0
def tw1280066204096150307:=0
def tw2853775452077599849:=0
def tw10725854574865518159:=0
def tw6550379274246697664:=0
def tw2977517528923263705:=0
def tw7689323196413263338:=0
def tw9143017790484302006:=0
def tw10134632590626288339:=0
def tw13414586202734066109:=0
def tw7192957225737622620:=0
def tw17326698834163047112:=0
def tw8067953455152778014:=0
def tw13169231096822814714:=0
def tw13182254000391592457:=0
def tw14048637350154045727:=0
def tw9227411320740133607:=0
def tw9534589358420529719:=0
def tw12414199362043066736:=0
def tw1972394948038596919:=0
def tw14761721958173391240:=0
def tw6003018022459918402:=0
def tw1917881559083737675:=0
def tw8246471734702113084:=0
def tw14264321769255375188:=0
def tw14367617208453451231:=0
def tw4179417538863638880:=0
def tw12249849155115001177:=0
def tw6598554896653585841:=0
def tw13965190987080810021:=0
def tw9223336335082309340:=0
def tw2845715098047993183:=0
def tw4066282471783596604:=0
def tw12834905144802725919:=0
def tw10202005798481379349:=0
def tw1760357237626283890:=0
def tw16738321401521312251:=0
def tw3759792237692713787:=0
def tw15489586991017358689:=0
def tw13988954330021185913:=0
def tw13087039199416313854:=0
def tw15565646136264871142:=0
def tw2741140661441718439:=0
def tw2597692457661622788:=0
def tw4760154920535700458:=0
def tw2977788207818341622:=0
def tw133092605791839681:=0
def tw10204415403690500468:=0
def tw2549213320535499239:=0
def tw13498115394015483376:=0
def tw6958616744242217636:=0
def tw166734573028143505:=0
def tw17447798458556884589:=0
def tw8679653732045590199:=0
def tw7738700259417261718:=0
def tw2010982723622617922:=0
def tw17064790186920103021:=0
def tw4463524450802852975:=0
def tw16833169398987648632:=0
def tw7840831127065801023:=0
def tw14680301636514892666:=0
def tw4367200209203374820:=0
def tw16003286354456582674:=0
def tw17603348913175741380:=0
def tw16492075029132625103:=0
def tw10217850635942802957:=0
def tw11618379953904757644:=0
def tw3321067704970428485:=0
def tw2669073928606073806:=0
def tw14067148948559800393:=0
def tw18009525260970303458:=0
def tw509384576060983913:=0
def tw16228125938376287961:=0
def tw5886503746372886550:=0
def tw5035996040162364029:=0
def tw6801744054067472941:=0
def tw14414024633918913532:=0
def tw17192750498788533784:=0
def tw8581532779594261623:=0
def tw17466430108551357423:=0
def tw16482595099651762297:=0
def tw14406915569608902509:=0
def tw16829265581153084587:=0
def tw13268992263415234080:=0
def tw17361250563646144470:=0
def tw18227648840426062857:=0
def tw12533236998438869165:=0
def tw3666342703283168730:=0
def tw14795027406332172425:=0
def tw8029402318017599667:=0
def tw1771491799512930228:=0
def tw9583397140735275771:=0
def tw4540258588815512464:=0
def tw5308684838197430024:=0
def tw15104277127307617711:=0
def tw2873200630099556292:=0
def tw16949225069487967467:=0
def tw9985440846783326626:=0
def tw14662953952166506172:=0
def tw17324878651200376148:=0
def tw12918761138078205102:=0
def tw12504663845905704831:=0
def tw4732308133498869302:=0
def tw14843976224730864831:=0
def tw11670644001208298896:=0
def tw8883329548700119635:=0
def tw8596670954041063305:=0
def tw14179232294457317008:=0
def tw1275570473655845688:=0
def tw12151236220234599022:=0
def tw13041500978885571005:=0
def tw18367363848020119269:=0
def tw824481049527753655:=0
def tw16232494429013393245:=0
def tw2389506916911070418:=0
def tw9026217973513519169:=0
def tw3309671281486654540:=0
def tw4360465627014200909:=0
def tw11963073207211828361:=0
def tw7738236298265109386:=0
def tw8954181937576121511:=0
def tw12037913654015110991:=0
def tw17360377274100239426:=0
def tw13420327610360609320:=0
def tw2653224669351467963:=0
def tw108989456653195972:=0
def tw2014602382737055822:=0
def tw4870469922674915580:=0
def tw1317269828880877752:=0
def tw12291428877597395074:=0
def tw4224417079918489229:=0
def tw6042895101836166107:=0
def tw9611525038920762616:=0
def tw5515662061321692182:=0
def tw9393616140056391126:=0
def tw4633004303975355427:=0
def tw15978510823625780722:=0
def tw16562329802166982347:=0
def tw14327885591213806859:=0
def tw12243817878766749389:=0
def tw1224283169620016320:=0
def tw772057519076260594:=0
def tw16797859848087491091:=0
def tw961742897574285821:=0
def tw4097242370490887481:=0
def tw8366638654703584171:=0
def tw1627742418998487212:=0
def tw7926432354157850255:=0
def tw3830537175847171480:=0
def tw393871432218758881:=0
def tw4466537043942349011:=0
def tw12484752345617475298:=0
def tw12095336985721232945:=0
def tw7013927866993254661:=0
def tw506981074322033174:=0
def tw8689939066056248887:=0
def tw6093050114989845023:=0
def tw3715407904626359636:=0
def tw6066141651318630982:=0
def tw18412643685224889652:=0
def tw9197583520453360459:=0
def tw13278872577490427819:=0
def tw458967679183808706:=0
def tw2862494385740246326:=0
def tw12072567341660793109:=0
def tw9051266078320970306:=0
def tw2311293070442465330:=0
def tw7558439878391128373:=0
def tw8372669663781275121:=0
def tw18318301066071844926:=0
def tw13987567386064412244:=0
def tw12246205696851027747:=0
def tw3362472313812251203:=0
def tw8559779355432820099:=0
def tw609489815270743074:=0
def tw311935655498733975:=0
def tw3497233579755005748:=0
def tw17530372852034114537:=0
def tw5133535715357413867:=0
def tw16891237634942487491:=0
def tw9809243551054118966:=0
def tw7108221786225028636:=0
def tw285563189468144640:=0
def tw5387296663409274597:=0
def tw15406003569008201528:=0
def tw9531730396132749406:=0
def tw8416955356070115099:=0
def tw8096089066657583625:=0
def tw274929715116299416:=0
def tw17152957712565050080:=0
def tw16355749300049403021:=0
def tw2159507130656284623:=0
def tw8622823775468844875:=0
def tw5565741074056627867:=0
def tw2040567027927733873:=0
def tw3158637826316598836:=0
def tw5338385429449615287:=0
def tw17579973638270171256:=0
def tw15284448645764285624:=0
def tw12916563926471513901:=0
def tw8850128717660574778:=0
def tw11484039004761361503:=0
def tw5404408868941314100:=0
def tw11859261612034687436:=0
def tw10667245804254615822:=0
def tw15408825973258888702:=0
def tw1757664835219368106:=0
def tw15265770044706526670:=0
def tw16284192187383129594:=0
def tw6648154993478257575:=0
def tw14538896473907380751:=0
def tw5457069322955127309:=0
def tw13610206420761065173:=0
def tw2369440619634250050:=0
def tw6862063524491954888:=0
def tw8867786337047419972:=0
def tw8273639478445904873:=0
def tw14228035385541239597:=0
def tw6274402854806391761:=0
def tw1207134813695520774:=0
def tw5773899715584899255:=0
def tw8987349042952343510:=0
def tw15381783891330113271:=0
def tw12885556292611213856:=0
def tw1054813762137433877:=0
def tw10049307884490089536:=0
def tw10057091038417987598:=0
def tw17714283912406651308:=0
def tw16495872592406595122:=0
def tw18251941097947149841:=0
def tw10975745868466002493:=0
def tw5669731581901687977:=0
def tw9441185037207023320:=0
def tw13960263837912344081:=0
def tw16511584387237513878:=0
def tw17337362055600594222:=0
def tw6583321904491856353:=0
def tw8563611811941988007:=0
def tw17537833655293508650:=0
def tw2003770211301138977:=0
def tw8656786713094667352:=0
def tw15214942089162607853:=0
def tw13027244675255352869:=0
def tw3300565859324833704:=0
def tw9724870653539171779:=0
def tw14274388662836823893:=0
def tw457955259836423615:=0
def tw6821764564914503348:=0
def tw9391692950599617243:=0
def tw8533255593551192544:=0
def tw1865575306564989532:=0
def tw5830751971994946763:=0
def tw11156790654311407606:=0
def tw16761382908482287269:=0
def tw18139246191520116202:=0
def tw15852376432808828343:=0
def tw4918959504949487762:=0
def tw4649064874837277094:=0
def tw552409380762416087:=0
def tw8756012587417098263:=0
def tw5423817328002248244:=0
def tw11981504835609954187:=0
def tw6493292133298072811:=0
def tw5189672985055922940:=0
def tw795355451645058791:=0
def tw17079310272746357194:=0
def tw9537973249885341096:=0
def tw16748587402955158972:=0
def tw8950505221277754360:=0
def tw15342073351538142329:=0
def tw6738266282437614306:=0
def tw16220275090880635721:=0
def tw16770988082735392922:=0
def tw4617262567962581843:=0
def tw17130617657687923115:=0
def tw14990183195499946272:=0
def tw5486752718229208053:=0
def tw11908877169250998185:=0
def tw10929574862610877148:=0
def tw10705083094746307161:=0
def tw11518855978550085277:=0
def tw9253795586574623635:=0
def tw18022498922370167963:=0
def tw7224465704362519876:=0
def tw4716592349525019208:=0
def tw18307021634497501192:=0
def tw9068817712208137627:=0
end PySem.W.Fast
namespace S25
open PySem L2 XL
theorem walk {l:PySem.W.OpenLaw} {q:Program} {loose:List Str} {XP:(Str→Option Value)→Heap→Prop} {YP:World→Heap→Prop} {d:DefRec} {K:Params→PySem.W.Frag} (hn:l.most=some 63) (hdf:d.params.defaults=[])
    (hY:∀ (w:World) (h:Heap),YP w h→(K w.params).In h)
    (F:∀ (w:World) (mg:Str→Option Value) (fa:Addr) (h:Heap),(K w.params).In h→h.Ns mainGlobals mg→mg d.name=some (.ref fa) →
      ∃ fd:FuncData,(∀ (s:Shared) (u:Value),BindsTo s fd ⟨[u],[]⟩ [("_law_script",u)])∧∀ base:Heap,(K w.params).In base→base.Ns mainGlobals mg→FnOk true l.prog w (K w.params) mg base (CXo l.prog w) 8 fa fd ["_law_script"] (xg9 (K w.params))) :
    PySem.W.WalkO q loose XP YP l.row.toRowW d [] (fun f vs=>PySem.call f vs) :=
  L2.walk_of (q0:=true) (n:=63) (k:=8) (x:="_law_script") (CX:=fun w=>CXo l.prog w) (sp:=fun w=>xg9 (K w.params)) hn (by decide) hdf ⟨fun _=>rfl,by decide,by decide⟩ hY F (fun _ _ a ns hl _ hS=>⟨a,ns,rfl,hS,hl,fun _=>rfl⟩)
    fun w H s e s' z=>by obtain ⟨_,_,_,_,_,_,_,_,_,_,_,_,_,_,q⟩:=z; exact q
theorem all_mk {l:PySem.W.OpenLaw} {w:World} {K:PySem.W.Frag} {h:Heap} {mg:Str→Option Value} {fa:Addr} (hfa:mg "law"=some (.ref fa)) (TT:∃ t,Txt w K mg t) :
    ∃ fd:FuncData,(∀ (s:Shared) (v:Value),BindsTo s fd ⟨[v],[]⟩ [("_law_script",v)])∧∀ base:Heap,K.In base→base.Ns mainGlobals mg→FnOk true l.prog w K mg base (CXo l.prog w) 8 fa fd ["_law_script"] (xg9 K):=by
  obtain ⟨t,T⟩:=TT
  have e:=hfa.symm.trans T.g_law
  cases e
  refine ⟨t.d_law,fun s v=>?_,fun base _ _=>xpq T⟩
  obtain ⟨oc,od,kV,doc,pm,an,cdv,ct,osl,e,lk,hcd⟩:=T.F_law.ex
  rw [e]
  exact .of_eq rfl
end S25
open PySem PySem.W PyProof.Rows
set_option maxRecDepth 100000 in
set_option maxHeartbeats 0 in
theorem PySem.Challenge.cw_rimnotes_k25_whole_any_lines_read_holds : PySem.Challenge.rw_rimnotes_k25_whole_any_lines_read.Holds := by
 w_on; o_law; k_head; (case hw=>w_witness2)
 k_fill
 refine S25.walk (l:=PySem.Challenge.rw_rimnotes_k25_whole_any_lines_read) rfl rfl (fun w h Y=>PySem.W.kIn_of Y) ?F
 case F =>
  intro w mg fa h KX G hmg
  refine S25.all_mk (h:=h) hmg ?TT
  refine' S25.txt_mk (w:=w) KX G ?g_as ?g_ao ?g_aj ?g_k ?a_w ?l_w ?c_w ?k_w ?i_w ?a_aq ?l_aq ?c_aq ?k_aq ?i_aq ?a_r ?l_r ?c_r ?k_r ?i_r ?a_ar ?l_ar ?c_ar ?k_ar ?i_ar ?a_n ?l_n ?c_n ?k_n ?i_n ?a_f ?l_f ?c_f ?k_f ?i_f ?t_f ?a_d ?l_d ?c_d ?k_d ?i_d ?a_e ?l_e ?c_e ?k_e ?i_e ?a_h ?l_h ?c_h ?k_h ?i_h ?a_b ?l_b ?c_b ?k_b ?i_b ?a_a ?l_a ?c_a ?k_a ?i_a ?a_c ?l_c ?c_c ?k_c ?i_c ?a_p ?l_p ?c_p ?k_p ?i_p ?a_am ?l_am ?c_am ?k_am ?i_am ?a_af ?l_af ?c_af ?k_af ?i_af ?a_al ?l_al ?c_al ?k_al ?i_al ?a_ak ?l_ak ?c_ak ?k_ak ?i_ak ?a_an ?l_an ?c_an ?k_an ?i_an ?a_t ?l_t ?c_t ?k_t ?i_t ?a_l ?l_l ?c_l ?k_l ?i_l ?a_aa ?l_aa ?c_aa ?k_aa ?i_aa ?a_ac ?l_ac ?c_ac ?k_ac ?i_ac ?a_ai ?l_ai ?c_ai ?k_ai ?i_ai ?a_ad ?l_ad ?c_ad ?k_ad ?i_ad ?a_q ?l_q ?c_q ?k_q ?i_q ?a_j ?l_j ?c_j ?k_j ?i_j ?a_s ?l_s ?c_s ?k_s ?i_s ?a_x ?l_x ?c_x ?k_x ?i_x ?a_o ?l_o ?c_o ?k_o ?i_o ?a_ae ?l_ae ?c_ae ?k_ae ?i_ae ?a_z ?l_z ?c_z ?k_z ?i_z ?a_ag ?l_ag ?c_ag ?k_ag ?i_ag ?a_u ?l_u ?c_u ?k_u ?i_u ?a_y ?l_y ?c_y ?k_y ?i_y ?a_ah ?l_ah ?c_ah ?k_ah ?i_ah ?a_ab ?l_ab ?c_ab ?k_ab ?i_ab ?a_m ?l_m ?c_m ?k_m ?i_m ?a_g ?l_g ?c_g ?k_g ?i_g ?a_i ?l_i ?c_i ?k_i ?i_i ?a_v ?l_v ?c_v ?k_v ?i_v ?a_law ?l_law ?c_law ?k_law ?i_law ?kc_as ?pg_as ?hd_as ?po_as ?sa_as ?mk_as ?ca_as ?mo_as ?kc_ao ?pg_ao ?hd_ao ?po_ao ?sa_ao ?mk_ao ?ca_ao ?mo_ao ?a_LeftSide_init ?kc_aj ?pg_aj ?hd_aj ?po_aj ?sa_aj ?mk_aj ?ca_aj ?mo_aj ?a_RightSide_init ?kc_k ?pg_k ?hd_k ?po_k ?sa_k ?mk_k ?ca_k ?mo_k ?cg ?ct ?n_at ?n_av ?n_au ?n_aw ?n_a2 ?n_a0 ?n_ay ?n_bool ?n_enumerate ?n_int ?n_isinstance ?n_len ?n_list ?n_min ?n_range ?n_sorted ?n_str ?n_zip ?v_a1 ?v_ax ?v_az ?g_ap ?l_ap ?ns_ap
  (case g_as=>k_is)
  (case g_ao=>k_is)
  (case g_aj=>k_is)
  (case g_k=>k_is)
  (case a_w=>k_is)
  (case l_w=>k_is)
  (case c_w=>k_is)
  (case k_w=>k_is)
  (case i_w=>k_is)
  (case a_aq=>k_is)
  (case l_aq=>k_is)
  (case c_aq=>k_is)
  (case k_aq=>k_is)
  (case i_aq=>k_is)
  (case a_r=>k_is)
  (case l_r=>k_is)
  (case c_r=>k_is)
  (case k_r=>k_is)
  (case i_r=>k_is)
  (case a_ar=>k_is)
  (case l_ar=>k_is)
  (case c_ar=>k_is)
  (case k_ar=>k_is)
  (case i_ar=>k_is)
  (case a_n=>k_is)
  (case l_n=>k_is)
  (case c_n=>k_is)
  (case k_n=>k_is)
  (case i_n=>k_is)
  (case a_f=>k_is)
  (case l_f=>k_is)
  (case c_f=>k_is)
  (case k_f=>k_is)
  (case i_f=>k_is)
  (case t_f=>k_is)
  (case a_d=>k_is)
  (case l_d=>k_is)
  (case c_d=>k_is)
  (case k_d=>k_is)
  (case i_d=>k_is)
  (case a_e=>k_is)
  (case l_e=>k_is)
  (case c_e=>k_is)
  (case k_e=>k_is)
  (case i_e=>k_is)
  (case a_h=>k_is)
  (case l_h=>k_is)
  (case c_h=>k_is)
  (case k_h=>k_is)
  (case i_h=>k_is)
  (case a_b=>k_is)
  (case l_b=>k_is)
  (case c_b=>k_is)
  (case k_b=>k_is)
  (case i_b=>k_is)
  (case a_a=>k_is)
  (case l_a=>k_is)
  (case c_a=>k_is)
  (case k_a=>k_is)
  (case i_a=>k_is)
  (case a_c=>k_is)
  (case l_c=>k_is)
  (case c_c=>k_is)
  (case k_c=>k_is)
  (case i_c=>k_is)
  (case a_p=>k_is)
  (case l_p=>k_is)
  (case c_p=>k_is)
  (case k_p=>k_is)
  (case i_p=>k_is)
  (case a_am=>k_is)
  (case l_am=>k_is)
  (case c_am=>k_is)
  (case k_am=>k_is)
  (case i_am=>k_is)
  (case a_af=>k_is)
  (case l_af=>k_is)
  (case c_af=>k_is)
  (case k_af=>k_is)
  (case i_af=>k_is)
  (case a_al=>k_is)
  (case l_al=>k_is)
  (case c_al=>k_is)
  (case k_al=>k_is)
  (case i_al=>k_is)
  (case a_ak=>k_is)
  (case l_ak=>k_is)
  (case c_ak=>k_is)
  (case k_ak=>k_is)
  (case i_ak=>k_is)
  (case a_an=>k_is)
  (case l_an=>k_is)
  (case c_an=>k_is)
  (case k_an=>k_is)
  (case i_an=>k_is)
  (case a_t=>k_is)
  (case l_t=>k_is)
  (case c_t=>k_is)
  (case k_t=>k_is)
  (case i_t=>k_is)
  (case a_l=>k_is)
  (case l_l=>k_is)
  (case c_l=>k_is)
  (case k_l=>k_is)
  (case i_l=>k_is)
  (case a_aa=>k_is)
  (case l_aa=>k_is)
  (case c_aa=>k_is)
  (case k_aa=>k_is)
  (case i_aa=>k_is)
  (case a_ac=>k_is)
  (case l_ac=>k_is)
  (case c_ac=>k_is)
  (case k_ac=>k_is)
  (case i_ac=>k_is)
  (case a_ai=>k_is)
  (case l_ai=>k_is)
  (case c_ai=>k_is)
  (case k_ai=>k_is)
  (case i_ai=>k_is)
  (case a_ad=>k_is)
  (case l_ad=>k_is)
  (case c_ad=>k_is)
  (case k_ad=>k_is)
  (case i_ad=>k_is)
  (case a_q=>k_is)
  (case l_q=>k_is)
  (case c_q=>k_is)
  (case k_q=>k_is)
  (case i_q=>k_is)
  (case a_j=>k_is)
  (case l_j=>k_is)
  (case c_j=>k_is)
  (case k_j=>k_is)
  (case i_j=>k_is)
  (case a_s=>k_is)
  (case l_s=>k_is)
  (case c_s=>k_is)
  (case k_s=>k_is)
  (case i_s=>k_is)
  (case a_x=>k_is)
  (case l_x=>k_is)
  (case c_x=>k_is)
  (case k_x=>k_is)
  (case i_x=>k_is)
  (case a_o=>k_is)
  (case l_o=>k_is)
  (case c_o=>k_is)
  (case k_o=>k_is)
  (case i_o=>k_is)
  (case a_ae=>k_is)
  (case l_ae=>k_is)
  (case c_ae=>k_is)
  (case k_ae=>k_is)
  (case i_ae=>k_is)
  (case a_z=>k_is)
  (case l_z=>k_is)
  (case c_z=>k_is)
  (case k_z=>k_is)
  (case i_z=>k_is)
  (case a_ag=>k_is)
  (case l_ag=>k_is)
  (case c_ag=>k_is)
  (case k_ag=>k_is)
  (case i_ag=>k_is)
  (case a_u=>k_is)
  (case l_u=>k_is)
  (case c_u=>k_is)
  (case k_u=>k_is)
  (case i_u=>k_is)
  (case a_y=>k_is)
  (case l_y=>k_is)
  (case c_y=>k_is)
  (case k_y=>k_is)
  (case i_y=>k_is)
  (case a_ah=>k_is)
  (case l_ah=>k_is)
  (case c_ah=>k_is)
  (case k_ah=>k_is)
  (case i_ah=>k_is)
  (case a_ab=>k_is)
  (case l_ab=>k_is)
  (case c_ab=>k_is)
  (case k_ab=>k_is)
  (case i_ab=>k_is)
  (case a_m=>k_is)
  (case l_m=>k_is)
  (case c_m=>k_is)
  (case k_m=>k_is)
  (case i_m=>k_is)
  (case a_g=>k_is)
  (case l_g=>k_is)
  (case c_g=>k_is)
  (case k_g=>k_is)
  (case i_g=>k_is)
  (case a_i=>k_is)
  (case l_i=>k_is)
  (case c_i=>k_is)
  (case k_i=>k_is)
  (case i_i=>k_is)
  (case a_v=>k_is)
  (case l_v=>k_is)
  (case c_v=>k_is)
  (case k_v=>k_is)
  (case i_v=>k_is)
  (case a_law=>k_is)
  (case l_law=>k_is)
  (case c_law=>k_is)
  (case k_law=>k_is)
  (case i_law=>k_is)
  (case kc_as=>k_is)
  (case pg_as=>k_is)
  (case hd_as=>k_is)
  (case po_as=>k_is)
  (case sa_as=>k_is)
  (case mk_as=>first | k_is | kernel_rfl)
  (case ca_as=>k_is)
  (case mo_as=>k_is)
  (case kc_ao=>k_is)
  (case pg_ao=>k_is)
  (case hd_ao=>k_is)
  (case po_ao=>k_is)
  (case sa_ao=>k_is)
  (case mk_ao=>first | k_is | kernel_rfl)
  (case ca_ao=>k_is)
  (case mo_ao=>k_is)
  (case a_LeftSide_init=>k_is)
  (case kc_aj=>k_is)
  (case pg_aj=>k_is)
  (case hd_aj=>k_is)
  (case po_aj=>k_is)
  (case sa_aj=>k_is)
  (case mk_aj=>first | k_is | kernel_rfl)
  (case ca_aj=>k_is)
  (case mo_aj=>k_is)
  (case a_RightSide_init=>k_is)
  (case kc_k=>k_is)
  (case pg_k=>k_is)
  (case hd_k=>k_is)
  (case po_k=>k_is)
  (case sa_k=>k_is)
  (case mk_k=>first | k_is | kernel_rfl)
  (case ca_k=>k_is)
  (case mo_k=>k_is)
  (case cg=>k_is)
  (case ct=>k_is)
  (case n_at=>k_is)
  (case n_av=>k_is)
  (case n_au=>k_is)
  (case n_aw=>k_is)
  (case n_a2=>k_is)
  (case n_a0=>k_is)
  (case n_ay=>k_is)
  (case n_bool=>k_is)
  (case n_enumerate=>k_is)
  (case n_int=>k_is)
  (case n_isinstance=>k_is)
  (case n_len=>k_is)
  (case n_list=>k_is)
  (case n_min=>k_is)
  (case n_range=>k_is)
  (case n_sorted=>k_is)
  (case n_str=>k_is)
  (case n_zip=>k_is)
  (case v_a1=>k_is)
  (case v_ax=>k_is)
  (case v_az=>k_is)
  (case g_ap=>k_is)
  (case l_ap=>first | k_is | kernel_rfl)
  (case ns_ap=>kernel_rfl)
