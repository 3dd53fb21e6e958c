import PyProof.Rows.All
import Wide.All
import OpenK.AllK
import Wide.FinOn
import Lean
import PyProof.EqAt
import PyProof.EqKinds
import PyProof.TupleCall
import PyProof.StationsW
import PyProof.ExcClass2
import PyProof.RulesAs
import PyProof.ExcBaseAll.ValueError
import OpenK.KDescr
import OpenK.KWalk
import PyProof.ExcAttrAll.ValueError
import PyProof.Comp
import PyProof.ListRange
import PyProof.DictItems
import KE.KPairComp
import KE.KDictOf
import PyProof.AttrMissHeap
import PyProof.Rows.Range3
import KE.KRevIter
import PyProof.ZipIter
import OpenK.KEqL
import PyProof.AutoListH
import PyProof.EnumMake
import PyProof.WalksEnum
import PyProof.NeKinds
import PyProof.MaxThree
import KE.KSortTup
import PyProof.StrLawsIn
import PyProof.DictValues
import PyProof.DictIter
import PyProof.Draws
import PyProof.DictWalks
import PyProof.ListNew
import PyProof.ListStr
import KE.KIntText
import PyProof.Rows.FStr
import PyProof.MeetsStr
import PyProof.Rows.CallKwBuiltin
import PyProof.Rows.StrNews
import PyProof.Rows.StrNews2
import PyProof.StrLawsChain
import PyProof.StrLawsFirst
import PyProof.StrLawsTight
import PySem.Challenge.RW_rimnotes_k22_points_in_lines
set_option Elab.async false
set_option linter.all false
set_option maxRecDepth 100000
set_option maxHeartbeats 4000000
set_option maxRecDepth 100000
namespace L2
open PySem PySem.Spec PyProof.Rows
variable {q0:Bool}
abbrev Key:=Sum Int Str
def xdo:Key→Value→Bool
 | .inl k,v=>Value.isInt k v
 | .inr x,v=>Value.isStrOf x v
def keyH (w:World):Key→Int
 | .inl k=>hashInt k
 | .inr x=>hashStr w x
theorem xaw:∀ {k:Key} {v:Value},xdo k v=true→(∃ i t,k=Sum.inl i∧v=Value.int i t)∨(∃ x t,k=Sum.inr x∧v=Value.str x t)
 | .inl i,v,h=>by
  obtain ⟨t,e⟩:=Value.isInt_shape (k:=i) (v:=v) h
  exact .inl ⟨i,t,rfl,e⟩
 | .inr x,v,h=>by
  obtain ⟨t,e⟩:=Value.isStrOf_shape (x:=x) (v:=v) h
  exact .inr ⟨x,t,rfl,e⟩
theorem xi3 (i:Int) (t:Tok):xdo (.inl i) (.int i t)=true:=by simp [xdo,Value.isInt]
theorem xjw (x:Str) (t:Tok):xdo (.inr x) (.str x t)=true:=by simp [xdo,Value.isStrOf]
theorem xnw (a b:Int):decide ((Sum.inl a:Key)=Sum.inl b)=(a == b):=by
 by_cases e:a=b
 ·subst e; simp
 ·have h:¬ (Sum.inl a:Key)=Sum.inl b:=fun q=>e (Sum.inl.inj q)
  rw [decide_eq_false h]
  exact (beq_eq_false_iff_ne.mpr e).symm
theorem xoc (a b:Str):decide ((Sum.inr a:Key)=Sum.inr b)=decide (a=b):=by
 by_cases e:a=b
 ·subst e; simp
 ·have h:¬ (Sum.inr a:Key)=Sum.inr b:=fun q=>e (Sum.inr.inj q)
  rw [decide_eq_false h,decide_eq_false e]
theorem xor (a:Int) (b:Str):decide ((Sum.inl a:Key)=Sum.inr b)=false:=decide_eq_false (fun q=>nomatch q)
theorem xnt (a:Str) (b:Int):decide ((Sum.inr a:Key)=Sum.inl b)=false:=decide_eq_false (fun q=>nomatch q)
def xaq (prog:Program) (w:World):PySem.KeyKind prog w Key where
 is:=xdo
 hash:=keyH w
 inj:=fun v a b ha hb=>by
  rcases xaw ha with ⟨i,t,rfl,rfl⟩ | ⟨x,t,rfl,rfl⟩
  ·rcases xaw hb with ⟨j,u,rfl,e⟩ | ⟨y,u,rfl,e⟩
   ·injection e with e1 _; rw [e1]
   ·exact nomatch e
  ·rcases xaw hb with ⟨j,u,rfl,e⟩ | ⟨y,u,rfl,e⟩
   ·exact nomatch e
   ·injection e with e1 _; rw [e1]
 byValue:=fun k v h=>by
  rcases xaw h with ⟨i,t,rfl,rfl⟩ | ⟨x,t,rfl,rfl⟩ <;> rfl
 pyHash:=fun hv h=>by
  rcases xaw hv with ⟨i,t,rfl,rfl⟩ | ⟨x,t,rfl,rfl⟩
  ·exact wpAny_pyHash_int h
  ·exact wpAny_pyHash_str h
 eqBool:=fun hu hv h=>by
  rcases xaw hu with ⟨i,t,rfl,rfl⟩ | ⟨x,t,rfl,rfl⟩
  ·rcases xaw hv with ⟨j,u,rfl,rfl⟩ | ⟨y,u,rfl,rfl⟩
   ·rw [xnw] at h; exact wpAny_eqBool_int h
   ·rw [xor] at h; exact SeqAt.EqAt.int_str i t y u _ _ _ _ h
  ·rcases xaw hv with ⟨j,u,rfl,rfl⟩ | ⟨y,u,rfl,rfl⟩
   ·rw [xnt] at h; exact SeqAt.EqAt.str_int x t j u _ _ _ _ h
   ·rw [xoc] at h; exact wpAny_eqBool_str h
 «strs»:=fun k x t v h=>by
  rcases xaw h with ⟨i,u,rfl,e⟩ | ⟨y,u,rfl,e⟩
  ·exact nomatch e
  ·injection e with e1 _
   subst e1
   cases v <;> rfl
theorem xhm (prog:Program) (w:World) (i:Int) (t:Tok):(xaq prog w).is (.inl i) (.int i t)=true:=xi3 i t
theorem xhq (prog:Program) (w:World) (x:Str) (t:Tok):(xaq prog w).is (.inr x) (.str x t)=true:=xjw x t
end L2
namespace L2
open PySem PySem.Spec PyProof.Rows
variable {q0:Bool}
inductive V where
 | non | bl (b:Bool) | int (i:Int) | str (x:Str) | byt (b:Array UInt8) | flt (b:UInt64) | ref (a:Addr) | ty (n:String)
 deriving DecidableEq
def RelV:V→Value→Prop
 | .non,u=>u=Value.none
 | .bl b,u=>u=Value.bool b
 | .int i,u=>∃ t,u=Value.int i t
 | .str x,u=>∃ t,u=Value.str x t
 | .byt b,u=>∃ t,u=Value.bytes b t
 | .flt b,u=>∃ t,u=Value.float b t
 | .ref a,u=>u=Value.ref a
 | .ty n,u=>u=Value.type n
abbrev Vals:List V→List Value→Prop:=Paired RelV
theorem Vals.length {xs:List V} {us:List Value} (r:Vals xs us):xs.length=us.length:=Paired.length r
theorem Vals.get:∀ {xs:List V} {us:List Value} {i:Nat} {x:V},Vals xs us→xs[i]?=some x→∃ u,us[i]?=some u∧RelV x u
 | _,_,_,_,.nil,e=>by simp at e
 | _,_,0,_,.cons r _,e=>by simp at e; subst e; exact ⟨_,rfl,r⟩
 | _,_,i + 1,x,.cons _ t,e=>by
  obtain ⟨u,h1,h2⟩:=Vals.get (i:=i) (x:=x) t (by simpa using e)
  exact ⟨u,by simpa using h1,h2⟩
theorem Vals.append:∀ {xs ys:List V} {us ws:List Value},Vals xs us→Vals ys ws→Vals (xs ++ ys) (us ++ ws)
 | _,_,_,_,.nil,s=>s
 | _,_,_,_,.cons r t,s=>.cons r (Vals.append t s)
theorem Vals.take:∀ {xs:List V} {us:List Value} (n:Nat),Vals xs us→Vals (xs.take n) (us.take n)
 | _,_,0,_=>.nil
 | _,_,_ + 1,.nil=>.nil
 | _,_,n + 1,.cons r t=>.cons r (Vals.take n t)
theorem Vals.drop:∀ {xs:List V} {us:List Value} (n:Nat),Vals xs us→Vals (xs.drop n) (us.drop n)
 | _,_,0,r=>r
 | _,_,_ + 1,.nil=>.nil
 | _,_,n + 1,.cons _ t=>Vals.drop n t
def RelO:Option V→Option Value→Prop
 | some v,some u=>RelV v u
 | none,none=>True
 | _,_=>False
def KV {κ:Type}:List (κ × V)→List (κ × Value)→Prop:=Paired fun (p:κ × V) (q:κ × Value)=>p.1=q.1∧RelV p.2 q.2
def kV:Key→V
 | .inl i=>.int i
 | .inr x=>.str x
inductive HO where
 /-- a list -/
 | lst (xs:List V)
 /-- a tuple (never changes) -/
 | tup (xs:List V)
 /-- a dict whose keys are ints and texts; one whose keys are tuples of ints and texts (the empty one is both) -/
 | dK (kvs:List (Key × V)) | dT (kvs:List (List Key × V))
 /-- a set of ints: its members,its size -/
 | set (S:Int→Bool) (n:Nat)
 /-- an instance of the class at C,its dict at dx,its attributes -/
 | ins (C dx:Addr) (fs:List (Str × V))
 /-- the dict of the instance at x -/
 | own (x:Addr)
 /-- the dict of an exception -/
 | xd (fs:List (Str × V))
 /-- a bound method,f of x -/
 | met (f x:Addr)
 /-- a range object lo,lo + 1,.. below hi -/
 | rng (lo hi:Int)
 /-- a thing that is known to the object (the script; a dict while a loop walks it): read,never written while it is so -/
 | frz (o:Obj) (u:HO)
 /-- a code object's table -/
 | tbl (ps:Array Value)
 /-- any other thing,by what is true of its one object (a def of one's own: SetO a S n:=HO.ext fun h=>..) -/
 | ext (φ:Heap→Prop)
abbrev Hp:=Addr→Option HO
def upd (H:Hp) (a:Addr) (o:HO):Hp:=fun b=>if b=a then some o else H b
theorem xf {H:Hp} {a:Addr} {o:HO}:upd H a o a=some o:=by unfold upd; rw [if_pos rfl]
theorem xj {H:Hp} {a b:Addr} {o:HO} (h:b≠a):upd H a o b=H b:=by unfold upd; rw [if_neg h]
theorem xfo {H:Hp} {a:Addr} {o u:HO}:upd (upd H a o) a u=upd H a u:=by
 funext b; unfold upd; split <;> rfl
theorem xbm {H:Hp} {a b:Addr} {o u:HO} (h:H a=some o) (h':H b=some u) (d:o≠u):a≠b:=by
 intro e; subst e; rw [h] at h'; exact d (Option.some.inj h')
theorem xo {H:Hp} {a b:Addr} {o:HO} (h:H a=some o) (h':H b=none):a≠b:=by
 intro e; subst e; rw [h] at h'; cases h'
section
variable (P:Program) (w:World)
def xal (H:Hp) (h:Heap) (a:Addr):HO→Prop
  | .lst xs=>xs.length≤sizeLine∧∃ (its:List Value) (n:Nat),Vals xs its∧h.get? a=some { cls:=.type "list",data:=.seq its.toArray n }
  | .tup xs=>xs.length≤sizeLine∧∃ its:List Value,Vals xs its∧IsTup h a its.toArray
  | .dK kvs=>kvs.length≤sizeLine∧(a == sysModules)=false∧∃ vs,KV kvs vs∧h.DictOf (xaq P w) a vs
  | .dT kvs=>kvs.length≤sizeLine∧(a == sysModules)=false∧∃ xs:List (List Key × Addr × Value),
      Paired (fun (p:List Key × V) (q:List Key × Addr × Value)=>p.1=q.1∧H q.2.1=some (.tup (p.1.map kV))∧RelV p.2 q.2.2) kvs xs ∧
      ∃ o es ep,h.get? a=some o∧o.ExactDict∧o.data=.dict es ep∧es.toList=xs.map (entryOfKey (tupleKind (xaq P w)))∧(xs.map (·.1)).Nodup
  | .set S n=>h.SetOf (intKind P w) a S n
  | .ins C dx fs=>H dx=some (.own a)∧fs.length≤1000∧dx≠a∧h.get? a=some (PySem.W.instObj C dx) ∧
      ∃ mA,h.Ns1 dx mA∧(∀ f,RelO (fs.lookup f) (mA f))∧PySem.Within mA (fs.map (·.1))
  | .own _=>∃ o,h.get? a=some o
  | .xd fs=>∃ mA,h.Ns1 a mA∧∀ f,RelO (fs.lookup f) (mA f)
  | .rng lo hi=>∃ t u v,h.get? a=some { cls:=.type "range",data:=.fields #[.int lo t,.int hi u,.int 1 v] }
  | .frz o u=>h.get? a=some o∧xal H h a u
  | .tbl ps=>h.get? a=some { cls:=.none,data:=.fields ps }
  | .met f x=>h.get? a=some (PySem.W.methodObj (.ref f) (.ref x))
  | .ext φ=>φ h∧(∃ o,h.get? a=some o)∧∀ h1 h2:Heap,φ h1→(∀ o,h1.get? a=some o→h2.get? a=some o)→φ h2
def HOk (H:Hp) (h:Heap):Prop:=∀ a o,H a=some o→xal P w H h a o
end
section
variable {P:Program} {w:World} {H H':Hp} {h h':Heap} {a:Addr} {o:HO}
theorem xal.lt (x:xal P w H h a o):a < h.objs.size:=by
 cases o with
 | lst xs=>obtain ⟨_,_,_,_,e⟩:=x; exact Heap.lt_size e
 | tup xs=>obtain ⟨_,_,_,p⟩:=x; exact p.lt
 | dK kvs=>obtain ⟨_,_,_,_,o,_,_,e,_⟩:=x; exact Heap.lt_size e
 | dT kvs=>obtain ⟨_,_,_,_,o,_,_,e,_⟩:=x; exact Heap.lt_size e
 | set S n=>obtain ⟨o,_,_,_,e,_⟩:=x; exact Heap.lt_size e
 | ins C dx fs=>obtain ⟨_,_,_,e,_⟩:=x; exact Heap.lt_size e
 | own y=>obtain ⟨_,e⟩:=x; exact Heap.lt_size e
 | xd fs=>obtain ⟨_,⟨_,_,_,e,_⟩,_⟩:=x; exact Heap.lt_size e
 | rng lo hi=>obtain ⟨_,_,_,e⟩:=x; exact Heap.lt_size e
 | frz ob u=>obtain ⟨e,_⟩:=x; exact Heap.lt_size e
 | tbl ps=>exact Heap.lt_size (show h.get? a=some _ from x)
 | met f y=>exact Heap.lt_size (show h.get? a=some _ from x)
 | ext φ=>obtain ⟨_,⟨_,e⟩,_⟩:=x; exact Heap.lt_size e
theorem Paired.mapP {α β:Type} {F G:α→β→Prop}:∀ {l₁:List α} {l₂:List β},Paired F l₁ l₂→(∀ a b,F a b→G a b)→Paired G l₁ l₂
 | _,_,.nil,_=>.nil
 | _,_,.cons r t,f=>.cons (f _ _ r) (Paired.mapP t f)
theorem xal.stay (x:xal P w H h a o) (k:∀ b u,(b=a∨H b=some (.own a))→h.get? b=some u→h'.get? b=some u)
    (ho:∀ b,H b=some (.own a)→H' b=some (.own a)) (ht:∀ b xs,H b=some (.tup xs)→H' b=some (.tup xs)):xal P w H' h' a o:=by
  induction o with
  | lst xs=>obtain ⟨z,its,n,r,e⟩:=x; exact ⟨z,its,n,r,k _ _ (.inl rfl) e⟩
  | tup xs=>obtain ⟨z,its,r,ob,e,c⟩:=x; exact ⟨z,its,r,ob,k _ _ (.inl rfl) e,c⟩
  | dK kvs=>obtain ⟨z,y,vs,r,ob,es,ep,e,c⟩:=x; exact ⟨z,y,vs,r,ob,es,ep,k _ _ (.inl rfl) e,c⟩
  | dT kvs =>
    obtain ⟨z,y,xs,r,ob,es,ep,e,c⟩:=x
    exact ⟨z,y,xs,Paired.mapP r fun p q z=>⟨z.1,ht _ _ z.2.1,z.2.2⟩,ob,es,ep,k _ _ (.inl rfl) e,c⟩
  | set S n=>obtain ⟨ob,es,ep,t,e,c⟩:=x; exact ⟨ob,es,ep,t,k _ _ (.inl rfl) e,c⟩
  | ins C dx fs =>
    obtain ⟨d,z,ne,e,mA,⟨od,es,ep,e2,c⟩,r⟩:=x
    exact ⟨ho _ d,z,ne,k _ _ (.inl rfl) e,mA,⟨od,es,ep,k _ _ (.inr d) e2,c⟩,r⟩
  | own y=>obtain ⟨ob,e⟩:=x; exact ⟨ob,k _ _ (.inl rfl) e⟩
  | xd fs=>obtain ⟨mA,⟨od,es,ep,e,c⟩,r⟩:=x; exact ⟨mA,⟨od,es,ep,k _ _ (.inl rfl) e,c⟩,r⟩
  | rng lo hi=>obtain ⟨t,u,v,e⟩:=x; exact ⟨t,u,v,k _ _ (.inl rfl) e⟩
  | frz ob u ih=>obtain ⟨e,q⟩:=x; exact ⟨k _ _ (.inl rfl) e,ih q⟩
  | tbl ps =>
    have e:h.get? a=some { cls:=.none,data:=.fields ps }:=x
    show h'.get? a=some { cls:=.none,data:=.fields ps }
    exact k a _ (.inl rfl) e
  | met f y =>
    have e:h.get? a=some (PySem.W.methodObj (.ref f) (.ref y)):=x
    show h'.get? a=some (PySem.W.methodObj (.ref f) (.ref y))
    exact k a _ (.inl rfl) e
  | ext φ=>obtain ⟨p,⟨o,e⟩,st⟩:=x; exact ⟨st _ _ p fun o q=>k _ _ (.inl rfl) q,⟨o,k _ _ (.inl rfl) e⟩,st⟩
theorem HOk.lt (x:HOk P w H h) (e:H a=some o):a < h.objs.size:=(x a o e).lt
theorem HOk.fresh (x:HOk P w H h) (e:h.objs.size≤a):H a=none:=by
 cases q:H a with
 | none=>rfl
 | some u=>exact absurd (Nat.lt_of_lt_of_le (x.lt q) e) (Nat.lt_irrefl _)
theorem HOk.kept (x:HOk P w H h) (k:∀ b u,h.get? b=some u→h'.get? b=some u):HOk P w H h':=fun a o e =>
 (x a o e).stay (fun b u _ q=>k b u q) (fun _ q=>q) fun _ _ q=>q
theorem HOk.laid (x:HOk P w H h) (k:∀ b u,h.get? b=some u→h'.get? b=some u) (hp:h.objs.size≤a) (new:xal P w (upd H a o) h' a o):HOk P w (upd H a o) h':=fun b u e=>by
 have hn:=x.fresh hp
 by_cases hb:b=a
 ·subst hb; rw [xf] at e; cases e; exact new
 ·rw [xj hb] at e
  exact (x b u e).stay (fun c v _ q=>k c v q) (fun c q=>by rw [xj (xo q hn)]; exact q) fun c xs q=>by rw [xj (xo q hn)]; exact q
end
def Rd (H:Hp) (a:Addr) (u:HO):Prop:=H a=some u∨∃ o,H a=some (.frz o u)
theorem Rd.ok {P:Program} {w:World} {H:Hp} {h:Heap} {a:Addr} {u:HO} (r:Rd H a u) (x:HOk P w H h):xal P w H h a u:=by
 rcases r with r | ⟨o,r⟩
 ·exact x a u r
 ·obtain ⟨_,q⟩:=x a _ r
  exact q
def Mut:Option HO→Prop
 | some (.lst _)=>True
 | some (.dK _)=>True
 | some (.dT _)=>True
 | some (.set _ _)=>True
 | some (.ins _ _ _)=>True
 | some (.ext _)=>True
 | _=>False
section
variable {P:Program} {w:World} {H:Hp} {h h':Heap} {x e:Addr} {o':HO}
theorem HOk.write (ok:HOk P w H h) (mu:Mut (H x)) (he:e=x∨H e=some (.own x)) (k:∀ b u,b≠e→h.get? b=some u→h'.get? b=some u) (heo:∃ u,h'.get? e=some u)
    (new:xal P w (upd H x o') h' x o'):HOk P w (upd H x o') h':=fun b u q=>by
  have nown:∀ c y,H c=some (.own y)→c≠x:=fun c y r z=>by subst z; rw [r] at mu; exact mu
  have ntup:∀ c xs,H c=some (.tup xs)→c≠x:=fun c xs r z=>by subst z; rw [r] at mu; exact mu
  by_cases hb:b=x
  · subst hb; rw [xf] at q; cases q; exact new
  · rw [xj hb] at q
    by_cases hbe:b=e
    · have q':H b=some (.own x):=by
        rcases he with z | z
        · exact absurd (hbe.trans z) hb
        · rw [hbe]; exact z
      rw [q] at q'; cases q'
      obtain ⟨v,hv⟩:=heo
      exact ⟨v,by rw [hbe]; exact hv⟩
    · refine (ok b u q).stay (fun c v hc r=>k c v ?_ r) (fun c r=>by rw [xj (nown c b r)]; exact r) fun c xs r=>by rw [xj (ntup c xs r)]; exact r
      rcases hc with rfl | hc
      · exact hbe
      · rintro rfl
        rcases he with z | z
        · exact nown c b hc z
        · rw [hc] at z; cases z; exact hb rfl
end
structure Un (fs ex:List Addr) (H H':Hp) (h h':Heap):Prop where
 keep:∀ b o,h.get? b=some o→H b=none→b ∉ fs→b ∉ ex→h'.get? b=some o
 slot:∀ b o,h.get? b=some o→H b=none→b ∈ fs→b ∉ ex→∃ sl,h'.get? b=some { o with slots:=sl }
 free:∀ b o,h.get? b=some o→H b=none→b ∉ ex→H' b=none
 there:∀ b o,h.get? b=some o→b ∉ ex→∃ o',h'.get? b=some o'
 tups:∀ b xs,H b=some (.tup xs)→H' b=some (.tup xs)
 frzs:∀ b o u,H b=some (.frz o u)→H' b=some (.frz o u)
 tbls:∀ b ps,H b=some (.tbl ps)→∃ more,H' b=some (.tbl (ps ++ more))
section
variable {fs fs' ex ex':List Addr} {H H1 H2:Hp} {h h1 h2 h':Heap} {a x e:Addr} {o:HO}
theorem Un.any (u:Un fs ex H H1 h h1) {b:Addr} {ob:Obj} (q:h.get? b=some ob) (n:H b=none) (hx:b ∉ ex):∃ sl,h1.get? b=some { ob with slots:=sl }:=by
 by_cases hb:b ∈ fs
 ·exact u.slot b ob q n hb hx
 ·exact ⟨ob.slots,u.keep b ob q n hb hx⟩
theorem Un.kept (k:∀ b u,h.get? b=some u→h'.get? b=some u):Un fs ex H H h h' :=
 ⟨fun b ob q _ _ _=>k b ob q,fun b ob q _ _ _=>⟨ob.slots,k b ob q⟩,fun _ _ _ n _=>n,fun b ob q _=>⟨ob,k b ob q⟩,fun _ _ q=>q,fun _ _ _ q=>q,fun _ ps q=>⟨#[],by rw [q]; simp⟩⟩
theorem Un.refl:Un fs ex H H h h:=Un.kept fun _ _ q=>q
theorem Un.laid (k:∀ b u,h.get? b=some u→h'.get? b=some u) (hp:h.objs.size≤a) (hn:H a=none):Un fs ex H (upd H a o) h h' where
 keep:=fun b u q _ _ _=>k b u q
 slot:=fun b u q _ _ _=>⟨u.slots,k b u q⟩
 free:=fun b u q n _=>by rw [xj (Nat.ne_of_lt (Nat.lt_of_lt_of_le (Heap.lt_size q) hp))]; exact n
 there:=fun b u q _=>⟨u,k b u q⟩
 tups:=fun b xs q=>by rw [xj (xo q hn)]; exact q
 frzs:=fun b u xs q=>by rw [xj (xo q hn)]; exact q
 tbls:=fun b ps q=>⟨#[],by rw [xj (xo q hn),q]; simp⟩
theorem Un.write (mu:Mut (H x)) (he:e=x∨H e=some (.own x)) (k:∀ b u,b≠e→h.get? b=some u→h'.get? b=some u) (heo:∃ u,h'.get? e=some u):Un fs ex H (upd H x o) h h':=by
 have hx:∀ b,H b=none→b≠x:=fun b n z=>by subst z; rw [n] at mu; exact mu
 have hb:∀ b,H b=none→b≠e:=fun b n z=>by
  subst z
  rcases he with r | r
  ·exact hx b n r
  ·rw [n] at r; cases r
 have hm:∀ b u,H b=some u→¬ Mut (some u)→b≠x:=fun b u q nm z=>by subst z; rw [q] at mu; exact nm mu
 refine ⟨fun b u q n _ _=>k b u (hb b n) q,fun b u q n _ _=>⟨u.slots,k b u (hb b n) q⟩,fun b u q n _=>by rw [xj (hx b n)]; exact n,fun b u q _=>?_,
  fun b xs q=>by rw [xj (hm b _ q fun z=>z)]; exact q,fun b u xs q=>by rw [xj (hm b _ q fun z=>z)]; exact q,fun b ps q=>⟨#[],by rw [xj (hm b _ q fun z=>z),q]; simp⟩⟩
 by_cases hbe:b=e
 ·subst hbe; exact heo
 ·exact ⟨u,k b u hbe q⟩
end
def trk (h:Heap) (H:Hp):List Addr:=(List.range h.objs.size).filter fun a=>(H a).isSome
def hidT (h:Heap) (H:Hp):Heap:=PySem.W.hideAll h (trk h H)
theorem xkm (h:Heap) (H:Hp):(hidT h H).objs.size=h.objs.size:=PySem.W.hideAll_size _ _
theorem xlx {h:Heap} {H:Hp} {b:Addr} {o:Obj} (e:h.get? b=some o) (n:H b=none):(hidT h H).get? b=some o :=
 PySem.W.hideAll_get _ e fun hm=>by
  have q:(H b).isSome=true:=(List.mem_filter.mp hm).2
  rw [n] at q; simp at q
theorem xmm {h:Heap} {H:Hp} {b:Addr} {o:Obj} (e:(hidT h H).get? b=some o):h.get? b=some o∧H b=none:=by
 have e':h.get? b=some o:=PySem.W.of_hideAll (trk h H) e
 refine ⟨e',?_⟩
 cases q:H b with
 | none=>rfl
 | some x =>
  have hm:b ∈ trk h H:=List.mem_filter.mpr ⟨List.mem_range.mpr (Heap.lt_size e'),by simp [q]⟩
  have z:(hidT h H).get? b=none:=PySem.W.hideAll_none (trk h H) hm
  rw [z] at e; cases e
def xm7 (g h:Heap) (L:Addr):List (Addr × Obj):=(List.range h.objs.size).filterMap fun a=>if a=L∨(g.get? a).isSome=true then none else (h.get? a).map fun o=>(a,o)
def rest (g h:Heap) (L d:Addr):List (Addr × Obj):=(xm7 g h L).filter fun p=>decide (p.1≠d)
end L2
namespace L2
open PySem PySem.Spec PyProof.Rows
variable {q0:Bool}
structure Mod (K:PySem.W.Frag) (mg:Str→Option Value) (base:Heap):Prop where
 kin:K.In base
 glob:base.Ns mainGlobals mg
 blt:∃ mb,base.Ns builtinsNs mb∧∀ x:Str,x≠"__name__"→mb x=bootBuiltins x
 nolimit:base.NoLimit
structure Cx where
 prog:Program
 w:World
 K:PySem.W.Frag
 mg:Str→Option Value
 base:Heap
 A:Around
 N:List Str
 s₀:Shared
 H₀:Hp
 env:Env
 outer:List Env
 stack:List Env
 ex:List Addr
 fn:Str→Bool
 calm:Bool
 pn:List (Addr × Obj)
 xe:Value→Shared→Prop
def frs (l:List Env):List Addr:=l.filterMap (·.frame)
abbrev Cx.fs (X:Cx):List Addr:=frs X.outer
def Vis (sc:Scope) (x:Str):Prop:=sc.names.lookup x=some .local∨sc.names.lookup x=some .cell∨sc.names.lookup x=some .free
def Loc (sc:Scope) (x:Str):Prop:=sc.names.lookup x=some .local∨sc.names.lookup x=some .cell
def Look (env:Env) (h:Heap) (m:Str→Option Value) (x:Str) (u:Value):Prop :=
 (env.kindOf x=some .local∧m x=some u)∨((env.kindOf x=some .cell∨env.kindOf x=some .free)∧∃ c,env.cells.lookup x=some c∧h.IsCell c (some u))
structure Cx.Ok (X:Cx):Prop where
 mod:Mod X.K X.mg X.base
 kind:X.env.scope.kind=.function
 glob:X.env.globals=mainGlobals
 blt:X.env.builtins=builtinsNs
 above:X.s₀.heap.objs.size≤X.env.locals
 inj:∀ x y c,X.env.cells.lookup x=some c→X.env.cells.lookup y=some c→x=y
 has:∀ x,(X.env.kindOf x=some .cell∨X.env.kindOf x=some .free)→∃ c,X.env.cells.lookup x=some c
 cab:∀ x c,X.fn x=true→X.env.cells.lookup x=some c→X.s₀.heap.objs.size≤c
 hd:X.calm=true→X.A.handled=none
 frames:X.A.frames=some X.stack
 stk:X.stack=X.outer∨(X.stack=X.env :: X.outer∧X.env.frame=some X.env.locals)
 exf:∀ b ∈ X.ex,b≠X.env.locals∧∀ x c,X.env.cells.lookup x=some c→c≠b
 bs:∀ b o,X.base.get? b=some o→X.s₀.heap.get? b=some o∧X.H₀ b=none
 bsz:X.base.objs.size≤X.s₀.heap.objs.size
 noex:∀ b o,X.base.get? b=some o→b ∉ X.ex
 exfs:∀ b ∈ X.ex,b ∉ X.fs
 funs:X.s₀.heap.FunFrames X.base X.outer
 frf:∀ b ∈ X.fs,X.H₀ b=none
structure Inv (X:Cx) (pins:List (Addr × Obj)) (σ:List (Option V)) (H:Hp) (s:Shared):Prop where
 ok:X.Ok
 os:s.os=X.s₀.os
 bare:AllBare s.gens
 base:Un X.fs X.ex X.H₀ H X.s₀.heap s.heap
 loc:∃ m,s.heap.Ns X.env.locals m∧∀ (i:Nat) (x:Str) (v:V),X.N[i]?=some x→σ[i]?=some (some v)→Vis X.env.scope x→∃ u,RelV v u∧Look X.env s.heap m x u
 cell:∀ x c,X.env.cells.lookup x=some c→∃ v,s.heap.IsCell c v
 free:H X.env.locals=none
 freeC:∀ x c,X.env.cells.lookup x=some c→H c=none
 pin:∀ p ∈ X.pn ++ pins,s.heap.get? p.1=some p.2∧H p.1=none∧p.1≠X.env.locals∧p.1 ∉ X.fs∧∀ v,p.2.data≠.cell v
 hok:HOk X.prog X.w H s.heap
 len:σ.length=X.N.length
section
variable {X:Cx} {pins:List (Addr × Obj)} {σ:List (Option V)} {H H':Hp} {s:Shared} {h':Heap}
theorem Cx.Ok.nofr (ok:X.Ok) {b:Addr} {o:Obj} (e:X.base.get? b=some o):b ∉ X.fs:=fun hb=>by
 have:=(ok.funs.mem hb).1
 rw [e] at this; cases this
theorem Inv.bs (I:Inv X pins σ H s):∀ b o,X.base.get? b=some o→s.heap.get? b=some o∧H b=none:=fun b o e =>
 ⟨I.base.keep b o (I.ok.bs b o e).1 (I.ok.bs b o e).2 (I.ok.nofr e) (I.ok.noex b o e),I.base.free b o (I.ok.bs b o e).1 (I.ok.bs b o e).2 (I.ok.noex b o e)⟩
theorem Inv.bk (I:Inv X pins σ H s):∀ b o,X.base.get? b=some o→s.heap.get? b=some o:=fun b o e=>(I.bs b o e).1
theorem Inv.mod (I:Inv X pins σ H s):Mod X.K X.mg X.base:=I.ok.mod
theorem Inv.kIn (I:Inv X pins σ H s):X.K.In s.heap:=I.ok.mod.kin.keeps I.bk
theorem Inv.fr (I:Inv X pins σ H s):∃ m,Fr X.base X.env.locals s.heap m :=
 let ⟨m,hn,_⟩:=I.loc
 ⟨m,hn,I.bk,Nat.le_trans I.ok.bsz I.ok.above⟩
theorem Inv.lt (I:Inv X pins σ H s):X.env.locals < s.heap.objs.size:=let ⟨_,hn,_⟩:=I.loc; hn.lt
theorem Inv.sz (I:Inv X pins σ H s):X.s₀.heap.objs.size≤s.heap.objs.size:=Nat.le_trans I.ok.above (Nat.le_of_lt I.lt)
theorem Inv.nofs (I:Inv X pins σ H s) {a:Addr} (h:s.heap.objs.size≤a):a ∉ X.fs:=fun hb=>by
 obtain ⟨_,o,ho,_⟩:=I.ok.funs.mem hb
 exact absurd (Nat.lt_of_lt_of_le (Heap.lt_size ho) (Nat.le_trans I.sz h)) (Nat.lt_irrefl _)
theorem Inv.cne (I:Inv X pins σ H s):∀ x c,X.env.cells.lookup x=some c→c≠X.env.locals:=fun x c e z=>by
 obtain ⟨v,o,ho,hd⟩:=I.cell x c e
 obtain ⟨m,⟨o',es,ep,ho',hd',_⟩,_⟩:=I.loc
 rw [z,ho'] at ho; cases ho; rw [hd'] at hd; cases hd
theorem Inv.funs (I:Inv X pins σ H s):s.heap.FunFrames X.base X.outer:=by
 have all:∀ (l:List Env),(∀ b ∈ frs l,b ∈ X.fs)→X.s₀.heap.FunFrames X.base l→s.heap.FunFrames X.base l:=by
  intro l
  induction l with
  | nil=>intro _ _; trivial
  | cons env r ih =>
   intro hs hl
   obtain ⟨hk,⟨L,o,hf,hn,ho,hd⟩,hr⟩:=hl
   have hL:L ∈ X.fs:=hs L (by unfold frs; rw [List.filterMap_cons,hf]; exact List.mem_cons_self)
   obtain ⟨sl,e⟩:=I.base.slot L o ho (I.ok.frf L hL) hL fun z=>I.ok.exfs L z hL
   exact ⟨hk,⟨L,_,hf,hn,e,hd⟩,ih (fun b hb=>hs b (by unfold frs; rw [List.filterMap_cons,hf]; exact List.mem_cons_of_mem _ hb)) hr⟩
 exact all X.outer (fun _ hb=>hb) I.ok.funs
theorem Inv.stack (I:Inv X pins σ H s):s.heap.FunFrames X.base X.stack:=by
 rcases I.ok.stk with e | ⟨e,hf⟩
 ·rw [e]; exact I.funs
 ·rw [e]
  obtain ⟨m,hn,_⟩:=I.loc
  refine .cons (by rw [I.ok.kind]; decide) hf hn ?_ I.funs
  exact Heap.get?_none_of_le (Nat.le_trans I.ok.bsz I.ok.above)
theorem Inv.stkSub (I:Inv X pins σ H s):∀ b ∈ frs X.stack,b ∈ X.env.locals :: X.fs:=fun b hb=>by
 rcases I.ok.stk with e | ⟨e,hf⟩
 ·rw [e] at hb; exact List.mem_cons_of_mem _ hb
 ·rw [e] at hb
  unfold frs at hb
  rw [List.filterMap_cons,hf] at hb
  exact hb
theorem Inv.stkFree (I:Inv X pins σ H s):∀ b ∈ frs X.stack,H b=none:=fun b hb=>by
 rcases List.mem_cons.mp (I.stkSub b hb) with e | hb
 ·rw [e]; exact I.free
 ·obtain ⟨_,o,ho,_⟩:=I.ok.funs.mem hb
  exact I.base.free b o ho (I.ok.frf b hb) fun z=>I.ok.exfs b z hb
theorem Inv.step {g':Array GenState} {t':Nat} {d':Drawn} {ch:List Addr} (I:Inv X pins σ H s)
    (hch:∀ b ∈ ch,(b ∈ X.ex∨X.s₀.heap.objs.size≤b)∧b≠X.env.locals∧(∀ x c,X.env.cells.lookup x=some c→c≠b)∧∀ p ∈ X.pn ++ pins,p.1≠b)
    (keep:∀ b o,b≠X.env.locals→b ∉ X.fs→b ∉ ch→s.heap.get? b=some o→H b=none→h'.get? b=some o)
    (slot:∀ b o,b≠X.env.locals→b ∈ X.fs→b ∉ ch→s.heap.get? b=some o→H b=none→∃ sl,h'.get? b=some { o with slots:=sl }) (free:∀ b o,b ∉ ch→s.heap.get? b=some o→H b=none→H' b=none)
    (there:∀ b o,b ∉ ch→s.heap.get? b=some o→∃ o',h'.get? b=some o')
    (tups:∀ b xs,H b=some (.tup xs)→H' b=some (.tup xs)) (frzs:∀ b o u,H b=some (.frz o u)→H' b=some (.frz o u)) (tbls:∀ b ps,H b=some (.tbl ps)→∃ more,H' b=some (.tbl (ps ++ more)))
    (ns:∀ m,s.heap.Ns X.env.locals m→h'.Ns X.env.locals m) (hok:HOk X.prog X.w H' h') (hg:AllBare g') :
    Inv X pins σ H' { s with heap:=h',gens:=g',drawn:=d',toks:=t' }:=by
  have neL:∀ b o,X.s₀.heap.get? b=some o→b≠X.env.locals:=fun b o e=>Nat.ne_of_lt (Nat.lt_of_lt_of_le (Heap.lt_size e) I.ok.above)
  have neC:∀ b o,X.s₀.heap.get? b=some o→b ∉ X.ex→b ∉ ch:=fun b o e hx hb=>by
    rcases (hch b hb).1 with z | z
    · exact hx z
    · exact absurd (Nat.lt_of_lt_of_le (Heap.lt_size e) z) (Nat.lt_irrefl _)
  have cellK:∀ x c,X.env.cells.lookup x=some c→∀ v,s.heap.IsCell c v→h'.IsCell c v:=fun x c e v ⟨o,ho,hd⟩=>by
    have nch:c ∉ ch:=fun z=>(hch c z).2.2.1 x c e rfl
    by_cases hc:c ∈ X.fs
    · obtain ⟨sl,q⟩:=slot c o (I.cne x c e) hc nch ho (I.freeC x c e)
      exact ⟨_,q,hd⟩
    · exact ⟨o,keep c o (I.cne x c e) hc nch ho (I.freeC x c e),hd⟩
  refine ⟨I.ok,I.os,hg,⟨fun b o e n hb hx=>?_,fun b o e n hb hx=>?_,fun b o e n hx=>?_,fun b o e hx=>?_,fun b xs e=>tups b xs (I.base.tups b xs e),fun b o xs e=>frzs b o xs (I.base.frzs b o xs e),fun b ps e=>?_⟩,?_,fun x c e=>?_,?_,fun x c e=>?_,fun p hp=>?_,hok,I.len⟩
  · exact keep b o (neL b o e) hb (neC b o e hx) (I.base.keep b o e n hb hx) (I.base.free b o e n hx)
  · obtain ⟨sl,e1⟩:=I.base.slot b o e n hb hx
    obtain ⟨sl',e2⟩:=slot b _ (neL b o e) hb (neC b o e hx) e1 (I.base.free b o e n hx)
    exact ⟨sl',e2⟩
  · obtain ⟨o',e1⟩:=I.base.there b o e hx
    exact free b o' (neC b o e hx) e1 (I.base.free b o e n hx)
  · obtain ⟨o',e1⟩:=I.base.there b o e hx
    exact there b o' (neC b o e hx) e1
  · obtain ⟨m1,e1⟩:=I.base.tbls b ps e
    obtain ⟨m2,e2⟩:=tbls b _ e1
    exact ⟨m1 ++ m2,by rw [e2,Array.append_assoc]⟩
  · obtain ⟨m,hn,hl⟩:=I.loc
    refine ⟨m,ns m hn,fun i x v e1 e2 e3=>?_⟩
    obtain ⟨u,r,l⟩:=hl i x v e1 e2 e3
    refine ⟨u,r,?_⟩
    rcases l with l | ⟨k,c,e,z⟩
    · exact .inl l
    · exact .inr ⟨k,c,e,cellK x c e _ z⟩
  · obtain ⟨v,z⟩:=I.cell x c e
    exact ⟨v,cellK x c e v z⟩
  · obtain ⟨m,⟨o,_,_,ho,_⟩,_⟩:=I.loc
    exact free _ o (fun z=>(hch _ z).2.1 rfl) ho I.free
  · obtain ⟨v,o,ho,hd⟩:=I.cell x c e
    exact free c o (fun z=>(hch c z).2.2.1 x c e rfl) ho (I.freeC x c e)
  · obtain ⟨e,n,ne,nf,d⟩:=I.pin p hp
    have nch:p.1 ∉ ch:=fun z=>(hch p.1 z).2.2.2 p hp rfl
    exact ⟨keep p.1 p.2 ne nf nch e n,free p.1 p.2 nch e n,ne,nf,d⟩
theorem Inv.un {t':Nat} (I:Inv X pins σ H s) (u:Un X.fs [] H H' s.heap h') (hok:HOk X.prog X.w H' h'):Inv X pins σ H' { s with heap:=h',toks:=t' }:=by
 obtain ⟨m,⟨o,es,ep,ho,r⟩,_⟩:=id I.loc
 obtain ⟨sl,hL⟩:=u.any ho I.free (by simp)
 exact I.step (g':=s.gens) (d':=s.drawn) (ch:=[]) (fun _ z=>nomatch z) (fun b o _ hb _ e n=>u.keep b o e n hb (by simp)) (fun b o _ hb _ e n=>u.slot b o e n hb (by simp)) (fun b o _ e n=>u.free b o e n (by simp)) (fun b o _ e=>u.there b o e (by simp)) u.tups u.frzs u.tbls (fun m' hm=>by
  obtain ⟨o',es',ep',ho',r'⟩:=hm
  rw [ho] at ho'; cases ho'
  exact ⟨_,es',ep',hL,r'⟩) hok I.bare
theorem Inv.call {g':Array GenState} {t':Nat} {d':Drawn} {ch:List Addr} (I:Inv X pins σ H s) (u:Un (frs X.stack) ch H H' s.heap h') (hok:HOk X.prog X.w H' h') (hg:AllBare g')
    (hch:∀ b ∈ ch,(b ∈ X.ex∨X.s₀.heap.objs.size≤b)∧b≠X.env.locals∧(∀ x c,X.env.cells.lookup x=some c→c≠b)∧∀ p ∈ X.pn ++ pins,p.1≠b) :
    Inv X pins σ H' { s with heap:=h',gens:=g',drawn:=d',toks:=t' }:=by
  obtain ⟨m,⟨o,es,ep,ho,r⟩,_⟩:=id I.loc
  obtain ⟨sl,hL⟩:=u.any ho I.free fun z=>(hch _ z).2.1 rfl
  exact I.step (ch:=ch) hch (fun b o hL hb hc e n=>u.keep b o e n (fun z=>(List.mem_cons.mp (I.stkSub b z)).elim hL hb) hc) (fun b o _ _ hc e n=>u.any e n hc) (fun b o hc e n=>u.free b o e n hc) (fun b o hc e=>u.there b o e hc) u.tups u.frzs u.tbls (fun m' hm=>by
    obtain ⟨o',es',ep',ho',r'⟩:=hm
    rw [ho] at ho'; cases ho'
    exact ⟨_,es',ep',hL,r'⟩) hok hg
theorem Inv.turned {t':Nat} {it:Addr} (I:Inv X pins σ H s) (k:∀ b o,b≠it→s.heap.get? b=some o→h'.get? b=some o) (hn:H it=none) (hL:it≠X.env.locals)
    (h1:it ∈ X.ex∨X.s₀.heap.objs.size≤it) (h2:∀ x c,X.env.cells.lookup x=some c→c≠it) (h3:∀ p ∈ X.pn ++ pins,p.1≠it):Inv X pins σ H { s with heap:=h',toks:=t' }:=by
  have nit:∀ b u,H b=some u→b≠it:=fun b u e z=>by rw [z,hn] at e; cases e
  refine I.step (g':=s.gens) (d':=s.drawn) (ch:=[it]) (fun b hb=>?_) (fun b o _ _ hc e _=>k b o (fun z=>hc (by simp [z])) e) (fun b o _ _ hc e _=>⟨o.slots,k b o (fun z=>hc (by simp [z])) e⟩) (fun _ _ _ _ n=>n)
    (fun b o hc e=>⟨o,k b o (fun z=>hc (by simp [z])) e⟩) (fun _ _ e=>e) (fun _ _ _ e=>e) (fun b ps e=>⟨#[],by rw [e]; simp⟩) (fun m hm=>?_) (fun b u e=>?_) I.bare
  · have e:b=it:=by simpa using hb
    subst e
    exact ⟨h1,hL,h2,h3⟩
  · obtain ⟨o,es,ep,ho,r⟩:=hm
    exact ⟨o,es,ep,k _ o (Ne.symm hL) ho,r⟩
  · refine (I.hok b u e).stay (fun c v hc q=>k c v ?_ q) (fun _ q=>q) fun _ _ q=>q
    rcases hc with z | z
    · rw [z]; exact nit b u e
    · exact nit c _ z
theorem Inv.tok (I:Inv X pins σ H s) (t:Nat):Inv X pins σ H { s with toks:=t }:=I.un (h':=s.heap) (t':=t) Un.refl I.hok
theorem Inv.kept {t':Nat} (I:Inv X pins σ H s) (k:∀ b u,s.heap.get? b=some u→h'.get? b=some u):Inv X pins σ H { s with heap:=h',toks:=t' }:=I.un (Un.kept k) (I.hok.kept k)
theorem Inv.laid {a:Addr} {o:HO} {t':Nat} (I:Inv X pins σ H s) (k:∀ b u,s.heap.get? b=some u→h'.get? b=some u) (hp:s.heap.objs.size≤a) (new:xal X.prog X.w (upd H a o) h' a o) :
    Inv X pins σ (upd H a o) { s with heap:=h',toks:=t' }:=I.un (Un.laid k hp (I.hok.fresh hp)) (I.hok.laid k hp new)
theorem Inv.write {x e:Addr} {o:HO} {t':Nat} (I:Inv X pins σ H s) (mu:Mut (H x)) (he:e=x∨H e=some (.own x)) (k:∀ b u,b≠e→s.heap.get? b=some u→h'.get? b=some u) (heo:∃ u,h'.get? e=some u)
    (new:xal X.prog X.w (upd H x o) h' x o):Inv X pins σ (upd H x o) { s with heap:=h',toks:=t' }:=I.un (Un.write mu he k heo) (I.hok.write mu he k heo new)
theorem Inv.weak {σ':List (Option V)} (I:Inv X pins σ H s) (hl:σ'.length=σ.length) (w:∀ (i:Nat) v,σ'[i]?=some (some v)→σ[i]?=some (some v)):Inv X pins σ' H s :=
 ⟨I.ok,I.os,I.bare,I.base,let ⟨m,hn,hl'⟩:=I.loc; ⟨m,hn,fun i x v e1 e2 e3=>hl' i x v e1 (w i v e2) e3⟩,I.cell,I.free,I.freeC,I.pin,I.hok,hl.trans I.len⟩
theorem Inv.pins_of {pins':List (Addr × Obj)} (I:Inv X pins σ H s) (h:∀ p ∈ pins',s.heap.get? p.1=some p.2∧H p.1=none∧p.1≠X.env.locals∧p.1 ∉ X.fs∧∀ v,p.2.data≠.cell v):Inv X pins' σ H s :=
 ⟨I.ok,I.os,I.bare,I.base,I.loc,I.cell,I.free,I.freeC,fun p hp=>(List.mem_append.mp hp).elim (fun z=>I.pin p (List.mem_append_left _ z)) (h p),I.hok,I.len⟩
theorem xe0 {N:List Str} (hN:N.Nodup) {i j:Nat} {x:Str} (a:N[i]?=some x) (b:N[j]?=some x):i=j:=by
 obtain ⟨h1,e1⟩:=List.getElem?_eq_some_iff.mp a
 obtain ⟨h2,e2⟩:=List.getElem?_eq_some_iff.mp b
 exact (List.getElem_inj hN).mp (e1.trans e2.symm)
theorem xfv {M:Model} {A:Around} {E:Value→Shared→Prop} {i:Nat} {x:Str} {v:V} {u:Value} {Q:Unit→Shared→Prop} (I:Inv X pins σ H s) (hN:X.N.Nodup) (hi:X.N[i]?=some x) (hx:Loc X.env.scope x) (r:RelV v u)
    (h:∀ s',Inv X pins (σ.set i (some v)) H s'→(∃ a,Heap.SameBut a s.heap s'.heap∧(a=X.env.locals∨X.env.cells.lookup x=some a))→Q () s') (hf:X.fn x=true∨X.env.scope.names.lookup x=some .local:=by first | exact .inl rfl | exact .inr rfl | assumption):wpAny M A (storeName X.env x u) Q E s:=by
  obtain ⟨m,hn,hl⟩:=id I.loc
  have hcls:(X.env.scope.kind == .class || (X.env.scope.kind == .module && X.env.locals != X.env.globals))=false:=by rw [I.ok.kind]; rfl
  have hiσ:i < σ.length:=by rw [I.len]; exact (List.getElem?_eq_some_iff.mp hi).1
  have cne:=I.cne
  have tracked:∀ {a:Addr} {h':Heap},(∃ o,s.heap.get? a=some o∧H a=none)→Heap.SameBut a s.heap h'→HOk X.prog X.w H h':=fun {a h'} ha hs b ob e=>by
    obtain ⟨_,_,hfree⟩:=ha
    refine (I.hok b ob e).stay (fun c w' hc q=>(hs.2 c ?_).trans q) (fun _ q=>q) fun _ _ q=>q
    rintro rfl
    rcases hc with rfl | hc
    · rw [hfree] at e; cases e
    · rw [hfree] at hc; cases hc
  rcases hx with hk | hk
  · refine wpAny_storeName_local hk hn (fun h' hn' hs=>?_) hcls
    obtain ⟨oL,_,_,hoL,_⟩:=id hn
    refine h _ ⟨I.ok,I.os,I.bare,⟨fun b o e n hb hx=>?_,fun b o e n hb hx=>?_,I.base.free,fun b o e hx=>?_,I.base.tups,I.base.frzs,I.base.tbls⟩,⟨_,hn',fun j y v' e1 e2 e3=>?_⟩,fun y c e=>?_,I.free,I.freeC,fun p hp=>?_,tracked ⟨oL,hoL,I.free⟩ hs,by simpa using I.len⟩ ⟨_,hs,.inl rfl⟩
    · exact (hs.2 b (Nat.ne_of_lt (Nat.lt_of_lt_of_le (Heap.lt_size e) I.ok.above))).trans (I.base.keep b o e n hb hx)
    · obtain ⟨sl,e1⟩:=I.base.slot b o e n hb hx
      exact ⟨sl,(hs.2 b (Nat.ne_of_lt (Nat.lt_of_lt_of_le (Heap.lt_size e) I.ok.above))).trans e1⟩
    · obtain ⟨o',e1⟩:=I.base.there b o e hx
      exact ⟨o',(hs.2 b (Nat.ne_of_lt (Nat.lt_of_lt_of_le (Heap.lt_size e) I.ok.above))).trans e1⟩
    · by_cases hj:j=i
      · subst hj
        rw [hi] at e1; cases e1
        rw [List.getElem?_set_self hiσ] at e2
        cases e2
        exact ⟨u,r,.inl ⟨hk,by simp⟩⟩
      · rw [List.getElem?_set_ne (Ne.symm hj)] at e2
        obtain ⟨u',r',q⟩:=hl j y v' e1 e2 e3
        refine ⟨u',r',?_⟩
        rcases q with ⟨k,e⟩ | ⟨k,c,e,z⟩
        · refine .inl ⟨k,?_⟩
          have:y≠x:=fun e=>hj (xe0 hN e1 (e ▸ hi))
          simp [this,e]
        · exact .inr ⟨k,c,e,z.sameBut hs (cne y c e)⟩
    · obtain ⟨w',z⟩:=I.cell y c e
      exact ⟨w',z.sameBut hs (cne y c e)⟩
    · obtain ⟨e,n,ne,nf,d⟩:=I.pin p hp
      exact ⟨(hs.2 p.1 ne).trans e,n,ne,nf,d⟩
  · have hfn:X.fn x=true:=by
      rcases hf with z | z
      · exact z
      · rw [z] at hk; cases hk
    obtain ⟨c,hc⟩:=I.ok.has x (.inl hk)
    obtain ⟨w',z⟩:=I.cell x c hc
    refine wpAny_storeName_cell I.ok.kind hk hc z (fun h' hc' hs=>?_)
    obtain ⟨oc,hoc,hocd⟩:=id z
    refine h { s with heap:=h' } ⟨I.ok,I.os,I.bare,⟨fun b o e n hb hx=>?_,fun b o e n hb hx=>?_,I.base.free,fun b o e hx=>?_,I.base.tups,I.base.frzs,I.base.tbls⟩,⟨m,hn.sameBut hs (Ne.symm (cne x c hc)),fun j y v' e1 e2 e3=>?_⟩,fun y c' e=>?_,I.free,I.freeC,fun p hp=>?_,tracked ⟨oc,hoc,I.freeC x c hc⟩ hs,by simpa using I.len⟩ ⟨c,hs,.inr hc⟩
    · exact (hs.2 b (Nat.ne_of_lt (Nat.lt_of_lt_of_le (Heap.lt_size e) (I.ok.cab x c hfn hc)))).trans (I.base.keep b o e n hb hx)
    · obtain ⟨sl,e1⟩:=I.base.slot b o e n hb hx
      exact ⟨sl,(hs.2 b (Nat.ne_of_lt (Nat.lt_of_lt_of_le (Heap.lt_size e) (I.ok.cab x c hfn hc)))).trans e1⟩
    · obtain ⟨o',e1⟩:=I.base.there b o e hx
      exact ⟨o',(hs.2 b (Nat.ne_of_lt (Nat.lt_of_lt_of_le (Heap.lt_size e) (I.ok.cab x c hfn hc)))).trans e1⟩
    · by_cases hj:j=i
      · subst hj
        rw [hi] at e1; cases e1
        rw [List.getElem?_set_self hiσ] at e2
        cases e2
        exact ⟨u,r,.inr ⟨.inl hk,c,hc,hc'⟩⟩
      · rw [List.getElem?_set_ne (Ne.symm hj)] at e2
        obtain ⟨u',r',q⟩:=hl j y v' e1 e2 e3
        refine ⟨u',r',?_⟩
        rcases q with q | ⟨k,c',e,z'⟩
        · exact .inl q
        · refine .inr ⟨k,c',e,z'.sameBut hs ?_⟩
          rintro rfl
          exact hj (xe0 hN e1 (I.ok.inj _ _ _ e hc ▸ hi))
    · by_cases hcc:c'=c
      · subst hcc; exact ⟨_,hc'⟩
      · obtain ⟨w2,z2⟩:=I.cell y c' e
        exact ⟨w2,z2.sameBut hs hcc⟩
    · obtain ⟨e,n,ne,nf,d⟩:=I.pin p hp
      refine ⟨(hs.2 p.1 ?_).trans e,n,ne,nf,d⟩
      intro q
      rw [q,hoc] at e
      have q':oc=p.2:=Option.some.inj e
      exact d w' (by rw [← q']; exact hocd)
theorem xe4 {M:Model} {A:Around} {E:Value→Shared→Prop} {i:Nat} {x:Str} {v:V} {u:Value} {Q:Unit→Shared→Prop} (I:Inv X pins σ H s) (hN:X.N.Nodup) (hi:X.N[i]?=some x) (hx:Loc X.env.scope x) (r:RelV v u)
    (h:∀ s',Inv X pins (σ.set i (some v)) H s'→Q () s') (hf:X.fn x=true∨X.env.scope.names.lookup x=some .local:=by first | exact .inl rfl | exact .inr rfl | assumption):wpAny M A (storeName X.env x u) Q E s :=
  xfv I hN hi hx r (fun s' I' _=>h s' I') hf
theorem Inv.call' {s':Shared} {ch:List Addr} (I:Inv X pins σ H s) (ho:s'.os=s.os) (u:Un (frs X.stack) ch H H' s.heap s'.heap) (hok:HOk X.prog X.w H' s'.heap) (hg:AllBare s'.gens)
    (hch:∀ b ∈ ch,(b ∈ X.ex∨X.s₀.heap.objs.size≤b)∧b≠X.env.locals∧(∀ x c,X.env.cells.lookup x=some c→c≠b)∧∀ p ∈ X.pn ++ pins,p.1≠b):Inv X pins σ H' s':=by
  obtain ⟨h',g',d',t',o'⟩:=s'
  have e:o'=s.os:=ho
  subst e
  exact I.call (g':=g') (t':=t') (d':=d') u hok hg hch
end
abbrev XK:=Addr→Addr→Hp→Prop
abbrev St:=List (Option V)
abbrev VK:=V→Hp→Prop
abbrev TE:=St→Hp→VK→Prop
abbrev TT:=St→Hp→(Bool→Hp→Prop)→Prop
abbrev TA:=St→Hp→(List V→Hp→Prop)→Prop
structure Ends where
 nx:St→Hp→Prop
 rt:VK
 bk:St→Hp→Prop:=fun _ _=>False
 ct:St→Hp→Prop:=fun _ _=>False
abbrev TS:=Ends→St→Hp→Prop
def EP (X:Cx) (pins:List (Addr × Obj)) (σ:St) (Q:VK) (u:Value) (s':Shared):Prop:=∃ v H',Inv X pins σ H' s'∧RelV v u∧Q v H'
def TP (X:Cx) (pins:List (Addr × Obj)) (σ:St) (Q:Bool→Hp→Prop) (b:Bool) (s':Shared):Prop:=∃ H',Inv X pins σ H' s'∧Q b H'
def AP (X:Cx) (pins:List (Addr × Obj)) (σ:St) (Q:List V→Hp→Prop) (us:List Value) (s':Shared):Prop:=∃ vs H',Inv X pins σ H' s'∧Vals vs us∧Q vs H'
def SP (X:Cx) (pins:List (Addr × Obj)) (D:Ends) (f:Flow) (s':Shared):Prop :=
 match f with
 | .next=>∃ σ' H',Inv X pins σ' H' s'∧D.nx σ' H'
 | .brk=>∃ σ' H',Inv X pins σ' H' s'∧D.bk σ' H'
 | .cont=>∃ σ' H',Inv X pins σ' H' s'∧D.ct σ' H'
 | .ret u=>∃ v σ' H',Inv X pins σ' H' s'∧RelV v u∧D.rt v H'
def PE (X:Cx) (e:Expr) (t:TE):Prop :=
 ∀ (pins:List (Addr × Obj)) (s:Shared) (σ:St) (H:Hp) (Q:VK),Inv X pins σ H s→t σ H Q→wpAny (model X.prog X.w) X.A (eval e X.env) (EP X pins σ Q) X.xe s
def PT (X:Cx) (e:Expr) (t:TT):Prop :=
 ∀ (pins:List (Addr × Obj)) (s:Shared) (σ:St) (H:Hp) (Q:Bool→Hp→Prop),Inv X pins σ H s→t σ H Q→wpAny (model X.prog X.w) X.A (isTrue e X.env (eval e X.env)) (TP X pins σ Q) X.xe s
def PW (X:Cx) (e:Expr) (t:TT):Prop :=
 ∀ (whole:Sem Value) (pins:List (Addr × Obj)) (s:Shared) (σ:St) (H:Hp) (Q:Bool→Hp→Prop),Inv X pins σ H s→t σ H Q→wpAny (model X.prog X.w) X.A (isTrue e X.env whole) (TP X pins σ Q) X.xe s
theorem PW.pt {X:Cx} {e:Expr} {t:TT} (h:PW X e t):PT X e t:=h _
def PA (X:Cx) (es:List Expr) (t:TA):Prop :=
 ∀ (pos:Pos) (pins:List (Addr × Obj)) (s:Shared) (σ:St) (H:Hp) (Q:List V→Hp→Prop),Inv X pins σ H s→t σ H Q→wpAny (model X.prog X.w) X.A (spliced (backTo pos (starEach es X.env))) (AP X pins σ Q) X.xe s
def PS (X:Cx) (st:Stmt) (t:TS):Prop :=
 ∀ (pins:List (Addr × Obj)) (s:Shared) (σ:St) (H:Hp) (D:Ends),Inv X pins σ H s→t D σ H→wpAny (model X.prog X.w) X.A (exec st X.env) (SP X pins D) X.xe s
def PSs (X:Cx) (st:List Stmt) (t:TS):Prop :=
 ∀ (pins:List (Addr × Obj)) (s:Shared) (σ:St) (H:Hp) (D:Ends),Inv X pins σ H s→t D σ H→wpAny (model X.prog X.w) X.A (execs st X.env) (SP X pins D) X.xe s
theorem thn {α:Type} {t:Sem α} {Q Q':α→Shared→Prop} {M:Model} {A:Around} {E:Value→Shared→Prop} {s:Shared} (h:wpAny M A t Q E s) (hQ:∀ a s,Q a s→Q' a s):wpAny M A t Q' E s:=wpAny_mono h hQ fun _ _ x=>x
end L2
namespace L2
open PySem PySem.Spec PyProof.Rows
variable {q0:Bool}
section
variable {X:Cx}
def tVar (i:Nat):TE:=fun σ H Q=>∃ v,σ[i]?=some (some v)∧Q v H
def tC (v:V):TE:=fun _ H Q=>Q v H
theorem xn2 {i:Nat} {x:Str} {pos:Pos} (hN:X.N[i]?=some x) (hv:Vis X.env.scope x) (hd:(x == ("__debug__":Str))=false:=by decide) (hcd:(x == ("__classdict__":Str))=false:=by decide):PE X (.Name x pos) (tVar i):=by
 intro pins s σ H Q I h
 obtain ⟨v,e,h⟩:=h
 obtain ⟨m,hn,hl⟩:=I.loc
 obtain ⟨u,r,l⟩:=hl i x v hN e hv
 have fin:EP X pins σ Q u s:=⟨v,H,I,r,h⟩
 rcases l with ⟨hk,hm⟩ | ⟨hk,c,hc,hcell⟩
 ·exact wpAny_Name (wpAny_loadName_local I.ok.kind hk hn hm fin) hd
 ·rcases hk with hk | hk
  ·exact wpAny_Name (wpAny_loadName_cell I.ok.kind hk hc hcell fin) hd
  ·exact wpAny_Name (wpAny_loadName_free I.ok.kind hk hc hcell fin hcd) hd
theorem xk {i j pos}:PE X (.Constant (.int i) j pos) (tC (.int i)):=fun _ _ _ H _ I h=>wpAny_Constant_int ⟨.int i,H,I.tok _,⟨_,rfl⟩,h⟩
theorem xpn {b j pos}:PE X (.Constant (.bool b) j pos) (tC (.bl b)):=fun _ _ _ H _ I h=>Constant_bool ⟨.bl b,H,I,rfl,h⟩
theorem xaj {j pos}:PE X (.Constant .none j pos) (tC .non):=fun _ _ _ H _ I h=>Constant_none ⟨.non,H,I,rfl,h⟩
theorem xv {x j pos}:PE X (.Constant (.str x) j pos) (tC (.str x)):=fun _ _ _ H _ I h=>Calls.Constant_str ⟨.str x,H,I.tok _,⟨_,rfl⟩,h⟩
def Gl (X:Cx) (x:Str):Prop:=X.env.kindOf x=some .globalImplicit
theorem xcv {E:Value→Shared→Prop} {pins:List (Addr × Obj)} {s:Shared} {σ:St} {H:Hp} {x:Str} {u:Value} {pos:Pos} {Q:Value→Shared→Prop} (I:Inv X pins σ H s) (hg:Gl X x) (hm:X.mg x=some u) (h:Q u s)
    (hd:(x == ("__debug__":Str))=false:=by decide):wpAny (model X.prog X.w) X.A (eval (.Name x pos) X.env) Q E s :=
  Calls.Name_function_global I.ok.kind hg (Calls.loadGlobal_global (by rw [I.ok.glob]; exact I.mod.glob.keeps I.bk) hm h) hd
theorem xdz {E:Value→Shared→Prop} {pins:List (Addr × Obj)} {s:Shared} {σ:St} {H:Hp} {x:Str} {u:Value} {pos:Pos} {Q:Value→Shared→Prop} (I:Inv X pins σ H s) (hg:Gl X x) (hm:X.mg x=none) (hv:bootBuiltins x=some u) (h:Q u s)
    (hn:x≠"__name__":=by decide) (hd:(x == ("__debug__":Str))=false:=by decide):wpAny (model X.prog X.w) X.A (eval (.Name x pos) X.env) Q E s:=by
  obtain ⟨mb,h1,h2⟩:=I.mod.blt
  exact Calls.Name_function_global I.ok.kind hg (Calls.loadGlobal_builtin (by rw [I.ok.glob]; exact I.mod.glob.keeps I.bk) hm (by rw [I.ok.blt]; exact h1.keeps I.bk) ((h2 x hn).trans hv) h) hd
theorem xbd {x:Str} {v:V} {u:Value} {pos:Pos} (hg:Gl X x) (hm:X.mg x=some u) (r:RelV v u) (hd:(x == ("__debug__":Str))=false:=by decide):PE X (.Name x pos) (tC v) :=
 fun _ _ _ H _ I h=>xcv I hg hm ⟨v,H,I,r,h⟩ hd
theorem xbz {x:Str} {v:V} {u:Value} {pos:Pos} (hg:Gl X x) (hm:X.mg x=none) (hv:bootBuiltins x=some u) (r:RelV v u) (hn:x≠"__name__":=by decide) (hd:(x == ("__debug__":Str))=false:=by decide):PE X (.Name x pos) (tC v) :=
 fun _ _ _ H _ I h=>xdz I hg hm hv ⟨v,H,I,r,h⟩ hn hd
variable {a b:Expr} {ta tb:TE} {pos:Pos}
def PC (X:Cx) (op:CmpOp) (a b:Expr) (t:TE):Prop :=
 ∀ (pins:List (Addr × Obj)) (s:Shared) (σ:St) (H:Hp) (Q:VK),Inv X pins σ H s→t σ H Q →
  wpAny (model X.prog X.w) X.A (eval a X.env) (fun v s₁=>wpAny (model X.prog X.w) X.A (eval b X.env) (fun u s₂=>wpAny (model X.prog X.w) X.A (compareOp op v u) (EP X pins σ Q) X.xe s₂) X.xe s₁) X.xe s
theorem xlp (b:Expr) {op:CmpOp} (h:op≠.In) (h2:op≠.NotIn):behindInMarks op b=false:=by
 have e1:(op == CmpOp.In)=false:=by cases op <;> first | rfl | exact absurd rfl h
 have e2:(op == CmpOp.NotIn)=false:=by cases op <;> first | rfl | exact absurd rfl h2
 cases b <;> simp [behindInMarks,e1,e2]
def tB (t:TE):TT:=fun σ H Q=>t σ H fun x H1=>∃ c,x=.bl c∧Q c H1
theorem xgt {op:CmpOp} {t:TE} (h:PC X op a b t) (h1:behindInMarks op b=false:=by first | exact xlp _ (by decide) (by decide) | rfl):PT X (.Compare a [op] [b] pos) (tB t):=by
 intro pins s σ H Q I hw
 refine wpAny_isTrue_Compare1 (thn (h pins s σ H _ I hw) fun v s1 h1=>thn h1 fun u s2 h2=>thn h2 fun c s3 ⟨x,H1,I1,r1,q1⟩=>?_) h1
 obtain ⟨d,rfl,q⟩:=q1
 cases r1
 exact wpAny_truthy_bool ⟨H1,I1,q⟩
theorem xav {e:Expr} {t:TE} (h:PE X e t) (he:∀ whole,isTrue e X.env whole=(do let v ← whole; standAt e.pos; holding [v] (truthy v)):=by intro _; rfl):PT X e (tB t):=by
 intro pins s σ H Q I hw
 refine isTrue_plain (thn (h pins s σ H _ I hw) fun v s1 ⟨x,H1,I1,r1,q1⟩=>?_) (he _)
 obtain ⟨d,rfl,q⟩:=q1
 cases r1
 exact wpAny_truthy_bool ⟨H1,I1,q⟩
variable {tA tB':TT} {rest:List Expr}
def tAnd (t u:TT):TT:=fun σ H Q=>t σ H fun c H1=>if c=true then u σ H1 Q else Q false H1
def tOr (t u:TT):TT:=fun σ H Q=>t σ H fun c H1=>if c=true then Q true H1 else u σ H1 Q
def tNot (t:TT):TT:=fun σ H Q=>t σ H fun c H1=>Q (!c) H1
theorem xnn (ha:PT X a tA):PW X (.BoolOp .And [a] pos) tA:=by
 intro wh pins s σ H Q I h
 refine isTrue_and (thn (ha pins s σ H Q I h) fun c s1 e=>?_)
 cases c with
 | true=>exact isTrue_and_nil e
 | false=>exact e
theorem xbj (ha:PT X a tA):PW X (.BoolOp .Or [a] pos) tA:=by
 intro wh pins s σ H Q I h
 refine isTrue_or (thn (ha pins s σ H Q I h) fun c s1 e=>?_)
 cases c with
 | false=>exact isTrue_or_nil e
 | true=>exact e
theorem xoe (ha:PT X a tA) (hb:PW X (.BoolOp .And (b :: rest) pos) tB'):PW X (.BoolOp .And (a :: b :: rest) pos) (tAnd tA tB'):=by
 intro wh pins s σ H Q I h
 refine isTrue_and (thn (ha pins s σ H _ I h) fun c s1 ⟨H1,I1,q1⟩=>?_)
 cases c with
 | true=>exact hb wh pins s1 σ H1 Q I1 q1
 | false=>exact ⟨H1,I1,q1⟩
theorem xbv (ha:PT X a tA) (hb:PW X (.BoolOp .Or (b :: rest) pos) tB'):PW X (.BoolOp .Or (a :: b :: rest) pos) (tOr tA tB'):=by
 intro wh pins s σ H Q I h
 refine isTrue_or (thn (ha pins s σ H _ I h) fun c s1 ⟨H1,I1,q1⟩=>?_)
 cases c with
 | true=>exact ⟨H1,I1,q1⟩
 | false=>exact hb wh pins s1 σ H1 Q I1 q1
theorem xa8 (ha:PT X a tA):PT X (.UnaryOp .Not a pos) (tNot tA):=by
 intro pins s σ H Q I h
 exact isTrue_not (ha pins s σ H (fun c H1=>Q (!c) H1) I h)
def xpf (ta tb:TE):TE:=fun σ H Q=>ta σ H fun x H1=>∃ c,x=.bl c∧if c=true then tb σ H1 Q else Q (.bl false) H1
def xp9 (ta:TE):TE:=fun σ H Q=>ta σ H fun x H1=>∃ c,x=.bl c∧Q (.bl (!c)) H1
theorem xe7 {op} {t:TE} (h:PE X a t):PE X (.BoolOp op [a] pos) t:=fun pins s σ H Q I hw=>BoolOp_one (h pins s σ H Q I hw)
theorem xcr (ha:PE X a ta) (hb:PE X (.BoolOp .And (b :: rest) pos) tb):PE X (.BoolOp .And (a :: b :: rest) pos) (xpf ta tb):=by
 intro pins s σ H Q I h
 refine BoolOp_and (thn (ha pins s σ H _ I h) fun v s1 ⟨x,H1,I1,r1,q1⟩=>?_)
 obtain ⟨c,rfl,q1⟩:=q1
 cases r1
 refine wpAny_truthy_bool ?_
 cases c with
 | true=>exact hb pins s1 σ H1 Q I1 q1
 | false=>exact ⟨.bl false,H1,I1,rfl,q1⟩
theorem xkf (ha:PE X a ta):PE X (.UnaryOp .Not a pos) (xp9 ta):=by
 intro pins s σ H Q I h
 refine UnaryOp_ (thn (ha pins s σ H _ I h) fun v s1 ⟨x,H1,I1,r1,q1⟩=>?_)
 obtain ⟨c,rfl,q1⟩:=q1
 cases r1
 exact not_of (wpAny_truthy_bool ⟨.bl (!c),H1,I1,rfl,q1⟩)
def tIf (t:TT) (ta tb:TE):TE:=fun σ H Q=>t σ H fun c H1=>if c=true then ta σ H1 Q else tb σ H1 Q
theorem xb4 {c:Expr} (hc:PT X c tA) (ha:PE X a ta) (hb:PE X b tb):PE X (.IfExp c a b pos) (tIf tA ta tb):=by
 intro pins s σ H Q I h
 refine wpAny_IfExp (thn (hc pins s σ H _ I h) fun d s1 ⟨H1,I1,q1⟩=>?_)
 cases d with
 | true=>exact ha pins s1 σ H1 Q I1 q1
 | false=>exact hb pins s1 σ H1 Q I1 q1
end
end L2
namespace L2
open PySem PySem.Spec PyProof.Rows
variable {q0:Bool}
def SqL (K:PySem.W.Frag) (H:Hp) (a:Addr) (xs:List V):Prop :=
 Rd H a (.lst xs) ∨
  ∃ (o:Obj) (its:Array Value) (n:Nat),K.lookup a=some o∧o.cls=.type "list"∧o.dict=none∧o.data=.seq its n∧its.size≤sizeLine∧Vals xs its.toList
def SqT (K:PySem.W.Frag) (H:Hp) (a:Addr) (xs:List V):Prop :=
 Rd H a (.tup xs) ∨
  ∃ (o:Obj) (its:Array Value) (n:Nat),K.lookup a=some o∧o.cls=.type "tuple"∧o.data=.seq its n∧its.size≤sizeLine∧Vals xs its.toList
def absV:Value→Option V
 | .none=>some .non
 | .bool b=>some (.bl b)
 | .int i _=>some (.int i)
 | .str x _=>some (.str x)
 | .bytes b _=>some (.byt b)
 | .float b _=>some (.flt b)
 | .ref a=>some (.ref a)
 | .type n=>some (.ty n)
 | _=>none
theorem RelV.abs {x:V} {u:Value} (r:RelV x u):absV u=some x:=by
 cases x with
 | non=>cases r; rfl
 | bl _=>cases r; rfl
 | int _=>obtain ⟨t,rfl⟩:=r; rfl
 | str _=>obtain ⟨t,rfl⟩:=r; rfl
 | byt _=>obtain ⟨t,rfl⟩:=r; rfl
 | flt _=>obtain ⟨t,rfl⟩:=r; rfl
 | ref _=>cases r; rfl
 | ty _=>cases r; rfl
theorem RelV.inj {x y:V} {u:Value} (r:RelV x u) (q:RelV y u):x=y:=Option.some.inj (r.abs.symm.trans q.abs)
theorem Vals.inj:∀ {xs ys:List V} {us:List Value},Vals xs us→Vals ys us→xs=ys
 | _,_,_,.nil,.nil=>rfl
 | _,_,_,.cons r t,.cons r' t'=>by rw [r.inj r',Vals.inj t t']
section
variable {X:Cx} {pins:List (Addr × Obj)} {σ:St} {H:Hp} {s:Shared} {a:Addr} {xs ys:List V}
theorem SqL.of {K:PySem.W.Frag} (h:H a=some (.lst xs)):SqL K H a xs:=.inl (.inl h)
theorem SqT.of {K:PySem.W.Frag} (h:H a=some (.tup xs)):SqT K H a xs:=.inl (.inl h)
theorem Inv.list (I:Inv X pins σ H s) (h:SqL X.K H a xs):∃ its:List Value,Vals xs its∧PlainL s.heap a its.toArray∧xs.length≤sizeLine:=by
 rcases h with h | ⟨o,its,n,hk,hc,hd,hs,hz,r⟩
 ·obtain ⟨z,its,n,r,e⟩:=h.ok I.hok
  exact ⟨its,r,⟨_,n,e,rfl,rfl,rfl⟩,z⟩
 ·refine ⟨its.toList,r,⟨o,n,I.kIn a o hk,hc,hd,by simpa using hs⟩,?_⟩
  have e:=r.length
  simp only [Array.length_toList] at e
  omega
theorem Inv.tuple (I:Inv X pins σ H s) (h:SqT X.K H a xs):∃ its:List Value,Vals xs its∧IsTup s.heap a its.toArray∧xs.length≤sizeLine:=by
 rcases h with h | ⟨o,its,n,hk,hc,hs,hz,r⟩
 ·obtain ⟨z,its,r,p⟩:=h.ok I.hok
  exact ⟨its,r,p,z⟩
 ·refine ⟨its.toList,r,⟨o,I.kIn a o hk,hc,n,by simpa using hs⟩,?_⟩
  have e:=r.length
  simp only [Array.length_toList] at e
  omega
theorem Inv.list_inj (I:Inv X pins σ H s) (h:SqL X.K H a xs) (h':SqL X.K H a ys):xs=ys:=by
 obtain ⟨its,r,⟨o,n,e,_,_,d⟩,_⟩:=I.list h
 obtain ⟨its',r',⟨o',n',e',_,_,d'⟩,_⟩:=I.list h'
 rw [e] at e'; cases e'
 rw [d] at d'
 injection d' with d1 _
 have:its=its':=by simpa using congrArg Array.toList d1
 subst this
 exact r.inj r'
theorem Inv.tuple_inj (I:Inv X pins σ H s) (h:SqT X.K H a xs) (h':SqT X.K H a ys):xs=ys:=by
 obtain ⟨its,r,⟨o,e,_,n,d⟩,_⟩:=I.tuple h
 obtain ⟨its',r',⟨o',e',_,n',d'⟩,_⟩:=I.tuple h'
 rw [e] at e'; cases e'
 rw [d] at d'
 injection d' with d1 _
 have:its=its':=by simpa using congrArg Array.toList d1
 subst this
 exact r.inj r'
end
abbrev Cx.wish (X:Cx) (E:Value→Shared→Prop):Cx:={ X with xe:=E }
abbrev Cx.nox (X:Cx):Cx:=X.wish fun _ _=>False
theorem Cx.Ok.wish {X:Cx} (ok:X.Ok) (E:Value→Shared→Prop):(X.wish E).Ok :=
 ⟨ok.mod,ok.kind,ok.glob,ok.blt,ok.above,ok.inj,ok.has,ok.cab,ok.hd,ok.frames,ok.stk,ok.exf,ok.bs,ok.bsz,ok.noex,ok.exfs,ok.funs,ok.frf⟩
theorem Cx.Ok.unwish {X:Cx} {E:Value→Shared→Prop} (ok:(X.wish E).Ok):X.Ok :=
 ⟨ok.mod,ok.kind,ok.glob,ok.blt,ok.above,ok.inj,ok.has,ok.cab,ok.hd,ok.frames,ok.stk,ok.exf,ok.bs,ok.bsz,ok.noex,ok.exfs,ok.funs,ok.frf⟩
section
variable {X:Cx} {pins:List (Addr × Obj)} {σ:St} {H:Hp} {s:Shared} {E:Value→Shared→Prop}
theorem Inv.wish (I:Inv X pins σ H s) (E:Value→Shared→Prop):Inv (X.wish E) pins σ H s:=⟨I.ok.wish E,I.os,I.bare,I.base,I.loc,I.cell,I.free,I.freeC,I.pin,I.hok,I.len⟩
theorem Inv.unwish (I:Inv (X.wish E) pins σ H s):Inv X pins σ H s:=⟨I.ok.unwish,I.os,I.bare,I.base,I.loc,I.cell,I.free,I.freeC,I.pin,I.hok,I.len⟩
theorem SP.unwish {D:Ends} {f:Flow} {s':Shared} (h:SP (X.wish E) pins D f s'):SP X pins D f s':=by
 cases f with
 | next=>obtain ⟨σ',H',I,q⟩:=h; exact ⟨σ',H',I.unwish,q⟩
 | brk=>obtain ⟨σ',H',I,q⟩:=h; exact ⟨σ',H',I.unwish,q⟩
 | cont=>obtain ⟨σ',H',I,q⟩:=h; exact ⟨σ',H',I.unwish,q⟩
 | ret u=>obtain ⟨v,σ',H',I,r,q⟩:=h; exact ⟨v,σ',H',I.unwish,r,q⟩
theorem PSs.nox {st:List Stmt} {t:TS} (h:PSs X.nox st t):PSs X st t:=fun pins s σ H D I hw =>
 wpAny_mono (h pins s σ H D (I.wish _) hw) (fun _ _ q=>q.unwish) fun _ _ z=>False.elim z
end
section
variable {X:Cx} {st:Stmt} {rest:List Stmt} {t u:TS} {e:Expr} {te:TE} {pos:Pos}
def xpc:TS:=fun D σ H=>D.nx σ H
def tSeq (t u:TS):TS:=fun D σ H=>t { D with nx:=u D } σ H
theorem xt:PSs X [] xpc:=fun _ _ σ H _ I h=>wpAny_execs_nil ⟨σ,H,I,h⟩
theorem xh (h1:PS X st t) (h2:PSs X rest u):PSs X (st :: rest) (tSeq t u):=by
 intro pins s σ H D I h
 refine wpAny_execs_cons (thn (h1 pins s σ H { D with nx:=u D } I h) fun f s1 q=>?_)
 cases f with
 | next =>
  obtain ⟨σ',H',I',q⟩:=q
  exact h2 pins s1 σ' H' D I' q
 | ret v=>exact q
 | brk=>exact q
 | cont=>exact q
theorem xn (h1:PS X st t):PSs X [st] t:=by
 intro pins s σ H D I h
 refine wpAny_execs_cons (thn (h1 pins s σ H D I h) fun f s1 q=>?_)
 cases f with
 | next=>exact wpAny_execs_nil q
 | ret v=>exact q
 | brk=>exact q
 | cont=>exact q
theorem Inv.quiet {pins:List (Addr × Obj)} {σ:St} {H:Hp} {s:Shared} (I:Inv X pins σ H s):interactive X.env=false:=by simp [interactive,I.ok.kind]
def xp4 (te:TE):TS:=fun D σ H=>te σ H fun _ H1=>D.nx σ H1
theorem xbq (he:PE X e te) (hs:swapsWith e none pos.line X.env=pure false:=by rfl):PS X (.Expr e pos) (xp4 te):=by
 intro pins s σ H D I h
 exact wpAny_Expr_any (thn (he pins s σ H _ I h) fun v s1 ⟨x,H1,I1,r1,q1⟩=>⟨σ,H1,I1,q1⟩) I.quiet hs
def tRet (te:TE):TS:=fun D σ H=>te σ H D.rt
theorem xr (he:PE X e te):PS X (.Return (some e) pos) (tRet te):=by
 intro pins s σ H D I h
 exact wpAny_Return_some (thn (he pins s σ H _ I h) fun v s1 ⟨x,H1,I1,r1,q1⟩=>⟨x,σ,H1,I1,r1,q1⟩)
def tIfS (c:TT) (t u:TS):TS:=fun D σ H=>c σ H fun b H1=>if b=true then t D σ H1 else u D σ H1
theorem xab {c:Expr} {a b:List Stmt} {tc:TT} (hc:PT X c tc) (ha:PSs X a t) (hb:PSs X b u):PS X (.If c a b pos) (tIfS tc t u):=by
 intro pins s σ H D I h
 refine wpAny_If (thn (hc pins s σ H _ I h) fun d s1 ⟨H1,I1,q1⟩=>?_)
 cases d with
 | true=>exact ha pins s1 σ H1 D I1 q1
 | false=>exact hb pins s1 σ H1 D I1 q1
def xon:TS:=fun _ _ _=>False
theorem xb6:PS X st xon:=fun _ _ _ _ _ _ h=>h.elim
end
abbrev TG:=V→St→Hp→(St→Hp→Prop)→Prop
abbrev TGs:=List V→St→Hp→(St→Hp→Prop)→Prop
def PG (X:Cx) (target:Expr) (t:TG):Prop :=
 ∀ (pins:List (Addr × Obj)) (s:Shared) (σ:St) (H:Hp) (v:V) (u:Value) (Q:St→Hp→Prop),Inv X pins σ H s→RelV v u→t v σ H Q →
  wpAny (model X.prog X.w) X.A (assign target X.env u) (fun _ s'=>∃ σ' H',Inv X pins σ' H' s'∧Q σ' H') X.xe s
def PGs (X:Cx) (ts:List Expr) (t:TGs):Prop :=
 ∀ (pins:List (Addr × Obj)) (s:Shared) (σ:St) (H:Hp) (vs:List V) (us:List Value) (Q:St→Hp→Prop),Inv X pins σ H s→Vals vs us→t vs σ H Q →
  wpAny (model X.prog X.w) X.A (assignInOrder ((assignEach ts X.env).map (·.2)) us) (fun _ s'=>∃ σ' H',Inv X pins σ' H' s'∧Q σ' H') X.xe s
section
variable {X:Cx} {pos:Pos}
def xei (i:Nat):TG:=fun v σ H Q=>Q (σ.set i (some v)) H
theorem x0 {i:Nat} {x:Str} (hN:X.N.Nodup) (hi:X.N[i]?=some x) (hx:Loc X.env.scope x) (hf:X.fn x=true∨X.env.scope.names.lookup x=some .local:=by first | exact .inl rfl | exact .inr rfl | assumption):PG X (.Name x pos) (xei i):=by
 intro pins s σ H v u Q I r h
 exact wpAny_assign_Name (xe4 I hN hi hx r (fun s' I'=>⟨_,H,I',h⟩) hf)
def gNil:TGs:=fun vs σ H Q=>vs=[]∧Q σ H
def xil (t:TG) (u:TGs):TGs:=fun vs σ H Q=>∃ v r,vs=v :: r∧t v σ H fun σ' H'=>u r σ' H' Q
theorem xa6:PGs X [] gNil:=by
 intro pins s σ H vs us Q I r h
 obtain ⟨e,h⟩:=h
 subst e
 cases r
 exact assignInOrder_nil ⟨σ,H,I,h⟩
theorem xad {e:Expr} {es:List Expr} {t:TG} {u:TGs} (h1:PG X e t) (h2:PGs X es u)
    (hs:(assignEach (e :: es) X.env).map (·.2)=assign e X.env :: (assignEach es X.env).map (·.2):=by rfl):PGs X (e :: es) (xil t u):=by
  intro pins s σ H vs us Q I r h
  obtain ⟨v,vr,e1,h⟩:=h
  subst e1
  cases r with
  | cons r rr =>
    rw [hs]
    refine assignInOrder_cons (thn (h1 pins s σ H _ _ _ I r h) fun _ s1 ⟨σ1,H1,I1,q1⟩=>?_)
    exact h2 pins s1 σ1 H1 _ _ Q I1 rr q1
def gTup (K:PySem.W.Frag) (n:Nat) (t:TGs):TG:=fun v σ H Q=>∃ a xs,v=.ref a∧SqT K H a xs∧xs.length=n∧t xs σ H Q
theorem xcm {es:List Expr} {k:Nat} {t:TGs} {n:Nat} (hc:X.calm=true) (h:PGs X es t)
    (hn:(assignEach es X.env).length=n:=by rfl) (hst:(assignEach es X.env).findIdx? (·.1)=none:=by rfl):PG X (.Tuple es k pos) (gTup X.K n t):=by
  intro pins s σ H v u Q I r hw
  obtain ⟨a,xs,e1,hq,hl,hw⟩:=hw
  subst e1
  cases r
  obtain ⟨its,rv,ht,hz⟩:=I.tuple hq
  refine assign_Tuple_tuple (I.ok.hd hc) ht (by simp [hn,← hl,rv.length]) hst fun h' hx=>?_
  have I1:Inv X pins σ H { s with heap:=h' }:=I.kept (t':=s.toks) fun b o e=>hx b o (Nat.ne_of_lt (Heap.lt_size e)) e
  exact h pins _ σ H xs _ Q I1 (by simpa using rv) hw
def tAsg (te:TE) (g:TG):TS:=fun D σ H=>te σ H fun x H1=>g x σ H1 D.nx
theorem xcf {tg e:Expr} {te:TE} {g:TG} (he:PE X e te) (hg:PG X tg g) (hs:swapsWithSole [tg] e pos.line X.env=pure false:=by rfl) (hw:swappedStores [tg] e X.env=pure none:=by rfl)
    (h1:(assignEach [tg] X.env).map (·.2)=[assign tg X.env]:=by rfl):PS X (.Assign [tg] e pos) (tAsg te g):=by
  intro pins s σ H D I h
  refine wpAny_Assign_stores (thn (he pins s σ H _ I h) fun v s1 ⟨x,H1,I1,r1,q1⟩=>?_) hs hw
  rw [h1]
  exact thn (hg pins s1 σ H1 x v _ I1 r1 q1) fun _ s2 q=>q
theorem xah {i:Nat} {x:Str} {e:Expr} {te:TE} {pos':Pos} (hN:X.N.Nodup) (hi:X.N[i]?=some x) (hx:Loc X.env.scope x) (he:PE X e te) (hs:swapsWith e (some (.Name x pos')) pos.line X.env=pure false:=by rfl) (hf:X.fn x=true∨X.env.scope.names.lookup x=some .local:=by first | exact .inl rfl | exact .inr rfl | assumption) :
    PS X (.Assign [.Name x pos'] e pos) (tAsg te (xei i)):=by
  intro pins s σ H D I h
  refine wpAny_Assign_Name (thn (he pins s σ H _ I h) fun v s1 ⟨y,H1,I1,r1,q1⟩=>?_) hs
  exact xe4 I1 hN hi hx r1 (fun s2 I2=>⟨_,H1,I2,q1⟩) hf
end
section
variable {X:Cx} {pos:Pos}
end
structure It where
 go:Nat→Hp→Prop
 yld:Nat→Hp→V→Hp→Prop
 stop:Nat→Hp→Prop
def FpOk (X:Cx) (pins:List (Addr × Obj)) (H:Hp) (b:Addr):Prop :=
 H b=none∧b≠X.env.locals∧b ∉ X.fs∧(b ∈ X.ex∨X.s₀.heap.objs.size≤b)∧(∀ x c,X.env.cells.lookup x=some c→c≠b)∧∀ p ∈ X.pn ++ pins,p.1≠b
theorem Inv.fpOk {X:Cx} {pins:List (Addr × Obj)} {σ:St} {H H':Hp} {s:Shared} {b:Addr} (I:Inv X pins σ H s) (hb:s.heap.objs.size≤b) (hn:H' b=none):FpOk X pins H' b:=by
 refine ⟨hn,Nat.ne_of_gt (Nat.lt_of_lt_of_le I.lt hb),I.nofs hb,.inr (Nat.le_trans I.sz hb),fun x c e z=>?_,fun p hp z=>?_⟩
 ·obtain ⟨v,q⟩:=I.cell x c e
  exact absurd (Nat.lt_of_lt_of_le q.lt (by rw [z]; exact hb)) (Nat.lt_irrefl _)
 ·exact absurd (Nat.lt_of_lt_of_le (Heap.lt_size (I.pin p hp).1) (by rw [z]; exact hb)) (Nat.lt_irrefl _)
structure Turn (P:Program) (w:World) (K:PySem.W.Frag) (tg:Expr) (J:It) (fp:List Addr) (it:Addr) (tn:Nat→Heap→Prop):Prop where
 mem:it ∈ fp
 obj:∀ i h,tn i h→∀ b ∈ fp,∃ o,h.get? b=some o∧∀ v,o.data≠.cell v
 keep:∀ i h h',tn i h→(∀ b ∈ fp,∀ o,h.get? b=some o→h'.get? b=some o)→tn i h'
 item:∀ (X:Cx),X.prog=P→X.w=w→X.K=K→X.calm=true→∀ (i:Nat) (pins:List (Addr × Obj)) (s:Shared) (σ:St) (H:Hp) (E:Value→Shared→Prop),Inv X pins σ H s→(∀ b ∈ fp,FpOk X pins H b)→tn i s.heap→J.go i H →
  wpAny (model P w) X.A (pyNext (.ref it)) (fun r s1=>∃ u,r=some u ∧
   wpAny (model P w) X.A (letOwnedTupleGo tg (.ref it) u) (fun _ s2=>∃ x H',Inv X pins σ H' s2∧RelV x u∧J.yld i H x H'∧tn (i + 1) s2.heap∧∀ b ∈ fp,H' b=none) E s1) E s
 done:∀ (X:Cx),X.prog=P→X.w=w→X.K=K→X.calm=true→∀ (i:Nat) (pins:List (Addr × Obj)) (s:Shared) (σ:St) (H:Hp) (E:Value→Shared→Prop),Inv X pins σ H s→(∀ b ∈ fp,FpOk X pins H b)→tn i s.heap→J.stop i H →
  wpAny (model P w) X.A (pyNext (.ref it)) (fun r s1=>r=none∧Inv X pins σ H s1) E s
 self:∀ (A:Around) (i:Nat) (s:Shared) (Q:Value→Shared→Prop) (E:Value→Shared→Prop),tn i s.heap→Q (.ref it) s→wpAny (model P w) A (pyIter (.ref it)) Q E s
abbrev TI:=St→Hp→(It→Hp→Prop)→Prop
def PIE (X:Cx) (pins:List (Addr × Obj)) (σ:St) (tg:Expr) (R:It→Hp→Prop) (itv:Value) (s2:Shared):Prop :=
 ∃ (it:Addr) (fp:List Addr) (tn:Nat→Heap→Prop) (J:It) (H':Hp),itv=.ref it∧Inv X pins σ H' s2∧Turn X.prog X.w X.K tg J fp it tn∧tn 0 s2.heap∧(∀ b ∈ fp,FpOk X pins H' b)∧R J H'
def PI (X:Cx) (tg iter:Expr) (wi:TI):Prop :=
 ∀ (pins:List (Addr × Obj)) (s:Shared) (σ:St) (H:Hp) (R:It→Hp→Prop),Inv X pins σ H s→wi σ H R →
  wpAny (model X.prog X.w) X.A (eval iter X.env) (fun v s1=>wpAny (model X.prog X.w) X.A (pyIter v) (PIE X pins σ tg R) X.xe s1) X.xe s
theorem xit {M:Model} {A:Around} {E:Value→Shared→Prop} {s:Shared} {tg:Expr} {it:Addr} {u:Value} {o:Obj} {n:String} {vs:Array Value} {Q:Unit→Shared→Prop} (ho:s.heap.get? it=some o) (hc:o.cls=.type n) (hd:o.data=.fields vs)
    (hn:["enumerate", "zip", "dict_itemiterator", "dict_reverseitemiterator", "odict_iterator", "itertools.zip_longest", "itertools.pairwise"].contains n=false) (hQ:Q () s):wpAny M A (letOwnedTupleGo tg (.ref it) u) Q E s:=by
  unfold letOwnedTupleGo
  cases tg <;> first
    | exact wpAny_pure hQ
    | (cases u <;> first
        | exact wpAny_pure hQ
        | (refine wpAny_bind (wpAny_load ho ?_)
           rw [hc,hd]
           show wpAny M A (if (["enumerate", "zip", "dict_itemiterator", "dict_reverseitemiterator", "odict_iterator", "itertools.zip_longest", "itertools.pairwise"].contains n && vs[0]? == some (rawInt _))=true then _ else _) Q E s
           rw [if_neg (by intro h; rw [hn,Bool.false_and] at h; cases h)]
           exact wpAny_pure hQ))
def Itl (K:PySem.W.Frag) (a:Addr):It :=
 ⟨fun i H=>∃ xs x,SqL K H a xs∧xs[i]?=some x,fun i H x H'=>H'=H∧∀ xs,SqL K H a xs→xs[i]?=some x,fun i H=>∃ xs,SqL K H a xs∧xs.length≤i⟩
def Itr (lo:Int) (n:Nat):It:=⟨fun i _=>i < n,fun i H x H'=>H'=H∧x=.int (lo + i),fun i _=>n≤i⟩
theorem xjo {P:Program} {w:World} {K:PySem.W.Frag} {tg:Expr} (a it:Addr):Turn P w K tg (Itl K a) [it] it (fun i h=>h.IsListIter it a i) where
 mem:=by simp
 obj:=fun i h st b hb=>by
  have e:b=it:=by simpa using hb
  subst e
  obtain ⟨o,e,c,d⟩:=st
  exact ⟨o,e,fun v z=>by rw [d] at z; cases z⟩
 keep:=fun i h h' st k=>st.at fun o e=>k it (by simp) o e
 item:=by
  intro X hP hw hK hc i pins s σ H E I hf st hg
  subst hP hw hK
  obtain ⟨xs,x,hq,hx⟩:=hg
  obtain ⟨its,rv,p,hz⟩:=I.list hq
  obtain ⟨u,hu,ru⟩:=rv.get hx
  obtain ⟨f0,f1,f2,f3,f4,f5⟩:=hf it (by simp)
  refine wpAny_pyNext_list_item st p.isList (x:=u) (by simpa using hu) fun h' st' sb=>?_
  have I1:Inv X pins σ H { s with heap:=h' }:=I.turned (t':=s.toks) (fun b o hb e=>(sb.2 b hb).trans e) f0 f1 f3 f4 f5
  obtain ⟨o,e,c,d⟩:=id st'
  exact ⟨u,rfl,xit (s:={ s with heap:=h' }) e c d (by decide) ⟨x,H,I1,ru,⟨rfl,fun ys hy=>by rw [I.list_inj hy hq]; exact hx⟩,st',fun b hb=>(hf b hb).1⟩⟩
 done:=by
  intro X hP hw hK hc i pins s σ H E I hf st hg
  subst hP hw hK
  obtain ⟨xs,hq,hx⟩:=hg
  obtain ⟨its,rv,p,hz⟩:=I.list hq
  obtain ⟨f0,f1,f2,f3,f4,f5⟩:=hf it (by simp)
  have hl:=rv.length
  exact wpAny_pyNext_list_end (I.ok.hd hc) st p.isList (by simp; omega) fun h' eb=>⟨rfl,I.turned (t':=s.toks) (fun b o hb e=>eb b o hb e) f0 f1 f3 f4 f5⟩
 self:=fun _ _ _ _ _ st h=>wpAny_pyIter_listiter st h
theorem xim {P:Program} {w:World} {K:PySem.W.Frag} {tg:Expr} (it:Addr) (lo:Int) (n:Nat):Turn P w K tg (Itr lo n) [it] it (fun i h=>IsRangeIter h it (lo + (i:Nat) * 1) ((n:Int) - (i:Nat)) 1) where
 mem:=by simp
 obj:=fun i h st b hb=>by
  have e:b=it:=by simpa using hb
  subst e
  exact ⟨_,st,fun v z=>by
   have z':Data.fields _=Data.cell v:=z
   cases z'⟩
 keep:=fun i h h' st k=>k it (by simp) _ st
 item:=by
  intro X hP hw hK hc i pins s σ H E I hf st hg
  subst hP hw hK
  obtain ⟨f0,f1,f2,f3,f4,f5⟩:=hf it (by simp)
  have W:=Walks.range (prog:=X.prog) (w:=X.w) (I.ok.hd hc) it lo 1 n
  refine W.item i s _ _ hg st fun v h' tk hv st' kk=>?_
  obtain ⟨t,rfl⟩:=hv
  have I1:Inv X pins σ H { s with heap:=h',toks:=tk }:=I.turned (fun b o hb e=>kk b o (by simpa using hb) e) f0 f1 f3 f4 f5
  refine ⟨_,rfl,xit (s:={ s with heap:=h',toks:=tk }) (n:="range_iterator") st' rfl rfl (by decide) ⟨.int (lo + i),H,I1,⟨t,?_⟩,⟨rfl,rfl⟩,st',fun b hb=>(hf b hb).1⟩⟩
  rw [Int.mul_one]
 done:=by
  intro X hP hw hK hc i pins s σ H E I hf st hg
  subst hP hw hK
  obtain ⟨f0,f1,f2,f3,f4,f5⟩:=hf it (by simp)
  exact wpAny_pyNext_range_end (I.ok.hd hc) st (by have:n≤i:=hg; omega) fun h' eb=>⟨rfl,I.turned (t':=s.toks) (fun b o hb e=>eb b o hb e) f0 f1 f3 f4 f5⟩
 self:=fun _ _ _ _ _ st h=>wpAny_pyIter_rangeiter st h
end L2
namespace L2
open PySem PySem.Spec PyProof.Rows
variable {q0:Bool}
section
variable {X:Cx} {tg:Expr}
def xp7 (K:PySem.W.Frag) (tl:TE):TI:=fun σ H R=>tl σ H fun x H1=>∃ a,x=.ref a∧(∃ xs,SqL K H1 a xs)∧R (Itl K a) H1
theorem xba {l:Expr} {tl:TE} (hl:PE X l tl):PI X tg l (xp7 X.K tl):=by
 intro pins s σ H R I h
 refine thn (hl pins s σ H _ I h) fun v s1 ⟨x,H1,I1,r1,q1⟩=>?_
 obtain ⟨a,e,⟨xs,hq⟩,q⟩:=q1
 subst e
 cases r1
 obtain ⟨its,rv,p,hz⟩:=I1.list hq
 refine wpAny_pyIter_list p.isList ?_
 refine ⟨s1.heap.objs.size,[s1.heap.objs.size],_,_,H1,rfl,I1.kept (t':=s1.toks) fun b o e=>Heap.get?_push_of_some _ e,xjo a _,⟨_,Heap.get?_push_size _ rfl,rfl,rfl⟩,fun b hb=>?_,q⟩
 have e:b=s1.heap.objs.size:=by simpa using hb
 subst e
 exact I1.fpOk (Nat.le_refl _) (I1.hok.fresh (Nat.le_refl _))
theorem xkt {pins:List (Addr × Obj)} {σ:St} {H:Hp} {s:Shared} {R:It→Hp→Prop} {E:Value→Shared→Prop} {lo hi:Int} {t u v:Tok} {tk:Nat} (I:Inv X pins σ H s) (h1:-(2 ^ 62)≤lo) (h2:lo < 2 ^ 62) (h3:-(2 ^ 62)≤hi) (h4:hi < 2 ^ 62)
    (q:R (Itr lo (hi - lo).toNat) H):wpAny (model X.prog X.w) X.A (pyIter (.ref s.heap.objs.size)) (PIE X pins σ tg R) E { s with heap:=s.heap.push { cls:=.type "range",data:=.fields #[.int lo t,.int hi u,.int 1 v] },toks:=tk }:=by
  refine wpAny_pyIter_range (IsRange.new ..) (small_one h1 h2 h3 h4) ?_
  have I1:Inv X pins σ H { s with heap:=s.heap.push { cls:=.type "range",data:=.fields #[.int lo t,.int hi u,.int 1 v] },toks:=tk }:=I.kept fun b o e=>Heap.get?_push_of_some _ e
  refine ⟨(s.heap.push { cls:=.type "range",data:=.fields #[.int lo t,.int hi u,.int 1 v] }).objs.size,[(s.heap.push { cls:=.type "range",data:=.fields #[.int lo t,.int hi u,.int 1 v] }).objs.size],_,_,H,rfl,
    I1.kept (t':=tk) fun b o e=>Heap.get?_push_of_some _ e,xim _ lo (hi - lo).toNat,?_,fun b hb=>?_,q⟩
  · have e1:lo + ((0:Nat):Int) * 1=lo:=by simp
    have e2:(((hi - lo).toNat:Nat):Int) - ((0:Nat):Int)=Builtin.Range.rangeSize lo hi 1:=by rw [rangeSize_one]; split <;> omega
    show IsRangeIter _ _ (lo + ((0:Nat):Int) * 1) ((((hi - lo).toNat:Nat):Int) - ((0:Nat):Int)) 1
    rw [e1,e2]
    exact Heap.get?_push_size _ rfl
  · have e:b=(s.heap.push { cls:=.type "range",data:=.fields #[.int lo t,.int hi u,.int 1 v] }).objs.size:=by simpa using hb
    subst e
    exact I1.fpOk (Nat.le_refl _) (I1.hok.fresh (Nat.le_refl _))
def xpd (ta:TA):TI:=fun σ H R=>ta σ H fun vs H1=>∃ j:Int,vs=[.int j]∧-(2 ^ 62)≤j∧j < 2 ^ 62∧R (Itr 0 j.toNat) H1
theorem xjr {a:Expr} {ta:TA} {p pos:Pos} (hg:Gl X "range") (hm:X.mg "range"=none) (ha:PA X [a] ta) (hs:starEach [a] X.env=[(false,eval a X.env)]:=by rfl):PI X tg (.Call (.Name "range" p) [a] [] pos) (xpd ta):=by
 intro pins s σ H R I h
 refine Call_ (xdz I hg hm boot_range (PyProof.Rows.callWith_type1 (thn (ha pos pins s σ H _ I h) fun us s1 ⟨vs,H1,I1,r1,q1⟩=>?_) hs rfl))
 obtain ⟨j,e,q1,q2,q⟩:=q1
 subst e
 cases r1 with
 | cons r rr =>
  cases rr
  obtain ⟨t,rfl⟩:=r
  exact call_range_1 (xkt I1 (by omega) (by omega) q1 q2 (by simpa using q))
def tFor (wi:TI) (g:TG) (tb:TS):TS:=fun D σ H=>wi σ H fun J H1=>∃ W:Nat→Nat→St→Hp→Prop,(∃ m,W 0 m σ H1)∧∀ i m σ H,W i m σ H →
 (J.stop i H∧D.nx σ H)∨(J.go i H∧∃ N:St→Hp→Prop,(∀ σ' H',N σ' H'→∃ m',m' < m∧W (i + 1) m' σ' H')∧∀ x H',J.yld i H x H'→g x σ H' fun σ2 H2=>tb { D with nx:=N,ct:=N,bk:=D.nx } σ2 H2)
def xd0 (fp:List Addr) (h:Heap):List (Addr × Obj):=fp.filterMap fun b=>(h.get? b).map fun o=>(b,o)
theorem xcs {fp:List Addr} {h:Heap} {b:Addr} {o:Obj} (hb:b ∈ fp) (e:h.get? b=some o):(b,o) ∈ xd0 fp h:=List.mem_filterMap.mpr ⟨b,hb,by rw [e]; rfl⟩
theorem xkj {fp:List Addr} {h:Heap} {p:Addr × Obj} (hp:p ∈ xd0 fp h):p.1 ∈ fp∧h.get? p.1=some p.2:=by
 obtain ⟨b,hb,e⟩:=List.mem_filterMap.mp hp
 cases q:h.get? b with
 | none=>rw [q] at e; cases e
 | some o =>
  rw [q] at e
  have e':(b,o)=p:=Option.some.inj e
  subst e'
  exact ⟨hb,q⟩
theorem Inv.pinned {pins:List (Addr × Obj)} {σ:St} {H:Hp} {s:Shared} {fp:List Addr} (I:Inv X pins σ H s) (hf:∀ b ∈ fp,FpOk X pins H b) (ho:∀ b ∈ fp,∃ o,s.heap.get? b=some o∧∀ v,o.data≠.cell v):Inv X (pins ++ xd0 fp s.heap) σ H s :=
 I.pins_of fun p hp=>(List.mem_append.mp hp).elim (fun z=>I.pin p (List.mem_append_right _ z)) fun z=>by
  obtain ⟨hb,e⟩:=xkj z
  obtain ⟨f0,f1,f2,_⟩:=hf p.1 hb
  obtain ⟨o,e',d⟩:=ho p.1 hb
  rw [e] at e'; cases e'
  exact ⟨e,f0,f1,f2,d⟩
theorem Inv.unpinned {pins pl:List (Addr × Obj)} {σ:St} {H:Hp} {s:Shared} (I:Inv X (pins ++ pl) σ H s):Inv X pins σ H s:=I.pins_of fun p hp=>I.pin p (List.mem_append_right _ (List.mem_append_left _ hp))
theorem xb3 {iter:Expr} {body:List Stmt} {wi:TI} {g:TG} {tb:TS} {pos:Pos} (hp:PassesOwn (model X.prog X.w) X.A X.env X.xe) (hc:X.calm=true) (hi:PI X tg iter wi) (hg:PG X tg g) (hb:PSs X body tb)
    (hs:∀ x,foldedSetIterable iter X.env x=pure x:=by intro _; rfl):PS X (.For tg iter body [] pos) (tFor wi g tb):=by
  intro pins s σ H D I h
  refine wpAny_For (thn (hi pins s σ H _ I h) fun v s1 h1=>thn h1 fun itv s2 h2=>?_) hs
  obtain ⟨it,fp,tn,J,H2,e,I2,T,st2,f2,W,⟨m0,w0⟩,turn⟩:=h2
  subst e
  -- what stays true of the iterator's objects through the loop
  have stat:∀ {H':Hp},(∀ b ∈ fp,H' b=none)→∀ b ∈ fp,FpOk X pins H' b:=fun hn b hb=>⟨hn b hb,(f2 b hb).2⟩
  refine codeAny_forLoop_any (fun n s'=>∃ i σ' H',Inv X pins σ' H' s'∧tn i s'.heap∧(∀ b ∈ fp,H' b=none)∧W i n σ' H') ?_ m0 ⟨0,σ,H2,I2,st2,fun b hb=>(f2 b hb).1,w0⟩
  rintro n s3 ⟨i,σ3,H3,I3,st3,fr3,w3⟩
  rcases turn i n σ3 H3 w3 with ⟨stop,qn⟩ | ⟨go,N,hN,step⟩
  · refine wpAny_passesOwn hp (thn (T.done X rfl rfl rfl hc i pins s3 σ3 H3 X.xe I3 (stat fr3) st3 stop) fun r s4 ⟨hr,I4⟩=>?_)
    subst hr
    exact wpAny_execs_nil ⟨σ3,H3,I4,qn⟩
  · refine wpAny_passesOwn hp (thn (T.item X rfl rfl rfl hc i pins s3 σ3 H3 X.xe I3 (stat fr3) st3 go) fun r s4 ⟨u,hr,h4⟩=>?_)
    subst hr
    refine wpAny_passesOwn hp (thn h4 fun _ s5 ⟨x,H5,I5,r5,y5,st5,fr5⟩=>?_)
    have I5':=I5.pinned (stat fr5) (T.obj _ _ st5)
    refine wpAny_passesOwn hp (thn (hg _ s5 σ3 H5 x u _ I5' r5 (step x H5 y5)) fun _ s6 ⟨σ6,H6,I6,q6⟩=>?_)
    refine wpAny_passesOwn hp (thn (hb _ s6 σ6 H6 _ I6 q6) fun f s7 q7=>?_)
    have again:∀ {σ7:St} {H7:Hp},Inv X (pins ++ xd0 fp s5.heap) σ7 H7 s7→N σ7 H7→∃ m,m < n∧∃ i σ' H',Inv X pins σ' H' s7∧tn i s7.heap∧(∀ b ∈ fp,H' b=none)∧W i m σ' H':=fun {σ7 H7} I7 n7=>by
      obtain ⟨m',hm,w7⟩:=hN σ7 H7 n7
      refine ⟨m',hm,i + 1,σ7,H7,I7.unpinned,T.keep _ _ _ st5 fun b hb o e=>(I7.pin (b,o) (List.mem_append_right _ (List.mem_append_right _ (xcs hb e)))).1,fun b hb=>?_,w7⟩
      obtain ⟨o,e,d⟩:=T.obj _ _ st5 b hb
      exact (I7.pin (b,o) (List.mem_append_right _ (List.mem_append_right _ (xcs hb e)))).2.1
    cases f with
    | next=>obtain ⟨σ7,H7,I7,n7⟩:=q7; exact again I7 n7
    | cont=>obtain ⟨σ7,H7,I7,n7⟩:=q7; exact again I7 n7
    | brk=>obtain ⟨σ7,H7,I7,q7⟩:=q7; exact ⟨σ7,H7,I7.unpinned,q7⟩
    | ret v=>obtain ⟨x7,σ7,H7,I7,r7,q7⟩:=q7; exact ⟨x7,σ7,H7,I7.unpinned,r7,q7⟩
end
theorem xcg {K:PySem.W.Frag} {a:Addr} {xs:List V} {g:TG} {tb:TS} {D:Ends} {σ:St} {H:Hp} (Pv:Nat→St→Hp→Prop) (h0:Pv 0 σ H) (hl:∀ i σ H,i≤xs.length→Pv i σ H→SqL K H a xs)
    (hs:∀ i x σ H,xs[i]?=some x→Pv i σ H→g x σ H fun σ2 H2=>tb { D with nx:=Pv (i + 1),ct:=Pv (i + 1),bk:=D.nx } σ2 H2) (hd:∀ σ H,Pv xs.length σ H→D.nx σ H) :
    ∃ W:Nat→Nat→St→Hp→Prop,(∃ m,W 0 m σ H)∧∀ i m σ H,W i m σ H →
      ((Itl K a).stop i H∧D.nx σ H)∨((Itl K a).go i H∧∃ N:St→Hp→Prop,(∀ σ' H',N σ' H'→∃ m',m' < m∧W (i + 1) m' σ' H')∧∀ x H',(Itl K a).yld i H x H'→g x σ H' fun σ2 H2=>tb { D with nx:=N,ct:=N,bk:=D.nx } σ2 H2):=by
  refine ⟨fun i m σ H=>m=xs.length - i∧i≤xs.length∧Pv i σ H,⟨xs.length,by simp,Nat.zero_le _,h0⟩,?_⟩
  rintro i m σ H ⟨rfl,hi,p⟩
  have q:=hl i σ H hi p
  by_cases hlt:i < xs.length
  · refine .inr ⟨⟨xs,xs[i],q,by simp [hlt]⟩,Pv (i + 1),fun σ' H' p'=>⟨xs.length - (i + 1),by omega,rfl,hlt,p'⟩,fun x H' y=>?_⟩
    obtain ⟨e,y⟩:=y
    subst e
    exact hs i x σ _ (y xs q) p
  · have e:i=xs.length:=by omega
    subst e
    exact .inl ⟨⟨xs,q,Nat.le_refl _⟩,hd σ H p⟩
theorem xju {lo:Int} {n:Nat} {g:TG} {tb:TS} {D:Ends} {σ:St} {H:Hp} (Pv:Nat→St→Hp→Prop) (h0:Pv 0 σ H)
    (hs:∀ i σ H,i < n→Pv i σ H→g (.int (lo + i)) σ H fun σ2 H2=>tb { D with nx:=Pv (i + 1),ct:=Pv (i + 1),bk:=D.nx } σ2 H2) (hd:∀ σ H,Pv n σ H→D.nx σ H) :
    ∃ W:Nat→Nat→St→Hp→Prop,(∃ m,W 0 m σ H)∧∀ i m σ H,W i m σ H →
      ((Itr lo n).stop i H∧D.nx σ H)∨((Itr lo n).go i H∧∃ N:St→Hp→Prop,(∀ σ' H',N σ' H'→∃ m',m' < m∧W (i + 1) m' σ' H')∧∀ x H',(Itr lo n).yld i H x H'→g x σ H' fun σ2 H2=>tb { D with nx:=N,ct:=N,bk:=D.nx } σ2 H2):=by
  refine ⟨fun i m σ H=>m=n - i∧i≤n∧Pv i σ H,⟨n,by simp,Nat.zero_le _,h0⟩,?_⟩
  rintro i m σ H ⟨rfl,hi,p⟩
  by_cases hlt:i < n
  · refine .inr ⟨hlt,Pv (i + 1),fun σ' H' p'=>⟨n - (i + 1),by omega,rfl,hlt,p'⟩,fun x H' y=>?_⟩
    obtain ⟨e,y⟩:=y
    subst e y
    exact hs i σ _ hlt p
  · have e:i=n:=by omega
    subst e
    exact .inl ⟨Nat.le_refl _,hd σ H p⟩
end L2
namespace L2
open PySem PySem.Spec PyProof.Rows
variable {q0:Bool}
abbrev R2:=V→V→Hp→VK→Prop
def OpR (X:Cx) (f:Value→Value→Sem Value) (r:R2):Prop :=
 ∀ (pins:List (Addr × Obj)) (s:Shared) (σ:St) (H:Hp) (x y:V) (v u:Value) (Q:VK),Inv X pins σ H s→RelV x v→RelV y u→r x y H Q →
  wpAny (model X.prog X.w) X.A (f v u) (EP X pins σ Q) X.xe s
def UnR (X:Cx) (f:Value→Sem Value) (r:V→Hp→VK→Prop):Prop :=
 ∀ (pins:List (Addr × Obj)) (s:Shared) (σ:St) (H:Hp) (x:V) (v:Value) (Q:VK),Inv X pins σ H s→RelV x v→r x H Q →
  wpAny (model X.prog X.w) X.A (f v) (EP X pins σ Q) X.xe s
def xb0 (X:Cx) (f:Value) (r:List V→Hp→VK→Prop):Prop :=
 ∀ (pins:List (Addr × Obj)) (s:Shared) (σ:St) (H:Hp) (xs:List V) (us:List Value) (Q:VK),Inv X pins σ H s→Vals xs us→r xs H Q →
  wpAny (model X.prog X.w) X.A (call f us) (EP X pins σ Q) X.xe s
def tOp (r:R2) (ta tb:TE):TE:=fun σ H Q=>ta σ H fun x H1=>tb σ H1 fun y H2=>r x y H2 Q
def tUn (r:V→Hp→VK→Prop) (ta:TE):TE:=fun σ H Q=>ta σ H fun x H1=>r x H1 Q
def rI (C:Int→Int→Prop) (g:Int→Int→V):R2:=fun x y H Q=>∃ i j,x=.int i∧y=.int j∧C i j∧Q (g i j) H
def rI0 (g:Int→Int→V):R2:=fun x y H Q=>∃ i j,x=.int i∧y=.int j∧Q (g i j) H
def rU (g:Int→V):V→Hp→VK→Prop:=fun x H Q=>∃ i,x=.int i∧Q (g i) H
section
variable {X:Cx} {a b c:Expr} {ta tb tc:TE} {pos:Pos}
theorem binT (ha:PE X a ta) (hb:PE X b tb) {pins:List (Addr × Obj)} {s:Shared} {σ:St} {H:Hp} {R:V→V→Hp→Prop} (I:Inv X pins σ H s)
    (h:ta σ H fun x H1=>tb σ H1 fun y H2=>R x y H2) {Q:Value→Shared→Prop} {f:Value→Value→Sem Value}
    (hf:∀ v u s2 x y H2,Inv X pins σ H2 s2→RelV x v→RelV y u→R x y H2→wpAny (model X.prog X.w) X.A (f v u) Q X.xe s2) :
    wpAny (model X.prog X.w) X.A (eval a X.env) (fun v s₁=>wpAny (model X.prog X.w) X.A (eval b X.env) (fun u s₂=>wpAny (model X.prog X.w) X.A (f v u) Q X.xe s₂) X.xe s₁) X.xe s:=by
  refine thn (ha pins s σ H _ I h) fun v s1 ⟨x,H1,I1,r1,q1⟩=>?_
  refine thn (hb pins s1 σ H1 _ I1 q1) fun u s2 ⟨y,H2,I2,r2,q2⟩=>?_
  exact hf v u s2 x y H2 I2 r1 r2 q2
theorem x9 {op:Operator} {r:R2} (ho:OpR X (binaryOp op) r) (ha:PE X a ta) (hb:PE X b tb):PE X (.BinOp a op b pos) (tOp r ta tb):=by
 intro pins s σ H Q I h
 exact wpAny_BinOp (binT ha hb I h fun v u s2 x y H2 I2 rx ry q=>ho pins s2 σ H2 x y v u Q I2 rx ry q)
theorem xpz {op:UnaryOp} {r:V→Hp→VK→Prop} (ho:UnR X (unaryOp op) r) (ha:PE X a ta):PE X (.UnaryOp op a pos) (tUn r ta):=by
 intro pins s σ H Q I h
 exact UnaryOp_ (thn (ha pins s σ H _ I h) fun v s1 ⟨x,H1,I1,r1,q1⟩=>ho pins s1 σ H1 x v Q I1 r1 q1)
theorem opI {f:Value→Value→Sem Value} {C:Int→Int→Prop} {g:Int→Int→Int}
    (rule:∀ (i j:Int) (t u:Tok) (s:Shared) (Q:Value→Shared→Prop) (E:Value→Shared→Prop),C i j→Q (.int (g i j) s.toks) { s with toks:=s.toks + 1 }→wpAny (model X.prog X.w) X.A (f (.int i t) (.int j u)) Q E s) :
    OpR X f (rI C fun i j=>.int (g i j)):=by
  intro pins s σ H x y v u Q I rx ry h
  obtain ⟨i,j,rfl,rfl,hc,q⟩:=h
  obtain ⟨t,rfl⟩:=rx
  obtain ⟨t',rfl⟩:=ry
  exact rule i j t t' s _ _ hc ⟨.int (g i j),H,I.tok _,⟨_,rfl⟩,q⟩
theorem opI0 {f:Value→Value→Sem Value} {g:Int→Int→Int}
    (rule:∀ (i j:Int) (t u:Tok) (s:Shared) (Q:Value→Shared→Prop) (E:Value→Shared→Prop),Q (.int (g i j) s.toks) { s with toks:=s.toks + 1 }→wpAny (model X.prog X.w) X.A (f (.int i t) (.int j u)) Q E s) :
    OpR X f (rI0 fun i j=>.int (g i j)):=by
  intro pins s σ H x y v u Q I rx ry h
  obtain ⟨i,j,rfl,rfl,q⟩:=h
  obtain ⟨t,rfl⟩:=rx
  obtain ⟨t',rfl⟩:=ry
  exact rule i j t t' s _ _ ⟨.int (g i j),H,I.tok _,⟨_,rfl⟩,q⟩
theorem opB0 {f:Value→Value→Sem Value} {g:Int→Int→Bool}
    (rule:∀ (i j:Int) (t u:Tok) (s:Shared) (Q:Value→Shared→Prop) (E:Value→Shared→Prop),Q (.bool (g i j)) s→wpAny (model X.prog X.w) X.A (f (.int i t) (.int j u)) Q E s) :
    OpR X f (rI0 fun i j=>.bl (g i j)):=by
  intro pins s σ H x y v u Q I rx ry h
  obtain ⟨i,j,rfl,rfl,q⟩:=h
  obtain ⟨t,rfl⟩:=rx
  obtain ⟨t',rfl⟩:=ry
  exact rule i j t t' s _ _ ⟨.bl (g i j),H,I,rfl,q⟩
def CDiv (i j:Int):Prop:=0 < j∧j < 1073741824
def CPow (i j:Int):Prop:=0≤j∧j≤1000000∧i.natAbs < 2 ^ 64
def CMul (i j:Int):Prop:=(-(2 ^ 64) < i∧i < 2 ^ 64)∨(-(2 ^ 64) < j∧j < 2 ^ 64)
theorem CMul.ok {i j:Int} (h:CMul i j):IntMulOk i j:=by
 rcases h with ⟨h1,h2⟩ | ⟨h1,h2⟩
 ·exact .of_left (intBits_le_64 h1 h2)
 ·exact .of_right (intBits_le_64 h1 h2)
theorem xii (k:Nat):(0:Int)≤2 ^ k:=by
 rw [two_pow_cast]
 exact Int.natCast_nonneg _
theorem xbh:OpR X (binaryOp .Add) (rI0 fun i j=>.int (i + j)):=opI0 fun _ _ _ _ _ _ _ q=>add_int q
theorem xi5:OpR X (binaryOp .Sub) (rI0 fun i j=>.int (i - j)):=opI0 fun _ _ _ _ _ _ _ q=>sub_int q
theorem xc4:OpR X (binaryOp .Mult) (rI CMul fun i j=>.int (i * j)):=opI fun _ _ _ _ _ _ _ hc q=>mul_int q hc.ok
theorem xcx:OpR X (binaryOp .FloorDiv) (rI CDiv fun i j=>.int (i / j)):=opI fun i j _ _ _ _ _ hc q=>by
 have h1:(0:Int) < j:=hc.1
 have h2:j < 1073741824:=hc.2
 exact floordiv_int (by omega) (by rw [Int.fdiv_eq_ediv_of_nonneg i (by omega)]; exact q) (.inl (PyProof.noPylong_small (by omega)))
theorem xas:OpR X (binaryOp .Mod) (rI (fun _ j=>0 < j) fun i j=>.int (i % j)):=opI fun i j _ _ _ _ _ hc q=>by
 have h1:(0:Int) < j:=hc
 exact mod_int' (by omega) (by rw [Int.fmod_eq_emod_of_nonneg i (by omega)]; exact q)
theorem xoa:OpR X (binaryOp .Pow) (rI CPow fun i j=>.int (i ^ j.toNat)):=opI fun _ _ _ _ _ _ _ hc q=>pow_int_small hc.1 hc.2.1 hc.2.2 q
theorem xov:OpR X (binaryOp .RShift) (rI (fun _ j=>0≤j) fun i j=>.int (i / 2 ^ j.toNat)):=opI fun i j _ _ _ _ _ hc q =>
 rshift_int hc (by rw [Int.fdiv_eq_ediv_of_nonneg i (xii _)]; exact q)
theorem unI {f:Value→Sem Value} {g:Int→Int}
    (rule:∀ (i:Int) (t:Tok) (s:Shared) (Q:Value→Shared→Prop) (E:Value→Shared→Prop),Q (.int (g i) s.toks) { s with toks:=s.toks + 1 }→wpAny (model X.prog X.w) X.A (f (.int i t)) Q E s) :
    UnR X f (rU fun i=>.int (g i)):=by
  intro pins s σ H x v Q I rx h
  obtain ⟨i,rfl,q⟩:=h
  obtain ⟨t,rfl⟩:=rx
  exact rule i t s _ _ ⟨.int (g i),H,I.tok _,⟨_,rfl⟩,q⟩
theorem xoy:UnR X (unaryOp .USub) (rU fun i=>.int (-i)):=unI fun _ _ _ _ _ q=>neg_int q
end
def scal:V→V→Bool
 | .non,.non=>true | .non,.int _=>true | .int _,.non=>true | .non,.bl _=>true | .bl _,.non=>true | .non,.str _=>true | .str _,.non=>true
 | .int _,.int _=>true | .bl _,.bl _=>true | .str _,.str _=>true | .byt _,.byt _=>true
 | .int _,.str _=>true | .str _,.int _=>true | .bl _,.str _=>true | .str _,.bl _=>true
 | _,_=>false
def rEq:R2:=fun x y H Q=>scal x y=true∧Q (.bl (decide (x=y))) H
def rNe:R2:=fun x y H Q=>scal x y=true∧Q (.bl (!decide (x=y))) H
theorem xic {i j:Int}:decide (V.int i=V.int j)=(i == j):=by
 rw [Bool.eq_iff_iff]
 simp
theorem xjf {i j:Bool}:decide (V.bl i=V.bl j)=(i == j):=by
 rw [Bool.eq_iff_iff]
 simp
theorem xhr {i j:Str}:decide (V.str i=V.str j)=(i == j):=by
 rw [Bool.eq_iff_iff]
 simp
theorem xid {i j:Array UInt8}:decide (V.byt i=V.byt j)=(i.toList == j.toList):=by
 rw [Bool.eq_iff_iff]
 cases i
 cases j
 simp
section
variable {X:Cx} {a b c:Expr} {ta tb tc:TE} {pos:Pos}
theorem xai {pins:List (Addr × Obj)} {σ:St} {H:Hp} {s:Shared} {Q:VK} {k k':Bool} (I:Inv X pins σ H s) (q:Q (.bl k) H) (e:k=k'):EP X pins σ Q (.bool k') s:=by
 subst e
 exact ⟨.bl k,H,I,rfl,q⟩
theorem xa9:OpR X (compareOp .Eq) rEq:=by
 intro pins s σ H x y v u Q I rx ry h
 obtain ⟨hs,q⟩:=h
 cases x with
 | non =>
  cases rx
  cases y with
  | non=>cases ry; exact PySem.EqNone.eq_none_none (xai I q (by simp))
  | bl j=>cases ry; exact PySem.EqNone.eq_none_bool (xai I q (by simp))
  | int j=>obtain ⟨t',rfl⟩:=ry; exact PySem.EqNone.eq_none_int (xai I q (by simp))
  | str j=>obtain ⟨t',rfl⟩:=ry; exact PySem.EqNone.eq_none_str (xai I q (by simp))
  | _=>exact absurd (show false=true from hs) Bool.false_ne_true
 | bl i =>
  cases rx
  cases y with
  | non=>cases ry; exact PySem.EqNone.eq_bool_none (xai I q (by simp))
  | bl j=>cases ry; exact eq_bool (xai I q xjf)
  | str j=>obtain ⟨t',rfl⟩:=ry; exact PySem.EqMixed.eq_bool_str (xai I q (by simp))
  | _=>exact absurd (show false=true from hs) Bool.false_ne_true
 | int i =>
  obtain ⟨t,rfl⟩:=rx
  cases y with
  | non=>cases ry; exact PySem.EqNone.eq_int_none (xai I q (by simp))
  | int j=>obtain ⟨t',rfl⟩:=ry; exact eq_int (xai I q xic)
  | str j=>obtain ⟨t',rfl⟩:=ry; exact PySem.EqMixed.eq_int_str (xai I q (by simp))
  | _=>exact absurd (show false=true from hs) Bool.false_ne_true
 | str i =>
  obtain ⟨t,rfl⟩:=rx
  cases y with
  | non=>cases ry; exact PySem.EqNone.eq_str_none (xai I q (by simp))
  | bl j=>cases ry; exact PySem.EqMixed.eq_str_bool (xai I q (by simp))
  | int j=>obtain ⟨t',rfl⟩:=ry; exact PySem.EqMixed.eq_str_int (xai I q (by simp))
  | str j=>obtain ⟨t',rfl⟩:=ry; exact eq_str (xai I q xhr)
  | _=>exact absurd (show false=true from hs) Bool.false_ne_true
 | byt i =>
  obtain ⟨t,rfl⟩:=rx
  cases y with
  | byt j=>obtain ⟨t',rfl⟩:=ry; exact PySem.W.eq_bytes (xai I q xid)
  | _=>exact absurd (show false=true from hs) Bool.false_ne_true
 | _=>cases y <;> exact absurd (show false=true from hs) Bool.false_ne_true
theorem xej:OpR X (compareOp .NotEq) rNe:=by
 intro pins s σ H x y v u Q I rx ry h
 obtain ⟨hs,q⟩:=h
 cases x with
 | non =>
  cases rx
  cases y with
  | non=>cases ry; exact PySem.EqNone.ne_none_none (xai I q (by simp))
  | bl j=>cases ry; exact PySem.EqNone.ne_none_bool (xai I q (by simp))
  | int j=>obtain ⟨t',rfl⟩:=ry; exact PySem.EqNone.ne_none_int (xai I q (by simp))
  | str j=>obtain ⟨t',rfl⟩:=ry; exact PySem.EqNone.ne_none_str (xai I q (by simp))
  | _=>exact absurd (show false=true from hs) Bool.false_ne_true
 | bl i =>
  cases rx
  cases y with
  | non=>cases ry; exact PySem.EqNone.ne_bool_none (xai I q (by simp))
  | bl j=>cases ry; exact ne_bool (xai I q (congrArg not xjf))
  | str j=>obtain ⟨t',rfl⟩:=ry; exact PySem.EqMixed.ne_bool_str (xai I q (by simp))
  | _=>exact absurd (show false=true from hs) Bool.false_ne_true
 | int i =>
  obtain ⟨t,rfl⟩:=rx
  cases y with
  | non=>cases ry; exact PySem.EqNone.ne_int_none (xai I q (by simp))
  | int j=>obtain ⟨t',rfl⟩:=ry; exact ne_int (xai I q (congrArg not xic))
  | str j=>obtain ⟨t',rfl⟩:=ry; exact PySem.EqMixed.ne_int_str (xai I q (by simp))
  | _=>exact absurd (show false=true from hs) Bool.false_ne_true
 | str i =>
  obtain ⟨t,rfl⟩:=rx
  cases y with
  | non=>cases ry; exact PySem.EqNone.ne_str_none (xai I q (by simp))
  | bl j=>cases ry; exact PySem.EqMixed.ne_str_bool (xai I q (by simp))
  | int j=>obtain ⟨t',rfl⟩:=ry; exact PySem.EqMixed.ne_str_int (xai I q (by simp))
  | str j=>obtain ⟨t',rfl⟩:=ry; exact ne_str (xai I q (congrArg not xhr))
  | _=>exact absurd (show false=true from hs) Bool.false_ne_true
 | byt i =>
  obtain ⟨t,rfl⟩:=rx
  cases y with
  | byt j=>obtain ⟨t',rfl⟩:=ry; exact PySem.W.ne_bytes (xai I q (congrArg not xid))
  | _=>exact absurd (show false=true from hs) Bool.false_ne_true
 | _=>cases y <;> exact absurd (show false=true from hs) Bool.false_ne_true
theorem xix:OpR X (compareOp .Lt) (rI0 fun i j=>.bl (decide (i < j))):=opB0 fun _ _ _ _ _ _ _ q=>lt_int q
theorem xcd:OpR X (compareOp .LtE) (rI0 fun i j=>.bl (decide (i≤j))):=opB0 fun _ _ _ _ _ _ _ q=>le_int q
theorem xfj:OpR X (compareOp .Gt) (rI0 fun i j=>.bl (decide (j < i))):=opB0 fun _ _ _ _ _ _ _ q=>gt_int q
theorem xpl:OpR X (compareOp .GtE) (rI0 fun i j=>.bl (decide (j≤i))):=opB0 fun _ _ _ _ _ _ _ q=>ge_int q
theorem xc0:OpR X (compareOp .Is) (fun x y H Q=>y=.non∧Q (.bl (decide (x=.non))) H):=by
 intro pins s σ H x y v u Q I rx ry h
 obtain ⟨rfl,q⟩:=h
 cases ry
 refine is_none_gen (xai I q ?_)
 cases x <;> first
  | (cases rx; rfl)
  | (obtain ⟨t,rfl⟩:=rx; rfl)
theorem xed:OpR X (compareOp .IsNot) (fun x y H Q=>y=.non∧Q (.bl (!decide (x=.non))) H):=by
 intro pins s σ H x y v u Q I rx ry h
 obtain ⟨rfl,q⟩:=h
 cases ry
 refine isnot_none_gen (xai I q ?_)
 cases x <;> first
  | (cases rx; rfl)
  | (obtain ⟨t,rfl⟩:=rx; rfl)
def isObj:HO→Bool
 | .lst _=>true
 | .ins _ _ _=>true
 | _=>false
theorem xac (b:Expr) {op:CmpOp} (h:op≠.In:=by decide) (h2:op≠.NotIn:=by decide):behindInMarks op b=false:=by
 have e1:(op == CmpOp.In)=false:=by cases op <;> first | rfl | exact absurd rfl h
 have e2:(op == CmpOp.NotIn)=false:=by cases op <;> first | rfl | exact absurd rfl h2
 cases b <;> simp [behindInMarks,e1,e2]
theorem xdk {op:CmpOp} {r:R2} (ho:OpR X (compareOp op) r) (ha:PE X a ta) (hb:PE X b tb) (hm:behindInMarks op b=false):PE X (.Compare a [op] [b] pos) (tOp r ta tb):=by
 intro pins s σ H Q I h
 exact wpAny_Compare1 (binT ha hb I h fun v u s2 x y H2 I2 rx ry q=>ho pins s2 σ H2 x y v u Q I2 rx ry q) hm
def xi2 (t:TE):TT:=fun σ H Q=>t σ H fun x H'=>∃ k,x=.bl k∧Q k H'
theorem xu {op:CmpOp} {r:R2} (ho:OpR X (compareOp op) r) (ha:PE X a ta) (hb:PE X b tb) (hm:behindInMarks op b=false):PT X (.Compare a [op] [b] pos) (xi2 (tOp r ta tb)):=by
 intro pins s σ H Q I h
 refine wpAny_isTrue_Compare1 (thn (ha pins s σ H _ I h) fun v s1 ⟨x,H1,I1,r1,q1⟩=>thn (hb pins s1 σ H1 _ I1 q1) fun u s2 ⟨y,H2,I2,r2,q2⟩ =>
  thn (ho pins s2 σ H2 x y v u _ I2 r1 r2 q2) fun c s3 ⟨z,H3,I3,r3,k,e,q3⟩=>?_) hm
 subst e
 cases r3
 exact wpAny_truthy_bool ⟨H3,I3,q3⟩
def xja (r r':R2) (ta tb tc:TE):TE:=fun σ H Q=>ta σ H fun x H1=>tb σ H1 fun y H2=>r x y H2 fun z H3=>∃ k,z=.bl k ∧
 (if k=true then tc σ H3 fun w' H4=>r' y w' H4 Q else Q (.bl false) H3)
theorem xey {op op':CmpOp} {r r':R2} (ho:OpR X (compareOp op) r) (ho':OpR X (compareOp op') r') (ha:PE X a ta) (hb:PE X b tb) (hc:PE X c tc)
    (hm:lastMarks [op,op'] [b,c]=false:=by with_unfolding_all rfl):PE X (.Compare a [op,op'] [b,c] pos) (xja r r' ta tb tc):=by
  intro pins s σ H Q I h
  refine Compare_chain (thn (ha pins s σ H _ I h) fun v s1 ⟨x,H1,I1,r1,q1⟩=>chain_link (thn (hb pins s1 σ H1 _ I1 q1) fun u s2 ⟨y,H2,I2,r2,q2⟩ =>
    thn (ho pins s2 σ H2 x y v u _ I2 r1 r2 q2) fun d s3 ⟨z,H3,I3,r3,k,e,q3⟩=>?_)) hm
  subst e
  cases r3
  refine wpAny_truthy_bool ?_
  cases k with
  | false=>exact ite_ff ⟨.bl false,H3,I3,rfl,q3⟩
  | true=>exact ite_tt (chain_last (thn (hc pins s3 σ H3 _ I3 q3) fun w' s4 ⟨z',H4,I4,r4,q4⟩=>ho' pins s4 σ H4 y z' u w' Q I4 r2 r4 q4))
theorem xe1 {op op':CmpOp} {r r':R2} (ho:OpR X (compareOp op) r) (ho':OpR X (compareOp op') r') (ha:PE X a ta) (hb:PE X b tb) (hc:PE X c tc)
    (hm:lastMarks [op,op'] [b,c]=false:=by with_unfolding_all rfl):PT X (.Compare a [op,op'] [b,c] pos) (xi2 (xja r r' ta tb tc)):=by
  intro pins s σ H Q I h
  refine isTrue_chain (thn (ha pins s σ H _ I h) fun v s1 ⟨x,H1,I1,r1,q1⟩=>test_link (thn (hb pins s1 σ H1 _ I1 q1) fun u s2 ⟨y,H2,I2,r2,q2⟩ =>
    thn (ho pins s2 σ H2 x y v u _ I2 r1 r2 q2) fun d s3 ⟨z,H3,I3,r3,k,e,q3⟩=>?_)) hm
  subst e
  cases r3
  refine wpAny_truthy_bool ?_
  cases k with
  | false =>
    obtain ⟨k',e',q'⟩:=q3
    cases e'
    exact ite_ff ⟨H3,I3,q'⟩
  | true =>
    refine ite_tt (test_last (thn (hc pins s3 σ H3 _ I3 q3) fun w' s4 ⟨z',H4,I4,r4,q4⟩=>thn (ho' pins s4 σ H4 y z' u w' _ I4 r2 r4 q4) fun d' s5 ⟨z2,H5,I5,r5,k2,e2,q5⟩=>?_))
    subst e2
    cases r5
    exact wpAny_truthy_bool ⟨H5,I5,q5⟩
theorem xd7:(sizeLine:Nat) < 2 ^ 63:=by rw [sizeLine_eq]; decide
theorem xdl:OpR X (binaryOp .Add) (fun x y H Q=>∃ i j,x=.str i∧y=.str j∧i.length + j.length≤sizeLine∧Q (.str (i ++ j)) H):=by
 intro pins s σ H x y v u Q I rx ry h
 obtain ⟨i,j,rfl,rfl,hz,q⟩:=h
 obtain ⟨t,rfl⟩:=rx
 obtain ⟨t',rfl⟩:=ry
 exact add_str (fun t' tk=>⟨.str (i ++ j),H,I.tok _,⟨_,rfl⟩,q⟩) hz
theorem xch {x:V} {us:List Value} (r:Vals [x] us):∃ u,us=[u]∧RelV x u:=by
 cases r with
 | cons r1 r2=>cases r2; exact ⟨_,rfl,r1⟩
theorem xgh {x y:V} {us:List Value} (r:Vals [x,y] us):∃ u w',us=[u,w']∧RelV x u∧RelV y w':=by
 cases r with
 | cons r1 r2 =>
  cases r2 with
  | cons r3 r4=>cases r4; exact ⟨_,_,rfl,r1,r3⟩
theorem xkr (hc:X.calm=true):xb0 X (.builtin "max") (fun xs H Q=>∃ i j,xs=[.int i,.int j]∧Q (.int (if j > i then j else i)) H):=by
 intro pins s σ H xs us Q I r h
 obtain ⟨i,j,rfl,q⟩:=h
 obtain ⟨u,w',rfl,⟨t,rfl⟩,⟨t',rfl⟩⟩:=xgh r
 refine max_two_ints (I.ok.hd hc) fun h' tk k=>⟨_,H,I.kept k,?_,q⟩
 by_cases hj:j > i
 ·rw [if_pos hj,if_pos hj]; exact ⟨_,rfl⟩
 ·rw [if_neg hj,if_neg hj]; exact ⟨_,rfl⟩
theorem xjz (hc:X.calm=true):xb0 X (.builtin "min") (fun xs H Q=>∃ i j,xs=[.int i,.int j]∧Q (.int (if j < i then j else i)) H):=by
 intro pins s σ H xs us Q I r h
 obtain ⟨i,j,rfl,q⟩:=h
 obtain ⟨u,w',rfl,⟨t,rfl⟩,⟨t',rfl⟩⟩:=xgh r
 refine min_two_ints (I.ok.hd hc) fun h' tk k=>⟨_,H,I.kept k,?_,q⟩
 by_cases hj:j < i
 ·rw [if_pos hj,if_pos hj]; exact ⟨_,rfl⟩
 ·rw [if_neg hj,if_neg hj]; exact ⟨_,rfl⟩
theorem xbp:xb0 X (.type "str") (fun xs H Q=>∃ i,xs=[.int i]∧i.natAbs.log2 < 1920∧Q (.str (toString i)) H):=by
 intro pins s σ H xs us Q I r h
 obtain ⟨i,rfl,hz,q⟩:=h
 obtain ⟨u,rfl,t,rfl⟩:=xch r
 exact PySem.P.str_of_int hz ⟨.str _,H,I.tok _,⟨_,rfl⟩,q⟩
end
end L2
namespace L2
open PySem PySem.Spec PyProof.Rows
variable {q0:Bool}
structure ObjM (h:Heap) (x dx C:Addr) (mA:Str→Option Value):Prop where
 obj:h.get? x=some (PySem.W.instObj C dx)
 ns:h.Ns1 dx mA
 ne:dx≠x
theorem xfu {h:Heap} {dx:Addr} {mA:Str→Option Value} (n:h.Ns1 dx mA):∃ od,h.get? dx=some od∧∀ name,PySem.W.lookIn name od=some (mA name):=by
 obtain ⟨o,es,ep,ho,hd,hk,_,hm⟩:=n
 refine ⟨o,ho,fun name=>?_⟩
 have e:=hm name
 unfold nsFind findBy at e
 rw [← Array.find?_toList] at e
 unfold PySem.W.lookIn
 rw [hd]
 dsimp only
 split
 ·rename_i y q
  rw [q] at e
  exact congrArg some e
 ·rename_i q
  rw [q] at e
  have a:es.toList.any (·.refKey)=false:=by
   rw [List.any_eq_false]
   intro y hy
   obtain ⟨z,t,hkey⟩:=hk y (Array.mem_toList_iff.mp hy)
   simp [DictEntry.refKey,hkey]
  have a':¬ es.toList.any (·.refKey)=true:=by rw [a]; exact Bool.false_ne_true
  rw [if_neg a']
  exact congrArg some e
theorem ObjM.look {h:Heap} {x dx C:Addr} {mA:Str→Option Value} (I:ObjM h x dx C mA):∃ od,PySem.W.InstAt h x (PySem.W.instObj C dx) C (some od)∧∀ name,PySem.W.lookIn name od=some (mA name) :=
 let ⟨od,ho,hl⟩:=xfu I.ns
 ⟨od,⟨I.obj,rfl,rfl,ho⟩,hl⟩
section
variable {prog:Program} {w:World} {A:Around} {E:Value→Shared→Prop} {s:Shared} {K:PySem.W.Frag} {x dx C f:Addr} {mA:Str→Option Value} {name:Str} {v:Value}
theorem xmk {expr:Bool} {Q:Value→Shared→Prop} (X:K.In s.heap) (I:ObjM s.heap x dx C mA) (hg:PySem.W.plainGet K C name=true) (hh:PySem.W.hasDictIn K C=true)
    (ha:PySem.W.findIn K (.ref C) name=some none) (hv:mA name=some v) (hv':PySem.W.handedIn v=true) (h:Q v { s with toks:=s.toks + 1 }) :
    wpAny (model prog w) A (getAttr (.ref x) name expr) Q E s:=by
  obtain ⟨od,J,hl⟩:=I.look
  exact PySem.W.get_value X J (PySem.W.plainGet_of hg).1 (PySem.W.findObj_own hh ha rfl (by rw [hl,hv])) hv' h
theorem xkx {pl:Sem Bool} {Q:Value × List Value→Shared→Prop} (X:K.In s.heap) (I:ObjM s.heap x dx C mA) (hg:PySem.W.plainGet K C name=true)
    (hf:PySem.W.findIn K (.ref C) name=some (some (.ref f))) (ht:PySem.W.isFn K (.ref f)=true) (hv:mA name=none) (h:Q (.ref f,[.ref x]) s) :
    wpAny (model prog w) A (getMethod (.ref x) name pl) Q E s:=by
  obtain ⟨od,J,hl⟩:=I.look
  exact PySem.W.method_fn X J (PySem.W.plainGet_of hg).1 (PySem.W.plainGet_of hg).2 hf (beq_iff_eq.mp ht) (by show (PySem.W.lookIn name od).map (·.isSome)=some false; rw [hl,hv]; rfl) h
theorem xm5 {ns:List Str} {Q:Unit→Shared→Prop} (X:K.In s.heap) (I:ObjM s.heap x dx C mA)
    (hs:PySem.W.findIn K (.ref C) "__setattr__"=some (some (.builtin "object.__setattr__"))) (hp:PySem.W.plainOver K C=true) (ht:PySem.W.takerIn K C name=some none) (hh:PySem.W.hasDictIn K C=true)
    (hw:PySem.Within mA ns) (hsz:ns.length≤sizeLine)
    (h:∀ h',ObjM h' x dx C (fun y=>if y=name then some v else mA y)→Heap.SameBut dx s.heap h'→Q () { s with heap:=h',toks:=s.toks + 2 }) :
    wpAny (model prog w) A (setAttr (.ref x) name v) Q E s:=by
  obtain ⟨od,J,hl⟩:=I.look
  refine PySem.W.set_plain X J hs (PySem.W.osa_open (s:={ s with toks:=s.toks + 1 }) (r:=none) X J hp ht fun b=>?_)
  obtain ⟨cd,hc,hd'⟩:=PySem.W.any_some hh
  have hx:s.heap.get? x=some ⟨.ref C,some dx,.plain,#[]⟩:=I.obj
  refine wpAny_bind (wpAny_pure (wpAny_bind (wpAny_bind (wpAny_loadPart hx (wpAny_bind (PySem.W.Looks.here (s:={ s with toks:=s.toks + 1 }) (PySem.W.looks_clsIn X hc) ?_))))))
  rw [hd']
  refine wpAny_pure (a:=some dx) (wpAny_bind (wpAny_pure (wpAny_bind ?_)))
  refine wpAny_nsSet1 (s:={ s with toks:=s.toks + 1 }) I.ns fun h' hn2 hs2=>?_
  obtain ⟨oD,esD,epD,hoD,hdD,hcD⟩:=hn2.count (PySem.Within.cons name v hw)
  refine wpAny_bind (wpAny_lookBehind hoD (by rw [hdD]; exact pastItsLine_dict (Nat.le_trans hcD (by rw [List.length_cons]; omega))) ?_)
  exact wpAny_pure (h _ ⟨(hs2.2 _ (Ne.symm I.ne)).trans I.obj,hn2,I.ne⟩ hs2)
theorem xkw {R:Result→Shared→Prop} {vs:List Value} {kw:List (Str × Value)} (X:K.In s.heap) (hm:PySem.W.makesIn K C=true)
    (hi:PySem.W.findIn K (.ref C) "__init__"=some (some (.ref f))) (hf:PySem.W.typeIn K (.ref f)=some (.type "function"))
    (h:codeAny (model prog w) (A.under (.builtin "type.__call__" ⟨.ref C :: vs,kw⟩)) (.call (.ref f) ⟨.ref (s.heap.objs.size + 1) :: vs,kw⟩) (PySem.W.InitBack (s.heap.objs.size + 1) R)
      { s with heap:=(s.heap.push PySem.W.emptyDict).push (PySem.W.instObj C s.heap.objs.size) }) :
    codeAny (model prog w) A (.call (.ref C) ⟨vs,kw⟩) R s:=by
  obtain ⟨hh,g,d,t,os⟩:=s
  exact PySem.W.make_core (PySem.W.makes_of X hm) (PySem.W.looks_findIn X hi) (fun self=>PySem.W.bind_fn X self hf) (.inl rfl) h
end
def putF (f:Str) (v:V):List (Str × V)→List (Str × V)
 | []=>[(f,v)]
 | (g,x) :: r=>if g=f then (g,v) :: r else (g,x) :: putF f v r
theorem xc9 (f g:Str) (v:V):∀ fs:List (Str × V),(putF f v fs).lookup g=if g=f then some v else fs.lookup g
 | []=>by
  show List.lookup g [(f,v)]=_
  by_cases h:g=f
  ·have hb:(g == f)=true:=beq_iff_eq.mpr h
   simp only [List.lookup,hb,if_pos h]
  ·have hb:(g == f)=false:=beq_eq_false_iff_ne.mpr h
   simp only [List.lookup,hb,if_neg h]
 | (k,x) :: r=>by
  have ih:=xc9 f g v r
  rw [show putF f v ((k,x) :: r)=(if k=f then (k,v) :: r else (k,x) :: putF f v r) from rfl]
  by_cases hk:k=f
  ·rw [if_pos hk]
   by_cases h:g=k
   ·have hb:(g == k)=true:=beq_iff_eq.mpr h
    simp only [List.lookup,hb,if_pos (h.trans hk)]
   ·have hb:(g == k)=false:=beq_eq_false_iff_ne.mpr h
    simp only [List.lookup,hb,if_neg (fun e:g=f=>h (e.trans hk.symm))]
  ·rw [if_neg hk]
   by_cases h:g=k
   ·have hb:(g == k)=true:=beq_iff_eq.mpr h
    simp only [List.lookup,hb,if_neg (fun e:g=f=>hk (h.symm.trans e))]
   ·have hb:(g == k)=false:=beq_eq_false_iff_ne.mpr h
    simp only [List.lookup,hb]
    exact ih
theorem xcn (f:Str) (v:V):∀ fs:List (Str × V),f ∈ (putF f v fs).map (·.1)∧∀ g,g ∈ fs.map (·.1)→g ∈ (putF f v fs).map (·.1)
 | []=>⟨by simp [putF],fun g h=>by simp at h⟩
 | (k,x) :: r=>by
  obtain ⟨i1,i2⟩:=xcn f v r
  rw [show putF f v ((k,x) :: r)=(if k=f then (k,v) :: r else (k,x) :: putF f v r) from rfl]
  by_cases hk:k=f
  ·rw [if_pos hk]
   subst hk
   exact ⟨by simp,fun g h=>by simpa using h⟩
  ·rw [if_neg hk]
   refine ⟨?_,fun g h=>?_⟩
   ·rw [List.map_cons]
    exact List.mem_cons_of_mem _ i1
   ·rw [List.map_cons] at h ⊢
    rcases List.mem_cons.mp h with e | e
    ·exact List.mem_cons.mpr (.inl e)
    ·exact List.mem_cons_of_mem _ (i2 g e)
theorem xda (f:Str) (v:V):∀ fs:List (Str × V),(putF f v fs).length≤fs.length + 1
 | []=>by simp [putF]
 | (k,x) :: r=>by
  have ih:=xda f v r
  rw [show putF f v ((k,x) :: r)=(if k=f then (k,v) :: r else (k,x) :: putF f v r) from rfl]
  by_cases hk:k=f
  ·rw [if_pos hk,List.length_cons,List.length_cons]; omega
  ·rw [if_neg hk,List.length_cons,List.length_cons]; omega
theorem RelO.some_of {v:V} {o:Option Value} (r:RelO (some v) o):∃ u,o=some u∧RelV v u:=by
 cases o with
 | none=>exact (show False from r).elim
 | some u=>exact ⟨u,rfl,r⟩
theorem RelO.none_of {o:Option Value} (r:RelO none o):o=none:=by
 cases o with
 | none=>rfl
 | some u=>exact (show False from r).elim
theorem xf3 {v:V} {u:Value} (r:RelV v u):PySem.W.handedIn u=true:=by
 cases v with
 | non=>cases (show u=Value.none from r); rfl
 | bl b=>cases (show u=Value.bool b from r); rfl
 | int i=>obtain ⟨t,e⟩:=(show ∃ t,u=Value.int i t from r); cases e; rfl
 | str x=>obtain ⟨t,e⟩:=(show ∃ t,u=Value.str x t from r); cases e; rfl
 | byt b=>obtain ⟨t,e⟩:=(show ∃ t,u=Value.bytes b t from r); cases e; rfl
 | flt b=>obtain ⟨t,e⟩:=(show ∃ t,u=Value.float b t from r); cases e; rfl
 | ref a=>cases (show u=Value.ref a from r); rfl
 | ty n=>cases (show u=Value.type n from r); rfl
section
variable {P:Program} {w:World} {H H':Hp} {h h':Heap} {a C dx:Addr} {fs fs':List (Str × V)}
theorem xee (hok:HOk P w H h) (e:H a=some (.ins C dx fs)):∃ mA,ObjM h a dx C mA∧(∀ f,RelO (fs.lookup f) (mA f))∧PySem.Within mA (fs.map (·.1))∧fs.length≤1000∧H dx=some (.own a):=by
 obtain ⟨d,z,ne,ob,mA,n,r,q⟩:=(show xal P w H h a (.ins C dx fs) from hok a _ e)
 exact ⟨mA,⟨ob,n,ne⟩,r,q,z,d⟩
end
structure Cls (K:PySem.W.Frag) (C:Addr):Prop where
 pg:PySem.W.plainGet K C Str.empty=true
 hd:PySem.W.hasDictIn K C=true
 po:PySem.W.plainOver K C=true
 sa:PySem.W.findIn K (.ref C) "__setattr__"=some (some (.builtin "object.__setattr__"))
theorem Cls.get {K:PySem.W.Frag} {C:Addr} (c:Cls K C) (f:Str):PySem.W.plainGet K C f=true:=c.pg
def xc1 (K:PySem.W.Frag) (C:Addr) (f:Str):Prop:=PySem.W.findIn K (.ref C) f=some none
theorem xc1.taker {K:PySem.W.Frag} {C:Addr} {f:Str} (n:xc1 K C f):PySem.W.takerIn K C f=some none:=by
 unfold PySem.W.takerIn
 rw [show PySem.W.findIn K (.ref C) f=some none from n]
 rfl
structure Meth (K:PySem.W.Frag) (C:Addr) (m:Str) (f:Addr):Prop where
 at_:PySem.W.findIn K (.ref C) m=some (some (.ref f))
 fn:PySem.W.isFn K (.ref f)=true
 kp:PySem.W.keepIn K (.ref f)=true
section
variable {X:Cx} {pins:List (Addr × Obj)} {σ:St} {H:Hp} {s:Shared} {a C dx:Addr} {fs:List (Str × V)} {f:Str} {v:V} {A:Around} {E:Value→Shared→Prop}
theorem xi1 {b:Bool} {Q:Value→Shared→Prop} (I:Inv X pins σ H s) (e:H a=some (.ins C dx fs)) (c:Cls X.K C) (n:xc1 X.K C f) (l:fs.lookup f=some v)
    (h:∀ u s',Inv X pins σ H s'→RelV v u→Q u s'):wpAny (model X.prog X.w) A (getAttr (.ref a) f b) Q E s:=by
  obtain ⟨mA,O,r,_,_,_⟩:=xee I.hok e
  obtain ⟨u,hu,ru⟩:=RelO.some_of (v:=v) (o:=mA f) (by rw [← l]; exact r f)
  exact xmk I.kIn O (c.get f) c.hd n hu (xf3 ru) (h u _ (I.tok _) ru)
theorem xe8 {m:Str} {g:Addr} {pl:Sem Bool} {Q:Value × List Value→Shared→Prop} (I:Inv X pins σ H s) (e:H a=some (.ins C dx fs)) (c:Cls X.K C) (k:Meth X.K C m g) (l:fs.lookup m=none)
    (h:Q (.ref g,[.ref a]) s):wpAny (model X.prog X.w) A (getMethod (.ref a) m pl) Q E s:=by
  obtain ⟨mA,O,r,_,_,_⟩:=xee I.hok e
  have hn:mA m=none:=RelO.none_of (by rw [← l]; exact r m)
  exact xkx I.kIn O (c.get m) k.at_ k.fn hn h
theorem xiy {y:V} {u:Value} {Q:Unit→Shared→Prop} (I:Inv X pins σ H s) (e:H a=some (.ins C dx fs)) (c:Cls X.K C) (n:xc1 X.K C f) (hl:fs.length < 1000) (ry:RelV y u)
    (h:∀ s',Inv X pins σ (upd H a (.ins C dx (putF f y fs))) s'→Q () s'):wpAny (model X.prog X.w) A (setAttr (.ref a) f u) Q E s:=by
  obtain ⟨mA,O,r,wi,_,ho⟩:=xee I.hok e
  have hz:(fs.map (·.1)).length≤sizeLine:=by rw [List.length_map,sizeLine_eq]; omega
  refine xm5 I.kIn O c.sa c.po n.taker c.hd wi hz fun h' O' sb=>h _ ?_
  have hd:∃ o,h'.get? dx=some o:=let ⟨o,_,_,e',_⟩:=O'.ns; ⟨o,e'⟩
  refine I.write (x:=a) (e:=dx) (by rw [e]; exact True.intro) (.inr ho) (fun b q hb z=>(sb.2 b hb).trans z) hd ?_
  refine ⟨by rw [xj O.ne]; exact ho,?_,O.ne,O'.obj,_,O'.ns,fun g=>?_,fun g hg=>?_⟩
  · have:=xda f y fs; omega
  · show RelO ((putF f y fs).lookup g) (if g=f then some u else mA g)
    rw [xc9]
    by_cases q:g=f
    · rw [if_pos q,if_pos q]; exact ry
    · rw [if_neg q,if_neg q]; exact r g
  · by_cases q:g=f
    · rw [q]; exact (xcn f y fs).1
    · refine (xcn f y fs).2 g (wi g fun z=>hg ?_)
      show (if g=f then some u else mA g)=none
      rw [if_neg q]; exact z
theorem Inv.made (I:Inv X pins σ H s):Inv X pins σ (upd (upd H s.heap.objs.size (.own (s.heap.objs.size + 1))) (s.heap.objs.size + 1) (.ins C s.heap.objs.size []))
    { s with heap:=(s.heap.push PySem.W.emptyDict).push (PySem.W.instObj C s.heap.objs.size) }:=by
  have e1:(s.heap.push PySem.W.emptyDict).get? s.heap.objs.size=some PySem.W.emptyDict:=Heap.get?_push_size s.heap rfl
  have e2:((s.heap.push PySem.W.emptyDict).push (PySem.W.instObj C s.heap.objs.size)).get? (s.heap.objs.size + 1)=some (PySem.W.instObj C s.heap.objs.size):=by
    have:=Heap.get?_push_size (s.heap.push PySem.W.emptyDict) (o:=PySem.W.instObj C s.heap.objs.size) rfl
    rwa [Heap.size_push] at this
  have e3:(s.heap.push PySem.W.emptyDict).Ns s.heap.objs.size (fun _=>none):=⟨PySem.W.emptyDict,#[],_,e1,rfl,(fun e he=>absurd he (by simp)),fun _=>rfl⟩
  have I1:=I.laid (a:=s.heap.objs.size) (o:=.own (s.heap.objs.size + 1)) (h':=s.heap.push PySem.W.emptyDict) (t':=s.toks) (fun b u q=>Heap.get?_push_of_some _ q) (Nat.le_refl _) ⟨_,e1⟩
  refine I1.laid (a:=s.heap.objs.size + 1) (o:=.ins C s.heap.objs.size []) (t':=s.toks) (fun b u q=>Heap.get?_push_of_some _ q) (Nat.le_of_eq (Heap.size_push _ _)) ?_
  have ne:s.heap.objs.size≠s.heap.objs.size + 1:=Nat.ne_of_lt (Nat.lt_succ_self _)
  refine ⟨by rw [xj ne,xf],Nat.zero_le _,ne,e2,fun _=>none,(Heap.Ns1.of_empty e3).at fun o q=>Heap.get?_push_of_some _ q,fun _=>True.intro,fun y hy=>absurd rfl hy⟩
theorem xhx {prog:Program} {w:World} {env:Env} {e:Expr} {f:Str} {pos:Pos} {s:Shared} {Q:Value→Shared→Prop} (hb:attributeBase e f env (eval e env)=eval e env)
    (h:wpAny (model prog w) A (eval e env) (fun o s₁=>wpAny (model prog w) A (getAttr o f true) Q E s₁) E s):wpAny (model prog w) A (eval (.Attribute e f pos) env) Q E s :=
  Attribute_any_ h (by rw [arm_eval_Attribute,hb])
end
def tFld (K:PySem.W.Frag) (ta:TE) (f:Str):TE:=fun σ H Q=>ta σ H fun x H1=>∃ a C dx fs v,x=.ref a∧H1 a=some (.ins C dx fs)∧Cls K C∧xc1 K C f∧fs.lookup f=some v∧Q v H1
def sFld (K:PySem.W.Frag) (ta tv:TE) (f:Str):TS:=fun D σ H=>tv σ H fun y H1=>ta σ H1 fun x H2=>∃ a C dx fs,x=.ref a∧H2 a=some (.ins C dx fs)∧Cls K C∧xc1 K C f∧fs.length < 1000 ∧
 D.nx σ (upd H2 a (.ins C dx (putF f y fs)))
section
variable {X:Cx} {o e value:Expr} {f:Str} {pos pos' tpos:Pos} {ta tv:TE}
theorem xbi (he:PE X e ta) (hb:attributeBase e f X.env (eval e X.env)=eval e X.env):PE X (.Attribute e f pos) (tFld X.K ta f):=by
 intro pins s σ H Q I h
 refine xhx hb (thn (he pins s σ H _ I h) fun u s1 ⟨x,H1,I1,rx,a,C,dx,fs,v,ex,ea,c,n,l,q⟩=>?_)
 subst ex
 obtain rfl:u=Value.ref a:=rx
 exact xi1 I1 ea c n l fun u' s2 I2 ru=>⟨v,H1,I2,ru,q⟩
theorem xeb (ha:PE X o ta) (hv:PE X value tv) (hs:swapsWith value (some (.Attribute o f pos')) pos.line X.env=pure false):PS X (.Assign [.Attribute o f pos'] value pos) (sFld X.K ta tv f):=by
 intro pins s σ H D I h
 refine plainObj_wpAny_Assign_Attribute (thn (hv pins s σ H _ I h) fun u s1 ⟨y,H1,I1,ry,q⟩=>thn (ha pins s1 σ H1 _ I1 q) fun ov s2 ⟨x,H2,I2,rx,a,C,dx,fs,ex,ea,c,n,l,q2⟩=>?_) hs
 subst ex
 obtain rfl:ov=Value.ref a:=rx
 exact xiy I2 ea c n l ry fun s3 I3=>⟨σ,_,I3,q2⟩
end
section
variable {X:Cx} {pins:List (Addr × Obj)} {σ:St} {H:Hp} {s:Shared} {A:Around} {E:Value→Shared→Prop} {Q:Value→Shared→Prop} {c:Value} {b:Bool}
inductive TyOf (K:PySem.W.Frag) (H:Hp):V→Value→Prop where
  | non:TyOf K H .non (.type "NoneType")
  | bl (x:Bool):TyOf K H (.bl x) (.type "bool")
  | int (i:Int):TyOf K H (.int i) (.type "int")
  | str (x:Str):TyOf K H (.str x) (.type "str")
  | flt (x:UInt64):TyOf K H (.flt x) (.type "float")
  | lst {a:Addr} {xs:List V} (e:H a=some (.lst xs)):TyOf K H (.ref a) (.type "list")
  | frz {a:Addr} {o:Obj} {xs:List V} (e:H a=some (.frz o (.lst xs))):TyOf K H (.ref a) (.type "list")
  | tup {a:Addr} {xs:List V} (e:H a=some (.tup xs)):TyOf K H (.ref a) (.type "tuple")
  | dK {a:Addr} {kvs:List (Key × V)} (e:H a=some (.dK kvs)):TyOf K H (.ref a) (.type "dict")
  | dT {a:Addr} {kvs:List (List Key × V)} (e:H a=some (.dT kvs)):TyOf K H (.ref a) (.type "dict")
  | ins {a C dx:Addr} {fs:List (Str × V)} (e:H a=some (.ins C dx fs)) (cl:Cls K C) (ha:PySem.W.findIn K (.ref C) "__class__"=some (some (.builtin "object.__class__")))
      (hn:PySem.W.specialIn K (.builtin "object.__class__") "__get__"=some (some (.builtin "getset_descriptor.__get__"))) (htk:PySem.W.takesIn K (.builtin "object.__class__")=some true)
      (hm:PySem.W.mroIn K C (.type "object")=some true):TyOf K H (.ref a) (.ref C)
theorem xjq {x:V} {u t:Value} (I:Inv X pins σ H s) (rx:RelV x u) (ty:TyOf X.K H x t) (e:PySem.W.kitOne X.K t c=some b) (h:∀ tk,Q (.bool b) { s with toks:=tk }) :
    wpAny (model X.prog X.w) A (call (.builtin "isinstance") [u,c]) Q E s:=by
  cases ty with
  | non=>cases (show u=Value.none from rx); exact PySem.W.kia_one PySem.W.kitx_none I.kIn True.intro e (fun z=>nomatch z) h
  | bl y=>cases (show u=Value.bool y from rx); exact PySem.W.kia_one PySem.W.kitx_bool I.kIn True.intro e (fun z=>nomatch z) h
  | int i=>obtain ⟨t,q⟩:=(show ∃ t,u=Value.int i t from rx); cases q; exact PySem.W.kia_one PySem.W.kitx_int I.kIn True.intro e (fun z=>nomatch z) h
  | str y=>obtain ⟨t,q⟩:=(show ∃ t,u=Value.str y t from rx); cases q; exact PySem.W.kia_one PySem.W.kitx_str I.kIn True.intro e (fun z=>nomatch z) h
  | flt y=>obtain ⟨t,q⟩:=(show ∃ t,u=Value.float y t from rx); cases q; exact PySem.W.kia_one PySem.W.kitx_float I.kIn True.intro e (fun z=>nomatch z) h
  | @lst a xs ea =>
    cases (show u=Value.ref a from rx)
    obtain ⟨_,_,n,_,h1⟩:=(show xal X.prog X.w H s.heap a (.lst xs) from I.hok a _ ea)
    exact PySem.W.kia_one PySem.W.kitx_list I.kIn ⟨_,h1,rfl⟩ e (fun z=>nomatch z) h
  | @frz a ob xs ea =>
    cases (show u=Value.ref a from rx)
    obtain ⟨_,_,_,n,_,h1⟩:=(show xal X.prog X.w H s.heap a (.frz ob (.lst xs)) from I.hok a _ ea)
    exact PySem.W.kia_one PySem.W.kitx_list I.kIn ⟨_,h1,rfl⟩ e (fun z=>nomatch z) h
  | @tup a xs ea =>
    cases (show u=Value.ref a from rx)
    obtain ⟨_,_,_,p⟩:=(show xal X.prog X.w H s.heap a (.tup xs) from I.hok a _ ea)
    obtain ⟨o,h1,h2,_⟩:=p
    exact PySem.W.kia_one PySem.W.kitx_tuple I.kIn ⟨o,h1,h2⟩ e (fun z=>nomatch z) h
  | @dK a kvs ea =>
    cases (show u=Value.ref a from rx)
    obtain ⟨_,_,vs,_,p⟩:=(show xal X.prog X.w H s.heap a (.dK kvs) from I.hok a _ ea)
    obtain ⟨o,es,ep,h1,h2,_⟩:=p
    exact PySem.W.kia_one PySem.W.kitx_dict I.kIn ⟨o,h1,h2.1⟩ e (fun z=>nomatch z) h
  | @dT a kvs ea =>
    cases (show u=Value.ref a from rx)
    obtain ⟨_,_,xs,_,o,es,ep,h1,h2,_⟩:=(show xal X.prog X.w H s.heap a (.dT kvs) from I.hok a _ ea)
    exact PySem.W.kia_one PySem.W.kitx_dict I.kIn ⟨o,h1,h2.1⟩ e (fun z=>nomatch z) h
  | @ins a C dx fs ea cl ha hn htk hm =>
    cases (show u=Value.ref a from rx)
    obtain ⟨mA,O,_⟩:=xee I.hok ea
    obtain ⟨od,J,_⟩:=O.look
    exact PySem.W.kia_one (PySem.W.kitx_own (cl.get _) cl.hd ha hn htk hm) I.kIn J e (fun z=>nomatch z) h
end
end L2
namespace L2
open PySem PySem.Spec PyProof.Rows
variable {q0:Bool}
structure Room (q0:Bool) (k:Nat) (A:Around):Prop where
 hd:q0=true→A.handled=none
 dp:A.depth + 3 * k + 5 < recursionLimit
 un:A.units + 16 * k + 200 < cLine
theorem Room.mono {j k:Nat} {A:Around} (r:Room q0 k A) (h:j≤k):Room q0 j A:=⟨r.hd,by have:=r.dp; omega,by have:=r.un; omega⟩
theorem Room.deeper {k:Nat} {A:Around} (r:Room q0 (k + 1) A) (env:Env):Room q0 k (A.deeper env) :=
 ⟨r.hd,by have:=r.dp; show A.depth + 1 + 3 * k + 5 < _; omega,by have:=r.un; show A.units + 3 + 16 * k + 200 < _; omega⟩
theorem xiz {A:Around} {C:Addr} {us:List Value} {kw:List (Str × Value)}:(A.under (.builtin "type.__call__" ⟨.ref C :: us,kw⟩)).depth=A.depth + 1:=by
 first | rfl | simp [Around.under,Code.weight,Code.isCreation,Code.isGuard,Code.isCaller,Code.frames,Code.isFrame,guardIds]
theorem xip {A:Around} {C:Addr} {us:List Value} {kw:List (Str × Value)}:(A.under (.builtin "type.__call__" ⟨.ref C :: us,kw⟩)).units=A.units + 1:=by
 first | rfl | simp [Around.under,Code.cUnits,Code.frames,Code.isFrame]
theorem Room.make {k:Nat} {A:Around} (r:Room q0 (k + 1) A) (C:Addr) (us:List Value) (kw:List (Str × Value)):Room q0 k (A.under (.builtin "type.__call__" ⟨.ref C :: us,kw⟩)) :=
 ⟨r.hd,by have:=r.dp; rw [xiz]; omega,by have:=r.un; rw [xip]; omega⟩
theorem Room.depth {k:Nat} {A:Around} (r:Room q0 k A):A.depth < recursionLimit:=by have:=r.dp; omega
theorem Room.units {k:Nat} {A:Around} (r:Room q0 k A):A.units + 64 < cLine:=by have:=r.un; omega
def tNil:TA:=fun _ H Q=>Q [] H
def xl4 (ta:TE) (tr:TA):TA:=fun σ H Q=>ta σ H fun x H1=>tr σ H1 fun xs H2=>Q (x :: xs) H2
section
variable {X:Cx} {e:Expr} {es:List Expr} {te:TE} {t:TA} {pos:Pos}
theorem xg:PA X [] tNil:=fun _ _ _ _ H Q I h=>Calls.spliced_nil ⟨[],H,I,.nil,h⟩
theorem xb (ha:PE X e te) (hr:PA X es t) (hs:starEach (e :: es) X.env=(false,eval e X.env) :: starEach es X.env:=by rfl):PA X (e :: es) (xl4 te t):=by
 intro pos pins s σ H Q I h
 rw [hs]
 show wpAny _ _ (spliced ((false,eval e X.env) :: backTo pos (starEach es X.env))) _ _ s
 refine Calls.spliced_cons (thn (ha pins s σ H _ I h) fun u s1 ⟨x,H1,I1,r1,q1⟩=>?_)
 exact thn (hr pos pins s1 σ H1 _ I1 q1) fun us s2 ⟨xs,H2,I2,r2,q2⟩=>⟨x :: xs,H2,I2,.cons r1 r2,q2⟩
def tTup (t:TA):TE:=fun σ H Q=>t σ H fun xs H1=>xs.length≤sizeLine∧∀ p,H1 p=none→Q (.ref p) (upd H1 p (.tup xs))
def tLst (t:TA):TE:=fun σ H Q=>t σ H fun xs H1=>xs.length≤sizeLine∧∀ p,H1 p=none→Q (.ref p) (upd H1 p (.lst xs))
theorem xaf {x1} (h:PA X es t):PE X (.Tuple es x1 pos) (tTup t):=by
 intro pins s σ H Q I hq
 refine wpAny_Tuple_spliced (thn (h pos pins s σ H _ I hq) fun us s1 ⟨xs,H1,I1,r,z,q⟩=>⟨by rw [← r.length]; exact z,?_⟩)
 have hf:H1 s1.heap.objs.size=none:=I1.hok.fresh (Nat.le_refl _)
 refine ⟨.ref s1.heap.objs.size,upd H1 s1.heap.objs.size (.tup xs),I1.laid (t':=s1.toks) (fun b u e=>Heap.get?_push_of_some _ e) (Nat.le_refl _) ?_,rfl,q _ hf⟩
 exact ⟨z,us,r,⟨_,Heap.get?_push_size _ rfl,rfl,_,rfl⟩⟩
theorem xa7 (h:PA X es t):PE X (.List es pos) (tLst t):=by
 intro pins s σ H Q I hq
 refine wpAny_List_spliced (thn (h pos pins s σ H _ I hq) fun us s1 ⟨xs,H1,I1,r,z,q⟩=>⟨by rw [← r.length]; exact z,?_⟩)
 have hf:H1 s1.heap.objs.size=none:=I1.hok.fresh (Nat.le_refl _)
 refine ⟨.ref s1.heap.objs.size,upd H1 s1.heap.objs.size (.lst xs),I1.laid (t':=s1.toks) (fun b u e=>Heap.get?_push_of_some _ e) (Nat.le_refl _) ?_,rfl,q _ hf⟩
 exact ⟨z,us,0,r,Heap.get?_push_size _ rfl⟩
end
abbrev Sp:=List V→Hp→VK→XK→Prop
abbrev CXT:=List Env→Hp→Shared→XK→Value→Shared→Prop
structure Env0 (P:Program) (w:World) (K:PySem.W.Frag) (mg:Str→Option Value) (base:Heap) (A:Around) (outer:List Env) (s:Shared) (H:Hp):Prop where
 frames:A.frames=some outer
 mod:Mod K mg base
 bs:∀ b o,base.get? b=some o→s.heap.get? b=some o∧H b=none
 bsz:base.objs.size≤s.heap.objs.size
 funs:s.heap.FunFrames base outer
 frf:∀ b ∈ frs outer,H b=none
 hok:HOk P w H s.heap
 bare:AllBare s.gens
def CE (outer:List Env) (P:Program) (w:World) (H:Hp) (s:Shared) (Q:VK) (u:Value) (s':Shared):Prop :=
 ∃ v H',s'.os=s.os∧AllBare s'.gens∧Un (frs outer) [] H H' s.heap s'.heap∧HOk P w H' s'.heap∧RelV v u∧Q v H'
def CR (CX:CXT) (outer:List Env) (P:Program) (w:World) (H:Hp) (s:Shared) (Q:VK) (E:XK) (r:Result) (s':Shared):Prop :=
 match r with
 | .ok (.ret u)=>CE outer P w H s Q u s'
 | .ok _=>False
 | .error e=>CX outer H s E e s'
structure FnOk (q0:Bool) (P:Program) (w:World) (K:PySem.W.Frag) (mg:Str→Option Value) (base:Heap) (CX:CXT) (k:Nat) (f:Addr) (fd:FuncData) (ps:List Str) (sp:Sp):Prop where
 len:∀ vs H Q E,sp vs H Q E→vs.length=ps.length
 run:∀ (A:Around) (outer:List Env) (s:Shared) (H:Hp) (args:Args) (us:List Value) (vs:List V) (Q:VK) (E:XK),Room q0 k A→Env0 P w K mg base A outer s H→BindsTo s fd args (ps.zip us)→Vals vs us→sp vs H Q E →
  codeAny (model P w) A (.call (.ref f) args) (CR CX outer P w H s Q E) s
theorem Env0.make {P:Program} {w:World} {K:PySem.W.Frag} {mg:Str→Option Value} {base:Heap} {A:Around} {outer:List Env} {s:Shared} {H:Hp} (e:Env0 P w K mg base A outer s H) (C:Addr) (us:List Value) (kw:List (Str × Value)) :
    Env0 P w K mg base (A.under (.builtin "type.__call__" ⟨.ref C :: us,kw⟩)) outer s H:=⟨by first | exact e.frames | (simpa [Around.under,Code.envs,Code.isFrame,pushEnvs] using e.frames),e.mod,e.bs,e.bsz,e.funs,e.frf,e.hok,e.bare⟩
section
variable {X:Cx} {pins:List (Addr × Obj)} {σ:St} {H:Hp} {s s':Shared}
theorem Inv.env0 (I:Inv X pins σ H s):Env0 X.prog X.w X.K X.mg X.base X.A X.stack s H :=
 ⟨I.ok.frames,I.ok.mod,I.bs,Nat.le_trans I.ok.bsz I.sz,I.stack,I.stkFree,I.hok,I.bare⟩
theorem Inv.after {Q:VK} {u:Value} (I:Inv X pins σ H s) (h:CE X.stack X.prog X.w H s Q u s'):EP X pins σ Q u s':=by
 obtain ⟨v,H',os,bare,un,hok,r,q⟩:=h
 obtain ⟨hh,g,d,t,os'⟩:=s'
 obtain rfl:os'=s.os:=os
 exact ⟨v,H',I.call (h':=hh) (g':=g) (d':=d) (t':=t) (ch:=[]) un hok bare (fun b z=>absurd z (by simp)),r,q⟩
end
def xo9 (sp:Sp) (dvs:List V) (E:St→XK) (t:TA):TE:=fun σ H Q=>t σ H fun vs H1=>sp (vs ++ dvs) H1 Q (E σ)
def xl5 (C:Addr) (m:Str) (sp:Sp) (dvs:List V) (E:St→XK) (ta:TE) (t:TA):TE:=fun σ H Q=>ta σ H fun x H1=>∃ a dx fs,x=.ref a∧H1 a=some (.ins C dx fs)∧fs.lookup m=none ∧
 t σ H1 fun vs H2=>sp (x :: (vs ++ dvs)) H2 Q (E σ)
def xpk (C:Addr) (sp:Sp) (dvs:List V) (E:St→XK) (t:TA):TE:=fun σ H Q=>t σ H fun vs H1=>∀ x dx,H1 x=none→H1 dx=none→dx≠x →
 sp (.ref x :: (vs ++ dvs)) (upd (upd H1 dx (.own x)) x (.ins C dx [])) (fun v H2=>v=.non∧Q (.ref x) H2) (E σ)
def xae (K:PySem.W.Frag) (fd:FuncData) (ps:List Str) (ds:List Value):Prop :=
 ∀ (s:Shared) (us:List Value),K.In s.heap→(us ++ ds).length=ps.length→BindsTo s fd ⟨us,[]⟩ (ps.zip (us ++ ds))
theorem xae.all {K:PySem.W.Frag} {fd:FuncData} {ps:List Str} (h:∀ us:List Value,us.length=ps.length→bindArgs fd ⟨us,[]⟩=pure (ps.zip us)):xae K fd ps []:=fun s us _ hl=>by
 rw [List.append_nil] at hl ⊢
 exact .of_eq (h us hl)
def xcq (CX:CXT) (X:Cx) (E:St→XK):Prop:=∀ (pins:List (Addr × Obj)) (σ:St) (H:Hp) (s:Shared) (e:Value) (s':Shared),Inv X pins σ H s→CX X.stack H s (E σ) e s'→X.xe e s'
section
variable {X:Cx} {CX:CXT} {k:Nat} {f C:Addr} {fd:FuncData} {ps:List Str} {sp:Sp} {dvs:List V} {ds:List Value} {E:St→XK} {x m:Str} {p pos apos:Pos} {e o:Expr} {es:List Expr} {ta:TE} {t:TA}
theorem xg2 {pins:List (Addr × Obj)} {σ:St} {H:Hp} {s:Shared} {Q:VK} {us:List Value} {vs:List V} (F:FnOk q0 X.prog X.w X.K X.mg X.base CX k f fd ps sp) (hr:Room q0 k X.A) (hb:xae X.K fd ps ds) (hd:Vals dvs ds) (hx:xcq CX X E)
    (I:Inv X pins σ H s) (r:Vals vs us) (h:sp (vs ++ dvs) H Q (E σ)):wpAny (model X.prog X.w) X.A (call (.ref f) us) (EP X pins σ Q) X.xe s:=by
  have r2:Vals (vs ++ dvs) (us ++ ds):=r.append hd
  have hl:(us ++ ds).length=ps.length:=by rw [← r2.length]; exact F.len _ _ _ _ h
  refine wpAny_call (codeAny_mono (F.run X.A X.stack s H ⟨us,[]⟩ (us ++ ds) (vs ++ dvs) Q (E σ) hr I.env0 (hb s us I.kIn hl) r2 h) fun r s' hq=>?_)
  cases r with
  | error e=>exact hx pins σ H s e s' I hq
  | ok fl =>
    cases fl with
    | ret u=>exact I.after hq
    | next=>exact False.elim hq
    | brk=>exact False.elim hq
    | cont=>exact False.elim hq
theorem x8 (F:FnOk q0 X.prog X.w X.K X.mg X.base CX k f fd ps sp) (hr:Room q0 k X.A) (hg:Gl X x) (hm:X.mg x=some (.ref f)) (hk:PySem.W.keepIn X.K (.ref f)=true) (hb:xae X.K fd ps ds) (hd:Vals dvs ds) (hx:xcq CX X E)
    (ha:PA X (e :: es) t) (hdb:(x == ("__debug__":Str))=false:=by decide) (he:starEach (e :: es) X.env=(false,eval e X.env) :: starEach es X.env:=by rfl) (hpl:(backTo pos (starEach es X.env)).any (·.1)=false:=by rfl) :
    PE X (.Call (.Name x p) (e :: es) [] pos) (xo9 sp dvs E t):=by
  intro pins s σ H Q I h
  refine wpAny_Call_Name_kw (xcv I hg hm ?_ hdb)
  refine PySem.W.callWith_K (h₀:=X.base) I.ok.mod.kin hk (thn (ha pos pins s σ H _ I h) fun us s1 ⟨vs,H1,I1,r,q⟩=>⟨I1.kIn,?_⟩) he hpl
  exact xg2 F hr hb hd hx I1 r q
theorem xdg {pl:Sem Bool} (he:PE X o ta) (c:Cls X.K C) (hm:Meth X.K C m f) (F:FnOk q0 X.prog X.w X.K X.mg X.base CX k f fd ps sp) (hr:Room q0 k X.A) (hb:xae X.K fd ps ds) (hd:Vals dvs ds) (hx:xcq CX X E) (ha:PA X (e :: es) t)
    (hst:starEach (e :: es) X.env=(false,eval e X.env) :: starEach es X.env:=by rfl) (hpl:(backTo pos (starEach es X.env)).any (·.1)=false:=by rfl)
    (ht:eval (.Call (.Attribute o m apos) (e :: es) [] pos) X.env=(do
      let ov ← eval o X.env
      standAt apos.atName
      let (f,first) ← holding [ov] (getMethod ov m pl)
      callWith pos f first (backTo pos (starEach (e :: es) X.env)) (backToKw pos (keywordEach [] X.env))):=by rfl) :
    PE X (.Call (.Attribute o m apos) (e :: es) [] pos) (xl5 C m sp dvs E ta t):=by
  intro pins s σ H Q I h
  refine PySem.W.methodCall_KW (pl:=pl) (thn (he pins s σ H _ I h) fun u s1 ⟨x,H1,I1,rx,a,dx,fs,ex,ea,l,q⟩=>?_) ht
  subst ex
  obtain rfl:u=Value.ref a:=rx
  refine xe8 I1 ea c hm l ?_
  refine PySem.W.callWith_K (first:=[.ref a]) (h₀:=X.base) I.ok.mod.kin hm.kp (thn (ha pos pins s1 σ H1 _ I1 q) fun us s2 ⟨vs,H2,I2,r,q2⟩=>⟨I2.kIn,?_⟩) hst hpl
  exact xg2 (us:=.ref a :: us) (vs:=.ref a :: vs) F hr hb hd hx I2 (.cons rfl r) q2
theorem xe2 {pl:Sem Bool} (he:PE X o ta) (c:Cls X.K C) (hm:Meth X.K C m f) (F:FnOk q0 X.prog X.w X.K X.mg X.base CX k f fd ps sp) (hr:Room q0 k X.A) (hb:xae X.K fd ps ds) (hd:Vals dvs ds) (hx:xcq CX X E)
    (ht:eval (.Call (.Attribute o m apos) [] [] pos) X.env=(do
      let ov ← eval o X.env
      standAt apos.atName
      let (f,first) ← holding [ov] (getMethod ov m pl)
      callWith pos f first (backTo pos (starEach [] X.env)) (backToKw pos (keywordEach [] X.env))):=by rfl) :
    PE X (.Call (.Attribute o m apos) [] [] pos) (xl5 C m sp dvs E ta tNil):=by
  intro pins s σ H Q I h
  refine PySem.W.methodCall_KW (pl:=pl) (thn (he pins s σ H _ I h) fun u s1 ⟨x,H1,I1,rx,a,dx,fs,ex,ea,l,q⟩=>?_) ht
  subst ex
  obtain rfl:u=Value.ref a:=rx
  refine xe8 I1 ea c hm l ?_
  exact PySem.W.callWith_K0 (first:=[.ref a]) I1.kIn hm.kp (xg2 (us:=[.ref a]) (vs:=[.ref a]) F hr hb hd hx I1 (.cons rfl .nil) q)
structure Mk (K:PySem.W.Frag) (C f:Addr):Prop where
 makes:PySem.W.makesIn K C=true
 init:PySem.W.findIn K (.ref C) "__init__"=some (some (.ref f))
 fn:PySem.W.isFn K (.ref f)=true
 kp:PySem.W.keepIn K (.ref C)=true
theorem xlu {pins:List (Addr × Obj)} {σ:St} {H:Hp} {s:Shared} {Q:VK} {us:List Value} {vs:List V} (M:Mk X.K C f) (F:FnOk q0 X.prog X.w X.K X.mg X.base CX k f fd ps sp) (hr:Room q0 (k + 1) X.A) (hb:xae X.K fd ps ds) (hd:Vals dvs ds)
    (hx:xcq CX X E) (I:Inv X pins σ H s) (r:Vals vs us)
    (h:∀ x dx,H x=none→H dx=none→dx≠x→sp (.ref x :: (vs ++ dvs)) (upd (upd H dx (.own x)) x (.ins C dx [])) (fun v H2=>v=.non∧Q (.ref x) H2) (E σ)) :
    wpAny (model X.prog X.w) X.A (call (.ref C) us) (EP X pins σ Q) X.xe s:=by
  have hq:=h (s.heap.objs.size + 1) s.heap.objs.size (I.hok.fresh (Nat.le_succ _)) (I.hok.fresh (Nat.le_refl _)) (Nat.ne_of_lt (Nat.lt_succ_self _))
  have I2:=Inv.made (C:=C) I
  have r2:Vals (V.ref (s.heap.objs.size + 1) :: (vs ++ dvs)) (Value.ref (s.heap.objs.size + 1) :: (us ++ ds)):=.cons rfl (r.append hd)
  have hl:(Value.ref (s.heap.objs.size + 1) :: us ++ ds).length=ps.length:=by
    have e:=r2.length
    rw [F.len _ _ _ _ hq] at e
    exact e.symm
  refine wpAny_call (xkw (f:=f) I.kIn M.makes M.init (beq_iff_eq.mp M.fn) (codeAny_mono (F.run _ X.stack _ _ ⟨Value.ref (s.heap.objs.size + 1) :: us,[]⟩ (Value.ref (s.heap.objs.size + 1) :: (us ++ ds)) _ _ (E σ) (hr.make C us [])
    (I2.env0.make C us []) (hb _ (Value.ref (s.heap.objs.size + 1) :: us) I2.kIn hl) r2 hq) fun r s' hq'=>?_))
  cases r with
  | error e=>exact hx pins σ _ _ e s' I2 hq'
  | ok fl =>
    cases fl with
    | ret u =>
      obtain ⟨v,H',I3,rv,ev,q3⟩:=I2.after hq'
      subst ev
      exact ⟨rv,⟨V.ref (s.heap.objs.size + 1),H',I3,rfl,q3⟩⟩
    | next=>exact False.elim hq'
    | brk=>exact False.elim hq'
    | cont=>exact False.elim hq'
theorem xfp (M:Mk X.K C f) (F:FnOk q0 X.prog X.w X.K X.mg X.base CX k f fd ps sp) (hr:Room q0 (k + 1) X.A) (hg:Gl X x) (hm:X.mg x=some (.ref C)) (hb:xae X.K fd ps ds) (hd:Vals dvs ds) (hx:xcq CX X E)
    (ha:PA X (e :: es) t) (hdb:(x == ("__debug__":Str))=false:=by decide) (he:starEach (e :: es) X.env=(false,eval e X.env) :: starEach es X.env:=by rfl) (hpl:(backTo pos (starEach es X.env)).any (·.1)=false:=by rfl) :
    PE X (.Call (.Name x p) (e :: es) [] pos) (xpk C sp dvs E t):=by
  intro pins s σ H Q I h
  refine wpAny_Call_Name_kw (xcv I hg hm ?_ hdb)
  refine PySem.W.callWith_K (h₀:=X.base) I.ok.mod.kin M.kp (thn (ha pos pins s σ H _ I h) fun us s1 ⟨vs,H1,I1,r,q⟩=>⟨I1.kIn,?_⟩) he hpl
  exact xlu M F hr hb hd hx I1 r q
end
section
variable {X:Cx} {CX:CXT} {k:Nat} {f C:Addr} {fd:FuncData} {ps ks:List Str} {sp:Sp} {E:St→XK} {x m:Str} {p pos apos kpos:Pos} {e o:Expr} {es:List Expr} {kws:List Keyword} {te ta:TE} {t tk:TA} {nm:Option Str}
variable {g:List Value→List Value→List Value} {gV:List V→List V→List V}
end
structure x5 (N P:List Str) (sc:Scope):Prop where
 kind:sc.kind=.function
 co:sc.isCoroutine=false
 gen:sc.isGenerator=false
 nd:N.Nodup
 pre:N.take P.length=P
 par:∀ x ∈ P,sc.names.lookup x=some .local∨sc.names.lookup x=some .cell
 nofree:∀ y ∈ sc.names,y.2≠.free
theorem xfz {kindOf:Str→Option NameKind} {x:Str}:∀ {binds:List (Str × Value)} {m:Str→Option Value},(∀ v,(x,v) ∉ binds)→bindL kindOf binds m x=m x
 | [],_,_=>rfl
 | (n,v) :: r,m,h=>by
  unfold bindL
  rw [xfz fun w hw=>h w (List.mem_cons_of_mem _ hw)]
  split
  ·have:x≠n:=by rintro rfl; exact h v List.mem_cons_self
   simp [this]
  ·rfl
theorem xfs {kindOf:Str→Option NameKind} {x:Str}:∀ {binds:List (Str × Value)} {m:Str→Option Value},(∀ v,(x,v) ∉ binds)→bindC kindOf binds m x=m x
 | [],_,_=>rfl
 | (n,v) :: r,m,h=>by
  unfold bindC
  rw [xfs fun w hw=>h w (List.mem_cons_of_mem _ hw)]
  split
  ·rfl
  ·have:x≠n:=by rintro rfl; exact h v List.mem_cons_self
   simp [this]
theorem xf0 {kindOf:Str→Option NameKind} {x:Str} {v:Value}:∀ {P:List Str} {vs:List Value} {i:Nat} {m:Str→Option Value},P.Nodup→P[i]?=some x→vs[i]?=some v→kindOf x=some .local →
    bindL kindOf (P.zip vs) m x=some v
  | [],_,_,_,_,h,_,_=>by simp at h
  | _ :: _,[],_,_,_,_,h,_=>by simp at h
  | p :: P,w :: vs,0,m,nd,h1,h2,hk=>by
    simp at h1 h2; subst h1; subst h2
    show bindL kindOf ((p,w) :: P.zip vs) m p=_
    unfold bindL
    rw [xfz fun v hv=>(List.nodup_cons.mp nd).1 (List.of_mem_zip hv).1,if_pos hk]
    simp
  | p :: P,w :: vs,i + 1,m,nd,h1,h2,hk=>by
    show bindL kindOf ((p,w) :: P.zip vs) m x=_
    unfold bindL
    exact xf0 (i:=i) (List.nodup_cons.mp nd).2 (by simpa using h1) (by simpa using h2) hk
theorem xf2 {kindOf:Str→Option NameKind} {x:Str} {v:Value}:∀ {P:List Str} {vs:List Value} {i:Nat} {m:Str→Option Value},P.Nodup→P[i]?=some x→vs[i]?=some v→kindOf x≠some .local →
    bindC kindOf (P.zip vs) m x=some v
  | [],_,_,_,_,h,_,_=>by simp at h
  | _ :: _,[],_,_,_,_,h,_=>by simp at h
  | p :: P,w :: vs,0,m,nd,h1,h2,hk=>by
    simp at h1 h2; subst h1; subst h2
    show bindC kindOf ((p,w) :: P.zip vs) m p=_
    unfold bindC
    rw [xfs fun v hv=>(List.nodup_cons.mp nd).1 (List.of_mem_zip hv).1,if_neg hk]
    simp
  | p :: P,w :: vs,i + 1,m,nd,h1,h2,hk=>by
    show bindC kindOf ((p,w) :: P.zip vs) m x=_
    unfold bindC
    exact xf2 (i:=i) (List.nodup_cons.mp nd).2 (by simpa using h1) (by simpa using h2) hk
def xcb (N:List Str) (vs:List V):St:=vs.map some ++ List.replicate (N.length - vs.length) none
def cxOf (q0:Bool) (CX:CXT) (P:Program) (w:World) (K:PySem.W.Frag) (mg:Str→Option Value) (base:Heap) (N:List Str) (qual:Str) (scope:Scope) (f:Addr) (cd:Value) (A:Around) (outer:List Env) (s:Shared) (H:Hp) (E:XK):Cx where
 prog:=P
 w:=w
 K:=K
 mg:=mg
 base:=base
 A:=A.deeper (envOfC qual scope s.heap.objs.size f cd)
 N:=N
 s₀:=s
 H₀:=H
 env:=envOfC qual scope s.heap.objs.size f cd
 outer:=outer
 stack:=envOfC qual scope s.heap.objs.size f cd :: outer
 ex:=[]
 calm:=q0
 fn:=fun _=>true
 pn:=[]
 xe:=fun e s'=>wpAny (model P w) (A.deeper (envOfC qual scope s.heap.objs.size f cd)) (leaving (envOfC qual scope s.heap.objs.size f cd) e) (fun _ s''=>CX outer H s E e s'') (fun e' s''=>CX outer H s E e' s'') s'
theorem xg3 {sc:Scope} {n:Nat} {x:Str} (h:sc.names.lookup x=some .cell):∃ c,(cellsFrom n sc.names []).lookup x=some c:=by
 have q:=PySem.W.cellsFrom_some sc.names n [] (.inl h)
 exact Option.isSome_iff_exists.mp q
theorem xkl {CX:CXT} {P:Program} {w:World} {K:PySem.W.Frag} {mg:Str→Option Value} {base:Heap} {N ps:List Str} {qual:Str} {scope:Scope} {f:Addr} {cd:Value} {A:Around} {outer:List Env} {s s1:Shared} {H:Hp} {E:XK} {us:List Value} {vs:List V}
    (S:x5 N ps scope) (hd:q0=true→A.handled=none) (e0:Env0 P w K mg base A outer s H) (hl:vs.length=ps.length) (r:Vals vs us)
    (x:InCallC s s.heap.objs.size (bindL (envOfC qual scope s.heap.objs.size f cd).kindOf (ps.zip us) fun _=>none) (cellsFrom (s.heap.objs.size + 1) scope.names []) (bindC (envOfC qual scope s.heap.objs.size f cd).kindOf (ps.zip us) fun _=>none) s1) :
    Inv (cxOf q0 CX P w K mg base N qual scope f cd A outer s H E) [] (xcb N vs) H s1:=by
  have hpl:ps.length≤N.length:=by have:=congrArg List.length S.pre; rw [List.length_take] at this; omega
  obtain ⟨h1,tk,rfl,hk⟩:=x.done
  have noA:∀ b:Addr,b ∉ (cxOf q0 CX P w K mg base N qual scope f cd A outer s H E).ex:=fun b z=>absurd (show b ∈ ([]:List Addr) from z) (by simp)
  refine ⟨⟨e0.mod,S.kind,rfl,rfl,Nat.le_refl _,fun y z c h1 h2=>?_,fun y hy=>?_,fun y c _ h=>?_,hd,Around.frames_deeper e0.frames,.inr ⟨rfl,rfl⟩,fun b z=>absurd z (noA b),e0.bs,e0.bsz,fun b _ _=>noA b,fun b z=>absurd z (noA b),e0.funs,e0.frf⟩,
    rfl,e0.bare,Un.kept hk,⟨_,x.toInCall.ns,fun i y v h1 h2 h3=>?_⟩,fun y c h=>⟨_,x.cell y c h⟩,e0.hok.fresh (Nat.le_refl _),fun y c h=>?_,fun p hp=>absurd (show p ∈ ([]:List (Addr × Obj)) from hp) (by simp),e0.hok.kept hk,?_⟩
  · exact name_of_addr x.apart (PySem.mem_of_lookup h1) (PySem.mem_of_lookup h2)
  · have hy:scope.names.lookup y=some .cell∨scope.names.lookup y=some .free:=hy
    rcases hy with hy | hy
    · exact xg3 hy
    · exact absurd rfl (S.nofree _ (PySem.mem_of_lookup hy))
  · exact Nat.le_of_lt (x.above y c (PySem.mem_of_lookup h))
  · have hi:i < vs.length:=by
      unfold xcb at h2
      by_cases hi:i < vs.length
      · exact hi
      · rw [List.getElem?_append_right (by simpa using hi)] at h2
        rw [List.getElem?_replicate] at h2
        split at h2 <;> cases h2
    have ha:vs[i]?=some v:=by
      unfold xcb at h2
      rw [List.getElem?_append_left (by simpa using hi),List.getElem?_map] at h2
      cases e:vs[i]? with
      | none=>rw [e] at h2; cases h2
      | some a=>rw [e] at h2; cases h2; rfl
    obtain ⟨u,hu,rv⟩:=r.get ha
    have hp:ps[i]?=some y:=by
      rw [← S.pre,List.getElem?_take_of_lt (by omega)]; exact h1
    have ndP:ps.Nodup:=by rw [← S.pre]; exact S.nd.sublist (List.take_sublist _ _)
    refine ⟨u,rv,?_⟩
    rcases S.par y (List.mem_of_getElem? hp) with k | k
    · exact .inl ⟨k,xf0 ndP hp hu k⟩
    · obtain ⟨c,e⟩:=xg3 (n:=s.heap.objs.size + 1) k
      refine .inr ⟨.inl k,c,e,?_⟩
      have q:=x.cell y c e
      rw [xf2 ndP hp hu (by show scope.names.lookup y≠_; rw [k]; decide)] at q
      exact q
  · exact e0.hok.fresh (Nat.le_of_lt (x.above y c (PySem.mem_of_lookup h)))
  · unfold xcb
    show _=N.length
    rw [List.length_append,List.length_map,List.length_replicate]
    omega
theorem xgp {CX:CXT} {P:Program} {w:World} {K:PySem.W.Frag} {mg:Str→Option Value} {base:Heap} {k:Nat} {f:Addr} {name qual:Str} {params:Arguments} {body:List Stmt} {scope:Scope} {dV kV doc pm cdv ct oc:Value} {an od:Option Addr}
    {osl:Array (Option Value)} {N ps:List Str} {sp:Sp} (lk:K.lookup f=some ⟨oc,od,.func (PySem.W.fnOf name qual params body scope dV kV doc pm an cdv ct),osl⟩) (hcd:PySem.W.codeIn K cdv qual=true) (S:x5 N ps scope)
    (len:∀ vs H Q E,sp vs H Q E→vs.length=ps.length)
    (hbody:∀ (A:Around) (outer:List Env) (s:Shared) (H:Hp) (vs:List V) (Q:VK) (E:XK),Room q0 k (A.deeper (envOfC qual scope s.heap.objs.size f cdv))→sp vs H Q E →
      ∃ t,PSs (cxOf q0 CX P w K mg base N qual scope f cdv A outer s H E) body t∧t { nx:=fun _ H'=>Q .non H',rt:=Q } (xcb N vs) H) :
    FnOk q0 P w K mg base CX (k + 1) f (PySem.W.fnOf name qual params body scope dV kV doc pm an cdv ct) ps sp:=by
  refine ⟨len,fun A outer s H args us vs Q E hr e0 hb r hsp=>?_⟩
  have hl:=len _ _ _ _ hsp
  have KX:K.In s.heap:=e0.mod.kin.keeps fun b o e=>(e0.bs b o e).1
  have lim:s.heap.NoLimit:=e0.mod.nolimit.keeps fun b o e=>(e0.bs b o e).1
  have hkind:∀ y ∈ ps.zip us,scope.names.lookup y.1=some .local∨(scope.names.lookup y.1=some .cell∧((cellsFrom (s.heap.objs.size + 1) scope.names []).lookup y.1).isSome=true):=fun ⟨n,v⟩ hy=>by
    rcases S.par n (List.of_mem_zip hy).1 with q | q
    · exact .inl q
    · exact .inr ⟨q,PySem.W.cellsFrom_some _ _ _ (.inl q)⟩
  refine codeAny_call_function hr.depth (KX _ _ lk) rfl S.co S.gen rfl (PySem.W.codeRec_of KX hcd) (hb _ _ _ _ ?_)
  refine wpAny_newFunctionEnv_cells S.kind hkind fun env he s1 x=>?_
  subst he
  refine ⟨lim.keeps x.toInCall.keep,codeAny_func ?_⟩
  obtain ⟨t,ht,hq⟩:=hbody A outer s H vs Q E (hr.deeper _) hsp
  have I:Inv (cxOf q0 CX P w K mg base N qual scope f cdv A outer s H E) [] (xcb N vs) H s1:=xkl S hr.hd e0 hl r x
  refine wpAny_mono (ht [] s1 (xcb N vs) H _ I hq) (fun fl s' hs=>?_) fun e s' hs=>hs
  have fin:∀ {σ':St} {H':Hp} {v:V} {u:Value},Inv (cxOf q0 CX P w K mg base N qual scope f cdv A outer s H E) [] σ' H' s'→RelV v u→Q v H'→CE outer P w H s Q u s' :=
    fun {σ' H' v u} J rv q=>⟨v,H',J.os,J.bare,J.base,J.hok,rv,q⟩
  cases fl with
  | ret u =>
    obtain ⟨v,σ',H',J,rv,q⟩:=hs
    exact fin J rv q
  | next =>
    obtain ⟨σ',H',J,q⟩:=hs
    exact fin (v:=V.non) (u:=Value.none) J rfl q
  | brk =>
    obtain ⟨_,_,_,q⟩:=hs
    exact False.elim q
  | cont =>
    obtain ⟨_,_,_,q⟩:=hs
    exact False.elim q
end L2
namespace L2
open PySem PySem.Spec PyProof.Rows
variable {q0:Bool}
section
variable {X:Cx} {x:Str} {p pos:Pos} {e:Expr} {es:List Expr} {t:TA} {id T:String} {r:List V→Hp→VK→Prop}
def tCB (r:List V→Hp→VK→Prop) (t:TA):TE:=fun σ H Q=>t σ H fun vs H1=>r vs H1 Q
theorem x6 (hc:xb0 X (.builtin id) r) (hg:Gl X x) (hm:X.mg x=none) (hv:bootBuiltins x=some (.builtin id)) (ha:PA X (e :: es) t) (hn:x≠"__name__":=by decide) (hdb:(x == ("__debug__":Str))=false:=by decide)
    (he:starEach (e :: es) X.env=(false,eval e X.env) :: starEach es X.env:=by rfl) (hpl:(backTo pos (starEach es X.env)).any (·.1)=false:=by rfl):PE X (.Call (.Name x p) (e :: es) [] pos) (tCB r t):=by
  intro pins s σ H Q I h
  refine wpAny_Call_Name_kw (xdz I hg hm hv ?_ hn hdb)
  exact PyProof.Rows.callWith_builtin1 (thn (ha pos pins s σ H _ I h) fun us s1 ⟨vs,H1,I1,r1,q1⟩=>hc pins s1 σ H1 vs us Q I1 r1 q1) he hpl
theorem xbk (hc:xb0 X (.type T) r) (hg:Gl X x) (hm:X.mg x=none) (hv:bootBuiltins x=some (.type T)) (ha:PA X (e :: es) t) (hn:x≠"__name__":=by decide) (hdb:(x == ("__debug__":Str))=false:=by decide)
    (he:starEach (e :: es) X.env=(false,eval e X.env) :: starEach es X.env:=by rfl) (hpl:(backTo pos (starEach es X.env)).any (·.1)=false:=by rfl):PE X (.Call (.Name x p) (e :: es) [] pos) (tCB r t):=by
  intro pins s σ H Q I h
  refine wpAny_Call_Name_kw (xdz I hg hm hv ?_ hn hdb)
  exact PyProof.Rows.callWith_type1 (thn (ha pos pins s σ H _ I h) fun us s1 ⟨vs,H1,I1,r1,q1⟩=>hc pins s1 σ H1 vs us Q I1 r1 q1) he hpl
end
end L2
namespace HT
open PySem PyProof.Rows
section
open PySem.SeqAt
open PySem.AutoSeq1 (wpAny_loadPart')
open PySem.MeetsSeq PySem.MeetsSeq2 PySem.MeetsSeq3
end
section
variable {prog:Program} {w:World} {A:Around} {E:Value→Shared→Prop} {s:Shared}
theorem cat_tup {t b:Addr} {vs ws:List Value} {Q:Value→Shared→Prop} (ht:IsTup s.heap t vs.toArray) (hb:IsTup s.heap b ws.toArray) (hv:vs≠[])
    (h1:ws=[]→Q (.ref t) s) (h2:ws≠[]→Q (.ref s.heap.objs.size) { s with heap:=s.heap.push { cls:=.type "tuple",data:=.seq (vs ++ ws).toArray } })
    (hsz:vs.length + ws.length≤sizeLine):wpAny (model prog w) A (binaryOp .Add (.ref t) (.ref b)) Q E s:=by
  obtain ⟨⟨cls,dd,data,sl⟩,ho,hc,n,hd⟩:=id ht
  obtain ⟨⟨cls2,dd2,data2,sl2⟩,ho2,hc2,n2,hd2⟩:=id hb
  simp only at hc hd hc2 hd2
  subst hc hd hc2 hd2
  have e:vs.toArray ++ ws.toArray=(vs ++ ws).toArray:=by simp
  by_cases hw:ws=[]
  · exact concat_meets ⟨_,ho,rfl⟩ ⟨_,ho2,rfl⟩ noFill_tuple_add seq_tuple_add PySem.F.slot_tuple_add PySem.F.entry_tuple_add (PySem.F.args_tuple_add_2 _ _)
      (tuple_addW1 t b vs.toArray ws.toArray n n2 dd dd2 sl sl2 (by simpa using hv) (by simp [hw])) ⟨ho,ho2,h1 hw⟩
  · refine concat_meets ⟨_,ho,rfl⟩ ⟨_,ho2,rfl⟩ noFill_tuple_add seq_tuple_add PySem.F.slot_tuple_add PySem.F.entry_tuple_add (PySem.F.args_tuple_add_2 _ _)
      (tuple_addW2 t b vs.toArray ws.toArray n n2 dd dd2 sl sl2 (by simpa using hv) (by simpa using hw) (by rw [List.size_toArray,List.size_toArray]; exact hsz)) ⟨ho,ho2,?_⟩
    rw [e]
    exact h2 hw
def sIx (n d:Nat):Option Int→Nat
 | none=>d
 | some v=>if v < 0 then (v + (n:Int)).toNat else min v.toNat n
end
end HT
namespace L2
open PySem PySem.Spec PyProof.Rows
variable {q0:Bool}
abbrev TO:=St→Hp→(Option Int→Hp→Prop)→Prop
def PO (X:Cx) (e:Option Expr) (t:TO):Prop :=
 ∀ (pins:List (Addr × Obj)) (s:Shared) (σ:St) (H:Hp) (Q:Option Int→Hp→Prop),Inv X pins σ H s→t σ H Q →
  wpAny (model X.prog X.w) X.A (evalPart e X.env) (fun u s'=>∃ o H',Inv X pins σ H' s'∧IsPart u o∧Q o H') X.xe s
def xnh:TO:=fun _ H Q=>Q none H
def xp1 (t:TE):TO:=fun σ H Q=>t σ H fun x H1=>∃ i,x=.int i∧Q (some i) H1
section
variable {X:Cx} {e:Expr} {te:TE} {lo hi:Option Expr} {tl th:TO} {pos p2:Pos}
theorem xbt:PO X none xnh:=by
 intro pins s σ H Q I h
 rw [evalPart_none]
 exact wpAny_pure ⟨none,H,I,.none,h⟩
theorem xa2 (h:PE X e te):PO X (some e) (xp1 te):=by
 intro pins s σ H Q I hw
 rw [evalPart_some]
 refine thn (h pins s σ H _ I hw) fun u s1 ⟨x,H1,I1,r1,q1⟩=>?_
 obtain ⟨i,rfl,q⟩:=q1
 obtain ⟨t,rfl⟩:=r1
 exact ⟨some i,H1,I1,.int i t,q⟩
def SlR (X:Cx) (r:V→Option Int→Option Int→Hp→VK→Prop):Prop :=
 ∀ (pins:List (Addr × Obj)) (s:Shared) (σ:St) (H:Hp) (x:V) (v vl vu:Value) (lo hi:Option Int) (sl:Addr) (Q:VK),Inv X pins σ H s→RelV x v→s.heap.IsSliceOf sl vl vu .none→IsPart vl lo→IsPart vu hi→r x lo hi H Q →
  ∃ T id,typeLookup (.type T) "__getitem__"=pure (some (.builtin id))∧s.TypeIs v T∧wpAny (model X.prog X.w) X.A (getItem v (.ref sl)) (EP X pins σ Q) X.xe s
def tSl (r:V→Option Int→Option Int→Hp→VK→Prop) (te:TE) (tl th:TO):TE:=fun σ H Q=>te σ H fun x H1=>tl σ H1 fun l H2=>th σ H2 fun u H3=>r x l u H3 Q
theorem xa3 {r:V→Option Int→Option Int→Hp→VK→Prop} (hr:SlR X r) (he:PE X e te) (hl:PO X lo tl) (hu:PO X hi th):PE X (.Subscript e (.Slice lo hi none p2) pos) (tSl r te tl th):=by
 intro pins s σ H Q I h
 refine Subscript_ (thn (he pins s σ H _ I h) fun v s1 ⟨x,H1,I1,r1,q1⟩=>?_)
 refine wpAny_Slice (thn (hl pins s1 σ H1 _ I1 q1) fun vl s2 ⟨l,H2,I2,pl,q2⟩=>thn (hu pins s2 σ H2 _ I2 q2) fun vu s3 ⟨u,H3,I3,pu,q3⟩=>?_)
 rw [evalPart_none]
 refine wpAny_pure ?_
 have I4:Inv X pins σ H3 { s3 with heap:=s3.heap.push { cls:=.type "slice",data:=.fields #[vl,vu,.none] } }:=I3.kept (t':=s3.toks) fun b ob q=>Heap.get?_push_of_some _ q
 obtain ⟨T,id,hT,ht,hg⟩:=hr pins { s3 with heap:=s3.heap.push { cls:=.type "slice",data:=.fields #[vl,vu,.none] } } σ H3 x v vl vu l u s3.heap.objs.size Q I4 r1 (Heap.IsSliceOf.new ..) pl pu q3
 show wpAny (model X.prog X.w) X.A (subscriptTail e (.Slice lo hi none p2) v (.ref s3.heap.objs.size)) (EP X pins σ Q) X.xe { s3 with heap:=s3.heap.push { cls:=.type "slice",data:=.fields #[vl,vu,.none] } }
 exact tail_any (ops:=[.ref s3.heap.objs.size,v]) ht hT hg (by with_unfolding_all rfl)
def cutV (xs:List V) (lo hi:Option Int):List V:=(xs.drop (HT.sIx xs.length 0 lo)).take (HT.sIx xs.length xs.length hi - HT.sIx xs.length 0 lo)
theorem xhp (xs:List V) (lo hi:Option Int):(cutV xs lo hi).length≤xs.length:=by
 unfold cutV
 rw [List.length_take,List.length_drop]
 omega
def xl0 (K:PySem.W.Frag):R2:=fun x y H Q=>∃ a b xs ys,x=.ref a∧y=.ref b∧SqT K H a xs∧SqT K H b ys∧xs≠[]∧xs.length + ys.length≤sizeLine ∧
 (ys=[]→Q (.ref a) H)∧(ys≠[]→∀ p,H p=none→Q (.ref p) (upd H p (.tup (xs ++ ys))))
theorem Vals.nil_iff {xs:List V} {us:List Value} (r:Vals xs us):us=[] ↔ xs=[]:=by
 cases r with
 | nil=>simp
 | cons _ _=>simp
theorem xnj:OpR X (binaryOp .Add) (xl0 X.K):=by
 intro pins s σ H x y v u Q I rx ry h
 obtain ⟨a,b,xs,ys,rfl,rfl,ha,hb,hx,hz,q1,q2⟩:=h
 cases rx
 cases ry
 obtain ⟨its,r1,p1,_⟩:=I.tuple ha
 obtain ⟨its2,r2,p2,_⟩:=I.tuple hb
 refine HT.cat_tup p1 p2 (fun z=>hx (r1.nil_iff.mp z)) (fun z=>⟨.ref a,H,I,rfl,q1 (r2.nil_iff.mp z)⟩) (fun z=>?_) (by rw [← r1.length,← r2.length]; exact hz)
 refine ⟨.ref s.heap.objs.size,_,I.laid (t':=s.toks) (o:=.tup (xs ++ ys)) (fun b ob q=>Heap.get?_push_of_some _ q) (Nat.le_refl _) ?_,rfl,q2 (fun w=>z (r2.nil_iff.mpr w)) _ (I.hok.fresh (Nat.le_refl _))⟩
 exact ⟨by rw [List.length_append]; exact hz,_,r1.append r2,IsTup.new _ _⟩
end
end L2
namespace L2
open PySem PySem.Spec PyProof.Rows
variable {q0:Bool}
def ixN (n:Nat) (i:Int):Option Nat:=if 0≤i then (if i < n then some i.toNat else none) else if -(n:Int)≤i then some (i + n).toNat else none
def atI {α:Type} (xs:List α) (i:Int):Option α:=(ixN xs.length i).bind fun j=>xs[j]?
theorem xmo {n:Nat} {i:Int} {j:Nat} (h:ixN n i=some j):seqIndex? i n=some j∧j < n∧-(n:Int)≤i∧i < n:=by
 unfold ixN at h
 by_cases h0:0≤i
 ·rw [if_pos h0] at h
  by_cases h1:i < n
  ·rw [if_pos h1] at h
   have e:i.toNat=j:=Option.some.inj h
   exact ⟨by rw [seqIndex_of h0 h1,e],by omega,by omega,h1⟩
  ·rw [if_neg h1] at h; cases h
 ·rw [if_neg h0] at h
  by_cases h1:-(n:Int)≤i
  ·rw [if_pos h1] at h
   have e:(i + n).toNat=j:=Option.some.inj h
   exact ⟨by rw [seqIndex_neg (by omega) h1,e],by omega,h1,by omega⟩
  ·rw [if_neg h1] at h; cases h
theorem xfq {α:Type} {xs:List α} {i:Int} {v:α} (h:atI xs i=some v):∃ j,seqIndex? i xs.length=some j∧xs[j]?=some v∧j < xs.length∧-(xs.length:Int)≤i∧i < xs.length:=by
 unfold atI at h
 cases e:ixN xs.length i with
 | none=>rw [e] at h; cases h
 | some j =>
  rw [e] at h
  obtain ⟨h1,h2,h3,h4⟩:=xmo e
  exact ⟨j,h1,h,h2,h3,h4⟩
theorem xb7 {α:Type} {xs:List α} {j:Nat} {v:α} (h:xs[j]?=some v):atI xs (j:Int)=some v:=by
 have hj:j < xs.length:=(List.getElem?_eq_some_iff.mp h).1
 have e:ixN xs.length (j:Int)=some j:=by
  unfold ixN
  rw [if_pos (by omega),if_pos (by omega)]; simp
 unfold atI; rw [e]; exact h
def xm9 (b:Expr):Prop:=∀ o i,subscripted b false o i=operate [o,i] (getItem o i)
def IxR (X:Cx) (r:R2):Prop :=
 ∀ (value slice:Expr) (pins:List (Addr × Obj)) (s:Shared) (σ:St) (H:Hp) (x y:V) (v u:Value) (Q:VK),Inv X pins σ H s→RelV x v→RelV y u→r x y H Q →
  subscripted slice false v u=operate [v,u] (getItem v u)→wpAny (model X.prog X.w) X.A (subscriptTail value slice v u) (EP X pins σ Q) X.xe s
def MtR (X:Cx) (id:String) (r:V→List V→Hp→VK→Prop):Prop :=
 ∀ (pins:List (Addr × Obj)) (s:Shared) (σ:St) (H:Hp) (x:V) (xs:List V) (v:Value) (us:List Value) (Q:VK),Inv X pins σ H s→RelV x v→Vals xs us→r x xs H Q →
  wpAny (model X.prog X.w) X.A (call (.builtin id) (v :: us)) (EP X pins σ Q) X.xe s
section
variable {X:Cx} {a b:Expr} {ta tb:TE} {pos:Pos}
theorem xan {r:R2} (hr:IxR X r) (ha:PE X a ta) (hb:PE X b tb) (hs:xm9 b):PE X (.Subscript a b pos) (tOp r ta tb):=by
 intro pins s σ H Q I h
 exact Subscript_ (binT ha hb I h fun v u s2 x y H2 I2 rx ry q=>hr a b pins s2 σ H2 x y v u Q I2 rx ry q (hs _ _))
def rIxL (K:PySem.W.Frag):R2:=fun x y H Q=>∃ p xs i v,x=.ref p∧y=.int i∧SqL K H p xs∧atI xs i=some v∧Q v H
def rIxT (K:PySem.W.Frag):R2:=fun x y H Q=>∃ p xs i v,x=.ref p∧y=.int i∧SqT K H p xs∧atI xs i=some v∧Q v H
def rIxS:R2:=fun x y H Q=>∃ z i c,x=.str z∧y=.int i∧z.length≤sizeLine∧atI z.cps.toList i=some c∧Q (.str ⟨#[c]⟩) H
theorem xay:IxR X (rIxL X.K):=by
 intro value slice pins s σ H x y v u Q I rx ry h hs
 obtain ⟨p,xs,i,z,rfl,rfl,hq,he,q⟩:=h
 cases rx
 obtain ⟨t,rfl⟩:=ry
 obtain ⟨its,r,pl,hz⟩:=I.list hq
 obtain ⟨j,h1,h2,h3,h4,h5⟩:=xfq he
 obtain ⟨w,ew,rw'⟩:=r.get h2
 have hl:=r.length
 have hn:=xd7
 have fin:EP X pins σ Q w s:=⟨z,H,I,rw',q⟩
 by_cases h0:0≤i
 ·have hj:i.toNat=j:=by
   rw [seqIndex_of h0 h5] at h1
   exact Option.some.inj h1
  exact item_listR pl.isList h0 (by omega) (by rw [hj]; simpa using ew) fin hs
 ·have hj:(i + (its.toArray.size:Int)).toNat=j:=by
   rw [seqIndex_neg (by omega) h4] at h1
   rw [List.size_toArray,← hl]
   exact Option.some.inj h1
  exact subscriptTail_builtinR (x:=w) pl.isList.typeIs slot_list_getitem.lookup
   (wpAny_getItem_list_neg (Q:=fun r s'=>r=w∧EP X pins σ Q r s') pl.isList (by omega) (by rw [List.size_toArray] <;> omega) (by omega) (by rw [hj]; simpa using ew) ⟨rfl,fin⟩) hs
theorem xbf:IxR X (rIxT X.K):=by
 intro value slice pins s σ H x y v u Q I rx ry h hs
 obtain ⟨p,xs,i,z,rfl,rfl,hq,he,q⟩:=h
 cases rx
 obtain ⟨t,rfl⟩:=ry
 obtain ⟨its,r,pl,hz⟩:=I.tuple hq
 obtain ⟨j,h1,h2,h3,h4,h5⟩:=xfq he
 obtain ⟨w,ew,rw'⟩:=r.get h2
 have hl:=r.length
 have hn:=xd7
 have fin:EP X pins σ Q w s:=⟨z,H,I,rw',q⟩
 exact subscriptTail_builtinR (x:=w) pl.typeIs slot_tuple_getitem.lookup
  (getItem_tuple (j:=j) (Q:=fun r s'=>r=w∧EP X pins σ Q r s') pl (by omega) (by omega) (by rw [List.size_toArray,← hl]; exact h1) (by simpa using ew) ⟨rfl,fin⟩) hs
theorem xjm:IxR X rIxS:=by
 intro value slice pins s σ H x y v u Q I rx ry h hs
 obtain ⟨z,i,c,rfl,rfl,hz,he,q⟩:=h
 obtain ⟨t,rfl⟩:=rx
 obtain ⟨t',rfl⟩:=ry
 obtain ⟨j,h1,h2,h3,h4,h5⟩:=xfq he
 have hl:z.cps.toList.length=z.length:=by simp [Str.length]
 rw [hl] at h1 h4 h5
 have hn:=xd7
 exact tail_any (typeIs_str s z t) slot_str_getitem.lookup (getItem_str (c:=c) (by
  have e1:decide (i < -(2 ^ 63:Int))=false:=decide_eq_false (by omega)
  have e2:decide (i ≥ 2 ^ 63)=false:=decide_eq_false (by omega)
  rw [e1,e2,Bool.or_false]) (by rw [h1]; simpa using h2) ⟨.str ⟨#[c]⟩,H,I.tok _,⟨_,rfl⟩,q⟩) hs
theorem Inv.lst {pins:List (Addr × Obj)} {σ:St} {H:Hp} {s:Shared} {p:Addr} {xs:List V} (I:Inv X pins σ H s) (h:H p=some (.lst xs)) :
    ∃ (its:List Value) (n:Nat),Vals xs its∧s.heap.get? p=some { cls:=.type "list",data:=.seq its.toArray n }∧xs.length≤sizeLine:=by
  obtain ⟨z,its,n,r,e⟩:=I.hok p _ h
  exact ⟨its,n,r,e,z⟩
theorem xg5 (lo hi:Option Int) (n:Nat):(sliceBounds lo hi none n).1=((HT.sIx n 0 lo:Nat):Int)∧(sliceBounds lo hi none n).2.1=((HT.sIx n n hi:Nat):Int)∧(sliceBounds lo hi none n).2.2=1:=by
 refine ⟨?_,?_,rfl⟩
 ·cases lo with
  | none=>simp [sliceBounds,HT.sIx]
  | some i =>
   simp only [sliceBounds,HT.sIx,Option.getD_none,show (1:Int) > 0 by decide,if_true]
   by_cases h:i < 0
   ·simp only [h,if_true] <;> omega
   ·simp only [h,if_false] <;> omega
 ·cases hi with
  | none=>simp [sliceBounds,HT.sIx]
  | some i =>
   simp only [sliceBounds,HT.sIx,Option.getD_none,show (1:Int) > 0 by decide,if_true]
   by_cases h:i < 0
   ·simp only [h,if_true] <;> omega
   ·simp only [h,if_false] <;> omega
theorem xgd (its:List Value) (lo hi:Option Int):slicePick its.toArray lo hi none=((its.drop (HT.sIx its.length 0 lo)).take (HT.sIx its.length its.length hi - HT.sIx its.length 0 lo)).toArray:=by
 obtain ⟨h1,h2,h3⟩:=xg5 lo hi its.toArray.size
 unfold slicePick
 rw [h1,h2,h3]
 simp only [sliceRange_one,pick_run,List.size_toArray] <;> rfl
def rSlL (K:PySem.W.Frag):V→Option Int→Option Int→Hp→VK→Prop:=fun x lo hi H Q=>∃ a xs,x=.ref a∧SqL K H a xs∧∀ p,H p=none→Q (.ref p) (upd H p (.lst (cutV xs lo hi)))
theorem xbc:SlR X (rSlL X.K):=by
 intro pins s σ H x v vl vu lo hi sl Q I rx hs pl pu h
 obtain ⟨a,xs,rfl,hx,q⟩:=h
 cases rx
 obtain ⟨its,r,ht,hz⟩:=I.list hx
 have hlen:=r.length
 refine ⟨"list",_,slot_list_getitem.lookup,ht.isList.typeIs,?_⟩
 refine wpAny_getItem_list_slice ht.isList hs pl pu .none (by simp) ?_ (by rw [List.size_toArray] <;> omega)
 rw [xgd,← hlen]
 refine ⟨.ref s.heap.objs.size,_,I.laid (t':=s.toks) (o:=.lst (cutV xs lo hi)) (fun b ob q=>Heap.get?_push_of_some _ q) (Nat.le_refl _) ?_,rfl,q _ (I.hok.fresh (Nat.le_refl _))⟩
 exact ⟨Nat.le_trans (xhp xs lo hi) hz,_,0,(r.drop (HT.sIx xs.length 0 lo)).take (HT.sIx xs.length xs.length hi - HT.sIx xs.length 0 lo),Heap.get?_push_size _ rfl⟩
def xcl:V→Bool
 | .non=>true
 | .bl _=>true
 | .int _=>true
 | .str _=>true
 | _=>false
def eqV:V→V→Bool
 | .non,.non=>true
 | .bl a,.bl b=>a == b
 | .bl a,.int b=>(if a then 1 else 0) == b
 | .int a,.bl b=>a == (if b then 1 else 0)
 | .int a,.int b=>a == b
 | .str a,.str b=>a == b
 | _,_=>false
theorem xoi {A:Around} {s:Shared} {y x:V} {u v:Value} (ry:RelV y u) (rx:RelV x v) (fy:xcl y=true) (fx:xcl x=true):SeqAt.EqAt A s u v (eqV y x):=by
 cases y with
 | non =>
  cases ry
  cases x with
  | non=>cases rx; exact SeqAt.EqAt.same _
  | bl b=>cases rx; exact SeqAt.EqAt.none_bool b
  | int b=>obtain ⟨t,rfl⟩:=rx; exact SeqAt.EqAt.none_int b t
  | str b=>obtain ⟨t,rfl⟩:=rx; exact SeqAt.EqAt.none_str b t
  | _=>exact absurd (show false=true from fx) Bool.false_ne_true
 | bl a =>
  cases ry
  cases x with
  | non=>cases rx; exact SeqAt.EqAt.bool_none a
  | bl b=>cases rx; exact SeqAt.EqAt.bool_bool a b
  | int b=>obtain ⟨t,rfl⟩:=rx; exact SeqAt.EqAt.bool_int a b t
  | str b=>obtain ⟨t,rfl⟩:=rx; exact SeqAt.EqAt.bool_str a b t
  | _=>exact absurd (show false=true from fx) Bool.false_ne_true
 | int a =>
  obtain ⟨t',rfl⟩:=ry
  cases x with
  | non=>cases rx; exact SeqAt.EqAt.int_none a t'
  | bl b=>cases rx; exact SeqAt.EqAt.int_bool a t' b
  | int b=>obtain ⟨t,rfl⟩:=rx; exact SeqAt.EqAt.int_int a t' b t
  | str b=>obtain ⟨t,rfl⟩:=rx; exact SeqAt.EqAt.int_str a t' b t
  | _=>exact absurd (show false=true from fx) Bool.false_ne_true
 | str a =>
  obtain ⟨t',rfl⟩:=ry
  cases x with
  | non=>cases rx; exact SeqAt.EqAt.str_none a t'
  | bl b=>cases rx; exact SeqAt.EqAt.str_bool a t' b
  | int b=>obtain ⟨t,rfl⟩:=rx; exact SeqAt.EqAt.str_int a t' b t
  | str b=>obtain ⟨t,rfl⟩:=rx; exact SeqAt.EqAt.str_str a t' b t
  | _=>exact absurd (show false=true from fx) Bool.false_ne_true
 | _=>exact absurd (show false=true from fy) Bool.false_ne_true
def eqU (x:V) (u:Value):Bool:=match u with
 | .none=>eqV .non x
 | .bool b=>eqV (.bl b) x
 | .int i _=>eqV (.int i) x
 | .str z _=>eqV (.str z) x
 | _=>false
theorem xjy {x y:V} {u:Value} (r:RelV y u) (f:xcl y=true):eqU x u=eqV y x:=by
 cases y with
 | non=>cases r; rfl
 | bl b=>cases r; rfl
 | int i=>obtain ⟨t,rfl⟩:=r; rfl
 | str z=>obtain ⟨t,rfl⟩:=r; rfl
 | _=>exact absurd (show false=true from f) Bool.false_ne_true
theorem xdf {x:V}:∀ {xs:List V} {us:List Value},Vals xs us→xs.all xcl=true→us.any (eqU x)=xs.any fun y=>eqV y x
 | _,_,.nil,_=>rfl
 | y :: xs,u :: us,.cons r t,f=>by
  rw [List.all_cons,Bool.and_eq_true] at f
  rw [List.any_cons,List.any_cons,xjy r f.1,xdf t f.2]
theorem xcy {A:Around} {s:Shared} {x:V} {v:Value} (rx:RelV x v) (fx:xcl x=true):∀ {xs:List V} {us:List Value},Vals xs us→xs.all xcl=true→∀ u ∈ us,SeqAt.EqAt A s u v (eqU x u)
 | _,_,.nil,_=>fun u hu=>by cases hu
 | y :: xs,u :: us,.cons r t,f=>fun u' hu=>by
  rw [List.all_cons,Bool.and_eq_true] at f
  rcases List.mem_cons.mp hu with rfl | hu
  ·rw [xjy r f.1]; exact xoi r rx f.1 fx
  ·exact xcy rx fx t f.2 u' hu
def inV (x:V) (xs:List V):Bool:=xs.any fun y=>eqV y x
def rIn (K:PySem.W.Frag) (neg:Bool):R2:=fun x y H Q=>∃ p xs,y=.ref p∧(SqL K H p xs∨SqT K H p xs)∧xcl x=true∧xs.all xcl=true∧Q (.bl (if neg then !inV x xs else inV x xs)) H
theorem xd8:OpR X (compareOp .In) (rIn X.K false):=by
 intro pins s σ H x y v u Q I rx ry h
 obtain ⟨p,xs,rfl,hq,fx,fs,q⟩:=h
 cases ry
 rcases hq with hq | hq
 ·obtain ⟨its,r,pl,hz⟩:=I.list hq
  refine SeqAt.in_listAt (eqU x) pl.isList (fun w hw=>xcy rx fx r fs w (by simpa using hw)) ⟨.bl _,H,I,rfl,?_⟩
  rw [show its.toArray.any (eqU x)=its.any (eqU x) by simp,xdf r fs]
  exact q
 ·obtain ⟨its,r,pl,hz⟩:=I.tuple hq
  refine SeqAt.in_tupleAt (eqU x) pl (fun w hw=>xcy rx fx r fs w (by simpa using hw)) ⟨.bl _,H,I,rfl,?_⟩
  rw [show its.toArray.any (eqU x)=its.any (eqU x) by simp,xdf r fs]
  exact q
theorem xbo:OpR X (compareOp .NotIn) (rIn X.K true):=by
 intro pins s σ H x y v u Q I rx ry h
 obtain ⟨p,xs,rfl,hq,fx,fs,q⟩:=h
 cases ry
 rcases hq with hq | hq
 ·obtain ⟨its,r,pl,hz⟩:=I.list hq
  refine SeqAt.notIn_listAt (eqU x) pl.isList (fun w hw=>xcy rx fx r fs w (by simpa using hw)) ⟨.bl _,H,I,rfl,?_⟩
  rw [show its.toArray.any (eqU x)=its.any (eqU x) by simp,xdf r fs]
  exact q
 ·obtain ⟨its,r,pl,hz⟩:=I.tuple hq
  refine SeqAt.notIn_tupleAt (eqU x) pl (fun w hw=>xcy rx fx r fs w (by simpa using hw)) ⟨.bl _,H,I,rfl,?_⟩
  rw [show its.toArray.any (eqU x)=its.any (eqU x) by simp,xdf r fs]
  exact q
theorem xhg:OpR X (compareOp .NotIn) (fun x y H Q=>∃ i j,x=.str i∧y=.str j∧Q (.bl (!(!(Builtin.Str.occurrences j i 0 j.length 1).isEmpty))) H):=by
 intro pins s σ H x y v u Q I rx ry h
 obtain ⟨i,j,rfl,rfl,q⟩:=h
 obtain ⟨t,rfl⟩:=rx
 obtain ⟨t',rfl⟩:=ry
 exact notIn_str ⟨.bl _,H,I,rfl,q⟩
theorem xam:xb0 X (.builtin "len") (fun xs H Q=>∃ p ys,xs=[.ref p]∧(SqL X.K H p ys∨SqT X.K H p ys)∧Q (.int ys.length) H):=by
 intro pins s σ H xs us Q I r h
 obtain ⟨p,ys,rfl,hq,q⟩:=h
 obtain ⟨u,rfl,rx⟩:=xch r
 cases rx
 have hn:=xd7
 rcases hq with hq | hq
 ·obtain ⟨its,r',pl,hz⟩:=I.list hq
  have hlen:=r'.length
  exact Calls.call_len_list pl.isList (by simp only [List.size_toArray] <;> omega) ⟨.int ys.length,H,I.tok _,⟨s.toks + 1,by rw [List.size_toArray,hlen]⟩,q⟩
 ·obtain ⟨its,r',pl,hz⟩:=I.tuple hq
  have hlen:=r'.length
  exact len_tuple pl (by simp only [List.size_toArray] <;> omega) ⟨.int ys.length,H,I.tok _,⟨s.toks + 1,by rw [List.size_toArray,hlen]⟩,q⟩
theorem xcc:xb0 X (.builtin "len") (fun xs H Q=>∃ z,xs=[.str z]∧z.length≤sizeLine∧Q (.int z.length) H):=by
 intro pins s σ H xs us Q I r h
 obtain ⟨z,rfl,hz,q⟩:=h
 obtain ⟨u,rfl,t,rfl⟩:=xch r
 have hn:=xd7
 exact len_str (by omega) ⟨.int z.length,H,I.tok _,⟨_,rfl⟩,q⟩
def tyV (K:PySem.W.Frag) (T:String) (x:V) (H:Hp):Prop:=match x with
  | .str _=>T="str"
  | .int _=>T="int"
  | .ref p=>(T="list"∧∃ xs,SqL K H p xs)∨(T="tuple"∧∃ o,K.lookup p=some o∧o.cls=.type "tuple"∧o.dict=none) ∨
      (T="dict"∧((∃ kvs,H p=some (.dK kvs))∨∃ kvs,H p=some (.dT kvs)))∨(T="set"∧∃ S n,H p=some (.set S n))
  | _=>False
theorem xol {pins:List (Addr × Obj)} {σ:St} {H:Hp} {s:Shared} {T:String} {x:V} {v:Value} (I:Inv X pins σ H s) (r:RelV x v) (ty:tyV X.K T x H) :
    s.TypeIs v T∧∀ a,v=.ref a→∃ ob,s.heap.get? a=some ob∧ob.dict=none:=by
  cases x with
  | str z =>
    obtain ⟨t,rfl⟩:=r
    cases (show T="str" from ty)
    exact ⟨typeIs_str s z t,fun _ e=>nomatch e⟩
  | int i =>
    obtain ⟨t,rfl⟩:=r
    cases (show T="int" from ty)
    exact ⟨typeIs_int s i t,fun _ e=>nomatch e⟩
  | ref p =>
    cases r
    rcases ty with ⟨rfl,xs,hq⟩ | ⟨rfl,o,hk,hc,hd⟩ | ⟨rfl,hk⟩ | ⟨rfl,S,n,hk⟩
    · obtain ⟨its,_,pl,_⟩:=I.list hq
      refine ⟨pl.isList.typeIs,fun a e=>?_⟩
      cases e
      obtain ⟨o,n,e,c,hd,_⟩:=pl
      exact ⟨o,e,hd⟩
    · refine ⟨⟨o,I.kIn p o hk,hc⟩,fun a e=>?_⟩
      cases e
      exact ⟨o,I.kIn _ o hk,hd⟩
    · have z:∃ o,s.heap.get? p=some o∧o.ExactDict:=by
        rcases hk with ⟨kvs,hk⟩ | ⟨kvs,hk⟩
        · obtain ⟨_,_,_,_,o,_,_,e,ex,_⟩:=I.hok p _ hk
          exact ⟨o,e,ex⟩
        · obtain ⟨_,_,_,_,o,_,_,e,ex,_⟩:=I.hok p _ hk
          exact ⟨o,e,ex⟩
      obtain ⟨o,e,ex⟩:=z
      refine ⟨⟨o,e,ex.1⟩,fun a e2=>?_⟩
      cases e2
      exact ⟨o,e,ex.2.1⟩
    · obtain ⟨o,_,_,_,e,ex,_⟩:=I.hok p _ hk
      refine ⟨⟨o,e,ex.1⟩,fun a e2=>?_⟩
      cases e2
      exact ⟨o,e,ex.2.1⟩
  | _=>exact False.elim ty
def tBM (K:PySem.W.Frag) (T:String) (r:V→List V→Hp→VK→Prop) (to:TE) (t:TA):TE:=fun σ H Q=>to σ H fun x H1=>tyV K T x H1∧t σ H1 fun xs H2=>r x xs H2 Q
variable {o e:Expr} {es:List Expr} {to:TE} {t:TA} {name:Str} {apos cpos:Pos} {T id:String} {r:V→List V→Hp→VK→Prop}
theorem xdq (pa:PlainAttrs T) (slot:Slot T name id) (hty:typeOf (.builtin id)=pure (.type "method_descriptor")) (hm:MtR X id r) (ho:PE X o to) (ha:PA X (e :: es) t)
    (hbase:attributeBase o name X.env (eval o X.env)=eval o X.env:=by rfl)
    (hfew:((backTo cpos (starEach (e :: es) X.env)).all (fun x=>!x.1) && (backToKw cpos (keywordEach [] X.env)).all (fun x=>x.1.isSome)
      && decide ((e :: es).length + ([]:List Keyword).length + (if ([]:List Keyword).isEmpty then 0 else 1) < 30))=true:=by rfl)
    (hline:(apos.endLine == cpos.line)=true:=by rfl) (hs:starEach (e :: es) X.env=(false,eval e X.env) :: starEach es X.env:=by rfl) (hplain:(backTo cpos (starEach es X.env)).any (·.1)=false:=by rfl) :
    PE X (.Call (.Attribute o name apos) (e :: es) [] cpos) (tBM X.K T r to t):=by
  intro pins s σ H Q I h
  refine wpAny_Call_method_late hbase hfew hline rfl (thn (ho pins s σ H _ I h) fun v s1 ⟨x,H1,I1,r1,ty,q1⟩=>?_)
  obtain ⟨h1,h2⟩:=xol I1 r1 ty
  refine ⟨T,id,pa,slot,hty,h1,h2,?_⟩
  have hA:=ha cpos pins s1 σ H1 _ I1 q1
  rw [hs] at hA ⊢
  refine Calls.callWith_builtin (by show (false || (backTo cpos (starEach es X.env)).any (·.1))=false; rw [hplain] <;> rfl) (Calls.evalArgs_plain ?_)
  exact thn hA fun us s2 ⟨vs,H2,I2,r2,q2⟩=>hm pins s2 σ H2 x vs v us Q I2 r1 r2 q2
end
end L2
namespace L2
open PySem PySem.Spec PyProof.Rows
variable {q0:Bool}
def MtM (X:Cx) (id:String) (r:V→List V→Hp→VK→Prop):Prop :=
 ∀ (pins:List (Addr × Obj)) (s:Shared) (σ:St) (H:Hp) (x:V) (xs:List V) (v:Value) (us:List Value) (Q:VK),Inv X pins σ H s→RelV x v→Vals xs us→r x xs H Q →
  wpAny (model X.prog X.w) X.A (call (.builtin id) (v :: us)) (EP X pins σ Q) X.xe s
theorem Vals.one:∀ {x:V} {us:List Value},Vals [x] us→∃ u,us=[u]∧RelV x u
 | _,_,.cons r .nil=>⟨_,rfl,r⟩
section
variable {X:Cx} {pins:List (Addr × Obj)} {σ:St} {H:Hp} {s:Shared} {l b:Addr} {xs ys zs:List V}
theorem Inv.lset {its its':List Value} {n:Nat} {f:Array Value→Array Value} {t':Nat} (I:Inv X pins σ H s) (hH:H l=some (.lst xs))
    (e:s.heap.get? l=some { cls:=.type "list",data:=.seq its.toArray n }) (hf:f its.toArray=its'.toArray) (hv:Vals ys its') (hz:ys.length≤sizeLine) :
    Inv X pins σ (upd H l (.lst ys)) { s with heap:=s.heap.update l (Obj.mapSeq f),toks:=t' }:=by
  have q:=PySem.IsL.update e f
  rw [hf] at q
  refine I.write (x:=l) (e:=l) (by rw [hH]; exact trivial) (.inl rfl) (fun b' u hb hu=>(Heap.get?_update_other s.heap (Obj.mapSeq f) (Ne.symm hb)).trans hu) ⟨_,q⟩ ?_
  exact ⟨hz,its',_,hv,q⟩
theorem Inv.lnew {its:List Value} {t':Nat} (I:Inv X pins σ H s) (hv:Vals ys its) (hz:ys.length≤sizeLine) :
    Inv X pins σ (upd H s.heap.objs.size (.lst ys)) { s with heap:=s.heap.push { cls:=.type "list",data:=.seq its.toArray },toks:=t' } :=
  I.laid (fun _ _ q=>Heap.get?_push_of_some _ q) (Nat.le_refl _) ⟨hz,its,0,hv,Heap.get?_push_size _ rfl⟩
theorem Inv.fresh (I:Inv X pins σ H s):H s.heap.objs.size=none:=I.hok.fresh (Nat.le_refl _)
theorem Inv.lstM (I:Inv X pins σ H s) (hH:H l=some (.lst xs)):xs.length≤sizeLine∧∃ (its:List Value) (n:Nat),Vals xs its∧xs.length=its.length∧s.heap.get? l=some { cls:=.type "list",data:=.seq its.toArray n }:=by
 obtain ⟨z,its,n,r,e⟩:=I.hok l _ hH
 exact ⟨z,its,n,r,r.length,e⟩
theorem xlq {n:Nat} (h:n≤sizeLine):Builtin.List.listTooLong n=false:=by
 unfold Builtin.List.listTooLong
 exact decide_eq_false (by omega)
end
section
variable {X:Cx}
def xmw:V→List V→Hp→VK→Prop:=fun x vs H Q=>∃ l xs y,x=.ref l∧vs=[y]∧H l=some (.lst xs)∧xs.length < sizeLine∧Q .non (upd H l (.lst (xs ++ [y])))
theorem xd1:MtM X "list.append" xmw:=by
 intro pins s σ H x vs v us Q I rx rv h
 obtain ⟨l,xs,y,rfl,rfl,hH,hz,q⟩:=h
 cases rx
 obtain ⟨u,rfl,ru⟩:=rv.one
 obtain ⟨z,its,n,r,hl,e⟩:=I.lstM hH
 refine call_meets F.slot_list_append ⟨_,e,rfl⟩ F.entry_list_append (F.args_list_append_2 _ _) (PySem.list_append l its.toArray n u (by rw [List.size_toArray]; omega)) ⟨e,?_⟩
 refine ⟨.non,_,I.lset (its':=its ++ [u]) hH e (by simp) (r.append (.cons ru .nil)) ?_,rfl,q⟩
 rw [List.length_append,List.length_singleton]
 omega
def xne:V→List V→Hp→VK→Prop:=fun x vs H Q=>∃ l b xs zs,x=.ref l∧vs=[.ref b]∧H l=some (.lst xs)∧H b=some (.lst zs)∧xs.length + zs.length≤sizeLine∧Q .non (upd H l (.lst (xs ++ zs)))
theorem xf8:MtM X "list.extend" xne:=by
 intro pins s σ H x vs v us Q I rx rv h
 obtain ⟨l,b,xs,zs,rfl,rfl,hH,hB,hz,q⟩:=h
 cases rx
 obtain ⟨u,rfl,ru⟩:=rv.one
 cases ru
 obtain ⟨z,its,n,r,hl,e⟩:=I.lstM hH
 obtain ⟨z2,its2,n2,r2,hl2,e2⟩:=I.lstM hB
 have hsz:its.toArray.size + its2.toArray.size≤sizeLine:=by rw [List.size_toArray,List.size_toArray]; omega
 have hlong:¬ (!its.toArray.isEmpty && Builtin.List.listTooLong (its.toArray.size + its2.toArray.size))=true:=by
  rw [xlq hsz,Bool.and_false]
  exact Bool.false_ne_true
 refine call_meets F.slot_list_extend ⟨_,e,rfl⟩ F.entry_list_extend (F.args_list_extend_2 _ _)
  (AutoSeq1.list_extend_list_list_0 l its.toArray n b its2.toArray n2 hlong (by rw [List.size_toArray]; omega) (by omega)) ⟨e,e2,?_⟩
 refine ⟨.non,_,I.lset (its':=its ++ its2) hH e (by simp) (r.append r2) ?_,rfl,q⟩
 rw [List.length_append]
 omega
def rCat:R2:=fun x y H Q=>∃ l b xs zs,x=.ref l∧y=.ref b∧H l=some (.lst xs)∧H b=some (.lst zs)∧xs.length + zs.length≤sizeLine∧∀ p,H p=none→Q (.ref p) (upd H p (.lst (xs ++ zs)))
theorem xe5:OpR X (binaryOp .Add) rCat:=by
 intro pins s σ H x y v u Q I rx ry h
 obtain ⟨l,b,xs,zs,rfl,rfl,hH,hB,hz,q⟩:=h
 cases rx
 cases ry
 obtain ⟨z,its,n,r,hl,e⟩:=I.lstM hH
 obtain ⟨z2,its2,n2,r2,hl2,e2⟩:=I.lstM hB
 refine PySem.P.add_list e e2 ?_ (by rw [List.size_toArray,List.size_toArray]; omega)
 have ea:its.toArray ++ its2.toArray=(its ++ its2).toArray:=by simp
 rw [ea]
 exact ⟨.ref _,_,I.lnew (t':=s.toks) (r.append r2) (by rw [List.length_append]; omega),rfl,q _ I.fresh⟩
end
section
variable {prog:Program} {w:World} {A:Around} {E:Value→Shared→Prop} {s:Shared}
end
section
variable {X:Cx}
end
end L2
namespace L2
open PySem PySem.Spec PyProof.Rows
variable {q0:Bool}
section
variable {κ:Type} [DecidableEq κ]
def valV (kvs:List (κ × V)) (k:κ):Option V:=(kvs.find? fun kv=>decide (kv.1=k)).map (·.2)
def putK (kvs:List (κ × V)) (k:κ) (v:V):List (κ × V) :=
 if (kvs.any fun kv=>decide (kv.1=k))=true then kvs.map (fun kv=>if kv.1=k then (kv.1,v) else kv) else kvs ++ [(k,v)]
theorem xcz {p:κ × V} {r:List (κ × V)} {k:κ} (e:p.1=k):valV (p :: r) k=some p.2:=by simp [valV,List.find?_cons,e]
theorem xbr {p:κ × V} {r:List (κ × V)} {k:κ} (e:¬ p.1=k):valV (p :: r) k=valV r k:=by simp [valV,List.find?_cons,e]
theorem xe3 (k:κ):∀ kvs:List (κ × V),(kvs.any fun kv=>decide (kv.1=k))=(valV kvs k).isSome
 | []=>rfl
 | p :: r=>by
  rw [List.any_cons]
  by_cases e:p.1=k
  ·simp only [xcz e,decide_eq_true e,Bool.true_or,Option.isSome_some]
  ·rw [xbr e,decide_eq_false e,Bool.false_or]; exact xe3 k r
theorem xep (kvs:List (κ × V)) (k:κ) (v:V):(putK kvs k v).length≤kvs.length + 1:=by
 unfold putK
 split
 ·rw [List.length_map]; omega
 ·rw [List.length_append,List.length_cons,List.length_nil]; omega
theorem xes {kvs:List (κ × V)} {k:κ} (v:V) (h:valV kvs k=none):putK kvs k v=kvs ++ [(k,v)]:=by
 unfold putK
 rw [xe3,h]
 exact if_neg (by decide)
theorem RelO.isSome_eq {o:Option V} {u:Option Value} (r:RelO o u):o.isSome=u.isSome:=by
 cases o with
 | none=>cases u with
  | none=>rfl
  | some _=>exact (show False from r).elim
 | some _=>cases u with
  | none=>exact (show False from r).elim
  | some _=>rfl
theorem KV.val {kvs:List (κ × V)} {vs:List (κ × Value)} (r:KV kvs vs) (k:κ):RelO (valV kvs k) (valueAt vs k):=by
 unfold KV at r
 induction r with
 | nil=>exact True.intro
 | @cons p q ps qs h t ih =>
  obtain ⟨h1,h2⟩:=h
  by_cases e:p.1=k
  ·have e':q.1=k:=h1.symm.trans e
   have b:valueAt (q :: qs) k=some q.2:=by simp [valueAt,List.find?_cons,e']
   rw [xcz e,b]; exact h2
  ·have e':¬ q.1=k:=fun z=>e (h1.trans z)
   have b:valueAt (q :: qs) k=valueAt qs k:=by simp [valueAt,List.find?_cons,e']
   rw [xbr e,b]; exact ih
theorem KV.any {kvs:List (κ × V)} {vs:List (κ × Value)} (r:KV kvs vs) (k:κ):(kvs.any fun kv=>decide (kv.1=k))=vs.any fun kv=>decide (kv.1=k):=by
 unfold KV at r
 induction r with
 | nil=>rfl
 | cons h t ih=>rw [List.any_cons,List.any_cons,ih,h.1]
theorem KV.repl {kvs:List (κ × V)} {vs:List (κ × Value)} (r:KV kvs vs) (k:κ) {y:V} {u:Value} (ry:RelV y u) :
    KV (kvs.map fun kv=>if kv.1=k then (kv.1,y) else kv) (vs.map fun kv=>if kv.1=k then (kv.1,u) else kv):=by
  unfold KV at r ⊢
  induction r with
  | nil=>exact .nil
  | @cons p q ps qs h t ih =>
    rw [List.map_cons,List.map_cons]
    refine .cons ?_ ih
    obtain ⟨h1,h2⟩:=h
    by_cases e:p.1=k
    · rw [if_pos e,if_pos (h1.symm.trans e)]; exact ⟨h1,ry⟩
    · rw [if_neg e,if_neg (fun z=>e (h1.trans z))]; exact ⟨h1,h2⟩
theorem KV.put {kvs:List (κ × V)} {vs:List (κ × Value)} (r:KV kvs vs) (k:κ) {y:V} {u:Value} (ry:RelV y u):KV (putK kvs k y) (stored vs k u):=by
 unfold putK stored
 rw [r.any k]
 by_cases e:(vs.any fun kv=>decide (kv.1=k))=true
 ·rw [if_pos e,if_pos e]; exact r.repl k ry
 ·rw [if_neg e,if_neg e]; exact Paired.snoc r ⟨rfl,ry⟩
theorem KV.keys {kvs:List (κ × V)} {vs:List (κ × Value)} (r:KV kvs vs):kvs.map (·.1)=vs.map (·.1):=by
 unfold KV at r
 induction r with
 | nil=>rfl
 | cons h t ih=>rw [List.map_cons,List.map_cons,ih,h.1]
theorem KV.length {kvs:List (κ × V)} {vs:List (κ × Value)} (r:KV kvs vs):kvs.length=vs.length:=Paired.length r
end
theorem xef {P:Program} {w:World} {k:Key} {u:Value} (r:RelV (kV k) u):(xaq P w).is k u=true:=by
 cases k with
 | inl i=>obtain ⟨t,e⟩:=(show ∃ t,u=Value.int i t from r); subst e; exact xhm P w i t
 | inr x=>obtain ⟨t,e⟩:=(show ∃ t,u=Value.str x t from r); subst e; exact xhq P w x t
theorem xf1 {P:Program} {w:World}:∀ {ks:List Key} {us:List Value},Vals (ks.map kV) us→ItemsAre (xaq P w) ks us
 | [],_,r=>by rw [List.map_nil] at r; cases r; exact .nil
 | k :: ks,_,r=>by
  rw [List.map_cons] at r
  cases r with
  | cons h t=>exact .cons (xef h) (xf1 t)
abbrev KT (H:Hp):List (List Key × V)→List (List Key × Addr × Value)→Prop:=Paired fun p q=>p.1=q.1∧H q.2.1=some (.tup (p.1.map kV))∧RelV p.2 q.2.2
theorem KT.val {H:Hp} {kvs:List (List Key × V)} {xs:List (List Key × Addr × Value)} (r:KT H kvs xs) (k:List Key):RelO (valV kvs k) ((atKey xs k).map (·.2)):=by
 induction r with
 | nil=>exact True.intro
 | @cons p q ps qs h t ih =>
  obtain ⟨h1,_,h2⟩:=h
  by_cases e:p.1=k
  ·have e':q.1=k:=h1.symm.trans e
   have b:atKey (q :: qs) k=some q.2:=by simp [atKey,List.find?_cons,e']
   rw [xcz e,b]; exact h2
  ·have e':¬ q.1=k:=fun z=>e (h1.trans z)
   have b:atKey (q :: qs) k=atKey qs k:=by simp [atKey,List.find?_cons,e']
   rw [xbr e,b]; exact ih
theorem KT.repl {H:Hp} {kvs:List (List Key × V)} {xs:List (List Key × Addr × Value)} (r:KT H kvs xs) (k:List Key) {y:V} {u:Value} (ry:RelV y u) :
    KT H (kvs.map fun kv=>if kv.1=k then (kv.1,y) else kv) (xs.map (putAt k u)):=by
  induction r with
  | nil=>exact .nil
  | @cons p q ps qs h t ih =>
    rw [List.map_cons,List.map_cons]
    refine .cons ?_ ih
    obtain ⟨h1,h2,h3⟩:=h
    unfold putAt
    by_cases e:p.1=k
    · rw [if_pos e,if_pos (h1.symm.trans e)]; exact ⟨h1,h2,ry⟩
    · rw [if_neg e,if_neg (fun z=>e (h1.trans z))]; exact ⟨h1,h2,h3⟩
theorem KT.put {H:Hp} {kvs:List (List Key × V)} {xs:List (List Key × Addr × Value)} (r:KT H kvs xs) (k:List Key) {b:Addr} {y:V} {u:Value} (hb:H b=some (.tup (k.map kV))) (ry:RelV y u) :
    KT H (putK kvs k y) (storedH xs k b u):=by
  have e:(kvs.any fun kv=>decide (kv.1=k))=(atKey xs k).isSome:=by
    rw [xe3,(r.val k).isSome_eq,Option.isSome_map]
  unfold putK storedH
  rw [e]
  by_cases q:(atKey xs k).isSome=true
  · rw [if_pos q,if_pos q]; exact r.repl k ry
  · rw [if_neg q,if_neg q]; exact Paired.snoc r ⟨rfl,hb,ry⟩
theorem KT.keeps {H H':Hp} {kvs:List (List Key × V)} {xs:List (List Key × Addr × Value)} (r:KT H kvs xs) (ht:∀ b ys,H b=some (.tup ys)→H' b=some (.tup ys)):KT H' kvs xs :=
 Paired.mapP r fun _ _ z=>⟨z.1,ht _ _ z.2.1,z.2.2⟩
section
variable {P:Program} {w:World} {H:Hp} {h:Heap} {a:Addr}
theorem xmf {u:HO} (ok:HOk P w H h) (e:Rd H a u):xal P w H h a u:=e.ok ok
theorem xik {kvs:List (Key × V)} (ok:HOk P w H h) (e:Rd H a (.dK kvs)):kvs.length≤sizeLine∧(a == sysModules)=false∧∃ vs,KV kvs vs∧h.DictOf (xaq P w) a vs :=
 show xal P w H h a (.dK kvs) from xmf ok e
theorem xl7 {kvs:List (Key × V)} (ok:HOk P w H h) (e:H a=some (.dK kvs)):kvs.length≤sizeLine∧(a == sysModules)=false∧∃ vs,KV kvs vs∧h.DictOf (xaq P w) a vs:=xik ok (.inl e)
theorem xgv {ks:List Key} (ok:HOk P w H h) (e:H a=some (.tup (ks.map kV))):(tupleKind (xaq P w)).is h ks a:=by
 obtain ⟨_,its,r,o,h1,h2,n,h3⟩:=(show xal P w H h a (.tup (ks.map kV)) from ok a _ e)
 exact ⟨o,its.toArray,n,h1,h2,h3,by simpa using xf1 r⟩
theorem xlz {kvs:List (List Key × V)} (ok:HOk P w H h) (e:Rd H a (.dT kvs)):kvs.length≤sizeLine∧(a == sysModules)=false ∧
    ∃ xs,KT H kvs xs∧h.DictOfH (tupleKind (xaq P w)) a xs:=by
  obtain ⟨z,y,xs,r,o,es,ep,h1,h2,h3,h4,h5⟩:=(show xal P w H h a (.dT kvs) from xmf ok e)
  refine ⟨z,y,xs,r,o,es,ep,h1,h2,h3,h4,fun x hx=>?_,h5⟩
  have all:∀ {l:List (List Key × V)} {m:List (List Key × Addr × Value)},KT H l m→∀ x ∈ m,(tupleKind (xaq P w)).is h x.1 x.2.1:=by
    intro l m q
    induction q with
    | nil=>intro x hx; exact nomatch hx
    | @cons p q ps qs hq t ih =>
      intro x hx
      rcases List.mem_cons.mp hx with e | hx
      · subst e
        exact xgv ok (by rw [← hq.1]; exact hq.2.1)
      · exact ih x hx
  exact all r x hx
theorem xl8 {kvs:List (List Key × V)} (ok:HOk P w H h) (e:H a=some (.dT kvs)):kvs.length≤sizeLine∧(a == sysModules)=false ∧
    ∃ xs,KT H kvs xs∧h.DictOfH (tupleKind (xaq P w)) a xs:=xlz ok (.inl e)
end
def DGet (H:Hp) (a:Addr) (y:V) (r:Option V):Prop :=
 (∃ kvs k,Rd H a (.dK kvs)∧y=kV k∧r=valV kvs k)∨∃ kvs k b,Rd H a (.dT kvs)∧y=.ref b∧H b=some (.tup (k.map kV))∧r=valV kvs k
def DPut (H:Hp) (a:Addr) (y v:V) (H':Hp):Prop :=
 (∃ kvs k,H a=some (.dK kvs)∧y=kV k∧kvs.length < sizeLine∧H'=upd H a (.dK (putK kvs k v))) ∨
 ∃ kvs k b,H a=some (.dT kvs)∧y=.ref b∧H b=some (.tup (k.map kV))∧kvs.length < sizeLine∧H'=upd H a (.dT (putK kvs k v))
theorem DGet.k {H:Hp} {a:Addr} {kvs:List (Key × V)} {k:Key} (e:H a=some (.dK kvs)):DGet H a (kV k) (valV kvs k):=.inl ⟨kvs,k,.inl e,rfl,rfl⟩
theorem DGet.t {H:Hp} {a b:Addr} {kvs:List (List Key × V)} {k:List Key} (e:H a=some (.dT kvs)) (eb:H b=some (.tup (k.map kV))):DGet H a (.ref b) (valV kvs k):=.inr ⟨kvs,k,b,.inl e,rfl,eb,rfl⟩
theorem DPut.k {H:Hp} {a:Addr} {kvs:List (Key × V)} {k:Key} {v:V} (e:H a=some (.dK kvs)) (hl:kvs.length < sizeLine):DPut H a (kV k) v (upd H a (.dK (putK kvs k v))):=.inl ⟨kvs,k,e,rfl,hl,rfl⟩
theorem DPut.t {H:Hp} {a b:Addr} {kvs:List (List Key × V)} {k:List Key} {v:V} (e:H a=some (.dT kvs)) (eb:H b=some (.tup (k.map kV))) (hl:kvs.length < sizeLine) :
    DPut H a (.ref b) v (upd H a (.dT (putK kvs k v))):=.inr ⟨kvs,k,b,e,rfl,eb,hl,rfl⟩
section
variable {X:Cx} {pins:List (Addr × Obj)} {σ:St} {H:Hp} {s:Shared} {a:Addr} {y v:V} {u r:Value} {o:Option V} {A:Around} {E:Value→Shared→Prop}
theorem Inv.big (I:Inv X pins σ H s):sysModules < s.heap.objs.size:=by
 have h:mainGlobals < s.heap.objs.size:=(I.mod.glob.keeps I.bk).lt
 exact Nat.lt_trans (by decide) h
theorem d_in {Q:Value→Shared→Prop} (hu:A.units + 1 < cLine) (I:Inv X pins σ H s) (g:DGet H a y o) (ry:RelV y u) (h:∀ s',Inv X pins σ H s'→Q (.bool o.isSome) s') :
    wpAny (model X.prog X.w) A (compareOp .In u (.ref a)) Q E s:=by
  rcases g with ⟨kvs,k,e,ey,l⟩ | ⟨kvs,k,b,e,ey,eb,l⟩
  · subst ey
    obtain ⟨z,hd,vs,rel,dd⟩:=xik I.hok e
    refine wpAny_in_of (xef ry) hd dd.mapOf ?_
    rw [← (rel.val k).isSome_eq,← l]
    exact h _ (I.tok _)
  · subst ey
    cases (show u=Value.ref b from ry)
    obtain ⟨z,hd,xs,rel,dd⟩:=xlz I.hok e
    refine wpAny_in_heap (tupleKind_room_in1 hu) (xgv I.hok eb) hd dd ?_
    have q:=(rel.val k).isSome_eq
    rw [Option.isSome_map] at q
    rw [← q,← l]
    exact h _ (I.tok _)
theorem xh8 {h':Heap} {t':Nat} {ob:HO} (I:Inv X pins σ H s) (mu:Mut (H a)) (hs:Heap.SameBut a s.heap h') (he:∃ q,h'.get? a=some q) (new:xal X.prog X.w (upd H a ob) h' a ob) :
    Inv X pins σ (upd H a ob) { s with heap:=h',toks:=t' } :=
  I.write (x:=a) (e:=a) mu (.inl rfl) (fun b q hb z=>(hs.2 b hb).trans z) he new
theorem xoq {P:Program} {w:World} {H':Hp} {h':Heap} {kvs:List (Key × V)} {vs:List (Key × Value)} (z:kvs.length≤sizeLine) (hd:(a == sysModules)=false) (rel:KV kvs vs) (dd:h'.DictOf (xaq P w) a vs) :
    xal P w H' h' a (.dK kvs):=⟨z,hd,vs,rel,dd⟩
theorem xj0 {H':Hp} {Q:Unit→Shared→Prop} (hu:A.units + 1 < cLine) (I:Inv X pins σ H s) (g:DPut H a y v H') (ry:RelV y u) (rv:RelV v r) (h:∀ s',Inv X pins σ H' s'→Q () s') :
    wpAny (model X.prog X.w) A (setItem (.ref a) u r) Q E s:=by
  rcases g with ⟨kvs,k,e,ey,l,eH⟩ | ⟨kvs,k,b,e,ey,eb,l,eH⟩
  · subst ey eH
    obtain ⟨z,hd,vs,rel,dd⟩:=xl7 I.hok e
    have hz:vs.length≤sizeLine:=by rw [← rel.length]; exact z
    have hl:(putK kvs k v).length≤sizeLine:=by have:=xep kvs k v; omega
    refine wpAny_setItem_pairs (hsz:=hz) (xef ry) dd fun h' dd' hs=>h _ ?_
    have he:∃ q,h'.get? a=some q:=let ⟨q,_,_,hq,_⟩:=dd'; ⟨q,hq⟩
    exact xh8 I (by rw [e]; exact True.intro) hs he (xoq hl hd (rel.put k rv) dd')
  · subst ey eH
    cases (show u=Value.ref b from ry)
    obtain ⟨z,hd,xs,rel,dd⟩:=xl8 I.hok e
    have hz:xs.length≤sizeLine:=by rw [← Paired.length rel]; exact z
    have hl:(putK kvs k v).length≤sizeLine:=by have:=xep kvs k v; omega
    refine wpAny_setItem_heap (hsz:=hz) (tupleKind_room_in1 hu) (xgv I.hok eb) dd fun h' dd' hs=>h _ ?_
    obtain ⟨q,es,ep,hq,h2,h3,h4,_,h5⟩:=dd'
    refine xh8 I (by rw [e]; exact True.intro) hs ⟨q,hq⟩ ⟨hl,hd,_,(rel.put k eb rv).keeps fun c ys ec=>?_,q,es,ep,hq,h2,h3,h4,h5⟩
    rw [xj (xbm ec e (fun z=>nomatch z))]
    exact ec
end
section
variable {X:Cx} {pins:List (Addr × Obj)} {σ:St} {H:Hp} {s:Shared} {a:Addr} {kvs:List (Key × V)} {k:Key} {u:Value} {A:Around} {E:Value→Shared→Prop}
theorem xpm {Q:Value→Shared→Prop} (I:Inv X pins σ H s) (e:Rd H a (.dK kvs)) (h:∀ t s',Inv X pins σ H s'→Q (.int kvs.length t) s'):wpAny (model X.prog X.w) A (call (.builtin "len") [.ref a]) Q E s:=by
 obtain ⟨z,hd,vs,rel,dd⟩:=xik I.hok e
 refine call_len_dict hd dd (by rw [← rel.length]; rw [sizeLine_eq] at z; omega) ?_
 rw [← rel.length]
 exact h _ _ (I.tok _)
end
def tDIn (ty td:TE):TE:=fun σ H Q=>ty σ H fun y H1=>td σ H1 fun x H2=>∃ a o,x=.ref a∧DGet H2 a y o∧Q (.bl o.isSome) H2
def xpe (td ty tv:TE):TS:=fun D σ H=>tv σ H fun v H1=>td σ H1 fun x H2=>ty σ H2 fun y H3=>∃ a H4,x=.ref a∧DPut H3 a y v H4∧D.nx σ H4
section
variable {X:Cx} {o i e value:Expr} {pos pos' tpos:Pos} {td ty tv:TE}
theorem xko (hu:X.A.units + 1 < cLine) (hi:PE X i ty) (ho:PE X o td):PC X .In i o (tDIn ty td):=by
 intro pins s σ H Q I h
 refine thn (hi pins s σ H _ I h) fun iv s1 ⟨y,H1,I1,ry,q1⟩=>thn (ho pins s1 σ H1 _ I1 q1) fun u s2 ⟨x,H2,I2,rx,a,ov,ex,g,q2⟩=>?_
 subst ex
 obtain rfl:u=Value.ref a:=rx
 exact d_in hu I2 g ry fun s3 I3=>⟨.bl ov.isSome,H2,I3,rfl,q2⟩
theorem xh6 (hu:X.A.units + 1 < cLine) (ho:PE X o td) (hi:PE X i ty) (hv:PE X value tv) (hs:swapsWith value (some (.Subscript o i pos')) pos.line X.env=pure false) :
    PS X (.Assign [.Subscript o i pos'] value pos) (xpe td ty tv):=by
  intro pins s σ H D I h
  refine wpAny_Assign_Subscript (thn (hv pins s σ H _ I h) fun r s1 ⟨v,H1,I1,rv,q1⟩=>thn (ho pins s1 σ H1 _ I1 q1) fun u s2 ⟨x,H2,I2,rx,q2⟩=>thn (hi pins s2 σ H2 _ I2 q2) fun iv s3 ⟨y,H3,I3,ry,a,H4,ex,g,q3⟩=>?_) hs
  subst ex
  obtain rfl:u=Value.ref a:=rx
  exact xj0 hu I3 g ry rv fun s4 I4=>⟨σ,H4,I4,q3⟩
end
theorem xlv {P:Program} {w:World} {H:Hp} (h:Heap) (hb:sysModules < h.objs.size):xal P w H (h.push { cls:=.type "dict",data:=.dict #[] }) h.objs.size (.dK []) :=
 ⟨Nat.zero_le _,beq_eq_false_iff_ne.mpr (Ne.symm (Nat.ne_of_lt hb)),[],.nil,Heap.DictOf.new h⟩
theorem xks {P:Program} {w:World} {H:Hp} (h:Heap) (hb:sysModules < h.objs.size):xal P w H (h.push { cls:=.type "dict",data:=.dict #[] }) h.objs.size (.dT []) :=
 ⟨Nat.zero_le _,beq_eq_false_iff_ne.mpr (Ne.symm (Nat.ne_of_lt hb)),[],.nil,_,#[],0,Heap.get?_push_size _ rfl,⟨rfl,rfl,rfl⟩,rfl,rfl,List.nodup_nil⟩
def xoz:TE:=fun _ H Q=>∀ p,H p=none→Q (.ref p) (upd H p (.dK []))
def xn3:TE:=fun _ H Q=>∀ p,H p=none→Q (.ref p) (upd H p (.dT []))
section
variable {X:Cx} {pos:Pos}
theorem xku:PE X (.Dict [] [] pos) xoz:=fun pins s σ H Q I h =>
 wpAny_Dict_empty ⟨.ref s.heap.objs.size,_,I.laid (a:=s.heap.objs.size) (o:=.dK []) (t':=s.toks) (fun _ _ q=>Heap.get?_push_of_some _ q) (Nat.le_refl _) (xlv s.heap I.big),rfl,h _ (I.hok.fresh (Nat.le_refl _))⟩
theorem xlk:PE X (.Dict [] [] pos) xn3:=fun pins s σ H Q I h =>
 wpAny_Dict_empty ⟨.ref s.heap.objs.size,_,I.laid (a:=s.heap.objs.size) (o:=.dT []) (t':=s.toks) (fun _ _ q=>Heap.get?_push_of_some _ q) (Nat.le_refl _) (xks s.heap I.big),rfl,h _ (I.hok.fresh (Nat.le_refl _))⟩
end
section
variable {X:Cx} {pins:List (Addr × Obj)} {σ:St} {H:Hp} {s:Shared} {a:Addr} {y d:V} {u r:Value} {o:Option V} {A:Around} {E:Value→Shared→Prop}
end
section
variable {X:Cx} {o e f:Expr} {apos cpos:Pos} {td ty tx:TE}
end
section
variable {X:Cx} {pins:List (Addr × Obj)} {σ:St} {H:Hp} {s:Shared} {a:Addr} {kvs:List (Key × V)} {A:Around} {E:Value→Shared→Prop}
end
section
variable {X:Cx} {pins:List (Addr × Obj)} {σ:St} {H:Hp} {s:Shared} {a:Addr} {y:V} {u:Value} {A:Around} {E:Value→Shared→Prop}
end
end L2
namespace Att
open PySem PySem.W PySem.Calls PyProof.Rows
theorem xfh {P:Params} {h:Heap}:∀ (ns:List Int) (vs:List Value),WellAll P h vs (ns.map WData.int)→IntsAre vs ns:=by
 intro ns
 induction ns with
 | nil =>
  intro vs w
  rw [List.map_nil] at w
  cases w
  exact .nil
 | cons n ns ih =>
  intro vs w
  rw [List.map_cons] at w
  cases w with
  | cons a b =>
   cases a
   exact .cons _ _ (ih _ b)
theorem xkn {l:OpenLaw} {n:Nat} (hn:l.most=some n) {P:Params} {h:Heap} {args:List WData} {vals:List Value}
    (hpre:l.row.toRowW.claim.pre args=true) (hwl:WellAll P h vals args) :
    ∃ a vs ns,vals=[Value.ref a]∧args=[WData.list (ns.map WData.int)]∧h.get? a=some { cls:=.type "list",data:=.seq vs.toArray }∧IntsAre vs ns∧ns.length≤n:=by
  have hsh:WShape.hasAll [] args [.list .int]=true:=(pre_splitW hpre).1
  have hc:l.pre.holds [] { args:=args }=true:=(pre_splitW hpre).2
  obtain ⟨d,r,rfl,h1,h2⟩:=hasAllW_cons hsh
  obtain rfl:=hasAllW_nil h2
  obtain ⟨xs,rfl,h3⟩:=hasW_list h1
  obtain ⟨ns,rfl⟩:=items_int h3
  have hlen:ns.length≤n:=by
    unfold OpenLaw.pre at hc
    have h4:(WTm.not (.lt (.lit (.int (n:Int))) (.len (.arg 0)))).holds [] { args:=[.list (ns.map .int)] }=true:=by
      have h4:=(holds_andW hc).1
      rw [hn] at h4
      exact h4
    have h5:=condW_of h4 (w_not (w_lt w_lit (w_len_list (w_arg rfl))))
    rw [List.length_map] at h5
    refine Nat.le_of_not_lt fun q=>?_
    have q':(n:Int) < ((ns.length:Nat):Int):=by omega
    first
      | (rw [decide_eq_true q'] at h5; exact absurd h5 (by decide))
      | (simp at h5; omega)
  cases hwl with
  | cons w1 w2 =>
    cases w2
    cases w1 with
    | list ho hall=>exact ⟨_,_,ns,rfl,rfl,ho,xfh ns _ hall,hlen⟩
theorem xji (l:OpenLaw) (args:List WData):l.row.toRowW.claim.post args (.bool true) args=true :=
 postW_of (r:=l.row.toRowW) (X:=(true == true))
  (show WShape.has [] (.bool true) .bool=true by first | rfl | decide | simp [WShape.has,WShape.arms,WShape.armsAll])
  (show (WTm.eq .res (.lit (.bool true))).value [] { args:=args,res:=some (.bool true),after:=args }=some (.bool (true == true)) from w_eq_bool (w_res rfl) w_lit) rfl
theorem attach_call {l:OpenLaw} {n:Nat} {q:Program} {loose:List Str} {XP:(Str→Option Value)→Heap→Prop} {YP:World→Heap→Prop} {d:DefRec}
    (hn:l.most=some n) (hdf:d.params.defaults=[])
    (call:∀ (w:World) (s₀ s₁:Shared) (mg mb:Str→Option Value) (fa:Addr) (o:Obj) (pm cd doc:Value) (a:Addr) (vs:List Value) (ns:List Int),
      Ground q loose [] XP w s₀ mg mb s₁.heap→YP w s₁.heap →
      s₁.heap.get? fa=some o→o.data=.func (docDef d.name d.params d.body d.scope pm cd doc)→s₁.heap.CodeRec cd d.name→mg d.name=some (.ref fa) →
      s₁.heap.get? a=some { cls:=.type "list",data:=.seq vs.toArray }→IntsAre vs ns→ns.length≤n→s₁.gens=#[] →
      codeAny (model l.prog w) callerA (.call (.ref fa) ⟨[.ref a],[]⟩) (fun r s'=>r=.ok (.ret (.bool true))∧OldK s₁.heap s'.heap∧s'.os=s₁.os∧AllBare s'.gens) s₁) :
    WalkO q loose XP YP l.row.toRowW d [] (fun f vs=>PySem.call f vs):=by
  intro w s₀ s₁ mg mb G Y fa o pm cd doc dV kV ho hd hcd hD hmg hg args vals as hpre hlay hrd hwl hlo
  obtain rfl:dV=.none:=Dflts.none hD hdf
  obtain rfl:kV=.none:=Dflts.noKw hD
  obtain ⟨a,vs,ns,rfl,rfl,hobj,hints,hlen⟩:=xkn hn hpre hwl
  refine enter_call (codeAny_mono (call w s₀ s₁ mg mb fa o pm cd doc a vs ns G Y ho (fd_plain hd) hcd hmg hobj hints hlen hg) fun r s' hq=>?_)
  obtain ⟨rfl,h2,h3,h4⟩:=hq
  exact ⟨.inl ⟨.bool true,.bool true,[],rfl,fun _=>rfl,.bool true,xji l _,fun _=>⟨List.Pairwise.nil,fun _ hm=>(nomatch hm)⟩⟩,h2,h3,h4⟩
section
variable {prog:Program} {w:World} {A:Around} {E:Value→Shared→Prop} {s:Shared} {K:Frag}
def xqa (h:Heap) (L d:Addr):List (Addr × Obj):=(List.range h.objs.size).filterMap fun a=>if a=L∨a=d then none else (h.get? a).map fun o=>(a,o)
end
end Att
namespace L2
open PySem PySem.Spec PyProof.Rows
variable {q0:Bool}
theorem xgb:∀ {vs:List Value} {ns:List Int},IntsAre vs ns→Vals (ns.map V.int) vs
 | _,_,.nil=>.nil
 | _,_,.cons n t h=>.cons ⟨t,rfl⟩ (xgb h)
def Only (H:Hp):Prop:=∀ b,H b=none∨∃ o xs,H b=some (.frz o (.lst xs))
theorem xlt {P:Program} {w:World} {K:PySem.W.Frag} {mg mb:Str→Option Value} {CX:CXT} {k:Nat} {fa a:Addr} {fd:FuncData} {x:Str} {sp:Sp} {s₁:Shared} {vs:List Value} {ns:List Int}
    (KX:K.In s₁.heap) (hns:s₁.heap.Ns mainGlobals mg) (hb:s₁.heap.Ns builtinsNs mb) (hbb:∀ x:Str,x≠"__name__"→mb x=bootBuiltins x) (hlim:s₁.heap.NoLimit) (hg:s₁.gens=#[])
    (ha:s₁.heap.get? a=some { cls:=.type "list",data:=.seq vs.toArray }) (hi:IntsAre vs ns) (hl:ns.length≤sizeLine) (hr:Room q0 k callerA)
    (F:∀ base:Heap,K.In base→base.Ns mainGlobals mg→FnOk q0 P w K mg base CX k fa fd [x] sp) (hbind:∀ (s:Shared) (u:Value),BindsTo s fd ⟨[u],[]⟩ [(x,u)])
    (hsp:∀ H:Hp,Only H→SqL K H a (ns.map V.int)→sp [.ref a] H (fun v _=>v=.bl true) fun _ _ _=>False)
    (hCX:∀ H e s',CX [] H s₁ (fun _ _ _=>False) e s'→False) :
    codeAny (model P w) callerA (.call (.ref fa) ⟨[.ref a],[]⟩) (fun r s'=>r=.ok (.ret (.bool true))∧OldK s₁.heap s'.heap∧s'.os=s₁.os∧AllBare s'.gens) s₁:=by
  have rv:=xgb hi
  have lenV:=hi.length
  -- from an abstract heap in which nothing but the script may be tracked
  have core:∀ H:Hp,Only H→SqL K H a (ns.map V.int)→HOk P w H s₁.heap→(∀ b,H b≠none→b=a)→(H a≠none→K.lookup a=none) →
      codeAny (model P w) callerA (.call (.ref fa) ⟨[.ref a],[]⟩) (fun r s'=>r=.ok (.ret (.bool true))∧OldK s₁.heap s'.heap∧s'.os=s₁.os∧AllBare s'.gens) s₁:=by
    intro H hO hS hok hA hK
    have base_of:∀ {b:Addr} {o:Obj},s₁.heap.get? b=some o→H b=none→(hidT s₁.heap H).get? b=some o:=fun e n=>xlx e n
    have noA:∀ {b:Addr} {o:Obj} {es:Array DictEntry} {ep:Nat},s₁.heap.get? b=some o→o.data=.dict es ep→H b=none:=fun {b o es ep} e d=>by
      cases q:H b with
      | none=>rfl
      | some u =>
        have e':b=a:=hA b (by rw [q]; simp)
        subst e'
        rw [ha] at e; cases e
        have d':Data.seq vs.toArray _=Data.dict es ep:=d
        cases d'
    have nsK:∀ {b:Addr} {m:Str→Option Value},s₁.heap.Ns b m→(hidT s₁.heap H).Ns b m:=fun {b m} ⟨o,es,ep,e,d,r⟩=>⟨o,es,ep,base_of e (noA e d),d,r⟩
    have hKb:K.In (hidT s₁.heap H):=fun b o e=>base_of (KX b o e) (by
      cases q:H b with
      | none=>rfl
      | some u =>
        have e':b=a:=hA b (by rw [q]; simp)
        subst e'
        rw [hK (by rw [q]; simp)] at e; cases e)
    have hM:Mod K mg (hidT s₁.heap H):=⟨hKb,nsK hns,⟨mb,nsK hb,hbb⟩,let ⟨mc,h1,h2⟩:=hlim; ⟨mc,nsK h1,h2⟩⟩
    have e0:Env0 P w K mg (hidT s₁.heap H) callerA [] s₁ H:=⟨rfl,hM,fun b o e=>xmm e,Nat.le_of_eq (xkm _ _),trivial,fun b hb=>absurd (show b ∈ ([]:List Addr) from hb) (by simp),hok,.of_eq hg⟩
    refine codeAny_mono ((F _ hKb (nsK hns)).run callerA [] s₁ H ⟨[.ref a],[]⟩ [.ref a] [.ref a] _ _ hr e0 (hbind s₁ (.ref a)) (.cons rfl .nil) (hsp H hO hS)) fun r s' h=>?_
    cases r with
    | error e=>exact (hCX H e s' h).elim
    | ok fl =>
      cases fl with
      | next=>exact False.elim h
      | brk=>exact False.elim h
      | cont=>exact False.elim h
      | ret u =>
        obtain ⟨v,H',os,bare,un,hok',r',q⟩:=h
        have q':v=.bl true:=q
        subst q'
        obtain rfl:u=Value.bool true:=r'
        refine ⟨rfl,OldK.of_keep fun b o e=>?_,os,bare⟩
        cases q:H b with
        | none=>exact un.keep b o e q (by intro z; exact absurd (show b ∈ ([]:List Addr) from z) (by simp)) (by simp)
        | some u =>
          rcases hO b with z | ⟨ob,xs,z⟩
          · rw [q] at z; cases z
          · have z2:=un.frzs b ob _ z
            obtain ⟨e1,_⟩:=hok b _ z
            obtain ⟨e2,_⟩:=hok' b _ z2
            rw [e] at e1; cases e1
            exact e2
  cases hk:K.lookup a with
  | some o =>
    -- the script is one of the module's own objects
    have e:=KX a o hk
    rw [ha] at e
    cases e
    refine core (fun _=>none) (fun _=>.inl rfl) (.inr ⟨_,vs.toArray,_,hk,rfl,rfl,rfl,by rw [List.size_toArray,lenV]; exact hl,by simpa using rv⟩) (fun b u z=>by have z':(none:Option HO)=some u:=z; cases z') (fun b z=>absurd rfl z) fun z=>absurd rfl z
  | none =>
    refine core (fun b=>if b=a then some (.frz { cls:=.type "list",data:=.seq vs.toArray } (.lst (ns.map V.int))) else none) (fun b=>?_) (.inl (.inr ⟨{ cls:=.type "list",data:=.seq vs.toArray },if_pos rfl⟩)) (fun b u z=>?_) (fun b z=>?_) fun _=>hk
    · by_cases hb:b=a
      · exact .inr ⟨_,_,if_pos hb⟩
      · exact .inl (if_neg hb)
    · by_cases hb:b=a
      · have z':=(if_pos hb).symm.trans z
        cases z'
        subst hb
        exact ⟨ha,by rw [List.length_map]; exact hl,vs,_,rv,ha⟩
      · have z':=(if_neg hb).symm.trans z
        cases z'
    · by_cases hb:b=a
      · exact hb
      · exact absurd (if_neg hb) z
end L2
namespace L2
open PySem PySem.Spec PyProof.Rows
variable {q0:Bool}
abbrev KOf {K:PySem.W.Frag} {h:Heap} (_:K.In h):PySem.W.Frag:=K
theorem walk_of {l:PySem.W.OpenLaw} {n k:Nat} {q:Program} {loose:List Str} {XP:(Str→Option Value)→Heap→Prop} {YP:World→Heap→Prop} {d:DefRec} {K:Params→PySem.W.Frag} {CX:World→CXT} {sp:World→Sp} {x:Str}
    (hn:l.most=some n) (hn2:n≤sizeLine) (hdf:d.params.defaults=[]) (hr:Room q0 k callerA)
    (hY:∀ (w:World) (h:Heap),YP w h→(K w.params).In h)
    (F:∀ (w:World) (mg:Str→Option Value) (fa:Addr) (h:Heap),(K w.params).In h→h.Ns mainGlobals mg→mg d.name=some (.ref fa) →
      ∃ fd:FuncData,(∀ (s:Shared) (u:Value),BindsTo s fd ⟨[u],[]⟩ [(x,u)]) ∧
        ∀ base:Heap,(K w.params).In base→base.Ns mainGlobals mg→FnOk q0 l.prog w (K w.params) mg base (CX w) k fa fd [x] (sp w))
    (hsp:∀ (w:World) (H:Hp) (a:Addr) (ns:List Int),ns.length≤n→Only H→SqL (K w.params) H a (ns.map V.int)→sp w [.ref a] H (fun v _=>v=.bl true) fun _ _ _=>False)
    (hCX:∀ (w:World) (H:Hp) (s:Shared) (e:Value) (s':Shared),CX w [] H s (fun _ _ _=>False) e s'→False) :
    PySem.W.WalkO q loose XP YP l.row.toRowW d [] (fun f vs=>PySem.call f vs):=by
  refine Att.attach_call hn hdf fun w s₀ s₁ mg mb fa o pm cd doc a vs ns G Y ho hd hcd hmg hobj hints hlen hg=>?_
  have KX:=hY w _ Y
  obtain ⟨fd,hb,hF⟩:=F w mg fa _ KX G.T.g hmg
  exact xlt KX G.T.g G.T.b G.T.builtins G.T.nolimit hg hobj hints (Nat.le_trans hlen hn2) hr hF hb (fun H hO hS=>hsp w H a ns hlen hO hS) fun H e s'=>hCX w H s₁ e s'
end L2
namespace L2
open PySem PySem.Spec PyProof.Rows
variable {q0:Bool}
def xax (s:Stmt) (j:Nat):Stmt:=match s with
 | .ClassDef _ _ _ body _ _ _ _ _ _ _=>body.getD j (.Pass ⟨0,0,0,0⟩)
 | _=>.Pass ⟨0,0,0,0⟩
def x4 (s:Stmt):Arguments:=match s with
 | .FunctionDef _ a _ _ _ _ _ _ _ _=>a
 | _=>{ posonlyargs:=[],args:=[],vararg:=none,kwonlyargs:=[],kw_defaults:=[],kwarg:=none,defaults:=[] }
def xx (s:Stmt):List Stmt:=match s with
 | .FunctionDef _ _ b _ _ _ _ _ _ _=>b
 | _=>[]
def xm (s:Stmt):Scope:=match s with
 | .FunctionDef _ _ _ _ _ _ sc _ _ _=>sc
 | _=>{ kind:=.function,names:=[],isGenerator:=false,isCoroutine:=false }
abbrev CX0:CXT:=fun _ _ _ _ _ _=>False
structure Fun (K:PySem.W.Frag) (x qual:Str) (st:Stmt) (f:Addr) (fd:FuncData):Prop where
 ex:∃ (oc:Value) (od:Option Addr) (kV doc pm:Value) (an:Option Addr) (cdv ct:Value) (osl:Array (Option Value)),
  fd=PySem.W.fnOf x qual (x4 st) (xx st) (xm st) .none kV doc pm an cdv ct∧K.lookup f=some ⟨oc,od,.func fd,osl⟩∧PySem.W.codeIn K cdv qual=true
 kp:PySem.W.keepIn K (.ref f)=true
section
variable {P:Program} {w:World} {K:PySem.W.Frag} {mg:Str→Option Value} {base:Heap}
theorem Fun.ok {x qual:Str} {st:Stmt} {f:Addr} {fd:FuncData} {N ps:List Str} {k:Nat} {sp:Sp} (F:Fun K x qual st f fd) (S:x5 N ps (xm st)) (len:∀ vs H Q E,sp vs H Q E→vs.length=ps.length)
    (hbody:∀ (cdv:Value) (A:Around) (outer:List Env) (s:Shared) (H:Hp) (vs:List V) (Q:VK) (E:XK),Room q0 k (A.deeper (envOfC qual (xm st) s.heap.objs.size f cdv))→sp vs H Q E →
      ∃ t,PSs (cxOf q0 CX0 P w K mg base N qual (xm st) f cdv A outer s H E).nox (xx st) t∧t { nx:=fun _ H'=>Q .non H',rt:=Q } (xcb N vs) H):FnOk q0 P w K mg base CX0 (k + 1) f fd ps sp:=by
  obtain ⟨oc,od,kV,doc,pm,an,cdv,ct,osl,rfl,lk,hcd⟩:=F.ex
  refine xgp lk hcd S len fun A outer s H vs Q E hr hsp=>?_
  obtain ⟨t,h,q⟩:=hbody cdv A outer s H vs Q E hr hsp
  exact ⟨t,h.nox,q⟩
theorem Fun.binds {x qual:Str} {st:Stmt} {f:Addr} {fd:FuncData} {ps:List Str} (F:Fun K x qual st f fd)
    (h:∀ (kV doc pm:Value) (an:Option Addr) (cdv ct:Value) (us:List Value),us.length=ps.length→bindArgs (PySem.W.fnOf x qual (x4 st) (xx st) (xm st) .none kV doc pm an cdv ct) ⟨us,[]⟩=pure (ps.zip us)):xae K fd ps []:=by
  obtain ⟨oc,od,kV,doc,pm,an,cdv,ct,osl,rfl,lk,hcd⟩:=F.ex
  exact .all (h kV doc pm an cdv ct)
theorem xq {x qual:Str} {st:Stmt} {f:Addr} {oc:Value} {od an:Option Addr} {osl:Array (Option Value)} {kV doc pm cdv ct:Value} (l:K.lookup f=some ⟨oc,od,.func (PySem.W.fnOf x qual (x4 st) (xx st) (xm st) .none kV doc pm an cdv ct),osl⟩)
    (c:PySem.W.codeIn K cdv qual=true) (k:PySem.W.keepIn K (.ref f)=true):Fun K x qual st f (PySem.W.fnOf x qual (x4 st) (xx st) (xm st) .none kV doc pm an cdv ct):=⟨⟨oc,od,kV,doc,pm,an,cdv,ct,osl,rfl,l,c⟩,k⟩
end
theorem xgn {A:Around} {k:Nat} (hr:Room q0 k A):A.units + 1 < cLine:=Nat.lt_of_le_of_lt (Nat.add_le_add_left (by decide:1≤64) _) hr.units
section
variable {X:Cx}
theorem pv (i:Nat) {x:Str} {pos:Pos} (hN:X.N[i]?=some x:=by rfl) (hv:Vis X.env.scope x:=by first | exact Or.inl rfl | exact Or.inr (Or.inl rfl) | exact Or.inr (Or.inr rfl)) (hd:(x == ("__debug__":Str))=false:=by decide)
    (hcd:(x == ("__classdict__":Str))=false:=by decide):PE X (.Name x pos) (tVar i):=xn2 hN hv hd hcd
end
theorem iteF {A B:Prop} (h:B):if false=true then A else B:=by
 rw [if_neg Bool.false_ne_true]
 exact h
theorem iteT {A B:Prop} (h:A):if true=true then A else B:=by
 rw [if_pos rfl]
 exact h
theorem ite2 {c A B:Prop} [Decidable c] (h1:c→A) (h2:¬ c→B):if c then A else B:=by
 by_cases h:c
 ·rw [if_pos h]
  exact h1 h
 ·rw [if_neg h]
  exact h2 h
def Same (H H':Hp):Prop:=∀ b o,H b=some o→H' b=some o
theorem Same.refl (H:Hp):Same H H:=fun _ _ h=>h
theorem Same.trans {H H1 H2:Hp} (a:Same H H1) (b:Same H1 H2):Same H H2:=fun c o h=>b c o (a c o h)
theorem Same.free {H H':Hp} (e:Same H H') {l:Addr} (h:H' l=Option.none):H l=Option.none:=by
 cases q:H l with
 | none=>rfl
 | some o =>
  rw [e l o q] at h
  cases h
theorem Same.seq {K:PySem.W.Frag} {H H':Hp} {a:Addr} {xs:List V} (e:Same H H') (h:SqL K H a xs):SqL K H' a xs:=by
 rcases h with (h | ⟨o,h⟩) | h
 ·exact .inl (.inl (e _ _ h))
 ·exact .inl (.inr ⟨o,e _ _ h⟩)
 ·exact .inr h
end L2
namespace Srt
open PySem PySem.W PyProof.Rows
abbrev CM:=Nat→Nat→(Bool→Shared→Prop)→Shared→Prop
abbrev g (p:Array Nat) (i:Nat):Nat:=p.getD i 0
structure Ord (n:Nat) (lt:Nat→Nat→Bool):Prop where
 irr:∀ i,i < n→lt i i=false
 tr:∀ i j k,i < n→j < n→k < n→lt i j=true→lt j k=true→lt i k=true
 tot:∀ i j,i < n→j < n→i≠j→lt i j=false→lt j i=true
def Cmp (n:Nat) (lt:Nat→Nat→Bool) (cmp:CM) (s:Shared):Prop:=∀ i j,i < n→j < n→∀ Q:Bool→Shared→Prop,Q (lt i j) s→cmp i j Q s
theorem xbx {α:Type} {cmp:CM} {a:α} {Q:α→Shared→Prop} {s:Shared} (h:Q a s):KasT.kasWp cmp (.ret a) Q s:=h
theorem xd3 {α:Type} {cmp:CM} {i j:Nat} {k:Bool→KasT α} {Q:α→Shared→Prop} {s:Shared} (h:cmp i j (fun c s'=>KasT.kasWp cmp (k c) Q s') s):KasT.kasWp cmp (.ask i j k) Q s:=h
theorem xpi {p:Array Nat} {n:Nat}:kas_asc p 0 n=.ret n:=by unfold kas_asc; rfl
theorem xpv {p:Array Nat} {f n:Nat}:kas_asc p (f + 1) n=.ask (p.getD n 0) (p.getD (n - 1) 0) fun c=>if c=true then .ret n else kas_asc p f (n + 1):=by rw [kas_asc]
theorem xpu {p:Array Nat} {k:Nat}:kas_bin 0 p k=.ret p:=by unfold kas_bin; rfl
theorem xpx {f:Nat} {p:Array Nat} {k:Nat}:kas_bin (f + 1) p k=(kas_place p k k 0 k).bind fun l=>kas_bin f (bubble p k (k - l)) (k + 1):=by rw [kas_bin]
theorem xmn {p:Array Nat} {k l r:Nat}:kas_place p k 0 l r=.ret l:=by unfold kas_place; rfl
theorem xm6 {p:Array Nat} {k f l r:Nat}:kas_place p k (f + 1) l r=if l ≥ r then .ret l else .ask (p.getD k 0) (p.getD ((l + r) / 2) 0) fun c=>if c=true then kas_place p k f l ((l + r) / 2) else kas_place p k f ((l + r) / 2 + 1) r:=by rw [kas_place]
theorem xnp {p:Array Nat} {k l:Nat}:kas_desc 0 p k l=.ret (p,k,l):=by unfold kas_desc; rfl
theorem xn5 {f:Nat} {p:Array Nat} {k l:Nat}:kas_desc (f + 1) p k l=.ask (p.getD k 0) (p.getD (k - 1) 0) fun c=>if c=true then (if l > 0 then kas_desc f (kas_rev p (k - (l + 1)) k) (k + 1) 0 else kas_desc f p (k + 1) 0) else .ask (p.getD (k - 1) 0) (p.getD k 0) fun d=>if d=true then .ret (p,k,l) else kas_desc f p (k + 1) (l + 1):=by rw [kas_desc]
section
variable {n:Nat} {lt:Nat→Nat→Bool} {cmp:CM} {s:Shared}
structure Arr (n:Nat) (p:Array Nat):Prop where
 sz:p.size=n
 lt:∀ i,i < n→g p i < n
 inj:∀ i j,i < n→j < n→g p i=g p j→i=j
 pm:p.Perm (List.range n).toArray
theorem g_at {p:Array Nat} {i:Nat} {v:Nat} (h:p[i]?=some v):g p i=v:=by
 show p.getD i 0=v
 rw [Array.getD_eq_getD_getElem?,h]
 rfl
theorem Arr.at {p:Array Nat} (a:Arr n p) {i:Nat} (h:i < n):p[i]?=some (g p i):=by
 have z:i < p.size:=by rw [a.sz]; exact h
 have e:p[i]?=some p[i]:=Array.getElem?_eq_getElem z
 rw [e,g_at e]
def Srtd (lt:Nat→Nat→Bool) (p:Array Nat) (m:Nat):Prop:=∀ i j,i < j→j < m→lt (g p i) (g p j)=true
theorem xib (o:Ord n lt) {p:Array Nat} (a:Arr n p) {m:Nat} (hm:m≤n) (h:∀ i,1≤i→i < m→lt (g p (i - 1)) (g p i)=true):Srtd lt p m:=by
 intro i j hij hj
 obtain ⟨d,rfl⟩:∃ d,j=i + 1 + d:=⟨j - (i + 1),by omega⟩
 induction d with
 | zero=>exact h (i + 1) (by omega) hj
 | succ d ih =>
  have h1:=ih (by omega) (by omega)
  have h2:=h (i + 1 + (d + 1)) (by omega) hj
  exact o.tr _ _ _ (a.lt _ (by omega)) (a.lt _ (by omega)) (a.lt _ (by omega)) h1 h2
theorem xhj (c:Cmp n lt cmp s) {p:Array Nat} (a:Arr n p) {G:Nat→Shared→Prop}:∀ (f k:Nat),1≤k→k + f≤n →
    (∀ m,k≤m→m≤k + f→(∀ i,k≤i→i < m→lt (g p i) (g p (i - 1))=false)→(m < k + f→lt (g p m) (g p (m - 1))=true)→G m s)→KasT.kasWp cmp (kas_asc p f k) G s
  | 0,k,h1,hf,hG=>by
    rw [xpi]
    exact xbx (hG k (Nat.le_refl _) (by omega) (fun i h h'=>by omega) (fun h=>by omega))
  | f + 1,k,h1,hf,hG=>by
    rw [xpv]
    refine xd3 (c _ _ (a.lt k (by omega)) (a.lt (k - 1) (by omega)) _ ?_)
    cases e:lt (g p k) (g p (k - 1)) with
    | true =>
      exact xbx (hG k (Nat.le_refl _) (by omega) (fun i h h'=>by omega) (fun _=>e))
    | false =>
      show KasT.kasWp cmp (kas_asc p f (k + 1)) G s
      refine xhj c a f (k + 1) (by omega) (by omega) fun m hm hm2 h3 h4=>hG m (by omega) (by omega) (fun i hi hi2=>?_) (fun h=>h4 (by omega))
      by_cases z:i=k
      · rw [z]; exact e
      · exact h3 i (by omega) hi2
theorem xh3 (o:Ord n lt) (c:Cmp n lt cmp s) {p:Array Nat} (a:Arr n p) {G:Array Nat × Nat × Nat→Shared→Prop}:∀ (f k:Nat),1≤k→k + f≤n →
    (∀ m,k≤m→m≤k + f→(∀ i,k≤i→i < m→lt (g p i) (g p (i - 1))=true)→G (p,m,0) s)→KasT.kasWp cmp (kas_desc f p k 0) G s
  | 0,k,h1,hf,hG=>by
    rw [xnp]
    exact xbx (hG k (Nat.le_refl _) (by omega) (fun i h h'=>by omega))
  | f + 1,k,h1,hf,hG=>by
    rw [xn5]
    refine xd3 (c _ _ (a.lt k (by omega)) (a.lt (k - 1) (by omega)) _ ?_)
    cases e:lt (g p k) (g p (k - 1)) with
    | true =>
      show KasT.kasWp cmp (kas_desc f p (k + 1) 0) G s
      refine xh3 o c a f (k + 1) (by omega) (by omega) fun m hm hm2 h3=>hG m (by omega) (by omega) fun i hi hi2=>?_
      by_cases z:i=k
      · rw [z]; exact e
      · exact h3 i (by omega) hi2
    | false =>
      refine xd3 (c _ _ (a.lt (k - 1) (by omega)) (a.lt k (by omega)) _ ?_)
      have ne:g p k≠g p (k - 1):=fun z=>by have:=a.inj _ _ (by omega) (by omega) z; omega
      rw [show lt (p.getD (k - 1) 0) (p.getD k 0)=true from o.tot _ _ (a.lt k (by omega)) (a.lt (k - 1) (by omega)) ne e]
      exact xbx (hG k (Nat.le_refl _) (by omega) (fun i h h'=>by omega))
theorem Arr.rev {p:Array Nat} (a:Arr n p) {k:Nat} (hk:k≤n):Arr n (kas_rev p 0 k)∧∀ i,i < n→g (kas_rev p 0 k) i=if i < k then g p (k - 1 - i) else g p i:=by
 have ge:∀ i,i < n→g (kas_rev p 0 k) i=if i < k then g p (k - 1 - i) else g p i:=fun i hi=>by
  have z:=getElem?_mirror_all (xs:=p) (i:=0) (j:=k) (by rw [a.sz]; exact hk) i
  by_cases c:i < k
  ·rw [if_pos c]
   rw [if_pos ⟨Nat.zero_le _,c⟩,show 0 + k - 1 - i=k - 1 - i by omega,a.at (show k - 1 - i < n by omega)] at z
   exact g_at z
  ·rw [if_neg c]
   rw [if_neg (fun w=>c w.2),a.at hi] at z
   exact g_at z
 refine ⟨⟨by rw [kas_rev_size,a.sz],fun i hi=>?_,fun i j hi hj e=>?_,(mirror_perm _ _ _ _).trans a.pm⟩,ge⟩
 ·rw [ge i hi]
  split <;> exact a.lt _ (by omega)
 ·rw [ge i hi,ge j hj] at e
  split at e <;> split at e <;> have:=a.inj _ _ (by omega) (by omega) e <;> omega
theorem xls (o:Ord n lt) (c:Cmp n lt cmp s) {p:Array Nat} (a:Arr n p) (h2:2≤n) {G:Nat × Array Nat→Shared→Prop}
    (hG:∀ m p',1≤m→m≤n→Arr n p'→Srtd lt p' m→G (m,p') s):KasT.kasWp cmp (kas_count n p) G s:=by
  unfold kas_count
  rw [KasT.kasWp_bind]
  have up:∀ q,Arr n q→∀ i,1≤i→i < n→lt (g q i) (g q (i - 1))=false→lt (g q (i - 1)) (g q i)=true:=fun q b i h1 hi e =>
    o.tot _ _ (b.lt i hi) (b.lt (i - 1) (by omega)) (fun z=>by have:=b.inj _ _ hi (by omega) z; omega) e
  refine xhj c a (n - 1) 1 (Nat.le_refl _) (by omega) fun m hm hm2 h3 h4=>?_
  have sm:Srtd lt p m:=xib o a (by omega) fun i hi hi2=>up p a i hi (by omega) (h3 i hi hi2)
  show KasT.kasWp cmp (if (m == n)=true then _ else _) G s
  by_cases e1:m=n
  · rw [if_pos (by simpa using e1)]
    exact xbx (hG m p hm (by omega) a sm)
  · rw [if_neg (by simpa using e1)]
    by_cases e2:m > 1
    · rw [if_pos e2]
      refine xd3 (c _ _ (a.lt 0 (by omega)) (a.lt (m - 1) (by omega)) _ ?_)
      rw [show lt (p.getD 0 0) (p.getD (m - 1) 0)=true from sm 0 (m - 1) (by omega) (by omega)]
      exact xbx (hG m p hm (by omega) a sm)
    · rw [if_neg e2]
      have m1:m=1:=by omega
      subst m1
      have d1:=h4 (by omega)
      unfold kas_descPart
      rw [KasT.kasWp_bind]
      refine xh3 o c a (n - (1 + 1)) (1 + 1) (by omega) (by omega) fun k hk hk2 h5=>?_
      show KasT.kasWp cmp (if (0:Nat) > 0 then _ else kas_tail3 k n p) G s
      rw [if_neg (Nat.lt_irrefl 0)]
      unfold kas_tail3
      rw [KasT.kasWp_bind]
      obtain ⟨b,ge⟩:=a.rev (k:=k) (by omega)
      refine xhj c b (n - k) k (by omega) (by omega) fun m' hm' hm2' h6 _=>?_
      refine xbx (hG m' _ (by omega) (by omega) b (xib o b (by omega) fun i hi hi2=>?_))
      by_cases ik:i < k
      · rw [ge i (by omega),ge (i - 1) (by omega),if_pos ik,if_pos (by omega)]
        have e3:k - 1 - (i - 1) - 1=k - 1 - i:=by omega
        by_cases z:k - 1 - (i - 1)=1
        · have z':k - 1 - i=0:=by omega
          rw [z,z']
          exact d1
        · have:=h5 (k - 1 - (i - 1)) (by omega) (by omega)
          rw [e3] at this
          exact this
      · exact up _ b i hi (by omega) (h6 i (by omega) hi2)
theorem xew (o:Ord n lt) (c:Cmp n lt cmp s) {p:Array Nat} (a:Arr n p) {k:Nat} (hk:k < n) (sk:Srtd lt p k) {G:Nat→Shared→Prop}:∀ (f l r:Nat),l≤r→r≤k→r - l≤f →
    (∀ j,j < l→lt (g p k) (g p j)=false)→(∀ j,r≤j→j < k→lt (g p k) (g p j)=true) →
    (∀ m,m≤k→(∀ j,j < m→lt (g p k) (g p j)=false)→(∀ j,m≤j→j < k→lt (g p k) (g p j)=true)→G m s)→KasT.kasWp cmp (kas_place p k f l r) G s
  | 0,l,r,h1,h2,h3,lo,hi,hG=>by
    rw [xmn]
    exact xbx (hG l (by omega) lo fun j hj hj2=>hi j (by omega) hj2)
  | f + 1,l,r,h1,h2,h3,lo,hi,hG=>by
    rw [xm6]
    by_cases e:l ≥ r
    · rw [if_pos e]
      exact xbx (hG l (by omega) lo fun j hj hj2=>hi j (by omega) hj2)
    · rw [if_neg e]
      have m1:(l + r) / 2 < r:=by omega
      have m2:l≤(l + r) / 2:=by omega
      refine xd3 (c _ _ (a.lt k hk) (a.lt _ (by omega)) _ ?_)
      cases e2:lt (g p k) (g p ((l + r) / 2)) with
      | true =>
        show KasT.kasWp cmp (kas_place p k f l ((l + r) / 2)) G s
        refine xew o c a hk sk f l _ m2 (by omega) (by omega) lo (fun j hj hj2=>?_) hG
        by_cases z:j=(l + r) / 2
        · rw [z]; exact e2
        · exact o.tr _ _ _ (a.lt k hk) (a.lt _ (by omega)) (a.lt _ (by omega)) e2 (sk _ _ (by omega) hj2)
      | false =>
        show KasT.kasWp cmp (kas_place p k f ((l + r) / 2 + 1) r) G s
        refine xew o c a hk sk f _ r (by omega) h2 (by omega) (fun j hj=>?_) hi hG
        by_cases z:j=(l + r) / 2
        · rw [z]; exact e2
        · cases e3:lt (g p k) (g p j) with
          | false=>rfl
          | true =>
            have:=o.tr _ _ _ (a.lt k hk) (a.lt _ (by omega)) (a.lt _ (by omega)) e3 (sk j ((l + r) / 2) (by omega) (by omega))
            rw [e2] at this
            cases this
theorem Arr.bub {p:Array Nat} (a:Arr n p) {k m:Nat} (hk:k < n) (hm:m≤k):Arr n (bubble p k (k - m))∧∀ i,i < n→g (bubble p k (k - m)) i=if i=m then g p k else if m < i∧i≤k then g p (i - 1) else g p i:=by
 have ge:∀ i,i < n→g (bubble p k (k - m)) i=if i=m then g p k else if m < i∧i≤k then g p (i - 1) else g p i:=fun i hi=>by
  have z:=getElem?_bubble (xs:=p) (src:=k) (by rw [a.sz]; exact hk) (k - m) (by omega) i
  rw [show k - (k - m)=m by omega] at z
  by_cases c:i=m
  ·rw [if_pos c]
   rw [if_pos c,a.at hk] at z
   exact g_at z
  ·rw [if_neg c]
   rw [if_neg c] at z
   by_cases d:m < i∧i≤k
   ·rw [if_pos d]
    rw [if_pos d,a.at (show i - 1 < n by omega)] at z
    exact g_at z
   ·rw [if_neg d]
    rw [if_neg d,a.at hi] at z
    exact g_at z
 refine ⟨⟨by rw [bubble_size,a.sz],fun i hi=>?_,fun i j hi hj e=>?_,(bubble_perm _ _ _).trans a.pm⟩,ge⟩
 ·rw [ge i hi]
  split
  ·exact a.lt _ hk
  ·split <;> exact a.lt _ (by omega)
 ·rw [ge i hi,ge j hj] at e
  split at e <;> (try split at e) <;> (try split at e) <;> (try split at e) <;> first | omega | (have:=a.inj _ _ (by omega) (by omega) e; omega)
theorem xjp (o:Ord n lt) (c:Cmp n lt cmp s) {G:Array Nat→Shared→Prop}:∀ (f k:Nat) (p:Array Nat),k + f=n→Arr n p→Srtd lt p k→(∀ p',Arr n p'→Srtd lt p' n→G p' s)→KasT.kasWp cmp (kas_bin f p k) G s
 | 0,k,p,h,a,sk,hG=>by
  rw [xpu]
  have:k=n:=by omega
  subst this
  exact xbx (hG p a sk)
 | f + 1,k,p,h,a,sk,hG=>by
  have hk:k < n:=by omega
  rw [xpx,KasT.kasWp_bind]
  refine xew o c a hk sk k 0 k (Nat.zero_le _) (Nat.le_refl _) (by omega) (fun j hj=>by omega) (fun j hj hj2=>by omega) fun m hm lo hi=>?_
  obtain ⟨b,ge⟩:=a.bub hk hm
  refine xjp o c f (k + 1) _ (by omega) b (fun i j hij hj=>?_) hG
  have inS:∀ i,i < m→lt (g p i) (g p k)=true:=fun i hi'=>o.tot _ _ (a.lt k hk) (a.lt i (by omega)) (fun z=>by have:=a.inj _ _ hk (by omega) z; omega) (lo i hi')
  have g1:∀ i,i < n→i=m→g (bubble p k (k - m)) i=g p k:=fun i hi z=>by rw [ge i hi,if_pos z]
  have g2:∀ i,i < n→m < i→i≤k→g (bubble p k (k - m)) i=g p (i - 1):=fun i hi z z2=>by rw [ge i hi,if_neg (by omega),if_pos ⟨z,z2⟩]
  have g3:∀ i,i < n→i < m→g (bubble p k (k - m)) i=g p i:=fun i hi z=>by rw [ge i hi,if_neg (by omega),if_neg (by omega)]
  by_cases j1:j=m
  ·rw [g1 j (by omega) j1,g3 i (by omega) (by omega)]
   exact inS i (by omega)
  ·by_cases i1:i=m
   ·rw [g1 i (by omega) i1,g2 j (by omega) (by omega) (by omega)]
    exact hi (j - 1) (by omega) (by omega)
   ·by_cases j2:m < j
    ·rw [g2 j (by omega) j2 (by omega)]
     by_cases i2:m < i
     ·rw [g2 i (by omega) i2 (by omega)]
      exact sk _ _ (by omega) (by omega)
     ·rw [g3 i (by omega) (by omega)]
      by_cases z:i=j - 1
      ·omega
      ·exact sk _ _ (by omega) (by omega)
    ·rw [g3 j (by omega) (by omega),g3 i (by omega) (by omega)]
     exact sk _ _ hij (by omega)
theorem xj7:Arr n (List.range n).toArray:=by
 have e:∀ i,i < n→g (List.range n).toArray i=i:=fun i hi=>g_at (by rw [List.getElem?_toArray,List.getElem?_range hi])
 exact ⟨by simp,fun i hi=>by rw [e i hi]; exact hi,fun i j hi hj z=>by rw [e i hi,e j hj] at z; exact z,Array.Perm.refl _⟩
theorem sort_wp (o:Ord n lt) (c:Cmp n lt cmp s) (h2:2≤n) {G:Array Nat→Shared→Prop} (hG:∀ p,Arr n p→Srtd lt p n→G p s):KasT.kasWp cmp (kas_sort n) G s:=by
 unfold kas_sort
 rw [KasT.kasWp_bind]
 refine xls o c xj7 h2 fun m p hm hm2 a sm=>?_
 show KasT.kasWp cmp (if m < n then _ else _) G s
 by_cases e:m < n
 ·rw [if_pos e]
  show KasT.kasWp cmp (kas_bin (n - max m 1) p (max m 1)) G s
  rw [Nat.max_eq_left hm]
  exact xjp o c (n - m) m p (by omega) a sm hG
 ·rw [if_neg e]
  have:m=n:=by omega
  subst this
  exact xbx (hG p a sm)
end
end Srt
set_option maxRecDepth 100000
namespace XL
open PySem
def Xat (h:Heap) (e:Addr) (cls:Value) (od tb:Option Addr):Prop :=
 ∃ oe vs,h.get? e=some oe∧oe.cls=cls∧oe.dict=od∧oe.data=.fields vs∧1 < vs.size ∧
  ((tb=none∧vs[1]?=some Value.none)∨∃ T oT ts,tb=some T∧vs[1]?=some (.ref T)∧T≠e∧h.get? T=some oT∧oT.data=.fields ts∧ts[3]?=some Value.none)
structure Stp (fs:List Addr) (e:Addr) (tb:Option Addr) (h h':Heap):Prop where
 keep:∀ b o,h.get? b=some o→b≠e→tb≠some b→b ∉ fs→h'.get? b=some o
 slot:∀ b o,h.get? b=some o→b ∈ fs→∃ sl,h'.get? b=some { o with slots:=sl }
abbrev xgl (l:List Env):List Addr:=l.filterMap (·.frame)
theorem xjl (o:Obj) (f:Array Value→Array Value):(o.mapFields f).dict=o.dict:=by
 obtain ⟨c,d,dt,sl⟩:=o
 cases dt <;> rfl
section
variable {M:Model} {A:Around} {E:Value→Shared→Prop} {s:Shared}
theorem xhv {base:Heap} {env:Env} {outer:List Env} {L e:Addr} {oe:Obj} {vs:Array Value} {hd:Value} {nx:Bool} {cls:Value} {od tb:Option Addr} {g:Heap} {Q:Unit→Shared→Prop}
    (fr:A.frames=some (env :: outer)) (ff:s.heap.FunFrames base (env :: outer)) (fL:env.frame=some L)
    (ge:s.heap.get? e=some oe) (de:oe.data=.fields vs) (se:1 < vs.size) (ce:oe.cls=cls) (oo:oe.dict=od)
    (st:Stp (xgl (env :: outer)) e tb g s.heap) (sz:g.objs.size≤s.heap.objs.size)
    (k:∀ h' T,Stp (xgl (env :: outer)) e tb g h'→g.objs.size≤T→Xat h' e cls od (some T)→Q () { s with heap:=h' }) :
    wpAny M A (do let a ← frameOf env; let pl ← entryPlaceOf L nx; let b ← EntryCells.newEntry hd a .none (rawInt L) .none pl; setField (.ref e) 1 b) (fun _ s'=>wpAny M A (setFlight (.ref e) none) Q E s') E s:=by
  have nef:e ∉ xgl (env :: outer):=fun hm=>by
    obtain ⟨_,o,ho,hnf⟩:=ff.mem hm
    have z:=ge.symm.trans ho
    cases z
    exact hnf vs de
  refine wpAny_bind (wpAny_frameOf_fun fr ff fL fun h1 so=>?_)
  refine wpAny_bind (wpAny_entryPlaceOf fun pl ip=>?_)
  unfold EntryCells.newEntry newFields
  refine wpAny_bind (wpAny_newObj_type ?_ (ip.sizeOk5 _ _ _ _ _))
  have e1:h1.get? e=some oe:=(so.2.1 e nef).trans ge
  generalize eT:({ cls:=.type "traceback",dict:=none,data:=.fields ([hd,.ref L,.none,rawInt L,.none] ++ (if pl.isEmpty then List.replicate 6 Value.none else pl)).toArray }:Obj)=oT
  have dT:oT.data=.fields ([hd,.ref L,.none,rawInt L,.none] ++ (if pl.isEmpty then List.replicate 6 Value.none else pl)).toArray:=by rw [← eT]
  have fT:oT.isFreed=false:=by rw [← eT]; rfl
  have e2:(h1.push oT).get? e=some oe:=Heap.get?_push_of_some oT e1
  refine wpAny_setField e2 de se ?_
  have nTe:h1.objs.size≠e:=Nat.ne_of_gt (Heap.lt_size e1)
  have d3:=Obj.data_mapFields de (·.setIfInBounds 1 (Value.ref h1.objs.size))
  have e3:=Heap.get?_update_self (Obj.mapFields (·.setIfInBounds 1 (Value.ref h1.objs.size))) e2 (Obj.isFreed_of_fields d3)
  have T3:((h1.push oT).update e (Obj.mapFields (·.setIfInBounds 1 (Value.ref h1.objs.size)))).get? h1.objs.size=some oT :=
    (Heap.get?_update_other (h1.push oT) _ (Ne.symm nTe)).trans (Heap.get?_push_size h1 fT)
  unfold setFlight
  refine wpAny_bind (wpAny_field e3 d3 (x:=.ref h1.objs.size) (by simp [se]) ?_)
  rw [if_pos (show (Value.ref h1.objs.size != Value.none)=true from by simp)]
  refine wpAny_setField T3 dT (by simp only [List.size_toArray,List.length_append,List.length_cons,List.length_nil] <;> omega) (k _ h1.objs.size ?_ ?_ ?_)
  · have go:∀ b o,b≠e→h1.get? b=some o→(((h1.push oT).update e (Obj.mapFields (·.setIfInBounds 1 (Value.ref h1.objs.size)))).update h1.objs.size
        (Obj.mapFields (·.setIfInBounds 3 ((none:Option Addr).elim Value.none fun f=>rawInt f)))).get? b=some o:=fun b o be hb=>by
      have bT:h1.objs.size≠b:=Nat.ne_of_gt (Heap.lt_size hb)
      rw [Heap.get?_update_other _ _ bT,Heap.get?_update_other _ _ (Ne.symm be)]
      exact Heap.get?_push_of_some oT hb
    refine ⟨fun b o hb be bt bf=>go b o be ((so.2.1 b bf).trans (st.keep b o hb be bt bf)),fun b o hb bf=>?_⟩
    obtain ⟨sl,h2⟩:=st.slot b o hb bf
    obtain ⟨sl2,h3⟩:=so.2.2 b _ h2
    exact ⟨sl2,go b _ (fun z=>nef (z ▸ bf)) h3⟩
  · rw [so.1]; exact sz
  · refine ⟨_,_,?_,(Obj.cls_mapFields _ _).trans ce,(xjl _ _).trans oo,d3,by simp [se],.inr ⟨h1.objs.size,_,_,rfl,by simp [se],nTe,Heap.get?_update_self _ T3 (Obj.isFreed_of_fields (Obj.data_mapFields dT _)),Obj.data_mapFields dT _,?_⟩⟩
    · rw [Heap.get?_update_other _ _ nTe]
      exact e3
    · first | (simp; done) | (rcases ip with rfl | ⟨_,_,_,_,_,_,_,rfl⟩ <;> simp)
theorem xjv {base:Heap} {env:Env} {outer:List Env} {L e:Addr} {cls:Value} {od tb:Option Addr} {Q:Unit→Shared→Prop}
    (fr:A.frames=some (env :: outer)) (ff:s.heap.FunFrames base (env :: outer)) (fL:env.frame=some L) (x:Xat s.heap e cls od tb)
    (k:∀ h' T,Stp (xgl (env :: outer)) e tb s.heap h'→s.heap.objs.size≤T→Xat h' e cls od (some T)→Q () { s with heap:=h' }) :
    wpAny M A (noteFrame (.ref e) env) (fun _ s'=>wpAny M A (setFlight (.ref e) none) Q E s') E s:=by
  obtain ⟨oe,vs,ge,ce,oo,de,se,y⟩:=x
  unfold noteFrame
  simp only [fL]
  rcases y with ⟨rfl,h1⟩ | ⟨T,oT,ts,rfl,h1,nTe,gT,dT,h3⟩
  · refine wpAny_bind (wpAny_field ge de h1 ?_)
    rw [if_neg (by decide)]
    exact xhv fr ff fL ge de se ce oo ⟨fun b o hb _ _ _=>hb,fun b o hb _=>⟨o.slots,hb⟩⟩ (Nat.le_refl _) k
  · refine wpAny_bind (wpAny_field ge de h1 ?_)
    rw [if_pos (show (Value.ref T != Value.none)=true from by simp)]
    refine wpAny_bind (wpAny_field gT dT h3 ?_)
    rw [if_neg (show ¬ ((Value.none == rawInt L)=true) from by simp [rawInt])]
    refine wpAny_bind (wpAny_setField gT dT (Array.getElem?_eq_some_iff.mp h3).1 ?_)
    have ot:∀ b,b≠T→(s.heap.update T (Obj.mapFields (·.setIfInBounds 3 Value.none))).get? b=s.heap.get? b:=fun b hb=>Heap.get?_update_other _ _ (Ne.symm hb)
    have nr:∀ b o,s.heap.get? b=some o→(∀ vs,o.data≠.fields vs)→b≠T:=fun b o hb hn q=>by
      rw [q] at hb
      have z:=gT.symm.trans hb
      cases z
      exact hn ts dT
    refine xhv (g:=s.heap) fr (ff.of_keeps fun b o hb hn=>⟨o,(ot b (nr b o hb hn)).trans hb,rfl⟩) fL ((ot e (Ne.symm nTe)).trans ge) de se ce oo
      ⟨fun b o hb _ bt _=>(ot b fun z=>bt (congrArg some z.symm)).trans hb,fun b o hb bf=>⟨o.slots,?_⟩⟩ (Nat.le_of_eq (Heap.size_after_update ..).symm) k
    · obtain ⟨_,o',ho',hn⟩:=ff.mem bf
      have z:=hb.symm.trans ho'
      cases z
      exact (ot b (nr b _ hb hn)).trans hb
end
end XL
set_option maxRecDepth 100000
namespace XL
open PySem
section
variable {prog:Program} {w:World} {A:Around} {E:Value→Shared→Prop} {h:Heap} {g:Array GenState} {d:Drawn} {t:Nat} {os:OsState}
variable {nm qn:Str} {C N:Addr} {bs bm bmB:List Value} {hz:Bool} {sn:List Str} {sub:List Value} {ab:Bool} {col:Option Bool} {dd:Option Addr} {k0 k1 k2 k3 k5:Option Value} {B ni ii:String}
theorem xho (F:ExcBaseFacts B ni ii bmB) (T:OwnTail h bmB bm) {us:List Value} {fI:Addr} {oI:Obj} {Q:Fin→Shared→Prop}
    (gC:h.get? C=some (excClassObj nm qn C N bs bm hz sn sub ab col dd k0 k1 k2 k3 k5 ni))
    (hi:∀ (A':Around) (Q':Option Value→Shared→Prop) (E':Value→Shared→Prop) (s':Shared),(∀ b o,h.get? b=some o→s'.heap.get? b=some o)→Q' (some (.ref fI)) s'→wpAny (model prog w) A' (typeLookup (.ref C) "__init__") Q' E' s')
    (gI:h.get? fI=some oI) (cI:oI.cls=.type "function") (lu:us.length≤sizeLine)
    (k:∀ h' e,Heap.MadeExcOf h h' e (.ref C) us→h.objs.size≤e →
      wpAny (model prog w) A (call (.ref fI) (.ref e :: us)) (fun r s'=>r=.none∧Q (.done (.ret (.ref e))) s') E ⟨h',g,d,t,os⟩) :
    wpAny (model prog w) A (Builtin.«type.__call__» ⟨.ref C :: us,[]⟩) Q E ⟨h,g,d,t,os⟩:=by
  repeat (first | with_reducible refine wpAny_loadPart_at gC ?_ | with_reducible refine wpAny_madeBy_exc gC ?_ | wp_step)
  refine codeAny_call_builtin_code (Code.quiet_builtin _ F.quiet) (wpAny_check_new_subT F T gC ?_)
  refine codeAny_exc_new_subT F T gC ?_ lu
  show wpAny _ _ _ _ _ _
  generalize e1:({ cls:=.type "tuple",data:=.seq us.toArray }:Obj)=oT
  have fT:oT.isFreed=false:=by rw [← e1]; rfl
  generalize e2:({ cls:=.ref C,data:=.fields #[.ref h.objs.size,.none,.none,.none,.bool false,.none] }:Obj)=oE
  have fE:oE.isFreed=false:=by rw [← e2]; rfl
  have up:∀ b o,h.get? b=some o→((h.push oT).push oE).get? b=some o:=fun b o q=>Heap.get?_push_of_some oE (Heap.get?_push_of_some oT q)
  have gC':=up _ _ gC
  have gI':=up _ _ gI
  have gE:((h.push oT).push oE).get? (h.objs.size + 1)=some oE:=by
    have z:=Heap.get?_push_size (h.push oT) fE
    rwa [Heap.size_push] at z
  have cE:oE.cls=.ref C:=by rw [← e2]
  have me:(Value.ref C :: bm).contains (.ref C)=true:=by simp
  unfold isInstance
  repeat (first | (with_reducible refine wpAny_loadPart_at gE ?_; rw [cE]) | (with_reducible refine wpAny_isSubtype_exc gC' ?_; rw [me]) | wp_step)
  show wpAny _ _ (typeLookup (.ref C) _) _ _ _
  refine hi _ _ _ _ up ?_
  refine wpAny_holding (wpAny_bind ?_)
  unfold bindSpecial
  refine wpAny_bind (wpAny_typeOf (T:="function") ⟨_,gI',cI⟩ ?_)
  rw [if_pos (by decide)]
  refine wpAny_pure (wpAny_bind (wpAny_mono (k _ (h.objs.size + 1) ⟨up,Heap.get?_none_of_le (Nat.le_succ _),h.objs.size,?_,Heap.get?_none_of_le (Nat.le_refl _),?_⟩ (Nat.le_succ _)) (fun r s' z=>?_) fun _ _ x=>x))
  · rw [e2]; exact gE
  · rw [e1]; exact Heap.get?_push_of_some oE (Heap.get?_push_size h fT)
  · obtain ⟨rfl,z⟩:=z
    wp_walk
    exact z
theorem xih (F:ExcBaseFacts B ni ii bmB) (T:OwnTail h bmB bm) {us:List Value} {fI:Addr} {oI:Obj} {Q:Value→Shared→Prop}
    (gC:h.get? C=some (excClassObj nm qn C N bs bm hz sn sub ab col dd k0 k1 k2 k3 k5 ni))
    (hi:∀ (A':Around) (Q':Option Value→Shared→Prop) (E':Value→Shared→Prop) (s':Shared),(∀ b o,h.get? b=some o→s'.heap.get? b=some o)→Q' (some (.ref fI)) s'→wpAny (model prog w) A' (typeLookup (.ref C) "__init__") Q' E' s')
    (gI:h.get? fI=some oI) (cI:oI.cls=.type "function") (lu:us.length≤sizeLine)
    (k:∀ h' e,Heap.MadeExcOf h h' e (.ref C) us→h.objs.size≤e →
      wpAny (model prog w) (A.under (.builtin "type.__call__" ⟨.ref C :: us,[]⟩)) (call (.ref fI) (.ref e :: us)) (fun r s'=>r=.none∧Q (.ref e) s') E ⟨h',g,d,t,os⟩) :
    wpAny (model prog w) A (call (.ref C) us) Q E ⟨h,g,d,t,os⟩:=by
  have a1:=tc_lookup
  have a2:=tc_bind (.ref C)
  have ty:(⟨h,g,d,t,os⟩:Shared).TypeIs (.ref C) "type":=⟨_,gC,rfl⟩
  refine wpAny_call (codeAny_of_tree ?_)
  show wpAny _ _ (callAny (.ref C) _) _ _ _
  repeat (any_goals (first | assumption | with_reducible refine wpAny_loadPart_at gC ?_ | wp_step))
  refine ⟨rfl,?_⟩
  refine codeAny_call_builtin_at (Code.quiet_builtin _ (by decide +kernel)) entry_typeCall (wpAny_check_type_call_sub gC (xho F T gC hi gI cI lu fun h' e hm hs=>?_))
  exact k h' e hm hs
theorem xna {M:Model} {s:Shared} {env:Env} {x:Sem Value} {Q:Flow→Shared→Prop} (hh:A.handled=none)
    (k:wpAny M A x (fun v s1=>∃ e od C nm qn N bs bm hz sn sub ab col dd k0 k1 k2 k3 k5 ni,v=.ref e∧bm.contains (.type "BaseException")=true∧s1.heap.get? C=some (excClassObj nm qn C N bs bm hz sn sub ab col dd k0 k1 k2 k3 k5 ni)∧Xat s1.heap e (.ref C) od none∧E (.ref e) s1) E s) :
    wpAny M A (raiseStmt env (some x) none) Q E s:=by
  unfold raiseStmt
  refine wpAny_bind (wpAny_mono k (fun v s1 z=>?_) fun _ _ x=>x)
  obtain ⟨e,od,C,nm,qn,N,bs,bm,hz,sn,sub,ab,col,dd,k0,k1,k2,k3,k5,ni,rfl,bB,gC,⟨oe,vs,ge,ce,oo,de,se,y⟩,zE⟩:=z
  have me:(Value.ref C :: bm).contains (.type "BaseException")=true:=by rw [List.contains_cons,bB,Bool.or_true]
  obtain ⟨hp,g,d,tk,os⟩:=s1
  rcases y with ⟨_,y1⟩ | ⟨T,_,_,z,_⟩
  · repeat (first | (with_reducible refine wpAny_loadPart_at ge ?_; rw [ce]) | with_reducible refine wpAny_loadPart_at gC ?_ | (with_reducible refine wpAny_isSubtype_exc gC ?_; rw [me]) | wp_step)
    rw [de]
    refine wpAny_pure ?_
    rw [y1]
    refine wpAny_pure ?_
    rw [if_neg (by decide)]
    exact wpAny_pure (wpAny_raiseNew_none hh zE)
  · cases z
end
end XL
set_option maxRecDepth 100000
namespace XL
open PySem PySem.W PySem.Calls PyProof.Rows Builtin Builtin.ObjectAttr
def vErr:List Value:=[.type "ValueError",.type "Exception",.type "BaseException",.type "object"]
def xde:List Value→Bool
 | []=>false
 | .ref c :: r=>xde r || ((.ref c :: r:List Value) == vErr)
 | v :: r=>(v :: r) == vErr
def xbu (K:Frag) (C:Addr):Bool:=(clsIn K C).any fun cd=>xde cd.mro
theorem xf9 (self:Value):∀ {l:List Value},xde l=true→refuseLoop self "__setattr__" l=pure ()
 | [],e=>by cases e
 | v :: r,e=>by
  have last:((v :: r:List Value) == vErr)=true→refuseLoop self "__setattr__" (v :: r)=pure ():=fun z=>by
   rw [eq_of_beq z]
   exact PySem.F.store_ValueError.passes self
  cases v with
  | ref c =>
   rcases Bool.or_eq_true_iff.mp e with z | z
   ·rw [refuseLoop_ref]
    exact xf9 self z
   ·exact last z
  | _=>exact last e
theorem xer:∀ {l:List Value},xde l=true→l.contains (.type "object")=true∧l.contains (.type "BaseException")=true∧l.isEmpty=false
 | [],e=>by cases e
 | v :: r,e=>by
  have last:((v :: r:List Value) == vErr)=true→(v :: r).contains (.type "object")=true∧(v :: r).contains (.type "BaseException")=true∧(v :: r).isEmpty=false:=fun z=>by
   rw [eq_of_beq z]
   exact ⟨by decide +kernel,by decide +kernel,rfl⟩
  cases v with
  | ref c =>
   rcases Bool.or_eq_true_iff.mp e with z | z
   ·obtain ⟨a,b,_⟩:=xer z
    exact ⟨by rw [List.contains_cons,a,Bool.or_true],by rw [List.contains_cons,b,Bool.or_true],rfl⟩
   ·exact last z
  | _=>exact last e
structure XC (K:Frag) (C:Addr):Prop where
 over:xbu K C=true
 hd:hasDictIn K C=true
 sa:findIn K (.ref C) "__setattr__"=some (some (.builtin "object.__setattr__"))
 ga:findIn K (.ref C) "__getattribute__"=some (some (.builtin "BaseException.__getattribute__"))
 gh:findIn K (.ref C) "__getattr__"=some none
 ca:findIn K (.ref C) "__class__"=some (some (.builtin "object.__class__"))
 cg:specialIn K (.builtin "object.__class__") "__get__"=some (some (.builtin "getset_descriptor.__get__"))
 ct:takesIn K (.builtin "object.__class__")=some true
section
variable {prog:Program} {w:World} {A:Around} {E:Value→Shared→Prop} {s:Shared} {K:Frag} {x C dx:Addr} {ox:Obj} {od:Option Obj} {name:Str} {v:Value} {R:Result→Shared→Prop}
theorem XC.mro (c:XC K C):∃ cd,clsIn K C=some cd∧xde cd.mro=true∧cd.hasDict=true:=by
 obtain ⟨cd,h1,h2⟩:=any_some c.over
 obtain ⟨cd',h3,h4⟩:=any_some c.hd
 rw [h1] at h3
 cases h3
 exact ⟨cd,h1,h2,h4⟩
theorem XC.isObj (c:XC K C):mroIn K C (.type "object")=some true:=by
 obtain ⟨cd,h1,h2,_⟩:=c.mro
 obtain ⟨a,_,b⟩:=xer h2
 unfold mroIn
 rw [h1,Option.bind_some,if_neg (by rw [b]; decide),a]
theorem XC.isExc (c:XC K C):mroIn K C (.type "BaseException")=some true:=by
 obtain ⟨cd,h1,h2,_⟩:=c.mro
 obtain ⟨_,a,b⟩:=xer h2
 unfold mroIn
 rw [h1,Option.bind_some,if_neg (by rw [b]; decide),a]
theorem xl1 {tk:Tok} (X:K.In s.heap) (c:XC K C) (I:InstAt s.heap x ox C od) (ha:findIn K (.ref C) name=some none)
    (h:wpAny (model prog w) A.in1 (storeInOwnDict (.ref x) (.ref C) (.str name tk) name v false)
      (fun fin s'=>match fin with | .done f=>R (.ok f) s' | .again c'=>c'.quiet=true∧codeAny (model prog w) A c' R s') (fun e s'=>R (.error e) s') s) :
    codeAny (model prog w) A (.call (.builtin "object.__setattr__") ⟨[.ref x,.str name tk,v],[]⟩) R s:=by
  have SF:=PySem.F.store_object
  obtain ⟨cd,hc,hl,_⟩:=c.mro
  have sub:Looks (model prog w) s.heap (isInstance (.ref x) (.type "object")) true:=I.type.andThen (looks_mroIn X c.isObj)
  refine codeAny_call_builtin SF.slot.plain SF.entry (@check_slot (model prog w) _ _ s "object.__setattr__" "object" "__setattr__" (.ref x) [.str name tk,v] [] _ SF.kind SF.split sub (SF.args (.ref x) (.str name tk) v) ?_)
  have hm:Looks (model prog w) s.heap (mroOf (.ref C)) cd.mro:=(looks_clsIn X hc).andThen .now
  rw [osa_eq,refuse_eq]
  refine wpAny_bind (wpAny_bind (I.type.here (wpAny_bind (hm.here ?_))))
  rw [xf9 _ hl]
  refine wpAny_pure (wpAny_bind (I.type.here (wpAny_bind ((looks_findIn X ha).here (wpAny_bind ((Looks.now (a:=(none:Option Value))).here ?_))))))
  exact h
theorem xpt (X:K.In s.heap) (c:XC K C) (hx:s.heap.get? x=some ox) (hc:ox.cls=.ref C) (ho:ox.dict=some dx) {Q:Option Addr→Shared→Prop} (h:Q (some dx) s) :
    wpAny (model prog w) A (ownDictForStores (.ref x)) Q E s:=by
  obtain ⟨cd,h1,_,h2⟩:=c.mro
  unfold ownDictForStores instanceDict
  refine wpAny_bind (wpAny_loadPart hx ?_)
  rw [hc]
  refine wpAny_bind ((looks_clsIn X h1).here ?_)
  rw [h2,ho]
  exact wpAny_pure h
theorem xos {ns:List Str} {mA:Str→Option Value} {Q:Unit→Shared→Prop} (X:K.In s.heap) (c:XC K C) (hx:s.heap.get? x=some ox) (hc:ox.cls=.ref C) (hn:notCls ox=true) (ho:ox.dict=some dx) (hm:s.heap.Ns1 dx mA)
    (ha:findIn K (.ref C) name=some none) (hw:PySem.Within mA ns) (hz:ns.length≤sizeLine)
    (h:∀ h',h'.Ns1 dx (fun y=>if y=name then some v else mA y)→Heap.SameBut dx s.heap h'→Q () { s with heap:=h',toks:=s.toks + 2 }) :
    wpAny (model prog w) A (setAttr (.ref x) name v) Q E s:=by
  obtain ⟨o1,_,_,g1,_⟩:=id hm
  have I:InstAt s.heap x ox C (some o1):=⟨hx,hc,hn,by rw [ho]; exact g1⟩
  refine set_plain X I c.sa (xl1 (s:={ s with toks:=s.toks + 1 }) X c I ha ?_)
  refine wpAny_bind (wpAny_pure (wpAny_bind (xpt (s:={ s with toks:=s.toks + 1 }) X c hx hc ho ?_)))
  refine wpAny_bind (wpAny_pure (wpAny_bind ?_))
  refine wpAny_nsSet1 (s:={ s with toks:=s.toks + 1 }) hm fun h' n2 s2=>?_
  obtain ⟨oD,eD,pD,gD,dD,cD⟩:=n2.count (PySem.Within.cons name v hw)
  refine wpAny_bind (wpAny_lookBehind gD (by rw [dD]; exact pastItsLine_dict (Nat.le_trans cD (by rw [List.length_cons]; omega))) ?_)
  exact wpAny_pure (h _ n2 s2)
theorem xn9 {Q:Unit→Shared→Prop} (X:K.In s.heap) (c:XC K C) (hx:s.heap.get? x=some ox) (hc:ox.cls=.ref C) (hn:notCls ox=true) (ho:ox.dict=none) (hf:ox.isFreed=false)
    (ha:findIn K (.ref C) name=some none)
    (h:∀ h',h'.get? x=some { ox with dict:=some s.heap.objs.size }→h'.Ns1 s.heap.objs.size (fun y=>if y=name then some v else none) →
      (∀ b o,b≠x→s.heap.get? b=some o→h'.get? b=some o)→s.heap.objs.size≤h'.objs.size→Q () { s with heap:=h',toks:=s.toks + 2 }) :
    wpAny (model prog w) A (setAttr (.ref x) name v) Q E s:=by
  obtain ⟨cd,h1,_,h2⟩:=c.mro
  have I:InstAt s.heap x ox C none:=⟨hx,hc,hn,by rw [ho]; trivial⟩
  refine set_plain X I c.sa (xl1 (s:={ s with toks:=s.toks + 1 }) X c I ha ?_)
  refine wpAny_bind (wpAny_pure (wpAny_bind ?_))
  unfold ownDictForStores instanceDict
  refine wpAny_bind (wpAny_loadPart (s:={ s with toks:=s.toks + 1 }) hx ?_)
  rw [hc]
  refine wpAny_bind ((looks_clsIn X h1).here (s:={ s with toks:=s.toks + 1 }) ?_)
  rw [h2,ho,if_neg (by simp)]
  obtain ⟨oc,odi,oda,osl⟩:=ox
  dsimp only at hc ho
  subst hc ho
  have hx1:(s.heap.push { cls:=.type "dict",data:=.dict #[] }).get? x=some ⟨.ref C,none,oda,osl⟩:=Heap.get?_push_of_some _ hx
  have nx:x≠s.heap.objs.size:=Nat.ne_of_lt (Heap.lt_size hx)
  have key:wpAny (model prog w) A.in1 (do let d ← alloc { cls:=.type "dict",data:=.dict #[] }; update x (fun o=>{ o with dict:=some d }); dictMade (.ref C) x d)
      (fun a s'=>wpAny (model prog w) A.in1 (match a with | some d=>storeInDict d (.str name s.toks) name v | none=>noDictFor (.ref x) (.ref C) name false)
        (fun fin s'=>match fin with
          | .done f=>(match (Except.ok f:Result) with | .ok (.ret _)=>Q () s' | .ok _=>False | .error e=>E e s')
          | .again c'=>c'.quiet=true∧codeAny (model prog w) A c' (fun r s'=>match r with | .ok (.ret _)=>Q () s' | .ok _=>False | .error e=>E e s') s')
        (fun e s'=>E e s') s') (fun e s'=>E e s') { s with toks:=s.toks + 1 }:=by
    refine wpAny_bind (wpAny_alloc' ?_)
    refine wpAny_bind (wpAny_update' hx1 ?_)
    refine wpAny_pure ?_
    dsimp only
    have g2:((s.heap.push { cls:=.type "dict",data:=.dict #[] }).update x fun o=>{ o with dict:=some s.heap.objs.size }).get? s.heap.objs.size=some { cls:=.type "dict",data:=.dict #[] } :=
      (Heap.get?_update_ne _ _ _ _ nx.symm).trans (Heap.get?_push_at rfl rfl)
    have n2:((s.heap.push { cls:=.type "dict",data:=.dict #[] }).update x fun o=>{ o with dict:=some s.heap.objs.size }).Ns s.heap.objs.size (fun _=>none) :=
      ⟨_,#[],_,g2,rfl,fun e he=>absurd he (by simp),fun _=>rfl⟩
    unfold storeInDict newKeyGuard
    refine wpAny_bind (wpAny_pure (wpAny_bind (wpAny_nsSet1 (Heap.Ns1.of_empty n2) fun h' n3 s3=>?_)))
    obtain ⟨oD,eD,pD,gD,dD,cD⟩:=n3.count (Within.cons name v Within.nil)
    refine wpAny_bind (wpAny_lookBehind gD (by rw [dD]; exact pastItsLine_dict (Nat.le_trans cD (by rw [List.length_cons,List.length_nil,sizeLine_eq]; omega))) ?_)
    refine wpAny_pure (h h' ?_ n3 (fun b o bx hb=>?_) ?_)
    · refine (s3.2 x nx).trans (Heap.get?_update_self _ hx1 ?_)
      cases oda <;> first | rfl | exact hf
    · exact (s3.2 b (Nat.ne_of_lt (Heap.lt_size hb))).trans ((Heap.get?_update_ne _ _ _ _ bx).trans (Heap.get?_push_of_some _ hb))
    · rw [s3.1,Heap.size_after_update,Heap.size_push]
      exact Nat.le_succ _
  cases oda <;> first | exact key | cases hn
theorem xm4 (v:Value):bindSpecial (.builtin "BaseException.__getattribute__") v=pure (.builtin "BaseException.__getattribute__",[v]):=by
 have f:=PySem.F.attr_ValueError.ga.bind v
 exact f
theorem xk8:plainId "BaseException.__getattribute__"=true:=PySem.F.attr_ValueError.ga.plain
theorem xi7 {Q:Value→Shared→Prop} {expr fill:Bool} {tk:Tok} (X:K.In s.heap) (c:XC K C) (I:InstAt s.heap x ox C od)
    (h:wpAny (model prog w) A.in1 (Builtin.«object.__getattribute__» ⟨[.ref x,.str name tk],[]⟩)
      (fun fin s'=>match fin with | .done (.ret v)=>wpAny (model prog w) A (handedOut v) Q E s' | _=>False) (fun _ _=>False) s) :
    wpAny (model prog w) A (getAttrBy (.ref x) (.str name tk) fill expr) Q E s:=by
  obtain ⟨hh,g,d,t,os⟩:=s
  have L0:=I.type (M:=model prog w)
  have L1:=looks_findIn (M:=model prog w) X c.ga
  have L2:=looks_findIn (M:=model prog w) X c.gh
  have sub:Looks (model prog w) hh (isInstance (.ref x) (.type "BaseException")) true:=I.type.andThen (looks_mroIn X c.isExc)
  have f2:(onTheHeap (Value.ref C) && Value.builtin "BaseException.__getattribute__" == Value.builtin "object.__getattribute__")=false:=by
    rw [show (Value.builtin "BaseException.__getattribute__" == Value.builtin "object.__getattribute__")=false from by decide +kernel]; rfl
  have f3:(expr && onTheHeap (Value.builtin "BaseException.__getattribute__"))=false:=by cases expr <;> rfl
  unfold getAttrBy
  refine wpAny_holding (wpAny_bind (L0.at (wpAny_bind (L1.at ?_))))
  dsimp only
  rw [f2]
  simp only [Bool.false_eq_true,if_false]
  unfold getAttrByItsOwn hookBefore
  refine wpAny_bind (L2.at (wpAny_bind (wpAny_attempt (wpAny_holding ?_))))
  unfold callGetattribute
  rw [f3]
  simp only [Bool.false_eq_true,if_false]
  unfold boundAndCalled
  rw [xm4]
  refine wpAny_bind (wpAny_pure (wpAny_call (codeAny_call_builtin xk8 PySem.F.entry_bexc_ga
    (@check_slot (model prog w) _ _ ⟨hh,g,d,t,os⟩ "BaseException.__getattribute__" "BaseException" "__getattribute__" (.ref x) [.str name tk] [] _ (by decide +kernel) (by decide +kernel) sub (PySem.F.args_bexc_ga _ _) ?_))))
  refine wpAny_mono h (fun fin s' z=>?_) fun e s' z=>z.elim
  rcases fin with (_ | _ | _ | _) | _ <;> first | exact z | exact z.elim
theorem xpr {Q:Value→Shared→Prop} {expr:Bool} (X:K.In s.heap) (c:XC K C) (hx:s.heap.get? x=some ox) (hc:ox.cls=.ref C) (hn:notCls ox=true) (ho:ox.dict=some dx) {o1:Obj} (g1:s.heap.get? dx=some o1) (hl:lookIn name o1=some (some v))
    (ha:findIn K (.ref C) name=some none) (hv:handedIn v=true) (h:Q v { s with toks:=s.toks + 1 }) :
    wpAny (model prog w) A (getAttr (.ref x) name expr) Q E s:=by
  have I:InstAt s.heap x ox C (some o1):=⟨hx,hc,hn,by rw [ho]; exact g1⟩
  have hf:findObj K C (some o1) name=some (.value v):=findObj_own c.hd ha rfl hl
  unfold getAttr
  refine wpAny_bind (wpAny_mkText ?_)
  refine xi7 (s:={ s with toks:=s.toks + 1 }) X c I ?_
  have L0:=I.type (M:=model prog w)
  have L1:=looks_find (M:=model prog w) X I hf
  obtain ⟨hh,g,d,t,os⟩:=s
  refine wpAny_bind (wpAny_pure (wpAny_bind (wpAny_pure (wpAny_bind (L0.at (wpAny_bind (L1.at ?_)))))))
  refine wpAny_pure ?_
  show wpAny _ _ (handedOut v) _ _ _
  rw [handedOut_of hv]
  exact wpAny_pure h
theorem xle {Q:Option Value→Shared→Prop} (X:K.In s.heap) (c:XC K C) (I:InstAt s.heap x ox C od) (h:Q (some (.ref C)) { s with toks:=s.toks + 1 }) :
    wpAny (model prog w) A (getAttr? (.ref x) "__class__") Q E s:=by
  obtain ⟨cd,h1,_,h2⟩:=c.mro
  have hf:findObj K C od "__class__"=some (.bind (.builtin "getset_descriptor.__get__") (.builtin "object.__class__")):=by
    unfold findObj
    rw [h1,Option.bind_some,c.ca,Option.bind_some]
    simp [c.cg,c.ct]
  unfold getAttr? getAttrBy?
  refine wpAny_bind (wpAny_mkText (wpAny_bind (wpAny_attempt ?_)))
  refine xi7 (s:={ s with toks:=s.toks + 1 }) X c I ?_
  have L0:=I.type (M:=model prog w)
  have L1:=looks_find (M:=model prog w) X I hf
  refine wpAny_bind (wpAny_pure (wpAny_bind (wpAny_pure (wpAny_bind (L0.here (s:={ s with toks:=s.toks + 1 }) (wpAny_bind (L1.here (s:={ s with toks:=s.toks + 1 }) ?_)))))))
  show wpAny _ _ (holding [_] (call _ [_,.ref x,.ref C]) >>= ret) _ _ _
  refine wpAny_bind (wpAny_holding (wpAny_call (class_get (s:={ s with toks:=s.toks + 1 }) (ox:=ox) (od:=od) X I c.isObj ?_)))
  refine wpAny_pure ?_
  show wpAny _ _ (handedOut (.ref C)) _ _ _
  exact wpAny_pure (wpAny_pure h)
end
end XL
set_option maxRecDepth 100000
namespace XL
open PySem
theorem xll {x y:Str} {v:Value} (hx:v.isStr x=true) (n:y≠x):v.isStr y=false:=by
 cases v <;> simp_all [Value.isStr]
 exact fun z=>n z.symm
theorem xfg {name y:Str} (n:y≠name):∀ (l:List DictEntry) (i:Nat),l.findIdx? (·.key.isStr name)=some i→(l.eraseIdx i).find? (·.key.isStr y)=l.find? (·.key.isStr y)
 | [],i,h=>by simp at h
 | e :: r,i,h=>by
  rw [List.findIdx?_cons] at h
  by_cases q:e.key.isStr name=true
  ·rw [if_pos q] at h
   cases h
   have z:=xll q n
   simp [z]
  ·rw [if_neg q] at h
   cases hi:r.findIdx? (·.key.isStr name) with
   | none=>rw [hi] at h; cases h
   | some j =>
    rw [hi] at h
    cases h
    have ih:=xfg n r j hi
    simp only [List.eraseIdx_cons_succ,List.find?_cons]
    split
    ·rfl
    ·exact ih
section
variable {M:Model} {A:Around} {E:Value→Shared→Prop} {s:Shared} {env:Env}
theorem xmu {a:Addr} {m:Str→Option Value} {name:Str} {Q:Bool→Shared→Prop} (hn:s.heap.Ns a m)
    (k:∀ h' m',h'.Ns a m'→(∀ y,y≠name→m' y=m y)→Heap.SameBut a s.heap h'→Q (m name).isSome { s with heap:=h' }):wpAny M A (nsDel a name) Q E s:=by
  obtain ⟨o,es,ep,ho,hd,hk,hm⟩:=id hn
  have nor:es.any (·.refKey)=false:=by
    rw [Array.any_eq_false']
    intro e he
    obtain ⟨n,t,h⟩:=hk e he
    simp [DictEntry.refKey,h]
  have some_eq:(m name).isSome=es.any (·.key.isStr name):=by
    rw [← hm name]
    simp only [nsFind,findBy,Option.isSome_map]
    rw [Bool.eq_iff_iff]
    simp only [Array.find?_isSome,Array.any_eq_true]
    constructor
    · rintro ⟨z,hz,hp⟩
      obtain ⟨i,hi,rfl⟩:=Array.mem_iff_getElem.mp hz
      exact ⟨i,hi,hp⟩
    · rintro ⟨i,hi,hp⟩
      exact ⟨_,Array.getElem_mem hi,hp⟩
  have has:nsHas name o=pure (es.any (·.key.isStr name)):=by
    rw [nsHas_eq]
    unfold nsHasByArray
    rw [hd]
    show (if (es.any fun z=>z.key.isStr name)=true then _ else _)=_
    generalize (es.any fun z=>z.key.isStr name)=b
    cases b <;> simp [nor]
  unfold nsDel
  refine wpAny_bind (wpAny_loadPart ho ?_)
  rw [has]
  refine wpAny_bind (wpAny_pure ?_)
  rw [← some_eq]
  cases q:(m name).isSome
  · have z:=k s.heap m hn (fun _ _=>rfl) (.refl ..)
    rw [q] at z
    exact wpAny_pure z
  · refine wpAny_bind (wpAny_updatePart ho (wpAny_pure ?_))
    have key:∃ m',(s.heap.update a (Obj.dropName name)).Ns a m'∧∀ y,y≠name→m' y=m y:=by
      obtain ⟨cl,d,dt,sl⟩:=o
      subst hd
      cases hi:es.findIdx? (·.key.isStr name) with
      | none =>
        exact ⟨m,⟨_,_,ep,Heap.get?_update_self _ ho (by simp only [Obj.dropName_eq,Obj.dropNameByArray,hi] <;> rfl),(by simp only [Obj.dropName_eq,Obj.dropNameByArray,hi] <;> rfl),hk,hm⟩,fun _ _=>rfl⟩
      | some i =>
        refine ⟨_,⟨_,_,ep + 1,Heap.get?_update_self _ ho (by simp only [Obj.dropName_eq,Obj.dropNameByArray,hi] <;> rfl),(by simp only [Obj.dropName_eq,Obj.dropNameByArray,hi] <;> rfl),hk.erase i,fun _=>rfl⟩,fun y hy=>?_⟩
        rw [← hm y]
        obtain ⟨l⟩:=es
        have hi':l.findIdx? (·.key.isStr name)=some i:=by simpa using hi
        have z:=xfg hy l i hi'
        simp only [nsFind,findBy]
        have il:i < l.length:=by
          have:=List.findIdx?_eq_some_iff_findIdx_eq.mp hi'
          exact this.1
        have e1:(Array.mk l).eraseIdxIfInBounds i=Array.mk (l.eraseIdx i):=by
          simp [Array.eraseIdxIfInBounds,il]
        rw [e1]
        simp only [List.find?_toArray]
        rw [z]
    obtain ⟨m',n',e'⟩:=key
    have z:=k _ m' n' e' (Heap.SameBut.update ..)
    rw [q] at z
    exact z
theorem xj2 {n:Str} {pos:Pos} {m:Str→Option Value} {Q:Unit→Shared→Prop} (hl:env.kindOf n=some .local) (hn:s.heap.Ns env.locals m)
    (hp:(env.scope.kind == .class || (env.scope.kind == .module && env.locals != env.globals))=false)
    (h:∀ h' m',h'.Ns env.locals m'→(∀ y,y≠n→m' y=m y)→Heap.SameBut env.locals s.heap h'→Q () { s with heap:=h',toks:=s.toks + 1 }) :
    wpAny M A (do bindName env n .none; unbindBehindTheSuite env n pos) Q E s:=by
  refine wpAny_bind (wpAny_bindName (wpAny_storeName_local hl hn (fun h1 n1 s1=>?_) hp))
  unfold unbindBehindTheSuite
  refine wpAny_onRaise ?_
  unfold unbindName
  refine wpAny_bind (wpAny_point (wpAny_bind ?_))
  unfold deleteName
  simp only [hl,hp]
  rw [if_neg (by decide)]
  refine wpAny_bind (xmu n1 fun h2 m2 n2 e2 s2=>?_)
  simp only [if_true,Option.isSome_some,Bool.not_true,Bool.false_eq_true,if_false]
  refine wpAny_pure (wpAny_point (h h2 m2 n2 (fun y hy=>?_) (s1.trans s2)))
  rw [e2 y hy,if_neg hy]
end
end XL
set_option maxRecDepth 100000
namespace L2
open PySem PySem.Spec PyProof.Rows XL
variable {q0:Bool}
def XN (e C:Addr) (od:Option Addr):HO:=.ext fun h=>Xat h e (.ref C) od none
def XO (e C:Addr) (od:Option Addr):HO:=.ext fun h=>∃ ox vs,h.get? e=some ox∧ox.cls=.ref C∧ox.dict=od∧ox.data=.fields vs
def XD (dx:Addr) (fs:List (Str × V)):HO:=.ext fun h=>fs.length≤1000∧∃ mA,h.Ns1 dx mA∧(∀ f,RelO (fs.lookup f) (mA f))∧PySem.Within mA (fs.map (·.1))
section
variable {P:Program} {w:World} {H:Hp} {h:Heap} {e C dx:Addr} {od:Option Addr} {fs:List (Str × V)}
theorem xi0 (x:Xat h e (.ref C) od none):xal P w H h e (XN e C od):=by
 refine ⟨x,?_,fun h1 h2 z k=>?_⟩
 ·obtain ⟨oe,_,g,_⟩:=x
  exact ⟨oe,g⟩
 ·obtain ⟨oe,vs,g,c,o,d,sz,y⟩:=z
  rcases y with y | ⟨T,_,_,z,_⟩
  ·exact ⟨oe,vs,k oe g,c,o,d,sz,.inl y⟩
  ·cases z
theorem xmc (x:∃ ox vs,h.get? e=some ox∧ox.cls=.ref C∧ox.dict=od∧ox.data=.fields vs):xal P w H h e (XO e C od):=by
 refine ⟨x,?_,fun h1 h2 z k=>?_⟩
 ·obtain ⟨oe,_,g,_⟩:=x
  exact ⟨oe,g⟩
 ·obtain ⟨oe,vs,g,c,o,d⟩:=z
  exact ⟨oe,vs,k oe g,c,o,d⟩
theorem xkc {tb:Option Addr} (x:Xat h e (.ref C) od tb):∃ ox vs,h.get? e=some ox∧ox.cls=.ref C∧ox.dict=od∧ox.data=.fields vs:=by
 obtain ⟨oe,vs,g,c,o,d,_⟩:=x
 exact ⟨oe,vs,g,c,o,d⟩
theorem xnx {h1 h2:Heap} {m:Str→Option Value} (n:h1.Ns1 dx m) (k:∀ o,h1.get? dx=some o→h2.get? dx=some o):h2.Ns1 dx m:=by
 obtain ⟨o,es,ep,g,r⟩:=n
 exact ⟨o,es,ep,k o g,r⟩
theorem xly (hl:fs.length≤1000) {mA:Str→Option Value} (n:h.Ns1 dx mA) (r:∀ f,RelO (fs.lookup f) (mA f)) (wi:PySem.Within mA (fs.map (·.1))):xal P w H h dx (XD dx fs):=by
 refine ⟨⟨hl,mA,n,r,wi⟩,?_,fun h1 h2 z k=>?_⟩
 ·obtain ⟨o,es,ep,g,_⟩:=n
  exact ⟨o,g⟩
 ·obtain ⟨hl,mA,n,r,wi⟩:=z
  exact ⟨hl,mA,xnx n k,r,wi⟩
end
def CXo (P:Program) (w:World):CXT:=fun outer H s E u s'=>∃ e C od H' T,u=.ref e∧s'.os=s.os∧AllBare s'.gens∧Un (frs outer) [] H H' s.heap s'.heap∧HOk P w H' s'.heap ∧
 Xat s'.heap e (.ref C) od (some T)∧H' e=some (XO e C od)∧s.heap.objs.size≤T∧H' T=none∧E e C H'
def Tbs (X:Cx) (pins:List (Addr × Obj)) (H:Hp) (tb:Option Addr):Prop:=∀ T,tb=some T→X.s₀.heap.objs.size≤T∧H T=none∧T≠X.env.locals∧(∀ x c,X.env.cells.lookup x=some c→c≠T)∧∀ p ∈ X.pn ++ pins,p.1≠T
def xec (X:Cx) (E:St→XK):Prop:=∀ (pins:List (Addr × Obj)) (σ:St) (H:Hp) (s:Shared) (e C:Addr) (od tb:Option Addr),Inv X pins σ H s→Xat s.heap e (.ref C) od tb→H e=some (XO e C od) →
 Tbs X pins H tb→E σ e C H→X.xe (.ref e) s
section
variable {X:Cx} {pins:List (Addr × Obj)} {σ:St} {H:Hp} {s:Shared} {e C:Addr} {od tb:Option Addr}
theorem Inv.size_lt (I:Inv X pins σ H s) {b:Addr} (h:s.heap.objs.size≤b):H b=none∧b≠X.env.locals∧(∀ x c,X.env.cells.lookup x=some c→c≠b)∧∀ p ∈ X.pn ++ pins,p.1≠b:=by
 refine ⟨I.hok.fresh h,fun z=>?_,fun x c hc z=>?_,fun p hp z=>?_⟩
 ·rw [z] at h
  exact absurd I.lt (Nat.not_lt.mpr h)
 ·obtain ⟨v,o,ho,_⟩:=I.cell x c hc
  rw [z] at ho
  exact absurd (Heap.lt_size ho) (Nat.not_lt.mpr h)
 ·have g:=(I.pin p hp).1
  rw [z] at g
  exact absurd (Heap.lt_size g) (Nat.not_lt.mpr h)
theorem Inv.noted {h':Heap} {T:Addr} (I:Inv X pins σ H s) (he:H e=some (XO e C od)) (tbs:Tbs X pins H tb) (st:Stp (frs X.stack) e tb s.heap h') (x:Xat h' e (.ref C) od (some T)) :
    Inv X pins σ H { s with heap:=h' }:=by
  have neE:∀ b,H b=none→b≠e:=fun b n z=>by rw [z,he] at n; cases n
  have neT:∀ b u,H b=some u→tb≠some b:=fun b u hb z=>by rw [(tbs b z).2.1] at hb; cases hb
  have nfr:∀ b u,H b=some u→b ∉ frs X.stack:=fun b u hb z=>by rw [I.stkFree b z] at hb; cases hb
  have kp:∀ b u o,H b=some u→b≠e→s.heap.get? b=some o→h'.get? b=some o:=fun b u o hb ne g=>st.keep b o g ne (neT b u hb) (nfr b u hb)
  have un:Un (frs X.stack) tb.toList H H s.heap h':=by
    refine ⟨fun b o g n hb hx=>st.keep b o g (neE b n) (fun z=>hx (by rw [z]; simp)) hb,fun b o g n hb hx=>st.slot b o g hb,fun b o g n hx=>n,fun b o g hx=>?_,fun b xs z=>z,fun b o u z=>z,fun b ps z=>⟨#[],by rw [z]; simp⟩⟩
    by_cases b1:b=e
    · subst b1
      obtain ⟨oe,_,ge,_⟩:=x
      exact ⟨oe,ge⟩
    · by_cases b2:b ∈ frs X.stack
      · obtain ⟨sl,q⟩:=st.slot b o g b2
        exact ⟨_,q⟩
      · exact ⟨o,st.keep b o g b1 (fun z=>hx (by rw [z]; simp)) b2⟩
  have hok:HOk X.prog X.w H h':=fun b u hb=>by
    by_cases b1:b=e
    · subst b1
      rw [he] at hb
      cases hb
      exact xmc (xkc x)
    · refine (I.hok b u hb).stay (fun c v hc q=>?_) (fun c q=>q) fun c xs q=>q
      rcases hc with rfl | hc
      · exact kp c u v hb b1 q
      · exact kp c _ v hc (fun z=>by rw [z,he] at hc; cases hc) q
  refine I.call (g':=s.gens) (d':=s.drawn) (t':=s.toks) (ch:=tb.toList) un hok I.bare fun b hb=>?_
  have z:tb=some b:=by
    cases tb with
    | none=>simp at hb
    | some T'=>simp at hb; rw [hb]
  obtain ⟨a1,_,a3,a4,a5⟩:=tbs b z
  exact ⟨.inr a1,a3,a4,a5⟩
theorem xec.pass {E:St→XK} (t:xec X E):xcq (CXo X.prog X.w) X E:=fun pins σ H s u s' I h=>by
 obtain ⟨e,C,od,H',T,rfl,os,bare,un,hok,x,he,sT,hT,q⟩:=h
 have J:Inv X pins σ H' s':=I.call' os un hok bare (ch:=[]) fun b z=>absurd z (by simp)
 refine t pins σ H' s' e C od (some T) J x he (fun T' z=>?_) q
 cases z
 obtain ⟨_,a,b,c⟩:=I.size_lt sT
 exact ⟨Nat.le_trans I.sz sT,hT,a,b,c⟩
theorem xz:xcq (CXo X.prog X.w) X (fun _ _ _ _=>False):=fun pins σ H s u s' I h=>by
 obtain ⟨e,C,od,H',T,_,_,_,_,_,_,_,_,_,q⟩:=h
 exact q.elim
theorem xag {P:Program} {w:World} {K:PySem.W.Frag} {mg:Str→Option Value} {base:Heap} {N:List Str} {qual:Str} {scope:Scope} {f:Addr} {cd:Value} {A:Around} {outer:List Env} {s₀:Shared} {H₀:Hp} {E:XK} :
    xec (cxOf q0 (CXo P w) P w K mg base N qual scope f cd A outer s₀ H₀ E) (fun _=>E):=fun pins σ H s e C od tb I x he tbs q=>by
  show wpAny (model P w) _ (leaving _ (.ref e)) _ _ s
  unfold leaving
  refine wpAny_bind (xjv (L:=s₀.heap.objs.size) I.ok.frames I.stack rfl x fun h' T st sT x'=>?_)
  have J:=I.noted he tbs st x'
  exact ⟨e,C,od,H,T,rfl,J.os,J.bare,J.base,J.hok,x',he,Nat.le_trans I.sz sT,I.hok.fresh sT,q⟩
end
end L2
set_option maxRecDepth 100000
namespace XL
open PySem PySem.W
def xjh (e:DictEntry):Bool:=match e.key with | .str _ _=>true | _=>false
def xdm (K:Frag) (ns:Addr):Bool:=match K.lookup ns with
 | some ⟨_,_,.dict es _,_⟩=>es.toList.all xjh && !(es.toList.any (·.key.isStr "__init__"))
 | _=>false
def xfc (K:Frag):List Value→Bool
  | []=>false
  | .ref a :: r=>(match K.lookup a with
      | some ⟨_,_,.cls cd,_⟩=>xdm K cd.ns && xfc K r
      | _=>false)
  | v :: r=>(v :: r) == vErr
theorem xl2 {K:Frag} {h:Heap} {ns:Addr} (X:K.In h) (e:xdm K ns=true):∃ mA,h.Ns ns mA∧mA "__init__"=none:=by
 unfold xdm at e
 split at e
 ·rename_i es n sl ho
  obtain ⟨e1,e2⟩:=Bool.and_eq_true_iff.mp e
  refine ⟨_,⟨_,es,_,X _ _ ho,rfl,fun z hz=>?_,fun _=>rfl⟩,?_⟩
  ·have q:=List.all_eq_true.mp e1 z (Array.mem_toList_iff.mpr hz)
   unfold xjh at q
   split at q
   ·rename_i a b c
    exact ⟨a,b,c⟩
   ·cases q
  ·unfold nsFind findBy
   rw [← Array.find?_toList]
   have z:es.toList.find? (fun e=>e.key.isStr "__init__")=none:=by
    rw [List.find?_eq_none]
    intro y hy q
    rw [Bool.not_eq_true',List.any_eq_false] at e2
    exact e2 y hy q
   rw [z]
   rfl
 ·cases e
theorem xhu {K:Frag} {h:Heap} (X:K.In h):∀ {l:List Value},xfc K l=true→OwnTail h vErr l
 | [],e=>by cases e
 | v :: r,e=>by
  have last:((v :: r:List Value) == vErr)=true→OwnTail h vErr (v :: r):=fun z=>by
   rw [eq_of_beq z]
   exact .base
  cases v with
  | ref a =>
   unfold xfc at e
   split at e
   ·rename_i c d cd sl ho
    obtain ⟨e1,e2⟩:=Bool.and_eq_true_iff.mp e
    obtain ⟨mA,n,z⟩:=xl2 X e1
    exact .own (X _ _ ho) n z (xhu X e2)
   ·cases e
  | _=>exact last e
def xau (K:Frag) (C:Addr):Bool:=match K.lookup C with
 | some ⟨.type "type",_,.cls cd,sl⟩=>(match cd.mro,sl.toList with
  | .ref C' :: bm,[_,_,_,_,some (.builtin i),_]=>C' == C && !cd.hasDel && i == "ValueError.__new__" && xfc K bm
  | _,_=>false)
 | _=>false
theorem xd9 {K:Frag} {h:Heap} {C:Addr} (X:K.In h) (q:xau K C=true):∃ nm qn N bs bm hz sn sub ab col dd k0 k1 k2 k3 k5,
    h.get? C=some (excClassObj nm qn C N bs bm hz sn sub ab col dd k0 k1 k2 k3 k5 "ValueError.__new__")∧OwnTail h vErr bm:=by
  unfold xau at q
  split at q
  · rename_i dd cd sl ho
    split at q
    · rename_i C' bm k0 k1 k2 k3 n k5 hm hs
      simp only [Bool.and_eq_true,beq_iff_eq,Bool.not_eq_true'] at q
      obtain ⟨⟨⟨rfl,hdel⟩,rfl⟩,ht⟩:=q
      obtain ⟨nm,bs,mro,ns,qn,hd,sn,sub,ab,col,del⟩:=cd
      dsimp only at hm hdel
      subst hm hdel
      have hsl:sl=#[k0,k1,k2,k3,some (.builtin "ValueError.__new__"),k5]:=by
        obtain ⟨l⟩:=sl
        simp only at hs
        rw [hs]
      subst hsl
      exact ⟨nm,qn,ns,bs,bm,hd,sn,sub,ab,col,dd,k0,k1,k2,k3,k5,X _ _ ho,xhu X ht⟩
    · cases q
  · cases q
end XL
namespace L2
open PySem PySem.Spec PyProof.Rows XL
variable {q0:Bool}
section
variable {X:Cx} {pins:List (Addr × Obj)} {σ:St} {H:Hp} {s:Shared} {a C dx:Addr} {od:Option Addr} {fs:List (Str × V)} {f:Str} {v y:V} {u:Value} {A:Around} {E:Value→Shared→Prop}
theorem xgk (I:Inv X pins σ H s) (e:H a=some (XN a C od)):Xat s.heap a (.ref C) od none:=(I.hok a _ e).1
theorem xl9 (I:Inv X pins σ H s) (e:H a=some (XO a C od)):∃ ox vs,s.heap.get? a=some ox∧ox.cls=.ref C∧ox.dict=od∧ox.data=.fields vs:=(I.hok a _ e).1
theorem xgm (I:Inv X pins σ H s) (e:H dx=some (XD dx fs)):fs.length≤1000∧∃ mA,s.heap.Ns1 dx mA∧(∀ f,RelO (fs.lookup f) (mA f))∧PySem.Within mA (fs.map (·.1)):=(I.hok dx _ e).1
theorem xc3 {o:Obj} {vs:Array Value} (d:o.data=.fields vs):PySem.W.notCls o=true:=by
 unfold PySem.W.notCls
 rw [d]
theorem xk4 {Q:Unit→Shared→Prop} (I:Inv X pins σ H s) (e:H a=some (XN a C none)) (c:XC X.K C) (n:PySem.W.findIn X.K (.ref C) f=some none) (ry:RelV y u)
    (h:∀ dx s',H dx=none→Inv X pins σ (upd (upd H dx (XD dx [(f,y)])) a (XN a C (some dx))) s'→Q () s'):wpAny (model X.prog X.w) A (setAttr (.ref a) f u) Q E s:=by
  obtain ⟨oe,vs,g,ce,oo,de,sz,tb⟩:=xgk I e
  refine xn9 I.kIn c g ce (xc3 de) oo (Obj.isFreed_of_fields de) n fun h' g' n' k sz'=>h s.heap.objs.size _ (I.hok.fresh (Nat.le_refl _)) ?_
  have hN:H s.heap.objs.size=none:=I.hok.fresh (Nat.le_refl _)
  have nad:a≠s.heap.objs.size:=fun z=>by rw [z,hN] at e; cases e
  have na:∀ b,H b=none→b≠a:=fun b nb z=>by rw [z,e] at nb; cases nb
  have nd:∀ b o,s.heap.get? b=some o→b≠s.heap.objs.size:=fun b o gb=>Nat.ne_of_lt (Heap.lt_size gb)
  have nd':∀ b u,H b=some u→b≠s.heap.objs.size:=fun b u hb z=>by rw [z,hN] at hb; cases hb
  have at1:∀ b,b≠a→b≠s.heap.objs.size→upd (upd H s.heap.objs.size (XD s.heap.objs.size [(f,y)])) a (XN a C (some s.heap.objs.size)) b=H b:=fun b b1 b2=>by rw [xj b1,xj b2]
  have xnew:Xat h' a (.ref C) (some s.heap.objs.size) none:=⟨_,vs,g',ce,rfl,de,sz,by
    rcases tb with t | ⟨T,_,_,z,_⟩
    · exact .inl t
    · cases z⟩
  have own1:∀ b c,H c=some (.own b)→c≠a:=fun b c hc z=>by rw [z,e] at hc; cases hc
  have tup1:∀ c xs,H c=some (.tup xs)→c≠a:=fun c xs hc z=>by rw [z,e] at hc; cases hc
  refine I.un ⟨fun b o gb nb _ _=>k b o (na b nb) gb,fun b o gb nb _ _=>⟨o.slots,k b o (na b nb) gb⟩,fun b o gb nb _=>?_,fun b o gb _=>?_,fun b xs z=>?_,fun b o w z=>?_,fun b ps z=>⟨#[],?_⟩⟩ fun b w hb=>?_
  · rw [at1 b (na b nb) (nd b o gb)]; exact nb
  · by_cases b1:b=a
    · exact ⟨_,by rw [b1]; exact g'⟩
    · exact ⟨o,k b o b1 gb⟩
  · rw [at1 b (tup1 b xs z) (nd' b _ z)]; exact z
  · rw [at1 b (fun q=>by rw [q,e] at z; cases z) (nd' b _ z)]; exact z
  · rw [at1 b (fun q=>by rw [q,e] at z; cases z) (nd' b _ z),z]; simp
  · by_cases b1:b=a
    · subst b1
      rw [xf] at hb
      cases hb
      exact xi0 xnew
    · rw [xj b1] at hb
      by_cases b2:b=s.heap.objs.size
      · subst b2
        rw [xf] at hb
        cases hb
        refine xly (by show 1≤1000; decide) n' (fun g=>?_) fun g hg=>?_
        · show RelO (List.lookup g [(f,y)]) (if g=f then some u else none)
          by_cases q:g=f
          · rw [if_pos q,q]
            simp only [List.lookup_cons,beq_self_eq_true]
            exact ry
          · rw [if_neg q]
            simp only [List.lookup_cons,beq_eq_false_iff_ne.mpr q]
            exact trivial
        · by_cases q:g=f
          · simp [q]
          · exact absurd (show (if g=f then some u else none)=none from if_neg q) hg
      · rw [xj b2] at hb
        refine (I.hok b w hb).stay (fun c v hc q=>?_) (fun c q=>?_) fun c xs q=>?_
        · rcases hc with rfl | hc
          · exact k c v b1 q
          · exact k c v (own1 b c hc) q
        · rw [at1 c (own1 b c q) (nd' c _ q)]; exact q
        · rw [at1 c (tup1 c xs q) (nd' c _ q)]; exact q
theorem xld {Q:Unit→Shared→Prop} (I:Inv X pins σ H s) (e:H a=some (XN a C (some dx))) (ed:H dx=some (XD dx fs)) (hl:fs.length < 1000) (c:XC X.K C) (n:PySem.W.findIn X.K (.ref C) f=some none) (ry:RelV y u)
    (h:∀ s',Inv X pins σ (upd H dx (XD dx (putF f y fs))) s'→Q () s'):wpAny (model X.prog X.w) A (setAttr (.ref a) f u) Q E s:=by
  obtain ⟨oe,vs,g,ce,oo,de,sz,tb⟩:=xgk I e
  obtain ⟨_,mA,nm,r,wi⟩:=xgm I ed
  have hz:(fs.map (·.1)).length≤sizeLine:=by rw [List.length_map,sizeLine_eq]; omega
  refine xos I.kIn c g ce (xc3 de) oo nm n wi hz fun h' n' sb=>h _ ?_
  have hd:∃ o,h'.get? dx=some o:=let ⟨o,_,_,e',_⟩:=n'; ⟨o,e'⟩
  refine I.write (x:=dx) (e:=dx) (by rw [ed]; exact True.intro) (.inl rfl) (fun b q hb z=>(sb.2 b hb).trans z) hd ?_
  refine xly (Nat.le_trans (xda f y fs) hl) n' (fun g=>?_) fun g hg=>?_
  · show RelO ((putF f y fs).lookup g) (if g=f then some u else mA g)
    rw [xc9]
    by_cases q:g=f
    · rw [if_pos q,if_pos q]; exact ry
    · rw [if_neg q,if_neg q]; exact r g
  · by_cases q:g=f
    · rw [q]; exact (xcn f y fs).1
    · refine (xcn f y fs).2 g (wi g fun z=>hg ?_)
      show (if g=f then some u else mA g)=none
      rw [if_neg q]; exact z
theorem xmv {b:Bool} {Q:Value→Shared→Prop} (I:Inv X pins σ H s) (e:H a=some (XO a C (some dx))) (ed:H dx=some (XD dx fs)) (c:XC X.K C) (n:PySem.W.findIn X.K (.ref C) f=some none) (l:fs.lookup f=some v)
    (h:∀ u s',Inv X pins σ H s'→RelV v u→Q u s'):wpAny (model X.prog X.w) A (getAttr (.ref a) f b) Q E s:=by
  obtain ⟨ox,vs,g,ce,oo,de⟩:=xl9 I e
  obtain ⟨_,mA,nm,r,wi⟩:=xgm I ed
  obtain ⟨u,hu,ru⟩:=RelO.some_of (v:=v) (o:=mA f) (by rw [← l]; exact r f)
  obtain ⟨o1,g1,hl⟩:=xfu nm
  exact xpr I.kIn c g ce (xc3 de) oo g1 (by rw [hl,hu]) n (xf3 ru) (h u _ (I.tok _) ru)
end
def sXF (K:PySem.W.Frag) (ta tv:TE) (f:Str):TS:=fun D σ H=>tv σ H fun y H1=>ta σ H1 fun x H2=>∃ a C,x=.ref a∧XC K C∧PySem.W.findIn K (.ref C) f=some none ∧
  ((H2 a=some (XN a C none)∧∀ dx,H2 dx=none→D.nx σ (upd (upd H2 dx (XD dx [(f,y)])) a (XN a C (some dx)))) ∨
   ∃ dx fs,H2 a=some (XN a C (some dx))∧H2 dx=some (XD dx fs)∧fs.length < 1000∧D.nx σ (upd H2 dx (XD dx (putF f y fs))))
def tXF (K:PySem.W.Frag) (ta:TE) (f:Str):TE:=fun σ H Q=>ta σ H fun x H1=>∃ a C dx fs v,x=.ref a∧H1 a=some (XO a C (some dx))∧H1 dx=some (XD dx fs)∧XC K C∧PySem.W.findIn K (.ref C) f=some none∧fs.lookup f=some v∧Q v H1
section
variable {X:Cx} {o e value:Expr} {f:Str} {pos pos' tpos:Pos} {ta tv te:TE}
theorem xb1 (ha:PE X o ta) (hv:PE X value tv) (hs:swapsWith value (some (.Attribute o f pos')) pos.line X.env=pure false):PS X (.Assign [.Attribute o f pos'] value pos) (sXF X.K ta tv f):=by
 intro pins s σ H D I h
 refine plainObj_wpAny_Assign_Attribute (thn (hv pins s σ H _ I h) fun u s1 ⟨y,H1,I1,ry,q⟩=>thn (ha pins s1 σ H1 _ I1 q) fun ov s2 ⟨x,H2,I2,rx,a,C,ex,c,n,q2⟩=>?_) hs
 subst ex
 obtain rfl:ov=Value.ref a:=rx
 rcases q2 with ⟨ea,q2⟩ | ⟨dx,fs,ea,ed,hl,q2⟩
 ·exact xk4 I2 ea c n ry fun dx s3 nd I3=>⟨σ,_,I3,q2 dx nd⟩
 ·exact xld I2 ea ed hl c n ry fun s3 I3=>⟨σ,_,I3,q2⟩
theorem xb2 (he:PE X e te) (hb:attributeBase e f X.env (eval e X.env)=eval e X.env):PE X (.Attribute e f pos) (tXF X.K te f):=by
 intro pins s σ H Q I h
 refine xhx hb (thn (he pins s σ H _ I h) fun u s1 ⟨x,H1,I1,rx,a,C,dx,fs,v,ex,ea,ed,c,n,l,q⟩=>?_)
 subst ex
 obtain rfl:u=Value.ref a:=rx
 exact xmv I1 ea ed c n l fun u' s2 I2 ru=>⟨v,H1,I2,ru,q⟩
end
structure XMk (K:PySem.W.Frag) (C f:Addr):Prop where
 makes:xau K C=true
 init:PySem.W.findIn K (.ref C) "__init__"=some (some (.ref f))
 fn:PySem.W.isFn K (.ref f)=true
 kp:PySem.W.keepIn K (.ref C)=true
def xo5 (C:Addr) (sp:Sp) (dvs:List V) (t:TA):TE:=fun σ H Q=>t σ H fun vs H1=>vs.length≤1000∧∀ e,H1 e=none →
 sp (.ref e :: (vs ++ dvs)) (upd H1 e (XN e C none)) (fun v H2=>v=.non∧Q (.ref e) H2) (fun _ _ _=>False)
def xn7 (K:PySem.W.Frag) (te:TE) (E:St→XK):TS:=fun D σ H=>te σ H fun v H1=>∃ e C od,v=.ref e∧H1 e=some (XN e C od)∧xau K C=true∧E σ e C (upd H1 e (XO e C od))
section
variable {X:Cx} {k:Nat} {f C:Addr} {fd:FuncData} {ps:List Str} {sp:Sp} {dvs:List V} {ds:List Value} {E:St→XK} {x m:Str} {p pos apos:Pos} {e o:Expr} {es:List Expr} {ta te:TE} {t:TA}
theorem xj9 {pins:List (Addr × Obj)} {σ:St} {H:Hp} {s:Shared} {Q:VK} {us:List Value} {vs:List V} (M:XMk X.K C f) (F:FnOk q0 X.prog X.w X.K X.mg X.base (CXo X.prog X.w) k f fd ps sp) (hr:Room q0 (k + 1) X.A) (hb:xae X.K fd ps ds) (hd:Vals dvs ds)
    (I:Inv X pins σ H s) (r:Vals vs us) (hl:vs.length≤1000)
    (h:∀ e,H e=none→sp (.ref e :: (vs ++ dvs)) (upd H e (XN e C none)) (fun v H2=>v=.non∧Q (.ref e) H2) (fun _ _ _=>False)) :
    wpAny (model X.prog X.w) X.A (call (.ref C) us) (EP X pins σ Q) X.xe s:=by
  obtain ⟨nm,qn,N,bs,bm,hz,sn,sub,ab,col,dd,k0,k1,k2,k3,k5,gC,T⟩:=xd9 I.kIn M.makes
  have ty:PySem.W.typeIn X.K (.ref f)=some (.type "function"):=beq_iff_eq.mp M.fn
  obtain ⟨oI,gI,cI⟩:=Option.map_eq_some_iff.mp (show (X.K.lookup f).map (·.cls)=some (.type "function") from ty)
  have lu:us.length≤sizeLine:=by
    have:=r.length
    rw [← this,sizeLine_eq]
    omega
  obtain ⟨hh,gg,d,tk,os⟩:=s
  refine xih PySem.F.excBase_ValueError T gC (fun A' Q' E' s' kk q=>PySem.W.looks_findIn I.kIn M.init A' Q' E' s' kk q) (I.kIn _ _ gI) cI lu fun h' e hm se=>?_
  have hn:H e=none:=I.hok.fresh se
  obtain ⟨t0,ge,_,_⟩:=hm.there
  have xa:Xat h' e (.ref C) none none:=⟨_,_,ge,rfl,rfl,rfl,by simp,.inl ⟨rfl,rfl⟩⟩
  have I2:Inv X pins σ (upd H e (XN e C none)) ⟨h',gg,d,tk,os⟩:=I.laid (t':=tk) hm.keeps se (xi0 xa)
  have hq:=h e hn
  have r2:Vals (V.ref e :: (vs ++ dvs)) (Value.ref e :: (us ++ ds)):=.cons rfl (r.append hd)
  have hl2:(Value.ref e :: us ++ ds).length=ps.length:=by
    have z:=r2.length
    rw [F.len _ _ _ _ hq] at z
    exact z.symm
  refine wpAny_call (codeAny_mono (F.run _ X.stack _ _ ⟨Value.ref e :: us,[]⟩ (Value.ref e :: (us ++ ds)) _ _ (fun _ _ _=>False) (hr.make C us [])
    (I2.env0.make C us []) (hb _ (Value.ref e :: us) I2.kIn hl2) r2 hq) fun r s' hq'=>?_)
  cases r with
  | error e'=>exact (xz pins σ _ _ e' s' I2 hq')
  | ok fl =>
    cases fl with
    | ret u =>
      obtain ⟨v,H',I3,rv,ev,q3⟩:=I2.after hq'
      subst ev
      exact ⟨rv,⟨V.ref e,H',I3,rfl,q3⟩⟩
    | next=>exact False.elim hq'
    | brk=>exact False.elim hq'
    | cont=>exact False.elim hq'
theorem xb5 (M:XMk X.K C f) (F:FnOk q0 X.prog X.w X.K X.mg X.base (CXo X.prog X.w) k f fd ps sp) (hr:Room q0 (k + 1) X.A) (hg:Gl X x) (hm:X.mg x=some (.ref C)) (hb:xae X.K fd ps ds) (hd:Vals dvs ds)
    (ha:PA X (e :: es) t) (hdb:(x == ("__debug__":Str))=false:=by decide) (he:starEach (e :: es) X.env=(false,eval e X.env) :: starEach es X.env:=by rfl) (hpl:(backTo pos (starEach es X.env)).any (·.1)=false:=by rfl) :
    PE X (.Call (.Name x p) (e :: es) [] pos) (xo5 C sp dvs t):=by
  intro pins s σ H Q I h
  refine wpAny_Call_Name_kw (xcv I hg hm ?_ hdb)
  refine PySem.W.callWith_K (h₀:=X.base) I.ok.mod.kin M.kp (thn (ha pos pins s σ H _ I h) fun us s1 ⟨vs,H1,I1,r,hl,q⟩=>⟨I1.kIn,?_⟩) he hpl
  exact xj9 M F hr hb hd I1 r hl q
theorem Inv.toXO {pins:List (Addr × Obj)} {σ:St} {H:Hp} {s:Shared} {e:Addr} {od:Option Addr} (I:Inv X pins σ H s) (h:H e=some (XN e C od)):Inv X pins σ (upd H e (XO e C od)) s:=by
 have x:=xgk I h
 obtain ⟨oe,_,ge,_⟩:=id x
 exact I.write (x:=e) (e:=e) (t':=s.toks) (by rw [h]; exact True.intro) (.inl rfl) (fun b u _ z=>z) ⟨oe,ge⟩ (xmc (xkc x))
theorem xgc {h:Heap} {bm:List Value} (T:OwnTail h vErr bm):bm.contains (.type "BaseException")=true:=T.hasType (by decide +kernel)
theorem xby (hh:X.A.handled=none) (tk:xec X E) (he:PE X e te):PS X (.Raise (some e) none pos) (xn7 X.K te E):=by
 intro pins s σ H D I h
 rw [arm_exec_Raise]
 refine wpAny_bind (wpAny_standAt ?_)
 show wpAny _ _ (raiseStmt X.env (some (do let v ← eval e X.env; standAt pos; pure v)) none) _ _ s
 refine xna hh (wpAny_bind (thn (he pins s σ H _ I h) fun v s1 ⟨x,H1,I1,rx,a,C,od,ex,ea,mk,q⟩=>wpAny_bind (wpAny_standAt (wpAny_pure ?_))))
 subst ex
 obtain rfl:v=Value.ref a:=rx
 obtain ⟨nm,qn,N,bs,bm,hz,sn,sub,ab,col,dd,k0,k1,k2,k3,k5,gC,T⟩:=xd9 I1.kIn mk
 have x:=xgk I1 ea
 exact ⟨a,od,C,nm,qn,N,bs,bm,hz,sn,sub,ab,col,dd,k0,k1,k2,k3,k5,_,rfl,xgc T,gC,x,tk pins σ _ s1 a C od none (I1.toXO ea) x xf (fun T' z=>by cases z) q⟩
end
end L2
set_option maxRecDepth 100000
namespace XL
open PySem PySem.W
section
variable {M:Model} {A:Around} {E:Value→Shared→Prop} {s:Shared}
theorem xlj {fs:List Addr} {e T:Addr} {cls:Value} {od:Option Addr} {Q:Unit→Shared→Prop} (x:Xat s.heap e cls od (some T)) (nf:∀ b ∈ fs,b≠T)
    (k:∀ h',Stp fs e (some T) s.heap h'→Xat h' e cls od (some T)→Q () { s with heap:=h' }):wpAny M A (setFlight (.ref e) none) Q E s:=by
  obtain ⟨oe,vs,ge,ce,oo,de,se,y⟩:=x
  rcases y with ⟨z,_⟩ | ⟨T',oT,ts,z,h1,nTe,gT,dT,h3⟩
  · cases z
  · cases z
    unfold setFlight
    refine wpAny_bind (wpAny_field ge de h1 ?_)
    rw [if_pos (show (Value.ref T != Value.none)=true from by simp)]
    have z3:3 < ts.size:=(Array.getElem?_eq_some_iff.mp h3).1
    have ot:∀ b,b≠T→(s.heap.update T (Obj.mapFields (·.setIfInBounds 3 ((none:Option Addr).elim Value.none fun f=>rawInt f)))).get? b=s.heap.get? b:=fun b hb=>Heap.get?_update_other _ _ (Ne.symm hb)
    refine wpAny_setField gT dT z3 (k _ ⟨fun b o hb _ bt _=>(ot b fun q=>bt (congrArg some q.symm)).trans hb,fun b o hb bf=>⟨o.slots,(ot b (nf b bf)).trans hb⟩⟩ ?_)
    exact ⟨oe,vs,(ot e (Ne.symm nTe)).trans ge,ce,oo,de,se,.inr ⟨T,_,_,rfl,h1,nTe,Heap.get?_update_self _ gT (Obj.isFreed_of_fields (Obj.data_mapFields dT _)),Obj.data_mapFields dT _,by simp [z3]⟩⟩
variable {nm qn nm' qn':Str} {C N C' N':Addr} {bs bm bs' bm':List Value} {hz hz':Bool} {sn sn':List Str} {sub sub':List Value} {ab ab':Bool} {col col':Option Bool} {dd dd':Option Addr} {k0 k1 k2 k3 k5 j0 j1 j2 j3 j5:Option Value} {ni ni':String}
theorem xhn {h:Heap} {g:Array GenState} {d:Drawn} {t:Nat} {os:OsState} {e:Addr} {oe:Obj} {b:Bool} {Q:Bool→Shared→Prop}
    (gC:h.get? C=some (excClassObj nm qn C N bs bm hz sn sub ab col dd k0 k1 k2 k3 k5 ni)) (gC':h.get? C'=some (excClassObj nm' qn' C' N' bs' bm' hz' sn' sub' ab' col' dd' j0 j1 j2 j3 j5 ni'))
    (ge:h.get? e=some oe) (ce:oe.cls=.ref C) (bB:bm'.contains (.type "BaseException")=true) (hm:(Value.ref C :: bm).contains (.ref C')=b)
    (k:Q b ⟨h,g,d,t,os⟩):wpAny M A (excMatches (.ref e) (.ref C')) Q E ⟨h,g,d,t,os⟩:=by
  have mB:(Value.ref C' :: bm').contains (.type "BaseException")=true:=by rw [List.contains_cons,bB,Bool.or_true]
  have nt:=tc_notTuple
  unfold excMatches
  repeat (first | (with_reducible refine wpAny_loadPart_at ge ?_; rw [ce]) | with_reducible refine wpAny_loadPart_at gC' ?_ | (with_reducible refine wpAny_isSubtype_exc gC' ?_; rw [mB]) | (with_reducible refine wpAny_isSubtype_exc gC ?_; rw [hm]) | wp_step)
  cases b <;> (wp_walk; exact k)
end
end XL
namespace L2
open PySem PySem.Spec PyProof.Rows XL
variable {q0:Bool}
abbrev Cx.tryc (X:Cx) (pins:List (Addr × Obj)) (xe:Value→Shared→Prop):Cx:={ X with xe:=xe,pn:=X.pn ++ pins }
abbrev Cx.hand (X:Cx) (e:Addr):Cx:={ X with A:=X.A.mark (some (.ref e)),calm:=false,xe:=fun _ _=>False }
section
variable {X:Cx} {pins:List (Addr × Obj)} {σ:St} {H:Hp} {s:Shared}
theorem Cx.Ok.tryc (ok:X.Ok) (pins:List (Addr × Obj)) (xe:Value→Shared→Prop):(X.tryc pins xe).Ok :=
 ⟨ok.mod,ok.kind,ok.glob,ok.blt,ok.above,ok.inj,ok.has,ok.cab,ok.hd,ok.frames,ok.stk,ok.exf,ok.bs,ok.bsz,ok.noex,ok.exfs,ok.funs,ok.frf⟩
theorem Cx.Ok.untryc {xe:Value→Shared→Prop} (ok:(X.tryc pins xe).Ok):X.Ok :=
 ⟨ok.mod,ok.kind,ok.glob,ok.blt,ok.above,ok.inj,ok.has,ok.cab,ok.hd,ok.frames,ok.stk,ok.exf,ok.bs,ok.bsz,ok.noex,ok.exfs,ok.funs,ok.frf⟩
theorem Cx.Ok.hand (ok:X.Ok) (e:Addr):(X.hand e).Ok :=
 ⟨ok.mod,ok.kind,ok.glob,ok.blt,ok.above,ok.inj,ok.has,ok.cab,(fun z=>nomatch z),ok.frames,ok.stk,ok.exf,ok.bs,ok.bsz,ok.noex,ok.exfs,ok.funs,ok.frf⟩
theorem Inv.tryc (I:Inv X pins σ H s) (xe:Value→Shared→Prop):Inv (X.tryc pins xe) [] σ H s :=
 ⟨I.ok.tryc pins xe,I.os,I.bare,I.base,I.loc,I.cell,I.free,I.freeC,fun p hp=>I.pin p (by simpa using hp),I.hok,I.len⟩
theorem Inv.untryc {xe:Value→Shared→Prop} {pl:List (Addr × Obj)} (I:Inv (X.tryc pins xe) pl σ H s):Inv X pins σ H s :=
 ⟨I.ok.untryc,I.os,I.bare,I.base,I.loc,I.cell,I.free,I.freeC,fun p hp=>I.pin p (List.mem_append_left _ hp),I.hok,I.len⟩
theorem Inv.hand (I:Inv X pins σ H s) (e:Addr):Inv (X.hand e) pins σ H s :=
 ⟨I.ok.hand e,I.os,I.bare,I.base,I.loc,I.cell,I.free,I.freeC,I.pin,I.hok,I.len⟩
theorem Inv.unhand {e:Addr} (ok:X.Ok) (I:Inv (X.hand e) pins σ H s):Inv X pins σ H s :=
 ⟨ok,I.os,I.bare,I.base,I.loc,I.cell,I.free,I.freeC,I.pin,I.hok,I.len⟩
theorem Inv.gone {h':Heap} {m m':Str→Option Value} {n:Str} {j t':Nat} (I:Inv X pins σ H s) (hN:X.N.Nodup) (hj:X.N[j]?=some n) (hl:X.env.scope.names.lookup n=some .local)
    (hm:s.heap.Ns X.env.locals m) (hv:∀ (i:Nat) (x:Str) (v:V),X.N[i]?=some x→σ[i]?=some (some v)→Vis X.env.scope x→∃ u,RelV v u∧Look X.env s.heap m x u)
    (n':h'.Ns X.env.locals m') (e':∀ y,y≠n→m' y=m y) (sb:Heap.SameBut X.env.locals s.heap h'):Inv X pins (σ.set j none) H { s with heap:=h',toks:=t' }:=by
  have kp:∀ b o,b≠X.env.locals→s.heap.get? b=some o→h'.get? b=some o:=fun b o nb g=>(sb.2 b nb).trans g
  have neL:∀ b o,X.s₀.heap.get? b=some o→b≠X.env.locals:=fun b o e=>Nat.ne_of_lt (Nat.lt_of_lt_of_le (Heap.lt_size e) I.ok.above)
  have trk:∀ b u,H b=some u→b≠X.env.locals:=fun b u hb z=>by rw [z,I.free] at hb; cases hb
  refine ⟨I.ok,I.os,I.bare,⟨fun b o e n hb hx=>kp b o (neL b o e) (I.base.keep b o e n hb hx),fun b o e n hb hx=>?_,fun b o e n hx=>I.base.free b o e n hx,fun b o e hx=>?_,I.base.tups,I.base.frzs,I.base.tbls⟩,
    ⟨m',n',fun i x v e1 e2 e3=>?_⟩,fun x c e=>?_,I.free,I.freeC,fun p hp=>?_,fun b u hb=>?_,by rw [List.length_set]; exact I.len⟩
  · obtain ⟨sl,q⟩:=I.base.slot b o e n hb hx
    exact ⟨sl,kp b _ (neL b o e) q⟩
  · obtain ⟨o',q⟩:=I.base.there b o e hx
    exact ⟨o',kp b o' (neL b o e) q⟩
  · have nij:i≠j:=fun z=>by
      subst z
      have hl2:i < σ.length:=by rw [I.len]; exact (List.getElem?_eq_some_iff.mp hj).1
      rw [List.getElem?_set_self hl2] at e2
      cases e2
    rw [List.getElem?_set_ne (Ne.symm nij)] at e2
    have nx:x≠n:=fun z=>nij (xe0 hN e1 (by rw [z]; exact hj))
    obtain ⟨u,r,l⟩:=hv i x v e1 e2 e3
    refine ⟨u,r,?_⟩
    rcases l with ⟨k,z⟩ | ⟨k,c,e,o,ho,hd⟩
    · exact .inl ⟨k,by rw [e' x nx]; exact z⟩
    · exact .inr ⟨k,c,e,o,kp c o (I.cne x c e) ho,hd⟩
  · obtain ⟨v,o,ho,hd⟩:=I.cell x c e
    exact ⟨v,o,kp c o (I.cne x c e) ho,hd⟩
  · obtain ⟨e,a,ne,nf,d⟩:=I.pin p hp
    exact ⟨kp p.1 p.2 ne e,a,ne,nf,d⟩
  · refine (I.hok b u hb).stay (fun c v hc q=>?_) (fun c q=>q) fun c xs q=>q
    rcases hc with rfl | hc
    · exact kp c v (trk c u hb) q
    · exact kp c v (trk c _ hc) q
end
def endH (D:Ends) (j:Nat):Ends:={ nx:=fun σ H=>D.nx (σ.set j none) H,rt:=D.rt,bk:=fun σ H=>D.bk (σ.set j none) H,ct:=fun σ H=>D.ct (σ.set j none) H }
def tTry (K:PySem.W.Frag) (C0:Addr) (j:Nat) (E:St→XK) (tb th:TS):TS:=fun D σ H=>tb D σ H∧∀ σ' e C H',E σ' e C H'→xau K C=true∧PySem.W.mroIn K C (.ref C0)=some true∧th (endH D j) (σ'.set j (some (.ref e))) H'
section
variable {X:Cx} {pos np hpos:Pos} {body hbody:List Stmt} {b0:Stmt} {cx n:Str} {C0:Addr} {j:Nat} {E:St→XK} {tb th:TS}
theorem xns (hg:Gl X cx) (hm:X.mg cx=some (.ref C0)) (mk0:xau X.K C0=true) (hN:X.N.Nodup) (hj:X.N[j]?=some n) (hl:X.env.scope.names.lookup n=some .local) (hf:X.env.frame=some X.env.locals) (hst:X.stack=X.env :: X.outer)
    (hb:∀ pins xe,xec (X.tryc pins xe) E→PSs (X.tryc pins xe) body tb) (hh:∀ e,PSs (X.hand e) (b0 :: hbody) th) (hdb:(cx == ("__debug__":Str))=false:=by decide) :
    PS X (.Try body [.ExceptHandler (some (.Name cx np)) (some n) (b0 :: hbody) hpos] [] [] pos) (tTry X.K C0 j E tb th):=by
  intro pins s σ H D I ⟨h1,h2⟩
  refine wpAny_Try_except ?_
  have ok:=I.ok
  have T:xec (X.tryc pins (fun e s₁=>wpAny (model X.prog X.w) X.A (noteFrame e X.env) (fun _ s₂=>wpAny (model X.prog X.w) X.A (setFlight e none) (fun _ s₃=>wpAny (model X.prog X.w) X.A (handleBy e X.env [.ExceptHandler (some (.Name cx np)) (some n) (b0 :: hbody) hpos]) (SP X pins D) X.xe s₃) X.xe s₂) X.xe s₁)) E:=by
    intro pl σ' H' s' e C od tb' I' x he tbs q
    have J:=I'.untryc
    have tbs':Tbs X pins H' tb':=fun T z=>by
      obtain ⟨a1,a2,a3,a4,a5⟩:=tbs T z
      exact ⟨a1,a2,a3,a4,fun p hp=>a5 p (List.mem_append_left _ hp)⟩
    obtain ⟨mkC,mro,hth⟩:=h2 σ' e C H' q
    have fr:X.A.frames=some (X.env :: X.outer):=by rw [← hst]; exact J.ok.frames
    have ff:s'.heap.FunFrames X.base (X.env :: X.outer):=by rw [← hst]; exact J.stack
    refine xjv (L:=X.env.locals) fr ff hf x fun h' T st sT x'=>?_
    rw [← hst] at st
    have J2:=J.noted he tbs' st x'
    have fr2:X.base.objs.size≤s'.heap.objs.size:=Nat.le_trans J.ok.bsz J.sz
    have ff2:h'.FunFrames X.base X.stack:=J2.stack
    have nT:∀ b ∈ frs X.stack,b≠T:=fun b hb z=>by
      obtain ⟨_,o,ho,hnf⟩:=J.stack.mem hb
      rw [z] at ho
      exact absurd (Heap.lt_size ho) (Nat.not_lt.mpr sT)
    have fresh:=J.size_lt sT
    have tbs2:Tbs X pins H' (some T):=fun T' z=>by
      cases z
      exact ⟨Nat.le_trans J.sz sT,fresh.1,fresh.2.1,fresh.2.2.1,fresh.2.2.2⟩
    obtain ⟨nm,qn,N,bs,bm,hz,sn,sub,ab,col,dd,k0,k1,k2,k3,k5,gC,TC⟩:=xd9 J2.kIn mkC
    obtain ⟨nm',qn',N',bs',bm',hz',sn',sub',ab',col',dd',j0,j1,j2,j3,j5,gC0,TC0⟩:=xd9 J2.kIn mk0
    refine wpAny_handleBy_cons (codeAny_handlers_test (xcv (X:=X.hand e) (J2.hand e) hg hm ?_ hdb)) (by intro z; cases z)
    obtain ⟨oe,_,ge,ce,_⟩:=id x'
    have hmr:(Value.ref C :: bm).contains (.ref C0)=true:=by
      obtain ⟨cd,e1,e2⟩:=Option.bind_eq_some_iff.mp mro
      have e3:(Value.ref C :: bm)=cd.mro:=by
        unfold PySem.W.clsIn at e1
        split at e1
        · rename_i c1 d1 cd1 sl1 ho
          cases e1
          have z:=(J2.kIn _ _ ho).symm.trans gC
          injection z with z
          injection z with _ _ z _
          injection z with z
          rw [z]
        · cases e1
      rw [e3]
      split at e2
      · cases e2
      · exact Option.some.inj e2
    refine xhn (M:=model X.prog X.w) gC gC0 ge ce (xgc TC0) hmr ?_
    show codeAny _ _ _ _ _
    refine codeAny_handlers_suite_as (xlj (fs:=frs X.stack) x' nT fun h3 st3 x3=>?_)
    have J3:Inv X pins σ' H' { s' with heap:=h3 }:=J2.noted he tbs2 st3 x3
    refine xe4 (v:=V.ref e) J3 hN hj (.inl hl) rfl (fun s4 J4=>?_) (.inr hl)
    refine wpAny_mono (hh e pins s4 _ H' _ (J4.hand e) hth) (fun f s5 q5=>?_) fun _ _ z=>z.elim
    have fin:∀ {σ5:St} {H5:Hp} {Q:Unit→Shared→Prop},Inv (X.hand e) pins σ5 H5 s5→(∀ s6,Inv X pins (σ5.set j none) H5 s6→Q () s6) →
        wpAny (model X.prog X.w) X.A (do bindName X.env n Value.none; unbindBehindTheSuite X.env n hpos) Q X.xe s5:=fun {σ5 H5 Q} K5 kq=>by
      have K6:Inv X pins σ5 H5 s5:=Inv.unhand ok K5
      obtain ⟨m,hm5,hv5⟩:=K6.loc
      refine xj2 (show X.env.kindOf n=some .local from hl) hm5 (by simp [ok.kind]) fun h6 m6 n6 e6 s6=>kq _ (K6.gone hN hj hl hm5 hv5 n6 e6 s6)
    cases f with
    | next =>
      obtain ⟨σ5,H5,K5,z⟩:=q5
      exact fin K5 fun s6 K6=>⟨_,H5,K6,z⟩
    | brk =>
      obtain ⟨σ5,H5,K5,z⟩:=q5
      exact fin K5 fun s6 K6=>⟨_,H5,K6,z⟩
    | cont =>
      obtain ⟨σ5,H5,K5,z⟩:=q5
      exact fin K5 fun s6 K6=>⟨_,H5,K6,z⟩
    | ret u =>
      obtain ⟨v,σ5,H5,K5,r,z⟩:=q5
      exact fin K5 fun s6 K6=>⟨v,_,H5,K6,r,z⟩
  refine wpAny_mono (hb pins _ T [] s σ H D (I.tryc _) h1) (fun f s1 q=>?_) fun u s1 q=>q
  cases f with
  | next =>
    obtain ⟨σ',H',J,z⟩:=q
    exact wpAny_execs_nil ⟨σ',H',J.untryc,z⟩
  | brk =>
    obtain ⟨σ',H',J,z⟩:=q
    exact ⟨σ',H',J.untryc,z⟩
  | cont =>
    obtain ⟨σ',H',J,z⟩:=q
    exact ⟨σ',H',J.untryc,z⟩
  | ret u =>
    obtain ⟨v,σ',H',J,r,z⟩:=q
    exact ⟨v,σ',H',J.untryc,r,z⟩
end
end L2
set_option maxRecDepth 100000
namespace XL
open PySem PySem.W
theorem xjx {K:Frag} {x C:Addr} (c:XC K C):KitX K (.ref x) (.ref C) (fun h=>∃ ox od,InstAt h x ox C od) where
 ty:=fun _ _ _ ⟨_,_,I⟩=>I.type
 it:=fun _ _ X _=>by
  obtain ⟨cd,hc,_,_⟩:=c.mro
  unfold clsIn at hc
  split at hc
  ·rename_i c' d' cd' sl' ho
   intro A' Q' E' s' k q
   unfold isType loadHead
   exact wpAny_bind (wpAny_loadPart (k _ _ (X _ _ ho)) (wpAny_pure q))
  ·cases hc
 ne:=fun h tp dd its n sl X htp=>by
  obtain ⟨cd,hc,_,_⟩:=c.mro
  refine Bool.eq_false_iff.mpr fun q=>?_
  have e:C=tp:=Value.ref.inj (beq_iff_eq.mp q)
  subst e
  unfold clsIn at hc
  split at hc
  ·rename_i c' d' cd' sl' ho
   have z:=(X _ _ ho).symm.trans htp
   cases z
  ·cases hc
 ca:=fun X ⟨ox,od,I⟩ k=>xle X c I k
end XL
namespace L2
open PySem PySem.Spec PyProof.Rows XL
variable {q0:Bool}
def clsV:V→Option Value
 | .ty n=>some (.type n)
 | .ref a=>some (.ref a)
 | _=>none
theorem xez {c:V} {u cv:Value} (e:clsV c=some cv) (r:RelV c u):u=cv:=by
 cases c <;> first | (cases e; exact r) | cases e
def xiw:List V→Option (List Value)
 | []=>some []
 | c :: r=>(clsV c).bind fun a=>(xiw r).map (a :: ·)
theorem xga:∀ {cs:List V} {us cv:List Value},xiw cs=some cv→Vals cs us→us=cv
 | [],_,_,e,.nil=>by cases e; rfl
 | c :: r,_,_,e,.cons rc rr=>by
  obtain ⟨a,e1,e2⟩:=Option.bind_eq_some_iff.mp e
  obtain ⟨b,e3,rfl⟩:=Option.map_eq_some_iff.mp e2
  rw [xez e1 rc,xga e3 rr]
section
variable {X:Cx} {pins:List (Addr × Obj)} {σ:St} {H:Hp} {s:Shared} {A:Around} {E:Value→Shared→Prop} {Q:Value→Shared→Prop}
theorem xhw {a C:Addr} {od:Option Addr} (I:Inv X pins σ H s) (h:H a=some (XO a C od)) (hd:∀ d,od=some d→∃ o,s.heap.get? d=some o):∃ ox odx,PySem.W.InstAt s.heap a ox C odx:=by
 obtain ⟨ox,vs,g,ce,oo,de⟩:=xl9 I h
 cases e:od with
 | none=>exact ⟨ox,none,g,ce,xc3 de,by rw [oo,e]; trivial⟩
 | some d =>
  obtain ⟨o,go⟩:=hd d e
  exact ⟨ox,some o,g,ce,xc3 de,by rw [oo,e]; exact go⟩
end
def xp5 (K:PySem.W.Frag):List V→Hp→VK→Prop:=fun xs H Q=>∃ x c,xs=[x,c]∧((∃ t cv b,TyOf K H x t∧clsV c=some cv∧PySem.W.kitOne K t cv=some b∧Q (.bl b) H) ∨
 (∃ a C od cv b,x=.ref a∧H a=some (XO a C od)∧(∀ d,od=some d→∃ fs,H d=some (XD d fs))∧XC K C∧clsV c=some cv∧PySem.W.kitOne K (.ref C) cv=some b∧Q (.bl b) H) ∨
 (∃ a C od p cs cv b,x=.ref a∧H a=some (XO a C od)∧(∀ d,od=some d→∃ fs,H d=some (XD d fs))∧XC K C∧c=.ref p∧SqT K H p cs∧xiw cs=some cv∧PySem.W.kitAny K (.ref C) cv=some b∧Q (.bl b) H))
section
variable {X:Cx}
theorem xao:xb0 X (.builtin "isinstance") (xp5 X.K):=by
 intro pins s σ H us xs Q I r h
 obtain ⟨x,c,rfl,h⟩:=h
 obtain ⟨u,v,rfl,ru,rv⟩:=xgh r
 rcases h with ⟨t,cv,b,ty,ec,ek,q⟩ | ⟨a,C,od,cv,b,rfl,ha,hd,xc,ec,ek,q⟩ | ⟨a,C,od,p,cs,cv,b,rfl,ha,hd,xc,rfl,hp,ec,ek,q⟩
 ·obtain rfl:=xez ec rv
  exact xjq I ru ty ek fun tk=>⟨.bl b,H,I.tok tk,rfl,q⟩
 ·obtain rfl:=xez ec rv
  obtain rfl:u=Value.ref a:=ru
  refine PySem.W.kia_one (xjx xc) I.kIn (xhw I ha fun d e=>?_) ek (fun z=>nomatch z) fun tk=>⟨.bl b,H,I.tok tk,rfl,q⟩
  obtain ⟨fs,hw⟩:=hd d e
  obtain ⟨_,_,⟨o,_,_,go,_⟩,_⟩:=xgm I hw
  exact ⟨o,go⟩
 ·obtain rfl:u=Value.ref a:=ru
  obtain rfl:v=Value.ref p:=rv
  obtain ⟨its,vi,it,_⟩:=I.tuple hp
  obtain rfl:=xga ec vi
  obtain ⟨o,g,oc,n,od'⟩:=it
  obtain ⟨c1,d1,dt1,sl1⟩:=o
  dsimp only at oc od'
  subst oc od'
  refine PySem.W.kia_tup (xjx xc) I.kIn (xhw I ha fun d e=>?_) g ek (fun z=>nomatch z) fun tk=>⟨.bl b,H,I.tok tk,rfl,q⟩
  obtain ⟨fs,hw⟩:=hd d e
  obtain ⟨_,_,⟨o,_,_,go,_⟩,_⟩:=xgm I hw
  exact ⟨o,go⟩
end
end L2
set_option maxRecDepth 100000
namespace L2
open PySem PySem.Spec PyProof.Rows XL
variable {q0:Bool}
def xb9 (scope:Scope):List Str:=(scope.names.filter fun x=>x.2 == .free).map (·.1)
def Cx.clo (X:Cx) (scope:Scope):List (Str × Addr):=(xb9 scope).reverse.map fun n=>(n,(X.env.cells.lookup n).getD 0)
theorem xfi {env:Env} {f:Str→Addr}:∀ (l:List (Str × NameKind)) (acc:List (Str × Addr)),(∀ x ∈ l,x.2=.free→env.cells.lookup x.1=some (f x.1)) →
    (forIn l acc fun x cs=>(if x.2 == .free then do let c ← cellOf env x.1; pure (ForInStep.yield ((x.1,c) :: cs)) else pure (ForInStep.yield cs):Sem (ForInStep (List (Str × Addr))))) =
      pure ((((l.filter fun x=>x.2 == .free).map (·.1)).reverse.map fun n=>(n,f n)) ++ acc)
  | [],acc,_=>rfl
  | x :: r,acc,h=>by
    have ih:=fun a=>xfi r a fun y hy=>h y (List.mem_cons_of_mem _ hy)
    rw [List.forIn_cons]
    by_cases q:x.2=.free
    · have e:=h x List.mem_cons_self q
      have qb:(x.2 == NameKind.free)=true:=by rw [q]; rfl
      rw [if_pos qb,List.filter_cons,if_pos qb]
      have ec:cellOf env x.1=pure (f x.1):=by unfold cellOf; rw [e]
      rw [ec]
      simp only [pure_bind]
      rw [ih]
      simp
    · have qb:(x.2 == NameKind.free)=false:=by simpa using q
      rw [if_neg (by rw [qb]; decide),List.filter_cons,if_neg (by rw [qb]; decide)]
      simp only [pure_bind]
      rw [ih]
theorem xkg {X:Cx} {scope:Scope} (h:∀ n ∈ xb9 scope,∃ c,X.env.cells.lookup n=some c):closureFor scope X.env=pure (X.clo scope):=by
 unfold closureFor
 have z:=xfi (env:=X.env) (f:=fun n=>(X.env.cells.lookup n).getD 0) scope.names [] fun x hx hf=>by
  obtain ⟨c,e⟩:=h x.1 (List.mem_map.mpr ⟨x,List.mem_filter.mpr ⟨hx,by simp [hf]⟩,rfl⟩)
  rw [e]
  rfl
 rw [List.append_nil] at z
 refine (bind_pure (m:=Sem) _).trans ?_
 exact z
theorem xnl {X:Cx} {scope:Scope} {n:Str} {c:Addr} (h:(X.clo scope).lookup n=some c):n ∈ xb9 scope∧c=(X.env.cells.lookup n).getD 0:=by
 have z:=PySem.mem_of_lookup h
 unfold Cx.clo at z
 obtain ⟨y,hy,e⟩:=List.mem_map.mp z
 injection e with e1 e2
 subst e1
 exact ⟨List.mem_reverse.mp hy,e2.symm⟩
theorem xc6 {f:Str→Addr} {n:Str}:∀ {l:List Str},n ∈ l→(l.map fun y=>(y,f y)).lookup n=some (f n)
 | [],h=>by simp at h
 | y :: r,h=>by
  rw [List.map_cons,List.lookup_cons]
  by_cases q:n=y
  ·subst q
   simp
  ·rw [show (n == y)=false from by simpa using q]
   exact xc6 ((List.mem_cons.mp h).resolve_left q)
theorem xia {X:Cx} {scope:Scope} {n:Str} {c:Addr} (hn:n ∈ xb9 scope) (h:X.env.cells.lookup n=some c):(X.clo scope).lookup n=some c:=by
 have z:=xc6 (f:=fun n=>(X.env.cells.lookup n).getD 0) (List.mem_reverse.mpr hn)
 unfold Cx.clo
 rw [z,h]
 rfl
section
variable {X:Cx} {pins:List (Addr × Obj)} {σ:St} {H:Hp} {s:Shared} {scope:Scope} {x:Str} {ys:List Str} {fr:List Nat} {fp:List Addr}
end
section
variable {X:Cx} {pins:List (Addr × Obj)} {σ:St} {H:Hp} {s:Shared} {scope:Scope} {x:Str} {ys:List Str} {fr:List Nat} {fp:List Addr}
end
def xek:TT:=fun _ H Q=>Q true H
def PIf (X:Cx) (ifs:List Expr) (t:TT):Prop :=
 ∀ (pins:List (Addr × Obj)) (s:Shared) (σ:St) (H:Hp) (Q:Bool→Hp→Prop),Inv X pins σ H s→t σ H Q →
  wpAny (model X.prog X.w) X.A (forIn ifs true fun c r=>if r=true then do let ok ← isTrue c X.env (eval c X.env); pure (ForInStep.yield ok) else pure (ForInStep.yield r)) (TP X pins σ Q) X.xe s
theorem xdi {X:Cx}:PIf X [] xek:=fun pins s σ H Q I h=>wpAny_pure ⟨H,I,h⟩
theorem xmi {X:Cx} {c:Expr} {t:TT} (hc:PT X c t):PIf X [c] t:=fun pins s σ H Q I h=>by
 rw [List.forIn_cons]
 refine wpAny_bind ?_
 rw [if_pos rfl]
 refine wpAny_bind (wpAny_mono (hc pins s σ H Q I h) (fun b s1 q=>wpAny_pure ?_) fun _ _ z=>z)
 exact wpAny_pure q
section
variable {X:Cx} {scope:Scope} {x:Str} {ys:List Str} {fr:List Nat} {elt iter:Expr} {ifs:List Expr} {px pos:Pos} {wi:TI} {tc:TT} {te:TE}
end
end L2
set_option maxRecDepth 100000
namespace L2
open PySem PySem.Spec PyProof.Rows XL
variable {q0:Bool}
theorem xkp {env:Env} {scope:Scope} (nc:∀ y ∈ scope.names,y.2≠.cell) (n:Str) (h:(relabel scope env).names.lookup n=some .cell∨(relabel scope env).names.lookup n=some .free):n ∈ xb9 scope:=by
 have key:∀ k,(relabel scope env).names.lookup n=some k→(k=.cell∨k=.free)→n ∈ xb9 scope:=fun k e hk=>by
  obtain ⟨y,hy,ey⟩:=List.mem_map.mp (PySem.mem_of_lookup e)
  obtain ⟨m,j⟩:=y
  dsimp only at ey
  split at ey
  ·rename_i q
   injection ey with e1 e2
   subst e1
   have:j=.free:=by
    simp only [Bool.and_eq_true,beq_iff_eq] at q
    exact q.1.1
   subst this
   exact List.mem_map.mpr ⟨_,List.mem_filter.mpr ⟨hy,by simp⟩,rfl⟩
  ·injection ey with e1 e2
   subst e1 e2
   rcases hk with z | z
   ·exact absurd z (nc _ hy)
   ·subst z
    exact List.mem_map.mpr ⟨_,List.mem_filter.mpr ⟨hy,by simp⟩,rfl⟩
 rcases h with h | h
 ·exact key _ h (.inl rfl)
 ·exact key _ h (.inr rfl)
theorem xiu {env:Env} {scope:Scope} {n:Str} (h:scope.names.lookup n=some .free):(relabel scope env).names.lookup n=some .cell∨(relabel scope env).names.lookup n=some .free:=by
  have key:∀ (l:List (Str × NameKind)),l.lookup n=some .free→(l.map fun (m,k)=>if (k == NameKind.free && env.scope.kind == .function && env.kindOf m == some .cell) then (m,NameKind.cell) else (m,k)).lookup n=some .cell ∨
      (l.map fun (m,k)=>if (k == NameKind.free && env.scope.kind == .function && env.kindOf m == some .cell) then (m,NameKind.cell) else (m,k)).lookup n=some .free:=fun l=>by
    induction l with
    | nil=>intro e; simp at e
    | cons y r ih =>
      intro e
      obtain ⟨m,k⟩:=y
      rw [List.map_cons]
      rw [List.lookup_cons] at e
      cases q:n == m with
      | true =>
        rw [q] at e
        cases e
        dsimp only
        split
        · left; rw [List.lookup_cons,q]
        · right; rw [List.lookup_cons,q]
      | false =>
        rw [q] at e
        have z:=ih e
        dsimp only
        split <;> (rw [List.lookup_cons,q]; exact z)
  exact key _ h
section
variable {P:Program} {w:World} {K:PySem.W.Frag} {mg:Str→Option Value} {base:Heap}
theorem Fun.okx {x qual:Str} {st:Stmt} {f:Addr} {fd:FuncData} {N ps:List Str} {k:Nat} {sp:Sp} (F:Fun K x qual st f fd) (S:x5 N ps (xm st)) (len:∀ vs H Q E,sp vs H Q E→vs.length=ps.length)
    (hbody:∀ (cdv:Value) (A:Around) (outer:List Env) (s:Shared) (H:Hp) (vs:List V) (Q:VK) (E:XK),Room q0 k (A.deeper (envOfC qual (xm st) s.heap.objs.size f cdv))→sp vs H Q E →
      ∃ t,PSs (cxOf q0 (CXo P w) P w K mg base N qual (xm st) f cdv A outer s H E) (xx st) t∧t { nx:=fun _ H'=>Q .non H',rt:=Q } (xcb N vs) H):FnOk q0 P w K mg base (CXo P w) (k + 1) f fd ps sp:=by
  obtain ⟨oc,od,kV,doc,pm,an,cdv,ct,osl,rfl,lk,hcd⟩:=F.ex
  exact xgp lk hcd S len fun A outer s H vs Q E hr hsp=>hbody cdv A outer s H vs Q E hr hsp
theorem Fun.okn {x qual:Str} {st:Stmt} {f:Addr} {fd:FuncData} {N ps:List Str} {k:Nat} {sp:Sp} (F:Fun K x qual st f fd) (S:x5 N ps (xm st)) (len:∀ vs H Q E,sp vs H Q E→vs.length=ps.length)
    (hbody:∀ (cdv:Value) (A:Around) (outer:List Env) (s:Shared) (H:Hp) (vs:List V) (Q:VK) (E:XK),Room q0 k (A.deeper (envOfC qual (xm st) s.heap.objs.size f cdv))→sp vs H Q E →
      ∃ t,PSs (cxOf q0 (CXo P w) P w K mg base N qual (xm st) f cdv A outer s H E).nox (xx st) t∧t { nx:=fun _ H'=>Q .non H',rt:=Q } (xcb N vs) H):FnOk q0 P w K mg base (CXo P w) (k + 1) f fd ps sp:=by
  obtain ⟨oc,od,kV,doc,pm,an,cdv,ct,osl,rfl,lk,hcd⟩:=F.ex
  refine xgp lk hcd S len fun A outer s H vs Q E hr hsp=>?_
  obtain ⟨t,h,q⟩:=hbody cdv A outer s H vs Q E hr hsp
  exact ⟨t,h.nox,q⟩
end
end L2
set_option maxRecDepth 100000
namespace L2
open PySem PySem.Spec PyProof.Rows XL
theorem ifP {b:Bool} {A B:Prop} (h:b=true) (q:A):if b=true then A else B:=by
 rw [if_pos h]
 exact q
theorem ifN {b:Bool} {A B:Prop} (h:b=false) (q:B):if b=true then A else B:=by
 rw [if_neg (by rw [h]; decide)]
 exact q
end L2
set_option maxRecDepth 100000
namespace L2
open PySem PySem.Spec PyProof.Rows XL
def sgn (c:Nat):V:=.str ⟨#[c]⟩
def Its (x:Str):It:=⟨fun i _=>i < x.cps.toList.length,fun i H v H'=>H'=H∧∃ c,x.cps.toList[i]?=some c∧v=sgn c,fun i _=>x.cps.toList.length≤i⟩
theorem xnk {h h':Heap} {it:Addr} {ty:String} {x:Str} {t:Tok} {i:Nat} (y:h.IsStrIter it ty x t i) (k:∀ o,h.get? it=some o→h'.get? it=some o):h'.IsStrIter it ty x t i:=by
 obtain ⟨o,ho,r⟩:=y
 exact ⟨o,k o ho,r⟩
theorem xk1 {P:Program} {w:World} {K:PySem.W.Frag} {tg:Expr} {x:Str} (t:Tok) (it:Addr):Turn P w K tg (Its x) [it] it (fun i h=>h.IsStrIter it "str_ascii_iterator" x t i) where
 mem:=by simp
 obj:=fun i h st b hb=>by
  have e:b=it:=by simpa using hb
  subst e
  obtain ⟨o,e,c,d⟩:=st
  exact ⟨o,e,fun v z=>by rw [d] at z; cases z⟩
 keep:=fun i h h' st k=>xnk st fun o e=>k it (by simp) o e
 item:=by
  intro X hP hw hK hc i pins s σ H E I hf st hg
  subst hP hw hK
  have lt:i < x.cps.toList.length:=hg
  have ex:x.cps[i]?=some (x.cps.toList[i]):=by simp
  obtain ⟨f0,f1,f2,f3,f4,f5⟩:=hf it (by simp)
  refine wpAny_pyNext_ascii_item st ex fun h' st' sb=>?_
  have I1:Inv X pins σ H { s with heap:=h',toks:=s.toks + 1 }:=I.turned (t':=s.toks + 1) (fun b o hb e=>(sb.2 b hb).trans e) f0 f1 f3 f4 f5
  obtain ⟨o,e,c,d⟩:=id st'
  exact ⟨_,rfl,xit (s:={ s with heap:=h',toks:=s.toks + 1 }) e c d (by decide) ⟨sgn (x.cps.toList[i]),H,I1,⟨_,rfl⟩,⟨rfl,_,by simp,rfl⟩,st',fun b hb=>(hf b hb).1⟩⟩
 done:=by
  intro X hP hw hK hc i pins s σ H E I hf st hg
  subst hP hw hK
  have ge:x.cps.toList.length≤i:=hg
  obtain ⟨f0,f1,f2,f3,f4,f5⟩:=hf it (by simp)
  exact wpAny_pyNext_ascii_end (I.ok.hd hc) st (by simpa using ge) fun h' eb=>⟨rfl,I.turned (t':=s.toks) (fun b o hb e=>eb b o hb e) f0 f1 f3 f4 f5⟩
 self:=fun _ _ _ _ _ st h=>wpAny_pyIter_striter_ascii st h
def iStr (tl:TE):TI:=fun σ H R=>tl σ H fun v H1=>∃ x:Str,v=.str x∧x.cps.all (· < 128)=true∧R (Its x) H1
theorem xo3 {X:Cx} {tg l:Expr} {tl:TE} (hl:PE X l tl):PI X tg l (iStr tl):=by
 intro pins s σ H R I h
 refine thn (hl pins s σ H _ I h) fun v s1 ⟨y,H1,I1,r1,x,e,ha,q⟩=>?_
 subst e
 obtain ⟨t,rfl⟩:=r1
 refine wpAny_pyIter_ascii ha ?_
 refine ⟨s1.heap.objs.size,[s1.heap.objs.size],_,_,H1,rfl,I1.kept (t':=s1.toks) fun b o e=>Heap.get?_push_of_some _ e,xk1 t _,⟨_,Heap.get?_push_size _ rfl,rfl,rfl⟩,fun b hb=>?_,q⟩
 have e:b=s1.heap.objs.size:=by simpa using hb
 subst e
 exact I1.fpOk (Nat.le_refl _) (I1.hok.fresh (Nat.le_refl _))
theorem xno {x:Str} {g:TG} {tb:TS} {D:Ends} {σ:St} {H:Hp} (Pv:Nat→St→Hp→Prop) (h0:Pv 0 σ H)
    (hs:∀ i c σ H,x.cps.toList[i]?=some c→Pv i σ H→g (sgn c) σ H fun σ2 H2=>tb { D with nx:=Pv (i + 1),ct:=Pv (i + 1),bk:=D.nx } σ2 H2) (hd:∀ σ H,Pv x.cps.toList.length σ H→D.nx σ H) :
    ∃ W:Nat→Nat→St→Hp→Prop,(∃ m,W 0 m σ H)∧∀ i m σ H,W i m σ H →
      ((Its x).stop i H∧D.nx σ H)∨((Its x).go i H∧∃ N:St→Hp→Prop,(∀ σ' H',N σ' H'→∃ m',m' < m∧W (i + 1) m' σ' H')∧∀ v H',(Its x).yld i H v H'→g v σ H' fun σ2 H2=>tb { D with nx:=N,ct:=N,bk:=D.nx } σ2 H2):=by
  refine ⟨fun i m σ H=>m=x.cps.toList.length - i∧i≤x.cps.toList.length∧Pv i σ H,⟨x.cps.toList.length,by simp,Nat.zero_le _,h0⟩,?_⟩
  rintro i m σ H ⟨rfl,hi,p⟩
  by_cases lt:i < x.cps.toList.length
  · refine .inr ⟨lt,Pv (i + 1),fun σ' H' p'=>⟨x.cps.toList.length - (i + 1),by omega,rfl,lt,p'⟩,fun v H' y=>?_⟩
    obtain ⟨e,c,ec,ev⟩:=y
    subst e ev
    exact hs i c σ _ ec p
  · have e:i=x.cps.toList.length:=by omega
    subst e
    exact .inl ⟨Nat.le_refl _,hd σ H p⟩
section
variable {X:Cx}
theorem xc7:OpR X (compareOp .LtE) (fun x y H Q=>∃ i j,x=.str i∧y=.str j∧Q (.bl (!decide (j.cps.toList < i.cps.toList))) H):=by
 intro pins s σ H x y v u Q I rx ry h
 obtain ⟨i,j,rfl,rfl,q⟩:=h
 obtain ⟨t,rfl⟩:=rx
 obtain ⟨t',rfl⟩:=ry
 exact PySem.P.le_str (xai I q rfl)
theorem xhl:xb0 X (.type "range") (fun xs H Q=>∃ i j,xs=[.int i,.int j]∧∀ p,H p=none→Q (.ref p) (upd H p (.rng i j))):=by
 intro pins s σ H xs us Q I r h
 obtain ⟨i,j,rfl,q⟩:=h
 obtain ⟨u,w',rfl,⟨t,rfl⟩,⟨t',rfl⟩⟩:=xgh r
 refine call_range_2 ⟨.ref s.heap.objs.size,_,I.laid (t':=s.toks + 1) (fun b o e=>Heap.get?_push_of_some _ e) (Nat.le_refl _) (show xal X.prog X.w _ _ _ (.rng i j) from ⟨_,_,_,Heap.get?_push_size _ rfl⟩),rfl,q _ (I.hok.fresh (Nat.le_refl _))⟩
end
end L2
set_option maxRecDepth 100000
namespace L2
open PySem PySem.Spec PyProof.Rows
variable {q0:Bool}
section
variable {X:Cx}
theorem xh4:∀ {us:List Value} {ys:List V},us.length=ys.length→(∀ (j:Nat) (y:V) (u:Value),ys[j]?=some y→us[j]?=some u→RelV y u)→Vals ys us
 | [],[],_,_=>.nil
 | u :: us,y :: ys,hl,h=>.cons (h 0 y u rfl rfl) (xh4 (Nat.succ.inj hl) fun j y' u' e e'=>h (j + 1) y' u' e e')
def rngL (lo hi:Int):List V:=(List.range (hi - lo).toNat).map fun (i:Nat)=>V.int (lo + (i:Int))
theorem xgf (hc:X.calm=true):xb0 X (.type "list") (fun xs H Q=>∃ p lo hi,xs=[.ref p]∧H p=some (.rng lo hi)∧(-(2 ^ 62)≤lo∧lo < 2 ^ 62∧-(2 ^ 62)≤hi∧hi < 2 ^ 62)∧(hi - lo).toNat≤1000 ∧
    ∀ l,H l=none→Q (.ref l) (upd H l (.lst (rngL lo hi)))):=by
  intro pins s σ H xs us Q I r h
  obtain ⟨p,lo,hi,rfl,hp,⟨h1,h2,h3,h4⟩,hn,q⟩:=h
  obtain ⟨u,rfl,rx⟩:=xch r
  cases rx
  obtain ⟨t1,t2,t3,g⟩:=(show xal X.prog X.w H s.heap p (.rng lo hi) from I.hok p _ hp)
  refine call_list_range (I.ok.hd hc) g (small_one h1 h2 h3 h4) (n:=(hi - lo).toNat) (by rw [rangeSize_one]; split <;> omega) (Nat.le_trans hn (by decide)) fun h' tk acc' c' kp e it=>?_
  have len:acc'.toList.length=(rngL lo hi).length:=by rw [rngL,List.length_map,List.length_range]; exact it.1
  refine ⟨.ref s.heap.objs.size,_,I.laid (t':=tk) kp (Nat.le_refl _) (show xal X.prog X.w _ h' _ (.lst (rngL lo hi)) from ⟨?_,acc'.toList,c',xh4 len fun j y u ey eu=>?_,by simpa using e⟩),rfl,q _ (I.hok.fresh (Nat.le_refl _))⟩
  · rw [rngL,List.length_map,List.length_range]
    exact Nat.le_trans hn (by decide)
  · have eu':acc'[j]?=some u:=by simpa using eu
    obtain ⟨t,e2⟩:=it.2 j u eu'
    have lt:j < (hi - lo).toNat:=by
      have:=(List.getElem?_eq_some_iff.mp ey).1
      simpa [rngL] using this
    rw [rngL,List.getElem?_map,List.getElem?_range lt] at ey
    cases ey
    exact ⟨t,by rw [e2,Int.mul_one]⟩
end
end L2
set_option maxRecDepth 100000
namespace L2
open PySem PySem.Spec PyProof.Rows
variable {q0:Bool}
structure FunD (K:PySem.W.Frag) (x qual:Str) (st:Stmt) (T f:Addr) (fd:FuncData):Prop where
 ex:∃ (oc:Value) (od:Option Addr) (kV doc pm:Value) (an:Option Addr) (cdv ct:Value) (osl:Array (Option Value)),
  fd=PySem.W.fnOf x qual (x4 st) (xx st) (xm st) (.ref T) kV doc pm an cdv ct∧K.lookup f=some ⟨oc,od,.func fd,osl⟩∧PySem.W.codeIn K cdv qual=true
 kp:PySem.W.keepIn K (.ref f)=true
section
variable {P:Program} {w:World} {K:PySem.W.Frag} {mg:Str→Option Value} {base:Heap}
theorem FunD.okx {x qual:Str} {st:Stmt} {T f:Addr} {fd:FuncData} {N ps:List Str} {k:Nat} {sp:Sp} (F:FunD K x qual st T f fd) (S:x5 N ps (xm st)) (len:∀ vs H Q E,sp vs H Q E→vs.length=ps.length)
    (hbody:∀ (cdv:Value) (A:Around) (outer:List Env) (s:Shared) (H:Hp) (vs:List V) (Q:VK) (E:XK),Room q0 k (A.deeper (envOfC qual (xm st) s.heap.objs.size f cdv))→sp vs H Q E →
      ∃ t,PSs (cxOf q0 (CXo P w) P w K mg base N qual (xm st) f cdv A outer s H E) (xx st) t∧t { nx:=fun _ H'=>Q .non H',rt:=Q } (xcb N vs) H):FnOk q0 P w K mg base (CXo P w) (k + 1) f fd ps sp:=by
  obtain ⟨oc,od,kV,doc,pm,an,cdv,ct,osl,rfl,lk,hcd⟩:=F.ex
  exact xgp lk hcd S len fun A outer s H vs Q E hr hsp=>hbody cdv A outer s H vs Q E hr hsp
theorem FunD.binds {x qual:Str} {st:Stmt} {T f:Addr} {fd:FuncData} {ps:List Str} {o:Obj} {items:Array Value} {n:Nat} {ds:List Value} (F:FunD K x qual st T f fd) (ho:K.lookup T=some o) (hs:o.data=.seq items n) (m:Nat) (hm:m + ds.length=ps.length)
    (h:∀ (kV doc pm:Value) (an:Option Addr) (cdv ct:Value) (us:List Value),us.length=m →
      ∃ k,bindArgs (PySem.W.fnOf x qual (x4 st) (xx st) (xm st) (.ref T) kV doc pm an cdv ct) ⟨us,[]⟩=seqItems? (.ref T) >>= k∧k (some items)=pure (ps.zip (us ++ ds))):xae K fd ps ds:=by
  obtain ⟨oc,od,kV,doc,pm,an,cdv,ct,osl,rfl,lk,hcd⟩:=F.ex
  intro s us hK hl
  rw [List.length_append] at hl
  obtain ⟨k,h1,h2⟩:=h kV doc pm an cdv ct us (by omega)
  exact BindsTo.of_defaults rfl (hK _ _ ho) hs h1 h2
theorem xh7 {x qual:Str} {st:Stmt} {T f:Addr} {oc:Value} {od an:Option Addr} {osl:Array (Option Value)} {kV doc pm cdv ct:Value} (l:K.lookup f=some ⟨oc,od,.func (PySem.W.fnOf x qual (x4 st) (xx st) (xm st) (.ref T) kV doc pm an cdv ct),osl⟩)
    (c:PySem.W.codeIn K cdv qual=true) (k:PySem.W.keepIn K (.ref f)=true):FunD K x qual st T f (PySem.W.fnOf x qual (x4 st) (xx st) (xm st) (.ref T) kV doc pm an cdv ct):=⟨⟨oc,od,kV,doc,pm,an,cdv,ct,osl,rfl,l,c⟩,k⟩
end
end L2
set_option maxRecDepth 100000
namespace L2
open PySem PySem.Spec PyProof.Rows XL
variable {q0:Bool}
abbrev Cx.blkG (X:Cx) (scope:Scope) (zs:List Str) (ys:List Str) (C:Addr) (ex:List Addr) (s:Shared) (H:Hp) (pn:List (Addr × Obj)):Cx where
 prog:=X.prog
 w:=X.w
 K:=X.K
 mg:=X.mg
 base:=X.base
 A:=X.A
 N:=zs ++ ys
 s₀:=s
 H₀:=H
 env:=compEnvC scope (X.clo scope) C X.env
 outer:=X.stack
 stack:=X.stack
 ex:=ex
 fn:=fun _=>false
 calm:=X.calm
 pn:=pn
 xe:=fun _ _=>False
theorem xe6 {prog:Program} {w:World} {A:Around} {R:Result→Shared→Prop} {s:Shared} {elt target iter:Expr} {ifs:List Expr} {scope:Scope} {pos:Pos} {it acc:Value} {env:Env} (I:Nat→Shared→Prop)
    (turn:∀ n s,I n s→wpAny (model prog w) A (pyNext it) (fun r s₁=>match r with
      | none=>R (.ok .next) s₁
      | some v=>wpAny (model prog w) A (letOwnedTupleGo target it v) (fun _ s₀=>wpAny (model prog w) A (assign target env v) (fun _ s₂ =>
          wpAny (model prog w) A (forIn ifs true fun c r=>if r=true then do let ok ← isTrue c env (eval c env); pure (ForInStep.yield ok) else pure (ForInStep.yield r)) (fun ok s₃ =>
            if ok=true then wpAny (model prog w) A (eval elt env) (fun x s₄ =>
              wpAny (model prog w) A (call (.builtin "list.append") [acc,x]) (fun _ s₅=>∃ m,m < n∧I m s₅) (notedBy (model prog w) A env fun e s'=>R (.error e) s') s₄) (notedBy (model prog w) A env fun e s'=>R (.error e) s') s₃
            else ∃ m,m < n∧I m s₃) (notedBy (model prog w) A env fun e s'=>R (.error e) s') s₂) (notedBy (model prog w) A env fun e s'=>R (.error e) s') s₀) (notedBy (model prog w) A env fun e s'=>R (.error e) s') s₁) (notedBy (model prog w) A env fun e s'=>R (.error e) s') s)
    (n:Nat) (h:I n s):codeAny (model prog w) A (.compLoop (.ListComp elt [⟨target,iter,ifs,0⟩] scope pos) 0 it acc env) R s:=by
  refine codeAny_loop rfl I (fun n s hI=>?_) n h
  show wpAny _ A ((compTurn (.ListComp elt [⟨target,iter,ifs,0⟩] scope pos) 0 it acc env).onRaise (fun x=>do noteFrame x env; theTreesLotGoes x)) _ _ s
  refine wpAny_noted ?_
  rw [compTurn_list]
  refine wpAny_bind (wpAny_standAt (wpAny_bind (wpAny_mono (turn n s hI) (fun r s₁ h₁=>?_) fun _ _ h'=>h')))
  cases r with
  | none=>exact wpAny_pure h₁
  | some v =>
    refine wpAny_bind (wpAny_mono h₁ (fun _ s₀ h₀=>wpAny_bind (wpAny_mono h₀ (fun _ s₂ h₂=>wpAny_bind (wpAny_mono h₂ (fun ok s₃ h₃=>?_) fun _ _ h'=>h')) fun _ _ h'=>h')) fun _ _ h'=>h')
    cases ok with
    | false=>exact wpAny_pure ⟨rfl,h₃⟩
    | true =>
      exact wpAny_bind (wpAny_bind (wpAny_mono h₃ (fun x s₄ h₄=>wpAny_bind (wpAny_mono h₄ (fun _ s₅ h₅=>wpAny_pure (wpAny_pure ⟨rfl,h₅⟩)) fun _ _ h'=>h')) fun _ _ h'=>h'))
structure BlkG (X:Cx) (scope:Scope) (zs:List Str) (ys:List Str) (fr:List Nat):Prop where
 kind:scope.kind=.function
 own:∀ x ∈ zs,scope.names.lookup x=some .local
 ncell:∀ y ∈ scope.names,y.2≠.cell
 names:∀ y ∈ scope.names,y.2=.local→scope.names.lookup y.1=some .local
 free:∀ n ∈ xb9 scope,X.env.scope.names.lookup n=some .cell
 has:∀ n,((relabel scope X.env).names.lookup n=some .cell∨(relabel scope X.env).names.lookup n=some .free)→n ∈ xb9 scope
 slots:fr.map (fun i=>X.N[i]?)=ys.map some
 ysf:∀ y ∈ ys,y ∈ xb9 scope
 ysc:∀ y ∈ ys,(relabel scope X.env).names.lookup y=some .cell∨(relabel scope X.env).names.lookup y=some .free
 st:X.stack=X.env :: X.outer
 nd:X.N.Nodup
 ndb:(zs ++ ys).Nodup
def blk0 (σ:St) (fr:List Nat) (n:Nat):St:=List.replicate n none ++ fr.map fun i=>(σ[i]?).join
section
variable {X:Cx} {pins:List (Addr × Obj)} {σ:St} {H:Hp} {s:Shared} {scope:Scope} {zs:List Str} {ys:List Str} {fr:List Nat} {fp:List Addr}
theorem BlkG.cells (B:BlkG X scope zs ys fr) (I:Inv X pins σ H s):∀ n ∈ xb9 scope,∃ c,X.env.cells.lookup n=some c:=fun n hn=>I.ok.has n (.inl (B.free n hn))
theorem BlkG.sub (B:BlkG X scope zs ys fr) (I:Inv X pins σ H s) {n:Str} {c:Addr} (h:(X.clo scope).lookup n=some c):X.env.cells.lookup n=some c:=by
 obtain ⟨a,b⟩:=xnl h
 obtain ⟨d,e⟩:=B.cells I n a
 rw [e] at b
 rw [b,e]
 rfl
theorem Inv.blkG {h1:Heap} {m1:Str→Option Value} {t':Nat} (B:BlkG X scope zs ys fr) (I:Inv X pins σ H s) (hf:∀ b ∈ fp,FpOk X pins H b) (hz:∀ b ∈ fp,b < s.heap.objs.size) (n1:h1.Ns s.heap.objs.size m1) (k1:∀ b o,s.heap.get? b=some o→h1.get? b=some o) :
    Inv (X.blkG scope zs ys s.heap.objs.size fp s H (X.pn ++ pins)) [] (blk0 σ fr zs.length) H { s with heap:=h1,toks:=t' }:=by
  have sub:∀ n c,(X.clo scope).lookup n=some c→X.env.cells.lookup n=some c:=fun n c h=>B.sub I h
  have cz:∀ n c,X.env.cells.lookup n=some c→c < s.heap.objs.size:=fun n c e=>by
    obtain ⟨v,o,ho,_⟩:=I.cell n c e
    exact Heap.lt_size ho
  have nfs:∀ b ∈ fp,b ∉ frs X.stack:=fun b hb z=>(List.mem_cons.mp (I.stkSub b z)).elim (hf b hb).2.1 (hf b hb).2.2.1
  have fz:∀ b,b ∈ frs X.stack→b < s.heap.objs.size:=fun b hb=>by
    obtain ⟨_,o,ho,_⟩:=I.stack.mem hb
    exact Heap.lt_size ho
  refine ⟨⟨I.ok.mod,B.kind,I.ok.glob,I.ok.blt,Nat.le_refl _,fun y z c h1 h2=>I.ok.inj y z c (sub y c h1) (sub z c h2),fun y hy=>?_,(fun y c hy _=>nomatch hy),I.ok.hd,I.ok.frames,.inl rfl,fun b hb=>⟨?_,fun y c h=>(hf b hb).2.2.2.2.1 y c (sub y c h)⟩,
      I.bs,Nat.le_trans I.ok.bsz I.sz,fun b o e hb=>?_,fun b hb=>nfs b hb,I.stack,I.stkFree⟩,
    rfl,I.bare,Un.kept k1,⟨m1,n1,fun i y v e1 e2 e3=>?_⟩,fun y c h=>?_,I.hok.fresh (Nat.le_refl _),fun y c h=>I.freeC y c (sub y c h),fun p hp=>?_,I.hok.kept k1,?_⟩
  · obtain ⟨c,e⟩:=B.cells I y (B.has y hy)
    exact ⟨c,xia (B.has y hy) e⟩
  · exact Nat.ne_of_lt (hz b hb)
  · rcases (hf b hb).2.2.2.1 with z | z
    · exact I.ok.noex b o e z
    · exact absurd (Nat.lt_of_lt_of_le (Heap.lt_size (I.ok.bs b o e).1) z) (Nat.lt_irrefl _)
  · have ln:(List.replicate zs.length (none:Option V)).length=zs.length:=List.length_replicate
    by_cases lt:i < zs.length
    · have e2':(blk0 σ fr zs.length)[i]?=some (some v):=e2
      unfold blk0 at e2'
      rw [List.getElem?_append_left (by rw [ln]; exact lt),List.getElem?_replicate] at e2'
      split at e2' <;> cases e2'
    · obtain ⟨k,rfl⟩:∃ k,i=zs.length + k:=⟨i - zs.length,by omega⟩
      have e2':(fr.map fun i=>(σ[i]?).join)[k]?=some (some v):=by
        have z:(blk0 σ fr zs.length)[zs.length + k]?=some (some v):=e2
        unfold blk0 at z
        rw [List.getElem?_append_right (by rw [ln]; omega),ln] at z
        simpa using z
      have e1':ys[k]?=some y:=by
        have z:(zs ++ ys)[zs.length + k]?=some y:=e1
        rw [List.getElem?_append_right (by omega)] at z
        simpa using z
      rw [List.getElem?_map] at e2'
      obtain ⟨j,hj,ej⟩:=Option.map_eq_some_iff.mp e2'
      have ev:σ[j]?=some (some v):=by
        cases q:σ[j]? with
        | none=>rw [q] at ej; cases ej
        | some w=>rw [q] at ej; exact congrArg some ej
      have eN:X.N[j]?=some y:=by
        have z:=congrArg (fun l=>l[k]?) B.slots
        simp only [List.getElem?_map,hj,e1',Option.map_some] at z
        exact Option.some.inj z
      have my:y ∈ ys:=List.mem_of_getElem? e1'
      obtain ⟨m,_,lk⟩:=I.loc
      obtain ⟨u,r,l⟩:=lk j y v eN ev (.inr (.inl (B.free y (B.ysf y my))))
      refine ⟨u,r,.inr ⟨B.ysc y my,?_⟩⟩
      rcases l with ⟨kk,_⟩ | ⟨_,c,e,o,ho,hd⟩
      · have z:=B.free y (B.ysf y my)
        rw [show X.env.scope.names.lookup y=some .local from kk] at z
        cases z
      · exact ⟨c,xia (B.ysf y my) e,o,k1 c o ho,hd⟩
  · obtain ⟨v,o,ho,hd⟩:=I.cell y c (sub y c h)
    exact ⟨v,o,k1 c o ho,hd⟩
  · have hp':p ∈ X.pn ++ pins:=by simpa using hp
    obtain ⟨a1,a2,a3,a4,a5⟩:=I.pin p hp'
    exact ⟨k1 _ _ a1,a2,Nat.ne_of_lt (Heap.lt_size a1),fun z=>(List.mem_cons.mp (I.stkSub _ z)).elim a3 a4,a5⟩
  · have z:=congrArg List.length B.slots
    simp only [List.length_map] at z
    simp [blk0,z]
end
section
variable {X:Cx} {pins:List (Addr × Obj)} {σ:St} {H:Hp} {s:Shared} {scope:Scope} {zs:List Str} {ys:List Str} {fr:List Nat} {fp:List Addr}
theorem Inv.unblkG {C:Addr} {s':Shared} {h2:Heap} {σ':St} {H':Hp} {pl:List (Addr × Obj)} (I:Inv X pins σ H s) (hf:∀ b ∈ fp,FpOk X pins H b) (hC:s.heap.objs.size≤C) (J:Inv (X.blkG scope zs ys C fp s H (X.pn ++ pins)) pl σ' H' s') (sb:Heap.SameBut C s'.heap h2) :
    Inv X pins σ H' { s' with heap:=h2 }:=by
  have kp:∀ b o,b≠C→s'.heap.get? b=some o→h2.get? b=some o:=fun b o nb g=>(sb.2 b nb).trans g
  have old:∀ b o,s.heap.get? b=some o→b≠C:=fun b o g=>Nat.ne_of_lt (Nat.lt_of_lt_of_le (Heap.lt_size g) hC)
  have trk:∀ b u,H' b=some u→b≠C:=fun b u hb z=>by
    have f:H' C=none:=J.free
    rw [z,f] at hb
    cases hb
  refine I.call' (s':={ s' with heap:=h2 }) J.os (ch:=fp) ⟨fun b o e n hb hx=>kp b o (old b o e) (J.base.keep b o e n hb hx),fun b o e n hb hx=>?_,fun b o e n hx=>J.base.free b o e n hx,fun b o e hx=>?_,J.base.tups,J.base.frzs,J.base.tbls⟩ (fun b u hb=>?_) J.bare fun b hb=>?_
  · obtain ⟨sl,q⟩:=J.base.slot b o e n hb hx
    exact ⟨sl,kp b _ (old b o e) q⟩
  · obtain ⟨o',q⟩:=J.base.there b o e hx
    exact ⟨o',kp b o' (old b o e) q⟩
  · refine (J.hok b u hb).stay (fun c v hc q=>?_) (fun c q=>q) fun c xs q=>q
    rcases hc with rfl | hc
    · exact kp c v (trk c u hb) q
    · exact kp c v (trk c _ hc) q
  · obtain ⟨_,a1,_,a3,a4,a5⟩:=hf b hb
    exact ⟨a3,a1,a4,a5⟩
end
def GOk (n:Nat) (g:TG):Prop:=∀ v σ H Q,g v σ H Q→g v σ H (fun σ' H'=>Q σ' H'∧σ'.length=σ.length∧∀ i,n≤i→σ'[i]?=σ[i]?)
theorem xc2 {i n:Nat} (h:i < n):GOk n (xei i):=fun v σ H Q q=>⟨q,by simp,fun j hj=>by rw [List.getElem?_set_ne (by omega)]⟩
def xel (J:It) (n:Nat) (g:TG) (σ:St) (fr:List Nat) (tc:TT) (te:TE) (l:Addr) (H1:Hp) (Q:VK):Prop:=∃ W:Nat→Nat→List V→Hp→Prop,(∃ m,W 0 m [] (upd H1 l (.lst [])))∧∀ i m xs H2,W i m xs H2 →
 (J.stop i H2∧Q (.ref l) H2)∨(J.go i H2∧∀ v H3,J.yld i H2 v H3→g v (blk0 σ fr n) H3 fun σ' H3'=>tc σ' H3' fun b H4=>if b=true then
  (te σ' H4 fun y H5=>H5 l=some (.lst xs)∧xs.length < sizeLine∧∃ m',m' < m∧W (i + 1) m' (xs ++ [y]) (upd H5 l (.lst (xs ++ [y])))) else ∃ m',m' < m∧W (i + 1) m' xs H4)
def xhi (wi:TI) (n:Nat) (g:TG) (fr:List Nat) (tc:TT) (te:TE):TE:=fun σ H Q=>wi σ H fun J H1=>∀ l,H1 l=none→xel J n g σ fr tc te l H1 Q
section
variable {X:Cx} {scope:Scope} {zs:List Str} {ys:List Str} {fr:List Nat} {elt iter tg:Expr} {g:TG} {ifs:List Expr} {px pos:Pos} {wi:TI} {tc:TT} {te:TE}
theorem xff {pins:List (Addr × Obj)} {s:Shared} {σ:St} {H:Hp} {Q:VK} {U:Option (Value→Sem Unit)} {R:Value→Shared→Prop} (hc:X.calm=true) (B:BlkG X scope zs ys fr) (hi:PI X tg iter wi) (hg:∀ C ex s H pn,(∀ x ∈ zs,(relabel scope X.env).names.lookup x=some .local)→(zs ++ ys).Nodup→PG (X.blkG scope zs ys C ex s H pn) tg g) (gok:GOk zs.length g)
    (hif:∀ C ex s H pn,PIf (X.blkG scope zs ys C ex s H pn) ifs tc) (he:∀ C ex s H pn,PE (X.blkG scope zs ys C ex s H pn) elt te) (I:Inv X pins σ H s) (h:xhi wi zs.length g fr tc te σ H Q)
    (fin:∀ C l H' s' m,(X.s₀.heap.objs.size≤C∧C≠X.env.locals∧(∀ x c,X.env.cells.lookup x=some c→c≠C)∧∀ p ∈ X.pn ++ pins,p.1≠C)→H' C=none→s'.heap.Ns C m→(∀ h2,Heap.SameBut C s'.heap h2→Inv X pins σ H' { s' with heap:=h2 })→Q (.ref l) H'→compPost (model X.prog X.w) X.A X.xe U R (.ref l) C (.ok .next) s') :
    wpAny (model X.prog X.w) X.A (eval iter X.env) (fun v s1=>wpAny (model X.prog X.w) X.A (pyIter v) (fun it s2=>wpAny (model X.prog X.w) X.A (newList []) (fun acc s3 =>
      wpAny (model X.prog X.w) X.A (newFunctionEnv scope X.env.globals (X.clo scope) [] X.env.qual none .none (some X.env)) (fun cenv s4 =>
        codeAny (model X.prog X.w) X.A (.compStart (.ListComp elt [⟨tg,iter,ifs,0⟩] scope pos) 0 it acc { cenv with scope:=relabel scope X.env }) (compPost (model X.prog X.w) X.A X.xe U R acc cenv.locals) s4) X.xe s3) X.xe s2) X.xe s1) X.xe s:=by
  refine thn (hi pins s σ H _ I h) fun v s1 h1=>thn h1 fun itv s2 h2=>?_
  obtain ⟨it,fp,tn,J,H2,rfl,I2,T,st2,f2,body⟩:=h2
  have hN:H2 s2.heap.objs.size=none:=I2.hok.fresh (Nat.le_refl _)
  obtain ⟨W,⟨m0,w0⟩,turn⟩:=body s2.heap.objs.size hN
  refine wpAny_newObj_type ?_
  generalize hs3:({ s2 with heap:=s2.heap.push { cls:=.type "list",data:=.seq ([]:List Value).toArray } }:Shared)=s3
  have k3:∀ b o,s2.heap.get? b=some o→s3.heap.get? b=some o:=fun b o g=>by rw [← hs3]; exact Heap.get?_push_of_some _ g
  have I3:Inv X pins σ (upd H2 s2.heap.objs.size (.lst [])) s3:=by
    rw [← hs3]
    exact I2.laid (t':=s2.toks) (fun b u e=>Heap.get?_push_of_some _ e) (Nat.le_refl _) ⟨Nat.zero_le _,[],0,.nil,Heap.get?_push_size _ rfl⟩
  have z2:∀ b ∈ fp,b < s2.heap.objs.size:=fun b hb=>by
    obtain ⟨o,g,_⟩:=T.obj 0 _ st2 b hb
    exact Heap.lt_size g
  have z3:∀ b ∈ fp,b < s3.heap.objs.size:=fun b hb=>by
    obtain ⟨o,g,_⟩:=T.obj 0 _ st2 b hb
    exact Heap.lt_size (k3 b o g)
  have f3:∀ b ∈ fp,FpOk X pins (upd H2 s2.heap.objs.size (.lst [])) b:=fun b hb=>⟨by rw [xj (Nat.ne_of_lt (z2 b hb))]; exact (f2 b hb).1,(f2 b hb).2⟩
  have st3:tn 0 s3.heap:=T.keep _ _ _ st2 fun b _ o g=>k3 b o g
  refine wpAny_newFunctionEnv B.ncell (by intro y hy; simp at hy) (fun h1 n1 sb1=>?_) B.kind
  have k4:∀ b o,s3.heap.get? b=some o→h1.get? b=some o:=fun b o g=>sb1.extBut b o (Nat.ne_of_lt (Heap.lt_size g)) (Heap.get?_push_of_some _ g)
  have I4:=I3.blkG (t':=s3.toks + ([]:List (Str × Value)).length) B f3 z3 n1 k4
  have st4:tn 0 h1:=T.keep _ _ _ st3 fun b _ o g=>k4 b o g
  have own':∀ x ∈ zs,(relabel scope X.env).names.lookup x=some .local:=fun x hx=>lookup_relabel_local (B.own x hx)
  -- the iterator's objects,through the loop
  have stat:∀ {H':Hp},(∀ b ∈ fp,H' b=none)→∀ b ∈ fp,FpOk (X.blkG scope zs ys s3.heap.objs.size fp s3 (upd H2 s2.heap.objs.size (.lst [])) (X.pn ++ pins)) [] H' b:=fun hn b hb=>by
    obtain ⟨_,a1,a2,a3,a4,a5⟩:=f3 b hb
    exact ⟨hn b hb,Nat.ne_of_lt (z3 b hb),fun z=>(List.mem_cons.mp (I3.stkSub b z)).elim a1 a2,.inl hb,fun y c h=>a4 y c (B.sub I3 h),fun p hp=>a5 p (by simpa using hp)⟩
  have loop:∀ s4:Shared,s4={ s3 with heap:=h1,toks:=s3.toks + ([]:List (Str × Value)).length } →
      codeAny (model X.prog X.w) X.A (.compLoop (.ListComp elt [⟨tg,iter,ifs,0⟩] scope pos) 0 (.ref it) (.ref s2.heap.objs.size) (compEnvC scope (X.clo scope) s3.heap.objs.size X.env))
        (compPost (model X.prog X.w) X.A X.xe U R (.ref s2.heap.objs.size) s3.heap.objs.size) s4:=by
    rintro s4 rfl
    refine xe6 (fun n s'=>∃ i xs H',Inv (X.blkG scope zs ys s3.heap.objs.size fp s3 (upd H2 s2.heap.objs.size (.lst [])) (X.pn ++ pins)) [] (blk0 σ fr zs.length) H' s'∧tn i s'.heap∧(∀ b ∈ fp,H' b=none)∧W i n xs H') ?_ m0
      ⟨0,[],_,I4,st4,fun b hb=>(f3 b hb).1,w0⟩
    rintro n s5 ⟨i,xs,H5,I5,st5,fr5,w5⟩
    rcases turn i n xs H5 w5 with ⟨stop,q⟩ | ⟨go,step⟩
    · refine wpAny_mono (T.done (X.blkG scope zs ys s3.heap.objs.size fp s3 (upd H2 s2.heap.objs.size (.lst [])) (X.pn ++ pins)) rfl rfl rfl hc i [] s5 _ H5 (fun _ _=>False) I5 (stat fr5) st5 stop) (fun r s6 ⟨hr,I6⟩=>?_) fun _ _ z=>z.elim
      subst hr
      obtain ⟨m,hm,_⟩:=I6.loc
      exact fin _ _ H5 s6 m ⟨I3.sz,(I3.size_lt (Nat.le_refl _)).2⟩ I6.free hm (fun h2 sb=>I3.unblkG f3 (Nat.le_refl _) I6 sb) q
    · refine wpAny_mono (T.item (X.blkG scope zs ys s3.heap.objs.size fp s3 (upd H2 s2.heap.objs.size (.lst [])) (X.pn ++ pins)) rfl rfl rfl hc i [] s5 _ H5 (fun _ _=>False) I5 (stat fr5) st5 go) (fun r s6 ⟨u,hr,h6⟩=>?_) fun _ _ z=>z.elim
      subst hr
      refine wpAny_mono h6 (fun _ s7 ⟨y,H7,I7,r7,y7,st7,fr7⟩=>?_) fun _ _ z=>z.elim
      have I7':=I7.pinned (stat fr7) (T.obj _ _ st7)
      refine wpAny_mono (hg _ _ _ _ _ own' B.ndb _ s7 _ H7 y u _ I7' r7 (gok _ _ _ _ (step y H7 y7))) (fun _ s8 ⟨σ8,H8,I8,q8,l8,k8⟩=>?_) fun _ _ z=>z.elim
      have back:∀ {s9:Shared} {H9:Hp} {xs':List V},Inv (X.blkG scope zs ys s3.heap.objs.size fp s3 (upd H2 s2.heap.objs.size (.lst [])) (X.pn ++ pins)) ([] ++ xd0 fp s7.heap) σ8 H9 s9→(∃ m',m' < n∧W (i + 1) m' xs' H9) →
          ∃ m,m < n∧∃ i xs H',Inv (X.blkG scope zs ys s3.heap.objs.size fp s3 (upd H2 s2.heap.objs.size (.lst [])) (X.pn ++ pins)) [] (blk0 σ fr zs.length) H' s9∧tn i s9.heap∧(∀ b ∈ fp,H' b=none)∧W i m xs H':=fun {s9 H9 xs'} I9 ⟨m',lt,w9⟩=>by
        refine ⟨m',lt,i + 1,xs',H9,I9.unpinned.weak l8.symm (fun j v e=>?_),T.keep _ _ _ st7 fun b hb o e=>(I9.pin (b,o) (List.mem_append_right _ (List.mem_append_right _ (xcs hb e)))).1,fun b hb=>?_,w9⟩
        · by_cases lj:j < zs.length
          · unfold blk0 at e
            rw [List.getElem?_append_left (by rw [List.length_replicate]; exact lj),List.getElem?_replicate] at e
            split at e <;> cases e
          · rw [k8 j (by omega)]
            exact e
        obtain ⟨o,e,d⟩:=T.obj _ _ st7 b hb
        exact (I9.pin (b,o) (List.mem_append_right _ (List.mem_append_right _ (xcs hb e)))).2.1
      refine wpAny_mono (hif _ _ _ _ _ _ s8 _ H8 _ I8 q8) (fun ok s9 ⟨H9,I9,q9⟩=>?_) fun _ _ z=>z.elim
      cases ok with
      | false =>
        rw [if_neg (by decide)] at q9 ⊢
        exact back I9 q9
      | true =>
        rw [if_pos rfl] at q9 ⊢
        refine wpAny_mono (he _ _ _ _ _ _ s9 _ H9 _ I9 q9) (fun ev s10 ⟨yv,H10,I10,r10,hl,len,w10⟩=>?_) fun _ _ z=>z.elim
        refine wpAny_mono (xd1 (X:=X.blkG scope zs ys s3.heap.objs.size fp s3 (upd H2 s2.heap.objs.size (.lst [])) (X.pn ++ pins)) _ s10 _ H10 (.ref s2.heap.objs.size) [yv] (.ref s2.heap.objs.size) [ev] (fun v H'=>H'=upd H10 s2.heap.objs.size (.lst (xs ++ [yv]))) I10 rfl (.cons r10 .nil) ⟨_,xs,yv,rfl,rfl,hl,len,rfl⟩)
          (fun _ s11 ⟨_,H11,I11,_,e11⟩=>?_) fun _ _ z=>z.elim
        subst e11
        exact back I11 w10
  exact codeAny_compStart_list (loop _ rfl) (T.self _ 0 _ _ _ st4 (loop _ rfl))
theorem xgz (hc:X.calm=true) (B:BlkG X scope zs ys fr) (hi:PI X tg iter wi) (hg:∀ C ex s H pn,(∀ x ∈ zs,(relabel scope X.env).names.lookup x=some .local)→(zs ++ ys).Nodup→PG (X.blkG scope zs ys C ex s H pn) tg g) (gok:GOk zs.length g) (hif:∀ C ex s H pn,PIf (X.blkG scope zs ys C ex s H pn) ifs tc) (he:∀ C ex s H pn,PE (X.blkG scope zs ys C ex s H pn) elt te)
    (hs:∀ x,foldedSetIterable iter X.env x=pure x:=by intro _; rfl):PE X (.ListComp elt [⟨tg,iter,ifs,0⟩] scope pos) (xhi wi zs.length g fr tc te):=by
  intro pins s σ H Q I h
  rw [eval_ListComp]
  refine wpAny_comprehension_free (use:=none) rfl hs (xkg (B.cells I)) B.kind B.names (xff hc B hi hg gok hif he I h fun C l H' s' m _ _ hm iv q=>?_)
  exact ⟨m,hm,fun h2 sb=>⟨.ref l,H',iv h2 sb,rfl,q⟩⟩
theorem xdt {j:Nat} {y:Str} {py spos:Pos} (hc:X.calm=true) (B:BlkG X scope zs ys fr) (hi:PI X tg iter wi) (hg:∀ C ex s H pn,(∀ x ∈ zs,(relabel scope X.env).names.lookup x=some .local)→(zs ++ ys).Nodup→PG (X.blkG scope zs ys C ex s H pn) tg g) (gok:GOk zs.length g) (hif:∀ C ex s H pn,PIf (X.blkG scope zs ys C ex s H pn) ifs tc) (he:∀ C ex s H pn,PE (X.blkG scope zs ys C ex s H pn) elt te)
    (hj:X.N[j]?=some y) (hy:Loc X.env.scope y) (hf:X.fn y=true∨X.env.scope.names.lookup y=some .local:=by first | exact .inl rfl | exact .inr rfl | assumption)
    (hsw:swapsWith (.ListComp elt [⟨tg,iter,ifs,0⟩] scope pos) (some (.Name y py)) spos.line X.env=pure true:=by rfl)
    (hs:∀ x,foldedSetIterable iter X.env x=pure x:=by intro _; rfl):PS X (.Assign [.Name y py] (.ListComp elt [⟨tg,iter,ifs,0⟩] scope pos) spos) (tAsg (xhi wi zs.length g fr tc te) (xei j)):=by
  intro pins s σ H D I h
  rw [exec_Assign_Name_used _ _ _ _ hsw]
  refine wpAny_bind (wpAny_standAt (wpAny_bind ?_))
  show wpAny _ _ (do let _ ← comprehension (.ListComp elt [⟨tg,iter,ifs,0⟩] scope pos) scope X.env _ (newList []) false (eval iter X.env) (some (assign (.Name y py) X.env))) _ _ s
  refine wpAny_bind (wpAny_mono (wpAny_comprehension_free (use:=some (assign (.Name y py) X.env)) (Q:=fun _ s'=>SP X pins D .next s') rfl hs (xkg (B.cells I)) B.kind B.names
    (xff hc B hi hg gok hif he I h fun C l H' s' m hC hn hm iv q=>?_)) (fun _ s' z=>wpAny_pure (wpAny_pure z)) fun _ _ e=>e)
  show wpAny _ _ (assign (.Name y py) X.env (.ref l)) _ _ _
  have J:Inv X pins σ H' s':=iv s'.heap (.refl ..)
  refine wpAny_assign_Name (xfv (v:=V.ref l) J B.nd hj hy rfl (fun s2 J2 ⟨a,sb,ha⟩=>?_) hf)
  have na:a≠C:=by
    rcases ha with z | z
    · rw [z]; exact Ne.symm hC.2.1
    · exact hC.2.2.1 _ _ z
  refine ⟨m,?_,fun h2 s3=>?_⟩
  · obtain ⟨o,es,ep,g,r⟩:=hm
    exact ⟨o,es,ep,(sb.2 C (Ne.symm na)).trans g,r⟩
  · exact ⟨_,H',J2.turned (t':=s2.toks) (fun b o nb g=>(s3.2 b nb).trans g) hn (hC.2.1) (.inr hC.1) hC.2.2.1 hC.2.2.2,q⟩
end
def xj1 (scope sc0:Scope) (N0:List Str) (zs:List Str) (ys:List Str) (fr:List Nat):Bool :=
 scope.kind == .function && zs.all (fun x=>scope.names.lookup x == some .local) && scope.names.all (fun y=>y.2 != .cell) && scope.names.all (fun y=>y.2 != .local || scope.names.lookup y.1 == some .local) &&
 (xb9 scope).all (fun n=>sc0.names.lookup n == some .cell) && fr.map (fun i=>N0[i]?) == ys.map some && ys.all (fun y=>scope.names.lookup y == some .free) && decide N0.Nodup && decide (zs ++ ys).Nodup
theorem xcw {X:Cx} {scope sc0:Scope} {N0:List Str} {zs:List Str} {ys:List Str} {fr:List Nat} (chk:xj1 scope sc0 N0 zs ys fr=true) (es:X.env.scope=sc0) (eN:X.N=N0) (st:X.stack=X.env :: X.outer):BlkG X scope zs ys fr:=by
 unfold xj1 at chk
 simp only [Bool.and_eq_true,beq_iff_eq,List.all_eq_true,decide_eq_true_eq] at chk
 obtain ⟨⟨⟨⟨⟨⟨⟨⟨a1,a2⟩,a3⟩,a4⟩,a5⟩,a6⟩,a7⟩,a8⟩,a9⟩:=chk
 have nc:∀ y ∈ scope.names,y.2≠.cell:=fun y hy=>by simpa using a3 y hy
 refine ⟨a1,a2,nc,fun y hy hl=>?_,fun n hn=>by rw [es]; exact a5 n hn,fun n h=>xkp nc n h,by rw [eN]; exact a6,fun y hy=>?_,fun y hy=>xiu (a7 y hy),st,by rw [eN]; exact a8,a9⟩
 ·have z:=a4 y hy
  rw [hl] at z
  simpa using z
 ·exact List.mem_map.mpr ⟨(y,.free),List.mem_filter.mpr ⟨PySem.mem_of_lookup (a7 y hy),by simp⟩,rfl⟩
theorem xnf {K:PySem.W.Frag} {m n:Nat} {t:TGs} (h:∀ vs σ H Q,t vs σ H Q→t vs σ H (fun σ' H'=>Q σ' H'∧σ'.length=σ.length∧∀ i,n≤i→σ'[i]?=σ[i]?)):GOk n (gTup K m t):=fun v σ H Q q=>by
 obtain ⟨a,xs,e,hs,hl,q⟩:=q
 exact ⟨a,xs,e,hs,hl,h _ _ _ _ q⟩
theorem xk0 {n:Nat}:∀ vs σ H Q,gNil vs σ H Q→gNil vs σ H (fun σ' H'=>Q σ' H'∧σ'.length=σ.length∧∀ i,n≤i→σ'[i]?=σ[i]?):=fun vs σ H Q q=>⟨q.1,q.2,rfl,fun _ _=>rfl⟩
theorem xfw {i n:Nat} (hi:i < n) {t:TGs} (h:∀ vs σ H Q,t vs σ H Q→t vs σ H (fun σ' H'=>Q σ' H'∧σ'.length=σ.length∧∀ i,n≤i→σ'[i]?=σ[i]?)) :
    ∀ vs σ H Q,xil (xei i) t vs σ H Q→xil (xei i) t vs σ H (fun σ' H'=>Q σ' H'∧σ'.length=σ.length∧∀ i,n≤i→σ'[i]?=σ[i]?):=fun vs σ H Q q=>by
  obtain ⟨v,r,e,q⟩:=q
  refine ⟨v,r,e,?_⟩
  have z:=h _ _ _ _ q
  have e2:∀ (j:Nat),n≤j→(σ.set i (some v))[j]?=σ[j]?:=fun j hj=>by rw [List.getElem?_set_ne (by omega)]
  have e1:(σ.set i (some v)).length=σ.length:=by simp
  have key:(fun σ' H'=>Q σ' H'∧σ'.length=(σ.set i (some v)).length∧∀ j,n≤j→σ'[j]?=(σ.set i (some v))[j]?)=(fun σ' (H':Hp)=>Q σ' H'∧σ'.length=σ.length∧∀ j,n≤j→σ'[j]?=σ[j]?):=by
    funext σ' H'
    rw [e1]
    refine propext ⟨fun ⟨a,b,c⟩=>⟨a,b,fun j hj=>(c j hj).trans (e2 j hj)⟩,fun ⟨a,b,c⟩=>⟨a,b,fun j hj=>(c j hj).trans (e2 j hj).symm⟩⟩
  rw [key] at z
  exact z
theorem xet {J:It} {n:Nat} {g:TG} {σ:St} {fr:List Nat} {tc:TT} {te:TE} {l:Addr} {H1:Hp} {Q:VK} (len:Nat) (Pv:Nat→List V→Hp→Prop) (h0:Pv 0 [] (upd H1 l (.lst []))) (hgo:∀ i xs H,i < len→Pv i xs H→J.go i H)
    (step:∀ i xs H2 v H3,i < len→Pv i xs H2→J.yld i H2 v H3→∀ N:List V→Hp→Prop,(∀ xs' H',Pv (i + 1) xs' H'→N xs' H')→g v (blk0 σ fr n) H3 fun σ' H3'=>tc σ' H3' fun b H4=>if b=true then
      (te σ' H4 fun y H5=>H5 l=some (.lst xs)∧xs.length < sizeLine∧N (xs ++ [y]) (upd H5 l (.lst (xs ++ [y])))) else N xs H4)
    (fin:∀ xs H2,Pv len xs H2→J.stop len H2∧Q (.ref l) H2):xel J n g σ fr tc te l H1 Q:=by
  refine ⟨fun i m xs H=>m=len - i∧i≤len∧Pv i xs H,⟨len,by simp,Nat.zero_le _,h0⟩,?_⟩
  rintro i m xs H2 ⟨rfl,hi,p⟩
  by_cases lt:i < len
  · exact .inr ⟨hgo i xs H2 lt p,fun v H3 y=>step i xs H2 v H3 lt p y (fun xs' H'=>∃ m',m' < len - i∧m'=len - (i + 1)∧i + 1≤len∧Pv (i + 1) xs' H') fun xs' H' q=>⟨_,by omega,rfl,lt,q⟩⟩
  · have e:i=len:=by omega
    subst e
    exact .inl (fin xs H2 p)
end L2
set_option maxRecDepth 100000
namespace L2
open PySem PySem.Spec PyProof.Rows XL
variable {q0:Bool}
section
variable {X:Cx} {pins:List (Addr × Obj)} {σ:St} {H:Hp} {s:Shared}
theorem Inv.adopt {p:Addr} {o:HO} (I:Inv X pins σ H s) (n:H p=none) (h0:X.s₀.heap.objs.size≤p) (hL:p≠X.env.locals) (hC:∀ x c,X.env.cells.lookup x=some c→c≠p) (hp:∀ q ∈ X.pn ++ pins,q.1≠p)
    (new:xal X.prog X.w (upd H p o) s.heap p o):Inv X pins σ (upd H p o) s:=by
  have ne:∀ b u,H b=some u→b≠p:=fun b u e=>xo e n
  refine ⟨I.ok,I.os,I.bare,⟨I.base.keep,I.base.slot,fun b ob e hn hx=>?_,I.base.there,fun b xs e=>?_,fun b ob u e=>?_,fun b ps e=>?_⟩,I.loc,I.cell,?_,fun x c e=>?_,fun q hq=>?_,fun b u e=>?_,I.len⟩
  · rw [xj (Nat.ne_of_lt (Nat.lt_of_lt_of_le (Heap.lt_size e) h0))]
    exact I.base.free b ob e hn hx
  · have z:=I.base.tups b xs e
    rw [xj (ne b _ z)]
    exact z
  · have z:=I.base.frzs b ob u e
    rw [xj (ne b _ z)]
    exact z
  · obtain ⟨m,z⟩:=I.base.tbls b ps e
    exact ⟨m,by rw [xj (ne b _ z)]; exact z⟩
  · rw [xj (Ne.symm hL)]
    exact I.free
  · rw [xj (hC x c e)]
    exact I.freeC x c e
  · obtain ⟨a1,a2,a3⟩:=I.pin q hq
    exact ⟨a1,by rw [xj (hp q hq)]; exact a2,a3⟩
  · by_cases hb:b=p
    · subst hb
      rw [xf] at e
      cases e
      exact new
    · rw [xj hb] at e
      exact (I.hok b u e).stay (fun c v _ q=>q) (fun c q=>by rw [xj (ne c _ q)]; exact q) fun c xs q=>by rw [xj (ne c _ q)]; exact q
theorem Inv.thaw {d:Addr} {o:Obj} {u:HO} (I:Inv X pins σ H s) (e:H d=some (.frz o u)) (nf:∀ o' u',X.H₀ d≠some (.frz o' u')):Inv X pins σ (upd H d u) s:=by
 have ne:∀ b v,H b=some v→(∀ o' u',v≠.frz o' u')→b≠d:=fun b v h1 h2 z=>by
  subst z
  rw [e] at h1
  cases h1
  exact h2 _ _ rfl
 have ne0:∀ b,H b=none→b≠d:=fun b h1 z=>by
  subst z
  rw [e] at h1
  cases h1
 refine ⟨I.ok,I.os,I.bare,⟨I.base.keep,I.base.slot,fun b ob q hn hx=>?_,I.base.there,fun b xs q=>?_,fun b ob v q=>?_,fun b ps q=>?_⟩,I.loc,I.cell,?_,fun x c q=>?_,fun p hp=>?_,fun b v q=>?_,I.len⟩
 ·have z:=I.base.free b ob q hn hx
  rw [xj (ne0 b z)]
  exact z
 ·have z:=I.base.tups b xs q
  rw [xj (ne b _ z (fun _ _ h=>nomatch h))]
  exact z
 ·have z:=I.base.frzs b ob v q
  have hb:b≠d:=fun w=>by
   subst w
   exact nf _ _ q
  rw [xj hb]
  exact z
 ·obtain ⟨m,z⟩:=I.base.tbls b ps q
  exact ⟨m,by rw [xj (ne b _ z (fun _ _ h=>nomatch h))]; exact z⟩
 ·rw [xj (ne0 _ I.free)]
  exact I.free
 ·rw [xj (ne0 _ (I.freeC x c q))]
  exact I.freeC x c q
 ·obtain ⟨a1,a2,a3⟩:=I.pin p hp
  exact ⟨a1,by rw [xj (ne0 _ a2)]; exact a2,a3⟩
 ·have st:∀ (a:Addr) (v:HO),xal X.prog X.w H s.heap a v→xal X.prog X.w (upd H d u) s.heap a v:=fun a v k =>
   k.stay (fun c v _ q=>q) (fun c q=>by rw [xj (ne c _ q (fun _ _ h=>nomatch h))]; exact q) fun c xs q=>by rw [xj (ne c _ q (fun _ _ h=>nomatch h))]; exact q
  by_cases hb:b=d
  ·subst hb
   rw [xf] at q
   cases q
   obtain ⟨g,ok⟩:=I.hok b _ e
   exact st _ _ ok
  ·rw [xj hb] at q
   exact st _ _ (I.hok b v q)
theorem Inv.nofrz {d:Addr} {kvs:List (Key × V)} (I:Inv X pins σ H s) (e:H d=some (.dK kvs)):∀ o' u',X.H₀ d≠some (.frz o' u'):=fun o' u' z=>by
 have q:=I.base.frzs d o' u' z
 rw [e] at q
 cases q
theorem KV.get:∀ {kvs:List (Key × V)} {vs:List (Key × Value)} {i:Nat} {k:Key} {x:V},KV kvs vs→kvs[i]?=some (k,x)→∃ u,vs[i]?=some (k,u)∧RelV x u
 | _,_,_,_,_,.nil,e=>by simp at e
 | _,(_,_) :: _,0,_,_,.cons r _,e=>by
  simp at e
  subst e
  obtain ⟨r1,r2⟩:=r
  dsimp only at r1 r2
  subst r1
  exact ⟨_,rfl,r2⟩
 | _,_,i + 1,k,x,.cons _ t,e=>by
  obtain ⟨u,h1,h2⟩:=KV.get (i:=i) (k:=k) (x:=x) t (by simpa using e)
  exact ⟨u,by simpa using h1,h2⟩
theorem xoj {P:Program} {w:World} {k:Key} {u:Value} (h:(xaq P w).is k u=true):RelV (kV k) u:=by
 rcases xaw (show xdo k u=true from h) with ⟨i,t,rfl,rfl⟩ | ⟨x,t,rfl,rfl⟩
 ·exact ⟨t,rfl⟩
 ·exact ⟨t,rfl⟩
theorem xi9 {d:Addr} {o:Obj} {kvs:List (Key × V)} {ep:Nat} (I:Inv X pins σ H s) (e:H d=some (.frz o (.dK kvs))) (hep:∃ es,o.data=.dict es ep):∃ vs,KV kvs vs∧s.heap.DictAt (xaq X.prog X.w) d vs ep:=by
 obtain ⟨g,_,_,vs,rel,o',es',ep',g',ex,hdat,hk,hp,hn⟩:=I.hok d _ e
 rw [g] at g'
 cases g'
 obtain ⟨es,he⟩:=hep
 rw [he] at hdat
 cases hdat
 exact ⟨vs,rel,o,_,g,ex,he,hk,hp,hn⟩
end
def Iti (d:Addr) (o:Obj) (kvs:List (Key × V)):It :=
 ⟨fun i H=>H d=some (.frz o (.dK kvs))∧i < kvs.length,fun i H v H'=>∃ p k x,kvs[i]?=some (k,x)∧v=.ref p∧H p=none∧H'=upd H p (.tup [kV k,x]),fun i H=>H d=some (.frz o (.dK kvs))∧kvs.length≤i⟩
theorem xie {P:Program} {w:World} {K:PySem.W.Frag} {elts:List Expr} {x1} {tpos:Pos} (d it:Addr) (o:Obj) (kvs:List (Key × V)) (ep:Nat) (hep:∃ es,o.data=.dict es ep) :
    Turn P w K (.Tuple elts x1 tpos) (Iti d o kvs) [it] it (fun i h=>∃ ok ov,IsItemIter h it d i kvs.length ep ok ov) where
  mem:=by simp
  obj:=fun i h st b hb=>by
    have e:b=it:=by simpa using hb
    subst e
    obtain ⟨ok,ov,st⟩:=st
    exact ⟨_,st,fun v z=>by
      have z':Data.fields _=Data.cell v:=z
      cases z'⟩
  keep:=fun i h h' ⟨ok,ov,st⟩ k=>⟨ok,ov,k it (by simp) _ st⟩
  item:=by
    intro X hP hw hK hc i pins s σ H E I hf st hg
    subst hP hw hK
    obtain ⟨ok,ov,st⟩:=st
    obtain ⟨e,lt⟩:=hg
    obtain ⟨vs,rel,da⟩:=xi9 I e hep
    obtain ⟨f0,f1,f2,f3,f4,f5⟩:=hf it (by simp)
    have hl:kvs.length=vs.length:=rel.length
    obtain ⟨⟨k,x⟩,q⟩:∃ y,kvs[i]=y:=⟨_,rfl⟩
    have hx:kvs[i]?=some (k,x):=by rw [List.getElem?_eq_getElem lt,q]
    obtain ⟨u,hv,ru⟩:=rel.get hx
    rw [hl] at st
    refine wpAny_pyNext_items_item st da hv fun key h' hkey hout ht hz hkp=>?_
    refine ⟨_,rfl,wpAny_letOwnedTupleGo_items hout fun h'' hit' hsb=>?_⟩
    have kk:∀ b o,b≠it→s.heap.get? b=some o→h''.get? b=some o:=fun b o hb g=>(hsb.2 b hb).trans (hkp b o hb g)
    have I1:Inv X pins σ H { s with heap:=h'' }:=I.turned (t':=s.toks) kk f0 f1 f3 f4 f5
    obtain ⟨n0,nL,nC,nP⟩:=I.size_lt (Nat.le_refl s.heap.objs.size)
    have itlt:it < s.heap.objs.size:=Heap.lt_size st
    have pne:s.heap.objs.size≠it:=Nat.ne_of_gt itlt
    have hp:h''.get? s.heap.objs.size=some { cls:=.type "tuple",data:=.seq #[key,u] }:=(hsb.2 _ pne).trans ht
    refine ⟨.ref s.heap.objs.size,upd H s.heap.objs.size (.tup [kV k,x]),I1.adopt n0 I.sz nL nC nP ⟨by show 2≤sizeLine; decide,[key,u],.cons (xoj hkey) (.cons ru .nil),_,hp,rfl,_,rfl⟩,rfl,⟨_,k,x,hx,rfl,n0,rfl⟩,?_,fun b hb=>?_⟩
    · rw [← hl] at hit'
      exact ⟨_,_,hit'⟩
    · have e:b=it:=by simpa using hb
      subst e
      rw [xj (Ne.symm pne)]
      exact f0
  done:=by
    intro X hP hw hK hc i pins s σ H E I hf st hg
    subst hP hw hK
    obtain ⟨ok,ov,st⟩:=st
    obtain ⟨e,le⟩:=hg
    obtain ⟨vs,rel,da⟩:=xi9 I e hep
    obtain ⟨f0,f1,f2,f3,f4,f5⟩:=hf it (by simp)
    have hl:kvs.length=vs.length:=rel.length
    rw [hl] at st
    exact wpAny_pyNext_items_end (I.ok.hd hc) st da (by simpa using (by omega:vs.length≤i)) fun h' eb=>⟨rfl,I.turned (t':=s.toks) (fun b o hb e=>eb b o hb e) f0 f1 f3 f4 f5⟩
  self:=fun _ _ _ _ _ ⟨ok,ov,st⟩ h=>PySem.W.kcp_self st h
def xnu (X:Cx) (to:TE):TI:=fun σ H R=>to σ H fun x H1=>∃ d kvs,x=.ref d∧H1 d=some (.dK kvs)∧∀ ob,(∀ o' u',X.H₀ d≠some (.frz o' u'))→R (Iti d ob kvs) (upd H1 d (.frz ob (.dK kvs)))
section
variable {X:Cx} {o:Expr} {to:TE} {elts:List Expr} {x1:_} {tpos apos cpos:Pos}
theorem xlw (ho:PE X o to) (hbase:attributeBase o "items" X.env (eval o X.env)=eval o X.env:=by rfl) (hline:(apos.endLine == cpos.line)=true:=by rfl) :
    PI X (.Tuple elts x1 tpos) (.Call (.Attribute o "items" apos) [] [] cpos) (xnu X to):=by
  intro pins s σ H R I h
  refine wpAny_Call_method0_late hbase hline (thn (ho pins s σ H _ I h) fun v s1 ⟨x,H1,I1,r1,q1⟩=>?_)
  obtain ⟨d,kvs,e1,e,q⟩:=q1
  subst e1
  cases r1
  obtain ⟨z,hd,vs,rel,dd⟩:=xl7 I1.hok e
  obtain ⟨ob,es,ep,g,ex,hdat,hk,hp,hn⟩:=id dd
  refine ⟨"dict", "dict.items",PySem.F.plainAttrs_dict,PySem.F.slot_dict_items,PySem.F.type_dict_items,dd.typeIs,fun a e2=>?_,Calls.callWith_builtin rfl (PySem.evalArgs_none ?_)⟩
  · cases e2
    exact ⟨ob,g,ex.2.1⟩
  refine call_meetsIn PySem.F.slot_dict_items dd.typeIs PySem.F.entry_dict_items (PySem.F.args_dict_items_1 _) (meets_dict_items (xaq X.prog X.w) d hd) ⟨⟨vs,dd⟩,?_⟩
  have da:(s1.heap.push { cls:=.type "dict_items",data:=.fields #[.ref d] }).DictAt (xaq X.prog X.w) d vs ep:=⟨ob,es,Heap.get?_push_of_some _ g,ex,hdat,hk,hp,hn⟩
  refine wpAny_pyIter_items (s:={ s1 with heap:=s1.heap.push { cls:=.type "dict_items",data:=.fields #[.ref d] } }) ⟨_,Heap.get?_push_size _ rfl,rfl,rfl⟩ da ?_
  have I2:Inv X pins σ H1 { s1 with heap:=s1.heap.push { cls:=.type "dict_items",data:=.fields #[.ref d] } }:=I1.kept (t':=s1.toks) fun b o e=>Heap.get?_push_of_some _ e
  generalize hs2:({ s1 with heap:=s1.heap.push { cls:=.type "dict_items",data:=.fields #[.ref d] } }:Shared)=s2 at I2
  have g2:s2.heap.get? d=some ob:=by rw [← hs2]; exact Heap.get?_push_of_some _ g
  have I3:Inv X pins σ (upd H1 d (.frz ob (.dK kvs))) s2:=I2.write (t':=s2.toks) (x:=d) (e:=d) (by rw [e]; exact True.intro) (.inl rfl) (fun b u _ q=>q) ⟨ob,g2⟩ ⟨g2,I2.hok d _ e⟩
  have I4:Inv X pins σ (upd H1 d (.frz ob (.dK kvs))) { s2 with heap:=s2.heap.push { cls:=.type "dict_itemiterator",data:=.fields #[.none,.bool false,.ref d,.int 0 0,.int vs.length 0,.int ep 0,.none,.none] } } :=
    I3.kept (t':=s2.toks) fun b o e=>Heap.get?_push_of_some _ e
  have fin:PIE X pins σ (.Tuple elts x1 tpos) R (.ref s2.heap.objs.size) { s2 with heap:=s2.heap.push { cls:=.type "dict_itemiterator",data:=.fields #[.none,.bool false,.ref d,.int 0 0,.int vs.length 0,.int ep 0,.none,.none] } }:=by
    refine ⟨s2.heap.objs.size,[s2.heap.objs.size],_,_,upd H1 d (.frz ob (.dK kvs)),rfl,I4,xie d _ ob kvs ep ⟨es,hdat⟩,⟨.none,.none,?_⟩,fun b hb=>?_,q ob (I1.nofrz e)⟩
    · have hl:kvs.length=vs.length:=rel.length
      show IsItemIter _ _ d 0 kvs.length ep .none .none
      rw [hl]
      exact Heap.get?_push_size _ rfl
    · have eb:b=s2.heap.objs.size:=by simpa using hb
      subst eb
      exact I3.fpOk (Nat.le_refl _) (I3.hok.fresh (Nat.le_refl _))
  exact fin
theorem xla {pins:List (Addr × Obj)} {σ:St} {Q:VK} {u:Value} {s:Shared} (h:EP X pins σ (fun v H2=>∃ d ob u,H2 d=some (.frz ob u)∧(∀ o' u',X.H₀ d≠some (.frz o' u'))∧Q v (upd H2 d u)) u s):EP X pins σ Q u s:=by
 obtain ⟨v,H2,I2,r2,d,ob,u',e,nf,q⟩:=h
 exact ⟨v,_,I2.thaw e nf,r2,q⟩
theorem xm1 {e:Expr} {t:TE} (h:PE X e t):PE X e (fun σ H Q=>t σ H fun v H2=>∃ d ob u,H2 d=some (.frz ob u)∧(∀ o' u',X.H₀ d≠some (.frz o' u'))∧Q v (upd H2 d u)):=fun pins s σ H Q I q =>
 thn (h pins s σ H _ I q) fun _ _ z=>xla z
end
end L2
set_option maxRecDepth 100000
namespace PySem.F
end PySem.F
namespace L2
open PySem PySem.Spec PyProof.Rows XL
variable {q0:Bool}
section
variable {X:Cx} {pins:List (Addr × Obj)} {σ:St} {H:Hp} {s:Shared} {a:Addr} {y v:V} {u r:Value} {A:Around} {E:Value→Shared→Prop}
end
end L2
set_option maxRecDepth 100000
namespace L2
open PySem PySem.Spec PyProof.Rows XL
variable {q0:Bool}
section
variable {X:Cx} {tg:Expr}
end
theorem xeg {xs:List V} {us:List Value} (r:Vals xs us) {j:Nat} (h:j < us.toArray.size):∃ x,xs[j]?=some x∧RelV x us.toArray[j]:=by
 have hl:=r.length
 have hj:j < xs.length:=by simp at h; omega
 obtain ⟨u,h1,h2⟩:=r.get (x:=xs[j]) (List.getElem?_eq_getElem hj)
 refine ⟨xs[j],List.getElem?_eq_getElem hj,?_⟩
 have:us.toArray[j]=u:=by
  have z:=List.getElem?_eq_some_iff.mp h1
  obtain ⟨z1,z2⟩:=z
  simpa using z2
 rw [this]
 exact h2
section
variable {X:Cx} {pins:List (Addr × Obj)} {σ:St} {H:Hp} {s:Shared}
end
theorem xdh {A:Around} {k:Nat} (hr:Room q0 k A):A.units + 20 < cLine:=by have:=hr.un; omega
theorem xjb {X:Cx}:xb0 X (.builtin "len") (fun xs H Q=>∃ a kvs,xs=[.ref a]∧H a=some (.dK kvs)∧Q (.int kvs.length) H):=by
 intro pins s σ H xs us Q I r h
 obtain ⟨a,kvs,rfl,e,q⟩:=h
 obtain ⟨u,rfl,rx⟩:=xch r
 obtain rfl:u=Value.ref a:=rx
 exact xpm I (.inl e) fun t s' I'=>⟨.int _,H,I',⟨t,rfl⟩,q⟩
inductive Ents (w:World):List DictEntry→List (Key × V)→Prop
 | nil:Ents w [] []
 | cons {k:Key} {x:V} {key val:Value} {h:Int} {es:List DictEntry} {kvs:List (Key × V)} (hh:h=keyH w k) (hk:RelV (kV k) key) (hv:RelV x val) (r:Ents w es kvs):Ents w (⟨h,key,val⟩ :: es) ((k,x) :: kvs)
def xij (w:World) (K:PySem.W.Frag) (D:Addr) (kvs:List (Key × V)):Prop:=(D == sysModules)=false∧∃ (es:Array DictEntry) (ep:Nat),K.lookup D=some ⟨.type "dict",none,.dict es ep,#[]⟩∧Ents w es.toList kvs∧(kvs.map (·.1)).Nodup
theorem Ents.ok {P:Program} {w:World} {es:List DictEntry} {kvs:List (Key × V)} (h:Ents w es kvs):∃ vs,KV kvs vs∧Pairs (xaq P w) es vs∧∀ e ∈ es,∃ k,(xaq P w).is k e.key=true∧e.hash=(xaq P w).hash k:=by
 induction h with
 | nil=>exact ⟨[],.nil,.nil,fun e z=>nomatch z⟩
 | @cons k x key val h es kvs hh hk hv _ ih =>
  obtain ⟨vs,a,b,c⟩:=ih
  refine ⟨(k,val) :: vs,.cons ⟨rfl,hv⟩ a,.cons (xef hk) rfl b,fun e he=>?_⟩
  rcases List.mem_cons.mp he with rfl | z
  ·exact ⟨k,xef hk,hh⟩
  ·exact c e z
section
variable {X:Cx} {pins:List (Addr × Obj)} {σ:St} {H:Hp} {s:Shared} {D:Addr} {kvs:List (Key × V)}
theorem xlf (I:Inv X pins σ H s) (g:xij X.w X.K D kvs):∃ vs,KV kvs vs∧s.heap.DictOf (xaq X.prog X.w) D vs:=by
 obtain ⟨_,es,ep,l,en,nd⟩:=g
 obtain ⟨vs,a,b,c⟩:=en.ok (P:=X.prog)
 refine ⟨vs,a,_,es,ep,I.kIn _ _ l,⟨rfl,rfl,rfl⟩,rfl,fun e he=>c e (by simpa using he),b,?_⟩
 rw [← a.keys]
 exact nd
def tGIn (kvs:List (Key × V)) (neg:Bool) (ty:TE):TE:=fun σ H Q=>ty σ H fun y H1=>∃ k:Key,y=kV k∧Q (.bl (if neg then !(valV kvs k).isSome else (valV kvs k).isSome)) H1
theorem xjn {i:Expr} {ty:TE} {x:Str} {p:Pos} (hi:PE X i ty) (hg:Gl X x) (hm:X.mg x=some (.ref D)) (g:xij X.w X.K D kvs) (hd:(x == ("__debug__":Str))=false:=by decide):PC X .NotIn i (.Name x p) (tGIn kvs true ty):=by
 intro pins s σ H Q I h
 refine thn (hi pins s σ H _ I h) fun iv s1 ⟨y,H1,I1,ry,k,ey,q1⟩=>thn (xbd (v:=.ref D) hg hm rfl hd pins s1 σ H1 (fun v H2=>v=.ref D∧H2=H1) I1 ⟨rfl,rfl⟩) fun u s2 ⟨x,H2,I2,rx,e1,e2⟩=>?_
 subst ey e1 e2
 obtain rfl:u=Value.ref D:=rx
 obtain ⟨vs,rel,dd⟩:=xlf I2 g
 refine wpAny_notIn_of (xef ry) g.1 dd.mapOf ?_
 rw [← (rel.val k).isSome_eq]
 exact ⟨.bl _,_,I2.tok _,rfl,q1⟩
end
end L2
set_option maxRecDepth 100000
namespace L2
open PySem PySem.Spec PyProof.Rows XL
variable {q0:Bool}
end L2
set_option maxRecDepth 100000
namespace L2
open PySem PySem.Spec PyProof.Rows XL
variable {q0:Bool}
section
variable {X:Cx} {pins:List (Addr × Obj)} {σ:St} {H:Hp} {s:Shared} {h':Heap}
theorem Inv.turnedL {t':Nat} {ch:List Addr} (I:Inv X pins σ H s) (k:∀ b o,b ∉ ch→s.heap.get? b=some o→h'.get? b=some o) (hf:∀ b ∈ ch,FpOk X pins H b):Inv X pins σ H { s with heap:=h',toks:=t' }:=by
 have nit:∀ b u,H b=some u→b ∉ ch:=fun b u e z=>by
  have:=(hf b z).1
  rw [this] at e
  cases e
 refine I.step (g':=s.gens) (d':=s.drawn) (ch:=ch) (fun b hb=>?_) (fun b o _ _ hc e _=>k b o hc e) (fun b o _ _ hc e _=>⟨o.slots,k b o hc e⟩) (fun _ _ _ _ n=>n)
  (fun b o hc e=>⟨o,k b o hc e⟩) (fun _ _ e=>e) (fun _ _ _ e=>e) (fun b ps e=>⟨#[],by rw [e]; simp⟩) (fun m hm=>?_) (fun b u e=>?_) I.bare
 ·obtain ⟨f0,f1,f2,f3,f4,f5⟩:=hf b hb
  exact ⟨f3,f1,f4,f5⟩
 ·obtain ⟨o,es,ep,ho,r⟩:=hm
  exact ⟨o,es,ep,k _ o (fun z=>(hf _ z).2.1 rfl) ho,r⟩
 ·refine (I.hok b u e).stay (fun c v hc q=>k c v ?_ q) (fun _ q=>q) fun _ _ q=>q
  rcases hc with z | z
  ·rw [z]; exact nit b u e
  ·exact nit c _ z
end
section
variable {X:Cx} {tg:Expr}
end
theorem xnz {a b:Nat} (h:a≠b):(a:Addr)≠(b:Addr):=h
section
variable {X:Cx} {elts:List Expr} {x1:_} {tpos:Pos}
end
end L2
set_option maxRecDepth 100000
namespace L2
open PySem PySem.Spec PyProof.Rows XL
variable {q0:Bool}
section
variable {X:Cx} {elts:List Expr} {x1:_} {tpos:Pos}
end
end L2
namespace L2
open PySem PySem.Spec PyProof.Rows XL
end L2
set_option maxRecDepth 100000
namespace L2
open PySem PySem.Spec PyProof.Rows XL
def tMid (t:TS):TS:=fun D σ H=>∃ Pv:St→Hp→Prop,t { D with nx:=Pv } σ H∧∀ σ' H',Pv σ' H'→D.nx σ' H'
theorem xdy {X:Cx} {st:Stmt} {t:TS} (h:PS X st t):PS X st (tMid t):=by
 intro pins s σ H D I q
 obtain ⟨Pv,q1,q2⟩:=q
 refine thn (h pins s σ H { D with nx:=Pv } I q1) fun fl s1 z=>?_
 cases fl with
 | next =>
  obtain ⟨σ',H',I',r⟩:=z
  exact ⟨σ',H',I',q2 _ _ r⟩
 | _=>exact z
end L2
set_option maxRecDepth 100000
namespace XL
open PySem PySem.W
def xno0 (K:Frag) (C:Addr):Bool:=match K.lookup C with
 | some ⟨_,_,.cls cd,_⟩=>xdm K cd.ns
 | _=>false
section
variable {prog:Program} {w:World} {A:Around} {E:Value→Shared→Prop} {h:Heap} {g:Array GenState} {d:Drawn} {t:Nat} {os:OsState}
variable {nm qn:Str} {C N:Addr} {bs bm bmB:List Value} {hz:Bool} {sn:List Str} {sub:List Value} {ab:Bool} {col:Option Bool} {dd:Option Addr} {k0 k1 k2 k3 k5:Option Value} {B ni ii:String}
theorem xis (F:ExcBaseFacts B ni ii bmB) (T:OwnTail h bmB bm) {mN:Str→Option Value} {Q:Fin→Shared→Prop}
    (gC:h.get? C=some (excClassObj nm qn C N bs bm hz sn sub ab col dd k0 k1 k2 k3 k5 ni)) (nN:h.Ns N mN) (iN:mN "__init__"=none)
    (kq:∀ h' e,Heap.MadeExcOf h h' e (.ref C) []→h.objs.size≤e→Q (.done (.ret (.ref e))) ⟨h',g,d,t,os⟩) :
    wpAny (model prog w) A (Builtin.«type.__call__» ⟨[.ref C],[]⟩) Q E ⟨h,g,d,t,os⟩:=by
  repeat (first | with_reducible refine wpAny_loadPart_at gC ?_ | with_reducible refine wpAny_madeBy_exc gC ?_ | wp_step)
  refine codeAny_call_builtin_code (Code.quiet_builtin _ F.quiet) (wpAny_check_new_subT F T gC ?_)
  refine codeAny_exc_new_subT F T gC ?_ (Nat.zero_le _)
  change wpAny _ _ _ _ _ _
  generalize e1:({ cls:=.type "tuple",data:=.seq ([]:List Value).toArray }:Obj)=oT
  have fT:oT.isFreed=false:=by rw [← e1]; rfl
  generalize e2:({ cls:=.ref C,data:=.fields #[.ref h.objs.size,.none,.none,.none,.bool false,.none] }:Obj)=oE
  have fE:oE.isFreed=false:=by rw [← e2]; rfl
  have up:∀ b o,h.get? b=some o→((h.push oT).push oE).get? b=some o:=fun b o q=>Heap.get?_push_of_some oE (Heap.get?_push_of_some oT q)
  have gC':=up _ _ gC
  have nN':((h.push oT).push oE).Ns N mN:=let ⟨o,es,ep,e,r⟩:=nN; ⟨o,es,ep,up _ _ e,r⟩
  have T':=T.keeps up
  have gE:((h.push oT).push oE).get? (h.objs.size + 1)=some oE:=by
    have z:=Heap.get?_push_size (h.push oT) fE
    rwa [Heap.size_push] at z
  have cE:oE.cls=.ref C:=by rw [← e2]
  have me:(Value.ref C :: bm).contains (.ref C)=true:=by simp
  unfold isInstance
  repeat (first | (with_reducible refine wpAny_loadPart_at gE ?_; rw [cE]) | (with_reducible refine wpAny_isSubtype_exc gC' ?_; rw [me]) | wp_step)
  change wpAny _ _ (typeLookup (Value.ref C) _) _ _ _
  refine wpAny_typeLookup_tail gC' nN' T' F.mroIs F.init.lookup ?_
  rw [iN]
  refine wpAny_holding (wpAny_bind (wpAny_of_eq (F.init.bind _) ?_))
  refine wpAny_bind (wpAny_call (codeAny_call_builtin F.init.plain F.initEntry (wpAny_check_init_subT F T' gC' gE cE ?_)))
  subst e2
  wp_walk
  refine kq _ (h.objs.size + 1) ⟨fun b o hb=>?_,Heap.get?_none_of_le (Nat.le_succ _),h.objs.size + 2,?_,Heap.get?_none_of_le (by omega),?_⟩ (Nat.le_succ _)
  · rw [Heap.get?_update_other _ _ (Nat.ne_of_gt (Nat.lt_succ_of_lt (Heap.lt_size hb)))]
    exact Heap.get?_push_of_some _ (up _ _ hb)
  · rw [Heap.get?_update_self _ (Heap.get?_push_of_some _ gE) rfl]
    simp only [Heap.size_push]
    rfl
  · rw [Heap.get?_update_other _ _ (show h.objs.size + 1≠h.objs.size + 2 by omega)]
    exact Heap.get?_push_at (by simp only [Heap.size_push]) rfl
theorem xkk (F:ExcBaseFacts B ni ii bmB) (T:OwnTail h bmB bm) {mN:Str→Option Value} {Q:Value→Shared→Prop}
    (gC:h.get? C=some (excClassObj nm qn C N bs bm hz sn sub ab col dd k0 k1 k2 k3 k5 ni)) (nN:h.Ns N mN) (iN:mN "__init__"=none)
    (kq:∀ h' e,Heap.MadeExcOf h h' e (.ref C) []→h.objs.size≤e→Q (.ref e) ⟨h',g,d,t,os⟩):wpAny (model prog w) A (call (.ref C) []) Q E ⟨h,g,d,t,os⟩:=by
  have a1:=tc_lookup
  have a2:=tc_bind (.ref C)
  have ty:(⟨h,g,d,t,os⟩:Shared).TypeIs (.ref C) "type":=⟨_,gC,rfl⟩
  refine wpAny_call (codeAny_of_tree ?_)
  change wpAny _ _ (callAny (Value.ref C) _) _ _ _
  repeat (any_goals (first | assumption | with_reducible refine wpAny_loadPart_at gC ?_ | wp_step))
  refine ⟨rfl,?_⟩
  refine codeAny_call_builtin_at (Code.quiet_builtin _ (by decide +kernel)) entry_typeCall (wpAny_check_type_call_sub gC (xis F T gC nN iN fun h' e hm hs=>?_))
  exact kq h' e hm hs
end
end XL
namespace L2
open PySem PySem.Spec PyProof.Rows XL
variable {q0:Bool}
def xpw (C:Addr):TE:=fun σ H Q=>∀ e,H e=none→Q (.ref e) (upd H e (XN e C none))
section
variable {X:Cx} {C:Addr} {x:Str} {p pos:Pos}
theorem xm2 (mk:xau X.K C=true) (no:xno0 X.K C=true) (kp:PySem.W.keepIn X.K (.ref C)=true) (hg:Gl X x) (hm:X.mg x=some (.ref C)) (hdb:(x == ("__debug__":Str))=false:=by decide) :
    PE X (.Call (.Name x p) [] [] pos) (xpw C):=by
  intro pins s σ H Q I h
  refine wpAny_Call_Name_kw (xcv I hg hm ?_ hdb)
  refine PySem.W.callWith_K0 I.kIn kp ?_
  obtain ⟨nm,qn,N,bs,bm,hz,sn,sub,ab,col,dd,k0,k1,k2,k3,k5,gC,T⟩:=xd9 I.kIn mk
  obtain ⟨mN,hn,hni⟩:∃ mN,s.heap.Ns N mN∧mN "__init__"=none:=by
    unfold xno0 at no
    split at no
    · rename_i c d cd sl ho
      have z:=(I.kIn _ _ ho).symm.trans gC
      injection z with z
      injection z with _ _ z _
      injection z with z
      rw [z] at no
      exact xl2 I.kIn no
    · cases no
  obtain ⟨hh,gg,d,tk,os⟩:=s
  refine xkk PySem.F.excBase_ValueError T gC hn hni (fun h' e hm se=>?_)
  have hn':H e=none:=I.hok.fresh se
  obtain ⟨t0,ge,_,_⟩:=hm.there
  have xa:Xat h' e (.ref C) none none:=⟨_,_,ge,rfl,rfl,rfl,by simp,.inl ⟨rfl,rfl⟩⟩
  exact ⟨.ref e,_,I.laid (t':=tk) hm.keeps se (xi0 xa),rfl,h e hn'⟩
end
section
variable {X:Cx} {pos np hpos np1 np2 hpos1 hpos2:Pos} {body hbody hbody1 hbody2:List Stmt} {b0 b1 b2:Stmt} {cx cx1 cx2 n:Str} {C0 C1 C2:Addr} {j:Nat} {E:St→XK} {tb th th1 th2:TS} {rest:List ExceptHandler}
end
end L2
set_option maxRecDepth 100000
namespace L2
open PySem PySem.Spec PyProof.Rows XL
def xmq (r r' r2:R2) (ta tb tc td:TE):TE:=fun σ H Q=>ta σ H fun x H1=>tb σ H1 fun y H2=>r x y H2 fun z H3=>∃ k,z=.bl k ∧
 (if k=true then tc σ H3 fun w' H4=>r' y w' H4 fun z2 H5=>∃ k2,z2=.bl k2∧(if k2=true then td σ H5 fun v' H6=>r2 w' v' H6 Q else Q (.bl false) H5) else Q (.bl false) H3)
section
variable {X:Cx} {a b c d:Expr} {ta tb tc td:TE} {pos:Pos}
theorem xjd {op op' op2:CmpOp} {r r' r2:R2} (ho:OpR X (compareOp op) r) (ho':OpR X (compareOp op') r') (ho2:OpR X (compareOp op2) r2) (ha:PE X a ta) (hb:PE X b tb) (hc:PE X c tc) (hd:PE X d td)
    (hm:lastMarks [op,op',op2] [b,c,d]=false:=by with_unfolding_all rfl):PT X (.Compare a [op,op',op2] [b,c,d] pos) (xi2 (xmq r r' r2 ta tb tc td)):=by
  intro pins s σ H Q I h
  refine isTrue_chain (thn (ha pins s σ H _ I h) fun v s1 ⟨x,H1,I1,r1,q1⟩=>test_link (thn (hb pins s1 σ H1 _ I1 q1) fun u s2 ⟨y,H2,I2,r2',q2⟩ =>
    thn (ho pins s2 σ H2 x y v u _ I2 r1 r2' q2) fun d1 s3 ⟨z,H3,I3,r3,k,e,q3⟩=>?_)) hm
  subst e
  cases r3
  refine wpAny_truthy_bool ?_
  cases k with
  | false =>
    obtain ⟨k',e',q'⟩:=q3
    cases e'
    exact ite_ff ⟨H3,I3,q'⟩
  | true =>
    refine ite_tt (test_link (thn (hc pins s3 σ H3 _ I3 q3) fun w' s4 ⟨z',H4,I4,r4,q4⟩=>thn (ho' pins s4 σ H4 y z' u w' _ I4 r2' r4 q4) fun d' s5 ⟨z2,H5,I5,r5,k2,e2,q5⟩=>?_))
    subst e2
    cases r5
    refine wpAny_truthy_bool ?_
    cases k2 with
    | false =>
      obtain ⟨k',e',q'⟩:=q5
      cases e'
      exact ite_ff ⟨H5,I5,q'⟩
    | true =>
      refine ite_tt (test_last (thn (hd pins s5 σ H5 _ I5 q5) fun w2 s6 ⟨z3,H6,I6,r6,q6⟩=>thn (ho2 pins s6 σ H6 z' z3 w' w2 _ I6 r4 r6 q6) fun d2 s7 ⟨z4,H7,I7,r7,k3,e3,q7⟩=>?_))
      subst e3
      cases r7
      exact wpAny_truthy_bool ⟨H7,I7,q7⟩
end
end L2
set_option maxRecDepth 100000
set_option maxHeartbeats 4000000
namespace L2
open PySem PySem.Calls PyProof PyProof.Rows
def eU (e:V→Bool) (u:Value):Bool:=match absV u with | some y=>e y | none=>false
theorem xme {e:V→Bool} {y:V} {u:Value} (r:RelV y u):eU e u=e y:=by unfold eU; rw [r.abs]
theorem xj8 {e:V→Bool}:∀ {xs:List V} {us:List Value},Vals xs us→us.any (eU e)=xs.any e
 | _,_,.nil=>rfl
 | y :: xs,u :: us,.cons r t=>by rw [List.any_cons,List.any_cons,xme r,xj8 t]
theorem xh2:∀ {xs:List V} {us:List Value},Vals xs us→∀ u ∈ us,∃ y ∈ xs,RelV y u
 | _,_,.nil=>fun u hu=>nomatch hu
 | y :: xs,u :: us,.cons r t=>fun u' hu=>by
  rcases List.mem_cons.mp hu with rfl | hu
  ·exact ⟨y,List.mem_cons_self,r⟩
  ·obtain ⟨z,h1,h2⟩:=xh2 t u' hu
   exact ⟨z,List.mem_cons_of_mem _ h1,h2⟩
section
variable {X:Cx}
end
end L2
set_option maxRecDepth 100000
namespace PySem.F
end PySem.F
namespace L2
open PySem PySem.Spec PyProof.Rows XL
variable {q0:Bool}
end L2
set_option maxRecDepth 100000
namespace L2
open PySem PySem.Spec PyProof.Rows XL
variable {q0:Bool}
section
variable {z TI TO i1 i2 l1 l2:Addr} {P:Nat→Prop} {i:Nat} {h:Heap}
end
end L2
set_option maxRecDepth 100000
namespace L2
open PySem PySem.Spec PyProof.Rows XL
variable {q0:Bool}
end L2
set_option maxRecDepth 100000
namespace L2
open PySem PySem.Spec PyProof.Rows XL
variable {q0:Bool}
section
variable {X:Cx} {pos np1 np2 np3 hpos1 hpos2 hpos3:Pos} {body hbody1 hbody2 hbody3:List Stmt} {rest:List ExceptHandler} {b1 b2 b3:Stmt} {cx1 cx2 cx3 n:Str} {C1 C2 C3:Addr} {j:Nat} {E:St→XK} {tb th1 th2 th3:TS}
end
theorem FnOk.or {P:Program} {w:World} {K:PySem.W.Frag} {mg:Str→Option Value} {base:Heap} {CX:CXT} {k:Nat} {f:Addr} {fd:FuncData} {ps:List Str} {s1 s2:Sp} (F:FnOk q0 P w K mg base CX k f fd ps s1) (G:FnOk q0 P w K mg base CX k f fd ps s2) :
    FnOk q0 P w K mg base CX k f fd ps (fun vs H Q E=>s1 vs H Q E∨s2 vs H Q E) :=
  ⟨fun vs H Q E h=>h.elim (F.len vs H Q E) (G.len vs H Q E),fun A outer s H args us vs Q E hr e0 b v h=>h.elim (F.run A outer s H args us vs Q E hr e0 b v) (G.run A outer s H args us vs Q E hr e0 b v)⟩
end L2
set_option maxRecDepth 100000
namespace L2
open PySem PySem.Spec PyProof.Rows XL PySem.W
variable {q0:Bool}
theorem xfm {prog:Program} {w:World} {A:Around} {E:Value→Shared→Prop} {s:Shared} {a:Addr} {vs:List Value} {n:Nat} {P:PySem.Fin→Shared→Prop}
    (h:s.heap.get? a=some (seqObj "list" vs.toArray n)) (h2:2≤vs.length) (h64:vs.length < 64)
    (hk:∀ s':Shared,s'.heap=(((s.heap.update a (Obj.mapSeq fun x=>#[])).push (seqObj "tuple" vs.toArray 0)).push (seqObj "list" #[] 0))→s'={ s with heap:=s'.heap } →
      wpAny (model prog w) A (keyKind' vs.toArray) (fun κ s''=>s''=s'∧KasT.kasWp (kas_ask prog w A κ vs) (kas_sort vs.length) (fun p s3=>s3=s'∧P (.done (.ret .none)) { s with heap:=sortedHeap s.heap a vs (p.map fun i=>vs.getD i .none) }) s'') (fun _ _=>False) s') :
    wpAny (model prog w) A (Builtin.«list.sort» { pos:=[.ref a] }) P E s:=by
  obtain ⟨hp,g,d,tk,os⟩:=s
  rw [list_sort_plain]
  repeat (any_goals (first | assumption | wp_step))
  have z:¬ vs.toArray.toList.toArray.size > sizeLine:=by
    simp
    exact Nat.le_of_lt (Nat.lt_trans h64 (by decide))
  rw [if_neg z]
  generalize keyKind' vs.toArray=kk at hk ⊢
  repeat (any_goals (first | assumption | wp_step))
  have hk':=hk { heap:=((hp.update a (Obj.mapSeq fun x=>#[])).push (seqObj "tuple" vs.toArray 0)).push (seqObj "list" #[] 0),gens:=g,drawn:=d,toks:=tk,os:=os } rfl rfl
  refine wpAny_mono hk' (fun κ s'' z=>?_) (fun _ _ z=>z.elim)
  obtain ⟨e,q⟩:=z
  subst e
  show wpAny _ _ (StateT.run (if vs.toArray.size < 2 then pure () else sortRuns') _ >>= _) _ _ _
  rw [if_neg (by simp; omega)]
  refine wpAny_bind (wpAny_mono (kat_run (E:=E) (Q:=fun st' s'=>∃ p:Array Nat,p.size=vs.length∧arrOf st'=Array.map (kas_item (vs.toArray.zip vs.toArray)) p∧failedOf st'=none∧s'=_∧P (.done (.ret .none)) { heap:=sortedHeap hp a vs (p.map fun i=>vs.getD i .none),gens:=g,drawn:=d,toks:=tk,os:=os }) rfl h2 h64 (fun p st' s' hp' e f q'=>⟨p,hp',e,f,q'.1,q'.2⟩) q) (fun r s' z=>?_) fun _ _ z=>z)
  obtain ⟨u,st⟩:=r
  obtain ⟨p,psz,e,f,rfl,q'⟩:=z
  have al:a < hp.objs.size:=Heap.lt_size h
  have g1:(((hp.update a (Obj.mapSeq fun x=>#[])).push (seqObj "tuple" vs.toArray 0)).push (seqObj "list" #[] 0)).get? a=some (seqObj "list" #[] (n + 1)):=by
    refine Heap.get?_push_of_some _ (Heap.get?_push_of_some _ ?_)
    rw [Heap.get?_update_self _ h rfl]
    have z:((0:Nat) == vs.length)=false:=by
      cases vs with
      | nil=>simp at h2
      | cons=>rfl
    simp [Obj.mapSeq,z]
  have e2:(if (((fun x=>#[]) vs.toArray:Array Value).size == vs.toArray.size)=true then n else n + 1)=n + 1:=by
    rw [if_neg]
    simp
    omega
  simp only [e2,f]
  have e3:Array.map (fun x=>x.snd) (arrOf st)=p.map fun i=>vs.getD i .none:=by
    rw [e,Array.map_map]
    congr 1
    funext i
    show (kas_item (vs.toArray.zip vs.toArray) i).snd=_
    unfold kas_item
    by_cases c:i < vs.length
    · simp [List.getElem?_eq_getElem c,c]
    · simp [List.getElem?_eq_none (by omega:vs.length≤i),c]
  simp only [e3]
  repeat (any_goals (first | assumption | wp_step))
  have e4:(Obj.mapSeq (fun x=>Array.map (fun i=>vs.getD i Value.none) p) (seqObj "list" #[] (n + 1))).data.pastItsLine=none:=by
    show (if (Array.map (fun i=>vs.getD i Value.none) p).size > sizeLine + 1 then _ else none)=none
    rw [if_neg]
    rw [Array.size_map,psz]
    have:vs.length < sizeLine:=Nat.lt_trans h64 (by decide)
    omega
  rw [e4]
  refine wpAny_pure ?_
  rw [f]
  show wpAny _ _ (if (n + 1 != n + 1)=true then _ else _) _ _ _
  rw [if_neg (by simp)]
  exact wpAny_pure q'
theorem xhe {prog:Program} {w:World} {A:Around} {E:Value→Shared→Prop} {s:Shared} {it d:Addr} {i ep:Nat} {o:Obj} {es:Array DictEntry} {en:DictEntry} {Q:Option Value→Shared→Prop}
    (st:s.heap.IsKeyIter it d i es.size ep) (hd:s.heap.get? d=some o) (hx:o.ExactDict) (hdat:o.data=.dict es ep) (hi:es[i]?=some en)
    (h:∀ h',h'.IsKeyIter it d (i + 1) es.size ep→Heap.SameBut it s.heap h'→Q (some en.key) { s with heap:=h' }):wpAny (model prog w) A (pyNext (.ref it)) Q E s:=by
  unfold pyNext
  refine wpAny_bind (wpAny_attempt (wpAny_callSpecial?_slot st.typeIs F.slot_dict_keyiterator_next ?_))
  refine wpAny_call_entry F.slot_dict_keyiterator_next st.typeIs F.entry_dict_keyiterator_next ?_ (F.args_dict_keyiterator_next_1 _)
  have ti:=st.typeIs
  obtain ⟨hp,g,dr,tk,os⟩:=s
  obtain ⟨⟨c,dct,dat,sl⟩,hit,ci,di⟩:=st
  simp only at ci di
  subst ci di
  unfold Builtin.«dict_keyiterator.__next__»
  repeat (any_goals (first | assumption | (with_reducible refine wpAny_typeNameOfWhole_keyiter ti ?_) | (with_reducible refine wpAny_isOneOf_keyiter ti ?_) | (with_reducible refine wpAny_dictEntries hd hdat ?_) | (with_reducible refine wpAny_dictEpoch hd hdat ?_) | wp_step))
  have e1:(if (i:Int) < 0 then none else es[(i:Int).toNat]?)=some en:=by
    rw [if_neg (by omega),Int.toNat_natCast]
    exact hi
  rw [e1]
  repeat (any_goals (first | assumption | (with_reducible refine wpAny_typeNameOfWhole_keyiter ti ?_) | (with_reducible refine wpAny_isOneOf_keyiter ti ?_) | (with_reducible refine wpAny_dictEntries hd hdat ?_) | (with_reducible refine wpAny_dictEpoch hd hdat ?_) | wp_step))
  refine ⟨_,rfl,wpAny_pure (h _ ?_ (Heap.SameBut.update _ _ _))⟩
  refine ⟨_,Heap.get?_update_self _ hit rfl,rfl,?_⟩
  rfl
theorem xhk {prog:Program} {w:World} {A:Around} {E:Value→Shared→Prop} {s:Shared} {it d:Addr} {ep:Nat} {o:Obj} {es:Array DictEntry} {Q:Option Value→Shared→Prop}
    (hA:A.handled=none) (st:s.heap.IsKeyIter it d es.size es.size ep) (hd:s.heap.get? d=some o) (hx:o.ExactDict) (hdat:o.data=.dict es ep)
    (h:∀ h',Heap.ExtBut it s.heap h'→Q none { s with heap:=h' }):wpAny (model prog w) A (pyNext (.ref it)) Q E s:=by
  unfold pyNext
  refine wpAny_bind (wpAny_attempt (wpAny_callSpecial?_slot st.typeIs F.slot_dict_keyiterator_next ?_))
  refine wpAny_call_entry F.slot_dict_keyiterator_next st.typeIs F.entry_dict_keyiterator_next ?_ (F.args_dict_keyiterator_next_1 _)
  have ti:=st.typeIs
  obtain ⟨hp,g,dr,tk,os⟩:=s
  obtain ⟨⟨c,dct,dat,sl⟩,hit,ci,di⟩:=st
  simp only at ci di
  subst ci di
  unfold Builtin.«dict_keyiterator.__next__»
  repeat (any_goals (first | assumption | (with_reducible refine wpAny_typeNameOfWhole_keyiter ti ?_) | (with_reducible refine wpAny_isOneOf_keyiter ti ?_) | (with_reducible refine wpAny_dictEntries hd hdat ?_) | (with_reducible refine wpAny_dictEpoch hd hdat ?_) | wp_step))
  have e1:(if (es.size:Int) < 0 then none else es[(es.size:Int).toNat]?)=none:=by
    rw [if_neg (by omega),Int.toNat_natCast]
    simp
  rw [e1]
  repeat (any_goals (first | assumption | (with_reducible refine wpAny_typeNameOfWhole_keyiter ti ?_) | (with_reducible refine wpAny_isOneOf_keyiter ti ?_) | (with_reducible refine wpAny_dictEntries hd hdat ?_) | (with_reducible refine wpAny_dictEpoch hd hdat ?_) | wp_step))
  refine wpAny_raiseNew_none hA ?_
  refine wpAny_bind (wpAny_isInstance ⟨_,Heap.get?_push_size _ rfl,rfl⟩ isSubtype_stop (wpAny_pure (h _ fun b o nb e=>?_)))
  refine Heap.get?_push_of_some _ (Heap.get?_push_of_some _ ?_)
  rw [Heap.get?_update_other _ _ (Ne.symm nb)]
  exact e
theorem xli {prog:Program} {w:World} {A:Around} {E:Value→Shared→Prop} {s:Shared} {d:Addr} {ep:Nat} {o:Obj} {es:Array DictEntry} {Q:Value→Shared→Prop}
    (hs:(d == sysModules)=false) (hd:s.heap.get? d=some o) (hx:o.ExactDict) (hdat:o.data=.dict es ep)
    (h:Q (.ref s.heap.objs.size) { s with heap:=s.heap.push { cls:=.type "dict_keyiterator",data:=.fields #[.ref d,.int 0 0,.int es.size 0,.int ep 0] } }):wpAny (model prog w) A (pyIter (.ref d)) Q E s:=by
  have ti:s.TypeIs (.ref d) "dict":=⟨o,hd,hx.1⟩
  obtain ⟨c,dct,dat,sl⟩:=o
  obtain ⟨x1,x2,x3⟩:=hx
  simp only at x1 x2 x3 hdat
  subst x1 x2 x3 hdat
  refine wpAny_pyIter_slot ti F.slot_dict_iter ?_
  refine wpAny_call_entry F.slot_dict_iter ti F.entry_dict_iter ?_ (F.args_dict_iter_1 _)
  obtain ⟨hp,g,dr,tk,os⟩:=s
  unfold Builtin.«dict.__iter__»
  repeat (any_goals (first | assumption | (with_reducible refine wpAny_notOrdered_dict ti ?_) | (with_reducible refine wpAny_dictEntries hd rfl ?_) | (with_reducible refine wpAny_dictEpoch hd rfl ?_) | wp_step))
  exact ⟨_,rfl,_,_,⟨_,Heap.get?_push_size _ rfl,rfl⟩,F.slot_dict_keyiterator_next.lookup,h⟩
theorem xng {prog:Program} {w:World} {d:Addr} {ep:Nat} {o:Obj} {es:Array DictEntry} (hs:(d == sysModules)=false) (hx:o.ExactDict) (hdat:o.data=.dict es ep) :
    KdlSrc prog w "dict" d d es.size (fun i v=>∃ en,es[i]?=some en∧v=en.key) (fun h=>h.get? d=some o) where
  type:=fun s h=>⟨o,h,hx.1⟩
  there:=fun h e=>⟨Heap.lt_size e,Heap.lt_size e⟩
  keep:=fun h h' e k=>k d (.inl rfl) o e
  notList:=by decide
  notTuple:=by decide
  hint:=fun A E s Q h q=>kdl_hint_dict ⟨o,h,hx.1⟩ q
  iter:=fun A s hA h=>by
    have dl:=Heap.lt_size h
    refine ⟨{ cls:=.type "dict_keyiterator",data:=.fields #[.ref d,.int 0 0,.int es.size 0,.int ep 0] },fun i h=>h.IsKeyIter s.heap.objs.size d i es.size ep∧h.get? d=some o,fun E Q q=>xli hs h hx hdat q,?_,⟨_,Heap.get?_push_size _ rfl,rfl,rfl⟩,Heap.get?_push_of_some _ h⟩
    have dn:d≠s.heap.objs.size:=Nat.ne_of_lt dl
    exact {
      sub:=fun b hb=>by
        have e:b=s.heap.objs.size:=by simpa using hb
        rw [e]
        simp
      frame:=fun i h h' st k=>⟨st.1.at fun o e=>k _ (by simp) o e,k _ (by simp) _ st.2⟩
      item:=fun i s' Q E hi st q=>by
        refine xhe st.1 st.2 hx hdat (Array.getElem?_eq_getElem hi) fun h' st' sb=>q _ h' s'.toks ⟨_,Array.getElem?_eq_getElem hi,rfl⟩ ⟨st',(sb.2 d dn).trans st.2⟩ fun b o hb e=>?_
        exact (sb.2 b (by simpa using hb)).trans e
      done:=fun s' Q E st q=>by
        refine xhk hA st.1 st.2 hx hdat fun h' eb=>q h' s'.toks fun b o hb e=>?_
        exact eb b o (by simpa using hb) e
      self:=fun i s' Q E st q=>wpAny_pyIter_keyiter st.1 q }
end L2
set_option maxRecDepth 100000
namespace L2
open PySem PySem.Spec PyProof.Rows XL PySem.W
variable {q0:Bool}
def xca:Key→Key→Bool
 | .inl a,.inl b=>decide (a < b)
 | .inr a,.inr b=>decide (a.cps.toList < b.cps.toList)
 | _,_=>false
def lexK:List Key→List Key→Bool
 | [],[]=>false
 | [],_ :: _=>true
 | _ :: _,[]=>false
 | x :: xs,y :: ys=>if x=y then lexK xs ys else xca x y
abbrev shp (k:List Key):List Bool:=k.map Sum.isLeft
theorem xnm {a b:Str} (h:a.cps.toList=b.cps.toList):a=b:=by
 cases a
 cases b
 simp at h
 rw [h]
theorem xi6 (x:Key):xca x x=false:=by
 cases x with
 | inl a=>simp [xca]
 | inr a=>exact PyProof.Rows.strKind.irrefl a.cps.toList
theorem xlr {x y z:Key} (h1:xca x y=true) (h2:xca y z=true):xca x z=true:=by
 cases x <;> cases y <;> cases z <;> simp only [xca,Bool.false_eq_true] at h1 h2
 ·have a:=of_decide_eq_true h1
  have b:=of_decide_eq_true h2
  exact decide_eq_true (Int.lt_trans a b)
 ·exact PyProof.Rows.strKind.trans _ _ _ h1 h2
theorem xj6 {x y:Key} (hs:x.isLeft=y.isLeft) (ne:x≠y) (h:xca x y=false):xca y x=true:=by
 cases x with
 | inl a =>
  cases y with
  | inl b =>
   have h':¬ a < b:=of_decide_eq_false h
   have n':a≠b:=fun e=>ne (by rw [e])
   exact decide_eq_true (show b < a by omega)
  | inr b=>cases hs
 | inr a =>
  cases y with
  | inl b=>cases hs
  | inr b =>
   cases e:xca (.inr b) (.inr a) with
   | true=>rfl
   | false=>exact absurd (by rw [xnm (PyProof.Rows.strKind.total _ _ h e)]) ne
theorem xg4:∀ x:List Key,lexK x x=false
 | []=>rfl
 | x :: xs=>by
  unfold lexK
  rw [if_pos rfl]
  exact xg4 xs
theorem xh5:∀ {x y z:List Key},shp x=shp y→shp y=shp z→lexK x y=true→lexK y z=true→lexK x z=true
 | [],[],_,_,_,h,_=>by cases h
 | [],_ :: _,_,h,_,_,_=>by cases h
 | _ :: _,[],_,h,_,_,_=>by cases h
 | _ :: _,_ :: _,[],_,h,_,_=>by cases h
 | x :: xs,y :: ys,z :: zs,h1,h2,h3,h4=>by
  simp only [shp,List.map_cons,List.cons.injEq] at h1 h2
  unfold lexK at h3 h4 ⊢
  by_cases xy:x=y
  ·subst xy
   rw [if_pos rfl] at h3
   by_cases yz:x=z
   ·rw [if_pos yz] at h4 ⊢
    exact xh5 h1.2 h2.2 h3 h4
   ·rw [if_neg yz] at h4 ⊢
    exact h4
  ·rw [if_neg xy] at h3
   by_cases yz:y=z
   ·subst yz
    rw [if_neg xy]
    exact h3
   ·rw [if_neg yz] at h4
    have h5:=xlr h3 h4
    rw [if_neg (fun e=>by rw [e,xi6] at h5; cases h5)]
    exact h5
theorem xgx:∀ {x y:List Key},shp x=shp y→x≠y→lexK x y=false→lexK y x=true
 | [],[],_,h,_=>absurd rfl h
 | [],_ :: _,h,_,_=>by cases h
 | _ :: _,[],h,_,_=>by cases h
 | x :: xs,y :: ys,h1,h2,h3=>by
  simp only [shp,List.map_cons,List.cons.injEq] at h1
  unfold lexK at h3 ⊢
  by_cases xy:x=y
  ·subst xy
   rw [if_pos rfl] at h3 ⊢
   exact xgx h1.2 (fun e=>h2 (by rw [e])) h3
  ·rw [if_neg xy] at h3
   rw [if_neg (fun e=>xy e.symm)]
   exact xj6 h1.1 xy h3
theorem xg7 {prog:Program} {w:World} {A:Around} {s:Shared} {b:Bool} {Q:Bool→Shared→Prop}:∀ (xs ys:List Key) (us vs:List Value) (i:Nat),shp xs=shp ys→Vals (xs.map kV) us→Vals (ys.map kV) vs→Q (lexK xs ys) s→KatLex prog w A b false Q (us.zip vs) i s
 | [],[],_,_,i,_,.nil,.nil,q=>kat_nil q
 | [],_ :: _,_,_,_,h,_,_,_=>by cases h
 | _ :: _,[],_,_,_,h,_,_,_=>by cases h
 | x :: xs,y :: ys,_,_,i,h,.cons ru r,.cons rv r',q=>by
  simp only [shp,List.map_cons,List.cons.injEq] at h
  unfold lexK at q
  cases x with
  | inl a =>
   cases y with
   | inr c=>cases h.1
   | inl c =>
    obtain ⟨t,rfl⟩:=ru
    obtain ⟨t',rfl⟩:=rv
    refine kat_cons (wpAny_eqBool_int ?_)
    unfold KatGo
    by_cases e:a=c
    ·subst e
     rw [if_pos rfl] at q
     rw [if_pos (by simp)]
     exact xg7 xs ys _ _ (i + 1) h.2 r r' q
    ·rw [if_neg (fun z=>e (Sum.inl.inj z))] at q
     rw [if_neg (by simpa using e)]
     cases (b && i == 0) with
     | true=>exact oneLt_int q
     | false=>exact kat_one _ _ (lt_int q)
  | inr a =>
   cases y with
   | inl c=>cases h.1
   | inr c =>
    obtain ⟨t,rfl⟩:=ru
    obtain ⟨t',rfl⟩:=rv
    refine kat_cons (wpAny_eqBool_str ?_)
    unfold KatGo
    by_cases e:a=c
    ·subst e
     rw [if_pos rfl] at q
     rw [if_pos (by simp)]
     exact xg7 xs ys _ _ (i + 1) h.2 r r' q
    ·rw [if_neg (fun z=>e (Sum.inr.inj z))] at q
     rw [if_neg (by simpa using e)]
     cases (b && i == 0) with
     | true=>exact oneLt_str q
     | false=>exact kat_one _ _ (lt_str q)
theorem xge {prog:Program} {w:World} {A:Around} {E:Value→Shared→Prop} {s:Shared} {a:Addr} {vs:List Value} {n:Nat} {P:PySem.Fin→Shared→Prop}
    (h:s.heap.get? a=some (seqObj "list" vs.toArray n)) (h2:vs.length < 2) (q':P (.done (.ret .none)) { s with heap:=sortedHeap s.heap a vs vs.toArray }) :
    wpAny (model prog w) A (Builtin.«list.sort» { pos:=[.ref a] }) P E s:=by
  obtain ⟨hp,g,d,tk,os⟩:=s
  rcases vs with _ | ⟨v,_ | ⟨v',r⟩⟩
  · rw [list_sort_plain]
    repeat (any_goals (first | assumption | wp_step))
    show wpAny _ _ (pure (PUnit.unit,SortSt.mk' general' ((#[]:Array Value).zip #[]) #[] 7 none)) _ _ _
    refine wpAny_pure ?_
    have e3:Array.map (fun x=>x.snd) (arrOf (SortSt.mk' general' ((#[]:Array Value).zip #[]) #[] 7 none))=#[]:=by
      show Array.map (fun x=>x.snd) ((#[]:Array Value).zip #[])=#[]
      simp
    simp only [e3]
    have g1:(((hp.update a (Obj.mapSeq fun x=>#[])).push (seqObj "tuple" #[] 0)).push (seqObj "list" #[] 0)).get? a=some (seqObj "list" #[] (n)):=by
      refine Heap.get?_push_of_some _ (Heap.get?_push_of_some _ ?_)
      rw [Heap.get?_update_self _ h rfl]
      rfl
    show wpAny _ _ (seqEpoch a >>= _) _ _ _
    repeat (any_goals (first | assumption | wp_step))
  · rw [list_sort_plain]
    repeat (any_goals (first | assumption | wp_step))
    show wpAny _ _ (pure (PUnit.unit,SortSt.mk' general' ((#[v]:Array Value).zip #[v]) #[] 7 none)) _ _ _
    refine wpAny_pure ?_
    have e3:Array.map (fun x=>x.snd) (arrOf (SortSt.mk' general' ((#[v]:Array Value).zip #[v]) #[] 7 none))=#[v]:=by
      show Array.map (fun x=>x.snd) ((#[v]:Array Value).zip #[v])=#[v]
      simp
    simp only [e3]
    have g1:(((hp.update a (Obj.mapSeq fun x=>#[])).push (seqObj "tuple" #[v] 0)).push (seqObj "list" #[] 0)).get? a=some (seqObj "list" #[] (n + 1)):=by
      refine Heap.get?_push_of_some _ (Heap.get?_push_of_some _ ?_)
      rw [Heap.get?_update_self _ h rfl]
      rfl
    show wpAny _ _ (seqEpoch a >>= _) _ _ _
    repeat (any_goals (first | assumption | wp_step))
  · simp at h2
    omega
theorem xea {α:Type} (f:α→Addr):∀ (es:List α),Vals (es.map fun x=>V.ref (f x)) (es.map fun x=>Value.ref (f x))
 | []=>.nil
 | x :: r=>.cons rfl (xea f r)
theorem xok {H:Hp} {kvs:List (List Key × V)} {es:List (List Key × Addr × Value)} (h:KT H kvs es):(∀ x ∈ es,H x.2.1=some (.tup (x.1.map kV)))∧es.map (·.1)=kvs.map (·.1):=by
 induction h with
 | nil=>exact ⟨(fun _ z=>nomatch z),rfl⟩
 | @cons p x kvs es hp r ih =>
  obtain ⟨e1,e2,_⟩:=hp
  refine ⟨fun y hy=>?_,by rw [List.map_cons,List.map_cons,ih.2,e1]⟩
  rcases List.mem_cons.mp hy with rfl | z
  ·rw [← e1]
   exact e2
  ·exact ih.1 y z
theorem xi4 {P:Program} {w:World} {H:Hp} {h:Heap} (ok:HOk P w H h) {b:Bool} {sh:List Bool}:∀ (es:List (List Key × Addr × Value)),(∀ x ∈ es,H x.2.1=some (.tup (x.1.map kV)))→(∀ x ∈ es,shp x.1=b :: sh) →
    ∃ fs,KatTups h (es.map fun x=>Value.ref x.2.1) fs∧fs.length=es.length∧∀ v ∈ fs,if b=true then ∃ i t,v=Value.int i t else ∃ i t,v=Value.str i t
  | [],_,_=>⟨[],KatTups.nil,rfl,fun _ z=>nomatch z⟩
  | x :: es,h1,h2=>by
    obtain ⟨fs,k,l,m⟩:=xi4 ok es (fun y hy=>h1 y (List.mem_cons_of_mem _ hy)) (fun y hy=>h2 y (List.mem_cons_of_mem _ hy))
    obtain ⟨z2,ts,rt,ot,et,ct,nt,dt⟩:=ok x.2.1 _ (h1 x List.mem_cons_self)
    have s1:=h2 x List.mem_cons_self
    obtain ⟨k1,a1,v1⟩:=x
    cases k1 with
    | nil=>cases s1
    | cons k0 kr =>
      simp only [shp,List.map_cons,List.cons.injEq] at s1
      simp only [List.map_cons] at rt
      cases rt with
      | @cons _ u _ us ru rr =>
        refine ⟨u :: fs,KatTups.cons et ct dt (by simp) k,by simp [l],fun v hv=>?_⟩
        rcases List.mem_cons.mp hv with rfl | hv'
        · cases k0 with
          | inl i =>
            obtain ⟨t,rfl⟩:=ru
            rw [if_pos (show b=true from s1.1.symm)]
            exact ⟨i,t,rfl⟩
          | inr i =>
            obtain ⟨t,rfl⟩:=ru
            rw [if_neg (show ¬ b=true by rw [← s1.1]; simp)]
            exact ⟨i,t,rfl⟩
        · exact m v hv'
theorem xkb {X:Cx} {pins:List (Addr × Obj)} {σ:St} {H:Hp} {s:Shared} {h1:Heap} {tk:Nat} {Q:VK} {sh:List Bool} (es':List (List Key × Addr × Value)) (I1:Inv X pins σ H { s with heap:=h1,toks:=tk })
    (hl:es'.length < 64) (km:∀ x ∈ es',H x.2.1=some (.tup (x.1.map kV))) (shE:∀ x ∈ es',shp x.1=sh) (hpos:0 < sh.length) (hnd:(List.map (fun x=>x.fst) es').Nodup)
    (q:∀ (l:Addr) (ts:List (List Key × Addr)),H l=none→ts.Perm (es'.map fun x=>(x.1,x.2.1))→(ts.map (·.1)).Pairwise (fun x y=>lexK x y=true)→Q (.ref l) (upd H l (.lst (ts.map fun t=>.ref t.2)))) :
    wpAny (model X.prog X.w) X.A.in1 (newList (es'.map fun x=>Value.ref x.2.1) >>= fun l=>holding [l] (call (.builtin "list.sort") [l] []) >>= fun _=>ret l) (fun fin s'=>∃ v,fin=Fin.done (Flow.ret v)∧EP X pins σ Q v s') X.xe { s with heap:=h1,toks:=tk }:=by
  have hz:es'.length≤sizeLine:=Nat.le_of_lt (Nat.lt_trans hl (by decide))
  have vals:Vals (es'.map fun x=>V.ref x.2.1) (es'.map fun x=>Value.ref x.2.1):=xea (fun x=>x.2.1) es'
  have I2:=I1.lnew (t':=tk) vals (by rw [List.length_map]; exact hz)
  refine wpAny_bind (wpAny_newList ?_ (by rw [List.length_map]; exact hz))
  have fr:H h1.objs.size=none:=I1.fresh
  have gl:(h1.push { cls:=.type "list",data:=.seq (es'.map fun x=>Value.ref x.2.1).toArray }).get? h1.objs.size=some (seqObj "list" (es'.map fun x=>Value.ref x.2.1).toArray 0):=Heap.get?_push_size _ rfl
  refine wpAny_bind (wpAny_holding (wpAny_call_entry slot_list_sort ⟨_,gl,rfl⟩ entry_list_sort ?_ (args_list_sort _)))
  have J1:=I2.lset (l:=h1.objs.size) (its:=es'.map fun x=>Value.ref x.2.1) (its':=[]) (ys:=[]) (f:=fun _=>#[]) (t':=tk) xf gl rfl .nil (Nat.zero_le _)
  have J2:=J1.kept (t':=tk) (h':=(((h1.push { cls:=.type "list",data:=.seq (es'.map fun x=>Value.ref x.2.1).toArray }).update h1.objs.size (Obj.mapSeq fun _=>#[])).push (seqObj "tuple" (es'.map fun x=>Value.ref x.2.1).toArray 0)).push (seqObj "list" #[] 0)) fun b u e=>Heap.get?_push_of_some _ (Heap.get?_push_of_some _ e)
  obtain ⟨z9,its9,n9,r9,hl9,e9⟩:=J2.lstM xf
  have done:∀ (ts:List (List Key × Addr)),ts.Perm (es'.map fun x=>(x.1,x.2.1))→(ts.map (·.1)).Pairwise (fun x y=>lexK x y=true) →
      EP X pins σ Q (.ref h1.objs.size) { s with heap:=sortedHeap (h1.push { cls:=.type "list",data:=.seq (es'.map fun x=>Value.ref x.2.1).toArray }) h1.objs.size (es'.map fun x=>Value.ref x.2.1) (ts.map fun t=>Value.ref t.2).toArray,toks:=tk }:=by
    intro ts pm pw
    have tl:ts.length=es'.length:=by rw [pm.length_eq,List.length_map]
    have J3:=J2.lset (l:=h1.objs.size) (its:=its9) (its':=ts.map fun t=>Value.ref t.2) (ys:=ts.map fun t=>V.ref t.2) (f:=fun _=>(ts.map fun t=>Value.ref t.2).toArray) (t':=tk) xf e9 rfl (xea (fun t=>t.2) ts) (by rw [List.length_map,tl]; exact hz)
    rw [xfo,xfo] at J3
    exact ⟨.ref h1.objs.size,_,J3,rfl,q _ ts fr pm pw⟩
  by_cases few:es'.length < 2
  · refine xge gl (by rw [List.length_map]; exact few) ⟨_,rfl,wpAny_pure ⟨_,rfl,?_⟩⟩
    have:=done (es'.map fun x=>(x.1,x.2.1)) (List.Perm.refl _) ?_
    · rw [List.map_map] at this
      exact this
    · match es',few with
      | [],_=>exact .nil
      | [x],_=>exact List.pairwise_singleton _ _
      | _ :: _ :: _,h=>exact absurd h (by simp)
  · refine xfm gl (by rw [List.length_map]; omega) (by rw [List.length_map]; exact hl) fun s' es1 es2=>?_
    obtain ⟨b,sh0,rfl⟩:∃ b sh0,sh=b :: sh0:=by
      cases sh with
      | nil=>simp at hpos
      | cons b r=>exact ⟨b,r,rfl⟩
    rw [es1] at es2
    subst es2
    have km2:∀ x ∈ es',upd (upd H h1.objs.size (.lst (es'.map fun x=>V.ref x.2.1))) h1.objs.size (.lst []) x.2.1=some (.tup (x.1.map kV)):=fun x hx=>by
      rw [xj (xo (km x hx) fr),xj (xo (km x hx) fr)]
      exact km x hx
    obtain ⟨fs,kt,fl,fm⟩:=xi4 J2.hok es' km2 shE
    have few':2≤es'.length:=by omega
    refine kat_kind (T:=if b=true then .type "int" else .type "str") kt (by omega) (fun v hv=>?_) (by cases b <;> rfl) ⟨rfl,?_⟩
    · have z:=fm v hv
      cases b with
      | true =>
        obtain ⟨i,t,rfl⟩:=z
        exact fun A Q E s _ q=>wpAny_typeOf (T:="int") rfl q
      | false =>
        obtain ⟨i,t,rfl⟩:=z
        exact fun A Q E s _ q=>wpAny_typeOf (T:="str") rfl q
    rw [List.length_map]
    have eAt:∀ i,i < es'.length→es'[i]?=some (es'.getD i ([],0,.none)):=fun i hi=>by
      rw [List.getD_eq_getElem?_getD,List.getElem?_eq_getElem hi]
      rfl
    have eM:∀ i,i < es'.length→es'.getD i ([],0,.none) ∈ es':=fun i hi=>List.mem_of_getElem? (eAt i hi)
    have vAt:∀ i,i < es'.length→(es'.map fun x=>Value.ref x.2.1).getD i .none=.ref (es'.getD i ([],0,.none)).2.1:=fun i hi=>by
      rw [List.getD_eq_getElem?_getD,List.getElem?_map,eAt i hi]
      rfl
    have shI:∀ i j,i < es'.length→j < es'.length→shp (es'.getD i ([],0,.none)).1=shp (es'.getD j ([],0,.none)).1:=fun i j hi hj=>by rw [shE _ (eM i hi),shE _ (eM j hj)]
    refine Srt.sort_wp (lt:=fun i j=>lexK (es'.getD i ([],0,.none)).1 (es'.getD j ([],0,.none)).1) ⟨fun i hi=>xg4 _,fun i j k hi hj hk=>xh5 (shI i j hi hj) (shI j k hj hk),fun i j hi hj ne=>xgx (shI i j hi hj) fun e=>ne ?_⟩ (fun i j hi hj Q' q'=>?_) few' fun p arr srt=>⟨rfl,_,rfl,wpAny_pure ⟨_,rfl,?_⟩⟩
    · have e1:(es'.map (·.1))[i]?=(es'.map (·.1))[j]?:=by rw [List.getElem?_map,List.getElem?_map,eAt i hi,eAt j hj]; exact congrArg some e
      exact (List.getElem?_inj (by rw [List.length_map]; exact hi) hnd).mp e1
    · show wpAny _ _ (keyLt' _ ((es'.map fun x=>Value.ref x.2.1).getD i .none) ((es'.map fun x=>Value.ref x.2.1).getD j .none)) _ _ _
      rw [vAt i hi,vAt j hj]
      obtain ⟨_,ti,ri,oi,ei,_,ni,di⟩:=J2.hok _ _ (km2 _ (eM i hi))
      obtain ⟨_,tj,rj,oj,ej,_,nj,dj⟩:=J2.hok _ _ (km2 _ (eM j hj))
      have l1:=Vals.length ri
      have l2:=Vals.length rj
      have l3:=congrArg List.length (shI i j hi hj)
      simp only [List.length_map] at l1 l2 l3
      refine kat_lt ei di ej dj ?_
      rw [decide_eq_false (by simp; omega)]
      exact xg7 _ _ _ _ 0 (shI i j hi hj) ri rj q'
    have pl:∀ i ∈ p.toList,i < es'.length:=fun i hi=>by
      have:=(Array.Perm.mem_iff arr.pm).mp (Array.mem_toList_iff.mp hi)
      simpa using this
    have:=done (p.toList.map fun i=>((es'.getD i ([],0,.none)).1,(es'.getD i ([],0,.none)).2.1)) ?_ ?_
    · rw [List.map_map] at this
      have e2:(p.map fun i=>(es'.map fun x=>Value.ref x.2.1).getD i .none)=(p.toList.map ((fun t:List Key × Addr=>Value.ref t.2) ∘ fun i=>((es'.getD i ([],0,.none)).1,(es'.getD i ([],0,.none)).2.1))).toArray:=by
        rw [← Array.toList_inj,Array.toList_map]
        exact List.map_congr_left fun i hi=>vAt i (pl i hi)
      rw [e2]
      exact this
    · have e3:(es'.map fun x=>(x.1,x.2.1))=(List.range es'.length).map fun i=>((es'.getD i ([],0,.none)).1,(es'.getD i ([],0,.none)).2.1):=by
        refine List.ext_getElem? fun i=>?_
        by_cases c:i < es'.length
        · rw [List.getElem?_map,eAt i c,List.getElem?_map,List.getElem?_range c]
          rfl
        · rw [List.getElem?_eq_none (by rw [List.length_map]; omega),List.getElem?_eq_none (by simp; omega)]
      rw [e3]
      refine List.Perm.map _ ?_
      have:=Array.Perm.toList arr.pm
      simpa using this
    · rw [List.map_map,List.pairwise_map,List.pairwise_iff_getElem]
      intro i j hi hj hij
      have z:=srt i j hij (by rw [← arr.sz]; simpa using hj)
      have gi:Srt.g p i=p.toList[i]:=Srt.g_at (by rw [← Array.getElem?_toList]; exact List.getElem?_eq_getElem hi)
      have gj:Srt.g p j=p.toList[j]:=Srt.g_at (by rw [← Array.getElem?_toList]; exact List.getElem?_eq_getElem hj)
      rw [gi,gj] at z
      exact z
def xky:List V→Hp→VK→Prop:=fun xs H Q=>∃ (d:Addr) (kvs:List (List Key × V)) (sh:List Bool),xs=[.ref d]∧H d=some (.dT kvs)∧kvs.length < 64∧(∀ p ∈ kvs,shp p.1=sh)∧0 < sh.length ∧
 ∀ (l:Addr) (ts:List (List Key × Addr)),H l=none→(∀ t ∈ ts,H t.2=some (.tup (t.1.map kV)))→(ts.map (·.1)).Perm (kvs.map (·.1))→(ts.map (·.1)).Pairwise (fun x y=>lexK x y=true)→Q (.ref l) (upd H l (.lst (ts.map fun t=>.ref t.2)))
theorem xgu {X:Cx} (hc:X.calm=true):xb0 X (.builtin "sorted") xky:=by
 intro pins s σ H xs us Q I r h
 obtain ⟨d,kvs,sh,rfl,hd,hl,hsh,hpos,q⟩:=h
 obtain ⟨u,rfl,ru⟩:=xch r
 obtain rfl:u=Value.ref d:=ru
 obtain ⟨z,hsys,es',rel,dd⟩:=xl8 I.hok hd
 obtain ⟨o,es,ep,ho,hx,hdat,hes,hkk,hnd⟩:=dd
 have ln:=Paired.length rel
 have esz:es.size=es'.length:=by rw [← Array.length_toList,hes,List.length_map]
 refine Calls.call_function_entry kind_sorted plain_sorted entry_sorted (args_sorted1 _) ?_
 unfold Builtin.sorted
 refine wpAny_bind (wpAny_pure ?_)
 show wpAny _ _ (collect (.ref d) >>= _) _ _ _
 refine wpAny_bind (kdu_collect (xng hsys hx hdat) (I.ok.hd hc) ho (by rw [esz,← ln]; exact z) fun h1 tk acc keep items=>?_)
 have acl:acc.toList=es'.map fun x=>Value.ref x.2.1:=by
  refine List.ext_getElem? fun j=>?_
  obtain ⟨i1,i2⟩:=items
  by_cases c:j < es'.length
  ·have c':j < acc.size:=by rw [i1,esz]; exact c
   have e:acc[j]?=some acc[j]:=Array.getElem?_eq_getElem c'
   obtain ⟨en,he,hv⟩:=i2 j acc[j] e
   rw [Array.getElem?_toList,e,hv]
   have he':es.toList[j]?=some en:=by rw [Array.getElem?_toList]; exact he
   rw [hes,List.getElem?_map,List.getElem?_eq_getElem c] at he'
   rw [List.getElem?_map,List.getElem?_eq_getElem c]
   have:=Option.some.inj he'
   rw [← this]
   rfl
  ·rw [List.getElem?_eq_none (by rw [Array.length_toList,i1,esz]; omega),List.getElem?_eq_none (by rw [List.length_map]; omega)]
 rw [acl]
 have I1:Inv X pins σ H { s with heap:=h1,toks:=tk }:=I.kept keep
 obtain ⟨km,ke⟩:=xok rel
 have shE:∀ x ∈ es',shp x.1=sh:=fun x hx=>by
  have m:x.1 ∈ kvs.map (·.1):=by rw [← ke]; exact List.mem_map.mpr ⟨x,hx,rfl⟩
  obtain ⟨p,hp,e⟩:=List.mem_map.mp m
  rw [← e]
  exact hsh p hp
 refine xkb es' I1 (by rw [← ln]; exact hl) km shE hpos hnd fun l ts fr pm pw=>q l ts fr (fun t ht=>?_) ?_ pw
 ·obtain ⟨x,hx,rfl⟩:=List.mem_map.mp (pm.mem_iff.mp ht)
  exact km x hx
 ·have:=pm.map (·.1)
  rw [List.map_map] at this
  rw [← ke]
  exact this
end L2
set_option maxRecDepth 100000
namespace L2
open PySem PySem.Spec PyProof.Rows XL PySem.W
variable {q0:Bool}
theorem xhz {κ:Type} [DecidableEq κ]:∀ {kvs:List (κ × V)} {k:κ} {v:V},valV kvs k=some v→∃ i:Nat,kvs[i]?=some (k,v)
 | [],k,v,h=>by cases h
 | p :: r,k,v,h=>by
  by_cases e:p.1=k
  ·rw [xcz e] at h
   cases h
   exact ⟨0,by simp [← e]⟩
  ·rw [xbr e] at h
   obtain ⟨i,hi⟩:=xhz h
   exact ⟨i + 1,by simpa using hi⟩
section
variable {X:Cx} {o e:Expr} {td ty:TE} {apos cpos:Pos}
end
end L2
set_option maxRecDepth 100000
namespace L2
open PySem PySem.Spec PyProof.Rows XL PySem.W
variable {q0:Bool}
end L2
set_option maxRecDepth 100000
set_option maxHeartbeats 1000000
namespace L2
open PySem PySem.Spec PyProof.Rows XL PySem.W
inductive DV where
 | non
 | bl (b:Bool)
 | int (i:Int)
 | str (x:Str)
 | tup (xs:List DV)
 | lst (xs:List DV)
mutual
def dEq:DV→DV→Bool
 | .non,.non=>true
 | .bl a,.bl b=>a == b
 | .bl a,.int b=>(if a then 1 else 0) == b
 | .int a,.bl b=>a == (if b then 1 else 0)
 | .int a,.int b=>a == b
 | .str a,.str b=>a == b
 | .tup xs,.tup ys=>dEqs xs ys
 | .lst xs,.lst ys=>dEqs xs ys
 | _,_=>false
def dEqs:List DV→List DV→Bool
 | [],[]=>true
 | x :: xs,y :: ys=>dEq x y && dEqs xs ys
 | _,_=>false
end
mutual
theorem xdv:∀ d,dEq d d=true
 | .non=>rfl
 | .bl _=>by simp [dEq]
 | .int _=>by simp [dEq]
 | .str _=>by simp [dEq]
 | .tup xs=>by simp only [dEq]; exact xco xs
 | .lst xs=>by simp only [dEq]; exact xco xs
theorem xco:∀ xs,dEqs xs xs=true
 | []=>rfl
 | x :: xs=>by simp only [dEqs,Bool.and_eq_true]; exact ⟨xdv x,xco xs⟩
end
mutual
def DV.pl:DV→Bool
 | .bl _=>false
 | .tup xs=>pls xs
 | .lst xs=>pls xs
 | _=>true
def pls:List DV→Bool
 | []=>true
 | x :: xs=>x.pl && pls xs
end
theorem xeu:∀ {xs ys:List DV} {e:Nat→Bool},(∀ (j:Nat) (x y:DV),xs[j]?=some x→ys[j]?=some y→e j=dEq x y)→((List.range (min xs.length ys.length)).all e && xs.length == ys.length)=dEqs xs ys
 | [],[],_,_=>rfl
 | [],_ :: _,_,_=>by simp [dEqs]
 | _ :: _,[],_,_=>by simp [dEqs]
 | x :: xs,y :: ys,e,h=>by
  have ih:=xeu (xs:=xs) (ys:=ys) (e:=fun j=>e (j + 1)) (fun j a b ha hb=>h (j + 1) a b (by simpa using ha) (by simpa using hb))
  have h0:=h 0 x y rfl rfl
  rw [List.length_cons,List.length_cons,show min (xs.length + 1) (ys.length + 1)=min xs.length ys.length + 1 by omega,List.range_succ_eq_map,List.all_cons,List.all_map]
  show _=(dEq x y && dEqs xs ys)
  rw [← ih,h0]
  have z:((xs.length + 1 == ys.length + 1):Bool)=(xs.length == ys.length):=by
   rw [Bool.eq_iff_iff]
   simp
  rw [z,Bool.and_assoc]
  rfl
theorem xex:∀ {xs ys:List DV},xs.length≠ys.length→dEqs xs ys=false
 | [],[],h=>absurd rfl h
 | [],_ :: _,_=>rfl
 | _ :: _,[],_=>rfl
 | x :: xs,y :: ys,h=>by
  show (dEq x y && dEqs xs ys)=false
  rw [xex (xs:=xs) (ys:=ys) (fun z=>h (by simp [z]))]
  exact Bool.and_false _
inductive Dv (K:PySem.W.Frag) (H:Hp):Nat→V→DV→Prop
 | non {n:Nat}:Dv K H n .non .non
 | bl {n:Nat} {b:Bool}:Dv K H n (.bl b) (.bl b)
 | int {n:Nat} {b:Int}:Dv K H n (.int b) (.int b)
 | str {n:Nat} {b:Str}:Dv K H n (.str b) (.str b)
 | tup {n:Nat} {a:Addr} {xs:List V} {ds:List DV} (ha:SqT K H a xs) (hl:xs.length=ds.length) (h:∀ (j:Nat) (x:V) (d:DV),xs[j]?=some x→ds[j]?=some d→Dv K H n x d):Dv K H (n + 1) (.ref a) (.tup ds)
 | lst {n:Nat} {a:Addr} {xs:List V} {ds:List DV} (ha:SqL K H a xs) (hl:xs.length=ds.length) (h:∀ (j:Nat) (x:V) (d:DV),xs[j]?=some x→ds[j]?=some d→Dv K H n x d):Dv K H (n + 1) (.ref a) (.lst ds)
section
variable {X:Cx} {pins:List (Addr × Obj)} {σ:St} {H:Hp} {s:Shared}
theorem xf4 {h:Heap} {a:Addr} {i j:Array Value} (p:h.IsTuple a i) (q:PlainL h a j):False:=by
 obtain ⟨o,e,c,_⟩:=p
 obtain ⟨o',n,e',c',_⟩:=q
 rw [e] at e'
 cases e'
 rw [c] at c'
 exact absurd c' (by decide)
theorem xj5 {xs ys:List DV} (h:xs.length=ys.length) (f:∀ (j:Nat) (x y:DV),xs[j]?=some x→ys[j]?=some y→x=y):xs=ys:=by
 refine List.ext_getElem? fun j=>?_
 by_cases c:j < xs.length
 ·rw [List.getElem?_eq_getElem c,List.getElem?_eq_getElem (by omega),f j _ _ (List.getElem?_eq_getElem c) (List.getElem?_eq_getElem (by omega))]
 ·rw [List.getElem?_eq_none (by omega),List.getElem?_eq_none (by omega)]
theorem xhb (I:Inv X pins σ H s) {n:Nat} {x:V} {d:DV} (h:Dv X.K H n x d):∀ {m:Nat} {e:DV},Dv X.K H m x e→d=e:=by
 induction h with
 | non=>intro m e h; cases h; rfl
 | bl=>intro m e h; cases h; rfl
 | int=>intro m e h; cases h; rfl
 | str=>intro m e h; cases h; rfl
 | @tup n a xs ds ha hl h ih =>
  intro m e h2
  cases h2 with
  | @tup m _ ys es hb kl k =>
   obtain rfl:=I.tuple_inj ha hb
   refine congrArg DV.tup (xj5 (by omega) fun j d e h1 h2=>?_)
   have lt:j < xs.length:=by
    have:=(List.getElem?_eq_some_iff.mp h1).1
    omega
   exact ih j xs[j] d (List.getElem?_eq_getElem lt) h1 (k j xs[j] e (List.getElem?_eq_getElem lt) h2)
  | @lst m _ ys es hb kl k =>
   obtain ⟨its,_,t1,_⟩:=I.tuple ha
   obtain ⟨its2,_,t2,_⟩:=I.list hb
   exact (xf4 t1 t2).elim
 | @lst n a xs ds ha hl h ih =>
  intro m e h2
  cases h2 with
  | @lst m _ ys es hb kl k =>
   obtain rfl:=I.list_inj ha hb
   refine congrArg DV.lst (xj5 (by omega) fun j d e h1 h2=>?_)
   have lt:j < xs.length:=by
    have:=(List.getElem?_eq_some_iff.mp h1).1
    omega
   exact ih j xs[j] d (List.getElem?_eq_getElem lt) h1 (k j xs[j] e (List.getElem?_eq_getElem lt) h2)
  | @tup m _ ys es hb kl k =>
   obtain ⟨its,_,t1,_⟩:=I.tuple hb
   obtain ⟨its2,_,t2,_⟩:=I.list ha
   exact (xf4 t1 t2).elim
def at2 (f:DV→DV→Bool) (ds es:List DV) (j:Nat):Bool:=match ds[j]?,es[j]? with | some d,some e=>f d e | _,_=>false
theorem xfk {f:DV→DV→Bool} {ds es:List DV} {j:Nat} {d e:DV} (h:ds[j]?=some d) (h2:es[j]?=some e):at2 f ds es j=f d e:=by
 unfold at2
 rw [h,h2]
theorem xmb (I:Inv X pins σ H s) {n:Nat} {x:V} {d:DV} (h:Dv X.K H n x d):∀ {m:Nat} {y:V} {e:DV},Dv X.K H m y e→∀ {A:Around} {u v:Value},A.units + n + m < cLine→RelV x u→RelV y v →
    SeqAt.EqAt A s u v (dEq d e)∧SeqAt.RcAt A s u v (dEq d e)∧SeqAt.RcNeAt A s u v (!dEq d e):=by
  induction h with
  | @non n =>
    intro m y e h2 A u v hu rx ry
    obtain rfl:u=Value.none:=rx
    cases h2 with
    | @non  =>
      obtain rfl:v=Value.none:=ry
      exact ⟨SeqAt.EqAt.same _,SeqAt.RcAt.none_none,SeqAt.RcNeAt.none_none⟩
    | @bl _ b2 =>
      obtain rfl:v=Value.bool _:=ry
      exact ⟨SeqAt.EqAt.none_bool _,SeqAt.RcAt.none_bool _,SeqAt.RcNeAt.none_bool _⟩
    | @int _ b2 =>
      obtain ⟨_,rfl⟩:=ry
      exact ⟨SeqAt.EqAt.none_int _ _,SeqAt.RcAt.none_int _ _,SeqAt.RcNeAt.none_int _ _⟩
    | @str _ b2 =>
      obtain ⟨_,rfl⟩:=ry
      exact ⟨SeqAt.EqAt.none_str _ _,SeqAt.RcAt.none_str _ _,SeqAt.RcNeAt.none_str _ _⟩
    | @tup m b ys es hb kl k =>
      obtain rfl:v=Value.ref _:=ry
      obtain ⟨its2,r2,t2,z2⟩:=I.tuple hb
      have l2:=r2.length
      exact ⟨SeqAt.EqAt.none_tuple t2 (by omega),SeqAt.RcAt.none_tuple t2 (by omega),SeqAt.RcNeAt.none_tuple t2 (by omega)⟩
    | @lst m b ys es hb kl k =>
      obtain rfl:v=Value.ref _:=ry
      obtain ⟨its2,r2,t2,z2⟩:=I.list hb
      have l2:=r2.length
      exact ⟨SeqAt.EqAt.none_list t2.isList (by omega),SeqAt.RcAt.none_list t2.isList (by omega),SeqAt.RcNeAt.none_list t2.isList (by omega)⟩
  | @bl n b1 =>
    intro m y e h2 A u v hu rx ry
    obtain rfl:u=Value.bool _:=rx
    cases h2 with
    | @non  =>
      obtain rfl:v=Value.none:=ry
      exact ⟨SeqAt.EqAt.bool_none _,SeqAt.RcAt.bool_none _,SeqAt.RcNeAt.bool_none _⟩
    | @bl _ b2 =>
      obtain rfl:v=Value.bool _:=ry
      exact ⟨SeqAt.EqAt.bool_bool _ _,SeqAt.RcAt.bool_bool _ _,SeqAt.RcNeAt.bool_bool _ _⟩
    | @int _ b2 =>
      obtain ⟨_,rfl⟩:=ry
      exact ⟨SeqAt.EqAt.bool_int _ _ _,SeqAt.RcAt.bool_int _ _ _,SeqAt.RcNeAt.bool_int _ _ _⟩
    | @str _ b2 =>
      obtain ⟨_,rfl⟩:=ry
      exact ⟨SeqAt.EqAt.bool_str _ _ _,SeqAt.RcAt.bool_str _ _ _,SeqAt.RcNeAt.bool_str _ _ _⟩
    | @tup m b ys es hb kl k =>
      obtain rfl:v=Value.ref _:=ry
      obtain ⟨its2,r2,t2,z2⟩:=I.tuple hb
      have l2:=r2.length
      exact ⟨SeqAt.EqAt.bool_tuple _ t2 (by omega),SeqAt.RcAt.bool_tuple _ t2 (by omega),SeqAt.RcNeAt.bool_tuple _ t2 (by omega)⟩
    | @lst m b ys es hb kl k =>
      obtain rfl:v=Value.ref _:=ry
      obtain ⟨its2,r2,t2,z2⟩:=I.list hb
      have l2:=r2.length
      exact ⟨SeqAt.EqAt.bool_list _ t2.isList (by omega),SeqAt.RcAt.bool_list _ t2.isList (by omega),SeqAt.RcNeAt.bool_list _ t2.isList (by omega)⟩
  | @int n b1 =>
    intro m y e h2 A u v hu rx ry
    obtain ⟨_,rfl⟩:=rx
    cases h2 with
    | @non  =>
      obtain rfl:v=Value.none:=ry
      exact ⟨SeqAt.EqAt.int_none _ _,SeqAt.RcAt.int_none _ _,SeqAt.RcNeAt.int_none _ _⟩
    | @bl _ b2 =>
      obtain rfl:v=Value.bool _:=ry
      exact ⟨SeqAt.EqAt.int_bool _ _ _,SeqAt.RcAt.int_bool _ _ _,SeqAt.RcNeAt.int_bool _ _ _⟩
    | @int _ b2 =>
      obtain ⟨_,rfl⟩:=ry
      exact ⟨SeqAt.EqAt.int_int _ _ _ _,SeqAt.RcAt.int_int _ _ _ _,SeqAt.RcNeAt.int_int _ _ _ _⟩
    | @str _ b2 =>
      obtain ⟨_,rfl⟩:=ry
      exact ⟨SeqAt.EqAt.int_str _ _ _ _,SeqAt.RcAt.int_str _ _ _ _,SeqAt.RcNeAt.int_str _ _ _ _⟩
    | @tup m b ys es hb kl k =>
      obtain rfl:v=Value.ref _:=ry
      obtain ⟨its2,r2,t2,z2⟩:=I.tuple hb
      have l2:=r2.length
      exact ⟨SeqAt.EqAt.int_tuple _ _ t2 (by omega),SeqAt.RcAt.int_tuple _ _ t2 (by omega),SeqAt.RcNeAt.int_tuple _ _ t2 (by omega)⟩
    | @lst m b ys es hb kl k =>
      obtain rfl:v=Value.ref _:=ry
      obtain ⟨its2,r2,t2,z2⟩:=I.list hb
      have l2:=r2.length
      exact ⟨SeqAt.EqAt.int_list _ _ t2.isList (by omega),SeqAt.RcAt.int_list _ _ t2.isList (by omega),SeqAt.RcNeAt.int_list _ _ t2.isList (by omega)⟩
  | @str n b1 =>
    intro m y e h2 A u v hu rx ry
    obtain ⟨_,rfl⟩:=rx
    cases h2 with
    | @non  =>
      obtain rfl:v=Value.none:=ry
      exact ⟨SeqAt.EqAt.str_none _ _,SeqAt.RcAt.str_none _ _,SeqAt.RcNeAt.str_none _ _⟩
    | @bl _ b2 =>
      obtain rfl:v=Value.bool _:=ry
      exact ⟨SeqAt.EqAt.str_bool _ _ _,SeqAt.RcAt.str_bool _ _ _,SeqAt.RcNeAt.str_bool _ _ _⟩
    | @int _ b2 =>
      obtain ⟨_,rfl⟩:=ry
      exact ⟨SeqAt.EqAt.str_int _ _ _ _,SeqAt.RcAt.str_int _ _ _ _,SeqAt.RcNeAt.str_int _ _ _ _⟩
    | @str _ b2 =>
      obtain ⟨_,rfl⟩:=ry
      exact ⟨SeqAt.EqAt.str_str _ _ _ _,SeqAt.RcAt.str_str _ _ _ _,SeqAt.RcNeAt.str_str _ _ _ _⟩
    | @tup m b ys es hb kl k =>
      obtain rfl:v=Value.ref _:=ry
      obtain ⟨its2,r2,t2,z2⟩:=I.tuple hb
      have l2:=r2.length
      exact ⟨SeqAt.EqAt.str_tuple _ _ t2 (by omega),SeqAt.RcAt.str_tuple _ _ t2 (by omega),SeqAt.RcNeAt.str_tuple _ _ t2 (by omega)⟩
    | @lst m b ys es hb kl k =>
      obtain rfl:v=Value.ref _:=ry
      obtain ⟨its2,r2,t2,z2⟩:=I.list hb
      have l2:=r2.length
      exact ⟨SeqAt.EqAt.str_list _ _ t2.isList (by omega),SeqAt.RcAt.str_list _ _ t2.isList (by omega),SeqAt.RcNeAt.str_list _ _ t2.isList (by omega)⟩
  | @tup n a xs ds ha hl h ih =>
    intro m y e h2 A u v hu rx ry
    obtain rfl:u=Value.ref _:=rx
    obtain ⟨its,r1,t1,z1⟩:=I.tuple ha
    have l1:=r1.length
    cases h2 with
    | @non  =>
      obtain rfl:v=Value.none:=ry
      exact ⟨SeqAt.EqAt.tuple_none t1 (by omega),SeqAt.RcAt.tuple_none t1 (by omega),SeqAt.RcNeAt.tuple_none t1 (by omega)⟩
    | @bl _ b2 =>
      obtain rfl:v=Value.bool _:=ry
      exact ⟨SeqAt.EqAt.tuple_bool _ t1 (by omega),SeqAt.RcAt.tuple_bool _ t1 (by omega),SeqAt.RcNeAt.tuple_bool _ t1 (by omega)⟩
    | @int _ b2 =>
      obtain ⟨_,rfl⟩:=ry
      exact ⟨SeqAt.EqAt.tuple_int _ _ t1 (by omega),SeqAt.RcAt.tuple_int _ _ t1 (by omega),SeqAt.RcNeAt.tuple_int _ _ t1 (by omega)⟩
    | @str _ b2 =>
      obtain ⟨_,rfl⟩:=ry
      exact ⟨SeqAt.EqAt.tuple_str _ _ t1 (by omega),SeqAt.RcAt.tuple_str _ _ t1 (by omega),SeqAt.RcNeAt.tuple_str _ _ t1 (by omega)⟩
    | @tup m b ys es hb kl k =>
      obtain rfl:v=Value.ref _:=ry
      obtain ⟨its2,r2,t2,z2⟩:=I.tuple hb
      have l2:=r2.length
      have step:∀ (j:Nat) (h1:j < its.toArray.size) (h2:j < its2.toArray.size),SeqAt.EqAt A.in1 s its.toArray[j] its2.toArray[j] (at2 dEq ds es j):=fun j h1 h2=>by
        obtain ⟨x,hx,rx⟩:=xeg r1 h1
        obtain ⟨y,hy,ry⟩:=xeg r2 h2
        have j1:j < ds.length:=by simp at h1; omega
        have j2:j < es.length:=by simp at h2; omega
        rw [xfk (List.getElem?_eq_getElem j1) (List.getElem?_eq_getElem j2)]
        exact (ih j x _ hx (List.getElem?_eq_getElem j1) (k j y _ hy (List.getElem?_eq_getElem j2)) (A:=A.in1) (by show A.units + 1 + n + m < cLine; omega) rx ry).1
      have all:=xeu (xs:=ds) (ys:=es) (e:=at2 dEq ds es) fun j x y h1 h2=>xfk h1 h2
      have both:SeqAt.RcAt A s (.ref a) (.ref b) (dEqs ds es)∧SeqAt.RcNeAt A s (.ref a) (.ref b) (!dEqs ds es):=by
        have z1:=SeqAt.RcAt.tuples (A:=A) (e:=at2 dEq ds es) (show s.heap.IsTuple a its.toArray from t1) (show s.heap.IsTuple b its2.toArray from t2) (by omega) step
        have z2:=SeqAt.RcNeAt.tuples (A:=A) (e:=at2 dEq ds es) (show s.heap.IsTuple a its.toArray from t1) (show s.heap.IsTuple b its2.toArray from t2) (by omega) step
        have e1:its.toArray.size=ds.length:=by simp; omega
        have e2:its2.toArray.size=es.length:=by simp; omega
        rw [e1,e2,all] at z1 z2
        exact ⟨z1,z2⟩
      simp only [dEq]
      refine ⟨?_,both⟩
      by_cases q:a=b
      · subst q
        have ed:DV.tup ds=DV.tup es:=xhb I (Dv.tup ha hl h) (Dv.tup hb kl k)
        rw [show es=ds by injection ed with z; exact z.symm,xco]
        exact SeqAt.EqAt.same _
      · exact .of_refs q both.1
    | @lst m b ys es hb kl k =>
      obtain rfl:v=Value.ref _:=ry
      obtain ⟨its2,r2,t2,z2⟩:=I.list hb
      have l2:=r2.length
      exact ⟨SeqAt.EqAt.tuple_list t1 t2.isList (by omega),SeqAt.RcAt.tuple_list t1 t2.isList (by omega),SeqAt.RcNeAt.tuple_list t1 t2.isList (by omega)⟩
  | @lst n a xs ds ha hl h ih =>
    intro m y e h2 A u v hu rx ry
    obtain rfl:u=Value.ref _:=rx
    obtain ⟨its,r1,t1,z1⟩:=I.list ha
    have l1:=r1.length
    cases h2 with
    | @non  =>
      obtain rfl:v=Value.none:=ry
      exact ⟨SeqAt.EqAt.list_none t1.isList (by omega),SeqAt.RcAt.list_none t1.isList (by omega),SeqAt.RcNeAt.list_none t1.isList (by omega)⟩
    | @bl _ b2 =>
      obtain rfl:v=Value.bool _:=ry
      exact ⟨SeqAt.EqAt.list_bool _ t1.isList (by omega),SeqAt.RcAt.list_bool _ t1.isList (by omega),SeqAt.RcNeAt.list_bool _ t1.isList (by omega)⟩
    | @int _ b2 =>
      obtain ⟨_,rfl⟩:=ry
      exact ⟨SeqAt.EqAt.list_int _ _ t1.isList (by omega),SeqAt.RcAt.list_int _ _ t1.isList (by omega),SeqAt.RcNeAt.list_int _ _ t1.isList (by omega)⟩
    | @str _ b2 =>
      obtain ⟨_,rfl⟩:=ry
      exact ⟨SeqAt.EqAt.list_str _ _ t1.isList (by omega),SeqAt.RcAt.list_str _ _ t1.isList (by omega),SeqAt.RcNeAt.list_str _ _ t1.isList (by omega)⟩
    | @tup m b ys es hb kl k =>
      obtain rfl:v=Value.ref _:=ry
      obtain ⟨its2,r2,t2,z2⟩:=I.tuple hb
      have l2:=r2.length
      exact ⟨SeqAt.EqAt.list_tuple t1.isList t2 (by omega),SeqAt.RcAt.list_tuple t1.isList t2 (by omega),SeqAt.RcNeAt.list_tuple t1.isList t2 (by omega)⟩
    | @lst m b ys es hb kl k =>
      obtain rfl:v=Value.ref _:=ry
      obtain ⟨its2,r2,t2,z2⟩:=I.list hb
      have l2:=r2.length
      have step:∀ (j:Nat) (h1:j < its.toArray.size) (h2:j < its2.toArray.size),SeqAt.EqAt A.in1 s its.toArray[j] its2.toArray[j] (at2 dEq ds es j):=fun j h1 h2=>by
        obtain ⟨x,hx,rx⟩:=xeg r1 h1
        obtain ⟨y,hy,ry⟩:=xeg r2 h2
        have j1:j < ds.length:=by simp at h1; omega
        have j2:j < es.length:=by simp at h2; omega
        rw [xfk (List.getElem?_eq_getElem j1) (List.getElem?_eq_getElem j2)]
        exact (ih j x _ hx (List.getElem?_eq_getElem j1) (k j y _ hy (List.getElem?_eq_getElem j2)) (A:=A.in1) (by show A.units + 1 + n + m < cLine; omega) rx ry).1
      have all:=xeu (xs:=ds) (ys:=es) (e:=at2 dEq ds es) fun j x y h1 h2=>xfk h1 h2
      have both:SeqAt.RcAt A s (.ref a) (.ref b) (dEqs ds es)∧SeqAt.RcNeAt A s (.ref a) (.ref b) (!dEqs ds es):=by
        have e1:its.toArray.size=ds.length:=by simp; omega
        have e2:its2.toArray.size=es.length:=by simp; omega
        by_cases c:ds.length=es.length
        · have z1:=SeqAt.RcAt.lists (A:=A) (e:=at2 dEq ds es) t1.isList t2.isList (by omega) (by omega) step
          have z2:=SeqAt.RcNeAt.lists (A:=A) (e:=at2 dEq ds es) t1.isList t2.isList (by omega) (by omega) step
          have all':(List.range ds.length).all (at2 dEq ds es)=dEqs ds es:=by
            rw [← all,c,Nat.min_self]
            simp
          rw [e1,all'] at z1 z2
          exact ⟨z1,z2⟩
        · rw [xex c]
          exact ⟨SeqAt.RcAt.lists_lengths (A:=A) t1.isList t2.isList (by rw [e1,e2]; simpa using c) (by omega),SeqAt.RcNeAt.lists_lengths (A:=A) t1.isList t2.isList (by rw [e1,e2]; simpa using c) (by omega)⟩
      simp only [dEq]
      refine ⟨?_,both⟩
      by_cases q:a=b
      · subst q
        have ed:DV.lst ds=DV.lst es:=xhb I (Dv.lst ha hl h) (Dv.lst hb kl k)
        rw [show es=ds by injection ed with z; exact z.symm,xco]
        exact SeqAt.EqAt.same _
      · exact .of_refs q both.1
end
theorem Same.seqL {K:PySem.W.Frag} {H H':Hp} {a:Addr} {xs:List V} (s:Same H H') (h:SqL K H a xs):SqL K H' a xs:=by
 rcases h with (h | ⟨ob,h⟩) | h
 ·exact .inl (.inl (s _ _ h))
 ·exact .inl (.inr ⟨ob,s _ _ h⟩)
 ·exact .inr h
def rEqV (K:PySem.W.Frag):R2:=fun x y H Q=>∃ (n m:Nat) (d e:DV),Dv K H n x d∧Dv K H m y e∧n≤9∧m≤9∧Q (.bl (dEq d e)) H
def rInV (K:PySem.W.Frag) (neg:Bool):R2:=fun x y H Q=>∃ (n m:Nat) (d:DV) (es:List DV),Dv K H n x d∧Dv K H m y (.lst es)∧n≤9∧m≤9∧Q (.bl (if neg then !es.any (fun z=>dEq z d) else es.any fun z=>dEq z d)) H
section
variable {X:Cx}
theorem xha (hu:X.A.units + 20 < cLine):OpR X (compareOp .Eq) (rEqV X.K):=by
 intro pins s σ H x y u v Q I rx ry h
 obtain ⟨n,m,d,e,h1,h2,hn,hm,q⟩:=h
 exact (xmb I h1 h2 (A:=X.A) (by omega) rx ry).2.1 X.prog X.w X.xe _ ⟨.bl _,H,I,rfl,q⟩
theorem xke {α β:Type} {f:α→Bool} {g:β→Bool}:∀ {xs:List α} {ys:List β},xs.length=ys.length→(∀ (j:Nat) (x:α) (y:β),xs[j]?=some x→ys[j]?=some y→f x=g y)→xs.any f=ys.any g
 | [],[],_,_=>rfl
 | [],_ :: _,h,_=>by cases h
 | _ :: _,[],h,_=>by cases h
 | x :: xs,y :: ys,h,k=>by
  rw [List.any_cons,List.any_cons,k 0 x y rfl rfl,xke (xs:=xs) (ys:=ys) (by simpa using h) fun j a b h1 h2=>k (j + 1) a b (by simpa using h1) (by simpa using h2)]
noncomputable def eOf (K:PySem.W.Frag) (H:Hp) (m:Nat) (d:DV) (z:V):Bool:=@dite Bool (∃ e,Dv K H m z e) (Classical.propDecidable _) (fun h=>dEq h.choose d) fun _=>false
theorem xj3 {pins:List (Addr × Obj)} {σ:St} {H:Hp} {s:Shared} (I:Inv X pins σ H s) {m:Nat} {d e:DV} {z:V} (h:Dv X.K H m z e):eOf X.K H m d z=dEq e d:=by
 unfold eOf
 rw [dif_pos ⟨e,h⟩]
 have ex:∃ e,Dv X.K H m z e:=⟨e,h⟩
 rw [xhb I ex.choose_spec h]
theorem xjt (hu:X.A.units + 20 < cLine):OpR X (compareOp .In) (rInV X.K false):=by
 intro pins s σ H x y v u Q I rx ry h
 obtain ⟨n,m,d,es,h1,h2,hn,hm,q⟩:=h
 cases h2 with
 | @lst m a xs _ ha hl k =>
  cases ry
  obtain ⟨its,r,pl,hz⟩:=I.list ha
  have get:∀ z ∈ xs,∃ (j:Nat) (e:DV),xs[j]?=some z∧es[j]?=some e∧Dv X.K H m z e:=fun z hz=>by
   obtain ⟨j,hj⟩:=List.getElem?_of_mem hz
   have lt:j < es.length:=by rw [← hl]; exact (List.getElem?_eq_some_iff.mp hj).1
   exact ⟨j,es[j],hj,List.getElem?_eq_getElem lt,k j z _ hj (List.getElem?_eq_getElem lt)⟩
  refine SeqAt.in_listAt (eU (eOf X.K H m d)) pl.isList (fun w hw=>?_) ⟨.bl _,H,I,rfl,?_⟩
  ·obtain ⟨z,m1,m2⟩:=xh2 r w (by simpa using hw)
   obtain ⟨j,e,_,_,he⟩:=get z m1
   rw [xme m2,xj3 I he]
   exact (xmb I he h1 (A:=X.A.in1) (by show X.A.units + 1 + m + n < cLine; omega) m2 rx).1
  ·rw [show its.toArray.any (eU (eOf X.K H m d))=its.any (eU (eOf X.K H m d)) by simp,xj8 r,xke (g:=fun z=>dEq z d) hl fun j z e g1 g2=>xj3 I (k j z e g1 g2)]
   exact q
end
end L2
set_option maxRecDepth 100000
set_option maxHeartbeats 1000000
namespace L2
open PySem PySem.Spec PyProof.Rows XL PySem.W
def Tp (H H':Hp):Prop:=∀ b xs,H b=some (.tup xs)→H' b=some (.tup xs)
theorem Same.tp {H H':Hp} (s:Same H H'):Tp H H':=fun b xs e=>s b _ e
theorem Tp.trans {H H' H'':Hp} (s:Tp H H') (r:Tp H' H''):Tp H H'':=fun b xs e=>r b xs (s b xs e)
theorem xjs {H:Hp} {l:Addr} {xs ys:List V} (h:H l=some (.lst xs)):Tp H (upd H l (.lst ys)):=fun b zs e=>by
 rw [xj (fun z=>by rw [z,h] at e; cases e)]
 exact e
section
variable {J:It} {n:Nat} {g:TG} {σ:St} {fr:List Nat} {tc:TT} {te:TE} {l:Addr} {H1:Hp} {Q:VK}
theorem xmr (len:Nat) (hlen:len < sizeLine) (hl:H1 l=none) (x:Nat→V) (hgo:∀ i H,i < len→Same H1 H→J.go i H) (hy:∀ i H v H',i < len→Same H1 H→J.yld i H v H'→H'=H∧v=x i) (hst:∀ H,Same H1 H→J.stop len H)
    (p:Nat→Bool) (F:Nat→V→Hp→Prop) (stab:∀ i y H H',Tp H H'→F i y H→F i y H')
    (step:∀ i H2,i < len→Same H1 H2→∀ (N:V→Hp→Prop) (M:Hp→Prop),(∀ y H',Same H2 H'→p i=true→F i y H'→N y H')→(∀ H',Same H2 H'→p i=false→M H') →
      g (x i) (blk0 σ fr n) H2 fun σ' H3=>tc σ' H3 fun b H4=>if b=true then te σ' H4 N else M H4)
    (fin:∀ ys H2,Same H1 H2→H2 l=some (.lst ys)→ys.length=((List.range len).filter p).length→(∀ (j:Nat) (y:V) (i:Nat),ys[j]?=some y→((List.range len).filter p)[j]?=some i→F i y H2)→Q (.ref l) H2):xel J n g σ fr tc te l H1 Q:=by
  refine xet len (fun i ys H2=>Same H1 H2∧H2 l=some (.lst ys)∧ys.length=((List.range i).filter p).length∧∀ (j:Nat) (y:V) (k:Nat),ys[j]?=some y→((List.range i).filter p)[j]?=some k→F k y H2) ?_ ?_ ?_ ?_
  · refine ⟨fun b u e=>?_,xf,rfl,fun j y k e=>by simp at e⟩
    rw [xj (xo e hl)]
    exact e
  · rintro i ys H2 lt ⟨s,_⟩
    exact hgo i H2 lt s
  · rintro i ys H2 v H3 lt ⟨s,el,ly,f⟩ yl N hN
    obtain ⟨rfl,rfl⟩:=hy i H2 v H3 lt s yl
    refine step i H3 lt s _ _ (fun y H' s' pt hf=>?_) (fun H' s' pf=>?_)
    · have el':=s' _ _ el
      have ylen:ys.length < sizeLine:=by
        rw [ly]
        refine Nat.lt_of_le_of_lt (List.length_filter_le _ _) ?_
        rw [List.length_range]
        omega
      refine ⟨el',ylen,hN _ _ ⟨fun b u e=>?_,xf,?_,fun j z k e1 e2=>?_⟩⟩
      · rw [xj (xo e hl)]
        exact s' _ _ (s _ _ e)
      · rw [List.range_succ,List.filter_append,List.length_append,List.length_append,ly,List.filter_cons_of_pos pt]
        rfl
      · rw [List.range_succ,List.filter_append,List.filter_cons_of_pos pt] at e2
        by_cases c:j < ys.length
        · rw [List.getElem?_append_left c] at e1
          rw [List.getElem?_append_left (by omega)] at e2
          exact stab _ _ _ _ ((Same.tp s').trans (xjs el')) (f j z k e1 e2)
        · rw [List.getElem?_append_right (by omega)] at e1 e2
          rw [← ly] at e2
          cases hj:j - ys.length with
          | zero =>
            rw [hj] at e1 e2
            simp at e1 e2
            subst e1 e2
            exact stab _ _ _ _ (xjs el') hf
          | succ m =>
            rw [hj] at e1
            simp at e1
    · refine hN _ _ ⟨s.trans s',s' _ _ el,?_,fun j z k e1 e2=>?_⟩
      · rw [List.range_succ,List.filter_append,List.filter_cons_of_neg (by simp [pf])]
        simpa using ly
      · rw [List.range_succ,List.filter_append,List.filter_cons_of_neg (by simp [pf])] at e2
        simp only [List.filter_nil,List.append_nil] at e2
        exact stab _ _ _ _ (Same.tp s') (f j z k e1 e2)
  · rintro ys H2 ⟨s,el,ly,f⟩
    exact ⟨hst _ s,fin ys H2 s el ly f⟩
theorem xfd {K:PySem.W.Frag} {a:Addr} {xs:List V} (hs:SqL K H1 a xs) (hlen:xs.length < sizeLine) (hl:H1 l=none) (p:Nat→Bool) (F:Nat→V→Hp→Prop) (stab:∀ i y H H',Tp H H'→F i y H→F i y H')
    (step:∀ (i:Nat) (x:V) (H2:Hp),xs[i]?=some x→Same H1 H2→∀ (N:V→Hp→Prop) (M:Hp→Prop),(∀ y H',Same H2 H'→p i=true→F i y H'→N y H')→(∀ H',Same H2 H'→p i=false→M H') →
      g x (blk0 σ fr n) H2 fun σ' H3=>tc σ' H3 fun b H4=>if b=true then te σ' H4 N else M H4)
    (fin:∀ ys H2,Same H1 H2→H2 l=some (.lst ys)→ys.length=((List.range xs.length).filter p).length→(∀ (j:Nat) (y:V) (i:Nat),ys[j]?=some y→((List.range xs.length).filter p)[j]?=some i→F i y H2)→Q (.ref l) H2):xel (Itl K a) n g σ fr tc te l H1 Q:=by
  refine xmr xs.length hlen hl (fun i=>xs.getD i .non) (fun i H lt s=>⟨xs,xs[i],Same.seqL s hs,List.getElem?_eq_getElem lt⟩) (fun i H v H' lt s y=>?_) (fun H s=>⟨xs,Same.seqL s hs,Nat.le_refl _⟩) p F stab (fun i H2 lt s N M h1 h2=>?_) fin
  · obtain ⟨e,f⟩:=y
    have z:=f xs (Same.seqL s hs)
    refine ⟨e,?_⟩
    simp [z]
  · have e:xs[i]?=some (xs.getD i .non):=by simp [List.getElem?_eq_getElem lt]
    exact step i _ H2 e s N M h1 h2
theorem xgy {i:Nat} {x:V} {σ0:St} {H2:Hp} {N:V→Hp→Prop} {M:Hp→Prop} {g:TG} {te:TE} (h:g x σ0 H2 fun σ' H3=>te σ' H3 N):g x σ0 H2 fun σ' H3=>xek σ' H3 fun b H4=>if b=true then te σ' H4 N else M H4:=by
 have e:(fun (σ':St) (H3:Hp)=>xek σ' H3 fun b H4=>if b=true then te σ' H4 N else M H4)=fun σ' H3=>te σ' H3 N:=by
  funext σ' H3
  show (if true=true then te σ' H3 N else M H3)=te σ' H3 N
  rw [if_pos rfl]
 rw [e]
 exact h
theorem xfe (m:Nat):(List.range m).filter (fun _=>true)=List.range m:=by simp
theorem xf7 {K:PySem.W.Frag} {a:Addr} {xs:List V} (hs:SqL K H1 a xs) (hlen:xs.length < sizeLine) (hl:H1 l=none) (F:Nat→V→Hp→Prop) (stab:∀ i y H H',Tp H H'→F i y H→F i y H')
    (step:∀ (i:Nat) (x:V) (H2:Hp),xs[i]?=some x→Same H1 H2→∀ (N:V→Hp→Prop),(∀ y H',Same H2 H'→F i y H'→N y H')→g x (blk0 σ fr n) H2 fun σ' H3=>te σ' H3 N)
    (fin:∀ ys H2,Same H1 H2→H2 l=some (.lst ys)→ys.length=xs.length→(∀ (i:Nat) (y:V),ys[i]?=some y→F i y H2)→Q (.ref l) H2):xel (Itl K a) n g σ fr xek te l H1 Q:=by
  refine xfd hs hlen hl (fun _=>true) F stab (fun i x H2 hx s N M h1 h2=>xgy (i:=i) (step i x H2 hx s N fun y H' s' f=>h1 y H' s' rfl f)) (fun ys H2 s e ly f=>?_)
  rw [xfe,List.length_range] at ly
  refine fin ys H2 s e ly fun i y hy=>f i y i hy ?_
  rw [xfe,List.getElem?_range (by have:=(List.getElem?_eq_some_iff.mp hy).1; omega)]
end
theorem xio {α:Type} {f:α→V}:∀ {as:List α} {ys:List V},ys.length=as.length→(∀ (i:Nat) (y:V) (a:α),ys[i]?=some y→as[i]?=some a→y=f a)→ys=as.map f
 | [],[],_,_=>rfl
 | [],_ :: _,h,_=>by cases h
 | _ :: _,[],h,_=>by cases h
 | a :: as,y :: ys,h,k=>by
  rw [List.map_cons,k 0 y a rfl rfl,xio (as:=as) (ys:=ys) (by simpa using h) fun i y' a' h1 h2=>k (i + 1) y' a' (by simpa using h1) (by simpa using h2)]
theorem xhy {α:Type} (q:α→Bool):∀ (as:List α) (p:Nat→Bool),(∀ (i:Nat) (a:α),as[i]?=some a→p i=q a)→((List.range as.length).filter p).filterMap (fun i=>as[i]?)=as.filter q
 | [],_,_=>rfl
 | a :: as,p,h=>by
  have ih:=xhy q as (fun i=>p (i + 1)) fun i b hb=>h (i + 1) b (by simpa using hb)
  rw [List.length_cons,List.range_succ_eq_map]
  have e:((List.range as.length).map Nat.succ).filter p=((List.range as.length).filter (fun i=>p (i + 1))).map Nat.succ:=by
   rw [List.filter_map]
   rfl
  have h0:=h 0 a rfl
  by_cases c:q a=true
  ·rw [List.filter_cons_of_pos (by rw [h0]; exact c),List.filter_cons_of_pos c,e,List.filterMap_cons]
   simp only [List.getElem?_cons_zero,List.filterMap_map]
   rw [← ih]
   rfl
  ·rw [List.filter_cons_of_neg (by rw [h0]; exact c),List.filter_cons_of_neg c,e,List.filterMap_map,← ih]
   rfl
theorem xmz {α:Type} (q:α→Bool) {as:List α} {p:Nat→Bool} (h:∀ (i:Nat) (a:α),as[i]?=some a→p i=q a):((List.range as.length).filter p).length=(as.filter q).length∧∀ j i:Nat,((List.range as.length).filter p)[j]?=some i→as[i]?=(as.filter q)[j]?:=by
 rw [← xhy q as p h]
 have all:∀ i ∈ (List.range as.length).filter p,∃ a,as[i]?=some a:=fun i hi=>by
  have:=List.mem_range.mp (List.mem_filter.mp hi).1
  exact ⟨as[i],List.getElem?_eq_getElem this⟩
 generalize (List.range as.length).filter p=is at all
 induction is with
 | nil=>exact ⟨rfl,fun j i e=>by simp at e⟩
 | cons i is ih =>
  obtain ⟨a,ha⟩:=all i List.mem_cons_self
  obtain ⟨h1,h2⟩:=ih fun k hk=>all k (List.mem_cons_of_mem _ hk)
  rw [List.filterMap_cons,ha]
  refine ⟨by simp [h1],fun j k e=>?_⟩
  cases j with
  | zero =>
   simp at e
   subst e
   exact ha
  | succ m=>exact h2 m k (by simpa using e)
end L2
set_option maxRecDepth 100000
set_option maxHeartbeats 1000000
namespace XL
open PySem PySem.MeetsSeq PySem.MeetsSeq2 PySem.MeetsSeq3 PySem.SeqAt
open AutoSeq1 (wpAny_loadPart')
end XL
namespace L2
open PySem PySem.Spec PyProof.Rows XL PySem.W
theorem Room.mark {q0:Bool} {j k:Nat} {A:Around} (r:Room q0 k A) (h:j≤k) {e:Option Value}:Room false j (A.mark e) :=
 ⟨fun z=>(nomatch z),by have:=r.dp; show A.depth + 3 * j + 5 < _; omega,by have:=r.un; show A.units + 16 * j + 200 < _; omega⟩
def xjk:Expr→Bool
 | .Starred _ _=>false
 | _=>true
theorem xiq {e:Expr} {es:List Expr} {env:Env} (h:xjk e=true):starEach (e :: es) env=(false,eval e env) :: starEach es env:=by
 cases e <;> first | rfl | cases h
theorem xaa {X:Cx} {e:Expr} {es:List Expr} {te:TE} {t:TA} (ha:PE X e te) (hr:PA X es t) (hn:xjk e=true):PA X (e :: es) (xl4 te t):=xb ha hr (xiq hn)
section
variable {X:Cx}
end
section
variable {J:It} {n:Nat} {g:TG} {σ:St} {fr:List Nat} {tc:TT} {te:TE} {l:Addr} {H1:Hp} {Q:VK}
end
end L2
set_option maxRecDepth 100000
set_option maxHeartbeats 1000000
namespace XL
open PySem L2
open PyProof.Rows (assign_Tuple)
section
variable {prog:Program} {w:World} {A:Around} {E:Value→Shared→Prop}
theorem xgs {it t:Addr} {its:Array Value} (ne:t≠it):∀ (n i:Nat) (s:Shared) (Q:List Value→Shared→Prop),s.heap.IsListIter it t i→s.heap.IsList t its→i + n≤its.size →
    (∀ h',h'.IsListIter it t (i + n)→Heap.SameBut it s.heap h'→Q ((its.toList.drop i).take n) { s with heap:=h' })→wpAny (model prog w) A (draw (.ref it) n) Q E s
  | 0,i,s,Q,hit,_,_,q=>by
    show wpAny _ _ (pure []) Q E s
    exact wpAny_pure (by simpa using q s.heap hit (Heap.SameBut.refl ..))
  | n + 1,i,s,Q,hit,ht,le,q=>by
    have lt:i < its.size:=by omega
    show wpAny _ _ (pyNext (.ref it) >>= _) Q E s
    refine wpAny_bind (wpAny_pyNext_list_item hit ht (x:=its[i]) (by simp [lt]) fun h1 i1 s1=>?_)
    refine wpAny_bind (wpAny_holding (xgs ne n (i + 1) _ _ i1 (ht.extBut s1.extBut ne) (by omega) fun h2 i2 s2=>wpAny_pure ?_))
    have e:its.toList.drop i=its[i] :: its.toList.drop (i + 1):=by simp [List.drop_eq_getElem_cons,lt]
    have z:=q h2 (by rw [show i + (n + 1)=i + 1 + n by omega]; exact i2) (s1.trans s2)
    rw [e,List.take_succ_cons] at z
    exact z
theorem xeo {env:Env} {es:List Expr} {k} {pos:Pos} {t:Addr} {its:Array Value} {s:Shared} {Q:Unit→Shared→Prop} (hh:A.handled=none) (ht:s.heap.IsList t its)
    (hn:(assignEach es env).length=its.size) (hs:(assignEach es env).findIdx? (·.1)=none)
    (h:∀ h',Heap.ExtBut s.heap.objs.size s.heap h'→wpAny (model prog w) A (assignInOrder ((assignEach es env).map (·.2)) its.toList) Q E { s with heap:=h' }) :
    wpAny (model prog w) A (assign (.Tuple es k pos) env (.ref t)) Q E s:=by
  rw [assign_Tuple]
  refine wpAny_bind (wpAny_standAt ?_)
  unfold unpack
  rw [hn,hs]
  refine wpAny_bind (wpAny_holding ?_)
  have ne:t≠s.heap.objs.size:=by
    obtain ⟨o,e,_⟩:=ht
    exact Nat.ne_of_lt (Heap.lt_size e)
  unfold unpackItems
  refine wpAny_bind ?_
  unfold notIterableAtAll
  refine wpAny_bind (wpAny_specialOf ht.typeIs slot_list_iter.lookup ?_)
  refine wpAny_pure ?_
  simp only [Bool.false_eq_true,if_false]
  refine wpAny_bind (wpAny_holding (wpAny_pyIter_list ht ?_))
  refine wpAny_bind (wpAny_holding (xgs ne its.size 0 _ _ ⟨_,Heap.get?_push_size _ rfl,rfl,rfl⟩ (ht.push _) (by omega) fun h1 i1 s1=>?_))
  rw [show List.take its.size (List.drop 0 its.toList)=its.toList by rw [List.drop_zero]; exact List.take_of_length_le (by simp)]
  rw [if_neg (by simp)]
  have t1:h1.IsList t its:=(ht.push _).extBut s1.extBut ne
  refine wpAny_bind (wpAny_holding (wpAny_pyNext_list_end hh i1 t1 (by simp) fun h2 e2=>?_))
  simp only [Option.isSome_none,Bool.false_eq_true,if_false]
  exact wpAny_pure (h h2 fun b o hb e=>e2 b o hb (s1.extBut b o hb (Heap.get?_push_of_some _ e)))
end
section
variable {X:Cx} {pos:Pos}
def xpg (K:PySem.W.Frag) (n:Nat) (t:TGs):TG:=fun v σ H Q=>∃ a xs,v=.ref a∧SqL K H a xs∧xs.length=n∧t xs σ H Q
theorem xdd {es:List Expr} {k:Nat} {t:TGs} {n:Nat} (hc:X.calm=true) (h:PGs X es t)
    (hn:(assignEach es X.env).length=n:=by rfl) (hst:(assignEach es X.env).findIdx? (·.1)=none:=by rfl):PG X (.Tuple es k pos) (xpg X.K n t):=by
  intro pins s σ H v u Q I r hw
  obtain ⟨a,xs,e1,hq,hl,hw⟩:=hw
  subst e1
  cases r
  obtain ⟨its,rv,pl,hz⟩:=I.list hq
  refine xeo (I.ok.hd hc) pl.isList (by simp [hn,← hl,rv.length]) hst fun h' hx=>?_
  have I1:Inv X pins σ H { s with heap:=h' }:=I.kept (t':=s.toks) fun b o e=>hx b o (Nat.ne_of_lt (Heap.lt_size e)) e
  exact h pins _ σ H xs _ Q I1 (by simpa using rv) hw
end
end XL
set_option maxRecDepth 100000
set_option maxHeartbeats 1000000
namespace L2
open PySem PySem.Spec PyProof.Rows XL PySem.W
section
variable {J:It} {n:Nat} {g:TG} {σ:St} {fr:List Nat} {tc:TT} {te:TE} {l:Addr} {H1:Hp} {Q:VK}
end
end L2
set_option maxRecDepth 100000
set_option maxHeartbeats 1000000
namespace L2
open PySem PySem.Spec PyProof.Rows XL PySem.W
section
variable {J:It} {n:Nat} {g:TG} {σ:St} {fr:List Nat} {tc:TT} {te:TE} {l:Addr} {H1:Hp} {Q:VK}
end
end L2
set_option maxRecDepth 100000
set_option maxHeartbeats 1000000
namespace L2
open PySem PySem.Spec PyProof.Rows XL PySem.W PySem.Builtin PySem.Builtin.Str
theorem xf6 (x y:Str):(Txt.split x y).length≤x.length + 2:=by
 unfold Txt.split
 split
 ·exact Nat.le_add_left 1 (x.length + 1)
 ·split
  ·exact Nat.le_add_left 1 (x.length + 1)
  ·have:=StrLaws.occ_length_le x y 0 x.length (x.length + 1)
   rw [length_partsBetween]
   omega
theorem xfx:∀ (l:List (Str × Tok)),Vals ((l.map (·.1)).map V.str) (strValues l)
 | []=>.nil
 | (x,t) :: l=>.cons ⟨t,rfl⟩ (xfx l)
section
variable {prog:Program} {w:World} {A:Around} {E:Value→Shared→Prop} {s:Shared} {x y:Str} {t u:Tok} {Q:Value→Shared→Prop}
theorem xkd (hy:(y.length == 0)=false) (hz:x.length + 2≤sizeLine)
    (h:∀ (l:List (Str × Tok)) (k:Nat),l.map (·.1)=Txt.split x y→Q (.ref s.heap.objs.size) { s with heap:=s.heap.push { cls:=.type "list",data:=.seq (strValues l).toArray },toks:=k }) :
    wpAny (model prog w) A (call (.builtin "str.split") [.str x t,.str y u]) Q E s:=by
  have sl:=xf6 x y
  have go:=fun {S:PySem.Spec}=>call_meets (prog:=prog) (w:=w) (A:=A) (E:=E) (s:=s) (S:=S) (Q:=Q) F.slot_str_split (typeIs_str s x t) F.entry_str_split (F.args_str_split_2 _ _) (rest:=[.str y u])
  by_cases c:(decide (x.length < y.length) || decide (strKind x < strKind y))=true
  · exact go (meets_str_split_cannot_occur x y t u c) (h [(x,t)] s.toks (by unfold Txt.split; rw [if_pos c]; rfl))
  · have c':=Bool.eq_false_iff.mpr c
    by_cases f:(occurrences x y 0 x.length (x.length + 1)).isEmpty=true
    · exact go (meets_str_split_not_found x y t u c' hy f) (h [(x,t)] s.toks (by unfold Txt.split; rw [if_neg c,if_pos f]; rfl))
    · have e:Txt.split x y=partsBetween x (occurrences x y 0 x.length (x.length + 1)) y.length:=by unfold Txt.split; rw [if_neg c,if_neg f]
      rw [e] at sl
      refine go (meets_str_split_sep x y t u c' hy (Bool.eq_false_iff.mpr f) (by omega) (by omega)) ?_
      have z:=h (numbered s.toks (Txt.split x y)) (s.toks + (Txt.split x y).length) (numbered_texts _ _)
      rw [← strsFrom_eq,e] at z
      exact z
end
section
variable {X:Cx}
theorem xg0:MtR X "str.split" (fun x xs H Q=>∃ a b,x=.str a∧xs=[.str b]∧(b.length == 0)=false∧a.length + 2≤sizeLine∧∀ l,H l=none→Q (.ref l) (upd H l (.lst ((Txt.split a b).map V.str)))):=by
 intro pins s σ H x xs v us Q I rx rs h
 obtain ⟨a,b,rfl,rfl,hb,hz,q⟩:=h
 obtain ⟨t,rfl⟩:=rx
 obtain ⟨u,rfl,t',rfl⟩:=xch rs
 refine xkd hb hz fun l k e=>?_
 have sl:=xf6 a b
 rw [← e] at q sl
 have new:xal X.prog X.w (upd H s.heap.objs.size (.lst ((l.map (·.1)).map V.str))) (s.heap.push { cls:=.type "list",data:=.seq (strValues l).toArray }) s.heap.objs.size (.lst ((l.map (·.1)).map V.str)):=⟨by rw [List.length_map]; omega,strValues l,0,xfx l,Heap.get?_push_size _ rfl⟩
 exact ⟨.ref s.heap.objs.size,_,I.laid (t':=k) (fun b o e=>Heap.get?_push_of_some _ e) (Nat.le_refl _) new,rfl,q _ (I.hok.fresh (Nat.le_refl _))⟩
theorem xgg:xb0 X (.type "int") (fun xs H Q=>∃ (x:Str) (n:Int),xs=[.str x]∧PySem.intText? x=some n∧x.length≤640∧Q (.int n) H):=by
 intro pins s σ H xs us Q I r h
 obtain ⟨x,n,rfl,e,hz,q⟩:=h
 obtain ⟨u,rfl,t,rfl⟩:=xch r
 exact KIN.call_text e hz ⟨.int n,H,I.tok _,⟨_,rfl⟩,q⟩
end
theorem xkq {c:Nat}:∀ {a b X Y:List Nat},c ∉ a→c ∉ b→a ++ c :: X=b ++ c :: Y→a=b∧X=Y
 | [],[],X,Y,_,_,h=>⟨rfl,(List.cons.inj h).2⟩
 | [],z :: b,X,Y,_,hb,h=>absurd (List.cons.inj h).1 fun e=>hb (e ▸ List.mem_cons_self)
 | z :: a,[],X,Y,ha,_,h=>absurd (List.cons.inj h).1.symm fun e=>ha (e ▸ List.mem_cons_self)
 | z :: a,y :: b,X,Y,ha,hb,h=>by
  obtain ⟨e1,e2⟩:=List.cons.inj h
  obtain ⟨r1,r2⟩:=xkq (fun m=>ha (List.mem_cons_of_mem _ m)) (fun m=>hb (List.mem_cons_of_mem _ m)) e2
  exact ⟨by rw [e1,r1],r2⟩
theorem xb8 {a b:Str} (h:a.cps.toList=b.cps.toList):a=b:=by
 obtain ⟨a⟩:=a
 obtain ⟨b⟩:=b
 exact congrArg Str.mk (Array.toList_inj.mp h)
theorem xbw (c:Nat) (a b:Str) (r:List Str):(Str.join ⟨#[c]⟩ (a :: b :: r)).cps.toList=a.cps.toList ++ c :: (Str.join ⟨#[c]⟩ (b :: r)).cps.toList:=by
 show (a ++ (⟨#[c]⟩:Str) ++ Str.join ⟨#[c]⟩ (b :: r)).cps.toList=_
 show ((a.cps ++ #[c]) ++ (Str.join ⟨#[c]⟩ (b :: r)).cps).toList=_
 simp
theorem xg8 {c:Nat}:∀ {ws vs:List Str},ws≠[]→vs≠[]→(∀ p ∈ ws,c ∉ p.cps.toList)→(∀ p ∈ vs,c ∉ p.cps.toList)→Str.join ⟨#[c]⟩ ws=Str.join ⟨#[c]⟩ vs→ws=vs
 | [],_,h,_,_,_,_=>absurd rfl h
 | _ :: _,[],_,h,_,_,_=>absurd rfl h
 | [a],[b],_,_,_,_,h=>by
  have e:a=b:=h
  rw [e]
 | [a],b :: b2 :: r,_,_,ha,_,h=>by
  have e:=congrArg (fun s:Str=>s.cps.toList) h
  change a.cps.toList=(Str.join ⟨#[c]⟩ (b :: b2 :: r)).cps.toList at e
  rw [xbw] at e
  exact absurd (by rw [e]; simp) (ha a List.mem_cons_self)
 | a :: a2 :: r,[b],_,_,_,hb,h=>by
  have e:=congrArg (fun s:Str=>s.cps.toList) h
  change (Str.join ⟨#[c]⟩ (a :: a2 :: r)).cps.toList=b.cps.toList at e
  rw [xbw] at e
  exact absurd (by rw [← e]; simp) (hb b List.mem_cons_self)
 | a :: a2 :: r,b :: b2 :: r',_,_,ha,hb,h=>by
  have e:=congrArg (fun s:Str=>s.cps.toList) h
  change (Str.join ⟨#[c]⟩ (a :: a2 :: r)).cps.toList=(Str.join ⟨#[c]⟩ (b :: b2 :: r')).cps.toList at e
  rw [xbw,xbw] at e
  obtain ⟨e1,e2⟩:=xkq (ha a List.mem_cons_self) (hb b List.mem_cons_self) e
  rw [xb8 e1,xg8 (ws:=a2 :: r) (vs:=b2 :: r') (by simp) (by simp) (fun p hp=>ha p (List.mem_cons_of_mem _ hp)) (fun p hp=>hb p (List.mem_cons_of_mem _ hp)) (xb8 e2)]
theorem xk9 (x y:Str):Txt.split x y≠[]:=by
 unfold Txt.split
 split
 ·simp
 ·split
  ·simp
  ·intro e
   have:=congrArg List.length e
   rw [length_partsBetween] at this
   simp at this
theorem xfl {c:Nat} {ws:List Str} (ne:ws≠[]) (free:∀ p ∈ ws,c ∉ p.cps.toList):Txt.split (Str.join ⟨#[c]⟩ ws) ⟨#[c]⟩=ws :=
 xg8 (xk9 _ _) ne (StrLaws.split_free _ _) free (StrLaws.join_split _ _)
end L2
set_option maxRecDepth 100000
set_option maxHeartbeats 1000000
namespace L2
open PySem PySem.Spec PyProof.Rows XL
open AutoSeq1 (wpAny_loadPart')
section
variable {prog:Program} {w:World} {A:Around} {E:Value→Shared→Prop} {s:Shared}
end
section
variable {prog:Program} {w:World} {A:Around} {E:Value→Shared→Prop} {s:Shared}
end
section
variable {prog:Program} {w:World} {K:Type} [DecidableEq K] {knd:KeyKind prog w K} {A:Around} {E:Value→Shared→Prop} {s:Shared}
end
section
variable {X:Cx} {elts:List Expr} {x1:_} {tpos:Pos}
end
section
variable {X:Cx} {o:Expr} {to:TE} {tg:Expr} {apos cpos:Pos}
end
end L2
set_option maxRecDepth 100000
set_option maxHeartbeats 1000000
namespace L2
open PySem PySem.Spec PyProof.Rows XL
section
variable {prog:Program} {w:World} {A:Around} {E:Value→Shared→Prop} {s:Shared}
end
section
variable {X:Cx}
end
end L2
set_option maxRecDepth 100000
set_option maxHeartbeats 1000000
namespace L2
open PySem PySem.Spec PyProof.Rows XL
section
variable {X:Cx} {o:Expr} {to:TE} {tg:Expr}
end
end L2
set_option maxRecDepth 100000
set_option maxHeartbeats 1000000
namespace L2
open PySem PySem.Spec PyProof.Rows XL
open AutoSeq1 (wpAny_loadPart')
section
variable {M:Model} {A:Around} {E:Value→Shared→Prop} {s:Shared} {env:Env}
theorem xem {pos:Pos} {T:String} {first:List Value} {args:List (Bool × Sem Value)} {keywords:List (Option Str × Sem Value)} {Q:Value→Shared→Prop}
    (hplain:args.any (·.1)=false) (hkw:keywords.any (·.1.isNone)=false)
    (h:wpAny M A (evalArgs (.type T) true args keywords) (fun a s₁=>wpAny M A (call (.type T) (first ++ a.pos) a.kw) Q E s₁) E s) :
    wpAny M A (callWith pos (.type T) first args keywords) Q E s:=by
  unfold callWith
  refine wpAny_bind (wpAny_holding (wpAny_mono h (fun a s₁ h₁=>wpAny_bind (wpAny_standAt ?_)) fun _ _ x=>x))
  simp only [hplain,hkw,Bool.or_false]
  refine wpAny_bind (wpAny_pure ?_)
  exact wpAny_bind (wpAny_mono h₁ (fun r s₂ hr=>wpAny_bind (wpAny_holding (wpAny_point (wpAny_pure hr)))) fun _ _ x=>x)
theorem xg1 {pos:Pos} {T:String} {e:Expr} {rest:List Expr} {kws:List Keyword} {Q:Value→Shared→Prop}
    (h:wpAny M A (spliced (backTo pos (starEach (e :: rest) env))) (fun vs s₁=>wpAny M A (evalAll ((backToKw pos (keywordEach kws env)).map (·.2)))
      (fun kvs s₂=>wpAny M A (call (.type T) vs (((backToKw pos (keywordEach kws env)).filterMap (·.1)).zip kvs)) Q E s₂) E s₁) E s)
    (he:backTo pos (starEach (e :: rest) env)=(false,eval e env) :: backTo pos (starEach rest env):=by rfl)
    (hplain:(backTo pos (starEach (e :: rest) env)).any (·.1)=false:=by rfl)
    (hall:(backToKw pos (keywordEach kws env)).all (·.1.isSome)=true:=by rfl)
    (hkw:(backToKw pos (keywordEach kws env)).any (·.1.isNone)=false:=by rfl) :
    wpAny M A (callWith pos (.type T) [] (backTo pos (starEach (e :: rest) env)) (backToKw pos (keywordEach kws env))) Q E s:=by
  refine xem hplain hkw ?_
  rw [he] at h ⊢
  exact evalArgs_kwB hall h
end
section
variable {prog:Program} {w:World} {A:Around} {E:Value→Shared→Prop} {s:Shared}
theorem xen {T newId initId:String} {Bn Bi:Builtin} {args:List Value} {kw:List (Str × Value)} {S:PySem.Spec} {Q Q₁:Value→Shared→Prop} (ft:TypeCalled T newId initId)
    (hct:checkTypeCall T ⟨args,kw⟩=pure ()) (hcn:checkBuiltinCall newId ⟨.type T :: args,kw⟩=pure ())
    (entryN:entryFor table newId=some Bn) (entryI:entryFor table initId=some Bi) (g:Meets (Bn ⟨.type T :: args,kw⟩) S)
    (h:S A.in1 (wants Q₁ E) s)
    (hnext:∀ obj s₁,Q₁ obj s₁→s₁.TypeIs obj T∧argsOk initId ⟨obj :: args,kw⟩∧∃ Si,Meets (Bi ⟨obj :: args,kw⟩) Si∧Si A.in1 (wants (fun r s₂=>r=.none∧Q obj s₂) E) s₁) :
    wpAny (model prog w) A (call (.type T) args kw) Q E s:=by
  obtain ⟨c,tl,hmro⟩:=ft.mro
  have hmade:=ft.made
  have hsub:=ft.sub
  refine wpAny_call (codeAny_of_tree ?_)
  show wpAny _ _ (callAny (.type T) _) _ _ _
  refine wpAny_pure ⟨Code.quiet_builtin _ (by decide +kernel),codeAny_builtin F.entry_type_call ?_⟩
  rw [Around.under_plain (weight_type_call_type T args kw) (units_type_call_type T args kw)]
  have h1:=ft.notType
  have h2:=ft.canCreate
  repeat (any_goals (first | assumption | wp_step))
  refine codeAny_mono (codeAny_call_builtin ft.plain entryN (wpAny_of_eq hcn (g prog w A.in1 _ s h))) fun r s₁ hr=>?_
  cases r with
  | error e=>exact hr
  | ok fl =>
    cases fl with
    | ret obj =>
      obtain ⟨hT,hok,Si,gi,hsi⟩:=hnext _ _ hr
      have hli:=ft.init.lookup
      have hbi:=ft.init.bind obj
      repeat (any_goals (first | assumption | wp_step))
      refine codeAny_mono (codeAny_call_builtin ft.init.plain entryI (ft.init.check _ _ _ _ _ _ _ _ hT hok (gi prog w A.in1 _ s₁ hsi))) fun r₂ s₂ hr₂=>?_
      cases r₂ with
      | error e=>exact hr₂
      | ok fl₂ =>
        cases fl₂ with
        | ret r =>
          obtain ⟨rfl,hq⟩:=hr₂
          repeat (any_goals (first | assumption | wp_step))
        | _=>exact hr₂.elim
    | _=>exact hr.elim
end
theorem xdp (l:Addr) (items:Array Value) (n:Nat) (dct:Option Addr) (sl:Array (Option Value)) (tc:Tok) :
    Meets (Builtin.«enumerate.__new__» ⟨[.type "enumerate",.ref l],[(Str.ofString "start",.int 1 tc)]⟩) (fun _ R s=>s.heap.get? l=some { cls:=.type "list",dict:=dct,data:=.seq items n,slots:=sl } ∧
      R (.ok (.ret (.ref (s.heap.push { cls:=.type "list_iterator",data:=.fields #[.ref l,.int 0 0] }).objs.size)))
        { s with heap:=(s.heap.push { cls:=.type "list_iterator",data:=.fields #[.ref l,.int 0 0] }).push { cls:=.type "enumerate",data:=.fields #[.none,.bool false,.ref s.heap.objs.size,rawInt 1,.none,.none] } }) :=
  .of_wp fun prog w A R s h=>by
    obtain ⟨hp,g,d,tk,os⟩:=s; obtain ⟨hl,h⟩:=h
    have hsub:=sub_enumerate
    have hL:Heap.IsList (Shared.heap ⟨hp,g,d,tk,os⟩) l items:=⟨_,hl,rfl,n,rfl⟩
    wp_walk using wpAny_loadPart' hl
    refine wpAny_stack_any fun st=>wpAny_pure ?_
    split
    · rename_i c _ _ _ _ _
      cases (c == Value.type "enumerate")
      · wp_walk using wpAny_loadPart' hl,wpAny_pyIter_list hL
        exact ⟨_,rfl,h⟩
      · wp_walk using wpAny_loadPart' hl,wpAny_pyIter_list hL
        exact ⟨_,rfl,h⟩
    · wp_walk using wpAny_loadPart' hl,wpAny_pyIter_list hL
      exact ⟨_,rfl,h⟩
section
variable {prog:Program} {w:World} {A:Around} {E:Value→Shared→Prop} {s:Shared}
theorem xin {e it l:Addr} {i:Nat} {items:Array Value} {x old:Value} {Q:Value→Shared→Prop}
    (he:IsEnum s.heap e it ((i:Int) + 1) old) (hit:s.heap.IsListIter it l i) (hl:s.heap.IsList l items) (hx:items[i]?=some x) (hne:e≠it)
    (hQ:∀ h',IsEnumOut h' e it ((i:Int) + 1 + 1) x s.heap.objs.size→h'.IsListIter it l (i + 1) →
      h'.get? s.heap.objs.size=some { cls:=.type "tuple",data:=.seq #[.int ((i:Int) + 1) s.toks,x] }→h'.objs.size=s.heap.objs.size + 1 →
      (∀ b o,b≠e→b≠it→s.heap.get? b=some o→h'.get? b=some o)→Q (.ref s.heap.objs.size) { s with heap:=h',toks:=s.toks + 1 }) :
    wpAny (model prog w) A (Builtin.«enumerate.__next__» ⟨[.ref e],[]⟩) (fun fin s'=>∃ v,fin=.done (.ret v)∧Q v s') E s:=by
  obtain ⟨hp,g,d,tk,os⟩:=s
  show wpAny _ _ (field (.ref e) 2 >>= _) _ _ _
  refine wpAny_bind (wpAny_field he rfl (x:=.ref it) rfl ?_)
  refine wpAny_bind (wpAny_nextOf_list_item hit hl hx fun h₁ hit₁ hs₁=>?_)
  replace hs₁:Heap.SameBut it hp h₁:=hs₁
  have he₁:IsEnum h₁ e it ((i:Int) + 1) old:=(hs₁.2 e hne).trans he
  show wpAny _ _ (field (.ref e) 3 >>= _) _ _ ⟨h₁,g,d,tk,os⟩
  refine wpAny_bind (wpAny_field he₁ rfl (x:=rawInt ((i:Int) + 1)) rfl ?_)
  show wpAny _ _ (field (.ref e) 4 >>= _) _ _ ⟨h₁,g,d,tk,os⟩
  refine wpAny_bind (wpAny_field he₁ rfl (x:=.none) rfl ?_)
  show wpAny _ _ (mkInt ((i:Int) + 1) >>= _) _ _ ⟨h₁,g,d,tk,os⟩
  refine wpAny_bind (wpAny_mkInt ?_)
  show wpAny _ _ (setField (.ref e) 3 (rawInt ((i:Int) + 1 + 1)) >>= _) _ _ ⟨h₁,g,d,tk + 1,os⟩
  refine wpAny_bind (wpAny_setField_rec he₁ (by simp) fun h₂ he₂ hs₂=>?_)
  replace hs₂:Heap.SameBut e h₁ h₂:=hs₂
  replace he₂:IsEnum h₂ e it ((i:Int) + 1 + 1) old:=he₂
  show wpAny _ _ (setField (.ref e) 4 .none >>= _) _ _ ⟨h₂,g,d,tk + 1,os⟩
  refine wpAny_bind (wpAny_setField_rec he₂ (by simp) fun h₃ he₃ hs₃=>?_)
  replace hs₃:Heap.SameBut e h₂ h₃:=hs₃
  replace he₃:IsEnum h₃ e it ((i:Int) + 1 + 1) old:=he₃
  show wpAny _ _ (newTuple [.int ((i:Int) + 1) tk,x] >>= _) _ _ ⟨h₃,g,d,tk + 1,os⟩
  refine wpAny_bind (wpAny_newTuple ?_)
  have he₄:IsEnum (h₃.push { cls:=.type "tuple",data:=.seq #[.int ((i:Int) + 1) tk,x] }) e it ((i:Int) + 1 + 1) old:=Heap.get?_push_of_some _ he₃
  generalize hh₄:h₃.push { cls:=.type "tuple",data:=.seq #[.int ((i:Int) + 1) tk,x] }=h₄ at he₄
  have hsz:h₃.objs.size=hp.objs.size:=by rw [hs₃.1,hs₂.1,hs₁.1]
  have hel:e < hp.objs.size:=Heap.lt_size he
  have ht₄:h₄.get? hp.objs.size=some { cls:=.type "tuple",data:=.seq #[.int ((i:Int) + 1) tk,x] }:=by rw [← hh₄,← hsz]; exact Heap.get?_push_size _ rfl
  have hz₄:h₄.objs.size=hp.objs.size + 1:=by rw [← hh₄,Heap.size_push,hsz]
  have hk₄:∀ b o,b≠e→b≠it→hp.get? b=some o→h₄.get? b=some o:=fun b o hbe hbi hb=>by
    rw [← hh₄]; exact Heap.get?_push_of_some _ (hs₃.extBut b o hbe (hs₂.extBut b o hbe (hs₁.extBut b o hbi hb)))
  have hit₄:h₄.IsListIter it l (i + 1):=by
    rw [← hh₄]; obtain ⟨o,ho,r⟩:=(hit₁.extBut hs₂.extBut (Ne.symm hne)).extBut hs₃.extBut (Ne.symm hne); exact ⟨o,Heap.get?_push_of_some _ ho,r⟩
  show wpAny _ _ (Builtin.SmallTypes.ownedTupleIsFree (.ref e) >>= _) _ _ ⟨h₄,g,d,tk + 1,os⟩
  rw [hsz]
  clear hh₄ he₃ hs₃ he₂ hs₂ he₁ hs₁ hit₁ hsz h₃ h₂ h₁
  refine wpAny_bind ?_
  · unfold Builtin.SmallTypes.ownedTupleIsFree
    refine wpAny_bind (wpAny_field he₄ rfl (x:=.none) rfl (wpAny_pure ?_))
    simp only [if_true]
    refine wpAny_bind (wpAny_rule ?_)
    refine wpAny_bind (wpAny_field he₄ rfl (x:=old) rfl ?_)
    refine wpAny_bind (wpAny_setField_rec he₄ (by simp) fun h₅ he₅ hs₅=>?_)
    replace hs₅:Heap.SameBut e h₄ h₅:=hs₅
    replace he₅:IsEnum h₅ e it ((i:Int) + 1 + 1) x:=he₅
    show wpAny _ _ (Builtin.SmallTypes.ownedTupleHandOut (.ref e) (.ref hp.objs.size) >>= _) _ _ ⟨h₅,g,d,tk + 1,os⟩
    refine wpAny_bind ?_
    · unfold Builtin.SmallTypes.ownedTupleHandOut
      refine wpAny_bind (wpAny_setField_rec he₅ (by simp) fun h₆ he₆ hs₆=>?_)
      replace hs₆:Heap.SameBut e h₅ h₆:=hs₆
      replace he₆:IsEnumOut h₆ e it ((i:Int) + 1 + 1) x hp.objs.size:=he₆
      refine wpAny_setField_rec he₆ (by simp) fun h₇ he₇ hs₇=>?_
      replace hs₇:Heap.SameBut e h₆ h₇:=hs₇
      replace he₇:IsEnumOut h₇ e it ((i:Int) + 1 + 1) x hp.objs.size:=he₇
      refine wpAny_bind (wpAny_letGo (wpAny_pure ⟨_,rfl,hQ h₇ he₇ ?_ ?_ ?_ ?_⟩))
      · exact ((hit₄.extBut hs₅.extBut (Ne.symm hne)).extBut hs₆.extBut (Ne.symm hne)).extBut hs₇.extBut (Ne.symm hne)
      · exact hs₇.extBut _ _ (Nat.ne_of_gt hel) (hs₆.extBut _ _ (Nat.ne_of_gt hel) (hs₅.extBut _ _ (Nat.ne_of_gt hel) ht₄))
      · rw [hs₇.1,hs₆.1,hs₅.1,hz₄]
      · exact fun b o hbe hbi hb=>hs₇.extBut b o hbe (hs₆.extBut b o hbe (hs₅.extBut b o hbe (hk₄ b o hbe hbi hb)))
theorem xdx (a v:Value):checkTypeCall "enumerate" ⟨[a],[(Str.ofString "start",v)]⟩=pure ():=by kernel_rfl
theorem xd5 (a v:Value):checkBuiltinCall "enumerate.__new__" ⟨[.type "enumerate",a],[(Str.ofString "start",v)]⟩=pure ():=by kernel_rfl
theorem xdb (a b v:Value):argsOk "object.__init__" ⟨[a,b],[(Str.ofString "start",v)]⟩:=by unfold argsOk; kernel_rfl
theorem xfn {T newId:String} {self a v:Value} (hl:typeLookup (.type T) "__init__"=pure (some (.builtin "object.__init__")))
    (hm:Bind.madeBy (.type T)=pure (some newId)) (hne:(some newId != some "object.__new__")=true) :
    Meets (Builtin.«object.__init__» ⟨[self,a],[(Str.ofString "start",v)]⟩) (fun _ R s=>s.TypeIs self T∧R (.ok (.ret .none)) s):=by
  refine Meets.of_wp fun prog w A R s hs=>?_
  obtain ⟨hT,hq⟩:=hs
  repeat (any_goals (first | assumption | wp_step))
  exact ⟨_,rfl,hq⟩
theorem xfb {l:Addr} {items:Array Value} {tc:Tok} {Q:Value→Shared→Prop} (hL:s.heap.IsList l items)
    (h:∀ h',IsEnum h' (s.heap.objs.size + 1) s.heap.objs.size 1 .none→h'.IsListIter s.heap.objs.size l 0→h'.objs.size=s.heap.objs.size + 2 →
      (∀ b o,s.heap.get? b=some o→h'.get? b=some o)→Q (.ref (s.heap.objs.size + 1)) { s with heap:=h' }) :
    wpAny (model prog w) A (call (.type "enumerate") [.ref l] [(Str.ofString "start",.int 1 tc)]) Q E s:=by
  obtain ⟨⟨c,dct,dt,sl⟩,hl,hc,n,hd⟩:=hL
  replace hc:c=.type "list":=hc
  replace hd:dt=.seq items n:=hd
  subst hc hd
  refine xen F.called_enumerate (xdx _ _) (xd5 _ _) F.entry_enumerate_new F.entry_object_init (xdp l items n dct sl tc) (Q₁:=fun obj s₁=>s₁.TypeIs obj "enumerate"∧Q obj s₁) ⟨hl,?_⟩ fun obj _ hq =>
    ⟨hq.1,xdb obj _ _,_,xfn F.called_enumerate.init.lookup F.called_enumerate.made (by decide),hq.1,rfl,hq.2⟩
  have hz:(s.heap.push { cls:=.type "list_iterator",data:=.fields #[.ref l,.int 0 0] }).objs.size=s.heap.objs.size + 1:=Heap.size_push ..
  show _∧_
  rw [hz]
  have he:IsEnum ((s.heap.push { cls:=.type "list_iterator",data:=.fields #[.ref l,.int 0 0] }).push
      { cls:=.type "enumerate",data:=.fields #[.none,.bool false,.ref s.heap.objs.size,rawInt 1,.none,.none] }) (s.heap.objs.size + 1) s.heap.objs.size 1 .none:=by
    have:=Heap.get?_push_size (s.heap.push { cls:=.type "list_iterator",data:=.fields #[.ref l,.int 0 0] })
      (o:={ cls:=.type "enumerate",data:=.fields #[.none,.bool false,.ref s.heap.objs.size,rawInt 1,.none,.none] }) rfl
    rw [hz] at this; exact this
  refine ⟨⟨_,he,rfl⟩,h _ he ⟨_,Heap.get?_push_of_some _ (Heap.get?_push_size _ rfl),rfl,rfl⟩ (by rw [Heap.size_push,hz]) fun b o x=>Heap.get?_push_of_some _ (Heap.get?_push_of_some _ x)⟩
end
end L2
set_option maxRecDepth 100000
set_option maxHeartbeats 1000000
namespace L2
open PySem PySem.Spec PyProof.Rows XL
def Ite1 (K:PySem.W.Frag) (a:Addr):It :=
 ⟨fun i H=>∃ xs x,SqL K H a xs∧xs[i]?=some x,fun i H v H'=>∃ p x,(∀ xs,SqL K H a xs→xs[i]?=some x)∧v=.ref p∧H p=none∧H'=upd H p (.tup [.int ((i:Int) + 1),x]),fun i H=>∃ xs,SqL K H a xs∧xs.length≤i⟩
theorem xig {P:Program} {w:World} {K:PySem.W.Frag} {elts:List Expr} {x1} {tpos:Pos} (e it l:Addr) (hei:e≠it) :
    Turn P w K (.Tuple elts x1 tpos) (Ite1 K l) [e,it] e (fun i h=>(∃ old,IsEnum h e it ((i:Int) + 1) old)∧h.IsListIter it l i) where
  mem:=by simp
  obj:=fun i h st b hb=>by
    obtain ⟨⟨old,he⟩,⟨o1,e1,c1,d1⟩⟩:=st
    simp only [List.mem_cons,List.not_mem_nil,or_false] at hb
    rcases hb with rfl | rfl
    · exact ⟨_,he,fun v k=>by have k':Data.fields _=Data.cell v:=k; cases k'⟩
    · exact ⟨_,e1,fun v k=>by rw [d1] at k; cases k⟩
  keep:=fun i h h' ⟨⟨old,he⟩,h1⟩ k=>⟨⟨old,k e (by simp) _ he⟩,h1.at fun o z=>k it (by simp) o z⟩
  item:=by
    intro X hP hw hK hc i pins s σ H E I hf st hg
    subst hP hw hK
    obtain ⟨xs,x,hq,hx⟩:=hg
    obtain ⟨its,rv,p,hz1⟩:=I.list hq
    obtain ⟨u,hu,ru⟩:=rv.get hx
    obtain ⟨⟨old,he⟩,h1⟩:=id st
    have hTy:s.TypeIs (.ref e) "enumerate":=⟨_,he,rfl⟩
    unfold pyNext
    refine wpAny_bind (wpAny_attempt (wpAny_callSpecial?_slot (name:=Str.ofString "__next__") hTy F.slot_enumerate_next
      (wpAny_call_entry F.slot_enumerate_next hTy F.entry_enumerate_next
        (xin he h1 p.isList (x:=u) (by simpa using hu) hei fun h' ho hit' hT hsz hk=>wpAny_pure ?_) (F.args_enumerate_next_1 _))))
    refine ⟨_,rfl,wpAny_letOwnedTupleGo_enum (s:={ s with heap:=h',toks:=s.toks + 1 }) ho fun h'' he' hs'=>?_⟩
    have elt:e < s.heap.objs.size:=Heap.lt_size he
    have pne:s.heap.objs.size≠e:=Nat.ne_of_gt elt
    have kk:∀ b o,b ∉ [e,it]→s.heap.get? b=some o→h''.get? b=some o:=fun b o hb g=>by
      simp only [List.mem_cons,List.not_mem_nil,or_false,not_or] at hb
      exact (hs'.2 b hb.1).trans (hk b o hb.1 hb.2 g)
    have I1:Inv X pins σ H { s with heap:=h'',toks:=s.toks + 1 }:=I.turnedL kk hf
    obtain ⟨n0,nL,nC,nP⟩:=I.size_lt (Nat.le_refl s.heap.objs.size)
    have hp:h''.get? s.heap.objs.size=some { cls:=.type "tuple",data:=.seq #[.int ((i:Int) + 1) s.toks,u] }:=(hs'.2 _ pne).trans hT
    refine ⟨.ref s.heap.objs.size,upd H s.heap.objs.size (.tup [.int ((i:Int) + 1),x]),I1.adopt n0 I.sz nL nC nP ⟨by show 2≤sizeLine; decide,[.int ((i:Int) + 1) s.toks,u],.cons ⟨_,rfl⟩ (.cons ru .nil),_,hp,rfl,_,rfl⟩,rfl,
      ⟨_,x,fun zs hz=>by rw [I.list_inj hz hq]; exact hx,rfl,n0,rfl⟩,?_,fun b hb=>?_⟩
    · exact ⟨⟨_,by simpa using he'⟩,hit'.at fun o y=>(hs'.2 it (Ne.symm hei)).trans y⟩
    · obtain ⟨o,ho⟩:∃ o,s.heap.get? b=some o:=by
        obtain ⟨o1,e1,c1,d1⟩:=h1
        simp only [List.mem_cons,List.not_mem_nil,or_false] at hb
        rcases hb with rfl | rfl
        · exact ⟨_,he⟩
        · exact ⟨_,e1⟩
      rw [xj (Nat.ne_of_lt (Heap.lt_size ho))]
      exact (hf b hb).1
  done:=by
    intro X hP hw hK hc i pins s σ H E I hf st hg
    subst hP hw hK
    obtain ⟨xs,hq,hl⟩:=hg
    obtain ⟨its,rv,p,hz1⟩:=I.list hq
    have e1:=rv.length
    obtain ⟨⟨old,he⟩,h1⟩:=id st
    have fin:∀ h',Heap.ExtBut it s.heap h'→(none:Option Value)=none∧Inv X pins σ H { s with heap:=h' }:=fun h' hx=>⟨rfl,I.turnedL (t':=s.toks) (fun b o hb g=>by
      simp only [List.mem_cons,List.not_mem_nil,or_false,not_or] at hb
      exact hx b o hb.2 g) hf⟩
    have hTy:s.TypeIs (.ref e) "enumerate":=⟨_,he,rfl⟩
    unfold pyNext
    refine wpAny_bind (wpAny_attempt (wpAny_callSpecial?_slot (name:=Str.ofString "__next__") hTy F.slot_enumerate_next
      (wpAny_call_entry F.slot_enumerate_next hTy F.entry_enumerate_next ?_ (F.args_enumerate_next_1 _))))
    show wpAny _ _ (field (.ref e) 2 >>= _) _ _ _
    refine wpAny_bind (wpAny_field he rfl (x:=.ref it) rfl ?_)
    refine wpAny_bind (wpAny_nextOf_list_end (I.ok.hd hc) h1 p.isList (by simp; omega) fun h' x he' hx'=>?_)
    obtain ⟨o,ho,hc⟩:=hx'
    refine wpAny_bind (wpAny_isInstance (T:="StopIteration") (b:=true) ⟨o,ho,hc⟩ isSubtype_stop ?_)
    exact wpAny_pure (fin _ he')
  self:=fun _ _ _ _ _ ⟨⟨_,st⟩,_⟩ h=>wpAny_pyIter_enum st h
def xn1 (K:PySem.W.Frag) (ta:TA) (tk:TE):TI:=fun σ H R=>ta σ H fun vs H1=>tk σ H1 fun k H2=>∃ a xs,vs=[.ref a]∧k=.int 1∧SqL K H2 a xs∧R (Ite1 K a) H2
section
variable {X:Cx} {elts:List Expr} {x1:_} {tpos:Pos}
theorem xk2 {a k:Expr} {ta:TA} {tk:TE} {p pos kp:Pos} (hg:Gl X "enumerate") (hm:X.mg "enumerate"=none) (ha:PA X [a] ta) (hk:PE X k tk) (hs:starEach [a] X.env=[(false,eval a X.env)]:=by rfl) :
    PI X (.Tuple elts x1 tpos) (.Call (.Name "enumerate" p) [a] [⟨some "start",k,kp⟩] pos) (xn1 X.K ta tk):=by
  intro pins s σ H R I h
  refine wpAny_Call_Name_kw (xdz I hg hm PyProof.Rows.Boot.«enumerate» (xg1 (thn (ha pos pins s σ H _ I h) fun us s1 ⟨vs,H1,I1,r1,q1⟩=>?_) (by rw [hs]; rfl) (by rw [hs]; rfl)))
  refine kws_cons (thn (hk pins s1 σ H1 _ I1 q1) fun u2 s2 ⟨x2,H2,I2,r2,q2⟩=>kws_nil ?_)
  obtain ⟨l,xs,e,e2,hq,q⟩:=q2
  subst e
  subst e2
  obtain ⟨u,rfl,ru⟩:=xch r1
  obtain rfl:u=Value.ref l:=ru
  obtain ⟨tk2,rfl⟩:=r2
  obtain ⟨its,rv,p1,hz1⟩:=I2.list hq
  refine xfb p1.isList fun h' he h1 hsz hk'=>?_
  refine wpAny_pyIter_enum (s:={ s2 with heap:=h' }) he ?_
  have I3:Inv X pins σ H2 { s2 with heap:=h' }:=I2.kept (t':=s2.toks) hk'
  refine ⟨_,[s2.heap.objs.size + 1,s2.heap.objs.size],_,_,H2,rfl,I3,xig _ _ l (xnz (by omega)),⟨⟨_,he⟩,h1⟩,fun b hb=>?_,q⟩
  have hb':s2.heap.objs.size≤b:=by
    simp only [List.mem_cons,List.not_mem_nil,or_false] at hb
    rcases hb with rfl | rfl
    · exact Nat.le_add_right _ 1
    · exact Nat.le_refl _
  exact I2.fpOk hb' (I2.hok.fresh hb')
end
theorem xj4 {K:PySem.W.Frag} {a:Addr} {xs:List V} {g:TG} {tb:TS} {D:Ends} {σ:St} {H:Hp} (Pv:Nat→St→Hp→Prop) (h0:Pv 0 σ H) (hl:∀ i σ H,i≤xs.length→Pv i σ H→SqL K H a xs)
    (hs:∀ i x p σ H,xs[i]?=some x→H p=none→Pv i σ H→g (.ref p) σ (upd H p (.tup [.int ((i:Int) + 1),x])) fun σ2 H2=>tb { D with nx:=Pv (i + 1),ct:=Pv (i + 1),bk:=D.nx } σ2 H2) (hd:∀ σ H,Pv xs.length σ H→D.nx σ H) :
    ∃ W:Nat→Nat→St→Hp→Prop,(∃ m,W 0 m σ H)∧∀ i m σ H,W i m σ H →
      ((Ite1 K a).stop i H∧D.nx σ H)∨((Ite1 K a).go i H∧∃ N:St→Hp→Prop,(∀ σ' H',N σ' H'→∃ m',m' < m∧W (i + 1) m' σ' H')∧∀ x H',(Ite1 K a).yld i H x H'→g x σ H' fun σ2 H2=>tb { D with nx:=N,ct:=N,bk:=D.nx } σ2 H2):=by
  refine ⟨fun i m σ H=>m=xs.length - i∧i≤xs.length∧Pv i σ H,⟨xs.length,by simp,Nat.zero_le _,h0⟩,?_⟩
  rintro i m σ H ⟨rfl,hi,p⟩
  have q:=hl i σ H hi p
  by_cases hlt:i < xs.length
  · refine .inr ⟨⟨xs,xs[i],q,by simp [hlt]⟩,Pv (i + 1),fun σ' H' p'=>⟨xs.length - (i + 1),by omega,rfl,hlt,p'⟩,fun x H' y=>?_⟩
    obtain ⟨r,x',e1,rfl,hr,rfl⟩:=y
    exact hs i x' r σ H (e1 _ q) hr p
  · have e:i=xs.length:=by omega
    subst e
    exact .inl ⟨⟨xs,q,Nat.le_refl _⟩,hd σ H p⟩
end L2
set_option maxRecDepth 100000
set_option maxHeartbeats 1000000
namespace L2
open PySem PySem.Spec PyProof.Rows XL
def numT (n:Nat):Str:=Str.ofString (toString (n:Int))
def xgo (n:Nat):Bool:=(numT n).cps.toList.all (fun c=>decide (48≤c) && decide (c≤57)) && (decide ((numT n).length=1) || (decide ((numT n).length=2) && !decide ((numT n).cps.toList.head?=some 48))) && decide (PySem.intText? (numT n)=some (n:Int))
theorem xd6:∀ n,n < 100→xgo n=true:=by decide +kernel
theorem xeq {n:Nat} (h:n < 100):∀ c ∈ (numT n).cps.toList,48≤c∧c≤57:=by
 have z:=xd6 n h
 unfold xgo at z
 rw [Bool.and_eq_true,Bool.and_eq_true,List.all_eq_true] at z
 intro c hc
 have:=z.1.1 c hc
 rw [Bool.and_eq_true] at this
 exact ⟨of_decide_eq_true this.1,of_decide_eq_true this.2⟩
theorem xg6 {n:Nat} (h:n < 100):PySem.intText? (numT n)=some (n:Int):=by
 have z:=xd6 n h
 unfold xgo at z
 rw [Bool.and_eq_true] at z
 exact of_decide_eq_true z.2
theorem xdr {n:Nat} (h:n < 100):(numT n).length=1∨((numT n).length=2∧(numT n).cps.toList.head?≠some 48):=by
 have z:=xd6 n h
 unfold xgo at z
 rw [Bool.and_eq_true,Bool.and_eq_true] at z
 have y:=z.1.2
 rw [Bool.or_eq_true,Bool.and_eq_true] at y
 rcases y with y | ⟨y1,y2⟩
 ·exact .inl (of_decide_eq_true y)
 ·refine .inr ⟨of_decide_eq_true y1,?_⟩
  simpa using y2
theorem xc8 {n c:Nat} (h:n < 100) (hc:c < 48):c ∉ (numT n).cps.toList:=fun m=>by
 have:=xeq h c m
 omega
end L2
set_option maxRecDepth 100000
set_option maxHeartbeats 1000000
namespace L2
open PySem PySem.Spec PyProof.Rows XL PySem.W PySem.Builtin PySem.Builtin.Str
section
variable {J:It} {n:Nat} {g:TG} {σ:St} {fr:List Nat} {tc:TT} {te:TE} {l:Addr} {H1:Hp} {Q:VK}
theorem xif {K:PySem.W.Frag} {a:Addr} {xs:List V} (hs:SqL K H1 a xs) (hlen:xs.length < sizeLine) (hl:H1 l=none) (F:Nat→List V→Hp→Prop) (F0:∀ H,Same H1 H→F 0 [] H) (stab:∀ i ys zs H H',H l=some (.lst zs)→(∀ b u,b≠l→H b=some u→H' b=some u)→F i ys H→F i ys H')
    (step:∀ (i:Nat) (x:V) (ys:List V) H2,xs[i]?=some x→Same H1 H2→H2 l=some (.lst ys)→F i ys H2→∀ (N:V→Hp→Prop),(∀ y H',Same H2 H'→F (i + 1) (ys ++ [y]) H'→N y H')→g x (blk0 σ fr n) H2 fun σ' H3=>te σ' H3 N)
    (fin:∀ ys H2,Same H1 H2→H2 l=some (.lst ys)→ys.length=xs.length→F xs.length ys H2→Q (.ref l) H2):xel (Itl K a) n g σ fr xek te l H1 Q:=by
  refine xet xs.length (fun i ys H2=>Same H1 H2∧H2 l=some (.lst ys)∧ys.length=i∧F i ys H2) ?_ ?_ ?_ ?_
  · have s0:Same H1 (upd H1 l (.lst [])):=fun b u e=>by
      rw [xj (xo e hl)]
      exact e
    exact ⟨s0,xf,rfl,F0 _ s0⟩
  · rintro i ys H2 lt ⟨s,_⟩
    exact ⟨xs,xs[i],Same.seqL s hs,List.getElem?_eq_getElem lt⟩
  · rintro i ys H2 v H3 lt ⟨s,el,ly,f⟩ ⟨rfl,yv⟩ N hN
    have hv:=yv xs (Same.seqL s hs)
    refine xgy (i:=i) (step i v ys H3 hv s el f _ fun y H' s' f'=>?_)
    have el':=s' _ _ el
    refine ⟨el',by omega,hN _ _ ⟨fun b u e=>?_,xf,by simp [ly],stab _ _ _ _ _ el' (fun b u nb e=>?_) f'⟩⟩
    · rw [xj (xo e hl)]
      exact s' _ _ (s _ _ e)
    · rw [xj nb]
      exact e
  · rintro ys H2 ⟨s,el,ly,f⟩
    exact ⟨⟨xs,Same.seqL s hs,Nat.le_refl _⟩,fin ys H2 s el ly f⟩
end
theorem xa5 (a b:Str):(a ++ b).cps.toList=a.cps.toList ++ b.cps.toList:=by
 show (a.cps ++ b.cps).toList=_
 simp
theorem xlb (c:Nat) (a:Str):Str.join ⟨#[c]⟩ [a]=a:=rfl
theorem xd4 {c:Nat} {w:Str}:∀ {ws:List Str},ws≠[]→Str.join ⟨#[c]⟩ ws ++ (⟨#[c]⟩:Str) ++ w=Str.join ⟨#[c]⟩ (ws ++ [w])
 | [],h=>absurd rfl h
 | [a],_=>by
  apply xb8
  rw [xa5,xa5]
  show _=(Str.join ⟨#[c]⟩ (a :: w :: [])).cps.toList
  rw [xbw]
  simp [xlb]
 | a :: b :: r,_=>by
  have ih:=congrArg (fun s:Str=>s.cps.toList) (xd4 (c:=c) (w:=w) (ws:=b :: r) (by simp))
  change (Str.join ⟨#[c]⟩ (b :: r) ++ (⟨#[c]⟩:Str) ++ w).cps.toList=(Str.join ⟨#[c]⟩ (b :: (r ++ [w]))).cps.toList at ih
  rw [xa5,xa5] at ih
  apply xb8
  show _=(Str.join ⟨#[c]⟩ (a :: b :: (r ++ [w]))).cps.toList
  rw [xa5,xa5,xbw,xbw,← ih]
  simp
theorem xbn (a:Str):a.length=a.cps.toList.length:=by simp [Str.length]
theorem xds {c k:Nat}:∀ {ws:List Str},(∀ p ∈ ws,p.length≤k)→(Str.join ⟨#[c]⟩ ws).length≤ws.length * (k + 1)
 | [],_=>by show (Str.join ⟨#[c]⟩ []).length≤0 * (k + 1); rw [Nat.zero_mul]; exact Nat.le_of_eq rfl
 | [a],h=>by
  have:=h a List.mem_cons_self
  show a.length≤1 * (k + 1)
  omega
 | a :: b :: r,h=>by
  have h1:=h a List.mem_cons_self
  have ih:=xds (c:=c) (k:=k) (ws:=b :: r) fun p hp=>h p (List.mem_cons_of_mem _ hp)
  rw [xbn] at h1 ih
  rw [xbn,xbw,List.length_append,List.length_cons,List.length_cons,Nat.succ_mul]
  omega
end L2
set_option maxRecDepth 100000
set_option maxHeartbeats 1000000
namespace L2
open PySem PySem.Spec PyProof.Rows XL PySem.W PySem.Builtin PySem.Builtin.Str
theorem xhf (s k:Nat):∀ (ws:List Str) (a:Nat),(∀ w ∈ ws,w.length≤k)→ws.foldl (fun n w=>n + w.length + s) a≤a + ws.length * (k + s)
 | [],a,_=>by simp
 | w :: ws,a,h=>by
  have h1:=h w List.mem_cons_self
  have ih:=xhf s k ws (a + w.length + s) fun v hv=>h v (List.mem_cons_of_mem _ hv)
  rw [List.foldl_cons,List.length_cons,Nat.succ_mul]
  omega
theorem xhs:∀ {ws:List Str} {its:List Value},Vals (ws.map V.str) its→∃ l:List (Str × Tok),its=strValues l∧l.map (·.1)=ws
 | [],_,.nil=>⟨[],rfl,rfl⟩
 | w :: ws,_,.cons r rs=>by
  obtain ⟨t,rfl⟩:=r
  obtain ⟨l,e1,e2⟩:=xhs rs
  exact ⟨(w,t) :: l,by rw [e1]; rfl,by rw [← e2]; rfl⟩
theorem xf5 {sep:Str} {k:Nat}:∀ {ws:List Str},(∀ p ∈ ws,p.length≤k)→(Str.join sep ws).length≤ws.length * (k + sep.length)
 | [],_=>by show (Str.join sep []).length≤0 * (k + sep.length); rw [Nat.zero_mul]; exact Nat.le_of_eq rfl
 | [a],h=>by
  have:=h a List.mem_cons_self
  show a.length≤1 * (k + sep.length)
  omega
 | a :: b :: r,h=>by
  have h1:=h a List.mem_cons_self
  have ih:=xf5 (sep:=sep) (k:=k) (ws:=b :: r) fun p hp=>h p (List.mem_cons_of_mem _ hp)
  have e:(Str.join sep (a :: b :: r)).length=a.length + sep.length + (Str.join sep (b :: r)).length:=by
   show (a ++ sep ++ Str.join sep (b :: r)).length=_
   rw [xbn,xa5,xa5,List.length_append,List.length_append,← xbn,← xbn,← xbn]
  rw [e,List.length_cons,Nat.succ_mul]
  omega
def xp0:V→List V→Hp→VK→Prop:=fun x xs H Q=>∃ (sep:Str) (l:Addr) (ws:List Str) (k:Nat),x=.str sep∧xs=[.ref l]∧H l=some (.lst (ws.map V.str))∧(∀ w ∈ ws,w.length≤k)∧ws.length * (k + sep.length)≤sizeLine∧Q (.str (Str.join sep ws)) H
section
variable {X:Cx}
theorem xmp:MtR X "str.join" xp0:=by
 intro pins s σ H x xs v us Q I rx rs h
 obtain ⟨sep,l,ws,k,rfl,rfl,hl,hk,hz,q⟩:=h
 obtain ⟨t,rfl⟩:=rx
 obtain ⟨u,rfl,ru⟩:=xch rs
 obtain rfl:u=Value.ref l:=ru
 obtain ⟨_,its,n,vs,e⟩:=I.hok _ _ hl
 obtain ⟨ps,rfl,rfl⟩:=xhs vs
 have fl:=xhf sep.length k (ps.map (·.1)) 0 hk
 have hl2:tooLong ((ps.map (·.1)).toArray.foldl (· + ·.length + sep.length) 0)=false:=by
  unfold tooLong
  rw [List.foldl_toArray]
  exact decide_eq_false (by omega)
 refine call_meets F.slot_str_join (typeIs_str s sep t) F.entry_str_join (F.args_str_join_2 _ _) (meets_str_join_list sep t l ps hl2) ⟨⟨_,e,rfl,n,rfl⟩,?_⟩
 have jz:=xf5 (sep:=sep) hk
 have jl:(glued sep (ps.map (·.1))).length≤sizeLine:=by
  rw [StrLaws.glued_eq_join]
  exact Nat.le_trans jz hz
 rw [← StrLaws.glued_eq_join] at q
 match ps,jl,q with
 | [],jl,q=>exact ⟨jl,.str _,H,I.tok _,⟨_,rfl⟩,q⟩
 | [p],jl,q =>
  rw [StrLaws.glued_eq_join] at q
  exact ⟨.str p.1,H,I,⟨_,rfl⟩,q⟩
 | p :: p2 :: r,jl,q=>exact ⟨jl,.str _,H,I.tok _,⟨_,rfl⟩,q⟩
end
end L2
namespace L2
open PySem PySem.Spec PyProof.Rows XL PySem.W
def gOr (g1 g2:TG):TG:=fun v σ H Q=>g1 v σ H Q∨g2 v σ H Q
theorem xmd {X:Cx} {tg:Expr} {g1 g2:TG} (h1:PG X tg g1) (h2:PG X tg g2):PG X tg (gOr g1 g2):=by
 intro pins s σ H v u Q I r h
 rcases h with h | h
 ·exact h1 pins s σ H v u Q I r h
 ·exact h2 pins s σ H v u Q I r h
end L2
namespace Geo
def dn (y r:Int):Int:=if y < r then 1 else -1
def upN (y r:Int):Nat:=if y < r then (r - y).toNat else (y - r).toNat
def wayI (b:Bool):Int:=if b then -1 else 1
def lvN (w x:Int) (b:Bool):Nat:=if b then (x + 1).toNat else (w + 2 - x).toNat
def upL (x y r:Int):List (Int × Int):=(List.range (upN y r)).map fun (i:Nat)=>(x,y + (i:Int) * dn y r)
def lvL (w x:Int) (b:Bool) (r:Int):List (Int × Int):=(List.range (lvN w x b)).map fun (i:Nat)=>(x + (i:Int) * wayI b,r)
def cells (w x y:Int) (b:Bool) (r:Int):List (Int × Int):=upL x y r ++ lvL w x b r
def btw (v a b:Int):Prop:=min a b≤v∧v≤max a b
instance (v a b:Int):Decidable (btw v a b):=inferInstanceAs (Decidable (_∧_))
end Geo
set_option maxRecDepth 100000
set_option maxHeartbeats 4000000
namespace S22
open PySem L2 XL
def top (i:Nat):Stmt:=PySem.Challenge.pw_rimnotes_k22_points_in_lines.main.body.getD i (.Pass ⟨0,0,0,0⟩)
abbrev s_y:Stmt:=xax (top 4) 0
abbrev s_z:Stmt:=xax (top 5) 0
abbrev s_q:Stmt:=xax (top 6) 0
abbrev s_k:Stmt:=xax (top 7) 0
abbrev s_l:Stmt:=xax (top 8) 0
abbrev s_h:Stmt:=xax (top 10) 0
abbrev s_r:Stmt:=xax (top 11) 0
abbrev s_ae:Stmt:=xax (top 17) 0
abbrev s_aw:Stmt:=top 20
abbrev s_u:Stmt:=top 22
abbrev s_ax:Stmt:=top 23
abbrev s_s:Stmt:=xax (top 29) 0
abbrev s_g:Stmt:=xax (top 29) 1
abbrev s_d:Stmt:=xax (top 29) 4
abbrev s_f:Stmt:=xax (top 29) 6
abbrev s_i:Stmt:=xax (top 29) 7
abbrev s_b:Stmt:=xax (top 29) 16
abbrev s_a:Stmt:=xax (top 29) 17
abbrev s_c:Stmt:=xax (top 29) 18
abbrev s_x:Stmt:=top 31
abbrev s_ar:Stmt:=top 32
abbrev s_aj:Stmt:=top 33
abbrev s_an:Stmt:=top 34
abbrev s_am:Stmt:=top 35
abbrev s_at:Stmt:=top 36
abbrev s_aa:Stmt:=top 37
abbrev s_o:Stmt:=top 38
abbrev s_ag:Stmt:=top 39
abbrev s_ai:Stmt:=top 41
abbrev s_ab:Stmt:=top 42
abbrev s_ac:Stmt:=top 43
abbrev s_ao:Stmt:=top 44
abbrev s_ay:Stmt:=top 45
abbrev s_aq:Stmt:=top 46
abbrev s_ad:Stmt:=top 47
abbrev s_p:Stmt:=top 48
abbrev s_ap:Stmt:=top 49
abbrev s_ak:Stmt:=top 50
abbrev xdw:Stmt:=top 51
set_option genInjectivity false in
set_option genSizeOf false in
structure Adr where
 f_y:Addr
 d_y:FuncData
 f_z:Addr
 d_z:FuncData
 f_q:Addr
 d_q:FuncData
 f_k:Addr
 d_k:FuncData
 f_l:Addr
 d_l:FuncData
 f_h:Addr
 d_h:FuncData
 f_r:Addr
 d_r:FuncData
 f_ae:Addr
 d_ae:FuncData
 f_aw:Addr
 d_aw:FuncData
 f_u:Addr
 d_u:FuncData
 f_ax:Addr
 d_ax:FuncData
 f_s:Addr
 d_s:FuncData
 f_g:Addr
 d_g:FuncData
 T_g:Addr
 f_d:Addr
 d_d:FuncData
 f_f:Addr
 d_f:FuncData
 f_i:Addr
 d_i:FuncData
 f_b:Addr
 d_b:FuncData
 f_a:Addr
 d_a:FuncData
 f_c:Addr
 d_c:FuncData
 f_x:Addr
 d_x:FuncData
 f_ar:Addr
 d_ar:FuncData
 f_aj:Addr
 d_aj:FuncData
 f_an:Addr
 d_an:FuncData
 f_am:Addr
 d_am:FuncData
 f_at:Addr
 d_at:FuncData
 f_aa:Addr
 d_aa:FuncData
 f_o:Addr
 d_o:FuncData
 f_ag:Addr
 d_ag:FuncData
 f_ai:Addr
 d_ai:FuncData
 f_ab:Addr
 d_ab:FuncData
 f_ac:Addr
 d_ac:FuncData
 f_ao:Addr
 d_ao:FuncData
 f_ay:Addr
 d_ay:FuncData
 f_aq:Addr
 d_aq:FuncData
 f_ad:Addr
 d_ad:FuncData
 f_p:Addr
 d_p:FuncData
 f_ap:Addr
 d_ap:FuncData
 f_ak:Addr
 d_ak:FuncData
 f_law:Addr
 d_law:FuncData
 C_as:Addr
 C_ah:Addr
 C_af:Addr
 C_m:Addr
 C_j:Addr
 C_n:Addr
 C_v:Addr
 C_e:Addr
 C_w:Addr
 C_az:Addr
 C_au:Addr
 C_al:Addr
 C_t:Addr
 D_av:Addr
structure Txt (w:World) (K:PySem.W.Frag) (mg:Str→Option Value) (t:Adr):Prop where
 g_as:mg "RimError"=some (.ref t.C_as)
 g_ah:mg "NoName"=some (.ref t.C_ah)
 g_af:mg "NoCell"=some (.ref t.C_af)
 g_m:mg "NoSides"=some (.ref t.C_m)
 g_j:mg "NoWindow"=some (.ref t.C_j)
 g_n:mg "OldPoint"=some (.ref t.C_n)
 g_v:mg "TooMany"=some (.ref t.C_v)
 g_e:mg "SameColumn"=some (.ref t.C_e)
 g_w:mg "SameRow"=some (.ref t.C_w)
 g_az:mg "Side"=some (.ref t.C_az)
 g_au:mg "LeftSide"=some (.ref t.C_au)
 g_al:mg "RightSide"=some (.ref t.C_al)
 g_t:mg "Picture"=some (.ref t.C_t)
 F_y:Fun K "__init__" "NoName.__init__" s_y t.f_y t.d_y
 b_y:xae K t.d_y ["self", "name"] []
 F_z:Fun K "__init__" "NoCell.__init__" s_z t.f_z t.d_z
 b_z:xae K t.d_z ["self", "x", "y"] []
 F_q:Fun K "__init__" "NoSides.__init__" s_q t.f_q t.d_q
 b_q:xae K t.d_q ["self", "sides"] []
 F_k:Fun K "__init__" "NoWindow.__init__" s_k t.f_k t.d_k
 b_k:xae K t.d_k ["self", "low", "high"] []
 F_l:Fun K "__init__" "OldPoint.__init__" s_l t.f_l t.d_l
 b_l:xae K t.d_l ["self", "name"] []
 F_h:Fun K "__init__" "SameColumn.__init__" s_h t.f_h t.d_h
 b_h:xae K t.d_h ["self", "name"] []
 F_r:Fun K "__init__" "SameRow.__init__" s_r t.f_r t.d_r
 b_r:xae K t.d_r ["self", "name"] []
 F_ae:Fun K "__init__" "Side.__init__" s_ae t.f_ae t.d_ae
 b_ae:xae K t.d_ae ["self", "width"] []
 g_aw:mg "side_of"=some (.ref t.f_aw)
 F_aw:Fun K "side_of" "side_of" s_aw t.f_aw t.d_aw
 b_aw:xae K t.d_aw ["word", "width"] []
 g_u:mg "is_whole"=some (.ref t.f_u)
 F_u:Fun K "is_whole" "is_whole" s_u t.f_u t.d_u
 b_u:xae K t.d_u ["thing", "low", "high"] []
 g_ax:mg "is_name"=some (.ref t.f_ax)
 F_ax:Fun K "is_name" "is_name" s_ax t.f_ax t.d_ax
 b_ax:xae K t.d_ax ["thing"] []
 F_s:Fun K "__init__" "Picture.__init__" s_s t.f_s t.d_s
 b_s:xae K t.d_s ["self", "width", "height"] []
 F_g:FunD K "put" "Picture.put" s_g t.T_g t.f_g t.d_g
 b_g:xae K t.d_g ["self", "name", "x", "y", "sides", "low", "high"] []
 F_d:Fun K "open_seat" "Picture.open_seat" s_d t.f_d t.d_d
 b_d:xae K t.d_d ["self", "side", "row"] []
 F_f:Fun K "points" "Picture.points" s_f t.f_f t.d_f
 b_f:xae K t.d_f ["self"] []
 F_i:Fun K "seats" "Picture.seats" s_i t.f_i t.d_i
 b_i:xae K t.d_i ["self"] []
 F_b:Fun K "check_cell" "Picture.check_cell" s_b t.f_b t.d_b
 b_b:xae K t.d_b ["self", "x", "y"] []
 F_a:Fun K "check_lines" "Picture.check_lines" s_a t.f_a t.d_a
 b_a:xae K t.d_a ["self", "name", "x", "y"] []
 F_c:Fun K "check_seat" "Picture.check_seat" s_c t.f_c t.d_c
 b_c:xae K t.d_c ["self", "side", "row"] []
 g_x:mg "picture_of"=some (.ref t.f_x)
 F_x:Fun K "picture_of" "picture_of" s_x t.f_x t.d_x
 b_x:xae K t.d_x ["lines"] []
 g_ar:mg "do_line"=some (.ref t.f_ar)
 F_ar:Fun K "do_line" "do_line" s_ar t.f_ar t.d_ar
 b_ar:xae K t.d_ar ["picture", "number", "words"] []
 g_aj:mg "words_of"=some (.ref t.f_aj)
 F_aj:Fun K "words_of" "words_of" s_aj t.f_aj t.d_aj
 b_aj:xae K t.d_aj ["line"] []
 g_an:mg "frame_of"=some (.ref t.f_an)
 F_an:Fun K "frame_of" "frame_of" s_an t.f_an t.d_an
 b_an:xae K t.d_an ["words"] []
 g_am:mg "rows_of"=some (.ref t.f_am)
 F_am:Fun K "rows_of" "rows_of" s_am t.f_am t.d_am
 b_am:xae K t.d_am ["words"] []
 g_at:mg "span_of"=some (.ref t.f_at)
 F_at:Fun K "span_of" "span_of" s_at t.f_at t.d_at
 b_at:xae K t.d_at ["word"] []
 g_aa:mg "point_of"=some (.ref t.f_aa)
 F_aa:Fun K "point_of" "point_of" s_aa t.f_aa t.d_aa
 b_aa:xae K t.d_aa ["words"] []
 g_o:mg "numbers_of"=some (.ref t.f_o)
 F_o:Fun K "numbers_of" "numbers_of" s_o t.f_o t.d_o
 b_o:xae K t.d_o ["words"] []
 g_ag:mg "number_of"=some (.ref t.f_ag)
 F_ag:Fun K "number_of" "number_of" s_ag t.f_ag t.d_ag
 b_ag:xae K t.d_ag ["word"] []
 g_ai:mg "_law_cell"=some (.ref t.f_ai)
 F_ai:Fun K "_law_cell" "_law_cell" s_ai t.f_ai t.d_ai
 b_ai:xae K t.d_ai ["_law_script", "_law_k"] []
 g_ab:mg "_law_mix"=some (.ref t.f_ab)
 F_ab:Fun K "_law_mix" "_law_mix" s_ab t.f_ab t.d_ab
 b_ab:xae K t.d_ab ["_law_cell_here", "_law_k"] []
 g_ac:mg "_law_digits"=some (.ref t.f_ac)
 F_ac:Fun K "_law_digits" "_law_digits" s_ac t.f_ac t.d_ac
 b_ac:xae K t.d_ac ["_law_cell_here", "_law_k"] []
 g_ao:mg "_law_name"=some (.ref t.f_ao)
 F_ao:Fun K "_law_name" "_law_name" s_ao t.f_ao t.d_ao
 b_ao:xae K t.d_ao ["_law_cell_here"] []
 g_ay:mg "_law_at"=some (.ref t.f_ay)
 F_ay:Fun K "_law_at" "_law_at" s_ay t.f_ay t.d_ay
 b_ay:xae K t.d_ay ["_law_cell_here", "_law_most"] []
 g_aq:mg "_law_dot"=some (.ref t.f_aq)
 F_aq:Fun K "_law_dot" "_law_dot" s_aq t.f_aq t.d_aq
 b_aq:xae K t.d_aq ["_law_cell_here", "_law_width", "_law_height"] []
 g_ad:mg "_law_wrong"=some (.ref t.f_ad)
 F_ad:Fun K "_law_wrong" "_law_wrong" s_ad t.f_ad t.d_ad
 b_ad:xae K t.d_ad ["_law_dot_here", "_law_width", "_law_height"] []
 g_p:mg "_law_refused"=some (.ref t.f_p)
 F_p:Fun K "_law_refused" "_law_refused" s_p t.f_p t.d_p
 b_p:xae K t.d_p ["_law_dots", "_law_dot_here", "_law_width", "_law_height"] []
 g_ap:mg "_law_kind"=some (.ref t.f_ap)
 F_ap:Fun K "_law_kind" "_law_kind" s_ap t.f_ap t.d_ap
 b_ap:xae K t.d_ap ["_law_e"] []
 g_ak:mg "_law_read"=some (.ref t.f_ak)
 F_ak:Fun K "_law_read" "_law_read" s_ak t.f_ak t.d_ak
 b_ak:xae K t.d_ak ["_law_lines"] []
 g_law:mg "law"=some (.ref t.f_law)
 F_law:Fun K "law" "law" xdw t.f_law t.d_law
 b_law:xae K t.d_law ["_law_script"] []
 x_as:XC K t.C_as
 mk_as:xau K t.C_as=true
 x_ah:XC K t.C_ah
 mk_ah:xau K t.C_ah=true
 k_ah:XMk K t.C_ah t.f_y
 x_af:XC K t.C_af
 mk_af:xau K t.C_af=true
 k_af:XMk K t.C_af t.f_z
 x_m:XC K t.C_m
 mk_m:xau K t.C_m=true
 k_m:XMk K t.C_m t.f_q
 x_j:XC K t.C_j
 mk_j:xau K t.C_j=true
 k_j:XMk K t.C_j t.f_k
 x_n:XC K t.C_n
 mk_n:xau K t.C_n=true
 k_n:XMk K t.C_n t.f_l
 x_v:XC K t.C_v
 mk_v:xau K t.C_v=true
 x_e:XC K t.C_e
 mk_e:xau K t.C_e=true
 k_e:XMk K t.C_e t.f_h
 x_w:XC K t.C_w
 mk_w:xau K t.C_w=true
 k_w:XMk K t.C_w t.f_r
 c_az:Cls K t.C_az
 ca_az:PySem.W.findIn K (.ref t.C_az) "__class__"=some (some (.builtin "object.__class__"))
 mo_az:PySem.W.mroIn K t.C_az (.type "object")=some true
 k_az:Mk K t.C_az t.f_ae
 c_au:Cls K t.C_au
 ca_au:PySem.W.findIn K (.ref t.C_au) "__class__"=some (some (.builtin "object.__class__"))
 mo_au:PySem.W.mroIn K t.C_au (.type "object")=some true
 k_au:Mk K t.C_au t.f_ae
 c_al:Cls K t.C_al
 ca_al:PySem.W.findIn K (.ref t.C_al) "__class__"=some (some (.builtin "object.__class__"))
 mo_al:PySem.W.mroIn K t.C_al (.type "object")=some true
 k_al:Mk K t.C_al t.f_ae
 c_t:Cls K t.C_t
 ca_t:PySem.W.findIn K (.ref t.C_t) "__class__"=some (some (.builtin "object.__class__"))
 mo_t:PySem.W.mroIn K t.C_t (.type "object")=some true
 k_t:Mk K t.C_t t.f_s
 m_g:Meth K t.C_t "put" t.f_g
 m_d:Meth K t.C_t "open_seat" t.f_d
 m_f:Meth K t.C_t "points" t.f_f
 m_i:Meth K t.C_t "seats" t.f_i
 m_b:Meth K t.C_t "check_cell" t.f_b
 m_a:Meth K t.C_t "check_lines" t.f_a
 m_c:Meth K t.C_t "check_seat" t.f_c
 cg:PySem.W.specialIn K (.builtin "object.__class__") "__get__"=some (some (.builtin "getset_descriptor.__get__"))
 ct:PySem.W.takesIn K (.builtin "object.__class__")=some true
 n_a1:PySem.W.findIn K (.ref t.C_t) "height"=some none
 n_bf:PySem.W.findIn K (.ref t.C_t) "width"=some none
 n_a0:PySem.W.findIn K (.ref t.C_t) "placed"=some none
 n_a3:PySem.W.findIn K (.ref t.C_t) "opened"=some none
 n_cg:PySem.W.findIn K (.ref t.C_ah) "name"=some none
 n_cz:PySem.W.findIn K (.ref t.C_ah) "high"=some none
 n_c8:PySem.W.findIn K (.ref t.C_ah) "low"=some none
 n_cp:PySem.W.findIn K (.ref t.C_ah) "sides"=some none
 n_dl:PySem.W.findIn K (.ref t.C_ah) "y"=some none
 n_dm:PySem.W.findIn K (.ref t.C_ah) "x"=some none
 n_c0:PySem.W.findIn K (.ref t.C_af) "name"=some none
 n_c1:PySem.W.findIn K (.ref t.C_af) "high"=some none
 n_c9:PySem.W.findIn K (.ref t.C_af) "low"=some none
 n_cq:PySem.W.findIn K (.ref t.C_af) "sides"=some none
 n_c5:PySem.W.findIn K (.ref t.C_af) "y"=some none
 n_c6:PySem.W.findIn K (.ref t.C_af) "x"=some none
 n_cr:PySem.W.findIn K (.ref t.C_m) "name"=some none
 n_cs:PySem.W.findIn K (.ref t.C_m) "high"=some none
 n_c2:PySem.W.findIn K (.ref t.C_m) "low"=some none
 n_by:PySem.W.findIn K (.ref t.C_m) "sides"=some none
 n_df:PySem.W.findIn K (.ref t.C_m) "y"=some none
 n_dg:PySem.W.findIn K (.ref t.C_m) "x"=some none
 n_cl:PySem.W.findIn K (.ref t.C_j) "name"=some none
 n_bz:PySem.W.findIn K (.ref t.C_j) "high"=some none
 n_b9:PySem.W.findIn K (.ref t.C_j) "low"=some none
 n_ch:PySem.W.findIn K (.ref t.C_j) "sides"=some none
 n_da:PySem.W.findIn K (.ref t.C_j) "y"=some none
 n_db:PySem.W.findIn K (.ref t.C_j) "x"=some none
 n_b0:PySem.W.findIn K (.ref t.C_n) "name"=some none
 n_cm:PySem.W.findIn K (.ref t.C_n) "high"=some none
 n_ct:PySem.W.findIn K (.ref t.C_n) "low"=some none
 n_ci:PySem.W.findIn K (.ref t.C_n) "sides"=some none
 n_dc:PySem.W.findIn K (.ref t.C_n) "y"=some none
 n_dd:PySem.W.findIn K (.ref t.C_n) "x"=some none
 n_cu:PySem.W.findIn K (.ref t.C_v) "name"=some none
 n_cv:PySem.W.findIn K (.ref t.C_v) "high"=some none
 n_c3:PySem.W.findIn K (.ref t.C_v) "low"=some none
 n_cn:PySem.W.findIn K (.ref t.C_v) "sides"=some none
 n_dh:PySem.W.findIn K (.ref t.C_v) "y"=some none
 n_di:PySem.W.findIn K (.ref t.C_v) "x"=some none
 n_a9:PySem.W.findIn K (.ref t.C_e) "name"=some none
 n_cf:PySem.W.findIn K (.ref t.C_e) "high"=some none
 n_cj:PySem.W.findIn K (.ref t.C_e) "low"=some none
 n_ca:PySem.W.findIn K (.ref t.C_e) "sides"=some none
 n_cw:PySem.W.findIn K (.ref t.C_e) "y"=some none
 n_cx:PySem.W.findIn K (.ref t.C_e) "x"=some none
 n_cb:PySem.W.findIn K (.ref t.C_w) "name"=some none
 n_cy:PySem.W.findIn K (.ref t.C_w) "high"=some none
 n_c4:PySem.W.findIn K (.ref t.C_w) "low"=some none
 n_co:PySem.W.findIn K (.ref t.C_w) "sides"=some none
 n_dj:PySem.W.findIn K (.ref t.C_w) "y"=some none
 n_dk:PySem.W.findIn K (.ref t.C_w) "x"=some none
 n_de:PySem.W.findIn K (.ref t.C_az) "width"=some none
 n_b2:PySem.W.findIn K (.ref t.C_au) "width"=some none
 n_bn:PySem.W.findIn K (.ref t.C_al) "width"=some none
 n_bool:mg "bool"=none
 n_enumerate:mg "enumerate"=none
 n_int:mg "int"=none
 n_isinstance:mg "isinstance"=none
 n_len:mg "len"=none
 n_list:mg "list"=none
 n_max:mg "max"=none
 n_min:mg "min"=none
 n_range:mg "range"=none
 n_sorted:mg "sorted"=none
 n_str:mg "str"=none
 mro_ah:PySem.W.mroIn K t.C_ah (.ref t.C_as)=some true
 kit_cc:PySem.W.kitOne K (.ref t.C_ah) (.ref t.C_ah)=some true
 mro_af:PySem.W.mroIn K t.C_af (.ref t.C_as)=some true
 kit_cd:PySem.W.kitOne K (.ref t.C_af) (.ref t.C_ah)=some false
 kit_ce:PySem.W.kitOne K (.ref t.C_af) (.ref t.C_af)=some true
 mro_m:PySem.W.mroIn K t.C_m (.ref t.C_as)=some true
 kit_b3:PySem.W.kitOne K (.ref t.C_m) (.ref t.C_ah)=some false
 kit_b4:PySem.W.kitOne K (.ref t.C_m) (.ref t.C_af)=some false
 kit_bo:PySem.W.kitOne K (.ref t.C_m) (.ref t.C_m)=some true
 mro_j:PySem.W.mroIn K t.C_j (.ref t.C_as)=some true
 kit_bp:PySem.W.kitOne K (.ref t.C_j) (.ref t.C_ah)=some false
 kit_bq:PySem.W.kitOne K (.ref t.C_j) (.ref t.C_af)=some false
 kit_bg:PySem.W.kitOne K (.ref t.C_j) (.ref t.C_m)=some false
 kit_ba:PySem.W.kitOne K (.ref t.C_j) (.ref t.C_j)=some true
 mro_n:PySem.W.mroIn K t.C_n (.ref t.C_as)=some true
 kit_br:PySem.W.kitOne K (.ref t.C_n) (.ref t.C_ah)=some false
 kit_bs:PySem.W.kitOne K (.ref t.C_n) (.ref t.C_af)=some false
 kit_bh:PySem.W.kitOne K (.ref t.C_n) (.ref t.C_m)=some false
 kit_bb:PySem.W.kitOne K (.ref t.C_n) (.ref t.C_j)=some false
 kit_bc:PySem.W.kitOne K (.ref t.C_n) (.ref t.C_n)=some true
 mro_v:PySem.W.mroIn K t.C_v (.ref t.C_as)=some true
 kit_b5:PySem.W.kitOne K (.ref t.C_v) (.ref t.C_ah)=some false
 kit_b6:PySem.W.kitOne K (.ref t.C_v) (.ref t.C_af)=some false
 kit_bt:PySem.W.kitOne K (.ref t.C_v) (.ref t.C_m)=some false
 kit_bi:PySem.W.kitOne K (.ref t.C_v) (.ref t.C_j)=some false
 kit_bj:PySem.W.kitOne K (.ref t.C_v) (.ref t.C_n)=some false
 kit_bu:PySem.W.kitOne K (.ref t.C_v) (.ref t.C_v)=some true
 ns_v:xno0 K t.C_v=true
 ns_c7:PySem.W.keepIn K (.ref t.C_v)=true
 mro_e:PySem.W.mroIn K t.C_e (.ref t.C_as)=some true
 kit_bd:PySem.W.kitOne K (.ref t.C_e) (.ref t.C_ah)=some false
 kit_be:PySem.W.kitOne K (.ref t.C_e) (.ref t.C_af)=some false
 kit_a6:PySem.W.kitOne K (.ref t.C_e) (.ref t.C_m)=some false
 kit_a4:PySem.W.kitOne K (.ref t.C_e) (.ref t.C_j)=some false
 kit_a5:PySem.W.kitOne K (.ref t.C_e) (.ref t.C_n)=some false
 kit_a7:PySem.W.kitOne K (.ref t.C_e) (.ref t.C_v)=some false
 kit_a2:PySem.W.kitOne K (.ref t.C_e) (.ref t.C_e)=some true
 mro_w:PySem.W.mroIn K t.C_w (.ref t.C_as)=some true
 kit_b7:PySem.W.kitOne K (.ref t.C_w) (.ref t.C_ah)=some false
 kit_b8:PySem.W.kitOne K (.ref t.C_w) (.ref t.C_af)=some false
 kit_bv:PySem.W.kitOne K (.ref t.C_w) (.ref t.C_m)=some false
 kit_bk:PySem.W.kitOne K (.ref t.C_w) (.ref t.C_j)=some false
 kit_bl:PySem.W.kitOne K (.ref t.C_w) (.ref t.C_n)=some false
 kit_bw:PySem.W.kitOne K (.ref t.C_w) (.ref t.C_v)=some false
 kit_a8:PySem.W.kitOne K (.ref t.C_w) (.ref t.C_e)=some false
 kit_bx:PySem.W.kitOne K (.ref t.C_w) (.ref t.C_w)=some true
 v_ck:∃ tk,mg "MOST_ROWS"=some (.int 16 tk)
 v_bm:∃ tk,mg "MOST_COLUMNS"=some (.int 30 tk)
 v_b1:∃ tk,mg "MOST_POINTS"=some (.int 12 tk)
 g_av:mg "MIRRORED_SIDES"=some (.ref t.D_av)
 D_av:xij w K t.D_av [(.inr "left",.str "right"),(.inr "right",.str "left"),(.inr "both",.str "both")]
theorem txt_mk {w:World} {K:PySem.W.Frag} {h:Heap} {mg:Str→Option Value} (X:K.In h) (G:h.Ns mainGlobals mg) {C_as C_ah C_af C_m C_j C_n C_v C_e C_w C_az C_au C_al C_t f_y f_z f_q f_k f_l f_h f_r f_ae f_aw f_u f_ax f_s f_g T_g f_d f_f f_i f_b f_a f_c f_x f_ar f_aj f_an f_am f_at f_aa f_o f_ag f_ai f_ab f_ac f_ao f_ay f_aq f_ad f_p f_ap f_ak f_law:Addr} {oc_y kv_y dc_y pm_y cd_y ct_y:Value} {od_y an_y:Option Addr} {sl_y:Array (Option Value)} {oc_z kv_z dc_z pm_z cd_z ct_z:Value} {od_z an_z:Option Addr} {sl_z:Array (Option Value)} {oc_q kv_q dc_q pm_q cd_q ct_q:Value} {od_q an_q:Option Addr} {sl_q:Array (Option Value)} {oc_k kv_k dc_k pm_k cd_k ct_k:Value} {od_k an_k:Option Addr} {sl_k:Array (Option Value)} {oc_l kv_l dc_l pm_l cd_l ct_l:Value} {od_l an_l:Option Addr} {sl_l:Array (Option Value)} {oc_h kv_h dc_h pm_h cd_h ct_h:Value} {od_h an_h:Option Addr} {sl_h:Array (Option Value)} {oc_r kv_r dc_r pm_r cd_r ct_r:Value} {od_r an_r:Option Addr} {sl_r:Array (Option Value)} {oc_ae kv_ae dc_ae pm_ae cd_ae ct_ae:Value} {od_ae an_ae:Option Addr} {sl_ae:Array (Option Value)} {oc_aw kv_aw dc_aw pm_aw cd_aw ct_aw:Value} {od_aw an_aw:Option Addr} {sl_aw:Array (Option Value)} {oc_u kv_u dc_u pm_u cd_u ct_u:Value} {od_u an_u:Option Addr} {sl_u:Array (Option Value)} {oc_ax kv_ax dc_ax pm_ax cd_ax ct_ax:Value} {od_ax an_ax:Option Addr} {sl_ax:Array (Option Value)} {oc_s kv_s dc_s pm_s cd_s ct_s:Value} {od_s an_s:Option Addr} {sl_s:Array (Option Value)} {oc_g kv_g dc_g pm_g cd_g ct_g:Value} {od_g an_g:Option Addr} {sl_g:Array (Option Value)} {oc_d kv_d dc_d pm_d cd_d ct_d:Value} {od_d an_d:Option Addr} {sl_d:Array (Option Value)} {oc_f kv_f dc_f pm_f cd_f ct_f:Value} {od_f an_f:Option Addr} {sl_f:Array (Option Value)} {oc_i kv_i dc_i pm_i cd_i ct_i:Value} {od_i an_i:Option Addr} {sl_i:Array (Option Value)} {oc_b kv_b dc_b pm_b cd_b ct_b:Value} {od_b an_b:Option Addr} {sl_b:Array (Option Value)} {oc_a kv_a dc_a pm_a cd_a ct_a:Value} {od_a an_a:Option Addr} {sl_a:Array (Option Value)} {oc_c kv_c dc_c pm_c cd_c ct_c:Value} {od_c an_c:Option Addr} {sl_c:Array (Option Value)} {oc_x kv_x dc_x pm_x cd_x ct_x:Value} {od_x an_x:Option Addr} {sl_x:Array (Option Value)} {oc_ar kv_ar dc_ar pm_ar cd_ar ct_ar:Value} {od_ar an_ar:Option Addr} {sl_ar:Array (Option Value)} {oc_aj kv_aj dc_aj pm_aj cd_aj ct_aj:Value} {od_aj an_aj:Option Addr} {sl_aj:Array (Option Value)} {oc_an kv_an dc_an pm_an cd_an ct_an:Value} {od_an an_an:Option Addr} {sl_an:Array (Option Value)} {oc_am kv_am dc_am pm_am cd_am ct_am:Value} {od_am an_am:Option Addr} {sl_am:Array (Option Value)} {oc_at kv_at dc_at pm_at cd_at ct_at:Value} {od_at an_at:Option Addr} {sl_at:Array (Option Value)} {oc_aa kv_aa dc_aa pm_aa cd_aa ct_aa:Value} {od_aa an_aa:Option Addr} {sl_aa:Array (Option Value)} {oc_o kv_o dc_o pm_o cd_o ct_o:Value} {od_o an_o:Option Addr} {sl_o:Array (Option Value)} {oc_ag kv_ag dc_ag pm_ag cd_ag ct_ag:Value} {od_ag an_ag:Option Addr} {sl_ag:Array (Option Value)} {oc_ai kv_ai dc_ai pm_ai cd_ai ct_ai:Value} {od_ai an_ai:Option Addr} {sl_ai:Array (Option Value)} {oc_ab kv_ab dc_ab pm_ab cd_ab ct_ab:Value} {od_ab an_ab:Option Addr} {sl_ab:Array (Option Value)} {oc_ac kv_ac dc_ac pm_ac cd_ac ct_ac:Value} {od_ac an_ac:Option Addr} {sl_ac:Array (Option Value)} {oc_ao kv_ao dc_ao pm_ao cd_ao ct_ao:Value} {od_ao an_ao:Option Addr} {sl_ao:Array (Option Value)} {oc_ay kv_ay dc_ay pm_ay cd_ay ct_ay:Value} {od_ay an_ay:Option Addr} {sl_ay:Array (Option Value)} {oc_aq kv_aq dc_aq pm_aq cd_aq ct_aq:Value} {od_aq an_aq:Option Addr} {sl_aq:Array (Option Value)} {oc_ad kv_ad dc_ad pm_ad cd_ad ct_ad:Value} {od_ad an_ad:Option Addr} {sl_ad:Array (Option Value)} {oc_p kv_p dc_p pm_p cd_p ct_p:Value} {od_p an_p:Option Addr} {sl_p:Array (Option Value)} {oc_ap kv_ap dc_ap pm_ap cd_ap ct_ap:Value} {od_ap an_ap:Option Addr} {sl_ap:Array (Option Value)} {oc_ak kv_ak dc_ak pm_ak cd_ak ct_ak:Value} {od_ak an_ak:Option Addr} {sl_ak:Array (Option Value)} {oc_law kv_law dc_law pm_law cd_law ct_law:Value} {od_law an_law:Option Addr} {sl_law:Array (Option Value)} {tk0_g:Tok} {tk1_g:Tok} {toc_g:Value} {tod_g:Option Addr} {tn_g:Nat} {tsl_g:Array (Option Value)} {tkc_ck:Tok} {tkc_bm:Tok} {tkc_b1:Tok} {D_av:Addr} {ta0_av tb0_av:Tok} {ta1_av tb1_av:Tok} {ta2_av tb2_av:Tok} {ep_av:Nat}
    (g_as:PySem.W.nsIn K mainGlobals "RimError"=some (some (.ref C_as)))
    (g_ah:PySem.W.nsIn K mainGlobals "NoName"=some (some (.ref C_ah)))
    (g_af:PySem.W.nsIn K mainGlobals "NoCell"=some (some (.ref C_af)))
    (g_m:PySem.W.nsIn K mainGlobals "NoSides"=some (some (.ref C_m)))
    (g_j:PySem.W.nsIn K mainGlobals "NoWindow"=some (some (.ref C_j)))
    (g_n:PySem.W.nsIn K mainGlobals "OldPoint"=some (some (.ref C_n)))
    (g_v:PySem.W.nsIn K mainGlobals "TooMany"=some (some (.ref C_v)))
    (g_e:PySem.W.nsIn K mainGlobals "SameColumn"=some (some (.ref C_e)))
    (g_w:PySem.W.nsIn K mainGlobals "SameRow"=some (some (.ref C_w)))
    (g_az:PySem.W.nsIn K mainGlobals "Side"=some (some (.ref C_az)))
    (g_au:PySem.W.nsIn K mainGlobals "LeftSide"=some (some (.ref C_au)))
    (g_al:PySem.W.nsIn K mainGlobals "RightSide"=some (some (.ref C_al)))
    (g_t:PySem.W.nsIn K mainGlobals "Picture"=some (some (.ref C_t)))
    (a_y:PySem.W.findIn K (.ref C_ah) "__init__"=some (some (.ref f_y)))
    (l_y:K.lookup f_y=some ⟨oc_y,od_y,.func (PySem.W.fnOf "__init__" "NoName.__init__" (x4 s_y) (xx s_y) (xm s_y) .none kv_y dc_y pm_y an_y cd_y ct_y),sl_y⟩)
    (c_y:PySem.W.codeIn K cd_y "NoName.__init__"=true)
    (k_y:PySem.W.keepIn K (.ref f_y)=true)
    (i_y:PySem.W.isFn K (.ref f_y)=true)
    (a_z:PySem.W.findIn K (.ref C_af) "__init__"=some (some (.ref f_z)))
    (l_z:K.lookup f_z=some ⟨oc_z,od_z,.func (PySem.W.fnOf "__init__" "NoCell.__init__" (x4 s_z) (xx s_z) (xm s_z) .none kv_z dc_z pm_z an_z cd_z ct_z),sl_z⟩)
    (c_z:PySem.W.codeIn K cd_z "NoCell.__init__"=true)
    (k_z:PySem.W.keepIn K (.ref f_z)=true)
    (i_z:PySem.W.isFn K (.ref f_z)=true)
    (a_q:PySem.W.findIn K (.ref C_m) "__init__"=some (some (.ref f_q)))
    (l_q:K.lookup f_q=some ⟨oc_q,od_q,.func (PySem.W.fnOf "__init__" "NoSides.__init__" (x4 s_q) (xx s_q) (xm s_q) .none kv_q dc_q pm_q an_q cd_q ct_q),sl_q⟩)
    (c_q:PySem.W.codeIn K cd_q "NoSides.__init__"=true)
    (k_q:PySem.W.keepIn K (.ref f_q)=true)
    (i_q:PySem.W.isFn K (.ref f_q)=true)
    (a_k:PySem.W.findIn K (.ref C_j) "__init__"=some (some (.ref f_k)))
    (l_k:K.lookup f_k=some ⟨oc_k,od_k,.func (PySem.W.fnOf "__init__" "NoWindow.__init__" (x4 s_k) (xx s_k) (xm s_k) .none kv_k dc_k pm_k an_k cd_k ct_k),sl_k⟩)
    (c_k:PySem.W.codeIn K cd_k "NoWindow.__init__"=true)
    (k_k:PySem.W.keepIn K (.ref f_k)=true)
    (i_k:PySem.W.isFn K (.ref f_k)=true)
    (a_l:PySem.W.findIn K (.ref C_n) "__init__"=some (some (.ref f_l)))
    (l_l:K.lookup f_l=some ⟨oc_l,od_l,.func (PySem.W.fnOf "__init__" "OldPoint.__init__" (x4 s_l) (xx s_l) (xm s_l) .none kv_l dc_l pm_l an_l cd_l ct_l),sl_l⟩)
    (c_l:PySem.W.codeIn K cd_l "OldPoint.__init__"=true)
    (k_l:PySem.W.keepIn K (.ref f_l)=true)
    (i_l:PySem.W.isFn K (.ref f_l)=true)
    (a_h:PySem.W.findIn K (.ref C_e) "__init__"=some (some (.ref f_h)))
    (l_h:K.lookup f_h=some ⟨oc_h,od_h,.func (PySem.W.fnOf "__init__" "SameColumn.__init__" (x4 s_h) (xx s_h) (xm s_h) .none kv_h dc_h pm_h an_h cd_h ct_h),sl_h⟩)
    (c_h:PySem.W.codeIn K cd_h "SameColumn.__init__"=true)
    (k_h:PySem.W.keepIn K (.ref f_h)=true)
    (i_h:PySem.W.isFn K (.ref f_h)=true)
    (a_r:PySem.W.findIn K (.ref C_w) "__init__"=some (some (.ref f_r)))
    (l_r:K.lookup f_r=some ⟨oc_r,od_r,.func (PySem.W.fnOf "__init__" "SameRow.__init__" (x4 s_r) (xx s_r) (xm s_r) .none kv_r dc_r pm_r an_r cd_r ct_r),sl_r⟩)
    (c_r:PySem.W.codeIn K cd_r "SameRow.__init__"=true)
    (k_r:PySem.W.keepIn K (.ref f_r)=true)
    (i_r:PySem.W.isFn K (.ref f_r)=true)
    (a_ae:PySem.W.findIn K (.ref C_az) "__init__"=some (some (.ref f_ae)))
    (l_ae:K.lookup f_ae=some ⟨oc_ae,od_ae,.func (PySem.W.fnOf "__init__" "Side.__init__" (x4 s_ae) (xx s_ae) (xm s_ae) .none kv_ae dc_ae pm_ae an_ae cd_ae ct_ae),sl_ae⟩)
    (c_ae:PySem.W.codeIn K cd_ae "Side.__init__"=true)
    (k_ae:PySem.W.keepIn K (.ref f_ae)=true)
    (i_ae:PySem.W.isFn K (.ref f_ae)=true)
    (a_aw:PySem.W.nsIn K mainGlobals "side_of"=some (some (.ref f_aw)))
    (l_aw:K.lookup f_aw=some ⟨oc_aw,od_aw,.func (PySem.W.fnOf "side_of" "side_of" (x4 s_aw) (xx s_aw) (xm s_aw) .none kv_aw dc_aw pm_aw an_aw cd_aw ct_aw),sl_aw⟩)
    (c_aw:PySem.W.codeIn K cd_aw "side_of"=true)
    (k_aw:PySem.W.keepIn K (.ref f_aw)=true)
    (i_aw:PySem.W.isFn K (.ref f_aw)=true)
    (a_u:PySem.W.nsIn K mainGlobals "is_whole"=some (some (.ref f_u)))
    (l_u:K.lookup f_u=some ⟨oc_u,od_u,.func (PySem.W.fnOf "is_whole" "is_whole" (x4 s_u) (xx s_u) (xm s_u) .none kv_u dc_u pm_u an_u cd_u ct_u),sl_u⟩)
    (c_u:PySem.W.codeIn K cd_u "is_whole"=true)
    (k_u:PySem.W.keepIn K (.ref f_u)=true)
    (i_u:PySem.W.isFn K (.ref f_u)=true)
    (a_ax:PySem.W.nsIn K mainGlobals "is_name"=some (some (.ref f_ax)))
    (l_ax:K.lookup f_ax=some ⟨oc_ax,od_ax,.func (PySem.W.fnOf "is_name" "is_name" (x4 s_ax) (xx s_ax) (xm s_ax) .none kv_ax dc_ax pm_ax an_ax cd_ax ct_ax),sl_ax⟩)
    (c_ax:PySem.W.codeIn K cd_ax "is_name"=true)
    (k_ax:PySem.W.keepIn K (.ref f_ax)=true)
    (i_ax:PySem.W.isFn K (.ref f_ax)=true)
    (a_s:PySem.W.findIn K (.ref C_t) "__init__"=some (some (.ref f_s)))
    (l_s:K.lookup f_s=some ⟨oc_s,od_s,.func (PySem.W.fnOf "__init__" "Picture.__init__" (x4 s_s) (xx s_s) (xm s_s) .none kv_s dc_s pm_s an_s cd_s ct_s),sl_s⟩)
    (c_s:PySem.W.codeIn K cd_s "Picture.__init__"=true)
    (k_s:PySem.W.keepIn K (.ref f_s)=true)
    (i_s:PySem.W.isFn K (.ref f_s)=true)
    (a_g:PySem.W.findIn K (.ref C_t) "put"=some (some (.ref f_g)))
    (l_g:K.lookup f_g=some ⟨oc_g,od_g,.func (PySem.W.fnOf "put" "Picture.put" (x4 s_g) (xx s_g) (xm s_g) (.ref T_g) kv_g dc_g pm_g an_g cd_g ct_g),sl_g⟩)
    (c_g:PySem.W.codeIn K cd_g "Picture.put"=true)
    (k_g:PySem.W.keepIn K (.ref f_g)=true)
    (i_g:PySem.W.isFn K (.ref f_g)=true)
    (t_g:K.lookup T_g=some ⟨toc_g,tod_g,.seq #[.str "both" tk0_g,.int 1 tk1_g,.none] tn_g,tsl_g⟩)
    (a_d:PySem.W.findIn K (.ref C_t) "open_seat"=some (some (.ref f_d)))
    (l_d:K.lookup f_d=some ⟨oc_d,od_d,.func (PySem.W.fnOf "open_seat" "Picture.open_seat" (x4 s_d) (xx s_d) (xm s_d) .none kv_d dc_d pm_d an_d cd_d ct_d),sl_d⟩)
    (c_d:PySem.W.codeIn K cd_d "Picture.open_seat"=true)
    (k_d:PySem.W.keepIn K (.ref f_d)=true)
    (i_d:PySem.W.isFn K (.ref f_d)=true)
    (a_f:PySem.W.findIn K (.ref C_t) "points"=some (some (.ref f_f)))
    (l_f:K.lookup f_f=some ⟨oc_f,od_f,.func (PySem.W.fnOf "points" "Picture.points" (x4 s_f) (xx s_f) (xm s_f) .none kv_f dc_f pm_f an_f cd_f ct_f),sl_f⟩)
    (c_f:PySem.W.codeIn K cd_f "Picture.points"=true)
    (k_f:PySem.W.keepIn K (.ref f_f)=true)
    (i_f:PySem.W.isFn K (.ref f_f)=true)
    (a_i:PySem.W.findIn K (.ref C_t) "seats"=some (some (.ref f_i)))
    (l_i:K.lookup f_i=some ⟨oc_i,od_i,.func (PySem.W.fnOf "seats" "Picture.seats" (x4 s_i) (xx s_i) (xm s_i) .none kv_i dc_i pm_i an_i cd_i ct_i),sl_i⟩)
    (c_i:PySem.W.codeIn K cd_i "Picture.seats"=true)
    (k_i:PySem.W.keepIn K (.ref f_i)=true)
    (i_i:PySem.W.isFn K (.ref f_i)=true)
    (a_b:PySem.W.findIn K (.ref C_t) "check_cell"=some (some (.ref f_b)))
    (l_b:K.lookup f_b=some ⟨oc_b,od_b,.func (PySem.W.fnOf "check_cell" "Picture.check_cell" (x4 s_b) (xx s_b) (xm s_b) .none kv_b dc_b pm_b an_b cd_b ct_b),sl_b⟩)
    (c_b:PySem.W.codeIn K cd_b "Picture.check_cell"=true)
    (k_b:PySem.W.keepIn K (.ref f_b)=true)
    (i_b:PySem.W.isFn K (.ref f_b)=true)
    (a_a:PySem.W.findIn K (.ref C_t) "check_lines"=some (some (.ref f_a)))
    (l_a:K.lookup f_a=some ⟨oc_a,od_a,.func (PySem.W.fnOf "check_lines" "Picture.check_lines" (x4 s_a) (xx s_a) (xm s_a) .none kv_a dc_a pm_a an_a cd_a ct_a),sl_a⟩)
    (c_a:PySem.W.codeIn K cd_a "Picture.check_lines"=true)
    (k_a:PySem.W.keepIn K (.ref f_a)=true)
    (i_a:PySem.W.isFn K (.ref f_a)=true)
    (a_c:PySem.W.findIn K (.ref C_t) "check_seat"=some (some (.ref f_c)))
    (l_c:K.lookup f_c=some ⟨oc_c,od_c,.func (PySem.W.fnOf "check_seat" "Picture.check_seat" (x4 s_c) (xx s_c) (xm s_c) .none kv_c dc_c pm_c an_c cd_c ct_c),sl_c⟩)
    (c_c:PySem.W.codeIn K cd_c "Picture.check_seat"=true)
    (k_c:PySem.W.keepIn K (.ref f_c)=true)
    (i_c:PySem.W.isFn K (.ref f_c)=true)
    (a_x:PySem.W.nsIn K mainGlobals "picture_of"=some (some (.ref f_x)))
    (l_x:K.lookup f_x=some ⟨oc_x,od_x,.func (PySem.W.fnOf "picture_of" "picture_of" (x4 s_x) (xx s_x) (xm s_x) .none kv_x dc_x pm_x an_x cd_x ct_x),sl_x⟩)
    (c_x:PySem.W.codeIn K cd_x "picture_of"=true)
    (k_x:PySem.W.keepIn K (.ref f_x)=true)
    (i_x:PySem.W.isFn K (.ref f_x)=true)
    (a_ar:PySem.W.nsIn K mainGlobals "do_line"=some (some (.ref f_ar)))
    (l_ar:K.lookup f_ar=some ⟨oc_ar,od_ar,.func (PySem.W.fnOf "do_line" "do_line" (x4 s_ar) (xx s_ar) (xm s_ar) .none kv_ar dc_ar pm_ar an_ar cd_ar ct_ar),sl_ar⟩)
    (c_ar:PySem.W.codeIn K cd_ar "do_line"=true)
    (k_ar:PySem.W.keepIn K (.ref f_ar)=true)
    (i_ar:PySem.W.isFn K (.ref f_ar)=true)
    (a_aj:PySem.W.nsIn K mainGlobals "words_of"=some (some (.ref f_aj)))
    (l_aj:K.lookup f_aj=some ⟨oc_aj,od_aj,.func (PySem.W.fnOf "words_of" "words_of" (x4 s_aj) (xx s_aj) (xm s_aj) .none kv_aj dc_aj pm_aj an_aj cd_aj ct_aj),sl_aj⟩)
    (c_aj:PySem.W.codeIn K cd_aj "words_of"=true)
    (k_aj:PySem.W.keepIn K (.ref f_aj)=true)
    (i_aj:PySem.W.isFn K (.ref f_aj)=true)
    (a_an:PySem.W.nsIn K mainGlobals "frame_of"=some (some (.ref f_an)))
    (l_an:K.lookup f_an=some ⟨oc_an,od_an,.func (PySem.W.fnOf "frame_of" "frame_of" (x4 s_an) (xx s_an) (xm s_an) .none kv_an dc_an pm_an an_an cd_an ct_an),sl_an⟩)
    (c_an:PySem.W.codeIn K cd_an "frame_of"=true)
    (k_an:PySem.W.keepIn K (.ref f_an)=true)
    (i_an:PySem.W.isFn K (.ref f_an)=true)
    (a_am:PySem.W.nsIn K mainGlobals "rows_of"=some (some (.ref f_am)))
    (l_am:K.lookup f_am=some ⟨oc_am,od_am,.func (PySem.W.fnOf "rows_of" "rows_of" (x4 s_am) (xx s_am) (xm s_am) .none kv_am dc_am pm_am an_am cd_am ct_am),sl_am⟩)
    (c_am:PySem.W.codeIn K cd_am "rows_of"=true)
    (k_am:PySem.W.keepIn K (.ref f_am)=true)
    (i_am:PySem.W.isFn K (.ref f_am)=true)
    (a_at:PySem.W.nsIn K mainGlobals "span_of"=some (some (.ref f_at)))
    (l_at:K.lookup f_at=some ⟨oc_at,od_at,.func (PySem.W.fnOf "span_of" "span_of" (x4 s_at) (xx s_at) (xm s_at) .none kv_at dc_at pm_at an_at cd_at ct_at),sl_at⟩)
    (c_at:PySem.W.codeIn K cd_at "span_of"=true)
    (k_at:PySem.W.keepIn K (.ref f_at)=true)
    (i_at:PySem.W.isFn K (.ref f_at)=true)
    (a_aa:PySem.W.nsIn K mainGlobals "point_of"=some (some (.ref f_aa)))
    (l_aa:K.lookup f_aa=some ⟨oc_aa,od_aa,.func (PySem.W.fnOf "point_of" "point_of" (x4 s_aa) (xx s_aa) (xm s_aa) .none kv_aa dc_aa pm_aa an_aa cd_aa ct_aa),sl_aa⟩)
    (c_aa:PySem.W.codeIn K cd_aa "point_of"=true)
    (k_aa:PySem.W.keepIn K (.ref f_aa)=true)
    (i_aa:PySem.W.isFn K (.ref f_aa)=true)
    (a_o:PySem.W.nsIn K mainGlobals "numbers_of"=some (some (.ref f_o)))
    (l_o:K.lookup f_o=some ⟨oc_o,od_o,.func (PySem.W.fnOf "numbers_of" "numbers_of" (x4 s_o) (xx s_o) (xm s_o) .none kv_o dc_o pm_o an_o cd_o ct_o),sl_o⟩)
    (c_o:PySem.W.codeIn K cd_o "numbers_of"=true)
    (k_o:PySem.W.keepIn K (.ref f_o)=true)
    (i_o:PySem.W.isFn K (.ref f_o)=true)
    (a_ag:PySem.W.nsIn K mainGlobals "number_of"=some (some (.ref f_ag)))
    (l_ag:K.lookup f_ag=some ⟨oc_ag,od_ag,.func (PySem.W.fnOf "number_of" "number_of" (x4 s_ag) (xx s_ag) (xm s_ag) .none kv_ag dc_ag pm_ag an_ag cd_ag ct_ag),sl_ag⟩)
    (c_ag:PySem.W.codeIn K cd_ag "number_of"=true)
    (k_ag:PySem.W.keepIn K (.ref f_ag)=true)
    (i_ag:PySem.W.isFn K (.ref f_ag)=true)
    (a_ai:PySem.W.nsIn K mainGlobals "_law_cell"=some (some (.ref f_ai)))
    (l_ai:K.lookup f_ai=some ⟨oc_ai,od_ai,.func (PySem.W.fnOf "_law_cell" "_law_cell" (x4 s_ai) (xx s_ai) (xm s_ai) .none kv_ai dc_ai pm_ai an_ai cd_ai ct_ai),sl_ai⟩)
    (c_ai:PySem.W.codeIn K cd_ai "_law_cell"=true)
    (k_ai:PySem.W.keepIn K (.ref f_ai)=true)
    (i_ai:PySem.W.isFn K (.ref f_ai)=true)
    (a_ab:PySem.W.nsIn K mainGlobals "_law_mix"=some (some (.ref f_ab)))
    (l_ab:K.lookup f_ab=some ⟨oc_ab,od_ab,.func (PySem.W.fnOf "_law_mix" "_law_mix" (x4 s_ab) (xx s_ab) (xm s_ab) .none kv_ab dc_ab pm_ab an_ab cd_ab ct_ab),sl_ab⟩)
    (c_ab:PySem.W.codeIn K cd_ab "_law_mix"=true)
    (k_ab:PySem.W.keepIn K (.ref f_ab)=true)
    (i_ab:PySem.W.isFn K (.ref f_ab)=true)
    (a_ac:PySem.W.nsIn K mainGlobals "_law_digits"=some (some (.ref f_ac)))
    (l_ac:K.lookup f_ac=some ⟨oc_ac,od_ac,.func (PySem.W.fnOf "_law_digits" "_law_digits" (x4 s_ac) (xx s_ac) (xm s_ac) .none kv_ac dc_ac pm_ac an_ac cd_ac ct_ac),sl_ac⟩)
    (c_ac:PySem.W.codeIn K cd_ac "_law_digits"=true)
    (k_ac:PySem.W.keepIn K (.ref f_ac)=true)
    (i_ac:PySem.W.isFn K (.ref f_ac)=true)
    (a_ao:PySem.W.nsIn K mainGlobals "_law_name"=some (some (.ref f_ao)))
    (l_ao:K.lookup f_ao=some ⟨oc_ao,od_ao,.func (PySem.W.fnOf "_law_name" "_law_name" (x4 s_ao) (xx s_ao) (xm s_ao) .none kv_ao dc_ao pm_ao an_ao cd_ao ct_ao),sl_ao⟩)
    (c_ao:PySem.W.codeIn K cd_ao "_law_name"=true)
    (k_ao:PySem.W.keepIn K (.ref f_ao)=true)
    (i_ao:PySem.W.isFn K (.ref f_ao)=true)
    (a_ay:PySem.W.nsIn K mainGlobals "_law_at"=some (some (.ref f_ay)))
    (l_ay:K.lookup f_ay=some ⟨oc_ay,od_ay,.func (PySem.W.fnOf "_law_at" "_law_at" (x4 s_ay) (xx s_ay) (xm s_ay) .none kv_ay dc_ay pm_ay an_ay cd_ay ct_ay),sl_ay⟩)
    (c_ay:PySem.W.codeIn K cd_ay "_law_at"=true)
    (k_ay:PySem.W.keepIn K (.ref f_ay)=true)
    (i_ay:PySem.W.isFn K (.ref f_ay)=true)
    (a_aq:PySem.W.nsIn K mainGlobals "_law_dot"=some (some (.ref f_aq)))
    (l_aq:K.lookup f_aq=some ⟨oc_aq,od_aq,.func (PySem.W.fnOf "_law_dot" "_law_dot" (x4 s_aq) (xx s_aq) (xm s_aq) .none kv_aq dc_aq pm_aq an_aq cd_aq ct_aq),sl_aq⟩)
    (c_aq:PySem.W.codeIn K cd_aq "_law_dot"=true)
    (k_aq:PySem.W.keepIn K (.ref f_aq)=true)
    (i_aq:PySem.W.isFn K (.ref f_aq)=true)
    (a_ad:PySem.W.nsIn K mainGlobals "_law_wrong"=some (some (.ref f_ad)))
    (l_ad:K.lookup f_ad=some ⟨oc_ad,od_ad,.func (PySem.W.fnOf "_law_wrong" "_law_wrong" (x4 s_ad) (xx s_ad) (xm s_ad) .none kv_ad dc_ad pm_ad an_ad cd_ad ct_ad),sl_ad⟩)
    (c_ad:PySem.W.codeIn K cd_ad "_law_wrong"=true)
    (k_ad:PySem.W.keepIn K (.ref f_ad)=true)
    (i_ad:PySem.W.isFn K (.ref f_ad)=true)
    (a_p:PySem.W.nsIn K mainGlobals "_law_refused"=some (some (.ref f_p)))
    (l_p:K.lookup f_p=some ⟨oc_p,od_p,.func (PySem.W.fnOf "_law_refused" "_law_refused" (x4 s_p) (xx s_p) (xm s_p) .none kv_p dc_p pm_p an_p cd_p ct_p),sl_p⟩)
    (c_p:PySem.W.codeIn K cd_p "_law_refused"=true)
    (k_p:PySem.W.keepIn K (.ref f_p)=true)
    (i_p:PySem.W.isFn K (.ref f_p)=true)
    (a_ap:PySem.W.nsIn K mainGlobals "_law_kind"=some (some (.ref f_ap)))
    (l_ap:K.lookup f_ap=some ⟨oc_ap,od_ap,.func (PySem.W.fnOf "_law_kind" "_law_kind" (x4 s_ap) (xx s_ap) (xm s_ap) .none kv_ap dc_ap pm_ap an_ap cd_ap ct_ap),sl_ap⟩)
    (c_ap:PySem.W.codeIn K cd_ap "_law_kind"=true)
    (k_ap:PySem.W.keepIn K (.ref f_ap)=true)
    (i_ap:PySem.W.isFn K (.ref f_ap)=true)
    (a_ak:PySem.W.nsIn K mainGlobals "_law_read"=some (some (.ref f_ak)))
    (l_ak:K.lookup f_ak=some ⟨oc_ak,od_ak,.func (PySem.W.fnOf "_law_read" "_law_read" (x4 s_ak) (xx s_ak) (xm s_ak) .none kv_ak dc_ak pm_ak an_ak cd_ak ct_ak),sl_ak⟩)
    (c_ak:PySem.W.codeIn K cd_ak "_law_read"=true)
    (k_ak:PySem.W.keepIn K (.ref f_ak)=true)
    (i_ak:PySem.W.isFn K (.ref f_ak)=true)
    (a_law:PySem.W.nsIn K mainGlobals "law"=some (some (.ref f_law)))
    (l_law:K.lookup f_law=some ⟨oc_law,od_law,.func (PySem.W.fnOf "law" "law" (x4 xdw) (xx xdw) (xm xdw) .none kv_law dc_law pm_law an_law cd_law ct_law),sl_law⟩)
    (c_law:PySem.W.codeIn K cd_law "law"=true)
    (k_law:PySem.W.keepIn K (.ref f_law)=true)
    (i_law:PySem.W.isFn K (.ref f_law)=true)
    (kc_as:PySem.W.keepIn K (.ref C_as)=true)
    (ov_as:xbu K C_as=true)
    (hd_as:PySem.W.hasDictIn K C_as=true)
    (sa_as:PySem.W.findIn K (.ref C_as) "__setattr__"=some (some (.builtin "object.__setattr__")))
    (ga_as:PySem.W.findIn K (.ref C_as) "__getattribute__"=some (some (.builtin "BaseException.__getattribute__")))
    (gh_as:PySem.W.findIn K (.ref C_as) "__getattr__"=some none)
    (ca_as:PySem.W.findIn K (.ref C_as) "__class__"=some (some (.builtin "object.__class__")))
    (mk_as:xau K C_as=true)
    (kc_ah:PySem.W.keepIn K (.ref C_ah)=true)
    (ov_ah:xbu K C_ah=true)
    (hd_ah:PySem.W.hasDictIn K C_ah=true)
    (sa_ah:PySem.W.findIn K (.ref C_ah) "__setattr__"=some (some (.builtin "object.__setattr__")))
    (ga_ah:PySem.W.findIn K (.ref C_ah) "__getattribute__"=some (some (.builtin "BaseException.__getattribute__")))
    (gh_ah:PySem.W.findIn K (.ref C_ah) "__getattr__"=some none)
    (ca_ah:PySem.W.findIn K (.ref C_ah) "__class__"=some (some (.builtin "object.__class__")))
    (mk_ah:xau K C_ah=true)
    (kc_af:PySem.W.keepIn K (.ref C_af)=true)
    (ov_af:xbu K C_af=true)
    (hd_af:PySem.W.hasDictIn K C_af=true)
    (sa_af:PySem.W.findIn K (.ref C_af) "__setattr__"=some (some (.builtin "object.__setattr__")))
    (ga_af:PySem.W.findIn K (.ref C_af) "__getattribute__"=some (some (.builtin "BaseException.__getattribute__")))
    (gh_af:PySem.W.findIn K (.ref C_af) "__getattr__"=some none)
    (ca_af:PySem.W.findIn K (.ref C_af) "__class__"=some (some (.builtin "object.__class__")))
    (mk_af:xau K C_af=true)
    (kc_m:PySem.W.keepIn K (.ref C_m)=true)
    (ov_m:xbu K C_m=true)
    (hd_m:PySem.W.hasDictIn K C_m=true)
    (sa_m:PySem.W.findIn K (.ref C_m) "__setattr__"=some (some (.builtin "object.__setattr__")))
    (ga_m:PySem.W.findIn K (.ref C_m) "__getattribute__"=some (some (.builtin "BaseException.__getattribute__")))
    (gh_m:PySem.W.findIn K (.ref C_m) "__getattr__"=some none)
    (ca_m:PySem.W.findIn K (.ref C_m) "__class__"=some (some (.builtin "object.__class__")))
    (mk_m:xau K C_m=true)
    (kc_j:PySem.W.keepIn K (.ref C_j)=true)
    (ov_j:xbu K C_j=true)
    (hd_j:PySem.W.hasDictIn K C_j=true)
    (sa_j:PySem.W.findIn K (.ref C_j) "__setattr__"=some (some (.builtin "object.__setattr__")))
    (ga_j:PySem.W.findIn K (.ref C_j) "__getattribute__"=some (some (.builtin "BaseException.__getattribute__")))
    (gh_j:PySem.W.findIn K (.ref C_j) "__getattr__"=some none)
    (ca_j:PySem.W.findIn K (.ref C_j) "__class__"=some (some (.builtin "object.__class__")))
    (mk_j:xau K C_j=true)
    (kc_n:PySem.W.keepIn K (.ref C_n)=true)
    (ov_n:xbu K C_n=true)
    (hd_n:PySem.W.hasDictIn K C_n=true)
    (sa_n:PySem.W.findIn K (.ref C_n) "__setattr__"=some (some (.builtin "object.__setattr__")))
    (ga_n:PySem.W.findIn K (.ref C_n) "__getattribute__"=some (some (.builtin "BaseException.__getattribute__")))
    (gh_n:PySem.W.findIn K (.ref C_n) "__getattr__"=some none)
    (ca_n:PySem.W.findIn K (.ref C_n) "__class__"=some (some (.builtin "object.__class__")))
    (mk_n:xau K C_n=true)
    (kc_v:PySem.W.keepIn K (.ref C_v)=true)
    (ov_v:xbu K C_v=true)
    (hd_v:PySem.W.hasDictIn K C_v=true)
    (sa_v:PySem.W.findIn K (.ref C_v) "__setattr__"=some (some (.builtin "object.__setattr__")))
    (ga_v:PySem.W.findIn K (.ref C_v) "__getattribute__"=some (some (.builtin "BaseException.__getattribute__")))
    (gh_v:PySem.W.findIn K (.ref C_v) "__getattr__"=some none)
    (ca_v:PySem.W.findIn K (.ref C_v) "__class__"=some (some (.builtin "object.__class__")))
    (mk_v:xau K C_v=true)
    (kc_e:PySem.W.keepIn K (.ref C_e)=true)
    (ov_e:xbu K C_e=true)
    (hd_e:PySem.W.hasDictIn K C_e=true)
    (sa_e:PySem.W.findIn K (.ref C_e) "__setattr__"=some (some (.builtin "object.__setattr__")))
    (ga_e:PySem.W.findIn K (.ref C_e) "__getattribute__"=some (some (.builtin "BaseException.__getattribute__")))
    (gh_e:PySem.W.findIn K (.ref C_e) "__getattr__"=some none)
    (ca_e:PySem.W.findIn K (.ref C_e) "__class__"=some (some (.builtin "object.__class__")))
    (mk_e:xau K C_e=true)
    (kc_w:PySem.W.keepIn K (.ref C_w)=true)
    (ov_w:xbu K C_w=true)
    (hd_w:PySem.W.hasDictIn K C_w=true)
    (sa_w:PySem.W.findIn K (.ref C_w) "__setattr__"=some (some (.builtin "object.__setattr__")))
    (ga_w:PySem.W.findIn K (.ref C_w) "__getattribute__"=some (some (.builtin "BaseException.__getattribute__")))
    (gh_w:PySem.W.findIn K (.ref C_w) "__getattr__"=some none)
    (ca_w:PySem.W.findIn K (.ref C_w) "__class__"=some (some (.builtin "object.__class__")))
    (mk_w:xau K C_w=true)
    (kc_az:PySem.W.keepIn K (.ref C_az)=true)
    (pg_az:PySem.W.plainGet K C_az Str.empty=true)
    (hd_az:PySem.W.hasDictIn K C_az=true)
    (po_az:PySem.W.plainOver K C_az=true)
    (sa_az:PySem.W.findIn K (.ref C_az) "__setattr__"=some (some (.builtin "object.__setattr__")))
    (mk_az:PySem.W.makesIn K C_az=true)
    (ca_az:PySem.W.findIn K (.ref C_az) "__class__"=some (some (.builtin "object.__class__")))
    (mo_az:PySem.W.mroIn K C_az (.type "object")=some true)
    (kc_au:PySem.W.keepIn K (.ref C_au)=true)
    (pg_au:PySem.W.plainGet K C_au Str.empty=true)
    (hd_au:PySem.W.hasDictIn K C_au=true)
    (po_au:PySem.W.plainOver K C_au=true)
    (sa_au:PySem.W.findIn K (.ref C_au) "__setattr__"=some (some (.builtin "object.__setattr__")))
    (mk_au:PySem.W.makesIn K C_au=true)
    (ca_au:PySem.W.findIn K (.ref C_au) "__class__"=some (some (.builtin "object.__class__")))
    (mo_au:PySem.W.mroIn K C_au (.type "object")=some true)
    (a_LeftSide_init:PySem.W.findIn K (.ref C_au) "__init__"=some (some (.ref f_ae)))
    (kc_al:PySem.W.keepIn K (.ref C_al)=true)
    (pg_al:PySem.W.plainGet K C_al Str.empty=true)
    (hd_al:PySem.W.hasDictIn K C_al=true)
    (po_al:PySem.W.plainOver K C_al=true)
    (sa_al:PySem.W.findIn K (.ref C_al) "__setattr__"=some (some (.builtin "object.__setattr__")))
    (mk_al:PySem.W.makesIn K C_al=true)
    (ca_al:PySem.W.findIn K (.ref C_al) "__class__"=some (some (.builtin "object.__class__")))
    (mo_al:PySem.W.mroIn K C_al (.type "object")=some true)
    (a_RightSide_init:PySem.W.findIn K (.ref C_al) "__init__"=some (some (.ref f_ae)))
    (kc_t:PySem.W.keepIn K (.ref C_t)=true)
    (pg_t:PySem.W.plainGet K C_t Str.empty=true)
    (hd_t:PySem.W.hasDictIn K C_t=true)
    (po_t:PySem.W.plainOver K C_t=true)
    (sa_t:PySem.W.findIn K (.ref C_t) "__setattr__"=some (some (.builtin "object.__setattr__")))
    (mk_t:PySem.W.makesIn K C_t=true)
    (ca_t:PySem.W.findIn K (.ref C_t) "__class__"=some (some (.builtin "object.__class__")))
    (mo_t:PySem.W.mroIn K C_t (.type "object")=some true)
    (cg:PySem.W.specialIn K (.builtin "object.__class__") "__get__"=some (some (.builtin "getset_descriptor.__get__")))
    (ct:PySem.W.takesIn K (.builtin "object.__class__")=some true)
    (n_a1:PySem.W.findIn K (.ref C_t) "height"=some none)
    (n_bf:PySem.W.findIn K (.ref C_t) "width"=some none)
    (n_a0:PySem.W.findIn K (.ref C_t) "placed"=some none)
    (n_a3:PySem.W.findIn K (.ref C_t) "opened"=some none)
    (n_cg:PySem.W.findIn K (.ref C_ah) "name"=some none)
    (n_cz:PySem.W.findIn K (.ref C_ah) "high"=some none)
    (n_c8:PySem.W.findIn K (.ref C_ah) "low"=some none)
    (n_cp:PySem.W.findIn K (.ref C_ah) "sides"=some none)
    (n_dl:PySem.W.findIn K (.ref C_ah) "y"=some none)
    (n_dm:PySem.W.findIn K (.ref C_ah) "x"=some none)
    (n_c0:PySem.W.findIn K (.ref C_af) "name"=some none)
    (n_c1:PySem.W.findIn K (.ref C_af) "high"=some none)
    (n_c9:PySem.W.findIn K (.ref C_af) "low"=some none)
    (n_cq:PySem.W.findIn K (.ref C_af) "sides"=some none)
    (n_c5:PySem.W.findIn K (.ref C_af) "y"=some none)
    (n_c6:PySem.W.findIn K (.ref C_af) "x"=some none)
    (n_cr:PySem.W.findIn K (.ref C_m) "name"=some none)
    (n_cs:PySem.W.findIn K (.ref C_m) "high"=some none)
    (n_c2:PySem.W.findIn K (.ref C_m) "low"=some none)
    (n_by:PySem.W.findIn K (.ref C_m) "sides"=some none)
    (n_df:PySem.W.findIn K (.ref C_m) "y"=some none)
    (n_dg:PySem.W.findIn K (.ref C_m) "x"=some none)
    (n_cl:PySem.W.findIn K (.ref C_j) "name"=some none)
    (n_bz:PySem.W.findIn K (.ref C_j) "high"=some none)
    (n_b9:PySem.W.findIn K (.ref C_j) "low"=some none)
    (n_ch:PySem.W.findIn K (.ref C_j) "sides"=some none)
    (n_da:PySem.W.findIn K (.ref C_j) "y"=some none)
    (n_db:PySem.W.findIn K (.ref C_j) "x"=some none)
    (n_b0:PySem.W.findIn K (.ref C_n) "name"=some none)
    (n_cm:PySem.W.findIn K (.ref C_n) "high"=some none)
    (n_ct:PySem.W.findIn K (.ref C_n) "low"=some none)
    (n_ci:PySem.W.findIn K (.ref C_n) "sides"=some none)
    (n_dc:PySem.W.findIn K (.ref C_n) "y"=some none)
    (n_dd:PySem.W.findIn K (.ref C_n) "x"=some none)
    (n_cu:PySem.W.findIn K (.ref C_v) "name"=some none)
    (n_cv:PySem.W.findIn K (.ref C_v) "high"=some none)
    (n_c3:PySem.W.findIn K (.ref C_v) "low"=some none)
    (n_cn:PySem.W.findIn K (.ref C_v) "sides"=some none)
    (n_dh:PySem.W.findIn K (.ref C_v) "y"=some none)
    (n_di:PySem.W.findIn K (.ref C_v) "x"=some none)
    (n_a9:PySem.W.findIn K (.ref C_e) "name"=some none)
    (n_cf:PySem.W.findIn K (.ref C_e) "high"=some none)
    (n_cj:PySem.W.findIn K (.ref C_e) "low"=some none)
    (n_ca:PySem.W.findIn K (.ref C_e) "sides"=some none)
    (n_cw:PySem.W.findIn K (.ref C_e) "y"=some none)
    (n_cx:PySem.W.findIn K (.ref C_e) "x"=some none)
    (n_cb:PySem.W.findIn K (.ref C_w) "name"=some none)
    (n_cy:PySem.W.findIn K (.ref C_w) "high"=some none)
    (n_c4:PySem.W.findIn K (.ref C_w) "low"=some none)
    (n_co:PySem.W.findIn K (.ref C_w) "sides"=some none)
    (n_dj:PySem.W.findIn K (.ref C_w) "y"=some none)
    (n_dk:PySem.W.findIn K (.ref C_w) "x"=some none)
    (n_de:PySem.W.findIn K (.ref C_az) "width"=some none)
    (n_b2:PySem.W.findIn K (.ref C_au) "width"=some none)
    (n_bn:PySem.W.findIn K (.ref C_al) "width"=some none)
    (n_bool:PySem.W.nsIn K mainGlobals "bool"=some none)
    (n_enumerate:PySem.W.nsIn K mainGlobals "enumerate"=some none)
    (n_int:PySem.W.nsIn K mainGlobals "int"=some none)
    (n_isinstance:PySem.W.nsIn K mainGlobals "isinstance"=some none)
    (n_len:PySem.W.nsIn K mainGlobals "len"=some none)
    (n_list:PySem.W.nsIn K mainGlobals "list"=some none)
    (n_max:PySem.W.nsIn K mainGlobals "max"=some none)
    (n_min:PySem.W.nsIn K mainGlobals "min"=some none)
    (n_range:PySem.W.nsIn K mainGlobals "range"=some none)
    (n_sorted:PySem.W.nsIn K mainGlobals "sorted"=some none)
    (n_str:PySem.W.nsIn K mainGlobals "str"=some none)
    (mro_ah:PySem.W.mroIn K C_ah (.ref C_as)=some true)
    (kit_cc:PySem.W.kitOne K (.ref C_ah) (.ref C_ah)=some true)
    (mro_af:PySem.W.mroIn K C_af (.ref C_as)=some true)
    (kit_cd:PySem.W.kitOne K (.ref C_af) (.ref C_ah)=some false)
    (kit_ce:PySem.W.kitOne K (.ref C_af) (.ref C_af)=some true)
    (mro_m:PySem.W.mroIn K C_m (.ref C_as)=some true)
    (kit_b3:PySem.W.kitOne K (.ref C_m) (.ref C_ah)=some false)
    (kit_b4:PySem.W.kitOne K (.ref C_m) (.ref C_af)=some false)
    (kit_bo:PySem.W.kitOne K (.ref C_m) (.ref C_m)=some true)
    (mro_j:PySem.W.mroIn K C_j (.ref C_as)=some true)
    (kit_bp:PySem.W.kitOne K (.ref C_j) (.ref C_ah)=some false)
    (kit_bq:PySem.W.kitOne K (.ref C_j) (.ref C_af)=some false)
    (kit_bg:PySem.W.kitOne K (.ref C_j) (.ref C_m)=some false)
    (kit_ba:PySem.W.kitOne K (.ref C_j) (.ref C_j)=some true)
    (mro_n:PySem.W.mroIn K C_n (.ref C_as)=some true)
    (kit_br:PySem.W.kitOne K (.ref C_n) (.ref C_ah)=some false)
    (kit_bs:PySem.W.kitOne K (.ref C_n) (.ref C_af)=some false)
    (kit_bh:PySem.W.kitOne K (.ref C_n) (.ref C_m)=some false)
    (kit_bb:PySem.W.kitOne K (.ref C_n) (.ref C_j)=some false)
    (kit_bc:PySem.W.kitOne K (.ref C_n) (.ref C_n)=some true)
    (mro_v:PySem.W.mroIn K C_v (.ref C_as)=some true)
    (kit_b5:PySem.W.kitOne K (.ref C_v) (.ref C_ah)=some false)
    (kit_b6:PySem.W.kitOne K (.ref C_v) (.ref C_af)=some false)
    (kit_bt:PySem.W.kitOne K (.ref C_v) (.ref C_m)=some false)
    (kit_bi:PySem.W.kitOne K (.ref C_v) (.ref C_j)=some false)
    (kit_bj:PySem.W.kitOne K (.ref C_v) (.ref C_n)=some false)
    (kit_bu:PySem.W.kitOne K (.ref C_v) (.ref C_v)=some true)
    (ns_v:xno0 K C_v=true)
    (ns_c7:PySem.W.keepIn K (.ref C_v)=true)
    (mro_e:PySem.W.mroIn K C_e (.ref C_as)=some true)
    (kit_bd:PySem.W.kitOne K (.ref C_e) (.ref C_ah)=some false)
    (kit_be:PySem.W.kitOne K (.ref C_e) (.ref C_af)=some false)
    (kit_a6:PySem.W.kitOne K (.ref C_e) (.ref C_m)=some false)
    (kit_a4:PySem.W.kitOne K (.ref C_e) (.ref C_j)=some false)
    (kit_a5:PySem.W.kitOne K (.ref C_e) (.ref C_n)=some false)
    (kit_a7:PySem.W.kitOne K (.ref C_e) (.ref C_v)=some false)
    (kit_a2:PySem.W.kitOne K (.ref C_e) (.ref C_e)=some true)
    (mro_w:PySem.W.mroIn K C_w (.ref C_as)=some true)
    (kit_b7:PySem.W.kitOne K (.ref C_w) (.ref C_ah)=some false)
    (kit_b8:PySem.W.kitOne K (.ref C_w) (.ref C_af)=some false)
    (kit_bv:PySem.W.kitOne K (.ref C_w) (.ref C_m)=some false)
    (kit_bk:PySem.W.kitOne K (.ref C_w) (.ref C_j)=some false)
    (kit_bl:PySem.W.kitOne K (.ref C_w) (.ref C_n)=some false)
    (kit_bw:PySem.W.kitOne K (.ref C_w) (.ref C_v)=some false)
    (kit_a8:PySem.W.kitOne K (.ref C_w) (.ref C_e)=some false)
    (kit_bx:PySem.W.kitOne K (.ref C_w) (.ref C_w)=some true)
    (v_ck:PySem.W.nsIn K mainGlobals "MOST_ROWS"=some (some (.int 16 tkc_ck)))
    (v_bm:PySem.W.nsIn K mainGlobals "MOST_COLUMNS"=some (some (.int 30 tkc_bm)))
    (v_b1:PySem.W.nsIn K mainGlobals "MOST_POINTS"=some (some (.int 12 tkc_b1)))
    (g_av:PySem.W.nsIn K mainGlobals "MIRRORED_SIDES"=some (some (.ref D_av)))
    (l_av:K.lookup D_av=some ⟨.type "dict",none,.dict #[⟨hashStr w "left",.str "left" ta0_av,.str "right" tb0_av⟩,⟨hashStr w "right",.str "right" ta1_av,.str "left" tb1_av⟩,⟨hashStr w "both",.str "both" ta2_av,.str "both" tb2_av⟩] ep_av,#[]⟩)
    (ns_av:(D_av == sysModules)=false)
   :∃ t,Txt w K mg t :=
  ⟨⟨f_y,_,f_z,_,f_q,_,f_k,_,f_l,_,f_h,_,f_r,_,f_ae,_,f_aw,_,f_u,_,f_ax,_,f_s,_,f_g,_,T_g,f_d,_,f_f,_,f_i,_,f_b,_,f_a,_,f_c,_,f_x,_,f_ar,_,f_aj,_,f_an,_,f_am,_,f_at,_,f_aa,_,f_o,_,f_ag,_,f_ai,_,f_ab,_,f_ac,_,f_ao,_,f_ay,_,f_aq,_,f_ad,_,f_p,_,f_ap,_,f_ak,_,f_law,_,C_as,C_ah,C_af,C_m,C_j,C_n,C_v,C_e,C_w,C_az,C_au,C_al,C_t,D_av⟩,{
    g_as:=PySem.W.mg_of X G g_as
    g_ah:=PySem.W.mg_of X G g_ah
    g_af:=PySem.W.mg_of X G g_af
    g_m:=PySem.W.mg_of X G g_m
    g_j:=PySem.W.mg_of X G g_j
    g_n:=PySem.W.mg_of X G g_n
    g_v:=PySem.W.mg_of X G g_v
    g_e:=PySem.W.mg_of X G g_e
    g_w:=PySem.W.mg_of X G g_w
    g_az:=PySem.W.mg_of X G g_az
    g_au:=PySem.W.mg_of X G g_au
    g_al:=PySem.W.mg_of X G g_al
    g_t:=PySem.W.mg_of X G g_t
    F_y:=xq (st:=s_y) l_y c_y k_y
    b_y:=(xq (st:=s_y) l_y c_y k_y).binds (ps:=["self", "name"]) fun _ _ _ _ _ _ us hl=>match us,hl with | [_,_],_=>rfl
    F_z:=xq (st:=s_z) l_z c_z k_z
    b_z:=(xq (st:=s_z) l_z c_z k_z).binds (ps:=["self", "x", "y"]) fun _ _ _ _ _ _ us hl=>match us,hl with | [_,_,_],_=>rfl
    F_q:=xq (st:=s_q) l_q c_q k_q
    b_q:=(xq (st:=s_q) l_q c_q k_q).binds (ps:=["self", "sides"]) fun _ _ _ _ _ _ us hl=>match us,hl with | [_,_],_=>rfl
    F_k:=xq (st:=s_k) l_k c_k k_k
    b_k:=(xq (st:=s_k) l_k c_k k_k).binds (ps:=["self", "low", "high"]) fun _ _ _ _ _ _ us hl=>match us,hl with | [_,_,_],_=>rfl
    F_l:=xq (st:=s_l) l_l c_l k_l
    b_l:=(xq (st:=s_l) l_l c_l k_l).binds (ps:=["self", "name"]) fun _ _ _ _ _ _ us hl=>match us,hl with | [_,_],_=>rfl
    F_h:=xq (st:=s_h) l_h c_h k_h
    b_h:=(xq (st:=s_h) l_h c_h k_h).binds (ps:=["self", "name"]) fun _ _ _ _ _ _ us hl=>match us,hl with | [_,_],_=>rfl
    F_r:=xq (st:=s_r) l_r c_r k_r
    b_r:=(xq (st:=s_r) l_r c_r k_r).binds (ps:=["self", "name"]) fun _ _ _ _ _ _ us hl=>match us,hl with | [_,_],_=>rfl
    F_ae:=xq (st:=s_ae) l_ae c_ae k_ae
    b_ae:=(xq (st:=s_ae) l_ae c_ae k_ae).binds (ps:=["self", "width"]) fun _ _ _ _ _ _ us hl=>match us,hl with | [_,_],_=>rfl
    g_aw:=PySem.W.mg_of X G a_aw
    F_aw:=xq (st:=s_aw) l_aw c_aw k_aw
    b_aw:=(xq (st:=s_aw) l_aw c_aw k_aw).binds (ps:=["word", "width"]) fun _ _ _ _ _ _ us hl=>match us,hl with | [_,_],_=>rfl
    g_u:=PySem.W.mg_of X G a_u
    F_u:=xq (st:=s_u) l_u c_u k_u
    b_u:=(xq (st:=s_u) l_u c_u k_u).binds (ps:=["thing", "low", "high"]) fun _ _ _ _ _ _ us hl=>match us,hl with | [_,_,_],_=>rfl
    g_ax:=PySem.W.mg_of X G a_ax
    F_ax:=xq (st:=s_ax) l_ax c_ax k_ax
    b_ax:=(xq (st:=s_ax) l_ax c_ax k_ax).binds (ps:=["thing"]) fun _ _ _ _ _ _ us hl=>match us,hl with | [_],_=>rfl
    F_s:=xq (st:=s_s) l_s c_s k_s
    b_s:=(xq (st:=s_s) l_s c_s k_s).binds (ps:=["self", "width", "height"]) fun _ _ _ _ _ _ us hl=>match us,hl with | [_,_,_],_=>rfl
    F_g:=(xh7 (st:=s_g) l_g c_g k_g)
    b_g:=(xh7 (st:=s_g) l_g c_g k_g).binds t_g rfl 7 rfl fun _ _ _ _ _ _ us hl=>match us,hl with | [_,_,_,_,_,_,_],_=>⟨_,rfl,rfl⟩
    F_d:=xq (st:=s_d) l_d c_d k_d
    b_d:=(xq (st:=s_d) l_d c_d k_d).binds (ps:=["self", "side", "row"]) fun _ _ _ _ _ _ us hl=>match us,hl with | [_,_,_],_=>rfl
    F_f:=xq (st:=s_f) l_f c_f k_f
    b_f:=(xq (st:=s_f) l_f c_f k_f).binds (ps:=["self"]) fun _ _ _ _ _ _ us hl=>match us,hl with | [_],_=>rfl
    F_i:=xq (st:=s_i) l_i c_i k_i
    b_i:=(xq (st:=s_i) l_i c_i k_i).binds (ps:=["self"]) fun _ _ _ _ _ _ us hl=>match us,hl with | [_],_=>rfl
    F_b:=xq (st:=s_b) l_b c_b k_b
    b_b:=(xq (st:=s_b) l_b c_b k_b).binds (ps:=["self", "x", "y"]) fun _ _ _ _ _ _ us hl=>match us,hl with | [_,_,_],_=>rfl
    F_a:=xq (st:=s_a) l_a c_a k_a
    b_a:=(xq (st:=s_a) l_a c_a k_a).binds (ps:=["self", "name", "x", "y"]) fun _ _ _ _ _ _ us hl=>match us,hl with | [_,_,_,_],_=>rfl
    F_c:=xq (st:=s_c) l_c c_c k_c
    b_c:=(xq (st:=s_c) l_c c_c k_c).binds (ps:=["self", "side", "row"]) fun _ _ _ _ _ _ us hl=>match us,hl with | [_,_,_],_=>rfl
    g_x:=PySem.W.mg_of X G a_x
    F_x:=xq (st:=s_x) l_x c_x k_x
    b_x:=(xq (st:=s_x) l_x c_x k_x).binds (ps:=["lines"]) fun _ _ _ _ _ _ us hl=>match us,hl with | [_],_=>rfl
    g_ar:=PySem.W.mg_of X G a_ar
    F_ar:=xq (st:=s_ar) l_ar c_ar k_ar
    b_ar:=(xq (st:=s_ar) l_ar c_ar k_ar).binds (ps:=["picture", "number", "words"]) fun _ _ _ _ _ _ us hl=>match us,hl with | [_,_,_],_=>rfl
    g_aj:=PySem.W.mg_of X G a_aj
    F_aj:=xq (st:=s_aj) l_aj c_aj k_aj
    b_aj:=(xq (st:=s_aj) l_aj c_aj k_aj).binds (ps:=["line"]) fun _ _ _ _ _ _ us hl=>match us,hl with | [_],_=>rfl
    g_an:=PySem.W.mg_of X G a_an
    F_an:=xq (st:=s_an) l_an c_an k_an
    b_an:=(xq (st:=s_an) l_an c_an k_an).binds (ps:=["words"]) fun _ _ _ _ _ _ us hl=>match us,hl with | [_],_=>rfl
    g_am:=PySem.W.mg_of X G a_am
    F_am:=xq (st:=s_am) l_am c_am k_am
    b_am:=(xq (st:=s_am) l_am c_am k_am).binds (ps:=["words"]) fun _ _ _ _ _ _ us hl=>match us,hl with | [_],_=>rfl
    g_at:=PySem.W.mg_of X G a_at
    F_at:=xq (st:=s_at) l_at c_at k_at
    b_at:=(xq (st:=s_at) l_at c_at k_at).binds (ps:=["word"]) fun _ _ _ _ _ _ us hl=>match us,hl with | [_],_=>rfl
    g_aa:=PySem.W.mg_of X G a_aa
    F_aa:=xq (st:=s_aa) l_aa c_aa k_aa
    b_aa:=(xq (st:=s_aa) l_aa c_aa k_aa).binds (ps:=["words"]) fun _ _ _ _ _ _ us hl=>match us,hl with | [_],_=>rfl
    g_o:=PySem.W.mg_of X G a_o
    F_o:=xq (st:=s_o) l_o c_o k_o
    b_o:=(xq (st:=s_o) l_o c_o k_o).binds (ps:=["words"]) fun _ _ _ _ _ _ us hl=>match us,hl with | [_],_=>rfl
    g_ag:=PySem.W.mg_of X G a_ag
    F_ag:=xq (st:=s_ag) l_ag c_ag k_ag
    b_ag:=(xq (st:=s_ag) l_ag c_ag k_ag).binds (ps:=["word"]) fun _ _ _ _ _ _ us hl=>match us,hl with | [_],_=>rfl
    g_ai:=PySem.W.mg_of X G a_ai
    F_ai:=xq (st:=s_ai) l_ai c_ai k_ai
    b_ai:=(xq (st:=s_ai) l_ai c_ai k_ai).binds (ps:=["_law_script", "_law_k"]) fun _ _ _ _ _ _ us hl=>match us,hl with | [_,_],_=>rfl
    g_ab:=PySem.W.mg_of X G a_ab
    F_ab:=xq (st:=s_ab) l_ab c_ab k_ab
    b_ab:=(xq (st:=s_ab) l_ab c_ab k_ab).binds (ps:=["_law_cell_here", "_law_k"]) fun _ _ _ _ _ _ us hl=>match us,hl with | [_,_],_=>rfl
    g_ac:=PySem.W.mg_of X G a_ac
    F_ac:=xq (st:=s_ac) l_ac c_ac k_ac
    b_ac:=(xq (st:=s_ac) l_ac c_ac k_ac).binds (ps:=["_law_cell_here", "_law_k"]) fun _ _ _ _ _ _ us hl=>match us,hl with | [_,_],_=>rfl
    g_ao:=PySem.W.mg_of X G a_ao
    F_ao:=xq (st:=s_ao) l_ao c_ao k_ao
    b_ao:=(xq (st:=s_ao) l_ao c_ao k_ao).binds (ps:=["_law_cell_here"]) fun _ _ _ _ _ _ us hl=>match us,hl with | [_],_=>rfl
    g_ay:=PySem.W.mg_of X G a_ay
    F_ay:=xq (st:=s_ay) l_ay c_ay k_ay
    b_ay:=(xq (st:=s_ay) l_ay c_ay k_ay).binds (ps:=["_law_cell_here", "_law_most"]) fun _ _ _ _ _ _ us hl=>match us,hl with | [_,_],_=>rfl
    g_aq:=PySem.W.mg_of X G a_aq
    F_aq:=xq (st:=s_aq) l_aq c_aq k_aq
    b_aq:=(xq (st:=s_aq) l_aq c_aq k_aq).binds (ps:=["_law_cell_here", "_law_width", "_law_height"]) fun _ _ _ _ _ _ us hl=>match us,hl with | [_,_,_],_=>rfl
    g_ad:=PySem.W.mg_of X G a_ad
    F_ad:=xq (st:=s_ad) l_ad c_ad k_ad
    b_ad:=(xq (st:=s_ad) l_ad c_ad k_ad).binds (ps:=["_law_dot_here", "_law_width", "_law_height"]) fun _ _ _ _ _ _ us hl=>match us,hl with | [_,_,_],_=>rfl
    g_p:=PySem.W.mg_of X G a_p
    F_p:=xq (st:=s_p) l_p c_p k_p
    b_p:=(xq (st:=s_p) l_p c_p k_p).binds (ps:=["_law_dots", "_law_dot_here", "_law_width", "_law_height"]) fun _ _ _ _ _ _ us hl=>match us,hl with | [_,_,_,_],_=>rfl
    g_ap:=PySem.W.mg_of X G a_ap
    F_ap:=xq (st:=s_ap) l_ap c_ap k_ap
    b_ap:=(xq (st:=s_ap) l_ap c_ap k_ap).binds (ps:=["_law_e"]) fun _ _ _ _ _ _ us hl=>match us,hl with | [_],_=>rfl
    g_ak:=PySem.W.mg_of X G a_ak
    F_ak:=xq (st:=s_ak) l_ak c_ak k_ak
    b_ak:=(xq (st:=s_ak) l_ak c_ak k_ak).binds (ps:=["_law_lines"]) fun _ _ _ _ _ _ us hl=>match us,hl with | [_],_=>rfl
    g_law:=PySem.W.mg_of X G a_law
    F_law:=xq (st:=xdw) l_law c_law k_law
    b_law:=(xq (st:=xdw) l_law c_law k_law).binds (ps:=["_law_script"]) fun _ _ _ _ _ _ us hl=>match us,hl with | [_],_=>rfl
    x_as:=⟨ov_as,hd_as,sa_as,ga_as,gh_as,ca_as,cg,ct⟩
    mk_as:=mk_as
    x_ah:=⟨ov_ah,hd_ah,sa_ah,ga_ah,gh_ah,ca_ah,cg,ct⟩
    mk_ah:=mk_ah
    k_ah:=⟨mk_ah,a_y,i_y,kc_ah⟩
    x_af:=⟨ov_af,hd_af,sa_af,ga_af,gh_af,ca_af,cg,ct⟩
    mk_af:=mk_af
    k_af:=⟨mk_af,a_z,i_z,kc_af⟩
    x_m:=⟨ov_m,hd_m,sa_m,ga_m,gh_m,ca_m,cg,ct⟩
    mk_m:=mk_m
    k_m:=⟨mk_m,a_q,i_q,kc_m⟩
    x_j:=⟨ov_j,hd_j,sa_j,ga_j,gh_j,ca_j,cg,ct⟩
    mk_j:=mk_j
    k_j:=⟨mk_j,a_k,i_k,kc_j⟩
    x_n:=⟨ov_n,hd_n,sa_n,ga_n,gh_n,ca_n,cg,ct⟩
    mk_n:=mk_n
    k_n:=⟨mk_n,a_l,i_l,kc_n⟩
    x_v:=⟨ov_v,hd_v,sa_v,ga_v,gh_v,ca_v,cg,ct⟩
    mk_v:=mk_v
    x_e:=⟨ov_e,hd_e,sa_e,ga_e,gh_e,ca_e,cg,ct⟩
    mk_e:=mk_e
    k_e:=⟨mk_e,a_h,i_h,kc_e⟩
    x_w:=⟨ov_w,hd_w,sa_w,ga_w,gh_w,ca_w,cg,ct⟩
    mk_w:=mk_w
    k_w:=⟨mk_w,a_r,i_r,kc_w⟩
    c_az:=⟨pg_az,hd_az,po_az,sa_az⟩
    ca_az:=ca_az
    mo_az:=mo_az
    k_az:=⟨mk_az,a_ae,i_ae,kc_az⟩
    c_au:=⟨pg_au,hd_au,po_au,sa_au⟩
    ca_au:=ca_au
    mo_au:=mo_au
    k_au:=⟨mk_au,a_LeftSide_init,i_ae,kc_au⟩
    c_al:=⟨pg_al,hd_al,po_al,sa_al⟩
    ca_al:=ca_al
    mo_al:=mo_al
    k_al:=⟨mk_al,a_RightSide_init,i_ae,kc_al⟩
    c_t:=⟨pg_t,hd_t,po_t,sa_t⟩
    ca_t:=ca_t
    mo_t:=mo_t
    k_t:=⟨mk_t,a_s,i_s,kc_t⟩
    m_g:=⟨a_g,i_g,k_g⟩
    m_d:=⟨a_d,i_d,k_d⟩
    m_f:=⟨a_f,i_f,k_f⟩
    m_i:=⟨a_i,i_i,k_i⟩
    m_b:=⟨a_b,i_b,k_b⟩
    m_a:=⟨a_a,i_a,k_a⟩
    m_c:=⟨a_c,i_c,k_c⟩
    cg:=cg
    ct:=ct
    n_a1:=n_a1
    n_bf:=n_bf
    n_a0:=n_a0
    n_a3:=n_a3
    n_cg:=n_cg
    n_cz:=n_cz
    n_c8:=n_c8
    n_cp:=n_cp
    n_dl:=n_dl
    n_dm:=n_dm
    n_c0:=n_c0
    n_c1:=n_c1
    n_c9:=n_c9
    n_cq:=n_cq
    n_c5:=n_c5
    n_c6:=n_c6
    n_cr:=n_cr
    n_cs:=n_cs
    n_c2:=n_c2
    n_by:=n_by
    n_df:=n_df
    n_dg:=n_dg
    n_cl:=n_cl
    n_bz:=n_bz
    n_b9:=n_b9
    n_ch:=n_ch
    n_da:=n_da
    n_db:=n_db
    n_b0:=n_b0
    n_cm:=n_cm
    n_ct:=n_ct
    n_ci:=n_ci
    n_dc:=n_dc
    n_dd:=n_dd
    n_cu:=n_cu
    n_cv:=n_cv
    n_c3:=n_c3
    n_cn:=n_cn
    n_dh:=n_dh
    n_di:=n_di
    n_a9:=n_a9
    n_cf:=n_cf
    n_cj:=n_cj
    n_ca:=n_ca
    n_cw:=n_cw
    n_cx:=n_cx
    n_cb:=n_cb
    n_cy:=n_cy
    n_c4:=n_c4
    n_co:=n_co
    n_dj:=n_dj
    n_dk:=n_dk
    n_de:=n_de
    n_b2:=n_b2
    n_bn:=n_bn
    n_bool:=PySem.W.mg_none_of X G n_bool
    n_enumerate:=PySem.W.mg_none_of X G n_enumerate
    n_int:=PySem.W.mg_none_of X G n_int
    n_isinstance:=PySem.W.mg_none_of X G n_isinstance
    n_len:=PySem.W.mg_none_of X G n_len
    n_list:=PySem.W.mg_none_of X G n_list
    n_max:=PySem.W.mg_none_of X G n_max
    n_min:=PySem.W.mg_none_of X G n_min
    n_range:=PySem.W.mg_none_of X G n_range
    n_sorted:=PySem.W.mg_none_of X G n_sorted
    n_str:=PySem.W.mg_none_of X G n_str
    mro_ah:=mro_ah
    kit_cc:=kit_cc
    mro_af:=mro_af
    kit_cd:=kit_cd
    kit_ce:=kit_ce
    mro_m:=mro_m
    kit_b3:=kit_b3
    kit_b4:=kit_b4
    kit_bo:=kit_bo
    mro_j:=mro_j
    kit_bp:=kit_bp
    kit_bq:=kit_bq
    kit_bg:=kit_bg
    kit_ba:=kit_ba
    mro_n:=mro_n
    kit_br:=kit_br
    kit_bs:=kit_bs
    kit_bh:=kit_bh
    kit_bb:=kit_bb
    kit_bc:=kit_bc
    mro_v:=mro_v
    kit_b5:=kit_b5
    kit_b6:=kit_b6
    kit_bt:=kit_bt
    kit_bi:=kit_bi
    kit_bj:=kit_bj
    kit_bu:=kit_bu
    ns_v:=ns_v
    ns_c7:=ns_c7
    mro_e:=mro_e
    kit_bd:=kit_bd
    kit_be:=kit_be
    kit_a6:=kit_a6
    kit_a4:=kit_a4
    kit_a5:=kit_a5
    kit_a7:=kit_a7
    kit_a2:=kit_a2
    mro_w:=mro_w
    kit_b7:=kit_b7
    kit_b8:=kit_b8
    kit_bv:=kit_bv
    kit_bk:=kit_bk
    kit_bl:=kit_bl
    kit_bw:=kit_bw
    kit_a8:=kit_a8
    kit_bx:=kit_bx
    v_ck:=⟨_,PySem.W.mg_of X G v_ck⟩
    v_bm:=⟨_,PySem.W.mg_of X G v_bm⟩
    v_b1:=⟨_,PySem.W.mg_of X G v_b1⟩
    g_av:=PySem.W.mg_of X G g_av
    D_av:=⟨ns_av,_,_,l_av,.cons rfl ⟨_,rfl⟩ ⟨_,rfl⟩ (.cons rfl ⟨_,rfl⟩ ⟨_,rfl⟩ (.cons rfl ⟨_,rfl⟩ ⟨_,rfl⟩ (.nil))),by decide⟩ }⟩
theorem sc_y:x5 ["self", "name"] ["self", "name"] (xm s_y):=⟨rfl,rfl,rfl,by decide +kernel,rfl,by decide +kernel,by decide +kernel⟩
theorem sc_z:x5 ["self", "x", "y"] ["self", "x", "y"] (xm s_z):=⟨rfl,rfl,rfl,by decide +kernel,rfl,by decide +kernel,by decide +kernel⟩
theorem sc_q:x5 ["self", "sides"] ["self", "sides"] (xm s_q):=⟨rfl,rfl,rfl,by decide +kernel,rfl,by decide +kernel,by decide +kernel⟩
theorem sc_k:x5 ["self", "low", "high"] ["self", "low", "high"] (xm s_k):=⟨rfl,rfl,rfl,by decide +kernel,rfl,by decide +kernel,by decide +kernel⟩
theorem sc_l:x5 ["self", "name"] ["self", "name"] (xm s_l):=⟨rfl,rfl,rfl,by decide +kernel,rfl,by decide +kernel,by decide +kernel⟩
theorem sc_h:x5 ["self", "name"] ["self", "name"] (xm s_h):=⟨rfl,rfl,rfl,by decide +kernel,rfl,by decide +kernel,by decide +kernel⟩
theorem sc_r:x5 ["self", "name"] ["self", "name"] (xm s_r):=⟨rfl,rfl,rfl,by decide +kernel,rfl,by decide +kernel,by decide +kernel⟩
theorem sc_ae:x5 ["self", "width"] ["self", "width"] (xm s_ae):=⟨rfl,rfl,rfl,by decide +kernel,rfl,by decide +kernel,by decide +kernel⟩
theorem sc_aw:x5 ["word", "width"] ["word", "width"] (xm s_aw):=⟨rfl,rfl,rfl,by decide +kernel,rfl,by decide +kernel,by decide +kernel⟩
theorem sc_u:x5 ["thing", "low", "high"] ["thing", "low", "high"] (xm s_u):=⟨rfl,rfl,rfl,by decide +kernel,rfl,by decide +kernel,by decide +kernel⟩
theorem sc_ax:x5 ["thing"] ["thing"] (xm s_ax):=⟨rfl,rfl,rfl,by decide +kernel,rfl,by decide +kernel,by decide +kernel⟩
theorem sc_s:x5 ["self", "width", "height"] ["self", "width", "height"] (xm s_s):=⟨rfl,rfl,rfl,by decide +kernel,rfl,by decide +kernel,by decide +kernel⟩
theorem sc_g:x5 ["self", "name", "x", "y", "sides", "low", "high", "highest"] ["self", "name", "x", "y", "sides", "low", "high"] (xm s_g):=⟨rfl,rfl,rfl,by decide +kernel,rfl,by decide +kernel,by decide +kernel⟩
theorem sc_d:x5 ["self", "side", "row"] ["self", "side", "row"] (xm s_d):=⟨rfl,rfl,rfl,by decide +kernel,rfl,by decide +kernel,by decide +kernel⟩
theorem sc_f:x5 ["self"] ["self"] (xm s_f):=⟨rfl,rfl,rfl,by decide +kernel,rfl,by decide +kernel,by decide +kernel⟩
theorem sc_i:x5 ["self"] ["self"] (xm s_i):=⟨rfl,rfl,rfl,by decide +kernel,rfl,by decide +kernel,by decide +kernel⟩
theorem sc_b:x5 ["self", "x", "y"] ["self", "x", "y"] (xm s_b):=⟨rfl,rfl,rfl,by decide +kernel,rfl,by decide +kernel,by decide +kernel⟩
theorem sc_a:x5 ["self", "name", "x", "y", "others", "other"] ["self", "name", "x", "y"] (xm s_a):=⟨rfl,rfl,rfl,by decide +kernel,rfl,by decide +kernel,by decide +kernel⟩
theorem sc_c:x5 ["self", "side", "row"] ["self", "side", "row"] (xm s_c):=⟨rfl,rfl,rfl,by decide +kernel,rfl,by decide +kernel,by decide +kernel⟩
theorem sc_x:x5 ["lines", "size", "width", "height", "picture", "number", "line"] ["lines"] (xm s_x):=⟨rfl,rfl,rfl,by decide +kernel,rfl,by decide +kernel,by decide +kernel⟩
theorem sc_ar:x5 ["picture", "number", "words", "rows", "point", "row", "name", "x", "y", "sides", "low", "high"] ["picture", "number", "words"] (xm s_ar):=⟨rfl,rfl,rfl,by decide +kernel,rfl,by decide +kernel,by decide +kernel⟩
theorem sc_aj:x5 ["line", "words"] ["line"] (xm s_aj):=⟨rfl,rfl,rfl,by decide +kernel,rfl,by decide +kernel,by decide +kernel⟩
theorem sc_an:x5 ["words"] ["words"] (xm s_an):=⟨rfl,rfl,rfl,by decide +kernel,rfl,by decide +kernel,by decide +kernel⟩
theorem sc_am:x5 ["words", "spans", "rows", "span"] ["words"] (xm s_am):=⟨rfl,rfl,rfl,by decide +kernel,rfl,by decide +kernel,by decide +kernel⟩
theorem sc_at:x5 ["word", "ends"] ["word"] (xm s_at):=⟨rfl,rfl,rfl,by decide +kernel,rfl,by decide +kernel,by decide +kernel⟩
theorem sc_aa:x5 ["words", "numbers", "x", "y", "sides", "low", "high"] ["words"] (xm s_aa):=⟨rfl,rfl,rfl,by decide +kernel,rfl,by decide +kernel,by decide +kernel⟩
theorem sc_o:x5 ["words", "numbers"] ["words"] (xm s_o):=⟨rfl,rfl,rfl,by decide +kernel,rfl,by decide +kernel,by decide +kernel⟩
theorem sc_ag:x5 ["word", "sign"] ["word"] (xm s_ag):=⟨rfl,rfl,rfl,by decide +kernel,rfl,by decide +kernel,by decide +kernel⟩
theorem sc_ai:x5 ["_law_script", "_law_k"] ["_law_script", "_law_k"] (xm s_ai):=⟨rfl,rfl,rfl,by decide +kernel,rfl,by decide +kernel,by decide +kernel⟩
theorem sc_ab:x5 ["_law_cell_here", "_law_k", "_law_number"] ["_law_cell_here", "_law_k"] (xm s_ab):=⟨rfl,rfl,rfl,by decide +kernel,rfl,by decide +kernel,by decide +kernel⟩
theorem sc_ac:x5 ["_law_cell_here", "_law_k"] ["_law_cell_here", "_law_k"] (xm s_ac):=⟨rfl,rfl,rfl,by decide +kernel,rfl,by decide +kernel,by decide +kernel⟩
theorem sc_ao:x5 ["_law_cell_here"] ["_law_cell_here"] (xm s_ao):=⟨rfl,rfl,rfl,by decide +kernel,rfl,by decide +kernel,by decide +kernel⟩
theorem sc_ay:x5 ["_law_cell_here", "_law_most"] ["_law_cell_here", "_law_most"] (xm s_ay):=⟨rfl,rfl,rfl,by decide +kernel,rfl,by decide +kernel,by decide +kernel⟩
theorem sc_aq:x5 ["_law_cell_here", "_law_width", "_law_height", "_law_name_here", "_law_x", "_law_y", "_law_sides", "_law_low", "_law_high", "_law_words", "_law_way"] ["_law_cell_here", "_law_width", "_law_height"] (xm s_aq):=⟨rfl,rfl,rfl,by decide +kernel,rfl,by decide +kernel,by decide +kernel⟩
theorem sc_ad:x5 ["_law_dot_here", "_law_width", "_law_height", "_law_name_here", "_law_x", "_law_y", "_law_sides", "_law_low", "_law_high"] ["_law_dot_here", "_law_width", "_law_height"] (xm s_ad):=⟨rfl,rfl,rfl,by decide +kernel,rfl,by decide +kernel,by decide +kernel⟩
theorem sc_p:x5 ["_law_dots", "_law_dot_here", "_law_width", "_law_height", "_law_wrong_here", "_law_one"] ["_law_dots", "_law_dot_here", "_law_width", "_law_height"] (xm s_p):=⟨rfl,rfl,rfl,by decide +kernel,rfl,by decide +kernel,by decide +kernel⟩
theorem sc_ap:x5 ["_law_e"] ["_law_e"] (xm s_ap):=⟨rfl,rfl,rfl,by decide +kernel,rfl,by decide +kernel,by decide +kernel⟩
theorem sc_ak:x5 ["_law_lines", "_law_found", "_law_caught", "_law_e"] ["_law_lines"] (xm s_ak):=⟨rfl,rfl,rfl,by decide +kernel,rfl,by decide +kernel,by decide +kernel⟩
theorem xbs:x5 ["_law_script", "_law_width", "_law_height", "_law_lines", "_law_dots", "_law_due", "_law_k", "_law_words", "_law_dot_here", "_law_found", "_law_caught"] ["_law_script"] (xm xdw):=⟨rfl,rfl,rfl,by decide +kernel,rfl,by decide +kernel,by decide +kernel⟩
end S22
set_option maxRecDepth 100000
set_option maxHeartbeats 4000000
namespace S22
open PySem L2 XL PyProof.Rows
theorem xbl {K:PySem.W.Frag} {v:Value}:PySem.W.kitOne K v v=some true:=if_pos (by simp)
theorem xp {H H':Hp} {p:Addr} {o:HO} (s:Same H H') (hp:H' p=none):Same H (L2.upd H' p o):=fun b u z=>by
 have z':=s b u z
 rw [xj (xo z' hp)]
 exact z'
theorem xmg {H:Hp} {x dx:Addr} {a b c:HO} (hx:H x=none) (hd:H dx=none):Same H (upd (upd (upd H dx a) x b) x c):=fun y o e=>by
 rw [xj (xo e hx),xj (xo e hx),xj (xo e hd)]
 exact e
def xar (b:Bool):Str:=if b then "left" else "right"
def xot (t:Adr) (H:Hp) (p:Addr) (b:Bool) (w:Int):Prop:=∃ dx,H p=some (.ins (if b then t.C_au else t.C_al) dx [("width",.int w)])
def xow (K:PySem.W.Frag):Sp:=fun vs H Q _=>∃ (p C dx:Addr) (n:Int),vs=[.ref p,.int n]∧H p=some (.ins C dx [])∧Cls K C∧xc1 K C "width"∧Q .non (upd H p (.ins C dx [("width",.int n)]))
def xkv (t:Adr):Sp:=fun vs H Q _=>∃ (b:Bool) (n:Int),vs=[.str (xar b),.int n]∧∀ p H',H p=none→xot t H' p b n→Same H H'→Q (.ref p) H'
section
variable {P:Program} {w:World} {K:PySem.W.Frag} {mg:Str→Option Value} {base:Heap} {t:Adr}
theorem ok_ae (T:Txt w K mg t):FnOk true P w K mg base (CXo P w) 1 t.f_ae t.d_ae ["self", "width"] (xow K):=by
 refine T.F_ae.okn (k:=0) sc_ae (fun vs H Q E h=>?_) (fun cdv A outer s H vs Q E hr h=>?_)
 ·obtain ⟨p,C,dx,n,rfl,_⟩:=h
  rfl
 ·obtain ⟨p,C,dx,n,rfl,h⟩:=h
  refine ⟨_,xn (xeb (pv 0) (pv 1) rfl),?_⟩
  obtain ⟨hp,c,na,q⟩:=h
  exact ⟨_,rfl,_,rfl,p,C,dx,[],rfl,hp,c,na,(by show 0 < 1000; decide),q⟩
theorem ok_aw (T:Txt w K mg t):FnOk true P w K mg base (CXo P w) 3 t.f_aw t.d_aw ["word", "width"] (xkv t):=by
 refine T.F_aw.okn (k:=2) sc_aw (fun vs H Q E h=>?_) (fun cdv A outer s H vs Q E hr h=>?_)
 ·obtain ⟨b,n,rfl,_⟩:=h
  rfl
 ·obtain ⟨b,n,rfl,h⟩:=h
  refine ⟨_,xh (xab (xav (x6 xao rfl T.n_isinstance boot_isinstance (xb (pv 0) (xb (xbz (v:=.ty "str") rfl T.n_str boot_str rfl) (xg))))) (xh (xab (xu xa9 (pv 0) (xv) (xac _)) (xn (xr (xfp T.k_au (ok_ae T) (hr.mono (by decide)) rfl T.g_au T.b_ae .nil xz (xb (pv 1) (xg))))) (xt))
   (xn (xab (xu xa9 (pv 0) (xv) (xac _)) (xn (xr (xfp T.k_al (ok_ae T) (hr.mono (by decide)) rfl T.g_al T.b_ae .nil xz (xb (pv 1) (xg))))) (xt)))) (xt))
   (xn (xb6)),?_⟩
  cases b with
  | true =>
   refine ⟨_,rfl,_,_,rfl,.inl ⟨_,_,true,.str _,rfl,xbl,true,rfl,iteT ?_⟩⟩
   refine ⟨_,rfl,rfl,_,rfl,?_⟩
   refine ifP (by decide +kernel) ?_
   exact ⟨_,rfl,fun x dx hx hdx ne=>⟨x,t.C_au,dx,n,rfl,xf,T.c_au,T.n_b2,rfl,h x _ hx ⟨dx,xf⟩ (xmg hx hdx)⟩⟩
  | false =>
   refine ⟨_,rfl,_,_,rfl,.inl ⟨_,_,true,.str _,rfl,xbl,true,rfl,iteT ?_⟩⟩
   refine ⟨_,rfl,rfl,_,rfl,?_⟩
   refine ifN (by decide +kernel) ?_
   refine ⟨_,rfl,rfl,_,rfl,?_⟩
   refine ifP (by decide +kernel) ?_
   exact ⟨_,rfl,fun x dx hx hdx ne=>⟨x,t.C_al,dx,n,rfl,xf,T.c_al,T.n_bn,rfl,h x _ hx ⟨dx,xf⟩ (xmg hx hdx)⟩⟩
end
def isNm (x:Str):Bool:=decide (x.length=1) && (!decide (x.cps.toList < [97]) && !decide ([122] < x.cps.toList))
def xpo:Sp:=fun vs H Q _=>∃ (i lo hi:Int),vs=[.int i,.int lo,.int hi]∧lo≤i∧i≤hi∧Q (.bl true) H
theorem xl3:("a":Str).cps.toList=[97]:=by decide +kernel
theorem xpb:("z":Str).cps.toList=[122]:=by decide +kernel
section
variable {P:Program} {w:World} {K:PySem.W.Frag} {mg:Str→Option Value} {base:Heap} {t:Adr}
theorem ok_u (T:Txt w K mg t):FnOk true P w K mg base (CXo P w) 1 t.f_u t.d_u ["thing", "low", "high"] (xpo):=by
 refine T.F_u.okn (k:=0) sc_u (fun vs H Q E h=>?_) (fun cdv A outer s H vs Q E hr h=>?_)
 ·obtain ⟨i,lo,hi,rfl,_⟩:=h
  rfl
 ·obtain ⟨i,lo,hi,rfl,h⟩:=h
  refine ⟨_,xn (xr (xcr (x6 xao rfl T.n_isinstance boot_isinstance (xb (pv 0) (xb (xbz (v:=.ty "int") rfl T.n_int boot_int rfl) (xg)))) (xcr (xkf (x6 xao rfl T.n_isinstance boot_isinstance (xb (pv 0) (xb (xbz (v:=.ty "bool") rfl T.n_bool boot_bool rfl) (xg))))) (xe7 (xey xcd xcd (pv 1) (pv 0) (pv 2)))))),?_⟩
  obtain ⟨c1,c2,q⟩:=h
  refine ⟨_,rfl,_,_,rfl,.inl ⟨_,_,true,.int i,rfl,xbl,true,rfl,iteT ?_⟩⟩
  refine ⟨_,rfl,_,_,rfl,.inl ⟨_,_,false,.int i,rfl,(by rfl),false,rfl,true,rfl,iteT ?_⟩⟩
  refine ⟨_,rfl,_,rfl,_,_,rfl,rfl,_,rfl,ite2 (fun c=>?_) (fun c=>?_)⟩
  ·refine ⟨_,rfl,_,_,rfl,rfl,?_⟩
   show Q (.bl (decide (i≤hi))) H
   rw [decide_eq_true c2]
   exact q
  ·exact absurd (decide_eq_true c1) c
end
section
end
end S22
set_option maxRecDepth 100000
set_option maxHeartbeats 4000000
namespace S22
open PySem L2 XL PyProof.Rows
structure Pt where
 nm:Str
 x:Int
 y:Int
 sd:Str
 lo:Int
 hi:Int
def ptV (p:Pt):List V:=[.int p.x,.int p.y,.str p.sd,.int p.lo,.int p.hi]
inductive Pl (H:Hp):List Pt→List (Key × V)→Prop
 | nil:Pl H [] []
 | cons {p:Pt} {q:Addr} {ps:List Pt} {kvs:List (Key × V)} (h:H q=some (.tup (ptV p))) (r:Pl H ps kvs):Pl H (p :: ps) ((.inr p.nm,.ref q) :: kvs)
inductive PtsL (H:Hp):List Pt→List Addr→Prop
 | nil:PtsL H [] []
 | cons {p:Pt} {q:Addr} {ps:List Pt} {qs:List Addr} (h:H q=some (.tup (.str p.nm :: ptV p))) (r:PtsL H ps qs):PtsL H (p :: ps) (q :: qs)
theorem xph {σ:L2.St} {H:Hp} {A B:Hp→Prop} (h:A H):xek σ H (fun b H4=>if b=true then A H4 else B H4):=by
 show if true=true then A H else B H
 rw [if_pos rfl]
 exact h
def Tups (H H':Hp):Prop:=∀ b xs,H b=some (.tup xs)→H' b=some (.tup xs)
theorem Pl.keep {H H':Hp} (s:Tups H H') {ps:List Pt} {kvs:List (Key × V)} (h:Pl H ps kvs):Pl H' ps kvs:=by
 induction h with
 | nil=>exact .nil
 | cons h _ ih=>exact .cons (s _ _ h) ih
theorem PtsL.keep {H H':Hp} (s:Tups H H') {ps:List Pt} {qs:List Addr} (h:PtsL H ps qs):PtsL H' ps qs:=by
 induction h with
 | nil=>exact .nil
 | cons h _ ih=>exact .cons (s _ _ h) ih
theorem Pl.len {H:Hp} {ps:List Pt} {kvs:List (Key × V)} (h:Pl H ps kvs):kvs.length=ps.length:=by
 induction h with
 | nil=>rfl
 | cons _ _ ih=>simp [ih]
theorem PtsL.len {H:Hp} {ps:List Pt} {qs:List Addr} (h:PtsL H ps qs):qs.length=ps.length:=by
 induction h with
 | nil=>rfl
 | cons _ _ ih=>simp [ih]
theorem Pl.find {H:Hp} {ps:List Pt} {kvs:List (Key × V)} (h:Pl H ps kvs) {nm:Str} {pt:Pt} (e:ps.find? (fun p=>decide (p.nm=nm))=some pt):∃ q,valV kvs (.inr nm)=some (.ref q)∧H q=some (.tup (ptV pt)):=by
 induction h with
 | nil=>simp at e
 | @cons p q ps kvs h _ ih =>
  by_cases c:p.nm=nm
  ·rw [List.find?_cons_of_pos (by simpa using c)] at e
   cases e
   exact ⟨q,xcz (by rw [c]),h⟩
  ·rw [List.find?_cons_of_neg (by simpa using c)] at e
   obtain ⟨q',h1,h2⟩:=ih e
   exact ⟨q',by rw [xbr (fun z=>c (Sum.inr.inj z))]; exact h1,h2⟩
theorem Pl.no {H:Hp} {ps:List Pt} {kvs:List (Key × V)} (h:Pl H ps kvs) {nm:Str} (e:∀ p ∈ ps,p.nm≠nm):valV kvs (.inr nm)=none:=by
 induction h with
 | nil=>rfl
 | @cons p q ps kvs h _ ih =>
  rw [xbr (fun z=>e p List.mem_cons_self (Sum.inr.inj z))]
  exact ih fun p' hp=>e p' (List.mem_cons_of_mem _ hp)
theorem Pl.get {H:Hp} {ps:List Pt} {kvs:List (Key × V)} (h:Pl H ps kvs) {i:Nat} {k:Key} {x:V} (e:kvs[i]?=some (k,x)):∃ p q,ps[i]?=some p∧k=.inr p.nm∧x=.ref q∧H q=some (.tup (ptV p)):=by
 induction h generalizing i with
 | nil=>simp at e
 | @cons p q ps kvs h _ ih =>
  cases i with
  | zero =>
   simp at e
   exact ⟨p,q,rfl,e.1.symm,e.2.symm,h⟩
  | succ j=>exact ih (by simpa using e)
theorem PtsL.get {H:Hp} {ps:List Pt} {qs:List Addr} (h:PtsL H ps qs) {i:Nat} {q:Addr} (e:qs[i]?=some q):∃ p,ps[i]?=some p∧H q=some (.tup (.str p.nm :: ptV p)):=by
 induction h generalizing i with
 | nil=>simp at e
 | @cons p q' ps qs h _ ih =>
  cases i with
  | zero =>
   simp at e
   subst e
   exact ⟨p,rfl,h⟩
  | succ j=>exact ih (by simpa using e)
theorem Pl.snoc {H:Hp} {ps:List Pt} {kvs:List (Key × V)} (h:Pl H ps kvs) {p:Pt} {q:Addr} (e:H q=some (.tup (ptV p))):Pl H (ps ++ [p]) (kvs ++ [(.inr p.nm,.ref q)]):=by
 induction h with
 | nil=>exact .cons e .nil
 | cons h _ ih=>exact .cons h ih
theorem PtsL.snoc {H:Hp} {ps:List Pt} {qs:List Addr} (h:PtsL H ps qs) {p:Pt} {q:Addr} (e:H q=some (.tup (.str p.nm :: ptV p))):PtsL H (ps ++ [p]) (qs ++ [q]):=by
 induction h with
 | nil=>exact .cons e .nil
 | cons h _ ih=>exact .cons h ih
abbrev picF (w h:Int) (dp do_:Addr):List (Str × V):=[("width",.int w),("height",.int h),("placed",.ref dp),("opened",.ref do_)]
structure Pic (t:Adr) (H:Hp) (a dp do_:Addr) (w h:Int) (ps:List Pt):Prop where
 ins:∃ dx,H a=some (.ins t.C_t dx (picF w h dp do_))
 pl:∃ kvs,H dp=some (.dK kvs)∧Pl H ps kvs
 w1:1≤w
 w2:w≤30
 h1:1≤h
 h2:h≤16
 len:ps.length≤12
theorem Same.tups {H H':Hp} (s:Same H H'):Tups H H':=fun b xs e=>s b _ e
theorem Pic.same {t:Adr} {H H':Hp} {a dp do_:Addr} {w h:Int} {ps:List Pt} (s:Same H H') (p:Pic t H a dp do_ w h ps):Pic t H' a dp do_ w h ps :=
 ⟨let ⟨dx,e⟩:=p.ins; ⟨dx,s _ _ e⟩,let ⟨kvs,e,q⟩:=p.pl; ⟨kvs,s _ _ e,q.keep (Same.tups s)⟩,p.w1,p.w2,p.h1,p.h2,p.len⟩
theorem xcj {w h:Int} {dp do_:Addr} {m:Str} (e:((["width", "height", "placed", "opened"]:List Str).all fun k=>!(m == k))=true):(picF w h dp do_).lookup m=none:=by
 simp only [List.all_cons,List.all_nil,Bool.and_eq_true,Bool.not_eq_true'] at e
 obtain ⟨e1,e2,e3,e4,_⟩:=e
 unfold picF
 rw [List.lookup_cons,e1]
 show List.lookup m [("height",V.int h),("placed",V.ref dp),("opened",V.ref do_)]=none
 rw [List.lookup_cons,e2]
 show List.lookup m [("placed",V.ref dp),("opened",V.ref do_)]=none
 rw [List.lookup_cons,e3]
 show List.lookup m [("opened",V.ref do_)]=none
 rw [List.lookup_cons,e4]
 rfl
theorem lkW {w h:Int} {dp do_:Addr}:(picF w h dp do_).lookup ("width":Str)=some (.int w):=by
 unfold picF
 rw [List.lookup_cons,show (("width":Str) == "width")=true from by decide +kernel]
theorem lkH {w h:Int} {dp do_:Addr}:(picF w h dp do_).lookup ("height":Str)=some (.int h):=by
 unfold picF
 rw [List.lookup_cons,show (("height":Str) == "width")=false from by decide +kernel]
 show List.lookup ("height":Str) [("height",V.int h),("placed",V.ref dp),("opened",V.ref do_)]=_
 rw [List.lookup_cons,show (("height":Str) == "height")=true from by decide +kernel]
theorem lkP {w h:Int} {dp do_:Addr}:(picF w h dp do_).lookup ("placed":Str)=some (.ref dp):=by
 unfold picF
 rw [List.lookup_cons,show (("placed":Str) == "width")=false from by decide +kernel]
 show List.lookup ("placed":Str) [("height",V.int h),("placed",V.ref dp),("opened",V.ref do_)]=_
 rw [List.lookup_cons,show (("placed":Str) == "height")=false from by decide +kernel]
 show List.lookup ("placed":Str) [("placed",V.ref dp),("opened",V.ref do_)]=_
 rw [List.lookup_cons,show (("placed":Str) == "placed")=true from by decide +kernel]
def xml (t:Adr):Sp:=fun vs H Q _=>∃ (p dx:Addr) (w h:Int),vs=[.ref p,.int w,.int h]∧H p=some (.ins t.C_t dx [])∧1≤w∧w≤30∧1≤h∧h≤16 ∧
 ∀ H' dp do_,H dp=none→H do_=none→(∀ b u,b≠p→H b=some u→H' b=some u)→Pic t H' p dp do_ w h []→H' do_=some (.dT [])→Q .non H'
def xps (t:Adr):Sp:=fun vs H Q _=>∃ (a dp do_:Addr) (pw ph:Int) (ps:List Pt),vs=[.ref a]∧Pic t H a dp do_ pw ph ps∧∀ H' l qs,Same H H'→H' l=some (.lst (qs.map V.ref))→PtsL H' ps qs→Q (.ref l) H'
def spCS (t:Adr):Sp:=fun vs H Q _=>∃ (a dp do_:Addr) (pw ph:Int) (ps:List Pt) (b:Bool) (r:Int),vs=[.ref a,.str (xar b),.int r]∧Pic t H a dp do_ pw ph ps∧1≤r∧r≤ph∧∀ H',Same H H'→Q .non H'
section
variable {P:Program} {w:World} {K:PySem.W.Frag} {mg:Str→Option Value} {base:Heap} {t:Adr}
theorem ok_s (T:Txt w K mg t):FnOk true P w K mg base (CXo P w) 2 t.f_s t.d_s ["self", "width", "height"] (xml t):=by
 refine T.F_s.okn (k:=1) sc_s (fun vs H Q E h=>?_) (fun cdv A outer s H vs Q E hr h=>?_)
 ·obtain ⟨p,dx,pw,ph,rfl,_⟩:=h
  rfl
 ·obtain ⟨p,dx,pw,ph,rfl,h⟩:=h
  refine ⟨_,xh (xab (PW.pt (xbv (xa8 (xav (x8 (ok_u T) (hr.mono (by decide)) rfl T.g_u T.F_u.kp T.b_u .nil xz (xb (pv 1) (xb (xk) (xb (xbd (v:=.int 30) rfl T.v_bm.choose_spec ⟨_,rfl⟩) (xg))))))) (xbj (xa8 (xav (x8 (ok_u T) (hr.mono (by decide)) rfl T.g_u T.F_u.kp T.b_u .nil xz (xb (pv 2) (xb (xk) (xb (xbd (v:=.int 16) rfl T.v_ck.choose_spec ⟨_,rfl⟩) (xg)))))))))) (xn (xb6)) (xt))
   (xh (xeb (pv 0) (pv 1) rfl)
   (xh (xeb (pv 0) (pv 2) rfl)
   (xh (xeb (pv 0) (xku) rfl)
   (xn (xeb (pv 0) (xlk) rfl))))),?_⟩
  obtain ⟨hp,w1,w2,h1,h2,q⟩:=h
  refine ⟨_,rfl,pw,1,30,rfl,w1,w2,true,rfl,iteF ⟨_,rfl,ph,1,16,rfl,h1,h2,true,rfl,iteF ?_⟩⟩
  refine ⟨_,rfl,_,rfl,p,_,dx,_,rfl,hp,T.c_t,T.n_bf,(by show 0 < 1000; decide),?_⟩
  refine ⟨_,rfl,_,rfl,p,_,dx,_,rfl,xf,T.c_t,T.n_a1,(by show 1 < 1000; decide),?_⟩
  rw [xfo]
  refine fun dp hdp=>?_
  have n1:p≠dp:=xo xf hdp
  refine ⟨_,rfl,p,_,dx,_,rfl,(by rw [xj n1]; exact xf),T.c_t,T.n_a0,(by show 2 < 1000; decide),fun do_ hdo=>?_⟩
  have n2:p≠do_:=xo xf hdo
  have n3:dp≠do_:=xo (by rw [xj (Ne.symm n1)]; exact xf) hdo
  refine ⟨_,rfl,p,_,dx,_,rfl,(by rw [xj n2]; exact xf),T.c_t,T.n_a3,(by show 3 < 1000; decide),?_⟩
  rw [xj (Ne.symm n1)] at hdp
  have hdo':H do_=none:=by
   have z:=hdo
   rw [xj (Ne.symm n2),xj (Ne.symm n3),xj (Ne.symm n2)] at z
   exact z
  refine q _ dp do_ hdp hdo' (fun b u nb e=>?_) ⟨⟨dx,xf⟩,⟨[],?_,.nil⟩,w1,w2,h1,h2,Nat.zero_le _⟩ ?_
  ·have c1:b≠dp:=xo e hdp
   have c2:b≠do_:=fun z=>by
    subst z
    rw [xj nb,xj c1,xj nb] at hdo
    rw [e] at hdo
    cases hdo
   rw [xj nb,xj c2,xj nb,xj c1,xj nb]
   exact e
  ·rw [xj (Ne.symm n1),xj n3,xj (Ne.symm n1)]
   exact xf
  ·rw [xj (Ne.symm n2)]
   exact xf
theorem ok_f (T:Txt w K mg t):FnOk true P w K mg base (CXo P w) 1 t.f_f t.d_f ["self"] (xps t):=by
 refine T.F_f.okn (k:=0) sc_f (fun vs H Q E h=>?_) (fun cdv A outer s H vs Q E hr h=>?_)
 ·obtain ⟨a,dp,do_,pw,ph,ps,rfl,_⟩:=h
  rfl
 ·obtain ⟨a,dp,do_,pw,ph,ps,rfl,h⟩:=h
  refine ⟨_,xn (xr (xm1 (xgz rfl (xcw (zs:=["name", "rest"]) (ys:=[]) (fr:=[]) (N0:=["self"]) (sc0:=xm s_f) (by decide +kernel) rfl rfl rfl) (xlw (xbi (pv 0) rfl)) (fun _ _ _ _ _ ow nd=>(xcm rfl (xad (x0 (i:=0) nd rfl (Or.inl (ow _ (by simp))) (Or.inr (ow _ (by simp)))) (xad (x0 (i:=1) nd rfl (Or.inl (ow _ (by simp))) (Or.inr (ow _ (by simp)))) (xa6))):PG _ _ (gTup K 2 _))) (xnf (xfw (by decide) (xfw (by decide) (xk0)))) (fun _ _ _ _ _=>xdi) (fun _ _ _ _ _=>x9 (r:=xl0 K) xnj (xaf (xb (pv 0) (xg))) (pv 1))))),?_⟩
  obtain ⟨pic,q⟩:=h
  obtain ⟨⟨dx,hp⟩,⟨kvs,hk,pl⟩,_⟩:=id pic
  refine ⟨_,rfl,a,_,dx,_,_,rfl,hp,T.c_t,T.n_a0,lkP,dp,kvs,rfl,hk,fun ob nf l hl=>?_⟩
  have nl:l≠dp:=fun z=>by
   rw [z,xf] at hl
   cases hl
  have hl0:H l=none:=by rwa [xj nl] at hl
  refine xet kvs.length (fun i xs H2=>∃ qs:List Addr,xs=qs.map V.ref∧qs.length≤i∧H2 dp=some (.frz ob (.dK kvs))∧(∀ b u,b≠dp→H b=some u→H2 b=some u)∧H2 l=some (.lst xs)∧PtsL H2 (ps.take i) qs) ?_ ?_ ?_ ?_
  ·refine ⟨[],rfl,Nat.le_refl _,?_,fun b u nb e=>?_,xf,by simpa using PtsL.nil⟩
   ·rw [xj (Ne.symm nl)]
    exact xf
   ·rw [xj (xo e hl0),xj nb]
    exact e
  ·rintro i xs H2 lt ⟨qs,_,_,hd,_⟩
   exact ⟨hd,lt⟩
  ·rintro i xs H2 v H3 lt ⟨qs,rfl,ql,hd,sm,hl2,pts⟩ ⟨p,k,x,hx,rfl,hpn,rfl⟩ N hN
   obtain ⟨pt,q0,hpt,rfl,rfl,hq0⟩:=pl.get hx
   have e0:H2 q0=some (.tup (ptV pt)):=sm _ _ (xbm hq0 hk (fun z=>nomatch z)) hq0
   refine ⟨p,_,rfl,SqT.of xf,rfl,_,_,rfl,_,_,rfl,rfl,?_⟩
   refine xph ?_
   have n0:q0≠p:=xo e0 hpn
   refine ⟨_,rfl,(by show 1≤sizeLine; decide),fun p1 h1=>⟨_,rfl,p1,q0,_,ptV pt,rfl,rfl,SqT.of xf,SqT.of ?_,(by simp),(by show 1 + 5≤sizeLine; decide),(fun z=>nomatch z),fun _ p2 h2=>?_⟩⟩
   ·rw [xj (xo (by rw [xj n0]; exact e0) h1),xj n0]
    exact e0
   have up:∀ b u,H2 b=some u→(upd (upd (upd H2 p (.tup [.str pt.nm,.ref q0])) p1 (.tup [.str pt.nm])) p2 (.tup ([.str pt.nm] ++ ptV pt))) b=some u:=fun b u e=>by
    have c1:b≠p:=xo e hpn
    have e1:upd H2 p (.tup [.str pt.nm,.ref q0]) b=some u:=by rw [xj c1]; exact e
    have c2:b≠p1:=xo e1 h1
    have e2:upd (upd H2 p (.tup [.str pt.nm,.ref q0])) p1 (.tup [.str pt.nm]) b=some u:=by rw [xj c2]; exact e1
    rw [xj (xo e2 h2)]
    exact e2
   have c3:l≠p2:=xo (show upd (upd H2 p (.tup [.str pt.nm,.ref q0])) p1 (.tup [.str pt.nm]) l=some (.lst (qs.map V.ref)) from by
    have c1:l≠p:=xo hl2 hpn
    have e1:upd H2 p (.tup [.str pt.nm,.ref q0]) l=some (.lst (qs.map V.ref)):=by rw [xj c1]; exact hl2
    rw [xj (xo e1 h1)]
    exact e1) h2
   have tk:ps.take (i + 1)=ps.take i ++ [pt]:=by
    rw [List.take_add_one,hpt]
    rfl
   have ll:qs.length < sizeLine:=Nat.lt_trans (by have:=pl.len; have:=pic.len; omega:qs.length < 13) (by decide)
   refine ⟨up _ _ hl2,by rw [List.length_map]; exact ll,hN _ _ ⟨qs ++ [p2],by simp,by simp; omega,?_,fun b u nb e=>?_,xf,?_⟩⟩
   ·rw [xj (Ne.symm nl)]
    exact up _ _ hd
   ·have e2:=up _ _ (sm b u nb e)
    rw [xj (xo e hl0)]
    exact e2
   ·rw [tk]
    refine PtsL.snoc (PtsL.keep (fun b xs e=>?_) pts) ?_
    ·have e2:=up _ _ e
     rw [xj (xbm e2 (up _ _ hl2) (fun z=>nomatch z))]
     exact e2
    ·rw [xj (Ne.symm c3)]
     exact xf
  ·rintro xs H2 ⟨qs,rfl,_,hd,sm,hl2,pts⟩
   refine ⟨⟨hd,Nat.le_refl _⟩,dp,ob,_,hd,nf,q _ l qs (fun b u e=>?_) ?_ (PtsL.keep (fun b xs e=>?_) (by rw [pl.len,List.take_length] at pts; exact pts))⟩
   ·by_cases c:b=dp
    ·subst c
     rw [hk] at e
     cases e
     exact xf
    ·rw [xj c]
     exact sm b u c e
   ·rw [xj nl]
    exact hl2
   ·rw [xj (xbm e hd (fun z=>nomatch z))]
    exact e
theorem ok_c (T:Txt w K mg t):FnOk true P w K mg base (CXo P w) 4 t.f_c t.d_c ["self", "side", "row"] (spCS t):=by
 refine T.F_c.okn (k:=3) sc_c (fun vs H Q E h=>?_) (fun cdv A outer s H vs Q E hr h=>?_)
 ·obtain ⟨a,dp,do_,pw,ph,ps,b,r,rfl,_⟩:=h
  rfl
 ·obtain ⟨a,dp,do_,pw,ph,ps,b,r,rfl,h⟩:=h
  refine ⟨_,xh (xbq (x8 (ok_aw T) (hr.mono (by decide)) rfl T.g_aw T.F_aw.kp T.b_aw .nil xz (xb (pv 1) (xb (xbi (pv 0) rfl) (xg)))))
   (xn (xab (xa8 (xav (x8 (ok_u T) (hr.mono (by decide)) rfl T.g_u T.F_u.kp T.b_u .nil xz (xb (pv 2) (xb (xk) (xb (xbi (pv 0) rfl) (xg))))))) (xn (xb6)) (xt))),?_⟩
  obtain ⟨pic,r1,r2,q⟩:=h
  obtain ⟨⟨dx,hp⟩,_,_⟩:=id pic
  refine ⟨_,rfl,_,rfl,a,_,dx,_,_,rfl,hp,T.c_t,T.n_bf,lkW,b,pw,rfl,fun p H1 hp1 sd1 s1=>?_⟩
  exact ⟨_,rfl,_,rfl,a,_,dx,_,_,rfl,(s1 _ _ hp),T.c_t,T.n_a1,lkH,r,1,ph,rfl,r1,r2,true,rfl,iteF (q H1 s1)⟩
end
end S22
set_option maxRecDepth 100000
set_option maxHeartbeats 4000000
namespace S22
open PySem L2 XL PyProof.Rows
theorem lkO {w h:Int} {dp do_:Addr}:(picF w h dp do_).lookup ("opened":Str)=some (.ref do_):=by
 unfold picF
 rw [List.lookup_cons,show (("opened":Str) == "width")=false from by decide +kernel]
 show List.lookup ("opened":Str) [("height",V.int h),("placed",V.ref dp),("opened",V.ref do_)]=_
 rw [List.lookup_cons,show (("opened":Str) == "height")=false from by decide +kernel]
 show List.lookup ("opened":Str) [("placed",V.ref dp),("opened",V.ref do_)]=_
 rw [List.lookup_cons,show (("opened":Str) == "placed")=false from by decide +kernel]
 show List.lookup ("opened":Str) [("opened",V.ref do_)]=_
 rw [List.lookup_cons,show (("opened":Str) == "opened")=true from by decide +kernel]
abbrev Seat:=Bool × Int
def xa0 (s:Seat):List Key:=[.inr (xar s.1),.inl s.2]
def xgj (s:Seat):List V:=[.str (xar s.1),.int s.2]
theorem xft {a b:Bool} (h:xar a=xar b):a=b:=by
 cases a <;> cases b <;> first | rfl | exact absurd h (by decide +kernel)
theorem xkh {s t:Seat} (h:xa0 s=xa0 t):s=t:=by
 simp only [xa0,List.cons.injEq,Sum.inr.injEq,Sum.inl.injEq] at h
 exact Prod.ext (xft h.1) h.2.1
def Sts (H:Hp) (do_:Addr) (ss:List Seat):Prop:=∃ kvs:List (List Key × V),H do_=some (.dT kvs)∧kvs.map (·.1)=ss.map xa0∧ss.Nodup∧ss.length≤32
theorem Sts.same {H H':Hp} {do_:Addr} {ss:List Seat} (s:Same H H') (h:Sts H do_ ss):Sts H' do_ ss:=let ⟨k,e,r⟩:=h; ⟨k,s _ _ e,r⟩
theorem xo2 {kvs:List (List Key × V)} {ss:List Seat} (e:kvs.map (·.1)=ss.map xa0) {s:Seat} (h:s ∉ ss):valV kvs (xa0 s)=none:=by
 cases z:valV kvs (xa0 s) with
 | none=>rfl
 | some v =>
  obtain ⟨i,hi⟩:=xhz z
  have m:xa0 s ∈ kvs.map (·.1):=List.mem_map.mpr ⟨_,List.mem_of_getElem? hi,rfl⟩
  rw [e] at m
  obtain ⟨t,ht,et⟩:=List.mem_map.mp m
  exact absurd ht (by rw [xkh et]; exact h)
inductive xbg (H:Hp):List Seat→List Addr→Prop
 | nil:xbg H [] []
 | cons {s:Seat} {q:Addr} {ss:List Seat} {qs:List Addr} (h:H q=some (.tup (xgj s))) (r:xbg H ss qs):xbg H (s :: ss) (q :: qs)
theorem xbg.keep {H H':Hp} (k:Tups H H') {ss:List Seat} {qs:List Addr} (h:xbg H ss qs):xbg H' ss qs:=by
 induction h with
 | nil=>exact .nil
 | cons h _ ih=>exact .cons (k _ _ h) ih
theorem xbg.len {H:Hp} {ss:List Seat} {qs:List Addr} (h:xbg H ss qs):qs.length=ss.length:=by
 induction h with
 | nil=>rfl
 | cons _ _ ih=>simp [ih]
def xi8 (s t:Seat):Prop:=(s.1=true∧t.1=false)∨(s.1=t.1∧s.2 < t.2)
theorem xlg {s t:Seat} (h:lexK (xa0 s) (xa0 t)=true):xi8 s t:=by
 obtain ⟨a,i⟩:=s
 obtain ⟨b,j⟩:=t
 unfold xa0 at h
 unfold lexK at h
 by_cases e:xar a=xar b
 ·rw [if_pos (by rw [e])] at h
  unfold lexK at h
  by_cases e2:i=j
  ·rw [if_pos (by rw [e2])] at h
   unfold lexK at h
   cases h
  ·rw [if_neg (fun z=>e2 (Sum.inl.inj z))] at h
   exact .inr ⟨xft e,of_decide_eq_true h⟩
 ·rw [if_neg (fun z=>e (Sum.inr.inj z))] at h
  cases a <;> cases b
  ·exact absurd rfl e
  ·exact absurd h (by show ¬ xca (.inr (xar false)) (.inr (xar true))=true; decide +kernel)
  ·exact .inl ⟨rfl,rfl⟩
  ·exact absurd rfl e
def unK:List Key→Seat
 | [.inr s,.inl r]=>(decide (s="left"),r)
 | _=>(true,0)
theorem xhc (s:Seat):unK (xa0 s)=s:=by
 obtain ⟨b,r⟩:=s
 cases b
 ·show (decide (("right":Str)="left"),r)=_
  rw [decide_eq_false (by decide +kernel)]
 ·show (decide (("left":Str)="left"),r)=_
  rw [decide_eq_true rfl]
def xou (t:Adr):Sp:=fun vs H Q _=>∃ (a dp do_:Addr) (pw ph:Int) (ps:List Pt) (ss:List Seat) (b:Bool) (r:Int),vs=[.ref a,.str (xar b),.int r]∧Pic t H a dp do_ pw ph ps∧Sts H do_ ss∧1≤r∧r≤ph∧(b,r) ∉ ss∧ss.length < 32 ∧
 ∀ H',(∀ c u,c≠do_→H c=some u→H' c=some u)→Pic t H' a dp do_ pw ph ps→Sts H' do_ (ss ++ [(b,r)])→Q .non H'
def xni (t:Adr):Sp:=fun vs H Q _=>∃ (a dp do_:Addr) (pw ph:Int) (ps:List Pt) (ss:List Seat),vs=[.ref a]∧Pic t H a dp do_ pw ph ps∧Sts H do_ ss ∧
 ∀ (l:Addr) (ss':List Seat) (qs:List Addr),H l=none→xbg H ss' qs→ss'.Perm ss→ss'.Pairwise xi8→Q (.ref l) (upd H l (.lst (qs.map V.ref)))
theorem Pic.but {t:Adr} {H H':Hp} {a dp do_:Addr} {w h:Int} {ps:List Pt} {kvs:List (List Key × V)} (e:H do_=some (.dT kvs)) (s:∀ c u,c≠do_→H c=some u→H' c=some u) (p:Pic t H a dp do_ w h ps):Pic t H' a dp do_ w h ps :=
 ⟨let ⟨dx,x⟩:=p.ins; ⟨dx,s _ _ (xbm x e (fun z=>nomatch z)) x⟩,let ⟨k,x,q⟩:=p.pl; ⟨k,s _ _ (xbm x e (fun z=>nomatch z)) x,q.keep fun b xs x=>s _ _ (xbm x e (fun z=>nomatch z)) x⟩,p.w1,p.w2,p.h1,p.h2,p.len⟩
section
variable {P:Program} {w:World} {K:PySem.W.Frag} {mg:Str→Option Value} {base:Heap} {t:Adr}
theorem ok_d (T:Txt w K mg t):FnOk true P w K mg base (CXo P w) 5 t.f_d t.d_d ["self", "side", "row"] (xou t):=by
 refine T.F_d.okn (k:=4) sc_d (fun vs H Q E h=>?_) (fun cdv A outer s H vs Q E hr h=>?_)
 ·obtain ⟨a,dp,do_,pw,ph,ps,ss,b,r,rfl,_⟩:=h
  rfl
 ·obtain ⟨a,dp,do_,pw,ph,ps,ss,b,r,rfl,h⟩:=h
  refine ⟨_,xh (xbq (xdg (pv 0) T.c_t T.m_c (ok_c T) (hr.mono (by decide)) T.b_c .nil xz (xb (pv 1) (xb (pv 2) (xg)))))
   (xh (xab (xgt (xko (xgn hr) (xaf (xb (pv 1) (xb (pv 2) (xg)))) (xbi (pv 0) rfl))) (xn (xb6)) (xt))
   (xn (xh6 (xgn hr) (xbi (pv 0) rfl) (xaf (xb (pv 1) (xb (pv 2) (xg)))) (xpn) rfl))),?_⟩
  obtain ⟨pic,st,r1,r2,no,len,q⟩:=h
  obtain ⟨⟨dx,hp⟩,_,_⟩:=id pic
  obtain ⟨kvs,hk,ek,nd,l32⟩:=id st
  refine ⟨_,rfl,a,dx,_,rfl,hp,xcj (by decide +kernel),_,rfl,_,rfl,a,dp,do_,pw,ph,ps,b,r,rfl,pic,r1,r2,fun H1 s1=>?_⟩
  refine ⟨_,rfl,_,rfl,(by show 2≤sizeLine; decide),fun q1 hq1=>?_⟩
  have s2:Same H1 (upd H1 q1 (.tup [.str (xar b),.int r])):=xp (Same.refl _) hq1
  have g2:upd H1 q1 (.tup [.str (xar b),.int r]) q1=some (.tup [.str (xar b),.int r]):=xf
  revert s2 g2
  generalize upd H1 q1 (.tup [.str (xar b),.int r])=H2
  intro s2 g2
  have hk2:=s2 _ _ (s1 _ _ hk)
  have hp2:=s2 _ _ (s1 _ _ hp)
  have n0:valV kvs (xa0 (b,r))=none:=xo2 ek no
  refine ⟨_,rfl,a,_,dx,_,_,rfl,hp2,T.c_t,T.n_a3,lkO,do_,none,rfl,(by rw [← n0]; exact DGet.t (k:=xa0 (b,r)) hk2 g2),false,rfl,iteF ?_⟩
  refine ⟨_,rfl,a,_,dx,_,_,rfl,hp2,T.c_t,T.n_a3,lkO,_,rfl,_,rfl,(by show 2≤sizeLine; decide),fun q3 hq3=>?_⟩
  have s3:Same H2 (upd H2 q3 (.tup [.str (xar b),.int r])):=xp (Same.refl _) hq3
  have g3:upd H2 q3 (.tup [.str (xar b),.int r]) q3=some (.tup [.str (xar b),.int r]):=xf
  revert s3 g3
  generalize upd H2 q3 (.tup [.str (xar b),.int r])=H3
  intro s3 g3
  have kl:kvs.length=ss.length:=by
   have:=congrArg List.length ek
   simpa using this
  refine ⟨do_,_,rfl,DPut.t (k:=xa0 (b,r)) (s3 _ _ hk2) g3 (Nat.lt_trans (by omega:kvs.length < 33) (by decide)),?_⟩
  have bt:∀ c u,c≠do_→H c=some u→upd H3 do_ (.dT (putK kvs (xa0 (b,r)) (.bl true))) c=some u:=fun c u nc e=>by
   rw [xj nc]
   exact s3 _ _ (s2 _ _ (s1 _ _ e))
  refine q _ bt (Pic.but hk bt pic) ⟨_,xf,?_,?_,?_⟩
  ·rw [xes _ n0,List.map_append,List.map_append,ek]
   rfl
  ·rw [List.nodup_append]
   exact ⟨nd,by simp,fun x hx y hy=>by rw [List.mem_singleton.mp hy]; exact fun e=>no (e ▸ hx)⟩
  ·rw [List.length_append]
   show ss.length + 1≤32
   omega
theorem ok_i (T:Txt w K mg t):FnOk true P w K mg base (CXo P w) 1 t.f_i t.d_i ["self"] (xni t):=by
 refine T.F_i.okn (k:=0) sc_i (fun vs H Q E h=>?_) (fun cdv A outer s H vs Q E hr h=>?_)
 ·obtain ⟨a,dp,do_,pw,ph,ps,ss,rfl,_⟩:=h
  rfl
 ·obtain ⟨a,dp,do_,pw,ph,ps,ss,rfl,h⟩:=h
  refine ⟨_,xn (xr (x6 (xgu rfl) rfl T.n_sorted PyProof.Rows.Boot.«sorted» (xb (xbi (pv 0) rfl) (xg)))),?_⟩
  obtain ⟨pic,st,q⟩:=h
  obtain ⟨⟨dx,hp⟩,_,_⟩:=id pic
  obtain ⟨kvs,hk,ek,nd,l32⟩:=id st
  have kl:kvs.length=ss.length:=by
   have:=congrArg List.length ek
   simpa using this
  refine ⟨_,rfl,a,_,dx,_,_,rfl,hp,T.c_t,T.n_a3,lkO,do_,kvs,[false,true],rfl,hk,by omega,fun p hp'=>?_,by decide,fun l ts fr tm pm pw'=>?_⟩
  ·have m:p.1 ∈ kvs.map (·.1):=List.mem_map.mpr ⟨p,hp',rfl⟩
   rw [ek] at m
   obtain ⟨s,_,e⟩:=List.mem_map.mp m
   rw [← e]
   rfl
  rw [ek] at pm
  have back:∀ t ∈ ts,xa0 (unK t.1)=t.1:=fun t ht=>by
   obtain ⟨s,_,e⟩:=List.mem_map.mp (pm.mem_iff.mp (List.mem_map.mpr ⟨t,ht,rfl⟩))
   rw [← e,xhc]
  have z:=q l ((ts.map (·.1)).map unK) (ts.map (·.2)) fr ?_ ?_ ?_
  ·rw [List.map_map] at z
   exact z
  ·clear pm pw'
   induction ts with
   | nil=>exact .nil
   | cons t ts ih =>
    refine .cons ?_ (ih (fun x hx=>tm x (List.mem_cons_of_mem _ hx)) fun x hx=>back x (List.mem_cons_of_mem _ hx))
    have e:=tm t List.mem_cons_self
    rw [← back t List.mem_cons_self] at e
    exact e
  ·have z2:=pm.map unK
   have e2:(ss.map xa0).map unK=ss:=by
    rw [List.map_map,show (unK ∘ xa0)=id from funext xhc]
    exact List.map_id _
   rw [e2] at z2
   exact z2
  ·rw [List.pairwise_map] at pw'
   rw [List.map_map,List.pairwise_map]
   refine pw'.imp_of_mem fun {x y} hx hy hxy=>xlg ?_
   show lexK (xa0 (unK x.1)) (xa0 (unK y.1))=true
   rw [back x hx,back y hy]
   exact hxy
end
end S22
set_option maxRecDepth 100000
set_option maxHeartbeats 4000000
namespace S22
open PySem L2 XL PyProof.Rows
def scD:V→DV
 | .int i=>.int i
 | .bl b=>.bl b
 | .str s=>.str s
 | _=>.non
def scV:V→Bool
 | .int _=>true
 | .bl _=>true
 | .str _=>true
 | .non=>true
 | _=>false
inductive Thg (H:Hp):V→DV→Prop
 | non:Thg H .non .non
 | bl (b:Bool):Thg H (.bl b) (.bl b)
 | int (i:Int):Thg H (.int i) (.int i)
 | str (s:Str) (h:s.length≤1000):Thg H (.str s) (.str s)
 | lst {q:Addr} {xs:List V} (h:H q=some (.lst xs)) (f:xs.all scV=true):Thg H (.ref q) (.lst (xs.map scD))
 | tup {q:Addr} {xs:List V} (h:H q=some (.tup xs)) (f:xs.all scV=true):Thg H (.ref q) (.tup (xs.map scD))
theorem xpa {K:PySem.W.Frag} {H:Hp} {v:V} (h:scV v=true):Dv K H 0 v (scD v):=by
 cases v with
 | int i=>exact .int
 | bl b=>exact .bl
 | str s=>exact .str
 | non=>exact .non
 | _=>cases h
theorem xo7 {K:PySem.W.Frag} {H:Hp} {xs:List V} (f:xs.all scV=true) (j:Nat) (x:V) (d:DV) (h1:xs[j]?=some x) (h2:(xs.map scD)[j]?=some d):Dv K H 0 x d:=by
 rw [List.getElem?_map,h1] at h2
 cases h2
 exact xpa (List.all_eq_true.mp f x (List.mem_of_getElem? h1))
def xw:DV→Int→Int→Bool
 | .int i,lo,hi=>decide (lo≤i) && decide (i≤hi)
 | _,_,_=>false
theorem xaz {d:DV} {lo hi:Int} (h:xw d lo hi=true):∃ i,d=.int i∧lo≤i∧i≤hi:=by
 cases d with
 | int i =>
  simp only [xw,Bool.and_eq_true,decide_eq_true_eq] at h
  exact ⟨i,rfl,h.1,h.2⟩
 | _=>cases h
def intD:DV→Int
 | .int i=>i
 | _=>0
theorem xbe {i lo hi:Int} (h1:lo≤i) (h2:i≤hi):xw (.int i) lo hi=true:=by
 simp [xw,h1,h2]
theorem Thg.int_of {H:Hp} {v:V} {i:Int} (h:Thg H v (.int i)):v=.int i:=by cases h; rfl
theorem Thg.str_of {H:Hp} {v:V} {s:Str} (h:Thg H v (.str s)):v=.str s:=by cases h; rfl
def xgr:DV→Bool
 | .str s=>isNm s
 | _=>false
inductive Er where
 | noName (v0:V)
 | noCell (v0:V) (v1:V)
 | noSides (v0:V)
 | noWindow (v0:V) (v1:V)
 | oldPoint (v0:V)
 | tooMany
 | sameColumn (v0:V)
 | sameRow (v0:V)
def Er.cls (t:Adr):Er→Addr
 | .noName _=>t.C_ah
 | .noCell _ _=>t.C_af
 | .noSides _=>t.C_m
 | .noWindow _ _=>t.C_j
 | .oldPoint _=>t.C_n
 | .tooMany=>t.C_v
 | .sameColumn _=>t.C_e
 | .sameRow _=>t.C_w
def Er.fs:Er→List (Str × V)
 | .noName v0=>[("name",v0)]
 | .noCell v0 v1=>[("x",v0),("y",v1)]
 | .noSides v0=>[("sides",v0)]
 | .noWindow v0 v1=>[("low",v0),("high",v1)]
 | .oldPoint v0=>[("name",v0)]
 | .tooMany=>[]
 | .sameColumn v0=>[("name",v0)]
 | .sameRow v0=>[("name",v0)]
def Er.told:Er→List V
 | .noName v0=>[.str "name",v0]
 | .noCell v0 v1=>[.str "cell",v0,v1]
 | .noSides v0=>[.str "sides",v0]
 | .noWindow v0 v1=>[.str "window",v0,v1]
 | .oldPoint v0=>[.str "old",v0]
 | .tooMany=>[.str "many"]
 | .sameColumn v0=>[.str "column",v0]
 | .sameRow v0=>[.str "row",v0]
def ErAt (t:Adr) (H:Hp) (e:Addr) (er:Er):Prop:=(er.fs=[]∧H e=some (XO e (er.cls t) none))∨(er.fs≠[]∧∃ dx,H e=some (XO e (er.cls t) (some dx))∧H dx=some (XD dx er.fs))
def xbb (t:Adr) (H H':Hp) (e:Addr) (er:Er):Prop:=Same H H'∧ErAt t H' e er
theorem xbb.pre {t:Adr} {H H1 H':Hp} {e:Addr} {er:Er} (s:Same H H1) (h:xbb t H1 H' e er):xbb t H H' e er:=⟨s.trans h.1,h.2⟩
def Outs (t:Adr) (H:Hp) (out:Option Er) (E:XK) (D:Prop):Prop:=(∀ er,out=some er→∀ e H',xbb t H H' e er→E e (er.cls t) H')∧(out=none→D)
def spX1 (C:Addr) (f:Str):Sp:=fun vs H Q _=>∃ (e:Addr) (v:V),vs=[.ref e,v]∧H e=some (XN e C none)∧∀ dx,H dx=none→Q .non (upd (upd H dx (XD dx [(f,v)])) e (XN e C (some dx)))
def spX2 (C:Addr) (f g:Str):Sp:=fun vs H Q _=>∃ (e:Addr) (v w:V),vs=[.ref e,v,w]∧H e=some (XN e C none)∧∀ dx,H dx=none→Q .non (upd (upd (upd H dx (XD dx [(f,v)])) e (XN e C (some dx))) dx (XD dx (putF g w [(f,v)])))
theorem lk_1 {f:Str} {v:V} {r:List (Str × V)}:((f,v) :: r).lookup f=some v:=by simp
theorem lk_2 {f g:Str} {v w:V} (h:(g == f)=false):([(f,v),(g,w)]:List (Str × V)).lookup g=some w:=by
 rw [List.lookup_cons,h]
 simp
theorem xat {t:Adr} {H:Hp} {e dx C:Addr} {er:Er} {fs:List (Str × V)} (hc:er.cls t=C) (hf:er.fs=fs) (he:H e=none) (hdx:upd H e (XN e C none) dx=none) (hn:fs≠[]:=by (intro z; cases z)):xbb t H (upd (upd (upd (upd H e (XN e C none)) dx (XD dx fs)) e (XN e C (some dx))) e (XO e C (some dx))) e er:=by
 have ne:dx≠e:=fun z=>by rw [z,xf] at hdx; cases hdx
 rw [xj ne] at hdx
 subst hc hf
 refine ⟨fun y o q=>?_,.inr ⟨hn,dx,xf,?_⟩⟩
 ·rw [xj (xo q he),xj (xo q he),xj (xo q hdx),xj (xo q he)]
  exact q
 ·rw [xj ne,xj ne,xf]
theorem xcu {t:Adr} {H:Hp} {e dx C:Addr} {er:Er} {fs fs0:List (Str × V)} (hc:er.cls t=C) (hf:er.fs=fs) (he:H e=none) (hdx:upd H e (XN e C none) dx=none) (hn:fs≠[]:=by (intro z; cases z)):xbb t H (upd (upd (upd (upd (upd H e (XN e C none)) dx (XD dx fs0)) e (XN e C (some dx))) dx (XD dx fs)) e (XO e C (some dx))) e er:=by
 have ne:dx≠e:=fun z=>by rw [z,xf] at hdx; cases hdx
 rw [xj ne] at hdx
 subst hc hf
 refine ⟨fun y o q=>?_,.inr ⟨hn,dx,xf,?_⟩⟩
 ·rw [xj (xo q he),xj (xo q hdx),xj (xo q he),xj (xo q hdx),xj (xo q he)]
  exact q
 ·rw [xj ne,xf]
theorem xct {H:Hp} {e dx C:Addr} {a b c:HO} (hdx:upd H e a dx=none):upd (upd (upd (upd H e a) dx b) e (XN e C (some dx))) dx c e=some (XN e C (some dx)):=by
 have ne:dx≠e:=fun z=>by rw [z,xf] at hdx; cases hdx
 rw [xj (Ne.symm ne),xf]
theorem xh0 {t:Adr} {H:Hp} {e C:Addr} {er:Er} (hc:er.cls t=C) (hf:er.fs=[]) (he:H e=none):xbb t H (upd (upd H e (XN e C none)) e (XO e C none)) e er:=by
 subst hc
 refine ⟨fun y o q=>?_,.inl ⟨hf,xf⟩⟩
 rw [xj (xo q he),xj (xo q he)]
 exact q
section
variable {P:Program} {w:World} {K:PySem.W.Frag} {mg:Str→Option Value} {base:Heap} {t:Adr}
theorem ok_y (T:Txt w K mg t):FnOk true P w K mg base (CXo P w) 1 t.f_y t.d_y ["self", "name"] (spX1 t.C_ah "name"):=by
 refine T.F_y.okn (k:=0) sc_y (fun vs H Q E h=>?_) (fun cdv A outer s H vs Q E hr h=>?_)
 ·obtain ⟨e,v,rfl,_⟩:=h
  rfl
 ·obtain ⟨e,v,rfl,h⟩:=h
  refine ⟨_,xn (xb1 (pv 0) (pv 1) rfl),?_⟩
  obtain ⟨he,q⟩:=h
  exact ⟨_,rfl,_,rfl,e,t.C_ah,rfl,T.x_ah,T.n_cg,.inl ⟨he,q⟩⟩
theorem ok_z (T:Txt w K mg t):FnOk true P w K mg base (CXo P w) 1 t.f_z t.d_z ["self", "x", "y"] (spX2 t.C_af "x" "y"):=by
 refine T.F_z.okn (k:=0) sc_z (fun vs H Q E h=>?_) (fun cdv A outer s H vs Q E hr h=>?_)
 ·obtain ⟨e,v,w2,rfl,_⟩:=h
  rfl
 ·obtain ⟨e,v,w2,rfl,h⟩:=h
  refine ⟨_,xh (xb1 (pv 0) (pv 1) rfl)
   (xn (xb1 (pv 0) (pv 2) rfl)),?_⟩
  obtain ⟨he,q⟩:=h
  refine ⟨_,rfl,_,rfl,e,t.C_af,rfl,T.x_af,T.n_c6,.inl ⟨he,fun dx hdx=>?_⟩⟩
  have ne:dx≠e:=fun z=>by rw [z,he] at hdx; cases hdx
  exact ⟨_,rfl,_,rfl,e,t.C_af,rfl,T.x_af,T.n_c5,.inr ⟨dx,_,xf,(by rw [xj ne]; exact xf),(by show 1 < 1000; decide),q dx hdx⟩⟩
theorem ok_q (T:Txt w K mg t):FnOk true P w K mg base (CXo P w) 1 t.f_q t.d_q ["self", "sides"] (spX1 t.C_m "sides"):=by
 refine T.F_q.okn (k:=0) sc_q (fun vs H Q E h=>?_) (fun cdv A outer s H vs Q E hr h=>?_)
 ·obtain ⟨e,v,rfl,_⟩:=h
  rfl
 ·obtain ⟨e,v,rfl,h⟩:=h
  refine ⟨_,xn (xb1 (pv 0) (pv 1) rfl),?_⟩
  obtain ⟨he,q⟩:=h
  exact ⟨_,rfl,_,rfl,e,t.C_m,rfl,T.x_m,T.n_by,.inl ⟨he,q⟩⟩
theorem ok_k (T:Txt w K mg t):FnOk true P w K mg base (CXo P w) 1 t.f_k t.d_k ["self", "low", "high"] (spX2 t.C_j "low" "high"):=by
 refine T.F_k.okn (k:=0) sc_k (fun vs H Q E h=>?_) (fun cdv A outer s H vs Q E hr h=>?_)
 ·obtain ⟨e,v,w2,rfl,_⟩:=h
  rfl
 ·obtain ⟨e,v,w2,rfl,h⟩:=h
  refine ⟨_,xh (xb1 (pv 0) (pv 1) rfl)
   (xn (xb1 (pv 0) (pv 2) rfl)),?_⟩
  obtain ⟨he,q⟩:=h
  refine ⟨_,rfl,_,rfl,e,t.C_j,rfl,T.x_j,T.n_b9,.inl ⟨he,fun dx hdx=>?_⟩⟩
  have ne:dx≠e:=fun z=>by rw [z,he] at hdx; cases hdx
  exact ⟨_,rfl,_,rfl,e,t.C_j,rfl,T.x_j,T.n_bz,.inr ⟨dx,_,xf,(by rw [xj ne]; exact xf),(by show 1 < 1000; decide),q dx hdx⟩⟩
theorem ok_l (T:Txt w K mg t):FnOk true P w K mg base (CXo P w) 1 t.f_l t.d_l ["self", "name"] (spX1 t.C_n "name"):=by
 refine T.F_l.okn (k:=0) sc_l (fun vs H Q E h=>?_) (fun cdv A outer s H vs Q E hr h=>?_)
 ·obtain ⟨e,v,rfl,_⟩:=h
  rfl
 ·obtain ⟨e,v,rfl,h⟩:=h
  refine ⟨_,xn (xb1 (pv 0) (pv 1) rfl),?_⟩
  obtain ⟨he,q⟩:=h
  exact ⟨_,rfl,_,rfl,e,t.C_n,rfl,T.x_n,T.n_b0,.inl ⟨he,q⟩⟩
theorem ok_h (T:Txt w K mg t):FnOk true P w K mg base (CXo P w) 1 t.f_h t.d_h ["self", "name"] (spX1 t.C_e "name"):=by
 refine T.F_h.okn (k:=0) sc_h (fun vs H Q E h=>?_) (fun cdv A outer s H vs Q E hr h=>?_)
 ·obtain ⟨e,v,rfl,_⟩:=h
  rfl
 ·obtain ⟨e,v,rfl,h⟩:=h
  refine ⟨_,xn (xb1 (pv 0) (pv 1) rfl),?_⟩
  obtain ⟨he,q⟩:=h
  exact ⟨_,rfl,_,rfl,e,t.C_e,rfl,T.x_e,T.n_a9,.inl ⟨he,q⟩⟩
theorem ok_r (T:Txt w K mg t):FnOk true P w K mg base (CXo P w) 1 t.f_r t.d_r ["self", "name"] (spX1 t.C_w "name"):=by
 refine T.F_r.okn (k:=0) sc_r (fun vs H Q E h=>?_) (fun cdv A outer s H vs Q E hr h=>?_)
 ·obtain ⟨e,v,rfl,_⟩:=h
  rfl
 ·obtain ⟨e,v,rfl,h⟩:=h
  refine ⟨_,xn (xb1 (pv 0) (pv 1) rfl),?_⟩
  obtain ⟨he,q⟩:=h
  exact ⟨_,rfl,_,rfl,e,t.C_w,rfl,T.x_w,T.n_cb,.inl ⟨he,q⟩⟩
end
end S22
set_option maxRecDepth 100000
set_option maxHeartbeats 4000000
namespace S22
open PySem L2 XL PyProof.Rows
def spWT:Sp:=fun vs H Q _=>∃ (x:V) (d:DV) (lo hi:Int),vs=[x,.int lo,.int hi]∧Thg H x d∧Q (.bl (xw d lo hi)) H
def spNT:Sp:=fun vs H Q _=>∃ (x:V) (d:DV),vs=[x]∧Thg H x d∧Q (.bl (xgr d)) H
section
variable {P:Program} {w:World} {K:PySem.W.Frag} {mg:Str→Option Value} {base:Heap} {t:Adr}
theorem okT_u (T:Txt w K mg t):FnOk true P w K mg base (CXo P w) 1 t.f_u t.d_u ["thing", "low", "high"] (spWT):=by
 refine T.F_u.okn (k:=0) sc_u (fun vs H Q E h=>?_) (fun cdv A outer s H vs Q E hr h=>?_)
 ·obtain ⟨x,d,lo,hi,rfl,_⟩:=h
  rfl
 ·obtain ⟨x,d,lo,hi,rfl,h⟩:=h
  refine ⟨_,xn (xr (xcr (x6 xao rfl T.n_isinstance boot_isinstance (xb (pv 0) (xb (xbz (v:=.ty "int") rfl T.n_int boot_int rfl) (xg)))) (xcr (xkf (x6 xao rfl T.n_isinstance boot_isinstance (xb (pv 0) (xb (xbz (v:=.ty "bool") rfl T.n_bool boot_bool rfl) (xg))))) (xe7 (xey xcd xcd (pv 1) (pv 0) (pv 2)))))),?_⟩
  obtain ⟨tx,q⟩:=h
  cases tx with
  | int i =>
   refine ⟨_,rfl,_,_,rfl,.inl ⟨_,_,true,.int i,rfl,xbl,true,rfl,iteT ?_⟩⟩
   refine ⟨_,rfl,_,_,rfl,.inl ⟨_,_,false,.int i,rfl,(by rfl),false,rfl,true,rfl,iteT ?_⟩⟩
   refine ⟨_,rfl,_,rfl,_,_,rfl,rfl,_,rfl,ite2 (fun c=>?_) (fun c=>?_)⟩
   ·refine ⟨_,rfl,_,_,rfl,rfl,?_⟩
    change Q (.bl (decide (lo≤i) && decide (i≤hi))) H at q
    rw [c,Bool.true_and] at q
    exact q
   ·change Q (.bl (decide (lo≤i) && decide (i≤hi))) H at q
    rw [Bool.eq_false_iff.mpr c,Bool.false_and] at q
    exact q
  | bl b =>
   refine ⟨_,rfl,_,_,rfl,.inl ⟨_,_,true,.bl b,rfl,(by rfl),true,rfl,iteT ?_⟩⟩
   exact ⟨_,rfl,_,_,rfl,.inl ⟨_,_,true,.bl b,rfl,xbl,true,rfl,false,rfl,iteF q⟩⟩
  | str y=>exact ⟨_,rfl,_,_,rfl,.inl ⟨_,_,false,.str y,rfl,(by rfl),false,rfl,iteF q⟩⟩
  | non=>exact ⟨_,rfl,_,_,rfl,.inl ⟨_,_,false,.non,rfl,(by rfl),false,rfl,iteF q⟩⟩
  | lst hq=>exact ⟨_,rfl,_,_,rfl,.inl ⟨_,_,false,.lst hq,rfl,(by rfl),false,rfl,iteF q⟩⟩
  | tup hq=>exact ⟨_,rfl,_,_,rfl,.inl ⟨_,_,false,.tup hq,rfl,(by rfl),false,rfl,iteF q⟩⟩
theorem okT_ax (T:Txt w K mg t):FnOk true P w K mg base (CXo P w) 1 t.f_ax t.d_ax ["thing"] (spNT):=by
 refine T.F_ax.okn (k:=0) sc_ax (fun vs H Q E h=>?_) (fun cdv A outer s H vs Q E hr h=>?_)
 ·obtain ⟨v,d,rfl,_⟩:=h
  rfl
 ·obtain ⟨v,d,rfl,h⟩:=h
  refine ⟨_,xn (xr (xcr (x6 xao rfl T.n_isinstance boot_isinstance (xb (pv 0) (xb (xbz (v:=.ty "str") rfl T.n_str boot_str rfl) (xg)))) (xcr (xdk xa9 (x6 xcc rfl T.n_len boot_len (xb (pv 0) (xg))) (xk) (xac _)) (xe7 (xey xc7 xc7 (xv) (pv 0) (xv)))))),?_⟩
  obtain ⟨tx,q⟩:=h
  cases tx with
  | str x xl =>
   refine ⟨_,rfl,_,_,rfl,.inl ⟨_,_,true,.str x,rfl,xbl,true,rfl,iteT ?_⟩⟩
   refine ⟨_,rfl,_,rfl,(by first | exact Nat.lt_of_le_of_lt xl (by decide) | exact Nat.le_trans xl (by decide) | omega),rfl,_,rfl,ite2 (fun c=>?_) (fun c=>?_)⟩
   ·have l1:x.length=1:=by
     have z:(x.length:Int)=1:=by simpa using c
     omega
    change Q (.bl (isNm x)) H at q
    unfold isNm at q
    rw [decide_eq_true l1,Bool.true_and] at q
    refine ⟨_,rfl,_,_,rfl,rfl,_,rfl,ite2 (fun d=>?_) (fun d=>?_)⟩
    ·refine ⟨_,_,rfl,rfl,?_⟩
     rw [xl3] at d
     rw [xpb]
     rw [d,Bool.true_and] at q
     exact q
    ·rw [xl3] at d
     rw [Bool.eq_false_iff.mpr d,Bool.false_and] at q
     exact q
   ·have l1:¬ x.length=1:=fun z=>c (by rw [z]; rfl)
    change Q (.bl (isNm x)) H at q
    unfold isNm at q
    rw [decide_eq_false l1,Bool.false_and] at q
    exact q
  | int i=>exact ⟨_,rfl,_,_,rfl,.inl ⟨_,_,false,.int i,rfl,(by rfl),false,rfl,iteF q⟩⟩
  | bl b=>exact ⟨_,rfl,_,_,rfl,.inl ⟨_,_,false,.bl b,rfl,(by rfl),false,rfl,iteF q⟩⟩
  | non=>exact ⟨_,rfl,_,_,rfl,.inl ⟨_,_,false,.non,rfl,(by rfl),false,rfl,iteF q⟩⟩
  | lst hq=>exact ⟨_,rfl,_,_,rfl,.inl ⟨_,_,false,.lst hq,rfl,(by rfl),false,rfl,iteF q⟩⟩
  | tup hq=>exact ⟨_,rfl,_,_,rfl,.inl ⟨_,_,false,.tup hq,rfl,(by rfl),false,rfl,iteF q⟩⟩
end
end S22
set_option maxRecDepth 100000
set_option maxHeartbeats 4000000
namespace S22
open PySem L2 XL PyProof.Rows
structure PtOk (w h:Int) (p:Pt):Prop where
 nm:isNm p.nm=true
 x1:1≤p.x
 x2:p.x≤w
 y1:1≤p.y
 y2:p.y≤h
 sd:p.sd="left"∨p.sd="right"∨p.sd="both"
 l1:1≤p.lo
 l2:p.lo≤p.hi
 l3:p.hi≤h
def ptD (p:Pt):DV:=.tup [.str p.nm,.int p.x,.int p.y,.str p.sd,.int p.lo,.int p.hi]
theorem xpj {K:PySem.W.Frag} {H:Hp} {q:Addr} {p:Pt} (h:H q=some (.tup (.str p.nm :: ptV p))):Dv K H 1 (.ref q) (ptD p):=by
 refine .tup (SqT.of h) rfl fun j x d h1 h2=>?_
 match j,h1,h2 with
 | 0,h1,h2=>cases h1; cases h2; exact .str
 | 1,h1,h2=>cases h1; cases h2; exact .int
 | 2,h1,h2=>cases h1; cases h2; exact .int
 | 3,h1,h2=>cases h1; cases h2; exact .str
 | 4,h1,h2=>cases h1; cases h2; exact .int
 | 5,h1,h2=>cases h1; cases h2; exact .int
 | j + 6,h1,h2=>simp [ptV] at h1
theorem PtsL.dv {K:PySem.W.Frag} {H:Hp} {ps:List Pt} {qs:List Addr} (h:PtsL H ps qs) {l:Addr} (e:H l=some (.lst (qs.map V.ref))):Dv K H 2 (.ref l) (.lst (ps.map ptD)):=by
 refine .lst (SqL.of e) (by rw [List.length_map,List.length_map,h.len]) fun j x d h1 h2=>?_
 rw [List.getElem?_map] at h1 h2
 obtain ⟨q,hq,rfl⟩:=Option.map_eq_some_iff.mp h1
 obtain ⟨p,hp,rfl⟩:=Option.map_eq_some_iff.mp h2
 obtain ⟨p',hp',e'⟩:=h.get hq
 rw [hp] at hp'
 cases hp'
 exact xpj e'
theorem PtsL.pick {H:Hp}:∀ {ps:List Pt} {ys:List V},ys.length=ps.length→(∀ (j:Nat) (y:V) (p:Pt),ys[j]?=some y→ps[j]?=some p→∃ q,y=.ref q∧H q=some (.tup (.str p.nm :: ptV p)))→∃ rs:List Addr,ys=rs.map V.ref∧PtsL H ps rs
 | [],[],_,_=>⟨[],rfl,.nil⟩
 | [],_ :: _,h,_=>by cases h
 | _ :: _,[],h,_=>by cases h
 | s :: ss,y :: ys,h,k=>by
  obtain ⟨q,e,hq⟩:=k 0 y s rfl rfl
  obtain ⟨rs,e2,r⟩:=PtsL.pick (ps:=ss) (ys:=ys) (by simpa using h) fun j y s h1 h2=>k (j + 1) y s (by simpa using h1) (by simpa using h2)
  exact ⟨q :: rs,by rw [e,e2]; rfl,.cons hq r⟩
section
variable {P:Program} {w:World} {K:PySem.W.Frag} {mg:Str→Option Value} {base:Heap} {t:Adr}
end
end S22
set_option maxRecDepth 100000
set_option maxHeartbeats 4000000
namespace S22
open PySem L2 XL PyProof.Rows
def hasN (ps:List Pt) (d:DV):Bool:=match d with
 | .str s=>isNm s && ps.any fun p=>decide (p.nm=s)
 | _=>false
theorem xht {ps:List Pt} {d:DV} (h:hasN ps d=true):∃ s pt,d=.str s∧isNm s=true∧ps.find? (fun p=>decide (p.nm=s))=some pt∧pt ∈ ps∧pt.nm=s:=by
 cases d with
 | str s =>
  change (isNm s && ps.any fun p=>decide (p.nm=s))=true at h
  rw [Bool.and_eq_true,List.any_eq_true] at h
  obtain ⟨h1,p,hp,e⟩:=h
  cases z:ps.find? (fun p=>decide (p.nm=s)) with
  | none=>exact absurd e (List.find?_eq_none.mp z p hp)
  | some pt=>exact ⟨s,pt,rfl,h1,z,List.mem_of_find?_eq_some z,by simpa using List.find?_some z⟩
 | _=>cases h
def xck (pw ph:Int) (dx dy:DV) (x y:V):Option Er:=if xw dx 1 pw && xw dy 1 ph then none else some (.noCell x y)
def xa4 (ps:List Pt) (nm:Str) (x y:Int):Option Er:=match ps.find? (fun p=>decide (p.nm≠nm) && decide (p.x=x)) with
 | some p=>some (.sameColumn (.str p.nm))
 | none=>match ps.find? (fun p=>decide (p.nm≠nm) && decide (p.y=y)) with
  | some p=>some (.sameRow (.str p.nm))
  | none=>none
theorem xe9 {ps:List Pt} {nm:Str} {x y:Int} (h:xa4 ps nm x y=none):∀ p ∈ ps,p.nm≠nm→p.x≠x∧p.y≠y:=by
 unfold xa4 at h
 cases z:ps.find? (fun p=>decide (p.nm≠nm) && decide (p.x=x)) with
 | some p=>rw [z] at h; cases h
 | none =>
  rw [z] at h
  dsimp only at h
  cases z2:ps.find? (fun p=>decide (p.nm≠nm) && decide (p.y=y)) with
  | some p=>rw [z2] at h; cases h
  | none =>
   intro p hp hn
   have a:=List.find?_eq_none.mp z p hp
   have b:=List.find?_eq_none.mp z2 p hp
   simp [hn] at a b
   exact ⟨a,b⟩
theorem xeh {α:Type} {f:α→Bool}:∀ {l:List α} {j:Nat} {p:α},l[j]?=some p→f p=true→(∀ (k:Nat) (p':α),k < j→l[k]?=some p'→f p'=false)→l.find? f=some p
 | [],_,_,h,_,_=>by simp at h
 | a :: l,0,p,h,fp,_=>by
  simp at h
  subst h
  rw [List.find?_cons_of_pos fp]
 | a :: l,j + 1,p,h,fp,no=>by
  rw [List.find?_cons_of_neg (by rw [no 0 a (Nat.succ_pos _) rfl]; decide)]
  exact xeh (by simpa using h) fp fun k p' hk hp'=>no (k + 1) p' (by omega) (by simpa using hp')
theorem xci {α:Type} {p f:α→Bool}:∀ l:List α,(l.filter p).find? f=l.find? fun a=>p a && f a
 | []=>rfl
 | a :: l=>by
  cases h:p a with
  | true =>
   rw [List.filter_cons_of_pos h,List.find?_cons,List.find?_cons,xci l,h,Bool.true_and]
  | false =>
   rw [List.filter_cons_of_neg (by rw [h]; decide),List.find?_cons,xci l,h,Bool.false_and]
def xpy (t:Adr):Sp:=fun vs H Q E=>∃ (a dp do_:Addr) (pw ph:Int) (ps:List Pt) (x y:V) (dx dy:DV),vs=[.ref a,x,y]∧Pic t H a dp do_ pw ph ps∧Thg H x dx∧Thg H y dy∧Outs t H (xck pw ph dx dy x y) E (Q .non H)
def xpq (t:Adr):Sp:=fun vs H Q E=>∃ (a dp do_:Addr) (pw ph:Int) (ps:List Pt) (nm:Str) (x y:Int),vs=[.ref a,.str nm,.int x,.int y]∧Pic t H a dp do_ pw ph ps∧Outs t H (xa4 ps nm x y) E (∀ H',Same H H'→Q .non H')
section
variable {P:Program} {w:World} {K:PySem.W.Frag} {mg:Str→Option Value} {base:Heap} {t:Adr}
theorem okT_b (T:Txt w K mg t):FnOk true P w K mg base (CXo P w) 3 t.f_b t.d_b ["self", "x", "y"] (xpy t):=by
 refine T.F_b.okx (k:=2) sc_b (fun vs H Q E h=>?_) (fun cdv A outer s H vs Q E hr h=>?_)
 ·obtain ⟨a,dp,do_,pw,ph,ps,x,y,dx,dy,rfl,_⟩:=h
  rfl
 ·obtain ⟨a,dp,do_,pw,ph,ps,x,y,dx,dy,rfl,h⟩:=h
  refine ⟨_,xn (xab (PW.pt (xbv (xa8 (xav (x8 (okT_u T) (hr.mono (by decide)) rfl T.g_u T.F_u.kp T.b_u .nil xag.pass (xb (pv 1) (xb (xk) (xb (xbi (pv 0) rfl) (xg))))))) (xbj (xa8 (xav (x8 (okT_u T) (hr.mono (by decide)) rfl T.g_u T.F_u.kp T.b_u .nil xag.pass (xb (pv 2) (xb (xk) (xb (xbi (pv 0) rfl) (xg)))))))))) (xn (xby (hr.hd rfl) xag (xb5 T.k_af (ok_z T) (hr.mono (by decide)) rfl T.g_af T.b_z .nil (xb (pv 1) (xb (pv 2) (xg)))))) (xt)),?_⟩
  obtain ⟨pic,tx,ty,hE,q⟩:=h
  obtain ⟨⟨dx0,hp⟩,_⟩:=id pic
  refine ⟨_,rfl,_,rfl,a,_,_,_,_,rfl,hp,T.c_t,T.n_bf,lkW,x,dx,1,pw,rfl,tx,_,rfl,?_⟩
  cases wx:xw dx 1 pw with
  | false =>
   have oo:xck pw ph dx dy x y=some (.noCell x y):=by unfold xck; rw [wx]; rfl
   exact iteT (iteT ⟨_,rfl,_,rfl,(by show 2≤1000; decide),fun e he=>⟨e,_,_,rfl,xf,fun dx hdx=>⟨rfl,e,t.C_af,some dx,rfl,xct hdx,T.mk_af,hE (.noCell _ _) (oo) e _ (xcu rfl rfl he hdx)⟩⟩⟩)
  | true =>
   refine iteF ⟨_,rfl,_,rfl,a,_,_,_,_,rfl,hp,T.c_t,T.n_a1,lkH,y,dy,1,ph,rfl,ty,_,rfl,?_⟩
   cases wy:xw dy 1 ph with
   | false =>
    have oo:xck pw ph dx dy x y=some (.noCell x y):=by unfold xck; rw [wx,wy]; rfl
    exact iteT ⟨_,rfl,_,rfl,(by show 2≤1000; decide),fun e he=>⟨e,_,_,rfl,xf,fun dx hdx=>⟨rfl,e,t.C_af,some dx,rfl,xct hdx,T.mk_af,hE (.noCell _ _) (oo) e _ (xcu rfl rfl he hdx)⟩⟩⟩
   | true=>exact iteF (q (by unfold xck; rw [wx,wy]; rfl))
theorem okT_a (T:Txt w K mg t):FnOk true P w K mg base (CXo P w) 3 t.f_a t.d_a ["self", "name", "x", "y"] (xpq t):=by
 refine T.F_a.okx (k:=2) sc_a (fun vs H Q E h=>?_) (fun cdv A outer s H vs Q E hr h=>?_)
 ·obtain ⟨a,dp,do_,pw,ph,ps,nm,x,y,rfl,_⟩:=h
  rfl
 ·obtain ⟨a,dp,do_,pw,ph,ps,nm,x,y,rfl,h⟩:=h
  refine ⟨_,xh (xdt rfl (xcw (zs:=["other"]) (ys:=["name"]) (fr:=[1]) (N0:=["self", "name", "x", "y", "others", "other"]) (sc0:=xm s_a) (by decide +kernel) rfl rfl rfl) (xba (xe2 (pv 0) T.c_t T.m_f (ok_f T) (hr.mono (by decide)) T.b_f .nil xz)) (fun _ _ _ _ _ ow nd=>x0 (i:=0) nd rfl (Or.inl (ow _ (by simp))) (Or.inr (ow _ (by simp)))) (xc2 (by decide)) (fun _ _ _ _ _=>xmi (xu xej (xan (r:=rIxT K) xbf (pv 0) (xk) (fun _ _=>rfl)) (pv 1) (xac _))) (fun _ _ _ _ _=>pv 0) (j:=4) rfl (Or.inl rfl))
   (xh (xb3 PassesOwn.leaving rfl (xba (pv 4)) (x0 (i:=5) sc_a.nd rfl (Or.inl rfl)) (xn (xab (xu xa9 (xan xbf (pv 5) (xk) (fun _ _=>rfl)) (pv 2) (xac _)) (xn (xby (hr.hd rfl) xag (xb5 T.k_e (ok_h T) (hr.mono (by decide)) rfl T.g_e T.b_h .nil (xb (xan xbf (pv 5) (xk) (fun _ _=>rfl)) (xg))))) (xt))))
   (xn (xb3 PassesOwn.leaving rfl (xba (pv 4)) (x0 (i:=5) sc_a.nd rfl (Or.inl rfl)) (xn (xab (xu xa9 (xan xbf (pv 5) (xk) (fun _ _=>rfl)) (pv 3) (xac _)) (xn (xby (hr.hd rfl) xag (xb5 T.k_w (ok_r T) (hr.mono (by decide)) rfl T.g_w T.b_r .nil (xb (xan xbf (pv 5) (xk) (fun _ _=>rfl)) (xg))))) (xt)))))),?_⟩
  obtain ⟨pic,hE,q⟩:=h
  obtain ⟨⟨dx0,hp⟩,_⟩:=id pic
  have ple:=pic.len
  refine ⟨_,rfl,a,dx0,_,rfl,hp,xcj (by decide +kernel),a,dp,do_,pw,ph,ps,rfl,pic,fun H1 l1 qs s1 hl1 pt1=>⟨l1,rfl,⟨_,SqL.of hl1⟩,fun l hl=>?_⟩⟩
  have ql:=pt1.len
  refine xfd (SqL.of hl1) (by rw [List.length_map]; exact Nat.lt_trans (by omega:qs.length < 13) (by decide)) hl (fun i=>((ps[i]?).map fun p=>decide (p.nm≠nm)).getD false) (fun i y H=>∃ p q,ps[i]?=some p∧y=.ref q∧H q=some (.tup (.str p.nm :: ptV p))) (fun i y H H' tp ⟨p,q,e1,e2,e3⟩=>⟨p,q,e1,e2,tp _ _ e3⟩) (fun i z H2 hz s2 N M hN hM=>?_) (fun ys H2 s2 el2 ly f2=>?_)
  ·rw [List.getElem?_map] at hz
   obtain ⟨o,ho,rfl⟩:=Option.map_eq_some_iff.mp hz
   obtain ⟨p,hpp,ep⟩:=pt1.get ho
   refine ⟨_,rfl,o,_,0,_,rfl,rfl,SqT.of (s2 _ _ ep),rfl,_,rfl,rfl,_,rfl,ite2 (fun c=>?_) (fun c=>?_)⟩
   ·have cn:p.nm≠nm:=fun z=>by
     rw [z] at c
     simp at c
    exact ⟨_,rfl,hN _ _ (Same.refl _) (by rw [hpp]; simpa using cn) ⟨p,o,hpp,rfl,s2 _ _ ep⟩⟩
   ·have cn:p.nm=nm:=by
     by_cases z:p.nm=nm
     ·exact z
     ·exact absurd (by simpa using fun e=>z e) c
    exact hM _ (Same.refl _) (by rw [hpp]; simpa using cn)
  have fi:=xmz (fun p:Pt=>decide (p.nm≠nm)) (as:=ps) (p:=fun i=>((ps[i]?).map fun p=>decide (p.nm≠nm)).getD false) (fun i p hp=>by rw [hp]; rfl)
  rw [List.length_map,ql] at ly f2
  obtain ⟨os,eo,ptO⟩:=PtsL.pick (H:=H2) (ps:=ps.filter fun p=>decide (p.nm≠nm)) (ys:=ys) (by rw [ly,fi.1]) (fun j y p hy hp=>by
   have hj:j < ((List.range ps.length).filter fun i=>((ps[i]?).map fun p=>decide (p.nm≠nm)).getD false).length:=by
    rw [← ly]
    exact (List.getElem?_eq_some_iff.mp hy).1
   obtain ⟨p',q',h1,h2,h3⟩:=f2 j y _ hy (List.getElem?_eq_getElem hj)
   rw [fi.2 j _ (List.getElem?_eq_getElem hj),hp] at h1
   cases h1
   exact ⟨q',h2,h3⟩)
  subst eo
  have s02:=s1.trans s2
  have rs1:∀ (f:Pt→Bool) (j:Nat) (p:Pt),(ps.filter fun p=>decide (p.nm≠nm))[j]?=some p→f p=true→(∀ (k:Nat) (p':Pt),k < j→(ps.filter fun p=>decide (p.nm≠nm))[k]?=some p'→f p'=false)→ps.find? (fun p=>decide (p.nm≠nm) && f p)=some p:=fun f j p hp fp no=>by
   rw [← xci]
   exact xeh hp fp no
  have rs0:∀ (f:Pt→Bool),(∀ (k:Nat) (p':Pt),(ps.filter fun p=>decide (p.nm≠nm))[k]?=some p'→f p'=false)→ps.find? (fun p=>decide (p.nm≠nm) && f p)=none:=fun f no=>by
   rw [← xci,List.find?_eq_none]
   intro p hp
   obtain ⟨k,hk⟩:=List.getElem?_of_mem hp
   rw [no k p hk]
   decide
  refine ⟨_,rfl,l,rfl,⟨_,SqL.of el2⟩,xcg (xs:=os.map V.ref) (Pv:=fun i σ H3=>∃ v5:Option V,σ=[some (.ref a),some (.str nm),some (.int x),some (.int y),some (.ref l),v5]∧H2=H3∧∀ (k:Nat) (p':Pt),k < i→(ps.filter fun p=>decide (p.nm≠nm))[k]?=some p'→decide (p'.x=x)=false) ⟨_,rfl,rfl,fun k p' h=>absurd h (Nat.not_lt_zero _)⟩ (fun _ _ _ _ ⟨_,_,z,_⟩=>by rw [← z]; exact SqL.of el2) ?_ ?_⟩
  ·rintro i v σ _ hv ⟨v5,rfl,rfl,no⟩
   rw [List.getElem?_map] at hv
   obtain ⟨o,ho,rfl⟩:=Option.map_eq_some_iff.mp hv
   obtain ⟨p,hpp,ep⟩:=ptO.get ho
   refine ⟨_,rfl,o,_,1,_,rfl,rfl,SqT.of ep,rfl,_,rfl,rfl,_,rfl,?_⟩
   by_cases c:p.x=x
   ·have oo:xa4 ps nm x y=some (.sameColumn (.str p.nm)):=by
     unfold xa4
     rw [rs1 (fun p=>decide (p.x=x)) i p hpp (decide_eq_true c) no]
    refine ifP (decide_eq_true (by rw [c])) ⟨_,rfl,o,_,0,_,rfl,rfl,SqT.of ep,rfl,(by show 1≤1000; decide),fun e he=>⟨e,_,rfl,xf,fun dx hdx=>⟨rfl,e,t.C_e,some dx,rfl,xf,T.mk_e,hE _ oo e _ (xbb.pre s02 (xat rfl rfl he hdx))⟩⟩⟩
   ·refine ifN (decide_eq_false fun z=>c (V.int.inj z)) ⟨_,rfl,rfl,fun k p' hk hp'=>?_⟩
    by_cases d:k=i
    ·subst d
     rw [hpp] at hp'
     cases hp'
     exact decide_eq_false c
    ·exact no k p' (by omega) hp'
  ·rintro σ _ ⟨v5,rfl,rfl,noX⟩
   have ol:=ptO.len
   have noX':∀ (k:Nat) (p':Pt),(ps.filter fun p=>decide (p.nm≠nm))[k]?=some p'→decide (p'.x=x)=false:=fun k p' hk=>noX k p' (by rw [List.length_map,ol]; exact (List.getElem?_eq_some_iff.mp hk).1) hk
   have e1:=rs0 (fun p=>decide (p.x=x)) noX'
   refine ⟨_,rfl,l,rfl,⟨_,SqL.of el2⟩,xcg (xs:=os.map V.ref) (Pv:=fun i σ H3=>∃ v5:Option V,σ=[some (.ref a),some (.str nm),some (.int x),some (.int y),some (.ref l),v5]∧H2=H3∧∀ (k:Nat) (p':Pt),k < i→(ps.filter fun p=>decide (p.nm≠nm))[k]?=some p'→decide (p'.y=y)=false) ⟨_,rfl,rfl,fun k p' h=>absurd h (Nat.not_lt_zero _)⟩ (fun _ _ _ _ ⟨_,_,z,_⟩=>by rw [← z]; exact SqL.of el2) ?_ ?_⟩
   ·rintro i v σ _ hv ⟨v5,rfl,rfl,no⟩
    rw [List.getElem?_map] at hv
    obtain ⟨o,ho,rfl⟩:=Option.map_eq_some_iff.mp hv
    obtain ⟨p,hpp,ep⟩:=ptO.get ho
    refine ⟨_,rfl,o,_,2,_,rfl,rfl,SqT.of ep,rfl,_,rfl,rfl,_,rfl,?_⟩
    by_cases c:p.y=y
    ·have oo:xa4 ps nm x y=some (.sameRow (.str p.nm)):=by
      unfold xa4
      rw [e1,rs1 (fun p=>decide (p.y=y)) i p hpp (decide_eq_true c) no]
     refine ifP (decide_eq_true (by rw [c])) ⟨_,rfl,o,_,0,_,rfl,rfl,SqT.of ep,rfl,(by show 1≤1000; decide),fun e he=>⟨e,_,rfl,xf,fun dx hdx=>⟨rfl,e,t.C_w,some dx,rfl,xf,T.mk_w,hE _ oo e _ (xbb.pre s02 (xat rfl rfl he hdx))⟩⟩⟩
    ·refine ifN (decide_eq_false fun z=>c (V.int.inj z)) ⟨_,rfl,rfl,fun k p' hk hp'=>?_⟩
     by_cases d:k=i
     ·subst d
      rw [hpp] at hp'
      cases hp'
      exact decide_eq_false c
     ·exact no k p' (by omega) hp'
   ·rintro σ _ ⟨v5,rfl,rfl,noY⟩
    have e2:=rs0 (fun p=>decide (p.y=y)) fun k p' hk=>noY k p' (by rw [List.length_map,ol]; exact (List.getElem?_eq_some_iff.mp hk).1) hk
    exact q (by unfold xa4; rw [e1,e2]) _ s02
end
end S22
set_option maxRecDepth 100000
set_option maxHeartbeats 4000000
namespace S22
open PySem L2 XL PyProof.Rows
def mirD:List (Key × V):=[(Sum.inr "left",V.str "right"),(Sum.inr "right",V.str "left"),(Sum.inr "both",V.str "both")]
def xa1:DV→Bool
 | .str s=>(valV mirD (Sum.inr s)).isSome
 | _=>false
theorem xd2 {d:DV} (h:xa1 d=true):∃ s,d=.str s∧(s="left"∨s="right"∨s="both"):=by
 cases d with
 | str s =>
  refine ⟨s,rfl,?_⟩
  change (valV mirD (Sum.inr s)).isSome=true at h
  unfold mirD at h
  by_cases c1:s="left"
  ·exact .inl c1
  ·rw [xbr (fun z=>c1 (Sum.inr.inj z).symm)] at h
   by_cases c2:s="right"
   ·exact .inr (.inl c2)
   ·rw [xbr (fun z=>c2 (Sum.inr.inj z).symm)] at h
    by_cases c3:s="both"
    ·exact .inr (.inr c3)
    ·rw [xbr (fun z=>c3 (Sum.inr.inj z).symm)] at h
     cases h
 | _=>cases h
def xir:DV→Str
 | .str s=>s
 | _=>""
def xak (pw ph:Int) (ps:List Pt) (dn dx dy ds dl dh:DV) (n x y s lo hi:V):Option Er :=
 if xgr dn then
  if xw dx 1 pw && xw dy 1 ph then
   if xa1 ds then
    if xw dl 1 ph && xw dh (intD dl) ph then
     if hasN ps dn then some (.oldPoint n) else if 12≤ps.length then some .tooMany else xa4 ps (xir dn) (intD dx) (intD dy)
    else some (.noWindow lo hi)
   else some (.noSides s)
  else some (.noCell x y)
 else some (.noName n)
def xog (t:Adr):Sp:=fun vs H Q E=>∃ (a dp do_:Addr) (pw ph:Int) (ps:List Pt) (n x y s lo hv hi:V) (dn dx dy ds dl dv dh:DV),vs=[.ref a,n,x,y,s,lo,hv]∧Pic t H a dp do_ pw ph ps∧Thg H n dn∧Thg H x dx∧Thg H y dy∧Thg H s ds∧Thg H lo dl∧Thg H hv dv ∧
 ((hv=.non∧hi=.int ph∧dh=.int ph)∨(hv≠.non∧hi=hv∧dh=dv)) ∧
 Outs t H (xak pw ph ps dn dx dy ds dl dh n x y s lo hi) E (∀ nm i j sd l h H',dn=.str nm→dx=.int i→dy=.int j→ds=.str sd→dl=.int l→dh=.int h→(∀ b u,b≠dp→H b=some u→H' b=some u)→Pic t H' a dp do_ pw ph (ps ++ [⟨nm,i,j,sd,l,h⟩])→PtOk pw ph ⟨nm,i,j,sd,l,h⟩→(∀ p ∈ ps,p.nm≠nm∧p.x≠i∧p.y≠j)→ps.length < 12→Q .non H')
section
variable {P:Program} {w:World} {K:PySem.W.Frag} {mg:Str→Option Value} {base:Heap} {t:Adr}
theorem okT_g (T:Txt w K mg t):FnOk true P w K mg base (CXo P w) 4 t.f_g t.d_g ["self", "name", "x", "y", "sides", "low", "high"] (xog t):=by
 refine T.F_g.okx (k:=3) sc_g (fun vs H Q E h=>?_) (fun cdv A outer s H vs Q E hr h=>?_)
 ·obtain ⟨a,dp,do_,pw,ph,ps,n,x,y,s',lo,hv,hi,dn,dx,dy,ds,dl,dv,dh,rfl,_⟩:=h
  rfl
 ·obtain ⟨a,dp,do_,pw,ph,ps,n,x,y,s',lo,hv,hi,dn,dx,dy,ds,dl,dv,dh,rfl,h⟩:=h
  refine ⟨_,xh (xah (i:=7) sc_g.nd rfl (Or.inl rfl) (xb4 (xu xc0 (pv 6) (xaj) (xac _)) (xbi (pv 0) rfl) (pv 6)))
   (xh (xab (xa8 (xav (x8 (okT_ax T) (hr.mono (by decide)) rfl T.g_ax T.F_ax.kp T.b_ax .nil xag.pass (xb (pv 1) (xg))))) (xn (xby (hr.hd rfl) xag (xb5 T.k_ah (ok_y T) (hr.mono (by decide)) rfl T.g_ah T.b_y .nil (xb (pv 1) (xg))))) (xt))
   (xh (xbq (xdg (pv 0) T.c_t T.m_b (okT_b T) (hr.mono (by decide)) T.b_b .nil xag.pass (xb (pv 2) (xb (pv 3) (xg)))))
   (xh (xab (PW.pt (xbv (xa8 (xav (x6 xao rfl T.n_isinstance boot_isinstance (xb (pv 4) (xb (xbz (v:=.ty "str") rfl T.n_str boot_str rfl) (xg)))))) (xbj (xgt (xjn (pv 4) rfl T.g_av T.D_av))))) (xn (xby (hr.hd rfl) xag (xb5 T.k_m (ok_q T) (hr.mono (by decide)) rfl T.g_m T.b_q .nil (xb (pv 4) (xg))))) (xt))
   (xh (xab (PW.pt (xbv (xa8 (xav (x8 (okT_u T) (hr.mono (by decide)) rfl T.g_u T.F_u.kp T.b_u .nil xag.pass (xb (pv 5) (xb (xk) (xb (xbi (pv 0) rfl) (xg))))))) (xbj (xa8 (xav (x8 (okT_u T) (hr.mono (by decide)) rfl T.g_u T.F_u.kp T.b_u .nil xag.pass (xb (pv 7) (xb (pv 5) (xb (xbi (pv 0) rfl) (xg)))))))))) (xn (xby (hr.hd rfl) xag (xb5 T.k_j (ok_k T) (hr.mono (by decide)) rfl T.g_j T.b_k .nil (xb (pv 5) (xb (pv 7) (xg)))))) (xt))
   (xh (xab (xgt (xko (xgn hr) (pv 1) (xbi (pv 0) rfl))) (xn (xby (hr.hd rfl) xag (xb5 T.k_n (ok_l T) (hr.mono (by decide)) rfl T.g_n T.b_l .nil (xb (pv 1) (xg))))) (xt))
   (xh (xab (xu xpl (x6 xjb rfl T.n_len boot_len (xb (xbi (pv 0) rfl) (xg))) (xbd (v:=.int 12) rfl T.v_b1.choose_spec ⟨_,rfl⟩) (xac _)) (xn (xby (hr.hd rfl) xag (xm2 T.mk_v T.ns_v T.ns_c7 rfl T.g_v))) (xt))
   (xh (xbq (xdg (pv 0) T.c_t T.m_a (okT_a T) (hr.mono (by decide)) T.b_a .nil xag.pass (xb (pv 1) (xb (pv 2) (xb (pv 3) (xg))))))
   (xn (xh6 (xgn hr) (xbi (pv 0) rfl) (pv 1) (xaf (xb (pv 2) (xb (pv 3) (xb (pv 4) (xb (pv 5) (xb (pv 7) (xg))))))) rfl))))))))),?_⟩
  obtain ⟨pic,tn,tx,ty,ts,tl,tv,hhv,hE,q⟩:=h
  obtain ⟨⟨dx0,hp⟩,⟨kvs,hk,pl⟩,_⟩:=id pic
  have ple:=pic.len
  rcases hhv with ⟨rfl,rfl,rfl⟩ | ⟨nn,rfl,rfl⟩
  ·have thi:Thg H (.int ph) (.int ph):=.int _
   refine ⟨_,rfl,rfl,_,rfl,ifP (by rfl) ⟨_,rfl,a,_,_,_,_,rfl,hp,T.c_t,T.n_a1,lkH,?_⟩⟩
   refine ⟨_,rfl,n,dn,rfl,tn,_,rfl,?_⟩
   cases hn:xgr dn with
   | false =>
    have oo:xak pw ph ps dn dx dy ds dl (.int ph) n x y s' lo (.int ph)=some (.noName n):=by unfold xak; rw [hn]; rfl
    exact iteT ⟨_,rfl,(by show 1≤1000; decide),fun e he=>⟨e,_,rfl,xf,fun dx hdx=>⟨rfl,e,t.C_ah,some dx,rfl,xf,T.mk_ah,hE (.noName _) (oo) e _ (xat rfl rfl he hdx)⟩⟩⟩
   | true =>
    refine iteF ⟨_,rfl,a,dx0,_,rfl,hp,xcj (by decide +kernel),_,rfl,_,rfl,a,dp,do_,pw,ph,ps,x,y,dx,dy,rfl,pic,tx,ty,?_,fun o1=>?_⟩
    ·intro er her e H' z
     unfold xck at her
     cases y1:(xw dx 1 pw && xw dy 1 ph) with
     | true=>rw [y1] at her; cases her
     | false =>
      rw [y1] at her
      cases her
      exact hE _ (by unfold xak; rw [hn,y1]; rfl) e H' z
    have wc:(xw dx 1 pw && xw dy 1 ph)=true:=by
     cases z:(xw dx 1 pw && xw dy 1 ph) with
     | true=>rfl
     | false=>unfold xck at o1; rw [z] at o1; cases o1
    obtain ⟨wx,wY⟩:=Bool.and_eq_true_iff.mp wc
    obtain ⟨xi,rfl,x1,x2⟩:=xaz wx
    obtain ⟨yi,rfl,y1,y2⟩:=xaz wY
    obtain rfl:=tx.int_of
    obtain rfl:=ty.int_of
    obtain ⟨nm,rfl⟩:∃ nm,dn=.str nm:=by
     cases dn with
     | str s=>exact ⟨s,rfl⟩
     | _=>cases hn
    obtain rfl:=tn.str_of
    have badS:xa1 ds=false→xak pw ph ps (.str nm) (.int xi) (.int yi) ds dl (.int ph) (.str nm) (.int xi) (.int yi) s' lo (.int ph)=some (.noSides s'):=fun e=>by
     unfold xak
     rw [if_pos hn,if_pos wc,if_neg (by rw [e]; decide)]
    cases ts with
    | int i=>exact ⟨_,rfl,_,_,rfl,.inl ⟨_,_,false,.int i,rfl,(by rfl),false,rfl,iteT (iteT ⟨_,rfl,(by show 1≤1000; decide),fun e he=>⟨e,_,rfl,xf,fun dx hdx=>⟨rfl,e,t.C_m,some dx,rfl,xf,T.mk_m,hE (.noSides _) (badS rfl) e _ (xat rfl rfl he hdx)⟩⟩⟩)⟩⟩
    | bl b=>exact ⟨_,rfl,_,_,rfl,.inl ⟨_,_,false,.bl b,rfl,(by rfl),false,rfl,iteT (iteT ⟨_,rfl,(by show 1≤1000; decide),fun e he=>⟨e,_,rfl,xf,fun dx hdx=>⟨rfl,e,t.C_m,some dx,rfl,xf,T.mk_m,hE (.noSides _) (badS rfl) e _ (xat rfl rfl he hdx)⟩⟩⟩)⟩⟩
    | non=>exact ⟨_,rfl,_,_,rfl,.inl ⟨_,_,false,.non,rfl,(by rfl),false,rfl,iteT (iteT ⟨_,rfl,(by show 1≤1000; decide),fun e he=>⟨e,_,rfl,xf,fun dx hdx=>⟨rfl,e,t.C_m,some dx,rfl,xf,T.mk_m,hE (.noSides _) (badS rfl) e _ (xat rfl rfl he hdx)⟩⟩⟩)⟩⟩
    | lst hq=>exact ⟨_,rfl,_,_,rfl,.inl ⟨_,_,false,.lst hq,rfl,(by rfl),false,rfl,iteT (iteT ⟨_,rfl,(by show 1≤1000; decide),fun e he=>⟨e,_,rfl,xf,fun dx hdx=>⟨rfl,e,t.C_m,some dx,rfl,xf,T.mk_m,hE (.noSides _) (badS rfl) e _ (xat rfl rfl he hdx)⟩⟩⟩)⟩⟩
    | tup hq=>exact ⟨_,rfl,_,_,rfl,.inl ⟨_,_,false,.tup hq,rfl,(by rfl),false,rfl,iteT (iteT ⟨_,rfl,(by show 1≤1000; decide),fun e he=>⟨e,_,rfl,xf,fun dx hdx=>⟨rfl,e,t.C_m,some dx,rfl,xf,T.mk_m,hE (.noSides _) (badS rfl) e _ (xat rfl rfl he hdx)⟩⟩⟩)⟩⟩
    | str sd =>
     refine ⟨_,rfl,_,_,rfl,.inl ⟨_,_,true,.str _,rfl,xbl,true,rfl,iteF ?_⟩⟩
     cases hs:xa1 (.str sd) with
     | false =>
      have hs':(valV ([(Sum.inr "left",V.str "right"),(Sum.inr "right",V.str "left"),(Sum.inr "both",V.str "both")]:List (Key × V)) (Sum.inr sd)).isSome=false:=hs
      exact ⟨_,rfl,.inr sd,rfl,true,(by rw [hs']; rfl),iteT ⟨_,rfl,(by show 1≤1000; decide),fun e he=>⟨e,_,rfl,xf,fun dx hdx=>⟨rfl,e,t.C_m,some dx,rfl,xf,T.mk_m,hE (.noSides _) (badS hs) e _ (xat rfl rfl he hdx)⟩⟩⟩⟩
     | true =>
      have hs':(valV ([(Sum.inr "left",V.str "right"),(Sum.inr "right",V.str "left"),(Sum.inr "both",V.str "both")]:List (Key × V)) (Sum.inr sd)).isSome=true:=hs
      refine ⟨_,rfl,.inr sd,rfl,false,(by rw [hs']; rfl),iteF ?_⟩
      have badW:(xw dl 1 ph && xw (.int ph) (intD dl) ph)=false→xak pw ph ps (.str nm) (.int xi) (.int yi) (.str sd) dl (.int ph) (.str nm) (.int xi) (.int yi) (.str sd) lo (.int ph)=some (.noWindow lo (.int ph)):=fun e=>by
       unfold xak
       rw [if_pos hn,if_pos wc,if_pos hs,if_neg (by rw [e]; decide)]
      refine ⟨_,rfl,_,rfl,a,_,_,_,_,rfl,hp,T.c_t,T.n_a1,lkH,lo,dl,1,ph,rfl,tl,_,rfl,?_⟩
      cases wl:xw dl 1 ph with
      | false =>
       have bb:(xw dl 1 ph && xw (.int ph) (intD dl) ph)=false:=by rw [wl]; rfl
       exact iteT (iteT ⟨_,rfl,_,rfl,(by show 2≤1000; decide),fun e he=>⟨e,_,_,rfl,xf,fun dx hdx=>⟨rfl,e,t.C_j,some dx,rfl,xct hdx,T.mk_j,hE (.noWindow _ _) (badW bb) e _ (xcu rfl rfl he hdx)⟩⟩⟩)
      | true =>
       obtain ⟨li,rfl,l1,l2⟩:=xaz wl
       obtain rfl:=tl.int_of
       refine iteF ⟨_,rfl,_,rfl,_,rfl,a,_,_,_,_,rfl,hp,T.c_t,T.n_a1,lkH,(.int ph),(.int ph),li,ph,rfl,thi,_,rfl,?_⟩
       cases wh:xw (.int ph) li ph with
       | false =>
        have bb:(xw (.int li) 1 ph && xw (.int ph) (intD (.int li)) ph)=false:=by rw [wl]; exact wh
        exact iteT ⟨_,rfl,_,rfl,(by show 2≤1000; decide),fun e he=>⟨e,_,_,rfl,xf,fun dx hdx=>⟨rfl,e,t.C_j,some dx,rfl,xct hdx,T.mk_j,hE (.noWindow _ _) (badW bb) e _ (xcu rfl rfl he hdx)⟩⟩⟩
       | true =>
        have wlh:(xw (.int li) 1 ph && xw (.int ph) (intD (.int li)) ph)=true:=by rw [wl]; exact wh
        obtain ⟨hi0,eh,h1,h2⟩:=xaz wh
        have eHI:((.int ph):V)=.int hi0:=by
         have z:=thi
         rw [eh] at z
         exact z.int_of
        refine iteF ?_
        cases hh:hasN ps (.str nm) with
        | true =>
         have oo:xak pw ph ps (.str nm) (.int xi) (.int yi) (.str sd) (.int li) (.int ph) (.str nm) (.int xi) (.int yi) (.str sd) (.int li) (.int ph)=some (.oldPoint (.str nm)):=by
          unfold xak
          rw [if_pos hn,if_pos wc,if_pos hs,if_pos wlh,if_pos hh]
         obtain ⟨s2,pt,e2,_,hf,_⟩:=xht hh
         cases e2
         obtain ⟨q0,e0,_⟩:=pl.find hf
         exact ⟨_,rfl,_,rfl,a,_,_,_,_,rfl,hp,T.c_t,T.n_a0,lkP,dp,some (.ref q0),rfl,(by rw [← e0]; exact DGet.k (k:=.inr nm) hk),true,rfl,iteT ⟨_,rfl,(by show 1≤1000; decide),fun e he=>⟨e,_,rfl,xf,fun dx hdx=>⟨rfl,e,t.C_n,some dx,rfl,xf,T.mk_n,hE (.oldPoint _) (oo) e _ (xat rfl rfl he hdx)⟩⟩⟩⟩
        | false =>
         have noN:∀ p ∈ ps,p.nm≠nm:=fun p hp0 e=>by
          have z:hasN ps (.str nm)=true:=by
           change (isNm nm && ps.any fun p=>decide (p.nm=nm))=true
           rw [show isNm nm=true from hn,Bool.true_and]
           exact List.any_eq_true.mpr ⟨p,hp0,decide_eq_true e⟩
          rw [hh] at z
          cases z
         refine ⟨_,rfl,_,rfl,a,_,_,_,_,rfl,hp,T.c_t,T.n_a0,lkP,dp,none,rfl,(by rw [← pl.no (nm:=nm) noN]; exact DGet.k (k:=.inr nm) hk),false,rfl,iteF ?_⟩
         have hh':¬ (hasN ps (.str nm)=true):=by rw [hh]; decide
         have kl:=pl.len
         refine ⟨_,rfl,a,_,_,_,_,rfl,hp,T.c_t,T.n_a0,lkP,dp,kvs,rfl,hk,_,_,rfl,rfl,_,rfl,?_⟩
         by_cases c12:12≤ps.length
         ·have oo:xak pw ph ps (.str nm) (.int xi) (.int yi) (.str sd) (.int li) (.int ph) (.str nm) (.int xi) (.int yi) (.str sd) (.int li) (.int ph)=some .tooMany:=by
           unfold xak
           rw [if_pos hn,if_pos wc,if_pos hs,if_pos wlh,if_neg hh',if_pos c12]
          exact ifP (decide_eq_true (by omega)) fun e he=>⟨e,t.C_v,none,rfl,xf,T.mk_v,hE (.tooMany) (oo) e _ (xh0 rfl rfl he)⟩
         ·have om:xak pw ph ps (.str nm) (.int xi) (.int yi) (.str sd) (.int li) (.int ph) (.str nm) (.int xi) (.int yi) (.str sd) (.int li) (.int ph)=xa4 ps nm xi yi:=by
           show _=xa4 ps (xir (.str nm)) (intD (.int xi)) (intD (.int yi))
           unfold xak
           rw [if_pos hn,if_pos wc,if_pos hs,if_pos wlh,if_neg hh',if_neg c12]
          refine ifN (decide_eq_false (by omega)) ?_
          refine ⟨_,rfl,a,dx0,_,rfl,hp,xcj (by decide +kernel),_,rfl,_,rfl,_,rfl,a,dp,do_,pw,ph,ps,nm,xi,yi,rfl,pic,fun er her e H' z=>hE er (om.trans her) e H' z,fun out3 H1 s1=>?_⟩
          have cl:=xe9 out3
          refine ⟨_,rfl,_,rfl,_,rfl,_,rfl,_,rfl,(by show 5≤sizeLine; decide),fun q1 hq1=>?_⟩
          have hp1:upd H1 q1 (.tup [.int xi,.int yi,.str sd,.int li,(.int ph)]) a=some (.ins t.C_t dx0 (picF pw ph dp do_)):=by rw [xj (xo (s1 _ _ hp) hq1)]; exact s1 _ _ hp
          have hk1:upd H1 q1 (.tup [.int xi,.int yi,.str sd,.int li,(.int ph)]) dp=some (.dK kvs):=by rw [xj (xo (s1 _ _ hk) hq1)]; exact s1 _ _ hk
          refine ⟨_,rfl,a,_,_,_,_,rfl,hp1,T.c_t,T.n_a0,lkP,_,rfl,dp,_,rfl,DPut.k (k:=.inr nm) hk1 (Nat.lt_trans (by omega:kvs.length < 12) (by decide)),?_⟩
          rw [xes (.ref q1) (pl.no (nm:=nm) noN)]
          have nq:q1≠dp:=fun z=>by
           subst z
           rw [s1 _ _ hk] at hq1
           cases hq1
          refine q (om.trans out3) nm xi yi sd li hi0 _ rfl rfl rfl rfl rfl eh (fun b u nb e=>?_) ⟨⟨dx0,?_⟩,⟨_,xf,Pl.snoc (p:=⟨nm,xi,yi,sd,li,hi0⟩) (pl.keep (fun b xs e=>?_)) ?_⟩,pic.w1,pic.w2,pic.h1,pic.h2,(by rw [List.length_append]; exact (by omega:ps.length + 1≤12))⟩ ?_ (fun p hp0=>⟨noN p hp0,cl p hp0 (noN p hp0)⟩) (by omega)
          ·rw [xj nb,xj (xo (s1 _ _ e) hq1)]
           exact s1 _ _ e
          ·rw [xj (xbm hp1 hk1 (fun z=>nomatch z))]
           exact hp1
          ·have e':=s1 _ _ e
           rw [xj (xbm e' (s1 _ _ hk) (fun z=>nomatch z)),xj (xo e' hq1)]
           exact e'
          ·rw [xj nq,xf,eHI]
           rfl
          ·obtain ⟨s2,es,hsd⟩:=xd2 hs
           cases es
           exact ⟨hn,x1,x2,y1,y2,hsd,l1,h1,h2⟩
  ·have thi:=tv
   refine ⟨_,rfl,rfl,_,rfl,ifN (decide_eq_false nn) ⟨_,rfl,?_⟩⟩
   refine ⟨_,rfl,n,dn,rfl,tn,_,rfl,?_⟩
   cases hn:xgr dn with
   | false =>
    have oo:xak pw ph ps dn dx dy ds dl dh n x y s' lo hi=some (.noName n):=by unfold xak; rw [hn]; rfl
    exact iteT ⟨_,rfl,(by show 1≤1000; decide),fun e he=>⟨e,_,rfl,xf,fun dx hdx=>⟨rfl,e,t.C_ah,some dx,rfl,xf,T.mk_ah,hE (.noName _) (oo) e _ (xat rfl rfl he hdx)⟩⟩⟩
   | true =>
    refine iteF ⟨_,rfl,a,dx0,_,rfl,hp,xcj (by decide +kernel),_,rfl,_,rfl,a,dp,do_,pw,ph,ps,x,y,dx,dy,rfl,pic,tx,ty,?_,fun o1=>?_⟩
    ·intro er her e H' z
     unfold xck at her
     cases y1:(xw dx 1 pw && xw dy 1 ph) with
     | true=>rw [y1] at her; cases her
     | false =>
      rw [y1] at her
      cases her
      exact hE _ (by unfold xak; rw [hn,y1]; rfl) e H' z
    have wc:(xw dx 1 pw && xw dy 1 ph)=true:=by
     cases z:(xw dx 1 pw && xw dy 1 ph) with
     | true=>rfl
     | false=>unfold xck at o1; rw [z] at o1; cases o1
    obtain ⟨wx,wY⟩:=Bool.and_eq_true_iff.mp wc
    obtain ⟨xi,rfl,x1,x2⟩:=xaz wx
    obtain ⟨yi,rfl,y1,y2⟩:=xaz wY
    obtain rfl:=tx.int_of
    obtain rfl:=ty.int_of
    obtain ⟨nm,rfl⟩:∃ nm,dn=.str nm:=by
     cases dn with
     | str s=>exact ⟨s,rfl⟩
     | _=>cases hn
    obtain rfl:=tn.str_of
    have badS:xa1 ds=false→xak pw ph ps (.str nm) (.int xi) (.int yi) ds dl dh (.str nm) (.int xi) (.int yi) s' lo hi=some (.noSides s'):=fun e=>by
     unfold xak
     rw [if_pos hn,if_pos wc,if_neg (by rw [e]; decide)]
    cases ts with
    | int i=>exact ⟨_,rfl,_,_,rfl,.inl ⟨_,_,false,.int i,rfl,(by rfl),false,rfl,iteT (iteT ⟨_,rfl,(by show 1≤1000; decide),fun e he=>⟨e,_,rfl,xf,fun dx hdx=>⟨rfl,e,t.C_m,some dx,rfl,xf,T.mk_m,hE (.noSides _) (badS rfl) e _ (xat rfl rfl he hdx)⟩⟩⟩)⟩⟩
    | bl b=>exact ⟨_,rfl,_,_,rfl,.inl ⟨_,_,false,.bl b,rfl,(by rfl),false,rfl,iteT (iteT ⟨_,rfl,(by show 1≤1000; decide),fun e he=>⟨e,_,rfl,xf,fun dx hdx=>⟨rfl,e,t.C_m,some dx,rfl,xf,T.mk_m,hE (.noSides _) (badS rfl) e _ (xat rfl rfl he hdx)⟩⟩⟩)⟩⟩
    | non=>exact ⟨_,rfl,_,_,rfl,.inl ⟨_,_,false,.non,rfl,(by rfl),false,rfl,iteT (iteT ⟨_,rfl,(by show 1≤1000; decide),fun e he=>⟨e,_,rfl,xf,fun dx hdx=>⟨rfl,e,t.C_m,some dx,rfl,xf,T.mk_m,hE (.noSides _) (badS rfl) e _ (xat rfl rfl he hdx)⟩⟩⟩)⟩⟩
    | lst hq=>exact ⟨_,rfl,_,_,rfl,.inl ⟨_,_,false,.lst hq,rfl,(by rfl),false,rfl,iteT (iteT ⟨_,rfl,(by show 1≤1000; decide),fun e he=>⟨e,_,rfl,xf,fun dx hdx=>⟨rfl,e,t.C_m,some dx,rfl,xf,T.mk_m,hE (.noSides _) (badS rfl) e _ (xat rfl rfl he hdx)⟩⟩⟩)⟩⟩
    | tup hq=>exact ⟨_,rfl,_,_,rfl,.inl ⟨_,_,false,.tup hq,rfl,(by rfl),false,rfl,iteT (iteT ⟨_,rfl,(by show 1≤1000; decide),fun e he=>⟨e,_,rfl,xf,fun dx hdx=>⟨rfl,e,t.C_m,some dx,rfl,xf,T.mk_m,hE (.noSides _) (badS rfl) e _ (xat rfl rfl he hdx)⟩⟩⟩)⟩⟩
    | str sd =>
     refine ⟨_,rfl,_,_,rfl,.inl ⟨_,_,true,.str _,rfl,xbl,true,rfl,iteF ?_⟩⟩
     cases hs:xa1 (.str sd) with
     | false =>
      have hs':(valV ([(Sum.inr "left",V.str "right"),(Sum.inr "right",V.str "left"),(Sum.inr "both",V.str "both")]:List (Key × V)) (Sum.inr sd)).isSome=false:=hs
      exact ⟨_,rfl,.inr sd,rfl,true,(by rw [hs']; rfl),iteT ⟨_,rfl,(by show 1≤1000; decide),fun e he=>⟨e,_,rfl,xf,fun dx hdx=>⟨rfl,e,t.C_m,some dx,rfl,xf,T.mk_m,hE (.noSides _) (badS hs) e _ (xat rfl rfl he hdx)⟩⟩⟩⟩
     | true =>
      have hs':(valV ([(Sum.inr "left",V.str "right"),(Sum.inr "right",V.str "left"),(Sum.inr "both",V.str "both")]:List (Key × V)) (Sum.inr sd)).isSome=true:=hs
      refine ⟨_,rfl,.inr sd,rfl,false,(by rw [hs']; rfl),iteF ?_⟩
      have badW:(xw dl 1 ph && xw dh (intD dl) ph)=false→xak pw ph ps (.str nm) (.int xi) (.int yi) (.str sd) dl dh (.str nm) (.int xi) (.int yi) (.str sd) lo hi=some (.noWindow lo hi):=fun e=>by
       unfold xak
       rw [if_pos hn,if_pos wc,if_pos hs,if_neg (by rw [e]; decide)]
      refine ⟨_,rfl,_,rfl,a,_,_,_,_,rfl,hp,T.c_t,T.n_a1,lkH,lo,dl,1,ph,rfl,tl,_,rfl,?_⟩
      cases wl:xw dl 1 ph with
      | false =>
       have bb:(xw dl 1 ph && xw dh (intD dl) ph)=false:=by rw [wl]; rfl
       exact iteT (iteT ⟨_,rfl,_,rfl,(by show 2≤1000; decide),fun e he=>⟨e,_,_,rfl,xf,fun dx hdx=>⟨rfl,e,t.C_j,some dx,rfl,xct hdx,T.mk_j,hE (.noWindow _ _) (badW bb) e _ (xcu rfl rfl he hdx)⟩⟩⟩)
      | true =>
       obtain ⟨li,rfl,l1,l2⟩:=xaz wl
       obtain rfl:=tl.int_of
       refine iteF ⟨_,rfl,_,rfl,_,rfl,a,_,_,_,_,rfl,hp,T.c_t,T.n_a1,lkH,hi,dh,li,ph,rfl,thi,_,rfl,?_⟩
       cases wh:xw dh li ph with
       | false =>
        have bb:(xw (.int li) 1 ph && xw dh (intD (.int li)) ph)=false:=by rw [wl]; exact wh
        exact iteT ⟨_,rfl,_,rfl,(by show 2≤1000; decide),fun e he=>⟨e,_,_,rfl,xf,fun dx hdx=>⟨rfl,e,t.C_j,some dx,rfl,xct hdx,T.mk_j,hE (.noWindow _ _) (badW bb) e _ (xcu rfl rfl he hdx)⟩⟩⟩
       | true =>
        have wlh:(xw (.int li) 1 ph && xw dh (intD (.int li)) ph)=true:=by rw [wl]; exact wh
        obtain ⟨hi0,eh,h1,h2⟩:=xaz wh
        have eHI:(hi:V)=.int hi0:=by
         have z:=thi
         rw [eh] at z
         exact z.int_of
        refine iteF ?_
        cases hh:hasN ps (.str nm) with
        | true =>
         have oo:xak pw ph ps (.str nm) (.int xi) (.int yi) (.str sd) (.int li) dh (.str nm) (.int xi) (.int yi) (.str sd) (.int li) hi=some (.oldPoint (.str nm)):=by
          unfold xak
          rw [if_pos hn,if_pos wc,if_pos hs,if_pos wlh,if_pos hh]
         obtain ⟨s2,pt,e2,_,hf,_⟩:=xht hh
         cases e2
         obtain ⟨q0,e0,_⟩:=pl.find hf
         exact ⟨_,rfl,_,rfl,a,_,_,_,_,rfl,hp,T.c_t,T.n_a0,lkP,dp,some (.ref q0),rfl,(by rw [← e0]; exact DGet.k (k:=.inr nm) hk),true,rfl,iteT ⟨_,rfl,(by show 1≤1000; decide),fun e he=>⟨e,_,rfl,xf,fun dx hdx=>⟨rfl,e,t.C_n,some dx,rfl,xf,T.mk_n,hE (.oldPoint _) (oo) e _ (xat rfl rfl he hdx)⟩⟩⟩⟩
        | false =>
         have noN:∀ p ∈ ps,p.nm≠nm:=fun p hp0 e=>by
          have z:hasN ps (.str nm)=true:=by
           change (isNm nm && ps.any fun p=>decide (p.nm=nm))=true
           rw [show isNm nm=true from hn,Bool.true_and]
           exact List.any_eq_true.mpr ⟨p,hp0,decide_eq_true e⟩
          rw [hh] at z
          cases z
         refine ⟨_,rfl,_,rfl,a,_,_,_,_,rfl,hp,T.c_t,T.n_a0,lkP,dp,none,rfl,(by rw [← pl.no (nm:=nm) noN]; exact DGet.k (k:=.inr nm) hk),false,rfl,iteF ?_⟩
         have hh':¬ (hasN ps (.str nm)=true):=by rw [hh]; decide
         have kl:=pl.len
         refine ⟨_,rfl,a,_,_,_,_,rfl,hp,T.c_t,T.n_a0,lkP,dp,kvs,rfl,hk,_,_,rfl,rfl,_,rfl,?_⟩
         by_cases c12:12≤ps.length
         ·have oo:xak pw ph ps (.str nm) (.int xi) (.int yi) (.str sd) (.int li) dh (.str nm) (.int xi) (.int yi) (.str sd) (.int li) hi=some .tooMany:=by
           unfold xak
           rw [if_pos hn,if_pos wc,if_pos hs,if_pos wlh,if_neg hh',if_pos c12]
          exact ifP (decide_eq_true (by omega)) fun e he=>⟨e,t.C_v,none,rfl,xf,T.mk_v,hE (.tooMany) (oo) e _ (xh0 rfl rfl he)⟩
         ·have om:xak pw ph ps (.str nm) (.int xi) (.int yi) (.str sd) (.int li) dh (.str nm) (.int xi) (.int yi) (.str sd) (.int li) hi=xa4 ps nm xi yi:=by
           show _=xa4 ps (xir (.str nm)) (intD (.int xi)) (intD (.int yi))
           unfold xak
           rw [if_pos hn,if_pos wc,if_pos hs,if_pos wlh,if_neg hh',if_neg c12]
          refine ifN (decide_eq_false (by omega)) ?_
          refine ⟨_,rfl,a,dx0,_,rfl,hp,xcj (by decide +kernel),_,rfl,_,rfl,_,rfl,a,dp,do_,pw,ph,ps,nm,xi,yi,rfl,pic,fun er her e H' z=>hE er (om.trans her) e H' z,fun out3 H1 s1=>?_⟩
          have cl:=xe9 out3
          refine ⟨_,rfl,_,rfl,_,rfl,_,rfl,_,rfl,(by show 5≤sizeLine; decide),fun q1 hq1=>?_⟩
          have hp1:upd H1 q1 (.tup [.int xi,.int yi,.str sd,.int li,hi]) a=some (.ins t.C_t dx0 (picF pw ph dp do_)):=by rw [xj (xo (s1 _ _ hp) hq1)]; exact s1 _ _ hp
          have hk1:upd H1 q1 (.tup [.int xi,.int yi,.str sd,.int li,hi]) dp=some (.dK kvs):=by rw [xj (xo (s1 _ _ hk) hq1)]; exact s1 _ _ hk
          refine ⟨_,rfl,a,_,_,_,_,rfl,hp1,T.c_t,T.n_a0,lkP,_,rfl,dp,_,rfl,DPut.k (k:=.inr nm) hk1 (Nat.lt_trans (by omega:kvs.length < 12) (by decide)),?_⟩
          rw [xes (.ref q1) (pl.no (nm:=nm) noN)]
          have nq:q1≠dp:=fun z=>by
           subst z
           rw [s1 _ _ hk] at hq1
           cases hq1
          refine q (om.trans out3) nm xi yi sd li hi0 _ rfl rfl rfl rfl rfl eh (fun b u nb e=>?_) ⟨⟨dx0,?_⟩,⟨_,xf,Pl.snoc (p:=⟨nm,xi,yi,sd,li,hi0⟩) (pl.keep (fun b xs e=>?_)) ?_⟩,pic.w1,pic.w2,pic.h1,pic.h2,(by rw [List.length_append]; exact (by omega:ps.length + 1≤12))⟩ ?_ (fun p hp0=>⟨noN p hp0,cl p hp0 (noN p hp0)⟩) (by omega)
          ·rw [xj nb,xj (xo (s1 _ _ e) hq1)]
           exact s1 _ _ e
          ·rw [xj (xbm hp1 hk1 (fun z=>nomatch z))]
           exact hp1
          ·have e':=s1 _ _ e
           rw [xj (xbm e' (s1 _ _ hk) (fun z=>nomatch z)),xj (xo e' hq1)]
           exact e'
          ·rw [xj nq,xf,eHI]
           rfl
          ·obtain ⟨s2,es,hsd⟩:=xd2 hs
           cases es
           exact ⟨hn,x1,x2,y1,y2,hsd,l1,h1,h2⟩
end
end S22
set_option maxRecDepth 100000
set_option maxHeartbeats 4000000
namespace S22
open PySem L2 XL PyProof.Rows
def SsOk (h:Int) (ss:List Seat):Prop:=ss.Nodup∧ss.length≤32∧∀ s ∈ ss,1≤s.2∧s.2≤h
theorem xbg.get {H:Hp} {ss:List Seat} {qs:List Addr} (h:xbg H ss qs) {i:Nat} {q:Addr} (e:qs[i]?=some q):∃ s,ss[i]?=some s∧H q=some (.tup (xgj s)):=by
 induction h generalizing i with
 | nil=>simp at e
 | @cons s q' ss qs h _ ih =>
  cases i with
  | zero =>
   simp at e
   subst e
   exact ⟨s,rfl,h⟩
  | succ j=>exact ih (by simpa using e)
def xl6 (s:Seat):DV:=.tup [.str (xar s.1),.int s.2]
theorem xmy {K:PySem.W.Frag} {H:Hp} {q:Addr} {s:Seat} (h:H q=some (.tup (xgj s))):Dv K H 1 (.ref q) (xl6 s):=by
 refine .tup (SqT.of h) rfl fun j x d h1 h2=>?_
 match j,h1,h2 with
 | 0,h1,h2=>cases h1; cases h2; exact .str
 | 1,h1,h2=>cases h1; cases h2; exact .int
 | j + 2,h1,h2=>simp [xgj] at h1
theorem xbg.dv {K:PySem.W.Frag} {H:Hp} {ss:List Seat} {qs:List Addr} (h:xbg H ss qs) {l:Addr} (e:H l=some (.lst (qs.map V.ref))):Dv K H 2 (.ref l) (.lst (ss.map xl6)):=by
 refine .lst (SqL.of e) (by rw [List.length_map,List.length_map,h.len]) fun j x d h1 h2=>?_
 rw [List.getElem?_map] at h1 h2
 obtain ⟨q,hq,rfl⟩:=Option.map_eq_some_iff.mp h1
 obtain ⟨p,hp,rfl⟩:=Option.map_eq_some_iff.mp h2
 obtain ⟨p',hp',e'⟩:=h.get hq
 rw [hp] at hp'
 cases hp'
 exact xmy e'
section
variable {P:Program} {w:World} {K:PySem.W.Frag} {mg:Str→Option Value} {base:Heap} {t:Adr}
end
end S22
set_option maxRecDepth 100000
set_option maxHeartbeats 4000000
namespace S22
open PySem L2 XL PyProof.Rows
theorem xoo {c:Nat} (h:48≤c):¬ ([c] < [48]):=by
 rw [List.cons_lt_cons_iff]
 rintro (z | ⟨_,z⟩)
 ·omega
 ·cases z
theorem xny {c:Nat} (h:c≤57):¬ ([57] < [c]):=by
 rw [List.cons_lt_cons_iff]
 rintro (z | ⟨_,z⟩)
 ·omega
 ·cases z
def xp8:Sp:=fun vs H Q _=>∃ n:Nat,vs=[.str (numT n)]∧n < 100∧∀ H',Same H H'→Q (.int n) H'
def xom:Sp:=fun vs H Q _=>∃ (l:Addr) (ns:List Nat),vs=[.ref l]∧H l=some (.lst (ns.map fun (n:Nat)=>V.str (numT n)))∧(∀ n ∈ ns,n < 100)∧ns.length≤1000∧∀ H' l',Same H H'→H l'=none→H' l'=some (.lst (ns.map fun (n:Nat)=>V.int (n:Int)))→Q (.ref l') H'
theorem xjg (ns:List Nat):(ns.map fun (n:Nat)=>V.int (n:Int)).all xcl=true:=by
 rw [List.all_eq_true]
 intro z hz
 obtain ⟨i,_,rfl⟩:=List.mem_map.mp hz
 rfl
theorem xm3 (ns:List Nat):inV .non (ns.map fun (n:Nat)=>V.int (n:Int))=false:=by
 unfold inV
 rw [List.any_eq_false]
 intro z hz
 obtain ⟨i,_,rfl⟩:=List.mem_map.mp hz
 exact Bool.false_ne_true
section
variable {P:Program} {w:World} {K:PySem.W.Frag} {mg:Str→Option Value} {base:Heap} {t:Adr}
theorem ok_ag (T:Txt w K mg t):FnOk true P w K mg base (CXo P w) 1 t.f_ag t.d_ag ["word"] (xp8):=by
 refine T.F_ag.okn (k:=0) sc_ag (fun vs H Q E h=>?_) (fun cdv A outer s H vs Q E hr h=>?_)
 ·obtain ⟨n,rfl,_⟩:=h
  rfl
 ·obtain ⟨n,rfl,h⟩:=h
  refine ⟨_,xh (xb3 PassesOwn.never rfl (xo3 (pv 0)) (x0 (i:=1) sc_ag.nd rfl (Or.inl rfl)) (xn (xab (xa8 (xe1 xc7 xc7 (xv) (pv 1) (xv))) (xn (xr (xaj))) (xt))))
   (xh (xab (PW.pt (xbv (xu xbo (x6 xcc rfl T.n_len boot_len (xb (pv 0) (xg))) (xaf (xb (xk) (xb (xk) (xg)))) (by rfl)) (xbj (PW.pt (xoe (xu xa9 (x6 xcc rfl T.n_len boot_len (xb (pv 0) (xg))) (xk) (xac _)) (xnn (xu xa9 (xan xjm (pv 0) (xk) (fun _ _=>rfl)) (xv) (xac _)))))))) (xn (xr (xaj))) (xt))
   (xn (xr (xbk xgg rfl T.n_int boot_int (xb (pv 0) (xg)))))),?_⟩
  obtain ⟨hn,q⟩:=h
  have hd:=xeq hn
  refine ⟨_,rfl,numT n,rfl,?_,?_⟩
  ·rw [← Array.all_toList,List.all_eq_true]
   intro c hc
   have:=hd c hc
   simp
   omega
  refine xno (Pv:=fun i σ H5=>∃ v1:Option V,σ=[some (.str (numT n)),v1]∧H=H5) ⟨_,rfl,rfl⟩ ?_ ?_
  ·rintro i c σ _ hc ⟨v1,rfl,rfl⟩
   have hd':=hd c (List.mem_of_getElem? hc)
   refine ⟨_,rfl,_,_,rfl,rfl,_,rfl,ifP ?_ ⟨_,_,rfl,rfl,_,rfl,ifN ?_ ⟨_,rfl,rfl⟩⟩⟩
   ·exact Bool.not_eq_true' _ |>.mpr (decide_eq_false (xoo hd'.1))
   ·rw [show (Str.ofString "9").cps.toList=[57] from by decide +kernel,decide_eq_false (xny hd'.2)]
    rfl
  ·rintro σ _ ⟨v1,rfl,rfl⟩
   have hln:=xdr hn
   have lle:(numT n).length≤2:=by rcases hln with z | z <;> omega
   refine ⟨_,rfl,_,rfl,Nat.le_trans lle (by decide),(by show 2≤sizeLine; decide),fun q1 hq1=>?_⟩
   have s1:Same H (upd H q1 (.tup [.int 1,.int 2])):=xp (Same.refl _) hq1
   have g1:upd H q1 (.tup [.int 1,.int 2]) q1=some (.tup [.int 1,.int 2]):=xf
   revert s1 g1
   generalize upd H q1 (.tup [.int 1,.int 2])=H1
   intro s1 g1
   refine ⟨q1,_,rfl,.inr (SqT.of g1),rfl,rfl,_,rfl,ifN ?_ ?_⟩
   ·rw [if_pos rfl]
    rcases hln with z | ⟨z,_⟩ <;> rw [z] <;> rfl
   refine ⟨_,rfl,_,rfl,Nat.le_trans lle (by decide),rfl,_,rfl,ite2 (fun c=>?_) (fun c=>?_)⟩
   ·have l2:(numT n).length=2:=by
     have:((numT n).length:Int)=2:=by simpa using c
     omega
    obtain ⟨c0,hc0⟩:∃ c0,(numT n).cps.toList[0]?=some c0:=by
     have lz:0 < (numT n).cps.toList.length:=by
      have:(numT n).cps.toList.length=(numT n).length:=by simp [Str.length]
      omega
     exact ⟨_,List.getElem?_eq_getElem lz⟩
    have n48:c0≠48:=fun z=>by
     rcases hln with y | ⟨_,y⟩
     ·omega
     ·exact y (by rw [List.head?_eq_getElem?,hc0,z])
    refine ⟨_,rfl,numT n,0,c0,rfl,rfl,Nat.le_trans lle (by decide),xb7 (j:=0) hc0,rfl,_,rfl,ifN ?_ ?_⟩
    ·refine decide_eq_false fun z=>n48 ?_
     have e:=congrArg (fun s:Str=>s.cps.toList) (V.str.inj z)
     have e2:[c0]=[48]:=e.trans (by decide +kernel)
     exact List.head_eq_of_cons_eq e2
    ·exact ⟨_,rfl,numT n,n,rfl,xg6 hn,by omega,q _ s1⟩
   ·exact ifN rfl ⟨_,rfl,numT n,n,rfl,xg6 hn,by omega,q _ s1⟩
theorem ok_o (T:Txt w K mg t):FnOk true P w K mg base (CXo P w) 2 t.f_o t.d_o ["words"] (xom):=by
 refine T.F_o.okn (k:=1) sc_o (fun vs H Q E h=>?_) (fun cdv A outer s H vs Q E hr h=>?_)
 ·obtain ⟨l,ns,rfl,_⟩:=h
  rfl
 ·obtain ⟨l,ns,rfl,h⟩:=h
  refine ⟨_,xh (xdt rfl (xcw (zs:=["word"]) (ys:=[]) (fr:=[]) (N0:=["words", "numbers"]) (sc0:=xm s_o) (by decide +kernel) rfl rfl rfl) (xba (pv 0)) (fun _ _ _ _ _ ow nd=>x0 (i:=0) nd rfl (Or.inl (ow _ (by simp))) (Or.inr (ow _ (by simp)))) (xc2 (by decide)) (fun _ _ _ _ _=>xdi) (fun _ _ _ _ _=>x8 (ok_ag T) (hr.mono (by decide)) rfl T.g_ag T.F_ag.kp T.b_ag .nil xz (xb (pv 0) (xg))) (j:=1) rfl (Or.inl rfl))
   (xn (xr (xb4 (xu xd8 (xaj) (pv 1) (by rfl)) (xaj) (pv 1)))),?_⟩
  obtain ⟨hl,hn,len,q⟩:=h
  refine ⟨_,rfl,l,rfl,⟨_,SqL.of hl⟩,fun l1 hl1=>?_⟩
  refine xf7 (SqL.of hl) (by rw [List.length_map]; exact Nat.lt_of_le_of_lt len (by decide)) hl1 (fun i y _=>∃ n:Nat,ns[i]?=some n∧y=.int (n:Int)) (fun _ _ _ _ _ z=>z) (fun i z H2 hz s2 N hN=>?_) (fun ys H1 s1 el1 ly f1=>?_)
  ·rw [List.getElem?_map] at hz
   obtain ⟨n,hn1,rfl⟩:=Option.map_eq_some_iff.mp hz
   exact ⟨_,rfl,n,rfl,hn n (List.mem_of_getElem? hn1),fun H3 s3=>hN _ _ s3 ⟨n,hn1,rfl⟩⟩
  have ey:ys=ns.map fun (n:Nat)=>V.int (n:Int):=by
   refine xio (by rw [ly,List.length_map]) fun i y p hy hp=>?_
   obtain ⟨p',a1,a2⟩:=f1 i y hy
   rw [hp] at a1
   cases a1
   exact a2
  subst ey
  exact ⟨_,rfl,l1,_,rfl,.inl (SqL.of el1),rfl,xjg _,_,rfl,ifN (by rw [if_neg (by decide)]; exact xm3 _) ⟨_,rfl,q H1 l1 s1 hl1 el1⟩⟩
end
end S22
set_option maxRecDepth 100000
set_option maxHeartbeats 4000000
namespace S22
open PySem L2 XL PyProof.Rows
def xmx:Sp:=fun vs H Q _=>∃ (ws:List Str),vs=[.str (Str.join ⟨#[32]⟩ ws)]∧ws≠[]∧(∀ p ∈ ws,32 ∉ p.cps.toList∧p.cps.toList≠[])∧(Str.join ⟨#[32]⟩ ws).length≤1000∧∀ l,H l=none→Q (.ref l) (upd H l (.lst (ws.map V.str)))
theorem xk3 {ws:List Str} (h:∀ p ∈ ws,p.cps.toList≠[]):inV (.str (Str.ofString "")) (ws.map V.str)=false:=by
 unfold inV
 rw [List.any_eq_false]
 intro z hz
 obtain ⟨p,hp,rfl⟩:=List.mem_map.mp hz
 intro e
 have e2:p=Str.ofString "":=by simpa [eqV] using e
 exact h p hp (by rw [e2]; decide +kernel)
theorem xob (zs:List Str):(zs.map V.str).all xcl=true:=by
 rw [List.all_eq_true]
 intro z hz
 obtain ⟨i,_,rfl⟩:=List.mem_map.mp hz
 rfl
section
variable {P:Program} {w:World} {K:PySem.W.Frag} {mg:Str→Option Value} {base:Heap} {t:Adr}
theorem ok_aj (T:Txt w K mg t):FnOk true P w K mg base (CXo P w) 1 t.f_aj t.d_aj ["line"] (xmx):=by
 refine T.F_aj.okn (k:=0) sc_aj (fun vs H Q E h=>?_) (fun cdv A outer s H vs Q E hr h=>?_)
 ·obtain ⟨ws,rfl,_⟩:=h
  rfl
 ·obtain ⟨ws,rfl,h⟩:=h
  refine ⟨_,xh (xab (xa8 (xav (x6 xao rfl T.n_isinstance boot_isinstance (xb (pv 0) (xb (xbz (v:=.ty "str") rfl T.n_str boot_str rfl) (xg)))))) (xn (xr (xa7 (xg)))) (xt))
   (xh (xah (i:=1) sc_aj.nd rfl (Or.inl rfl) (xdq PySem.F.plainAttrs_str PySem.F.slot_str_split PySem.F.type_str_split xg0 (pv 0) (xb (xv) (xg))))
   (xn (xr (xb4 (xu xd8 (xv) (pv 1) (by rfl)) (xa7 (xg)) (pv 1))))),?_⟩
  obtain ⟨ne,fr,len,q⟩:=h
  refine ⟨_,rfl,_,_,rfl,.inl ⟨_,_,true,.str _,rfl,xbl,true,rfl,ifN (by decide) ?_⟩⟩
  refine ⟨_,rfl,rfl,_,_,rfl,rfl,by decide +kernel,Nat.le_trans (Nat.add_le_add_right len 2) (by decide),fun l hl=>?_⟩
  rw [show Str.ofString " "=(⟨#[32]⟩:Str) from by decide +kernel,xfl ne fun p hp=>(fr p hp).1]
  exact ⟨_,rfl,l,_,rfl,.inl (SqL.of xf),rfl,xob _,_,rfl,ifN (by rw [if_neg (by decide)]; exact xk3 fun p hp=>(fr p hp).2) ⟨_,rfl,q l hl⟩⟩
end
end S22
set_option maxRecDepth 100000
set_option maxHeartbeats 4000000
namespace S22
open PySem L2 XL PyProof.Rows
def xoh:Sp:=fun vs H Q _=>∃ (es:List Nat) (a b:Nat),vs=[.str (Str.join ⟨#[45]⟩ (es.map numT))]∧((es=[a]∧b=a)∨es=[a,b])∧a < 100∧b < 100∧(Str.join ⟨#[45]⟩ (es.map numT)).length≤1000∧∀ H' l,Same H H'→H l=none→H' l=some (.lst (rngL (a:Int) ((b:Int) + 1)))→Q (.ref l) H'
section
variable {P:Program} {w:World} {K:PySem.W.Frag} {mg:Str→Option Value} {base:Heap} {t:Adr}
theorem ok_at (T:Txt w K mg t):FnOk true P w K mg base (CXo P w) 3 t.f_at t.d_at ["word"] (xoh):=by
 refine T.F_at.okn (k:=2) sc_at (fun vs H Q E h=>?_) (fun cdv A outer s H vs Q E hr h=>?_)
 ·obtain ⟨es,a,b,rfl,_⟩:=h
  rfl
 ·obtain ⟨es,a,b,rfl,h⟩:=h
  refine ⟨_,xh (xah (i:=1) sc_at.nd rfl (Or.inl rfl) (x8 (ok_o T) (hr.mono (by decide)) rfl T.g_o T.F_o.kp T.b_o .nil xz (xb (xdq PySem.F.plainAttrs_str PySem.F.slot_str_split PySem.F.type_str_split xg0 (pv 0) (xb (xv) (xg))) (xg))))
   (xh (xab (PW.pt (xbv (xu xc0 (pv 1) (xaj) (xac _)) (xbj (xu xfj (x6 xam rfl T.n_len boot_len (xb (pv 1) (xg))) (xk) (xac _))))) (xn (xr (xa7 (xg)))) (xt))
   (xn (xr (xbk (xgf rfl) rfl T.n_list boot_list (xb (xbk xhl rfl T.n_range boot_range (xb (xan xay (pv 1) (xk) (fun _ _=>rfl)) (xb (x9 xbh (xan xay (pv 1) (xpz xoy (xk)) (fun _ _=>rfl)) (xk)) (xg)))) (xg)))))),?_⟩
  obtain ⟨he,ha,hb,len,q⟩:=h
  have hn:∀ n ∈ es,n < 100:=by
   rcases he with ⟨rfl,rfl⟩ | rfl <;> intro n hm <;> simp at hm <;> omega
  have l2:es.length≤2:=by
   rcases he with ⟨rfl,rfl⟩ | rfl <;> simp
  have ne:es.map numT≠[]:=by
   rcases he with ⟨rfl,rfl⟩ | rfl <;> simp
  refine ⟨_,rfl,rfl,_,_,rfl,rfl,by decide +kernel,Nat.le_trans (Nat.add_le_add_right len 2) (by decide),fun l0 hl0=>?_⟩
  rw [show Str.ofString "-"=(⟨#[45]⟩:Str) from by decide +kernel,xfl ne fun p hp=>by
   obtain ⟨n,hm,rfl⟩:=List.mem_map.mp hp
   exact xc8 (hn n hm) (by decide),List.map_map]
  have s1:Same H (upd H l0 (.lst (es.map (V.str ∘ numT)))):=xp (Same.refl _) hl0
  have g1:upd H l0 (.lst (es.map (V.str ∘ numT))) l0=some (.lst (es.map (V.str ∘ numT))):=xf
  revert s1 g1
  generalize upd H l0 (.lst (es.map (V.str ∘ numT)))=H1
  intro s1 g1
  refine ⟨l0,es,rfl,g1,hn,by omega,fun H2 l1 s2 fl1 hl1=>?_⟩
  refine ⟨_,rfl,rfl,_,rfl,ifN (by simp) ⟨_,rfl,l1,_,rfl,.inl (SqL.of hl1),_,_,rfl,rfl,_,rfl,ifN (by simp; omega) ?_⟩⟩
  have a0:atI (es.map fun (n:Nat)=>V.int (n:Int)) 0=some (.int (a:Int)):=by
   rcases he with ⟨rfl,rfl⟩ | rfl <;> rfl
  have a1:atI (es.map fun (n:Nat)=>V.int (n:Int)) (-1)=some (.int (b:Int)):=by
   rcases he with ⟨rfl,rfl⟩ | rfl <;> rfl
  refine ⟨_,rfl,l1,_,0,_,rfl,rfl,SqL.of hl1,a0,_,rfl,1,rfl,l1,_,_,_,rfl,rfl,SqL.of hl1,a1,_,_,rfl,rfl,_,_,rfl,fun pr hpr=>?_⟩
  have s3:=xp (o:=.rng (a:Int) ((b:Int) + 1)) (Same.refl _) hpr
  refine ⟨pr,_,_,rfl,xf,⟨by omega,by omega,by omega,by omega⟩,by omega,fun l hl=>?_⟩
  have s4:=xp (o:=.lst (rngL (a:Int) ((b:Int) + 1))) (Same.refl _) hl
  exact q _ l (((s1.trans s2).trans s3).trans s4) (((s1.trans s2).trans s3).free hl) xf
end
end S22
set_option maxRecDepth 100000
set_option maxHeartbeats 4000000
namespace S22
open PySem L2 XL PyProof.Rows
def xmt:Sp:=fun vs H Q _=>∃ (l:Addr) (a b:Nat),vs=[.ref l]∧H l=some (.lst [.str "frame",.str (numT a),.str (numT b)])∧a < 100∧b < 100∧∀ H' l',Same H H'→H l'=none→H' l'=some (.lst [.int (a:Int),.int (b:Int)])→Q (.ref l') H'
section
variable {P:Program} {w:World} {K:PySem.W.Frag} {mg:Str→Option Value} {base:Heap} {t:Adr}
theorem ok_an (T:Txt w K mg t):FnOk true P w K mg base (CXo P w) 3 t.f_an t.d_an ["words"] (xmt):=by
 refine T.F_an.okn (k:=2) sc_an (fun vs H Q E h=>?_) (fun cdv A outer s H vs Q E hr h=>?_)
 ·obtain ⟨l,a,b,rfl,_⟩:=h
  rfl
 ·obtain ⟨l,a,b,rfl,h⟩:=h
  refine ⟨_,xh (xab (PW.pt (xbv (xu xej (x6 xam rfl T.n_len boot_len (xb (pv 0) (xg))) (xk) (xac _)) (xbj (xu xej (xan xay (pv 0) (xk) (fun _ _=>rfl)) (xv) (xac _))))) (xn (xr (xaj))) (xt))
   (xn (xr (x8 (ok_o T) (hr.mono (by decide)) rfl T.g_o T.F_o.kp T.b_o .nil xz (xb (xa3 xbc (pv 0) (xa2 (xk)) xbt) (xg))))),?_⟩
  obtain ⟨hl,ha,hb,q⟩:=h
  refine ⟨_,rfl,l,_,rfl,.inl (SqL.of hl),rfl,_,rfl,ifN (by simp) ⟨_,rfl,l,_,0,_,rfl,rfl,SqL.of hl,rfl,rfl,_,rfl,ifN (by decide +kernel) ?_⟩⟩
  refine ⟨_,rfl,1,rfl,l,_,rfl,SqL.of hl,fun p hp=>?_⟩
  have s1:=xp (o:=.lst [.str (numT a),.str (numT b)]) (Same.refl _) hp
  exact ⟨p,[a,b],rfl,xf,fun n hn=>(by simp at hn; omega),by simp,fun H2 l2 s2 fl2 hl2=>q H2 l2 (s1.trans s2) (s1.free fl2) hl2⟩
end
end S22
set_option maxRecDepth 100000
set_option maxHeartbeats 4000000
namespace S22
open PySem L2 XL PyProof.Rows
structure Wd where
 a:Nat
 b:Nat
 two:Bool
def Wd.es (w:Wd):List Nat:=if w.two then [w.a,w.b] else [w.a]
def Wd.t (w:Wd):Str:=Str.join ⟨#[45]⟩ (w.es.map numT)
structure Wd.Ok (w:Wd):Prop where
 a1:w.a < 30
 b1:w.b < 30
 le:w.a≤w.b
 one:w.two=false→w.b=w.a
def Wd.rs (w:Wd):List Int:=(List.range (w.b + 1 - w.a)).map fun (i:Nat)=>(w.a:Int) + (i:Int)
theorem Wd.rng (w:Wd):rngL (w.a:Int) ((w.b:Int) + 1)=w.rs.map V.int:=by
 unfold rngL Wd.rs
 rw [List.map_map,show ((w.b:Int) + 1 - (w.a:Int)).toNat=w.b + 1 - w.a by omega]
 rfl
theorem Wd.shape {w:Wd} (o:w.Ok):(w.es=[w.a]∧w.b=w.a)∨w.es=[w.a,w.b]:=by
 unfold Wd.es
 cases h:w.two with
 | true=>exact .inr rfl
 | false=>exact .inl ⟨rfl,o.one h⟩
theorem Wd.es_lt {w:Wd} (o:w.Ok):∀ n ∈ w.es,n < 100:=by
 have h1:=o.a1
 have h2:=o.b1
 rcases Wd.shape o with ⟨e,_⟩ | e <;> rw [e] <;> intro n hn <;> simp at hn <;> omega
theorem Wd.len {w:Wd} (o:w.Ok):w.t.length≤6:=by
 have h:=xds (c:=45) (k:=2) (ws:=w.es.map numT) fun p hp=>by
  obtain ⟨n,hn,rfl⟩:=List.mem_map.mp hp
  rcases xdr (Wd.es_lt o n hn) with z | ⟨z,_⟩ <;> omega
 have l2:w.es.length≤2:=by
  rcases Wd.shape o with ⟨e,_⟩ | e <;> rw [e] <;> simp
 rw [List.length_map] at h
 show (Str.join ⟨#[45]⟩ (w.es.map numT)).length≤6
 omega
theorem xfr {n:Nat} (h:n < 100):(numT n).cps.toList≠[]:=fun e=>by
 have z:=xbn (numT n)
 rw [e] at z
 rcases xdr h with y | ⟨y,_⟩ <;> rw [y] at z <;> cases z
theorem Wd.rs_ne {w:Wd} (o:w.Ok):w.rs≠[]:=fun e=>by
 have z:=congrArg List.length e
 unfold Wd.rs at z
 rw [List.length_map,List.length_range] at z
 have:=o.le
 change w.b + 1 - w.a=0 at z
 omega
theorem Wd.rs_len {w:Wd} (o:w.Ok):w.rs.length≤30:=by
 unfold Wd.rs
 rw [List.length_map,List.length_range]
 have:=o.b1
 omega
theorem xhh:∀ {ws:List Wd},(∀ w ∈ ws,w.Ok)→(ws.flatMap Wd.rs).length≤ws.length * 30
 | [],_=>by simp
 | w :: ws,h=>by
  have h1:=Wd.rs_len (h w List.mem_cons_self)
  have h2:=xhh (ws:=ws) fun v hv=>h v (List.mem_cons_of_mem _ hv)
  rw [List.flatMap_cons,List.length_append,List.length_cons]
  omega
theorem xma {α:V} {xs:List V}:cutV (α :: xs) (some 1) none=xs:=by
 unfold cutV
 simp [HT.sIx]
def wdsV (ws:List Wd):List V:=ws.map fun w=>V.str w.t
def RimW (H:Hp) (l:Addr) (b:Bool) (ws:List Wd):Prop:=H l=some (.lst (.str (xar b) :: wdsV ws))∧ws≠[]∧(∀ w ∈ ws,w.Ok)∧ws.length≤12
def xox:Sp:=fun vs H Q _=>∃ (l:Addr) (b:Bool) (ws:List Wd),vs=[.ref l]∧RimW H l b ws∧∀ H' l',Same H H'→H l'=none→H' l'=some (.lst ((ws.flatMap Wd.rs).map V.int))→Q (.ref l') H'
def xk7:Sp:=fun vs H Q _=>∃ (l:Addr) (b:Bool) (ws:List Wd),vs=[.ref l]∧RimW H l b ws∧∀ H',Same H H'→Q .non H'
def xpp (l1:Addr) (ws:List Wd) (i:Nat) (ys:List V) (H:Hp):Prop:=∃ rs:List Addr,ys=rs.map V.ref∧rs.length=i∧∀ (j:Nat) (q:Addr) (w:Wd),rs[j]?=some q→ws[j]?=some w→q≠l1∧H q=some (.lst (w.rs.map V.int))
theorem xk6 {K:PySem.W.Frag} {H:Hp} {l1:Addr} {ws:List Wd} {rs:List Addr} (h:H l1=some (.lst (rs.map V.ref))) (el:rs.length=ws.length) (f:∀ (j:Nat) (q:Addr) (w:Wd),rs[j]?=some q→ws[j]?=some w→H q=some (.lst (w.rs.map V.int))):Dv K H 2 (.ref l1) (.lst (ws.map fun w=>.lst (w.rs.map DV.int))):=by
 refine .lst (SqL.of h) (by rw [List.length_map,List.length_map,el]) fun j x d h1 h2=>?_
 rw [List.getElem?_map] at h1 h2
 obtain ⟨q,hq,rfl⟩:=Option.map_eq_some_iff.mp h1
 obtain ⟨w,hw,rfl⟩:=Option.map_eq_some_iff.mp h2
 refine .lst (SqL.of (f j q w hq hw)) (by rw [List.length_map,List.length_map]) fun k x d h1 h2=>?_
 rw [List.getElem?_map] at h1 h2
 obtain ⟨i,hi,rfl⟩:=Option.map_eq_some_iff.mp h1
 rw [hi] at h2
 cases h2
 exact .int
theorem xln {ws:List Wd} (ok:∀ w ∈ ws,w.Ok):(ws.map fun w=>DV.lst (w.rs.map DV.int)).any (fun z=>dEq z (.lst []))=false:=by
 rw [List.any_eq_false]
 intro z hz
 obtain ⟨w,hw,rfl⟩:=List.mem_map.mp hz
 intro e
 have:dEqs (w.rs.map DV.int) []=false:=xex fun z=>by
  rw [List.length_map] at z
  exact Wd.rs_ne (ok w hw) (List.length_eq_zero_iff.mp z)
 change dEqs (w.rs.map DV.int) []=true at e
 rw [this] at e
 cases e
section
variable {P:Program} {w:World} {K:PySem.W.Frag} {mg:Str→Option Value} {base:Heap} {t:Adr}
theorem ok_am (T:Txt w K mg t):FnOk true P w K mg base (CXo P w) 4 t.f_am t.d_am ["words"] (xox):=by
 refine T.F_am.okn (k:=3) sc_am (fun vs H Q E h=>?_) (fun cdv A outer s H vs Q E hr h=>?_)
 ·obtain ⟨l,b,ws,rfl,_⟩:=h
  rfl
 ·obtain ⟨l,b,ws,rfl,h⟩:=h
  refine ⟨_,xh (xab (PW.pt (xbv (xu xix (x6 xam rfl T.n_len boot_len (xb (pv 0) (xg))) (xk) (xac _)) (xbj (xu xbo (xan xay (pv 0) (xk) (fun _ _=>rfl)) (xaf (xb (xv) (xb (xv) (xg)))) (by rfl))))) (xn (xr (xaj))) (xt))
   (xh (xdt rfl (xcw (zs:=["word"]) (ys:=[]) (fr:=[]) (N0:=["words", "spans", "rows", "span"]) (sc0:=xm s_am) (by decide +kernel) rfl rfl rfl) (xba (xa3 xbc (pv 0) (xa2 (xk)) xbt)) (fun _ _ _ _ _ ow nd=>x0 (i:=0) nd rfl (Or.inl (ow _ (by simp))) (Or.inr (ow _ (by simp)))) (xc2 (by decide)) (fun _ _ _ _ _=>xdi) (fun _ _ _ _ _=>x8 (ok_at T) (hr.mono (by decide)) rfl T.g_at T.F_at.kp T.b_at .nil xz (xb (pv 0) (xg))) (j:=1) rfl (Or.inl rfl))
   (xh (xab (xu (xjt (xdh hr)) (xa7 (xg)) (pv 1) (by rfl)) (xn (xr (xaj))) (xt))
   (xh (xah (i:=2) sc_am.nd rfl (Or.inl rfl) (xa7 (xg)))
   (xh (xb3 PassesOwn.never rfl (xba (pv 1)) (x0 (i:=3) sc_am.nd rfl (Or.inl rfl)) (xn (xbq (xdq PySem.F.plainAttrs_list PySem.F.slot_list_extend PySem.F.type_list_extend xf8 (pv 2) (xb (pv 3) (xg))))))
   (xn (xr (pv 2))))))),?_⟩
  obtain ⟨⟨hl,ne,ok,len⟩,q⟩:=h
  refine ⟨_,rfl,l,_,rfl,.inl (SqL.of hl),_,_,rfl,rfl,_,rfl,ifN ?_ ⟨_,rfl,l,_,0,.str (xar b),rfl,rfl,SqL.of hl,xb7 (j:=0) rfl,(by show 2≤sizeLine; decide),fun q1 hq1=>?_⟩⟩
  ·have:ws.length≠0:=fun z=>ne (List.length_eq_zero_iff.mp z)
   simp [wdsV]
   omega
  have s1:Same H (upd H q1 (.tup [.str "left",.str "right"])):=xp (Same.refl _) hq1
  have g1:upd H q1 (.tup [.str "left",.str "right"]) q1=some (.tup [.str "left",.str "right"]):=xf
  revert s1 g1
  generalize upd H q1 (.tup [.str "left",.str "right"])=H1
  intro s1 g1
  refine ⟨q1,_,rfl,.inr (SqT.of g1),rfl,rfl,_,rfl,ifN (by cases b <;> decide +kernel) ?_⟩
  have hl1:=s1 _ _ hl
  refine ⟨_,rfl,1,rfl,l,_,rfl,SqL.of hl1,fun p hp=>?_⟩
  rw [xma]
  have s2:Same H1 (upd H1 p (.lst (wdsV ws))):=xp (Same.refl _) hp
  have g2:upd H1 p (.lst (wdsV ws)) p=some (.lst (wdsV ws)):=xf
  revert s2 g2
  generalize upd H1 p (.lst (wdsV ws))=H2
  intro s2 g2
  refine ⟨p,rfl,⟨_,SqL.of g2⟩,fun l1 hl1=>?_⟩
  refine xif (SqL.of g2) (by rw [wdsV,List.length_map]; exact Nat.lt_of_le_of_lt len (by decide)) hl1 (xpp l1 ws) (fun _ _=>⟨[],rfl,rfl,fun j q w h=>by simp at h⟩) ?_ (fun i x ys H3 hx s3 el3 f3 N hN=>?_) (fun ys H3 s3 el3 ly3 f3=>?_)
  ·rintro i ys zs H5 H6 _ k ⟨rs,e,lr,f⟩
   exact ⟨rs,e,lr,fun j q w h1 h2=>⟨(f j q w h1 h2).1,k _ _ (f j q w h1 h2).1 (f j q w h1 h2).2⟩⟩
  ·rw [wdsV,List.getElem?_map] at hx
   obtain ⟨w,hw,rfl⟩:=Option.map_eq_some_iff.mp hx
   have o:=ok w (List.mem_of_getElem? hw)
   have h1:=o.a1
   have h2:=o.b1
   have h6:=Wd.len o
   refine ⟨_,rfl,w.es,w.a,w.b,rfl,Wd.shape o,by omega,by omega,Nat.le_trans h6 (by decide),fun H4 l4 s4 fl4 hl4=>hN _ _ s4 ?_⟩
   rw [Wd.rng] at hl4
   obtain ⟨rs,rfl,lr,f⟩:=f3
   refine ⟨rs ++ [l4],by simp,by simp [lr],fun j q v h1 h2=>?_⟩
   rcases Nat.lt_or_ge j rs.length with z | z
   ·rw [List.getElem?_append_left z] at h1
    exact ⟨(f j q v h1 h2).1,s4 _ _ (f j q v h1 h2).2⟩
   ·rw [List.getElem?_append_right z] at h1
    have e0:j - rs.length=0:=by
     rcases Nat.eq_zero_or_pos (j - rs.length) with y | y
     ·exact y
     ·rw [List.getElem?_eq_none (by simp; omega)] at h1
      cases h1
    rw [e0] at h1
    cases h1
    have ej:j=i:=by omega
    subst ej
    rw [hw] at h2
    cases h2
    exact ⟨Ne.symm (xo el3 fl4),hl4⟩
  obtain ⟨rs,rfl,lr,f⟩:=f3
  have lw:rs.length=ws.length:=by rw [lr,wdsV,List.length_map]
  refine ⟨(by show 0≤sizeLine; exact Nat.zero_le _),fun q0 hq0=>?_⟩
  have s4:Same H3 (upd H3 q0 (.lst [])):=xp (Same.refl _) hq0
  have g4:upd H3 q0 (.lst []) q0=some (.lst []):=xf
  revert s4 g4
  generalize upd H3 q0 (.lst [])=H4
  intro s4 g4
  have f4:∀ (j:Nat) (q:Addr) (w:Wd),rs[j]?=some q→ws[j]?=some w→H4 q=some (.lst (w.rs.map V.int)):=fun j q w h1 h2=>s4 _ _ (f j q w h1 h2).2
  refine ⟨_,rfl,1,2,.lst [],_,.lst (SqL.of g4) rfl (fun j x d h=>by simp at h),xk6 (s4 _ _ el3) lw f4,by decide,by decide,_,rfl,ifN (by rw [if_neg (by decide)]; exact xln ok) ?_⟩
  refine ⟨(by show 0≤sizeLine; exact Nat.zero_le _),fun lr0 hlr0=>?_⟩
  have s04:Same H H4:=((s1.trans s2).trans s3).trans s4
  have fr0:=s04.free hlr0
  have el4:=s4 _ _ el3
  refine ⟨_,rfl,l1,rfl,⟨_,SqL.of (by rw [xj (xo el4 hlr0)]; exact el4)⟩,?_⟩
  refine xcg (xs:=rs.map V.ref) (Pv:=fun i σ H5=>∃ v3:Option V,σ=[some (.ref l),some (.ref l1),some (.ref lr0),v3]∧H5 lr0=some (.lst (((ws.take i).flatMap Wd.rs).map V.int))∧∀ b u,b≠lr0→H4 b=some u→H5 b=some u) ⟨_,rfl,xf,fun b u nb e=>by rw [xj nb]; exact e⟩ ?_ ?_ ?_
  ·rintro i σ H5 _ ⟨v3,_,_,k⟩
   exact SqL.of (k _ _ (xo el4 hlr0) el4)
  ·rintro i x σ H5 hx ⟨v3,rfl,h5,k⟩
   rw [List.getElem?_map] at hx
   obtain ⟨q2,hq2,rfl⟩:=Option.map_eq_some_iff.mp hx
   have ilt:i < ws.length:=by
    rw [← lw]
    exact (List.getElem?_eq_some_iff.mp hq2).1
   have hw:ws[i]?=some ws[i]:=List.getElem?_eq_getElem ilt
   have h2:=f4 i q2 _ hq2 hw
   have h3:=k _ _ (xo h2 hlr0) h2
   have b1:=xhh (ws:=ws.take i) fun v hv=>ok v (List.mem_of_mem_take hv)
   have b2:=Wd.rs_len (ok _ (List.mem_of_getElem? hw))
   have b3:(ws.take i).length≤12:=by rw [List.length_take]; omega
   refine ⟨_,rfl,.inl ⟨rfl,_,SqL.of h5⟩,_,rfl,lr0,q2,_,_,rfl,rfl,h5,h3,?_,_,rfl,?_,fun b u nb e=>?_⟩
   ·rw [List.length_map,List.length_map]
    exact Nat.le_trans (by omega:_≤1000) (by decide)
   ·have tk:ws.take (i + 1)=ws.take i ++ [ws[i]]:=by rw [List.take_succ,hw]; rfl
    rw [xf,tk,List.flatMap_append,List.map_append,List.flatMap_singleton]
   ·rw [xj nb]
    exact k b u nb e
  ·rintro σ H5 ⟨v3,rfl,h5,k⟩
   rw [List.length_map,lw,List.take_length] at h5
   exact ⟨_,rfl,q H5 lr0 (fun b u e=>k b u (xo (s04 _ _ e) hlr0) (s04 _ _ e)) fr0 h5⟩
theorem ok_aa (T:Txt w K mg t):FnOk true P w K mg base (CXo P w) 3 t.f_aa t.d_aa ["words"] (xk7):=by
 refine T.F_aa.okn (k:=2) sc_aa (fun vs H Q E h=>?_) (fun cdv A outer s H vs Q E hr h=>?_)
 ·obtain ⟨l,b,ws,rfl,_⟩:=h
  rfl
 ·obtain ⟨l,b,ws,rfl,h⟩:=h
  refine ⟨_,xh (xab (PW.pt (xbv (xu xbo (x6 xam rfl T.n_len boot_len (xb (pv 0) (xg))) (xaf (xb (xk) (xb (xk) (xb (xk) (xg))))) (by rfl)) (xbj (xu xej (xan xay (pv 0) (xk) (fun _ _=>rfl)) (xv) (xac _))))) (xn (xr (xaj))) (xt))
   (xh (xah (i:=1) sc_aa.nd rfl (Or.inl rfl) (x8 (ok_o T) (hr.mono (by decide)) rfl T.g_o T.F_o.kp T.b_o .nil xz (xb (x9 xe5 (xa3 xbc (pv 0) (xa2 (xk)) (xa2 (xk))) (xa3 xbc (pv 0) (xa2 (xk)) xbt)) (xg))))
   (xh (xab (xu xc0 (pv 1) (xaj) (xac _)) (xn (xr (xaj))) (xt))
   (xh (xcf (xa3 xbc (pv 1) xbt (xa2 (xk))) (xdd rfl (xad (x0 (i:=2) sc_aa.nd rfl (Or.inl rfl)) (xad (x0 (i:=3) sc_aa.nd rfl (Or.inl rfl)) (xa6)))))
   (xh (xah (i:=4) sc_aa.nd rfl (Or.inl rfl) (xb4 (xu xfj (x6 xam rfl T.n_len boot_len (xb (pv 0) (xg))) (xk) (xac _)) (xan xay (pv 0) (xk) (fun _ _=>rfl)) (xv)))
   (xh (xcf (xb4 (xu xfj (x6 xam rfl T.n_len boot_len (xb (pv 0) (xg))) (xk) (xac _)) (xa3 xbc (pv 1) (xa2 (xk)) xbt) (xaf (xb (xk) (xb (xaj) (xg))))) (xmd (xcm rfl (xad (x0 (i:=5) sc_aa.nd rfl (Or.inl rfl)) (xad (x0 (i:=6) sc_aa.nd rfl (Or.inl rfl)) (xa6)))) (xdd rfl (xad (x0 (i:=5) sc_aa.nd rfl (Or.inl rfl)) (xad (x0 (i:=6) sc_aa.nd rfl (Or.inl rfl)) (xa6))))))
   (xn ((by (with_reducible refine' xr ?e1); (case e1=>((exact xaf (xaa (xan xay (pv 0) (xk) (fun _ _=>rfl)) (xaa (pv 2) (xaa (pv 3) (xaa (pv 4) (xaa (pv 5) (xaa (pv 6) (xg) rfl) rfl) rfl) rfl) rfl) rfl)))))))))))),?_⟩
  obtain ⟨⟨hl,ne,ok,len⟩,q⟩:=h
  refine ⟨_,rfl,l,_,rfl,.inl (SqL.of hl),(by show 3≤sizeLine; decide),fun q1 hq1=>?_⟩
  have s1:Same H (upd H q1 (.tup [.int 4,.int 5,.int 7])):=xp (Same.refl _) hq1
  have g1:upd H q1 (.tup [.int 4,.int 5,.int 7]) q1=some (.tup [.int 4,.int 5,.int 7]):=xf
  revert s1 g1
  generalize upd H q1 (.tup [.int 4,.int 5,.int 7])=H1
  intro s1 g1
  refine ⟨q1,_,rfl,.inr (SqT.of g1),rfl,rfl,_,rfl,ite2 (fun c=>q _ s1) (fun c=>?_)⟩
  exact ⟨_,rfl,l,_,0,.str (xar b),rfl,rfl,SqL.of (s1 _ _ hl),xb7 (j:=0) rfl,rfl,_,rfl,ifP (by cases b <;> decide +kernel) (q _ s1)⟩
end
end S22
set_option maxRecDepth 100000
set_option maxHeartbeats 4000000
namespace S22
open PySem L2 XL PyProof.Rows
structure TxT (s:Str):Prop where
 len:s.length≤10
 fr:32 ∉ s.cps.toList
 ne:s.cps.toList≠[]
inductive Way where
 | a
 | b
 | c
structure Pw where
 nm:Str
 x:Nat
 y:Nat
 sd:Str
 lo:Nat
 hi:Nat
 way:Way
structure Pw.Ok (p:Pw):Prop where
 nm:TxT p.nm
 x:p.x < 100
 y:p.y < 100
 sd:TxT p.sd
 lo:p.lo < 100
 hi:p.hi < 100
def Pw.ws (p:Pw):List Str:=match p.way with
 | .a=>["point",p.nm,numT p.x,numT p.y]
 | .b=>["point",p.nm,numT p.x,numT p.y,p.sd]
 | .c=>["point",p.nm,numT p.x,numT p.y,p.sd,numT p.lo,numT p.hi]
def Pw.t (p:Pw):Str:=Str.join ⟨#[32]⟩ p.ws
def Pw.res (p:Pw):List V:=match p.way with
 | .a=>[.str p.nm,.int p.x,.int p.y,.str "both",.int 1,.non]
 | .b=>[.str p.nm,.int p.x,.int p.y,.str p.sd,.int 1,.non]
 | .c=>[.str p.nm,.int p.x,.int p.y,.str p.sd,.int p.lo,.int p.hi]
def PtW (H:Hp) (l:Addr) (p:Pw):Prop:=H l=some (.lst (p.ws.map V.str))∧p.Ok
def xnc:Sp:=fun vs H Q _=>∃ (l:Addr) (p:Pw),vs=[.ref l]∧PtW H l p∧∀ H',Same H H'→Q .non H'
def xk5:Sp:=fun vs H Q _=>∃ (l:Addr) (p:Pw),vs=[.ref l]∧PtW H l p∧∀ H' q,Same H H'→H' q=some (.tup p.res)→Q (.ref q) H'
theorem xlm (p:Pw):∃ r,p.ws.map V.str=.str "point" :: r∧3≤r.length:=by
 unfold Pw.ws
 cases p.way <;> exact ⟨_,rfl,by simp⟩
theorem xh9 {x y:Nat} (hx:x < 100) (hy:y < 100):∀ n ∈ [x,y],n < 100:=fun n hn=>by simp at hn; omega
theorem xkz {x y z u:Nat} (hx:x < 100) (hy:y < 100) (hz:z < 100) (hu:u < 100):∀ n ∈ [x,y,z,u],n < 100:=fun n hn=>by simp at hn; omega
section
variable {P:Program} {w:World} {K:PySem.W.Frag} {mg:Str→Option Value} {base:Heap} {t:Adr}
theorem okD_am (T:Txt w K mg t):FnOk true P w K mg base (CXo P w) 4 t.f_am t.d_am ["words"] (xnc):=by
 refine T.F_am.okn (k:=3) sc_am (fun vs H Q E h=>?_) (fun cdv A outer s H vs Q E hr h=>?_)
 ·obtain ⟨l,p,rfl,_⟩:=h
  rfl
 ·obtain ⟨l,p,rfl,h⟩:=h
  refine ⟨_,xh (xab (PW.pt (xbv (xu xix (x6 xam rfl T.n_len boot_len (xb (pv 0) (xg))) (xk) (xac _)) (xbj (xu xbo (xan xay (pv 0) (xk) (fun _ _=>rfl)) (xaf (xb (xv) (xb (xv) (xg)))) (by rfl))))) (xn (xr (xaj))) (xt))
   (xh (xdt rfl (xcw (zs:=["word"]) (ys:=[]) (fr:=[]) (N0:=["words", "spans", "rows", "span"]) (sc0:=xm s_am) (by decide +kernel) rfl rfl rfl) (xba (xa3 xbc (pv 0) (xa2 (xk)) xbt)) (fun _ _ _ _ _ ow nd=>x0 (i:=0) nd rfl (Or.inl (ow _ (by simp))) (Or.inr (ow _ (by simp)))) (xc2 (by decide)) (fun _ _ _ _ _=>xdi) (fun _ _ _ _ _=>x8 (ok_at T) (hr.mono (by decide)) rfl T.g_at T.F_at.kp T.b_at .nil xz (xb (pv 0) (xg))) (j:=1) rfl (Or.inl rfl))
   (xh (xab (xu (xjt (xdh hr)) (xa7 (xg)) (pv 1) (by rfl)) (xn (xr (xaj))) (xt))
   (xh (xah (i:=2) sc_am.nd rfl (Or.inl rfl) (xa7 (xg)))
   (xh (xb3 PassesOwn.never rfl (xba (pv 1)) (x0 (i:=3) sc_am.nd rfl (Or.inl rfl)) (xn (xbq (xdq PySem.F.plainAttrs_list PySem.F.slot_list_extend PySem.F.type_list_extend xf8 (pv 2) (xb (pv 3) (xg))))))
   (xn (xr (pv 2))))))),?_⟩
  obtain ⟨⟨hl,ok⟩,q⟩:=h
  obtain ⟨r,er,lr⟩:=xlm p
  rw [er] at hl
  refine ⟨_,rfl,l,_,rfl,.inl (SqL.of hl),_,_,rfl,rfl,_,rfl,ifN ?_ ⟨_,rfl,l,_,0,.str "point",rfl,rfl,SqL.of hl,xb7 (j:=0) rfl,(by show 2≤sizeLine; decide),fun q1 hq1=>?_⟩⟩
  ·simp
   omega
  have s1:Same H (upd H q1 (.tup [.str "left",.str "right"])):=xp (Same.refl _) hq1
  have g1:upd H q1 (.tup [.str "left",.str "right"]) q1=some (.tup [.str "left",.str "right"]):=xf
  revert s1 g1
  generalize upd H q1 (.tup [.str "left",.str "right"])=H1
  intro s1 g1
  exact ⟨q1,_,rfl,.inr (SqT.of g1),rfl,rfl,_,rfl,ifP (by decide +kernel) (q _ s1)⟩
theorem okD_aa (T:Txt w K mg t):FnOk true P w K mg base (CXo P w) 3 t.f_aa t.d_aa ["words"] (xk5):=by
 refine T.F_aa.okn (k:=2) sc_aa (fun vs H Q E h=>?_) (fun cdv A outer s H vs Q E hr h=>?_)
 ·obtain ⟨l,p,rfl,_⟩:=h
  rfl
 ·obtain ⟨l,p,rfl,h⟩:=h
  refine ⟨_,xh (xab (PW.pt (xbv (xu xbo (x6 xam rfl T.n_len boot_len (xb (pv 0) (xg))) (xaf (xb (xk) (xb (xk) (xb (xk) (xg))))) (by rfl)) (xbj (xu xej (xan xay (pv 0) (xk) (fun _ _=>rfl)) (xv) (xac _))))) (xn (xr (xaj))) (xt))
   (xh (xah (i:=1) sc_aa.nd rfl (Or.inl rfl) (x8 (ok_o T) (hr.mono (by decide)) rfl T.g_o T.F_o.kp T.b_o .nil xz (xb (x9 xe5 (xa3 xbc (pv 0) (xa2 (xk)) (xa2 (xk))) (xa3 xbc (pv 0) (xa2 (xk)) xbt)) (xg))))
   (xh (xab (xu xc0 (pv 1) (xaj) (xac _)) (xn (xr (xaj))) (xt))
   (xh (xcf (xa3 xbc (pv 1) xbt (xa2 (xk))) (xdd rfl (xad (x0 (i:=2) sc_aa.nd rfl (Or.inl rfl)) (xad (x0 (i:=3) sc_aa.nd rfl (Or.inl rfl)) (xa6)))))
   (xh (xah (i:=4) sc_aa.nd rfl (Or.inl rfl) (xb4 (xu xfj (x6 xam rfl T.n_len boot_len (xb (pv 0) (xg))) (xk) (xac _)) (xan xay (pv 0) (xk) (fun _ _=>rfl)) (xv)))
   (xh (xcf (xb4 (xu xfj (x6 xam rfl T.n_len boot_len (xb (pv 0) (xg))) (xk) (xac _)) (xa3 xbc (pv 1) (xa2 (xk)) xbt) (xaf (xb (xk) (xb (xaj) (xg))))) (xmd (xcm rfl (xad (x0 (i:=5) sc_aa.nd rfl (Or.inl rfl)) (xad (x0 (i:=6) sc_aa.nd rfl (Or.inl rfl)) (xa6)))) (xdd rfl (xad (x0 (i:=5) sc_aa.nd rfl (Or.inl rfl)) (xad (x0 (i:=6) sc_aa.nd rfl (Or.inl rfl)) (xa6))))))
   (xn ((by (with_reducible refine' xr ?e1); (case e1=>((exact xaf (xaa (xan xay (pv 0) (xk) (fun _ _=>rfl)) (xaa (pv 2) (xaa (pv 3) (xaa (pv 4) (xaa (pv 5) (xaa (pv 6) (xg) rfl) rfl) rfl) rfl) rfl) rfl)))))))))))),?_⟩
  obtain ⟨⟨hl,ok⟩,q⟩:=h
  have ox:=ok.x
  have oy:=ok.y
  have olo:=ok.lo
  have ohi:=ok.hi
  unfold Pw.ws at hl
  unfold Pw.res at q
  cases hw:p.way with
  | a =>
   rw [hw] at hl q
   have hl:H l=some (.lst [.str "point",.str p.nm,.str (numT p.x),.str (numT p.y)]):=hl
   refine ⟨_,rfl,l,_,rfl,.inl (SqL.of hl),(by show 3≤sizeLine; decide),fun q1 hq1=>?_⟩
   have s1:Same H (upd H q1 (.tup [.int 4,.int 5,.int 7])):=xp (Same.refl _) hq1
   have g1:upd H q1 (.tup [.int 4,.int 5,.int 7]) q1=some (.tup [.int 4,.int 5,.int 7]):=xf
   revert s1 g1
   generalize upd H q1 (.tup [.int 4,.int 5,.int 7])=H1
   intro s1 g1
   refine ⟨q1,_,rfl,.inr (SqT.of g1),rfl,rfl,_,rfl,ifN (by rfl) ?_⟩
   have hl1:=s1 _ _ hl
   refine ⟨_,rfl,l,_,0,.str "point",rfl,rfl,SqL.of hl1,rfl,rfl,_,rfl,ifN (by decide +kernel) ?_⟩
   refine ⟨_,rfl,2,rfl,4,rfl,l,_,rfl,SqL.of hl1,fun p1 hp1=>?_⟩
   rw [show cutV [V.str "point",.str p.nm,.str (numT p.x),.str (numT p.y)] (some 2) (some 4)=[.str (numT p.x),.str (numT p.y)] from rfl]
   have s2:Same H1 (upd H1 p1 (.lst [.str (numT p.x),.str (numT p.y)])):=xp (Same.refl _) hp1
   have g2:upd H1 p1 (.lst [.str (numT p.x),.str (numT p.y)]) p1=some (.lst [.str (numT p.x),.str (numT p.y)]):=xf
   revert s2 g2
   generalize upd H1 p1 (.lst [.str (numT p.x),.str (numT p.y)])=H2
   intro s2 g2
   refine ⟨_,rfl,5,rfl,l,_,rfl,SqL.of (s2 _ _ hl1),fun p2 hp2=>?_⟩
   rw [show cutV [V.str "point",.str p.nm,.str (numT p.x),.str (numT p.y)] (some 5) none=[] from rfl]
   have s3:Same H2 (upd H2 p2 (.lst [])):=xp (Same.refl _) hp2
   have g3:upd H2 p2 (.lst []) p2=some (.lst []):=xf
   revert s3 g3
   generalize upd H2 p2 (.lst [])=H3
   intro s3 g3
   refine ⟨p1,p2,_,_,rfl,rfl,s3 _ _ g2,g3,(by show 2 + 0≤sizeLine; decide),fun p3 hp3=>?_⟩
   rw [show ([.str (numT p.x),.str (numT p.y)] ++ []:List V)=[.str (numT p.x),.str (numT p.y)] from rfl]
   have s4:Same H3 (upd H3 p3 (.lst [.str (numT p.x),.str (numT p.y)])):=xp (Same.refl _) hp3
   have g4:upd H3 p3 (.lst [.str (numT p.x),.str (numT p.y)]) p3=some (.lst [.str (numT p.x),.str (numT p.y)]):=xf
   revert s4 g4
   generalize upd H3 p3 (.lst [.str (numT p.x),.str (numT p.y)])=H4
   intro s4 g4
   refine ⟨p3,[p.x,p.y],rfl,g4,xh9 ox oy,by simp,fun H5 l5 s5 fl5 hl5=>?_⟩
   have s05:=(((s1.trans s2).trans s3).trans s4).trans s5
   refine ⟨_,rfl,rfl,_,rfl,ifN (by simp) ?_⟩
   refine ⟨_,rfl,2,rfl,l5,_,rfl,SqL.of hl5,fun p6 hp6=>?_⟩
   rw [show cutV (List.map (fun (n:Nat)=>V.int (n:Int)) [p.x,p.y]) none (some 2)=[.int (p.x:Int),.int (p.y:Int)] from rfl]
   have s6:Same H5 (upd H5 p6 (.lst [.int (p.x:Int),.int (p.y:Int)])):=xp (Same.refl _) hp6
   have g6:upd H5 p6 (.lst [.int (p.x:Int),.int (p.y:Int)]) p6=some (.lst [.int (p.x:Int),.int (p.y:Int)]):=xf
   revert s6 g6
   generalize upd H5 p6 (.lst [.int (p.x:Int),.int (p.y:Int)])=H6
   intro s6 g6
   refine ⟨p6,_,rfl,SqL.of g6,rfl,_,_,rfl,_,_,rfl,rfl,?_⟩
   have hl6:=s6 _ _ (s05 _ _ hl)
   refine ⟨_,rfl,l,_,rfl,.inl (SqL.of hl6),_,_,rfl,rfl,_,rfl,ifN (by rfl) ?_⟩
   refine ⟨_,rfl,l,_,rfl,.inl (SqL.of hl6),_,_,rfl,rfl,_,rfl,ifN (by rfl) ?_⟩
   refine ⟨(by show 2≤sizeLine; decide),fun p7 hp7=>?_⟩
   have s7:Same H6 (upd H6 p7 (.tup [.int 1,.non])):=xp (Same.refl _) hp7
   have g7:upd H6 p7 (.tup [.int 1,.non]) p7=some (.tup [.int 1,.non]):=xf
   revert s7 g7
   generalize upd H6 p7 (.tup [.int 1,.non])=H7
   intro s7 g7
   refine .inl ⟨p7,_,rfl,SqT.of g7,rfl,_,_,rfl,_,_,rfl,rfl,?_⟩
   refine ⟨_,rfl,l,_,1,.str p.nm,rfl,rfl,SqL.of (s7 _ _ hl6),rfl,_,rfl,_,rfl,_,rfl,_,rfl,_,rfl,(by show 6≤sizeLine; decide),fun p8 hp8=>?_⟩
   exact q _ p8 ((s05.trans s6).trans (s7.trans (xp (Same.refl _) hp8))) xf
  | b =>
   rw [hw] at hl q
   have hl:H l=some (.lst [.str "point",.str p.nm,.str (numT p.x),.str (numT p.y),.str p.sd]):=hl
   refine ⟨_,rfl,l,_,rfl,.inl (SqL.of hl),(by show 3≤sizeLine; decide),fun q1 hq1=>?_⟩
   have s1:Same H (upd H q1 (.tup [.int 4,.int 5,.int 7])):=xp (Same.refl _) hq1
   have g1:upd H q1 (.tup [.int 4,.int 5,.int 7]) q1=some (.tup [.int 4,.int 5,.int 7]):=xf
   revert s1 g1
   generalize upd H q1 (.tup [.int 4,.int 5,.int 7])=H1
   intro s1 g1
   refine ⟨q1,_,rfl,.inr (SqT.of g1),rfl,rfl,_,rfl,ifN (by rfl) ?_⟩
   have hl1:=s1 _ _ hl
   refine ⟨_,rfl,l,_,0,.str "point",rfl,rfl,SqL.of hl1,rfl,rfl,_,rfl,ifN (by decide +kernel) ?_⟩
   refine ⟨_,rfl,2,rfl,4,rfl,l,_,rfl,SqL.of hl1,fun p1 hp1=>?_⟩
   rw [show cutV [V.str "point",.str p.nm,.str (numT p.x),.str (numT p.y),.str p.sd] (some 2) (some 4)=[.str (numT p.x),.str (numT p.y)] from rfl]
   have s2:Same H1 (upd H1 p1 (.lst [.str (numT p.x),.str (numT p.y)])):=xp (Same.refl _) hp1
   have g2:upd H1 p1 (.lst [.str (numT p.x),.str (numT p.y)]) p1=some (.lst [.str (numT p.x),.str (numT p.y)]):=xf
   revert s2 g2
   generalize upd H1 p1 (.lst [.str (numT p.x),.str (numT p.y)])=H2
   intro s2 g2
   refine ⟨_,rfl,5,rfl,l,_,rfl,SqL.of (s2 _ _ hl1),fun p2 hp2=>?_⟩
   rw [show cutV [V.str "point",.str p.nm,.str (numT p.x),.str (numT p.y),.str p.sd] (some 5) none=[] from rfl]
   have s3:Same H2 (upd H2 p2 (.lst [])):=xp (Same.refl _) hp2
   have g3:upd H2 p2 (.lst []) p2=some (.lst []):=xf
   revert s3 g3
   generalize upd H2 p2 (.lst [])=H3
   intro s3 g3
   refine ⟨p1,p2,_,_,rfl,rfl,s3 _ _ g2,g3,(by show 2 + 0≤sizeLine; decide),fun p3 hp3=>?_⟩
   rw [show ([.str (numT p.x),.str (numT p.y)] ++ []:List V)=[.str (numT p.x),.str (numT p.y)] from rfl]
   have s4:Same H3 (upd H3 p3 (.lst [.str (numT p.x),.str (numT p.y)])):=xp (Same.refl _) hp3
   have g4:upd H3 p3 (.lst [.str (numT p.x),.str (numT p.y)]) p3=some (.lst [.str (numT p.x),.str (numT p.y)]):=xf
   revert s4 g4
   generalize upd H3 p3 (.lst [.str (numT p.x),.str (numT p.y)])=H4
   intro s4 g4
   refine ⟨p3,[p.x,p.y],rfl,g4,xh9 ox oy,by simp,fun H5 l5 s5 fl5 hl5=>?_⟩
   have s05:=(((s1.trans s2).trans s3).trans s4).trans s5
   refine ⟨_,rfl,rfl,_,rfl,ifN (by simp) ?_⟩
   refine ⟨_,rfl,2,rfl,l5,_,rfl,SqL.of hl5,fun p6 hp6=>?_⟩
   rw [show cutV (List.map (fun (n:Nat)=>V.int (n:Int)) [p.x,p.y]) none (some 2)=[.int (p.x:Int),.int (p.y:Int)] from rfl]
   have s6:Same H5 (upd H5 p6 (.lst [.int (p.x:Int),.int (p.y:Int)])):=xp (Same.refl _) hp6
   have g6:upd H5 p6 (.lst [.int (p.x:Int),.int (p.y:Int)]) p6=some (.lst [.int (p.x:Int),.int (p.y:Int)]):=xf
   revert s6 g6
   generalize upd H5 p6 (.lst [.int (p.x:Int),.int (p.y:Int)])=H6
   intro s6 g6
   refine ⟨p6,_,rfl,SqL.of g6,rfl,_,_,rfl,_,_,rfl,rfl,?_⟩
   have hl6:=s6 _ _ (s05 _ _ hl)
   refine ⟨_,rfl,l,_,rfl,.inl (SqL.of hl6),_,_,rfl,rfl,_,rfl,ifP (by rfl) ⟨_,rfl,l,_,4,.str p.sd,rfl,rfl,SqL.of hl6,rfl,?_⟩⟩
   refine ⟨_,rfl,l,_,rfl,.inl (SqL.of hl6),_,_,rfl,rfl,_,rfl,ifN (by rfl) ?_⟩
   refine ⟨(by show 2≤sizeLine; decide),fun p7 hp7=>?_⟩
   have s7:Same H6 (upd H6 p7 (.tup [.int 1,.non])):=xp (Same.refl _) hp7
   have g7:upd H6 p7 (.tup [.int 1,.non]) p7=some (.tup [.int 1,.non]):=xf
   revert s7 g7
   generalize upd H6 p7 (.tup [.int 1,.non])=H7
   intro s7 g7
   refine .inl ⟨p7,_,rfl,SqT.of g7,rfl,_,_,rfl,_,_,rfl,rfl,?_⟩
   refine ⟨_,rfl,l,_,1,.str p.nm,rfl,rfl,SqL.of (s7 _ _ hl6),rfl,_,rfl,_,rfl,_,rfl,_,rfl,_,rfl,(by show 6≤sizeLine; decide),fun p8 hp8=>?_⟩
   exact q _ p8 ((s05.trans s6).trans (s7.trans (xp (Same.refl _) hp8))) xf
  | c =>
   rw [hw] at hl q
   have hl:H l=some (.lst [.str "point",.str p.nm,.str (numT p.x),.str (numT p.y),.str p.sd,.str (numT p.lo),.str (numT p.hi)]):=hl
   refine ⟨_,rfl,l,_,rfl,.inl (SqL.of hl),(by show 3≤sizeLine; decide),fun q1 hq1=>?_⟩
   have s1:Same H (upd H q1 (.tup [.int 4,.int 5,.int 7])):=xp (Same.refl _) hq1
   have g1:upd H q1 (.tup [.int 4,.int 5,.int 7]) q1=some (.tup [.int 4,.int 5,.int 7]):=xf
   revert s1 g1
   generalize upd H q1 (.tup [.int 4,.int 5,.int 7])=H1
   intro s1 g1
   refine ⟨q1,_,rfl,.inr (SqT.of g1),rfl,rfl,_,rfl,ifN (by rfl) ?_⟩
   have hl1:=s1 _ _ hl
   refine ⟨_,rfl,l,_,0,.str "point",rfl,rfl,SqL.of hl1,rfl,rfl,_,rfl,ifN (by decide +kernel) ?_⟩
   refine ⟨_,rfl,2,rfl,4,rfl,l,_,rfl,SqL.of hl1,fun p1 hp1=>?_⟩
   rw [show cutV [V.str "point",.str p.nm,.str (numT p.x),.str (numT p.y),.str p.sd,.str (numT p.lo),.str (numT p.hi)] (some 2) (some 4)=[.str (numT p.x),.str (numT p.y)] from rfl]
   have s2:Same H1 (upd H1 p1 (.lst [.str (numT p.x),.str (numT p.y)])):=xp (Same.refl _) hp1
   have g2:upd H1 p1 (.lst [.str (numT p.x),.str (numT p.y)]) p1=some (.lst [.str (numT p.x),.str (numT p.y)]):=xf
   revert s2 g2
   generalize upd H1 p1 (.lst [.str (numT p.x),.str (numT p.y)])=H2
   intro s2 g2
   refine ⟨_,rfl,5,rfl,l,_,rfl,SqL.of (s2 _ _ hl1),fun p2 hp2=>?_⟩
   rw [show cutV [V.str "point",.str p.nm,.str (numT p.x),.str (numT p.y),.str p.sd,.str (numT p.lo),.str (numT p.hi)] (some 5) none=[.str (numT p.lo),.str (numT p.hi)] from rfl]
   have s3:Same H2 (upd H2 p2 (.lst [.str (numT p.lo),.str (numT p.hi)])):=xp (Same.refl _) hp2
   have g3:upd H2 p2 (.lst [.str (numT p.lo),.str (numT p.hi)]) p2=some (.lst [.str (numT p.lo),.str (numT p.hi)]):=xf
   revert s3 g3
   generalize upd H2 p2 (.lst [.str (numT p.lo),.str (numT p.hi)])=H3
   intro s3 g3
   refine ⟨p1,p2,_,_,rfl,rfl,s3 _ _ g2,g3,(by show 2 + 2≤sizeLine; decide),fun p3 hp3=>?_⟩
   rw [show ([.str (numT p.x),.str (numT p.y)] ++ [.str (numT p.lo),.str (numT p.hi)]:List V)=[.str (numT p.x),.str (numT p.y),.str (numT p.lo),.str (numT p.hi)] from rfl]
   have s4:Same H3 (upd H3 p3 (.lst [.str (numT p.x),.str (numT p.y),.str (numT p.lo),.str (numT p.hi)])):=xp (Same.refl _) hp3
   have g4:upd H3 p3 (.lst [.str (numT p.x),.str (numT p.y),.str (numT p.lo),.str (numT p.hi)]) p3=some (.lst [.str (numT p.x),.str (numT p.y),.str (numT p.lo),.str (numT p.hi)]):=xf
   revert s4 g4
   generalize upd H3 p3 (.lst [.str (numT p.x),.str (numT p.y),.str (numT p.lo),.str (numT p.hi)])=H4
   intro s4 g4
   refine ⟨p3,[p.x,p.y,p.lo,p.hi],rfl,g4,xkz ox oy olo ohi,by simp,fun H5 l5 s5 fl5 hl5=>?_⟩
   have s05:=(((s1.trans s2).trans s3).trans s4).trans s5
   refine ⟨_,rfl,rfl,_,rfl,ifN (by simp) ?_⟩
   refine ⟨_,rfl,2,rfl,l5,_,rfl,SqL.of hl5,fun p6 hp6=>?_⟩
   have hl5:H5 l5=some (.lst [.int (p.x:Int),.int (p.y:Int),.int (p.lo:Int),.int (p.hi:Int)]):=hl5
   rw [show cutV (List.map (fun (n:Nat)=>V.int (n:Int)) [p.x,p.y,p.lo,p.hi]) none (some 2)=[.int (p.x:Int),.int (p.y:Int)] from rfl]
   have s6:Same H5 (upd H5 p6 (.lst [.int (p.x:Int),.int (p.y:Int)])):=xp (Same.refl _) hp6
   have g6:upd H5 p6 (.lst [.int (p.x:Int),.int (p.y:Int)]) p6=some (.lst [.int (p.x:Int),.int (p.y:Int)]):=xf
   revert s6 g6
   generalize upd H5 p6 (.lst [.int (p.x:Int),.int (p.y:Int)])=H6
   intro s6 g6
   refine ⟨p6,_,rfl,SqL.of g6,rfl,_,_,rfl,_,_,rfl,rfl,?_⟩
   have hl6:=s6 _ _ (s05 _ _ hl)
   refine ⟨_,rfl,l,_,rfl,.inl (SqL.of hl6),_,_,rfl,rfl,_,rfl,ifP (by rfl) ⟨_,rfl,l,_,4,.str p.sd,rfl,rfl,SqL.of hl6,rfl,?_⟩⟩
   refine ⟨_,rfl,l,_,rfl,.inl (SqL.of hl6),_,_,rfl,rfl,_,rfl,ifP (by rfl) ?_⟩
   refine ⟨_,rfl,2,rfl,l5,_,rfl,SqL.of (s6 _ _ hl5),fun p7 hp7=>?_⟩
   rw [show cutV [V.int (p.x:Int),.int (p.y:Int),.int (p.lo:Int),.int (p.hi:Int)] (some 2) none=[.int (p.lo:Int),.int (p.hi:Int)] from rfl]
   have s7:Same H6 (upd H6 p7 (.lst [.int (p.lo:Int),.int (p.hi:Int)])):=xp (Same.refl _) hp7
   have g7:upd H6 p7 (.lst [.int (p.lo:Int),.int (p.hi:Int)]) p7=some (.lst [.int (p.lo:Int),.int (p.hi:Int)]):=xf
   revert s7 g7
   generalize upd H6 p7 (.lst [.int (p.lo:Int),.int (p.hi:Int)])=H7
   intro s7 g7
   refine .inr ⟨p7,_,rfl,SqL.of g7,rfl,_,_,rfl,_,_,rfl,rfl,?_⟩
   refine ⟨_,rfl,l,_,1,.str p.nm,rfl,rfl,SqL.of (s7 _ _ hl6),rfl,_,rfl,_,rfl,_,rfl,_,rfl,_,rfl,(by show 6≤sizeLine; decide),fun p8 hp8=>?_⟩
   exact q _ p8 ((s05.trans s6).trans (s7.trans (xp (Same.refl _) hp8))) xf
end
end S22
set_option maxRecDepth 100000
set_option maxHeartbeats 4000000
namespace S22
open PySem L2 XL PyProof.Rows
def Pw.pt (ph:Int) (p:Pw):Pt:=match p.way with
 | .a=>⟨p.nm,p.x,p.y, "both",1,ph⟩
 | .b=>⟨p.nm,p.x,p.y,p.sd,1,ph⟩
 | .c=>⟨p.nm,p.x,p.y,p.sd,p.lo,p.hi⟩
theorem Pw.res_eq (p:Pw) (ph:Int):∃ hv,p.res=[.str (p.pt ph).nm,.int (p.pt ph).x,.int (p.pt ph).y,.str (p.pt ph).sd,.int (p.pt ph).lo,hv]∧((hv=.non∧(p.pt ph).hi=ph)∨hv=.int (p.pt ph).hi):=by
 unfold Pw.res Pw.pt
 cases p.way
 ·exact ⟨_,rfl,.inl ⟨rfl,rfl⟩⟩
 ·exact ⟨_,rfl,.inl ⟨rfl,rfl⟩⟩
 ·exact ⟨_,rfl,.inr rfl⟩
theorem Pw.nm_pt (p:Pw) (ph:Int):(p.pt ph).nm=p.nm:=by unfold Pw.pt; cases p.way <;> rfl
theorem xlo:TxT "both":=⟨by decide +kernel,by decide +kernel,by decide +kernel⟩
theorem Pw.sd_ok {p:Pw} (o:p.Ok) (ph:Int):TxT (p.pt ph).sd:=by
 unfold Pw.pt
 cases p.way
 ·exact xlo
 ·exact o.sd
 ·exact o.sd
def outP (pw ph:Int) (ps:List Pt) (d:Pt):Option Er:=xak pw ph ps (.str d.nm) (.int d.x) (.int d.y) (.str d.sd) (.int d.lo) (.int d.hi) (.str d.nm) (.int d.x) (.int d.y) (.str d.sd) (.int d.lo) (.int d.hi)
def xap (pw ph:Int):List Pt→List Pt→Option Er × List Pt
 | ps,[]=>(none,ps)
 | ps,d :: r=>match outP pw ph ps d with
  | some er=>(some er,ps)
  | none=>xap pw ph (ps ++ [d]) r
theorem xdn {pw ph:Int}:∀ {r1 r2:List Pt} {ps:List Pt},xap pw ph ps (r1 ++ r2)=match xap pw ph ps r1 with | (some er,s)=>(some er,s) | (none,s)=>xap pw ph s r2
 | [],r2,ps=>rfl
 | x :: r1,r2,ps=>by
  show (match outP pw ph ps x with | some er=>(some er,ps) | none=>xap pw ph (ps ++ [x]) (r1 ++ r2))=_
  rw [xap.eq_2]
  cases outP pw ph ps x with
  | some er=>rfl
  | none=>exact xdn
theorem xc5 {pw ph:Int} {r1 r2 ps s:List Pt} (h:xap pw ph ps r1=(none,s)):xap pw ph ps (r1 ++ r2)=xap pw ph s r2:=by rw [xdn,h]
theorem xev {pw ph:Int} {ps r:List Pt} {x:Pt} {er:Er} (h:outP pw ph ps x=some er):(xap pw ph ps (x :: r)).1=some er:=by
 rw [xap.eq_2,h]
theorem xdu {pw ph:Int} {ps r:List Pt} {x:Pt} (h:outP pw ph ps x=none):xap pw ph ps (x :: r)=xap pw ph (ps ++ [x]) r:=by
 rw [xap.eq_2,h]
theorem xjc {pw ph:Int} {r1 r2 ps:List Pt} {er:Er} (h:(xap pw ph ps r1).1=some er):(xap pw ph ps (r1 ++ r2)).1=some er:=by
 rw [xdn]
 cases e:xap pw ph ps r1 with
 | mk o s =>
  rw [e] at h
  change o=some er at h
  rw [h]
def xiv (b:Bool) (ws:List Wd):List Seat:=(ws.flatMap Wd.rs).map fun i=>(b,i)
def DoR (t:Adr) (H:Hp) (Q:VK) (a l:Addr):Prop:=∃ (dp do_:Addr) (pw ph:Int) (ps:List Pt) (ss:List Seat) (b:Bool) (ws:List Wd),Pic t H a dp do_ pw ph ps∧Sts H do_ ss∧RimW H l b ws∧SsOk ph (ss ++ xiv b ws) ∧
 ∀ H',(∀ c u,c≠do_→H c=some u→H' c=some u)→Pic t H' a dp do_ pw ph ps→Sts H' do_ (ss ++ xiv b ws)→Q .non H'
def DoP (t:Adr) (H:Hp) (Q:VK) (E:XK) (a l:Addr):Prop:=∃ (dp do_:Addr) (pw ph:Int) (ps:List Pt) (p:Pw),Pic t H a dp do_ pw ph ps∧PtW H l p ∧
 Outs t H (outP pw ph ps (p.pt ph)) E (∀ H',(∀ c u,c≠dp→H c=some u→H' c=some u)→Pic t H' a dp do_ pw ph (ps ++ [p.pt ph])→Q .non H')
def xn6 (t:Adr):Sp:=fun vs H Q E=>∃ (a l:Addr) (nv:V),vs=[.ref a,nv,.ref l]∧(DoR t H Q a l∨DoP t H Q E a l)
theorem SsOk.part {h:Int} {ss r:List Seat} (o:SsOk h (ss ++ r)):SsOk h ss:=⟨(List.nodup_append.mp o.1).1,by have:=o.2.1; rw [List.length_append] at this; omega,fun s hs=>o.2.2 s (List.mem_append_left _ hs)⟩
section
variable {P:Program} {w:World} {K:PySem.W.Frag} {mg:Str→Option Value} {base:Heap} {t:Adr}
theorem okT_ar (T:Txt w K mg t):FnOk true P w K mg base (CXo P w) 6 t.f_ar t.d_ar ["picture", "number", "words"] (xn6 t):=by
 refine T.F_ar.okx (k:=5) sc_ar (fun vs H Q E h=>?_) (fun cdv A outer s H vs Q E hr h=>?_)
 ·obtain ⟨a,l,nv,rfl,_⟩:=h
  rfl
 ·obtain ⟨a,l,nv,rfl,h⟩:=h
  refine ⟨_,xh (xah (i:=3) sc_ar.nd rfl (Or.inl rfl) (x8 ((ok_am T).or (okD_am T)) (hr.mono (by decide)) rfl T.g_am T.F_am.kp T.b_am .nil xag.pass (xb (pv 2) (xg))))
   (xh (xah (i:=4) sc_ar.nd rfl (Or.inl rfl) (x8 ((ok_aa T).or (okD_aa T)) (hr.mono (by decide)) rfl T.g_aa T.F_aa.kp T.b_aa .nil xag.pass (xb (pv 2) (xg))))
   (xn (xab (xu xed (pv 3) (xaj) (xac _)) (xn (xb3 PassesOwn.leaving rfl (xba (pv 3)) (x0 (i:=5) sc_ar.nd rfl (Or.inl rfl)) (xn (xbq (xdg (pv 0) T.c_t T.m_d (ok_d T) (hr.mono (by decide)) T.b_d .nil xag.pass (xb (xan xay (pv 2) (xk) (fun _ _=>rfl)) (xb (pv 5) (xg)))))))) (xn (xab (xu xed (pv 4) (xaj) (xac _)) (xh (xcf (pv 4) (xcm rfl (xad (x0 (i:=6) sc_ar.nd rfl (Or.inl rfl)) (xad (x0 (i:=7) sc_ar.nd rfl (Or.inl rfl)) (xad (x0 (i:=8) sc_ar.nd rfl (Or.inl rfl)) (xad (x0 (i:=9) sc_ar.nd rfl (Or.inl rfl)) (xad (x0 (i:=10) sc_ar.nd rfl (Or.inl rfl)) (xad (x0 (i:=11) sc_ar.nd rfl (Or.inl rfl)) (xa6)))))))))
   (xn (xbq (xdg (pv 0) T.c_t T.m_g (okT_g T) (hr.mono (by decide)) T.b_g .nil xag.pass (xaa (pv 6) (xaa (pv 7) (xaa (pv 8) (xaa (pv 9) (xaa (pv 10) (xaa (pv 11) (xg) rfl) rfl) rfl) rfl) rfl) rfl))))) (xn (xb6))))))),?_⟩
  rcases h with ⟨dp,do_,pw,ph,ps,ss,b,ws,pic,st,rim,sok,q⟩ | ⟨dp,do_,pw,ph,ps,p,pic,ptw,hE,q⟩
  ·refine ⟨_,rfl,.inl ⟨l,b,ws,rfl,rim,fun H1 l1 s1 fl1 hl1=>?_⟩⟩
   have rim1:RimW H1 l b ws:=⟨s1 _ _ rim.1,rim.2⟩
   refine ⟨_,rfl,.inl ⟨l,b,ws,rfl,rim1,fun H2 s2=>?_⟩⟩
   refine ⟨_,rfl,rfl,_,rfl,ifP (by rfl) ?_⟩
   have s02:=s1.trans s2
   have hl2:=s2 _ _ hl1
   obtain ⟨ko,hko,_⟩:=id (st.same s02)
   have n1:l1≠do_:=xbm hl2 hko (fun z=>nomatch z)
   have n2:l≠do_:=xbm (s02 _ _ rim.1) hko (fun z=>nomatch z)
   refine ⟨_,rfl,l1,rfl,⟨_,SqL.of hl2⟩,?_⟩
   refine xcg (xs:=(ws.flatMap Wd.rs).map V.int) (Pv:=fun i σ H5=>∃ (v5 v6 v7 v8 v9 v10 v11:Option V),σ=[some (.ref a),some nv,some (.ref l),some (.ref l1),some .non,v5,v6,v7,v8,v9,v10,v11]∧(∀ c u,c≠do_→H2 c=some u→H5 c=some u)∧Pic t H5 a dp do_ pw ph ps∧Sts H5 do_ (ss ++ ((ws.flatMap Wd.rs).take i).map fun i=>(b,i))) ⟨_,_,_,_,_,_,_,rfl,fun _ _ _ e=>e,Pic.same s02 pic,by rw [List.take_zero,List.map_nil,List.append_nil]; exact st.same s02⟩ ?_ ?_ ?_
   ·rintro i σ H5 _ ⟨_,_,_,_,_,_,_,_,k,_⟩
    exact SqL.of (k _ _ n1 hl2)
   ·rintro i x σ H5 hx ⟨v5,v6,v7,v8,v9,v10,v11,rfl,k,pic5,st5⟩
    rw [List.getElem?_map] at hx
    obtain ⟨r,hr,rfl⟩:=Option.map_eq_some_iff.mp hx
    obtain ⟨⟨dx5,hp5⟩,_⟩:=id pic5
    have tk:(((ws.flatMap Wd.rs).take (i + 1)).map fun i=>(b,i))=(((ws.flatMap Wd.rs).take i).map fun i=>(b,i)) ++ [(b,r)]:=by
     rw [List.take_succ,hr,List.map_append]
     rfl
    have cut:ss ++ xiv b ws=(ss ++ (((ws.flatMap Wd.rs).take (i + 1)).map fun i=>(b,i))) ++ (((ws.flatMap Wd.rs).drop (i + 1)).map fun i=>(b,i)):=by
     rw [List.append_assoc,← List.map_append,List.take_append_drop]
     rfl
    have sok1:=sok
    rw [cut] at sok1
    have sok2:=sok1.part
    rw [tk,← List.append_assoc] at sok2
    have rr:=sok2.2.2 (b,r) (List.mem_append_right _ List.mem_cons_self)
    have nin:(b,r) ∉ ss ++ (((ws.flatMap Wd.rs).take i).map fun i=>(b,i)):=fun z=>(List.nodup_append.mp sok2.1).2.2 _ z _ List.mem_cons_self rfl
    have lt:(ss ++ (((ws.flatMap Wd.rs).take i).map fun i=>(b,i))).length < 32:=by
     have:=sok2.2.1
     rw [List.length_append,List.length_singleton] at this
     omega
    refine ⟨_,rfl,a,dx5,_,rfl,hp5,xcj (by decide +kernel),_,rfl,l,_,0,.str (xar b),rfl,rfl,SqL.of (k _ _ n2 (s02 _ _ rim.1)),xb7 (j:=0) rfl,_,rfl,a,dp,do_,pw,ph,ps,_,b,r,rfl,pic5,st5,rr.1,rr.2,nin,lt,fun H6 k6 pic6 st6=>?_⟩
    refine ⟨_,_,_,_,_,_,_,rfl,fun c u nc e=>k6 c u nc (k c u nc e),pic6,?_⟩
    rw [tk,← List.append_assoc]
    exact st6
   ·rintro σ H5 ⟨_,_,_,_,_,_,_,rfl,k,pic5,st5⟩
    rw [List.length_map,List.take_length] at st5
    exact q H5 (fun c u nc e=>k c u nc (s02 _ _ e)) pic5 st5
  ·refine ⟨_,rfl,.inr ⟨l,p,rfl,ptw,fun H1 s1=>?_⟩⟩
   refine ⟨_,rfl,.inr ⟨l,p,rfl,⟨s1 _ _ ptw.1,ptw.2⟩,fun H2 q2 s2 hq2=>?_⟩⟩
   refine ⟨_,rfl,rfl,_,rfl,ifN (by rfl) ⟨_,rfl,rfl,_,rfl,ifP (by rfl) ?_⟩⟩
   obtain ⟨hv,er,hh⟩:=p.res_eq ph
   rw [er] at hq2
   refine ⟨_,rfl,q2,_,rfl,SqT.of hq2,rfl,_,_,rfl,_,_,rfl,_,_,rfl,_,_,rfl,_,_,rfl,_,_,rfl,rfl,?_⟩
   have s02:=s1.trans s2
   have pic2:=Pic.same s02 pic
   obtain ⟨⟨dx2,hp2⟩,_⟩:=id pic2
   have nl:=ptw.2.nm.len
   have sl:=(Pw.sd_ok ptw.2 ph).len
   have tn:Thg H2 (.str (p.pt ph).nm) (.str (p.pt ph).nm):=.str _ (by rw [Pw.nm_pt]; omega)
   have ts:Thg H2 (.str (p.pt ph).sd) (.str (p.pt ph).sd):=.str _ (by omega)
   refine ⟨_,rfl,a,dx2,_,rfl,hp2,xcj (by decide +kernel),_,rfl,_,rfl,_,rfl,_,rfl,_,rfl,_,rfl,?_⟩
   rcases hh with ⟨rfl,eh⟩ | rfl
   ·refine ⟨a,dp,do_,pw,ph,ps,_,_,_,_,_,.non,.int ph,_,_,_,_,_,.non,.int ph,rfl,pic2,tn,.int _,.int _,ts,.int _,.non,.inl ⟨rfl,rfl,rfl⟩,?_,?_⟩
    ·intro er her e H' z
     refine hE er ?_ e H' (xbb.pre s02 z)
     unfold outP
     rw [eh]
     exact her
    ·rintro out nm i j sd l1 h1 H' e1 e2 e3 e4 e5 e6 k pc po _ _
     cases e1
     cases e2
     cases e3
     cases e4
     cases e5
     cases e6
     refine q ?_ H' (fun c u nc e=>k c u nc (s02 _ _ e)) ?_
     ·unfold outP
      rw [eh]
      exact out
     ·have e7:(⟨(p.pt ph).nm,(p.pt ph).x,(p.pt ph).y,(p.pt ph).sd,(p.pt ph).lo,ph⟩:Pt)=p.pt ph:=by
       conv=>rhs; rw [show p.pt ph=⟨(p.pt ph).nm,(p.pt ph).x,(p.pt ph).y,(p.pt ph).sd,(p.pt ph).lo,(p.pt ph).hi⟩ from rfl]
       rw [eh]
      rw [← e7]
      exact pc
   ·refine ⟨a,dp,do_,pw,ph,ps,_,_,_,_,_,.int (p.pt ph).hi,.int (p.pt ph).hi,_,_,_,_,_,.int (p.pt ph).hi,.int (p.pt ph).hi,rfl,pic2,tn,.int _,.int _,ts,.int _,.int _,.inr ⟨(fun z=>nomatch z),rfl,rfl⟩,?_,?_⟩
    ·intro er her e H' z
     exact hE er her e H' (xbb.pre s02 z)
    ·rintro out nm i j sd l1 h1 H' e1 e2 e3 e4 e5 e6 k pc po _ _
     cases e1
     cases e2
     cases e3
     cases e4
     cases e5
     cases e6
     exact q out H' (fun c u nc e=>k c u nc (s02 _ _ e)) pc
end
end S22
set_option maxRecDepth 100000
set_option maxHeartbeats 4000000
namespace S22
open PySem L2 XL PyProof.Rows
def frT (w h:Nat):Str:=Str.join ⟨#[32]⟩ ["frame",numT w,numT h]
theorem xm8 {w h:Nat} (w1:w < 100) (h1:h < 100):∀ p ∈ [("frame":Str),numT w,numT h],32 ∉ p.cps.toList∧p.cps.toList≠[]:=fun p hp=>by
 rcases List.mem_cons.mp hp with rfl | hp
 ·exact ⟨by decide +kernel,by decide +kernel⟩
 rcases List.mem_cons.mp hp with rfl | hp
 ·exact ⟨xc8 w1 (by decide),xfr w1⟩
 rcases List.mem_cons.mp hp with rfl | hp
 ·exact ⟨xc8 h1 (by decide),xfr h1⟩
 ·cases hp
theorem xdj {n:Nat} (h:n < 100):(numT n).length≤5:=by rcases xdr h with z | ⟨z,_⟩ <;> omega
theorem xnq {w h:Nat} (w1:w < 100) (h1:h < 100):(frT w h).length≤18 :=
 xds (c:=32) (k:=5) (ws:=["frame",numT w,numT h]) fun p hp=>by
  rcases List.mem_cons.mp hp with rfl | hp
  ·decide +kernel
  rcases List.mem_cons.mp hp with rfl | hp
  ·exact xdj w1
  rcases List.mem_cons.mp hp with rfl | hp
  ·exact xdj h1
  ·cases hp
theorem TxT.num {n:Nat} (h:n < 100):TxT (numT n):=⟨Nat.le_trans (xdj h) (by decide),xc8 h (by decide),xfr h⟩
theorem Pw.words {p:Pw} (o:p.Ok):∀ s ∈ p.ws,TxT s:=by
 have hp:TxT "point":=⟨by decide +kernel,by decide +kernel,by decide +kernel⟩
 unfold Pw.ws
 cases p.way <;> intro s hs <;> simp only [List.mem_cons,List.not_mem_nil,or_false] at hs
 ·rcases hs with rfl | rfl | rfl | rfl
  ·exact hp
  ·exact o.nm
  ·exact .num o.x
  ·exact .num o.y
 ·rcases hs with rfl | rfl | rfl | rfl | rfl
  ·exact hp
  ·exact o.nm
  ·exact .num o.x
  ·exact .num o.y
  ·exact o.sd
 ·rcases hs with rfl | rfl | rfl | rfl | rfl | rfl | rfl
  ·exact hp
  ·exact o.nm
  ·exact .num o.x
  ·exact .num o.y
  ·exact o.sd
  ·exact .num o.lo
  ·exact .num o.hi
theorem Pw.ws_len (p:Pw):p.ws.length≤7∧p.ws≠[]:=by
 unfold Pw.ws
 cases p.way <;> exact ⟨by simp,by simp⟩
theorem Pw.len {p:Pw} (o:p.Ok):p.t.length≤77:=by
 have h:=xds (c:=32) (k:=10) (ws:=p.ws) fun s hs=>(Pw.words o s hs).len
 have:=p.ws_len.1
 show (Str.join ⟨#[32]⟩ p.ws).length≤77
 omega
def w11:Wd:=⟨1,1,false⟩
theorem xo4:w11.Ok:=⟨by decide,by decide,by decide,fun _=>rfl⟩
def xce (w h:Nat) (dws:List Pw):Option Er:=(xap w h [] (dws.map (Pw.pt h))).1
def linV (w h:Nat) (dws:List Pw):List V:=.str (frT w h) :: .str "right 1" :: dws.map fun p=>V.str p.t
def xm0 (t:Adr):Sp:=fun vs H Q E=>∃ (ll:Addr) (w h:Nat) (dws:List Pw),vs=[.ref ll]∧H ll=some (.lst (linV w h dws))∧(1≤w∧w≤30)∧(1≤h∧h≤16)∧(∀ p ∈ dws,p.Ok)∧dws.length≤13 ∧
 Outs t H (xce w h dws) E (∀ H' a dp do_ ps,xap w h [] (dws.map (Pw.pt h))=(none,ps)→Same H H'→Pic t H' a dp do_ w h ps→Sts H' do_ [(false,1)]→Q (.ref a) H')
def IPic (t:Adr) (H6:Hp) (ll l2 a dp do_:Addr) (w h:Nat) (dws:List Pw) (i:Nat) (σ:L2.St) (H7:Hp):Prop:=∃ (v5 v6:Option V) (ps:List Pt),σ=[some (.ref ll),some (.ref l2),some (.int w),some (.int h),some (.ref a),v5,v6]∧(∀ c u,c≠do_→c≠dp→H6 c=some u→H7 c=some u)∧Pic t H7 a dp do_ w h ps ∧
 ((i=0∧ps=[]∧Sts H7 do_ [])∨(1≤i∧xap w h [] ((dws.take (i - 1)).map (Pw.pt h))=(none,ps)∧Sts H7 do_ [(false,1)]))
section
variable {P:Program} {w:World} {K:PySem.W.Frag} {mg:Str→Option Value} {base:Heap} {t:Adr}
theorem okT_x (T:Txt w K mg t):FnOk true P w K mg base (CXo P w) 7 t.f_x t.d_x ["lines"] (xm0 t):=by
 refine T.F_x.okx (k:=6) sc_x (fun vs H Q E h=>?_) (fun cdv A outer s H vs Q E hr h=>?_)
 ·obtain ⟨ll,w',h',dws,rfl,_⟩:=h
  rfl
 ·obtain ⟨ll,w',h',dws,rfl,h⟩:=h
  refine ⟨_,xh (xab (PW.pt (xbv (xa8 (xav (x6 xao rfl T.n_isinstance boot_isinstance (xb (pv 0) (xb (xbz (v:=.ty "list") rfl T.n_list boot_list rfl) (xg)))))) (xbj (xu xa9 (x6 xam rfl T.n_len boot_len (xb (pv 0) (xg))) (xk) (xac _))))) (xn (xb6)) (xt))
   (xh (xah (i:=1) sc_x.nd rfl (Or.inl rfl) (x8 (ok_an T) (hr.mono (by decide)) rfl T.g_an T.F_an.kp T.b_an .nil xag.pass (xb (x8 (ok_aj T) (hr.mono (by decide)) rfl T.g_aj T.F_aj.kp T.b_aj .nil xag.pass (xb (xan xay (pv 0) (xk) (fun _ _=>rfl)) (xg))) (xg))))
   (xh (xab (xu xc0 (pv 1) (xaj) (xac _)) (xn (xb6)) (xt))
   (xh (xcf (pv 1) (xdd rfl (xad (x0 (i:=2) sc_x.nd rfl (Or.inl rfl)) (xad (x0 (i:=3) sc_x.nd rfl (Or.inl rfl)) (xa6)))))
   (xh (xah (i:=4) sc_x.nd rfl (Or.inl rfl) (xfp T.k_t (ok_s T) (hr.mono (by decide)) rfl T.g_t T.b_s .nil xag.pass (xb (pv 2) (xb (pv 3) (xg)))))
   (xh (xb3 PassesOwn.leaving rfl (xk2 rfl T.n_enumerate (xb (xa3 xbc (pv 0) (xa2 (xk)) xbt) (xg)) (xk)) (xcm rfl (xad (x0 (i:=5) sc_x.nd rfl (Or.inl rfl)) (xad (x0 (i:=6) sc_x.nd rfl (Or.inl rfl)) (xa6)))) (xn (xbq (x8 (okT_ar T) (hr.mono (by decide)) rfl T.g_ar T.F_ar.kp T.b_ar .nil xag.pass (xb (pv 4) (xb (pv 5) (xb (x8 (ok_aj T) (hr.mono (by decide)) rfl T.g_aj T.F_aj.kp T.b_aj .nil xag.pass (xb (pv 6) (xg))) (xg))))))))
   (xn (xr (pv 4)))))))),?_⟩
  obtain ⟨hl,⟨w1,w2⟩,⟨h1,h2⟩,ok,len,hE,q⟩:=h
  have w100:w' < 100:=by omega
  have h100:h' < 100:=by omega
  refine ⟨_,rfl,_,_,rfl,.inl ⟨_,_,true,.lst hl,rfl,xbl,true,rfl,ifN (by decide) ⟨_,rfl,ll,_,rfl,.inl (SqL.of hl),rfl,_,rfl,ifN (by simp [linV]; omega) ?_⟩⟩⟩
  have fl:=xnq w100 h100
  refine ⟨_,rfl,ll,_,0,.str (frT w' h'),rfl,rfl,SqL.of hl,xb7 (j:=0) rfl,[("frame":Str),numT w',numT h'],rfl,by simp,xm8 w100 h100,Nat.le_trans fl (by decide),fun lw hlw=>?_⟩
  rw [show ([("frame":Str),numT w',numT h'].map V.str)=[V.str "frame",V.str (numT w'),V.str (numT h')] from rfl]
  have s1:Same H (upd H lw (.lst [V.str "frame",V.str (numT w'),V.str (numT h')])):=xp (Same.refl _) hlw
  have g1:upd H lw (.lst [V.str "frame",V.str (numT w'),V.str (numT h')]) lw=some (.lst [V.str "frame",V.str (numT w'),V.str (numT h')]):=xf
  revert s1 g1
  generalize upd H lw (.lst [V.str "frame",V.str (numT w'),V.str (numT h')])=H1
  intro s1 g1
  refine ⟨lw,w',h',rfl,g1,w100,h100,fun H2 l2 s2 fl2 hl2=>?_⟩
  refine ⟨_,rfl,rfl,_,rfl,ifN (by simp) ?_⟩
  refine ⟨_,rfl,l2,_,rfl,SqL.of hl2,rfl,_,_,rfl,_,_,rfl,rfl,?_⟩
  have s02:=s1.trans s2
  refine ⟨_,rfl,_,rfl,fun a dx ha hdx ne=>?_⟩
  refine ⟨a,dx,w',h',rfl,xf,by omega,by omega,by omega,by omega,fun H5 dp do_ hdp hdo k5 pic5 hdt=>⟨rfl,?_⟩⟩
  have s5:Same H H5:=fun b u e=>k5 b u (xo (s02 _ _ e) ha) (by rw [xj (xo (s02 _ _ e) ha),xj (xo (s02 _ _ e) hdx)]; exact s02 _ _ e)
  have up:∀ b,upd (upd H2 dx (.own a)) a (.ins t.C_t dx []) b=none→H2 b=none:=fun b z=>by
   cases e:H2 b with
   | none=>rfl
   | some u=>rw [xj (xo e ha),xj (xo e hdx),e] at z; cases z
  have fdo:H do_=none:=s02.free (up _ hdo)
  have fdp:H dp=none:=s02.free (up _ hdp)
  refine ⟨_,rfl,1,rfl,ll,_,rfl,SqL.of (s5 _ _ hl),fun p hp=>?_⟩
  rw [show cutV (linV w' h' dws) (some 1) none=.str "right 1" :: dws.map fun p=>V.str p.t from xma]
  have s6:Same H5 (upd H5 p (.lst (.str "right 1" :: dws.map fun p=>V.str p.t))):=xp (Same.refl _) hp
  have g6:upd H5 p (.lst (.str "right 1" :: dws.map fun p=>V.str p.t)) p=some (.lst (.str "right 1" :: dws.map fun p=>V.str p.t)):=xf
  revert s6 g6
  generalize upd H5 p (.lst (.str "right 1" :: dws.map fun p=>V.str p.t))=H6
  intro s6 g6
  have s06:=s5.trans s6
  obtain ⟨kd,hkd,_⟩:=id pic5.pl
  have np:p≠do_:=Ne.symm (xo hdt hp)
  have np2:p≠dp:=Ne.symm (xo hkd hp)
  refine ⟨p,_,rfl,rfl,SqL.of g6,?_⟩
  refine xj4 (xs:=.str "right 1" :: dws.map fun p=>V.str p.t) (Pv:=IPic t H6 ll l2 a dp do_ w' h' dws) ⟨_,_,[],rfl,fun _ _ _ _ e=>e,Pic.same s6 pic5,.inl ⟨rfl,rfl,[],s6 _ _ hdt,rfl,List.nodup_nil,Nat.zero_le _⟩⟩ ?_ ?_ ?_
  ·rintro i σ H7 _ ⟨_,_,_,_,k,_⟩
   exact SqL.of (k _ _ np np2 g6)
  ·rintro i x p2 σ H7 hx hp2 ⟨v5,v6,ps,rfl,k,pic7,st7⟩
   rcases st7 with ⟨rfl,rfl,st7⟩ | ⟨i1,eo,st7⟩
   ·cases hx
    have s8:Same H7 (upd H7 p2 (.tup [.int (((0:Nat):Int) + 1),.str "right 1"])):=xp (Same.refl _) hp2
    have g8:upd H7 p2 (.tup [.int (((0:Nat):Int) + 1),.str "right 1"]) p2=some (.tup [.int (((0:Nat):Int) + 1),.str "right 1"]):=xf
    revert s8 g8
    generalize upd H7 p2 (.tup [.int (((0:Nat):Int) + 1),.str "right 1"])=H8
    intro s8 g8
    refine ⟨p2,_,rfl,SqT.of g8,rfl,_,_,rfl,_,_,rfl,rfl,?_⟩
    refine ⟨_,rfl,_,rfl,_,rfl,["right", "1"],by decide +kernel,by simp,?_,by decide +kernel,fun l9 hl9=>?_⟩
    ·intro z hz
     simp only [List.mem_cons,List.not_mem_nil,or_false] at hz
     rcases hz with rfl | rfl <;> exact ⟨by decide +kernel,by decide +kernel⟩
    have e9:((["right", "1"]:List Str).map V.str)=.str (xar false) :: wdsV [w11]:=by decide +kernel
    rw [e9]
    have s9:Same H8 (upd H8 l9 (.lst (.str (xar false) :: wdsV [w11]))):=xp (Same.refl _) hl9
    have g9:upd H8 l9 (.lst (.str (xar false) :: wdsV [w11])) l9=some (.lst (.str (xar false) :: wdsV [w11])):=xf
    revert s9 g9
    generalize upd H8 l9 (.lst (.str (xar false) :: wdsV [w11]))=H9
    intro s9 g9
    have s79:=s8.trans s9
    refine ⟨a,l9,.int (((0:Nat):Int) + 1),rfl,.inl ⟨dp,do_,w',h',[],[],false,[w11],Pic.same s79 pic7,st7.same s79,⟨g9,by simp,fun w hw=>by rw [List.mem_singleton.mp hw]; exact xo4,by simp⟩,?_,fun H' kz pc st'=>?_⟩⟩
    ·refine ⟨by decide,by decide,fun s hs=>?_⟩
     have:s=(false,1):=by
      change s ∈ [((false,1):Seat)] at hs
      exact List.mem_singleton.mp hs
     rw [this]
     show (1:Int)≤1∧(1:Int)≤h'
     omega
    ·exact ⟨_,_,[],rfl,fun c u nc nd e=>kz c u nc (s79 _ _ (k c u nc nd e)),pc,.inr ⟨Nat.le_refl _,rfl,st'⟩⟩
   ·obtain ⟨j,rfl⟩:∃ j,i=j + 1:=⟨i - 1,by omega⟩
    rw [List.getElem?_cons_succ,List.getElem?_map] at hx
    obtain ⟨d,hd,rfl⟩:=Option.map_eq_some_iff.mp hx
    have o:=ok d (List.mem_of_getElem? hd)
    rw [Nat.add_sub_cancel] at eo
    have cut:dws.map (Pw.pt h')=(dws.take j).map (Pw.pt h') ++ d.pt h' :: (dws.drop (j + 1)).map (Pw.pt h'):=by
     obtain ⟨y1,y2⟩:=List.getElem?_eq_some_iff.mp hd
     have e:=(List.take_append_drop j dws).symm
     rw [List.drop_eq_getElem_cons y1,y2] at e
     exact (congrArg (List.map (Pw.pt h')) e).trans (by rw [List.map_append,List.map_cons])
    have tk:(dws.take (j + 1)).map (Pw.pt h')=(dws.take j).map (Pw.pt h') ++ [d.pt h']:=by
     rw [List.take_succ,hd,List.map_append]
     rfl
    have s8:Same H7 (upd H7 p2 (.tup [.int (((j + 1:Nat):Int) + 1),.str d.t])):=xp (Same.refl _) hp2
    have g8:upd H7 p2 (.tup [.int (((j + 1:Nat):Int) + 1),.str d.t]) p2=some (.tup [.int (((j + 1:Nat):Int) + 1),.str d.t]):=xf
    revert s8 g8
    generalize upd H7 p2 (.tup [.int (((j + 1:Nat):Int) + 1),.str d.t])=H8
    intro s8 g8
    refine ⟨p2,_,rfl,SqT.of g8,rfl,_,_,rfl,_,_,rfl,rfl,?_⟩
    have tl:=Pw.len o
    refine ⟨_,rfl,_,rfl,_,rfl,d.ws,rfl,d.ws_len.2,fun s hs=>⟨(Pw.words o s hs).fr,(Pw.words o s hs).ne⟩,Nat.le_trans tl (by decide),fun l9 hl9=>?_⟩
    have s9:Same H8 (upd H8 l9 (.lst (d.ws.map V.str))):=xp (Same.refl _) hl9
    have g9:upd H8 l9 (.lst (d.ws.map V.str)) l9=some (.lst (d.ws.map V.str)):=xf
    revert s9 g9
    generalize upd H8 l9 (.lst (d.ws.map V.str))=H9
    intro s9 g9
    have s79:=s8.trans s9
    refine ⟨a,l9,.int (((j + 1:Nat):Int) + 1),rfl,.inr ⟨dp,do_,w',h',ps,d,Pic.same s79 pic7,⟨g9,o⟩,?_,?_⟩⟩
    ·intro er her e H' z
     refine hE er ?_ e H' ⟨fun b u eb=>z.1 _ _ (s79 _ _ (k b u (xo eb fdo) (xo eb fdp) (s06 _ _ eb))),z.2⟩
     unfold xce
     rw [cut,xc5 eo]
     exact xev her
    ·intro out H' kz pc
     obtain ⟨ko,hko,hk2⟩:=id (st7.same s79)
     obtain ⟨kp,hkp,_⟩:=(Pic.same s79 pic7).pl
     refine ⟨_,_,ps ++ [d.pt h'],rfl,fun c u nc nd e=>kz c u nd (s79 _ _ (k c u nc nd e)),pc,.inr ⟨by omega,?_,ko,kz _ _ (xbm hko hkp (fun z=>nomatch z)) hko,hk2⟩⟩
     rw [Nat.add_sub_cancel,tk,xc5 eo]
     exact xdu out
  ·rintro σ H7 ⟨v5,v6,ps,rfl,k,pic7,st7⟩
   rcases st7 with ⟨e,_⟩ | ⟨_,eo,st7⟩
   ·simp at e
   ·rw [List.length_cons,List.length_map,Nat.add_sub_cancel,List.take_length] at eo
    refine ⟨_,rfl,q (by unfold xce; rw [eo]) H7 a dp do_ ps eo (fun b u eb=>k b u (xo eb fdo) (xo eb fdp) (s06 _ _ eb)) pic7 st7⟩
end
end S22
set_option maxRecDepth 100000
set_option maxHeartbeats 4000000
namespace S22
open PySem L2 XL PyProof.Rows
theorem xjj {x d:Int} (h:0 < d) (h2:d≤4294967296):-(2 ^ 64) < x % d∧x % d < 2 ^ 64:=by
 have a:=Int.emod_nonneg x (show d≠0 by omega)
 have b:=Int.emod_lt_of_pos x h
 exact ⟨by omega,by omega⟩
theorem xcp (x:Int) {d:Int} (h:0 < d):0≤x % d∧x % d < d:=⟨Int.emod_nonneg _ (by omega),Int.emod_lt_of_pos _ h⟩
def xn4 (K:PySem.W.Frag):Sp:=fun vs H Q _=>∃ (a:Addr) (ns:List Int) (k:Int),vs=[.ref a,.int k]∧SqL K H a (ns.map V.int)∧0≤k∧k < 2 ^ 62∧∀ c:Int,Q (.int c) H
def xka:Sp:=fun vs H Q _=>∃ c k:Int,vs=[.int c,.int k]∧0≤k∧∀ m:Int,Q (.int m) H
theorem xdc {n:Nat} (h:n < 100):((n:Int)).natAbs.log2 < 1920:=by
 have:=Nat.log2_le_self n
 show n.log2 < 1920
 omega
section
variable {P:Program} {w:World} {K:PySem.W.Frag} {mg:Str→Option Value} {base:Heap} {t:Adr}
theorem ok_ai (T:Txt w K mg t):FnOk true P w K mg base (CXo P w) 1 t.f_ai t.d_ai ["_law_script", "_law_k"] (xn4 K):=by
 refine T.F_ai.okn (k:=0) sc_ai (fun vs H Q E h=>?_) (fun cdv A outer s H vs Q E hr h=>?_)
 ·obtain ⟨a,ns,k,rfl,_⟩:=h
  rfl
 ·obtain ⟨a,ns,k,rfl,h⟩:=h
  refine ⟨_,xh (xab (xu xix (pv 1) (x6 xam rfl T.n_len boot_len (xb (pv 0) (xg))) (xac _)) (xn (xr (xan xay (pv 0) (pv 1) (fun _ _=>rfl)))) (xt))
   (xn (xr (x9 xbh (x9 xc4 (xk) (pv 1)) (xk)))),?_⟩
  obtain ⟨hs,k0,k1,q⟩:=h
  refine ⟨_,rfl,_,rfl,a,_,rfl,.inl hs,_,_,rfl,rfl,_,rfl,?_⟩
  refine ite2 (fun c=>?_) (fun c=>?_)
  ·have c':k < (ns.length:Int):=by simpa using c
   obtain ⟨j,rfl⟩:=Int.eq_ofNat_of_zero_le k0
   have lt:j < ns.length:=by omega
   exact ⟨_,rfl,_,rfl,a,_,_,_,rfl,rfl,hs,xb7 (by rw [List.getElem?_map,List.getElem?_eq_getElem lt]; rfl),q _⟩
  ·exact ⟨_,rfl,_,_,rfl,rfl,.inl ⟨by decide,by decide⟩,_,_,rfl,rfl,q _⟩
theorem ok_ab (T:Txt w K mg t):FnOk true P w K mg base (CXo P w) 1 t.f_ab t.d_ab ["_law_cell_here", "_law_k"] (xka):=by
 refine T.F_ab.okn (k:=0) sc_ab (fun vs H Q E h=>?_) (fun cdv A outer s H vs Q E hr h=>?_)
 ·obtain ⟨c,k,rfl,_⟩:=h
  rfl
 ·obtain ⟨c,k,rfl,h⟩:=h
  refine ⟨_,xh (xab (xu xa9 (x9 xas (pv 0) (xk)) (xk) (xac _)) (xn (xr (x9 xas (x9 xov (pv 0) (x9 xbh (xk) (x9 xc4 (xk) (pv 1)))) (x9 xoa (xk) (xk))))) (xt))
   (xh (xah (i:=2) sc_ab.nd rfl (Or.inl rfl) (x9 xas (x9 xc4 (x9 xbh (x9 xbh (x9 xas (pv 0) (xk)) (x9 xc4 (xk) (pv 1))) (xk)) (xk)) (xk)))
   (xh (xah (i:=2) sc_ab.nd rfl (Or.inl rfl) (x9 xas (x9 xbh (x9 xc4 (pv 2) (pv 2)) (x9 xc4 (xk) (pv 1))) (xk)))
   (xn (xr (x9 xcx (x9 xas (x9 xc4 (pv 2) (x9 xbh (pv 2) (xk))) (xk)) (xk)))))),?_⟩
  obtain ⟨k0,q⟩:=h
  refine ⟨_,rfl,_,_,rfl,rfl,(by show (0:Int) < 4; decide),rfl,_,rfl,ite2 (fun z=>?_) (fun z=>?_)⟩
  ·exact ⟨_,rfl,_,rfl,_,_,rfl,rfl,.inl ⟨by decide,by decide⟩,_,_,rfl,rfl,_,_,rfl,rfl,(by omega),_,_,rfl,rfl,⟨by decide,by decide,by decide⟩,_,_,rfl,rfl,(by show (0:Int) < 2 ^ (40:Int).toNat; decide),q _⟩
  refine ⟨_,rfl,_,_,rfl,rfl,(by show (0:Int) < 2147483629; decide),_,rfl,_,_,rfl,rfl,.inl ⟨by decide,by decide⟩,_,_,rfl,rfl,_,_,rfl,rfl,_,_,rfl,rfl,.inr ⟨by decide,by decide⟩,_,_,rfl,rfl,(by show (0:Int) < 2147483647; decide),?_⟩
  refine ⟨_,rfl,_,rfl,_,_,rfl,rfl,.inl (xjj (by decide) (by decide)),_,rfl,_,_,rfl,rfl,.inl ⟨by decide,by decide⟩,_,_,rfl,rfl,_,_,rfl,rfl,(by show (0:Int) < 2147483629; decide),?_⟩
  exact ⟨_,rfl,_,rfl,_,_,rfl,rfl,_,_,rfl,rfl,.inl (xjj (by decide) (by decide)),_,_,rfl,rfl,(by show (0:Int) < 2147483587; decide),_,_,rfl,rfl,⟨by decide,by decide⟩,q _⟩
theorem ok_ac (T:Txt w K mg t):FnOk true P w K mg base (CXo P w) 2 t.f_ac t.d_ac ["_law_cell_here", "_law_k"] (xka):=by
 refine T.F_ac.okn (k:=1) sc_ac (fun vs H Q E h=>?_) (fun cdv A outer s H vs Q E hr h=>?_)
 ·obtain ⟨c,k,rfl,_⟩:=h
  rfl
 ·obtain ⟨c,k,rfl,h⟩:=h
  refine ⟨_,xh (xab (xu xa9 (x9 xas (pv 0) (xk)) (xk) (xac _)) (xn (xr (x9 xcx (pv 0) (xk)))) (xt))
   (xn (xr (x8 (ok_ab T) (hr.mono (by decide)) rfl T.g_ab T.F_ab.kp T.b_ab .nil xz (xb (pv 0) (xb (pv 1) (xg)))))),?_⟩
  obtain ⟨k0,q⟩:=h
  exact ⟨_,rfl,_,_,rfl,rfl,(by show (0:Int) < 2; decide),rfl,_,rfl,ite2 (fun z=>⟨_,rfl,_,_,rfl,rfl,⟨by decide,by decide⟩,q _⟩) (fun z=>⟨_,rfl,_,rfl,_,_,rfl,k0,q⟩)⟩
end
end S22
set_option maxRecDepth 100000
set_option maxHeartbeats 4000000
namespace S22
open PySem L2 XL PyProof.Rows
def dotV (p:Pt):List V:=.str p.nm :: ptV p
def xn0:Sp:=fun vs H Q _=>∃ c:Int,vs=[.int c]∧∀ (s:Str) H',TxT s→Same H H'→Q (.str s) H'
def spAt:Sp:=fun vs H Q _=>∃ c m:Int,vs=[.int c,.int m]∧1≤m∧m≤30∧∀ x:Nat,x < 100→Q (.int x) H
def xp2:Sp:=fun vs H Q _=>∃ (c:Int) (w h:Nat),vs=[.int c,.int w,.int h]∧(1≤w∧w≤30)∧(1≤h∧h≤16)∧∀ (p:Pw) H' pq lw dq,p.Ok→Same H H'→H' pq=some (.tup [.ref lw,.ref dq])→H' lw=some (.lst (p.ws.map V.str))→H' dq=some (.tup (dotV (p.pt h)))→Q (.ref pq) H'
def abcS:Str:="abcdefghijklmnopqrstuvwxyz"
theorem xnd:∀ c ∈ abcS.cps.toList,c≠32:=by decide +kernel
theorem xms {c:Nat} (h:c≠32):TxT ⟨#[c]⟩:=⟨by show 1≤10; decide,fun z=>h (List.mem_singleton.mp z).symm,by simp⟩
theorem xo1 (n:Int):∃ s:Str,atI [V.str "A",.str "ab",.str "1",.str "-",.str "point",.str "aa",.str "left"] (n % 7)=some (.str s)∧TxT s:=by
 have z:=xcp n (show (0:Int) < 7 by decide)
 have:n % 7=0∨n % 7=1∨n % 7=2∨n % 7=3∨n % 7=4∨n % 7=5∨n % 7=6:=by omega
 rcases this with e | e | e | e | e | e | e <;> rw [e] <;> exact ⟨_,rfl,⟨by decide +kernel,by decide +kernel,by decide +kernel⟩⟩
theorem xp6 (n:Int):∃ s:Str,atI [V.str "left",.str "right",.str "both",.str "left",.str "right",.str "both",.str "both",.str "leftright"] (n % 8)=some (.str s)∧TxT s:=by
 have z:=xcp n (show (0:Int) < 8 by decide)
 have:n % 8=0∨n % 8=1∨n % 8=2∨n % 8=3∨n % 8=4∨n % 8=5∨n % 8=6∨n % 8=7:=by omega
 rcases this with e | e | e | e | e | e | e | e <;> rw [e] <;> exact ⟨_,rfl,⟨by decide +kernel,by decide +kernel,by decide +kernel⟩⟩
theorem xn8 (n:Int):∃ c:Nat,atI abcS.cps.toList (n % 26)=some c∧c≠32:=by
 have z:=xcp n (show (0:Int) < 26 by decide)
 obtain ⟨j,e⟩:=Int.eq_ofNat_of_zero_le z.1
 have lt:j < abcS.cps.toList.length:=by
  rw [show abcS.cps.toList.length=26 by decide +kernel]
  omega
 rw [e]
 exact ⟨_,xb7 (List.getElem?_eq_getElem lt),xnd _ (List.getElem_mem lt)⟩
theorem xgi (n h:Int) (h1:1≤h) (h2:h≤30):∃ x:Nat,1 + n % h=x∧x < 100∧1≤x∧(x:Int)≤h:=by
 have z:=xcp n (show (0:Int) < h by omega)
 exact ⟨(1 + n % h).toNat,by omega,by omega,by omega,by omega⟩
section
variable {P:Program} {w:World} {K:PySem.W.Frag} {mg:Str→Option Value} {base:Heap} {t:Adr}
theorem ok_ao (T:Txt w K mg t):FnOk true P w K mg base (CXo P w) 1 t.f_ao t.d_ao ["_law_cell_here"] (xn0):=by
 refine T.F_ao.okn (k:=0) sc_ao (fun vs H Q E h=>?_) (fun cdv A outer s H vs Q E hr h=>?_)
 ·obtain ⟨c,rfl,_⟩:=h
  rfl
 ·obtain ⟨c,rfl,h⟩:=h
  refine ⟨_,xh ((by (with_reducible refine' xab ?c2 ?a3 ?b4); (case c2=>exact xu xa9 (x9 xas (pv 0) (xk)) (xk) (xac _)); (case a3=>((with_reducible refine' xn ?c5); (case c5=>((with_reducible refine' xr ?e6); (case e6=>((with_reducible refine' xan (r:=rIxL K) ?r7 ?l8 ?j9 ?p10); (case r7=>exact xay); (case p10=>exact fun _ _=>rfl); (case j9=>exact x9 xas (x9 xcx (pv 0) (xk)) (xk)); (case l8=>((with_reducible refine' xa7 ?p11); (case p11=>((with_reducible refine' xb ?e12 ?q13 rfl); (case e12=>exact xv); (case q13=>((with_reducible refine' xb ?e14 ?q15 rfl); (case e14=>exact xv); (case q15=>((with_reducible refine' xb ?e16 ?q17 rfl); (case e16=>exact xv); (case q17=>((with_reducible refine' xb ?e18 ?q19 rfl); (case e18=>exact xv); (case q19=>((with_reducible refine' xb ?e20 ?q21 rfl); (case e20=>exact xv); (case q21=>((with_reducible refine' xb ?e22 ?q23 rfl); (case e22=>exact xv); (case q23=>((with_reducible refine' xb ?e24 ?q25 rfl); (case e24=>exact xv); (case q25=>((exact xg))))))))))))))))))))))))); (case b4=>((exact xt)))))
   (xn (xr (xan xjm (xv) (x9 xas (x9 xcx (pv 0) (xk)) (xk)) (fun _ _=>rfl)))),?_⟩
  refine ⟨_,rfl,_,_,rfl,rfl,(by show (0:Int) < 8; decide),rfl,_,rfl,ite2 (fun z=>?_) (fun z=>?_)⟩
  ·obtain ⟨s,es,ts⟩:=xo1 (c / 8)
   exact ⟨(by show 7≤sizeLine; decide),fun q0 hq0=>⟨_,rfl,_,_,rfl,rfl,⟨by decide,by decide⟩,_,_,rfl,rfl,(by show (0:Int) < 7; decide),q0,_,_,.str s,rfl,rfl,SqL.of xf,es,h s _ ts (xp (Same.refl _) hq0)⟩⟩
  ·obtain ⟨c',es,ts⟩:=xn8 (c / 8)
   exact ⟨_,rfl,_,_,rfl,rfl,⟨by decide,by decide⟩,_,_,rfl,rfl,(by show (0:Int) < 26; decide),abcS,_,c',rfl,rfl,(by decide +kernel),es,h _ _ (xms ts) (Same.refl _)⟩
theorem ok_ay (T:Txt w K mg t):FnOk true P w K mg base (CXo P w) 1 t.f_ay t.d_ay ["_law_cell_here", "_law_most"] (spAt):=by
 refine T.F_ay.okn (k:=0) sc_ay (fun vs H Q E h=>?_) (fun cdv A outer s H vs Q E hr h=>?_)
 ·obtain ⟨c,m,rfl,_⟩:=h
  rfl
 ·obtain ⟨c,m,rfl,h⟩:=h
  refine ⟨_,xh (xab (xu xa9 (x9 xas (pv 0) (xk)) (xk) (xac _)) (xn (xr (x9 xas (x9 xcx (pv 0) (xk)) (xk)))) (xt))
   (xn (xr (x9 xbh (xk) (x9 xas (x9 xcx (pv 0) (xk)) (pv 1))))),?_⟩
  obtain ⟨m1,m2,q⟩:=h
  refine ⟨_,rfl,_,_,rfl,rfl,(by show (0:Int) < 4; decide),rfl,_,rfl,ite2 (fun z=>?_) (fun z=>?_)⟩
  ·have b:=xcp (c / 4) (show (0:Int) < 100 by decide)
   obtain ⟨x,ex⟩:=Int.eq_ofNat_of_zero_le b.1
   refine ⟨_,rfl,_,_,rfl,rfl,⟨by decide,by decide⟩,_,_,rfl,rfl,(by show (0:Int) < 100; decide),?_⟩
   simp only [ex]
   exact q x (by omega)
  ·obtain ⟨x,ex,x1,_⟩:=xgi (c / 4) m m1 m2
   refine ⟨_,rfl,_,_,rfl,rfl,⟨by decide,by decide⟩,_,rfl,_,_,rfl,rfl,(by omega),_,_,rfl,rfl,?_⟩
   simp only [ex]
   exact q x x1
theorem ok_aq (T:Txt w K mg t):FnOk true P w K mg base (CXo P w) 2 t.f_aq t.d_aq ["_law_cell_here", "_law_width", "_law_height"] (xp2):=by
 refine T.F_aq.okn (k:=1) sc_aq (fun vs H Q E h=>?_) (fun cdv A outer s H vs Q E hr h=>?_)
 ·obtain ⟨c,w',h',rfl,_⟩:=h
  rfl
 ·obtain ⟨c,w',h',rfl,h⟩:=h
  refine ⟨_,xh (xah (i:=3) sc_aq.nd rfl (Or.inl rfl) (x8 (ok_ao T) (hr.mono (by decide)) rfl T.g_ao T.F_ao.kp T.b_ao .nil xz (xb (x8 (ok_ab T) (hr.mono (by decide)) rfl T.g_ab T.F_ab.kp T.b_ab .nil xz (xb (pv 0) (xb (xk) (xg)))) (xg))))
   (xh (xah (i:=4) sc_aq.nd rfl (Or.inl rfl) (x8 (ok_ay T) (hr.mono (by decide)) rfl T.g_ay T.F_ay.kp T.b_ay .nil xz (xb (x8 (ok_ab T) (hr.mono (by decide)) rfl T.g_ab T.F_ab.kp T.b_ab .nil xz (xb (pv 0) (xb (xk) (xg)))) (xb (pv 1) (xg)))))
   (xh (xah (i:=5) sc_aq.nd rfl (Or.inl rfl) (x8 (ok_ay T) (hr.mono (by decide)) rfl T.g_ay T.F_ay.kp T.b_ay .nil xz (xb (x8 (ok_ab T) (hr.mono (by decide)) rfl T.g_ab T.F_ab.kp T.b_ab .nil xz (xb (pv 0) (xb (xk) (xg)))) (xb (pv 2) (xg)))))
   (xh ((by (with_reducible refine' xah (i:=6) ?n39 ?i40 ?x41 ?e42 ?s43 ?f44); (case n39=>exact sc_aq.nd); (case i40=>rfl); (case x41=>exact Or.inl rfl); (case f44=>exact Or.inl rfl); (case e42=>((with_reducible refine' xan (r:=rIxL K) ?r45 ?l46 ?j47 ?p48); (case r45=>exact xay); (case p48=>exact fun _ _=>rfl); (case j47=>exact x9 xas (x8 (ok_ab T) (hr.mono (by decide)) rfl T.g_ab T.F_ab.kp T.b_ab .nil xz (xb (pv 0) (xb (xk) (xg)))) (xk)); (case l46=>((with_reducible refine' xa7 ?p49); (case p49=>((with_reducible refine' xb ?e50 ?q51 rfl); (case e50=>exact xv); (case q51=>((with_reducible refine' xb ?e52 ?q53 rfl); (case e52=>exact xv); (case q53=>((with_reducible refine' xb ?e54 ?q55 rfl); (case e54=>exact xv); (case q55=>((with_reducible refine' xb ?e56 ?q57 rfl); (case e56=>exact xv); (case q57=>((with_reducible refine' xb ?e58 ?q59 rfl); (case e58=>exact xv); (case q59=>((with_reducible refine' xb ?e60 ?q61 rfl); (case e60=>exact xv); (case q61=>((with_reducible refine' xb ?e62 ?q63 rfl); (case e62=>exact xv); (case q63=>((with_reducible refine' xb ?e64 ?q65 rfl); (case e64=>exact xv); (case q65=>((exact xg))))))))))))))))))))))); (case s43=>rfl)))
   (xh (xah (i:=7) sc_aq.nd rfl (Or.inl rfl) (x9 xas (x8 (ok_ab T) (hr.mono (by decide)) rfl T.g_ab T.F_ab.kp T.b_ab .nil xz (xb (pv 0) (xb (xk) (xg)))) (xk)))
   (xh (xah (i:=8) sc_aq.nd rfl (Or.inl rfl) (x9 xas (x8 (ok_ab T) (hr.mono (by decide)) rfl T.g_ab T.F_ab.kp T.b_ab .nil xz (xb (pv 0) (xb (xk) (xg)))) (xk)))
   (xh (xdy (xab (xu xa9 (x9 xas (x8 (ok_ab T) (hr.mono (by decide)) rfl T.g_ab T.F_ab.kp T.b_ab .nil xz (xb (pv 0) (xb (xk) (xg)))) (xk)) (xk) (xac _)) (xh (xah (i:=7) sc_aq.nd rfl (Or.inl rfl) (x9 xbh (xk) (x9 xas (pv 7) (pv 2))))
   (xn (xah (i:=8) sc_aq.nd rfl (Or.inl rfl) (x9 xbh (pv 7) (x9 xas (pv 8) (x9 xi5 (x9 xbh (pv 2) (xk)) (pv 7))))))) (xt)))
   (xh (xah (i:=9) sc_aq.nd rfl (Or.inl rfl) (xa7 (xb (xv) (xb (pv 3) (xb (xbk xbp rfl T.n_str boot_str (xb (pv 4) (xg))) (xb (xbk xbp rfl T.n_str boot_str (xb (pv 5) (xg))) (xg)))))))
   (xh (xah (i:=10) sc_aq.nd rfl (Or.inl rfl) (x9 xas (x8 (ok_ab T) (hr.mono (by decide)) rfl T.g_ab T.F_ab.kp T.b_ab .nil xz (xb (pv 0) (xb (xk) (xg)))) (xk)))
   (xh ((by (with_reducible refine' xdy ?m38); (case m38=>((with_reducible refine' xab ?c33 ?a34 ?b35); (case c33=>exact xu xa9 (pv 10) (xk) (xac _)); (case a34=>((with_reducible refine' xn ?c36); (case c36=>((with_reducible refine' xr ?e37); (case e37=>((exact xaf (xb (pv 9) (xb (xaf (xaa (pv 3) (xaa (pv 4) (xaa (pv 5) (xaa (xv) (xaa (xk) (xaa (pv 2) (xg) rfl) rfl) rfl) rfl) rfl) rfl)) (xg)))))))))); (case b35=>((exact xt)))))))
   (xh ((by (with_reducible refine' xdy ?m32); (case m32=>((with_reducible refine' xab ?c27 ?a28 ?b29); (case c27=>exact xu xa9 (pv 10) (xk) (xac _)); (case a28=>((with_reducible refine' xn ?c30); (case c30=>((with_reducible refine' xr ?e31); (case e31=>((exact xaf (xb (x9 xe5 (pv 9) (xa7 (xb (pv 6) (xg)))) (xb (xaf (xaa (pv 3) (xaa (pv 4) (xaa (pv 5) (xaa (pv 6) (xaa (xk) (xaa (pv 2) (xg) rfl) rfl) rfl) rfl) rfl) rfl)) (xg)))))))))); (case b29=>((exact xt)))))))
   (xn ((by (with_reducible refine' xr ?e26); (case e26=>((exact xaf (xb (x9 xe5 (pv 9) (xa7 (xb (pv 6) (xb (xbk xbp rfl T.n_str boot_str (xb (pv 7) (xg))) (xb (xbk xbp rfl T.n_str boot_str (xb (pv 8) (xg))) (xg)))))) (xb (xaf (xaa (pv 3) (xaa (pv 4) (xaa (pv 5) (xaa (pv 6) (xaa (pv 7) (xaa (pv 8) (xg) rfl) rfl) rfl) rfl) rfl) rfl)) (xg))))))))))))))))))),?_⟩
  obtain ⟨⟨w1,w2⟩,⟨h1,h2⟩,q⟩:=h
  refine ⟨_,rfl,_,_,rfl,by decide,fun m1=>⟨m1,rfl,fun nm H1 tn s1=>?_⟩⟩
  refine ⟨_,rfl,_,_,rfl,by decide,fun m2=>⟨_,rfl,m2,_,rfl,by omega,by omega,fun x hx=>?_⟩⟩
  refine ⟨_,rfl,_,_,rfl,by decide,fun m3=>⟨_,rfl,m3,_,rfl,by omega,by omega,fun y hy=>?_⟩⟩
  refine ⟨(by show 8≤sizeLine; decide),fun q2 hq2=>?_⟩
  have s2:Same H1 (upd H1 q2 (.lst [V.str "left",.str "right",.str "both",.str "left",.str "right",.str "both",.str "both",.str "leftright"])):=xp (Same.refl _) hq2
  have g2:upd H1 q2 (.lst [V.str "left",.str "right",.str "both",.str "left",.str "right",.str "both",.str "both",.str "leftright"]) q2=some (.lst [V.str "left",.str "right",.str "both",.str "left",.str "right",.str "both",.str "both",.str "leftright"]):=xf
  revert s2 g2
  generalize upd H1 q2 (.lst [V.str "left",.str "right",.str "both",.str "left",.str "right",.str "both",.str "both",.str "leftright"])=H2
  intro s2 g2
  refine ⟨_,rfl,_,_,rfl,by decide,fun m4=>?_⟩
  obtain ⟨sd,esd,tsd⟩:=xp6 m4
  refine ⟨_,_,rfl,rfl,(by show (0:Int) < 8; decide),q2,_,_,.str sd,rfl,rfl,SqL.of g2,esd,?_⟩
  refine ⟨_,rfl,_,_,rfl,by decide,fun m5=>⟨_,_,rfl,rfl,(by show (0:Int) < 20; decide),?_⟩⟩
  refine ⟨_,rfl,_,_,rfl,by decide,fun m6=>⟨_,_,rfl,rfl,(by show (0:Int) < 20; decide),?_⟩⟩
  have s02:=s1.trans s2
  refine ⟨fun σ H3=>H2=H3∧∃ lo hi:Nat,lo < 100∧hi < 100∧σ=[some (.int c),some (.int w'),some (.int h'),some (.str nm),some (.int x),some (.int y),some (.str sd),some (.int lo),some (.int hi),none,none],?_,?_⟩
  ·refine ⟨_,rfl,_,_,rfl,by decide,fun m7=>⟨_,_,rfl,rfl,(by show (0:Int) < 2; decide),rfl,_,rfl,ite2 (fun z=>?_) (fun z=>?_)⟩⟩
   ·obtain ⟨lo,elo,lo1,lo2,lo3⟩:=xgi (m5 % 20) h' (by omega) (by omega)
    refine ⟨_,rfl,_,rfl,_,_,rfl,rfl,(by omega),_,_,rfl,rfl,?_⟩
    simp only [elo]
    have pz:(0:Int) < (h':Int) + 1 - lo:=by omega
    have b:=xcp (m6 % 20) pz
    refine ⟨_,rfl,_,rfl,_,rfl,_,_,rfl,rfl,_,rfl,_,_,rfl,rfl,_,_,rfl,rfl,pz,_,_,rfl,rfl,rfl,lo,((lo:Int) + m6 % 20 % ((h':Int) + 1 - lo)).toNat,lo1,by omega,?_⟩
    rw [show (((((lo:Int) + m6 % 20 % ((h':Int) + 1 - lo)).toNat:Nat)):Int)=(lo:Int) + m6 % 20 % ((h':Int) + 1 - lo) by omega]
    rfl
   ·have b5:=xcp m5 (show (0:Int) < 20 by decide)
    have b6:=xcp m6 (show (0:Int) < 20 by decide)
    refine ⟨rfl,(m5 % 20).toNat,(m6 % 20).toNat,by omega,by omega,?_⟩
    rw [show (((m5 % 20).toNat:Nat):Int)=m5 % 20 by omega,show (((m6 % 20).toNat:Nat):Int)=m6 % 20 by omega]
    rfl
  rintro σ _ ⟨rfl,lo,hi,lo1,hi1,rfl⟩
  refine ⟨_,rfl,_,rfl,(x:Int),rfl,xdc hx,_,rfl,(y:Int),rfl,xdc hy,(by show 4≤sizeLine; decide),fun lw hlw=>?_⟩
  rw [show Str.ofString (toString (x:Int))=numT x from rfl,show Str.ofString (toString (y:Int))=numT y from rfl]
  have s3:Same H2 (upd H2 lw (.lst [.str "point",.str nm,.str (numT x),.str (numT y)])):=xp (Same.refl _) hlw
  have g3:upd H2 lw (.lst [.str "point",.str nm,.str (numT x),.str (numT y)]) lw=some (.lst [.str "point",.str nm,.str (numT x),.str (numT y)]):=xf
  revert s3 g3
  generalize upd H2 lw (.lst [.str "point",.str nm,.str (numT x),.str (numT y)])=H3
  intro s3 g3
  have s03:=s02.trans s3
  refine ⟨_,rfl,_,_,rfl,by decide,fun m8=>⟨_,_,rfl,rfl,(by show (0:Int) < 3; decide),?_⟩⟩
  refine ⟨fun σ H4=>H3=H4∧σ=[some (.int c),some (.int w'),some (.int h'),some (.str nm),some (.int x),some (.int y),some (.str sd),some (.int lo),some (.int hi),some (.ref lw),some (.int (m8 % 3))],?_,?_⟩
  ·refine ⟨_,rfl,rfl,_,rfl,ite2 (fun z=>?_) (fun z=>⟨rfl,rfl⟩)⟩
   refine ⟨_,rfl,_,rfl,_,rfl,_,rfl,_,rfl,(by show 6≤sizeLine; decide),fun dq hdq=>?_⟩
   have s5:Same H3 (upd H3 dq (.tup [.str nm,.int x,.int y,.str "both",.int 1,.int h'])):=xp (Same.refl _) hdq
   have g5:upd H3 dq (.tup [.str nm,.int x,.int y,.str "both",.int 1,.int h']) dq=some (.tup [.str nm,.int x,.int y,.str "both",.int 1,.int h']):=xf
   revert s5 g5
   generalize upd H3 dq (.tup [.str nm,.int x,.int y,.str "both",.int 1,.int h'])=H5
   intro s5 g5
   refine ⟨(by show 2≤sizeLine; decide),fun pq hpq=>?_⟩
   have s6:Same H5 (upd H5 pq (.tup [.ref lw,.ref dq])):=xp (Same.refl _) hpq
   exact q ⟨nm,x,y,sd,lo,hi,.a⟩ _ pq lw dq ⟨tn,hx,hy,tsd,lo1,hi1⟩ ((s03.trans s5).trans s6) xf (s6 _ _ (s5 _ _ g3)) (s6 _ _ g5)
  rintro σ _ ⟨rfl,rfl⟩
  refine ⟨fun σ H4=>H3=H4∧σ=[some (.int c),some (.int w'),some (.int h'),some (.str nm),some (.int x),some (.int y),some (.str sd),some (.int lo),some (.int hi),some (.ref lw),some (.int (m8 % 3))],?_,?_⟩
  ·refine ⟨_,rfl,rfl,_,rfl,ite2 (fun z=>?_) (fun z=>⟨rfl,rfl⟩)⟩
   refine ⟨_,rfl,_,rfl,(by show 1≤sizeLine; decide),fun l6 hl6=>?_⟩
   have s4:Same H3 (upd H3 l6 (.lst [.str sd])):=xp (Same.refl _) hl6
   have g4:upd H3 l6 (.lst [.str sd]) l6=some (.lst [.str sd]):=xf
   revert s4 g4
   generalize upd H3 l6 (.lst [.str sd])=H4
   intro s4 g4
   refine ⟨lw,l6,_,_,rfl,rfl,s4 _ _ g3,g4,(by show 4 + 1≤sizeLine; decide),fun l7 hl7=>?_⟩
   rw [show ([V.str "point",.str nm,.str (numT x),.str (numT y)] ++ [V.str sd])=[V.str "point",.str nm,.str (numT x),.str (numT y),.str sd] from rfl]
   have s5:Same H4 (upd H4 l7 (.lst [V.str "point",.str nm,.str (numT x),.str (numT y),.str sd])):=xp (Same.refl _) hl7
   have g5:upd H4 l7 (.lst [V.str "point",.str nm,.str (numT x),.str (numT y),.str sd]) l7=some (.lst [V.str "point",.str nm,.str (numT x),.str (numT y),.str sd]):=xf
   revert s5 g5
   generalize upd H4 l7 (.lst [V.str "point",.str nm,.str (numT x),.str (numT y),.str sd])=H5
   intro s5 g5
   refine ⟨_,rfl,_,rfl,_,rfl,_,rfl,_,rfl,(by show 6≤sizeLine; decide),fun dq hdq=>?_⟩
   have s6:Same H5 (upd H5 dq (.tup [.str nm,.int x,.int y,.str sd,.int 1,.int h'])):=xp (Same.refl _) hdq
   have g6:upd H5 dq (.tup [.str nm,.int x,.int y,.str sd,.int 1,.int h']) dq=some (.tup [.str nm,.int x,.int y,.str sd,.int 1,.int h']):=xf
   revert s6 g6
   generalize upd H5 dq (.tup [.str nm,.int x,.int y,.str sd,.int 1,.int h'])=H6
   intro s6 g6
   refine ⟨(by show 2≤sizeLine; decide),fun pq hpq=>?_⟩
   have s7:Same H6 (upd H6 pq (.tup [.ref l7,.ref dq])):=xp (Same.refl _) hpq
   exact q ⟨nm,x,y,sd,lo,hi,.b⟩ _ pq l7 dq ⟨tn,hx,hy,tsd,lo1,hi1⟩ ((((s03.trans s4).trans s5).trans s6).trans s7) xf (s7 _ _ (s6 _ _ g5)) (s7 _ _ g6)
  rintro σ _ ⟨rfl,rfl⟩
  refine ⟨_,rfl,_,rfl,_,rfl,(lo:Int),rfl,xdc lo1,_,rfl,(hi:Int),rfl,xdc hi1,(by show 3≤sizeLine; decide),fun l6 hl6=>?_⟩
  rw [show Str.ofString (toString (lo:Int))=numT lo from rfl,show Str.ofString (toString (hi:Int))=numT hi from rfl]
  have s4:Same H3 (upd H3 l6 (.lst [.str sd,.str (numT lo),.str (numT hi)])):=xp (Same.refl _) hl6
  have g4:upd H3 l6 (.lst [.str sd,.str (numT lo),.str (numT hi)]) l6=some (.lst [.str sd,.str (numT lo),.str (numT hi)]):=xf
  revert s4 g4
  generalize upd H3 l6 (.lst [.str sd,.str (numT lo),.str (numT hi)])=H4
  intro s4 g4
  refine ⟨lw,l6,_,_,rfl,rfl,s4 _ _ g3,g4,(by show 4 + 3≤sizeLine; decide),fun l7 hl7=>?_⟩
  rw [show ([V.str "point",.str nm,.str (numT x),.str (numT y)] ++ [V.str sd,.str (numT lo),.str (numT hi)])=[V.str "point",.str nm,.str (numT x),.str (numT y),.str sd,.str (numT lo),.str (numT hi)] from rfl]
  have s5:Same H4 (upd H4 l7 (.lst [V.str "point",.str nm,.str (numT x),.str (numT y),.str sd,.str (numT lo),.str (numT hi)])):=xp (Same.refl _) hl7
  have g5:upd H4 l7 (.lst [V.str "point",.str nm,.str (numT x),.str (numT y),.str sd,.str (numT lo),.str (numT hi)]) l7=some (.lst [V.str "point",.str nm,.str (numT x),.str (numT y),.str sd,.str (numT lo),.str (numT hi)]):=xf
  revert s5 g5
  generalize upd H4 l7 (.lst [V.str "point",.str nm,.str (numT x),.str (numT y),.str sd,.str (numT lo),.str (numT hi)])=H5
  intro s5 g5
  refine ⟨_,rfl,_,rfl,_,rfl,_,rfl,_,rfl,_,rfl,(by show 6≤sizeLine; decide),fun dq hdq=>?_⟩
  have s6:Same H5 (upd H5 dq (.tup [.str nm,.int x,.int y,.str sd,.int lo,.int hi])):=xp (Same.refl _) hdq
  have g6:upd H5 dq (.tup [.str nm,.int x,.int y,.str sd,.int lo,.int hi]) dq=some (.tup [.str nm,.int x,.int y,.str sd,.int lo,.int hi]):=xf
  revert s6 g6
  generalize upd H5 dq (.tup [.str nm,.int x,.int y,.str sd,.int lo,.int hi])=H6
  intro s6 g6
  refine ⟨(by show 2≤sizeLine; decide),fun pq hpq=>?_⟩
  have s7:Same H6 (upd H6 pq (.tup [.ref l7,.ref dq])):=xp (Same.refl _) hpq
  exact q ⟨nm,x,y,sd,lo,hi,.c⟩ _ pq l7 dq ⟨tn,hx,hy,tsd,lo1,hi1⟩ ((((s03.trans s4).trans s5).trans s6).trans s7) xf (s7 _ _ (s6 _ _ g5)) (s7 _ _ g6)
end
end S22
set_option maxRecDepth 100000
set_option maxHeartbeats 4000000
namespace S22
open PySem L2 XL PyProof.Rows
def outW (w h:Int) (p:Pt):Option Er :=
 if isNm p.nm then
  if xw (.int p.x) 1 w && xw (.int p.y) 1 h then
   if xa1 (.str p.sd) then
    if xw (.int p.lo) 1 h && xw (.int p.hi) p.lo h then none else some (.noWindow (.int p.lo) (.int p.hi))
   else some (.noSides (.str p.sd))
  else some (.noCell (.int p.x) (.int p.y))
 else some (.noName (.str p.nm))
def outR (ps:List Pt) (p:Pt):Option Er:=if ps.any fun d=>decide (d.nm=p.nm) then some (.oldPoint (.str p.nm)) else if 12≤ps.length then some .tooMany else xa4 ps p.nm p.x p.y
theorem xg9 {w h:Int} {ps:List Pt} {p:Pt} {er:Er} (e:outW w h p=some er):outP w h ps p=some er:=by
 unfold outW at e
 unfold outP xak
 change (if isNm p.nm then _ else _)=_
 by_cases c1:isNm p.nm=true
 ·rw [if_pos c1] at e ⊢
  by_cases c2:(xw (.int p.x) 1 w && xw (.int p.y) 1 h)=true
  ·rw [if_pos c2] at e ⊢
   by_cases c3:xa1 (.str p.sd)=true
   ·rw [if_pos c3] at e ⊢
    change (if (xw (.int p.lo) 1 h && xw (.int p.hi) p.lo h)=true then _ else _)=_
    by_cases c4:(xw (.int p.lo) 1 h && xw (.int p.hi) p.lo h)=true
    ·rw [if_pos c4] at e
     cases e
    ·rw [if_neg c4] at e ⊢
     exact e
   ·rw [if_neg c3] at e ⊢
    exact e
  ·rw [if_neg c2] at e ⊢
   exact e
 ·rw [if_neg c1] at e ⊢
  exact e
theorem xhd {w h:Int} {ps:List Pt} {p:Pt} (e:outW w h p=none):isNm p.nm=true∧outP w h ps p=outR ps p:=by
 unfold outW at e
 by_cases c1:isNm p.nm=true
 ·refine ⟨c1,?_⟩
  unfold outP xak outR
  change (if isNm p.nm then _ else _)=_
  rw [if_pos c1] at e ⊢
  by_cases c2:(xw (.int p.x) 1 w && xw (.int p.y) 1 h)=true
  ·rw [if_pos c2] at e ⊢
   by_cases c3:xa1 (.str p.sd)=true
   ·rw [if_pos c3] at e ⊢
    change (if (xw (.int p.lo) 1 h && xw (.int p.hi) p.lo h)=true then _ else _)=_
    by_cases c4:(xw (.int p.lo) 1 h && xw (.int p.hi) p.lo h)=true
    ·rw [if_pos c4]
     change (if (isNm p.nm && ps.any fun d=>decide (d.nm=p.nm))=true then _ else _)=_
     rw [c1,Bool.true_and]
     rfl
    ·rw [if_neg c4] at e
     cases e
   ·rw [if_neg c3] at e
    cases e
  ·rw [if_neg c2] at e
   cases e
 ·rw [if_neg c1] at e
  cases e
def WrV (H:Hp) (o:Option Er) (v:V):Prop:=(o=none∧v=.non)∨∃ er q,o=some er∧v=.ref q∧H q=some (.tup er.told)
def xnb:Sp:=fun vs H Q _=>∃ (dq:Addr) (w h:Int) (p:Pt),vs=[.ref dq,.int w,.int h]∧H dq=some (.tup (dotV p))∧TxT p.nm∧∀ H' v,Same H H'→WrV H' (outW w h p) v→Q v H'
def xp3:Sp:=fun vs H Q _=>∃ (l dq:Addr) (w h:Int) (ds:List Pt) (qs:List Addr) (p:Pt),vs=[.ref l,.ref dq,.int w,.int h]∧H l=some (.lst (qs.map V.ref))∧PtsL H ds qs∧ds.length≤12∧H dq=some (.tup (dotV p))∧TxT p.nm∧∀ H' v,Same H H'→WrV H' (outP w h ds p) v→Q v H'
theorem xmh {s:Str} (h:s.length=1):(!(Builtin.Str.occurrences abcS s 0 abcS.length 1).isEmpty)=isNm s:=by
 obtain ⟨c,rfl⟩:∃ c,s=⟨#[c]⟩:=by
  have hl:=xbn s
  rw [h] at hl
  obtain ⟨c,hc⟩:=List.length_eq_one_iff.mp hl.symm
  exact ⟨c,xb8 hc⟩
 rw [PySem.StrLaws.found_one]
 have e:abcS.cps.toList=(List.range 26).map (97 + ·):=by decide +kernel
 unfold isNm
 rw [decide_eq_true h,Bool.true_and,Bool.eq_iff_iff,decide_eq_true_iff,Bool.and_eq_true,Bool.not_eq_true',Bool.not_eq_true',decide_eq_false_iff_not,decide_eq_false_iff_not,e,List.mem_map]
 show (∃ a,a ∈ List.range 26∧97 + a=c) ↔ ¬ [c] < [97]∧¬ [122] < [c]
 rw [List.cons_lt_cons_iff,List.cons_lt_cons_iff]
 constructor
 ·rintro ⟨a,ha,rfl⟩
  have:=List.mem_range.mp ha
  constructor
  ·rintro (z | ⟨_,z⟩)
   ·omega
   ·cases z
  ·rintro (z | ⟨_,z⟩)
   ·omega
   ·cases z
 ·rintro ⟨z1,z2⟩
  have h1:97≤c:=by
   by_cases y:c < 97
   ·exact absurd (.inl y) z1
   ·omega
  have h2:c≤122:=by
   by_cases y:122 < c
   ·exact absurd (.inl y) z2
   ·omega
  exact ⟨c - 97,List.mem_range.mpr (by omega),by omega⟩
theorem xgw (s:Str):inV (.str s) [.str "left",.str "right",.str "both"]=xa1 (.str s):=by
 by_cases c1:s="left"
 ·rw [c1]; decide +kernel
 by_cases c2:s="right"
 ·rw [c2]; decide +kernel
 by_cases c3:s="both"
 ·rw [c3]; decide +kernel
 have h1:xa1 (.str s)=false:=by
  cases z:xa1 (.str s) with
  | false=>rfl
  | true =>
   obtain ⟨s2,e,h⟩:=xd2 z
   cases e
   rcases h with h | h | h
   ·exact absurd h c1
   ·exact absurd h c2
   ·exact absurd h c3
 rw [h1]
 unfold inV
 rw [List.any_eq_false]
 intro z hz
 simp only [List.mem_cons,List.not_mem_nil,or_false] at hz
 rcases hz with rfl | rfl | rfl <;> intro e
 ·first | exact c1 (by simpa [eqV] using e) | exact c1 (by simpa [eqV] using e:_=s).symm
 ·first | exact c2 (by simpa [eqV] using e) | exact c2 (by simpa [eqV] using e:_=s).symm
 ·first | exact c3 (by simpa [eqV] using e) | exact c3 (by simpa [eqV] using e:_=s).symm
theorem xje {w h:Int} {p:Pt} (c:isNm p.nm=false):outW w h p=some (.noName (.str p.nm)):=by unfold outW; rw [if_neg (by rw [c]; decide)]
theorem xo8 {w h:Int} {p:Pt} (c:isNm p.nm=true) (c2:¬ ((1≤p.x∧p.x≤w)∧(1≤p.y∧p.y≤h))):outW w h p=some (.noCell (.int p.x) (.int p.y)):=by
 unfold outW
 rw [if_pos c,if_neg]
 intro z
 rw [Bool.and_eq_true] at z
 obtain ⟨i,e,i1,i2⟩:=xaz z.1
 obtain ⟨j,e2,j1,j2⟩:=xaz z.2
 cases e
 cases e2
 exact c2 ⟨⟨i1,i2⟩,j1,j2⟩
theorem xo0 {w h:Int} {p:Pt} (c:isNm p.nm=true) (c2:(1≤p.x∧p.x≤w)∧(1≤p.y∧p.y≤h)) (c3:xa1 (.str p.sd)=false):outW w h p=some (.noSides (.str p.sd)):=by
 unfold outW
 rw [if_pos c,if_pos (by rw [xbe c2.1.1 c2.1.2,xbe c2.2.1 c2.2.2]; rfl),if_neg (by rw [c3]; decide)]
theorem xnv {w h:Int} {p:Pt} (c:isNm p.nm=true) (c2:(1≤p.x∧p.x≤w)∧(1≤p.y∧p.y≤h)) (c3:xa1 (.str p.sd)=true) (c4:¬ (1≤p.lo∧p.lo≤p.hi∧p.hi≤h)):outW w h p=some (.noWindow (.int p.lo) (.int p.hi)):=by
 unfold outW
 rw [if_pos c,if_pos (by rw [xbe c2.1.1 c2.1.2,xbe c2.2.1 c2.2.2]; rfl),if_pos c3,if_neg]
 intro z
 rw [Bool.and_eq_true] at z
 obtain ⟨i,e,i1,i2⟩:=xaz z.1
 obtain ⟨j,e2,j1,j2⟩:=xaz z.2
 cases e
 cases e2
 exact c4 ⟨i1,j1,j2⟩
theorem xnr {w h:Int} {p:Pt} (c:isNm p.nm=true) (c2:(1≤p.x∧p.x≤w)∧(1≤p.y∧p.y≤h)) (c3:xa1 (.str p.sd)=true) (c4:1≤p.lo∧p.lo≤p.hi∧p.hi≤h):outW w h p=none:=by
 unfold outW
 rw [if_pos c,if_pos (by rw [xbe c2.1.1 c2.1.2,xbe c2.2.1 c2.2.2]; rfl),if_pos c3,if_pos (by rw [xbe c4.1 (by omega),xbe c4.2.1 c4.2.2]; rfl)]
section
variable {P:Program} {w:World} {K:PySem.W.Frag} {mg:Str→Option Value} {base:Heap} {t:Adr}
theorem ok_ad (T:Txt w K mg t):FnOk true P w K mg base (CXo P w) 1 t.f_ad t.d_ad ["_law_dot_here", "_law_width", "_law_height"] (xnb):=by
 refine T.F_ad.okn (k:=0) sc_ad (fun vs H Q E h=>?_) (fun cdv A outer s H vs Q E hr h=>?_)
 ·obtain ⟨dq,w',h',p,rfl,_⟩:=h
  rfl
 ·obtain ⟨dq,w',h',p,rfl,h⟩:=h
  refine ⟨_,xh (xcf (pv 0) (xcm rfl (xad (x0 (i:=3) sc_ad.nd rfl (Or.inl rfl)) (xad (x0 (i:=4) sc_ad.nd rfl (Or.inl rfl)) (xad (x0 (i:=5) sc_ad.nd rfl (Or.inl rfl)) (xad (x0 (i:=6) sc_ad.nd rfl (Or.inl rfl)) (xad (x0 (i:=7) sc_ad.nd rfl (Or.inl rfl)) (xad (x0 (i:=8) sc_ad.nd rfl (Or.inl rfl)) (xa6)))))))))
   (xh (xab (PW.pt (xbv (xu xej (x6 xcc rfl T.n_len boot_len (xb (pv 3) (xg))) (xk) (xac _)) (xbj (xu xhg (pv 3) (xv) (by rfl))))) (xn (xr (xaf (xb (xv) (xb (pv 3) (xg)))))) (xt))
   (xh (xab (PW.pt (xbv (xa8 (xe1 xcd xcd (xk) (pv 4) (pv 1))) (xbj (xa8 (xe1 xcd xcd (xk) (pv 5) (pv 2)))))) (xn (xr (xaf (xb (xv) (xb (pv 4) (xb (pv 5) (xg))))))) (xt))
   (xh (xab (xu xbo (pv 6) (xaf (xb (xv) (xb (xv) (xb (xv) (xg))))) (by rfl)) (xn (xr (xaf (xb (xv) (xb (pv 6) (xg)))))) (xt))
   (xh (xab (xa8 (xjd xcd xcd xcd (xk) (pv 7) (pv 8) (pv 2))) (xn (xr (xaf (xb (xv) (xb (pv 7) (xb (pv 8) (xg))))))) (xt))
   (xn (xr (xaj))))))),?_⟩
  obtain ⟨hd,tn,q⟩:=h
  have tl:=tn.len
  have fin:∀ er H' u,outW w' h' p=some er→Same H H'→H' u=some (.tup er.told)→Q (.ref u) H':=fun er H' u o s e=>q H' _ s (.inr ⟨er,u,o,rfl,e⟩)
  refine ⟨_,rfl,dq,_,rfl,SqT.of hd,rfl,_,_,rfl,_,_,rfl,_,_,rfl,_,_,rfl,_,_,rfl,_,_,rfl,rfl,?_⟩
  refine ⟨_,rfl,p.nm,rfl,Nat.le_trans tl (by decide),rfl,_,rfl,ite2 (fun c=>?_) (fun c=>?_)⟩
  ·refine ⟨_,rfl,(by show 2≤sizeLine; decide),fun u hu=>fin (.noName (.str p.nm)) _ u (xje ?_) (xp (Same.refl _) hu) xf⟩
   have n1:¬ p.nm.length=1:=fun z=>by
    rw [z] at c
    cases c
   unfold isNm
   rw [decide_eq_false n1,Bool.false_and]
  have n1:p.nm.length=1:=by
   by_cases z:p.nm.length=1
   ·exact z
   ·refine absurd ?_ c
    rw [decide_eq_false]
    ·rfl
    ·intro y
     have:((p.nm.length:Nat):Int)=1:=V.int.inj y
     exact z (by omega)
  refine ⟨_,rfl,_,abcS,rfl,rfl,_,rfl,ite2 (fun c2=>?_) (fun c2=>?_)⟩
  ·rw [xmh n1,Bool.not_eq_true'] at c2
   exact ⟨_,rfl,(by show 2≤sizeLine; decide),fun u hu=>fin (.noName (.str p.nm)) _ u (xje c2) (xp (Same.refl _) hu) xf⟩
  have nm:isNm p.nm=true:=by
   rw [xmh n1] at c2
   cases z:isNm p.nm with
   | true=>rfl
   | false=>rw [z] at c2; exact absurd rfl c2
  have cell:¬ ((1≤p.x∧p.x≤w')∧(1≤p.y∧p.y≤h'))→∀ u,H u=none→Q (.ref u) (upd H u (.tup [.str "cell",.int p.x,.int p.y])):=fun z u hu=>fin (.noCell (.int p.x) (.int p.y)) _ u (xo8 nm z) (xp (Same.refl _) hu) xf
  refine ⟨_,rfl,_,_,rfl,rfl,_,rfl,ite2 (fun a1=>?_) (fun a1=>⟨_,rfl,_,rfl,_,rfl,(by show 3≤sizeLine; decide),cell fun z=>a1 (decide_eq_true z.1.1)⟩)⟩
  refine ⟨_,rfl,_,_,rfl,rfl,_,rfl,ite2 (fun a2=>⟨_,rfl,_,rfl,(by show 3≤sizeLine; decide),cell fun z=>?_⟩) (fun a2=>?_)⟩
  ·rw [decide_eq_true z.1.2] at a2
   cases a2
  refine ⟨_,rfl,_,_,rfl,rfl,_,rfl,ite2 (fun a3=>?_) (fun a3=>⟨_,rfl,_,rfl,_,rfl,(by show 3≤sizeLine; decide),cell fun z=>a3 (decide_eq_true z.2.1)⟩)⟩
  refine ⟨_,rfl,_,_,rfl,rfl,_,rfl,ite2 (fun a4=>⟨_,rfl,_,rfl,(by show 3≤sizeLine; decide),cell fun z=>?_⟩) (fun a4=>?_)⟩
  ·rw [decide_eq_true z.2.2] at a4
   cases a4
  have le2:∀ {a b:Int},¬ ((!decide (a≤b))=true)→a≤b:=fun {a b} y=>by
   by_cases z:a≤b
   ·exact z
   ·exact absurd (by rw [decide_eq_false z]; rfl) y
  have cok:(1≤p.x∧p.x≤w')∧(1≤p.y∧p.y≤h'):=⟨⟨of_decide_eq_true a1,le2 a2⟩,of_decide_eq_true a3,le2 a4⟩
  refine ⟨_,rfl,(by show 3≤sizeLine; decide),fun u3 hu3=>?_⟩
  have s1:Same H (upd H u3 (.tup [.str "left",.str "right",.str "both"])):=xp (Same.refl _) hu3
  have g1:upd H u3 (.tup [.str "left",.str "right",.str "both"]) u3=some (.tup [.str "left",.str "right",.str "both"]):=xf
  revert s1 g1
  generalize upd H u3 (.tup [.str "left",.str "right",.str "both"])=H1
  intro s1 g1
  refine ⟨u3,_,rfl,.inr (SqT.of g1),rfl,rfl,_,rfl,ite2 (fun a5=>?_) (fun a5=>?_)⟩
  ·rw [if_pos rfl,xgw,Bool.not_eq_true'] at a5
   exact ⟨_,rfl,(by show 2≤sizeLine; decide),fun u hu=>fin (.noSides (.str p.sd)) _ u (xo0 nm cok a5) (xp s1 hu) xf⟩
  have sok:xa1 (.str p.sd)=true:=by
   rw [if_pos rfl,xgw] at a5
   cases z:xa1 (.str p.sd) with
   | true=>rfl
   | false=>rw [z] at a5; exact absurd rfl a5
  have win:¬ (1≤p.lo∧p.lo≤p.hi∧p.hi≤h')→∀ u,H1 u=none→Q (.ref u) (upd H1 u (.tup [.str "window",.int p.lo,.int p.hi])):=fun z u hu=>fin (.noWindow (.int p.lo) (.int p.hi)) _ u (xnv nm cok sok z) (xp s1 hu) xf
  refine ⟨_,rfl,_,_,rfl,rfl,_,rfl,ite2 (fun b1=>?_) (fun b1=>⟨_,rfl,_,rfl,_,rfl,(by show 3≤sizeLine; decide),win fun z=>b1 (decide_eq_true z.1)⟩)⟩
  refine ⟨_,rfl,_,_,rfl,rfl,_,rfl,ite2 (fun b2=>?_) (fun b2=>⟨_,rfl,_,rfl,_,rfl,(by show 3≤sizeLine; decide),win fun z=>b2 (decide_eq_true z.2.1)⟩)⟩
  refine ⟨_,rfl,_,_,rfl,rfl,_,rfl,ite2 (fun b3=>⟨_,rfl,_,rfl,(by show 3≤sizeLine; decide),win fun z=>?_⟩) (fun b3=>?_)⟩
  ·rw [decide_eq_true z.2.2] at b3
   cases b3
  exact q _ _ s1 (.inl ⟨xnr nm cok sok ⟨of_decide_eq_true b1,of_decide_eq_true b2,le2 b3⟩,rfl⟩)
theorem ok_p (T:Txt w K mg t):FnOk true P w K mg base (CXo P w) 2 t.f_p t.d_p ["_law_dots", "_law_dot_here", "_law_width", "_law_height"] (xp3):=by
 refine T.F_p.okn (k:=1) sc_p (fun vs H Q E h=>?_) (fun cdv A outer s H vs Q E hr h=>?_)
 ·obtain ⟨l,dq,w',h',ds,qs,p,rfl,_⟩:=h
  rfl
 ·obtain ⟨l,dq,w',h',ds,qs,p,rfl,h⟩:=h
  refine ⟨_,xh (xah (i:=4) sc_p.nd rfl (Or.inl rfl) (x8 (ok_ad T) (hr.mono (by decide)) rfl T.g_ad T.F_ad.kp T.b_ad .nil xz (xb (pv 1) (xb (pv 2) (xb (pv 3) (xg))))))
   (xh (xab (xu xed (pv 4) (xaj) (xac _)) (xn (xr (pv 4))) (xt))
   (xh (xab (xu xd8 (xan xbf (pv 1) (xk) (fun _ _=>rfl)) (xgz rfl (xcw (zs:=["_law_one"]) (ys:=[]) (fr:=[]) (N0:=["_law_dots", "_law_dot_here", "_law_width", "_law_height", "_law_wrong_here", "_law_one"]) (sc0:=xm s_p) (by decide +kernel) rfl rfl rfl) (xba (pv 0)) (fun _ _ _ _ _ ow nd=>x0 (i:=0) nd rfl (Or.inl (ow _ (by simp))) (Or.inr (ow _ (by simp)))) (xc2 (by decide)) (fun _ _ _ _ _=>xdi) (fun _ _ _ _ _=>xan (r:=rIxT K) xbf (pv 0) (xk) (fun _ _=>rfl))) (by rfl)) (xn (xr (xaf (xb (xv) (xb (xan xbf (pv 1) (xk) (fun _ _=>rfl)) (xg)))))) (xt))
   (xh (xab (xu xa9 (x6 xam rfl T.n_len boot_len (xb (pv 0) (xg))) (xk) (xac _)) (xn (xr (xaf (xb (xv) (xg))))) (xt))
   (xh (xb3 PassesOwn.never rfl (xba (pv 0)) (x0 (i:=5) sc_p.nd rfl (Or.inl rfl)) (xn (xab (xu xa9 (xan xbf (pv 5) (xk) (fun _ _=>rfl)) (xan xbf (pv 1) (xk) (fun _ _=>rfl)) (xac _)) (xn (xr (xaf (xb (xv) (xb (xan xbf (pv 5) (xk) (fun _ _=>rfl)) (xg)))))) (xt))))
   (xh (xb3 PassesOwn.never rfl (xba (pv 0)) (x0 (i:=5) sc_p.nd rfl (Or.inl rfl)) (xn (xab (xu xa9 (xan xbf (pv 5) (xk) (fun _ _=>rfl)) (xan xbf (pv 1) (xk) (fun _ _=>rfl)) (xac _)) (xn (xr (xaf (xb (xv) (xb (xan xbf (pv 5) (xk) (fun _ _=>rfl)) (xg)))))) (xt))))
   (xn (xr (xaj)))))))),?_⟩
  obtain ⟨hl,pts,d12,hd,tn,q⟩:=h
  refine ⟨_,rfl,_,rfl,_,rfl,dq,w',h',p,rfl,hd,tn,fun H1 v s1 wr=>?_⟩
  rcases wr with ⟨o,rfl⟩ | ⟨er,u,o,rfl,hu⟩
  rotate_left
  ·exact ⟨_,rfl,rfl,_,rfl,ifP (by rfl) ⟨_,rfl,q _ _ s1 (.inr ⟨er,u,xg9 o,rfl,hu⟩)⟩⟩
  obtain ⟨nm,eP⟩:=xhd (ps:=ds) o
  rw [eP] at q
  have fin:∀ er H' u,outR ds p=some er→Same H H'→H' u=some (.tup er.told)→Q (.ref u) H':=fun er H' u o s e=>q H' _ s (.inr ⟨er,u,o,rfl,e⟩)
  refine ⟨_,rfl,rfl,_,rfl,ifN (by rfl) ?_⟩
  refine ⟨_,rfl,dq,_,0,.str p.nm,rfl,rfl,SqT.of (s1 _ _ hd),rfl,_,rfl,l,rfl,⟨_,SqL.of (s1 _ _ hl)⟩,fun lc hlc=>?_⟩
  have pts1:=pts.keep (Same.tups s1)
  refine xf7 (SqL.of (s1 _ _ hl)) (by rw [List.length_map,pts.len]; exact Nat.lt_of_le_of_lt d12 (by decide)) hlc (fun i y _=>∃ d:Pt,ds[i]?=some d∧y=.str d.nm) (fun _ _ _ _ _ z=>z) (fun i z H2 hz s2 N hN=>?_) (fun ys H2 s2 el2 ly f2=>?_)
  ·rw [List.getElem?_map] at hz
   obtain ⟨u,hu,rfl⟩:=Option.map_eq_some_iff.mp hz
   obtain ⟨d,hd',ed⟩:=pts1.get hu
   exact ⟨_,rfl,u,_,0,.str d.nm,rfl,rfl,SqT.of (s2 _ _ ed),rfl,hN _ _ (Same.refl _) ⟨d,hd',rfl⟩⟩
  have ey:ys=ds.map fun d=>V.str d.nm:=by
   refine xio (by rw [ly,List.length_map,pts.len]) fun i y d hy hd'=>?_
   obtain ⟨d',a1,a2⟩:=f2 i y hy
   rw [hd'] at a1
   cases a1
   exact a2
  subst ey
  have s02:=s1.trans s2
  have inE:inV (.str p.nm) (ds.map fun d=>V.str d.nm)=ds.any fun d=>decide (d.nm=p.nm):=by
   unfold inV
   rw [List.any_map]
   congr 1
  refine ⟨lc,_,rfl,.inl (SqL.of el2),rfl,?_,_,rfl,ite2 (fun c=>?_) (fun c=>?_)⟩
  ·rw [List.all_eq_true]
   intro z hz
   obtain ⟨i,_,rfl⟩:=List.mem_map.mp hz
   rfl
  ·rw [if_neg (by decide),inE] at c
   exact ⟨_,rfl,dq,_,0,.str p.nm,rfl,rfl,SqT.of (s02 _ _ hd),rfl,(by show 2≤sizeLine; decide),fun u hu=>fin (.oldPoint (.str p.nm)) _ u (by unfold outR; rw [if_pos c]) (xp s02 hu) xf⟩
  rw [if_neg (by decide),inE] at c
  have noN:∀ d ∈ ds,d.nm≠p.nm:=fun d hd' e=>c (List.any_eq_true.mpr ⟨d,hd',decide_eq_true e⟩)
  refine ⟨_,rfl,l,_,rfl,.inl (SqL.of (s02 _ _ hl)),rfl,_,rfl,ite2 (fun c2=>?_) (fun c2=>?_)⟩
  ·refine ⟨(by show 1≤sizeLine; decide),fun u hu=>fin .tooMany _ u ?_ (xp s02 hu) xf⟩
   have e12:ds.length=12:=by
    have y:=V.int.inj (of_decide_eq_true c2)
    rw [List.length_map,pts.len] at y
    omega
   unfold outR
   rw [if_neg c,if_pos (by omega)]
  have n12:¬ 12≤ds.length:=fun z=>c2 (decide_eq_true (by rw [List.length_map,pts.len,show ds.length=12 by omega]; rfl))
  have eR:outR ds p=xa4 ds p.nm p.x p.y:=by
   unfold outR
   rw [if_neg c,if_neg n12]
  have pts2:=pts.keep (Same.tups s02)
  refine ⟨_,rfl,l,rfl,⟨_,SqL.of (s02 _ _ hl)⟩,?_⟩
  refine xcg (xs:=qs.map V.ref) (Pv:=fun i σ H5=>∃ v5:Option V,σ=[some (.ref l),some (.ref dq),some (.int w'),some (.int h'),some .non,v5]∧H2=H5∧∀ (k:Nat) (d:Pt),k < i→ds[k]?=some d→d.x≠p.x) ⟨_,rfl,rfl,fun k d h=>absurd h (Nat.not_lt_zero _)⟩ ?_ ?_ ?_
  ·rintro i σ H5 _ ⟨v5,_,rfl,_⟩
   exact SqL.of (s02 _ _ hl)
  ·rintro i x σ _ hx ⟨v5,rfl,rfl,no⟩
   rw [List.getElem?_map] at hx
   obtain ⟨u,hu,rfl⟩:=Option.map_eq_some_iff.mp hx
   obtain ⟨d,hd',ed⟩:=pts2.get hu
   refine ⟨_,rfl,u,_,1,.int d.x,rfl,rfl,SqT.of ed,rfl,_,rfl,dq,_,1,.int p.x,rfl,rfl,SqT.of (s02 _ _ hd),rfl,rfl,_,rfl,ite2 (fun c3=>?_) (fun c3=>?_)⟩
   ·refine ⟨_,rfl,u,_,0,.str d.nm,rfl,rfl,SqT.of ed,rfl,(by show 2≤sizeLine; decide),fun u2 hu2=>fin (.sameColumn (.str d.nm)) _ u2 ?_ (xp s02 hu2) xf⟩
    have ex:d.x=p.x:=V.int.inj (of_decide_eq_true c3)
    rw [eR]
    unfold xa4
    rw [xeh hd' (by rw [decide_eq_true (noN d (List.mem_of_getElem? hd')),decide_eq_true ex]; rfl) fun k d' hk hk'=>by rw [decide_eq_false (no k d' hk hk'),Bool.and_false]]
   ·refine ⟨_,rfl,rfl,fun k d' hk hk'=>?_⟩
    rcases Nat.lt_or_ge k i with z | z
    ·exact no k d' z hk'
    ·obtain rfl:k=i:=by omega
     rw [hd'] at hk'
     cases hk'
     exact fun z=>c3 (decide_eq_true (by rw [z]))
  ·rintro σ _ ⟨v5,rfl,rfl,no⟩
   rw [List.length_map,pts.len] at no
   have eC:xa4 ds p.nm p.x p.y=match ds.find? (fun d=>decide (d.nm≠p.nm) && decide (d.y=p.y)) with | some d=>some (.sameRow (.str d.nm)) | none=>none:=by
    unfold xa4
    rw [List.find?_eq_none.mpr fun d hd'=>by
     obtain ⟨k,hk⟩:=List.getElem?_of_mem hd'
     have hk2:=(List.getElem?_eq_some_iff.mp hk).1
     rw [decide_eq_false (no k d hk2 hk),Bool.and_false]
     decide]
    all_goals rfl
   refine ⟨_,rfl,l,rfl,⟨_,SqL.of (s02 _ _ hl)⟩,?_⟩
   refine xcg (xs:=qs.map V.ref) (Pv:=fun i σ H5=>∃ v5:Option V,σ=[some (.ref l),some (.ref dq),some (.int w'),some (.int h'),some .non,v5]∧H2=H5∧∀ (k:Nat) (d:Pt),k < i→ds[k]?=some d→d.y≠p.y) ⟨_,rfl,rfl,fun k d h=>absurd h (Nat.not_lt_zero _)⟩ ?_ ?_ ?_
   ·rintro i σ H5 _ ⟨v5,_,rfl,_⟩
    exact SqL.of (s02 _ _ hl)
   ·rintro i x σ _ hx ⟨v5,rfl,rfl,noY⟩
    rw [List.getElem?_map] at hx
    obtain ⟨u,hu,rfl⟩:=Option.map_eq_some_iff.mp hx
    obtain ⟨d,hd',ed⟩:=pts2.get hu
    refine ⟨_,rfl,u,_,2,.int d.y,rfl,rfl,SqT.of ed,rfl,_,rfl,dq,_,2,.int p.y,rfl,rfl,SqT.of (s02 _ _ hd),rfl,rfl,_,rfl,ite2 (fun c3=>?_) (fun c3=>?_)⟩
    ·refine ⟨_,rfl,u,_,0,.str d.nm,rfl,rfl,SqT.of ed,rfl,(by show 2≤sizeLine; decide),fun u2 hu2=>fin (.sameRow (.str d.nm)) _ u2 ?_ (xp s02 hu2) xf⟩
     have ex:d.y=p.y:=V.int.inj (of_decide_eq_true c3)
     rw [eR,eC,xeh hd' (by rw [decide_eq_true (noN d (List.mem_of_getElem? hd')),decide_eq_true ex]; rfl) fun k d' hk hk'=>by rw [decide_eq_false (noY k d' hk hk'),Bool.and_false]]
    ·refine ⟨_,rfl,rfl,fun k d' hk hk'=>?_⟩
     rcases Nat.lt_or_ge k i with z | z
     ·exact noY k d' z hk'
     ·obtain rfl:k=i:=by omega
      rw [hd'] at hk'
      cases hk'
      exact fun z=>c3 (decide_eq_true (by rw [z]))
   ·rintro σ _ ⟨v5,rfl,rfl,noY⟩
    rw [List.length_map,pts.len] at noY
    refine q _ _ s02 (.inl ⟨?_,rfl⟩)
    rw [eR,eC,List.find?_eq_none.mpr fun d hd'=>by
     obtain ⟨k,hk⟩:=List.getElem?_of_mem hd'
     have hk2:=(List.getElem?_eq_some_iff.mp hk).1
     rw [decide_eq_false (noY k d hk2 hk),Bool.and_false]
     decide]
end
end S22
set_option maxRecDepth 100000
set_option maxHeartbeats 4000000
namespace S22
open PySem L2 XL PyProof.Rows
def xod (t:Adr):Sp:=fun vs H Q _=>∃ (e:Addr) (er:Er),vs=[.ref e]∧ErAt t H e er∧∀ H' q,Same H H'→H' q=some (.tup er.told)→Q (.ref q) H'
section
variable {P:Program} {w:World} {K:PySem.W.Frag} {mg:Str→Option Value} {base:Heap} {t:Adr}
theorem ok_ap (T:Txt w K mg t):FnOk false P w K mg base (CXo P w) 1 t.f_ap t.d_ap ["_law_e"] (xod t):=by
 refine T.F_ap.okn (k:=0) sc_ap (fun vs H Q E h=>?_) (fun cdv A outer s H vs Q E hr h=>?_)
 ·obtain ⟨e,er,rfl,_⟩:=h
  rfl
 ·obtain ⟨e,er,rfl,h⟩:=h
  refine ⟨_,xh (xab (xav (x6 xao rfl T.n_isinstance boot_isinstance (xb (pv 0) (xb (xbd (v:=.ref _) rfl T.g_ah rfl) (xg))))) (xn (xr (xaf (xb (xv) (xb (xb2 (pv 0) rfl) (xg)))))) (xt))
   (xh (xab (xav (x6 xao rfl T.n_isinstance boot_isinstance (xb (pv 0) (xb (xbd (v:=.ref _) rfl T.g_af rfl) (xg))))) (xn (xr (xaf (xb (xv) (xb (xb2 (pv 0) rfl) (xb (xb2 (pv 0) rfl) (xg))))))) (xt))
   (xh (xab (xav (x6 xao rfl T.n_isinstance boot_isinstance (xb (pv 0) (xb (xbd (v:=.ref _) rfl T.g_m rfl) (xg))))) (xn (xr (xaf (xb (xv) (xb (xb2 (pv 0) rfl) (xg)))))) (xt))
   (xh (xab (xav (x6 xao rfl T.n_isinstance boot_isinstance (xb (pv 0) (xb (xbd (v:=.ref _) rfl T.g_j rfl) (xg))))) (xn (xr (xaf (xb (xv) (xb (xb2 (pv 0) rfl) (xb (xb2 (pv 0) rfl) (xg))))))) (xt))
   (xh (xab (xav (x6 xao rfl T.n_isinstance boot_isinstance (xb (pv 0) (xb (xbd (v:=.ref _) rfl T.g_n rfl) (xg))))) (xn (xr (xaf (xb (xv) (xb (xb2 (pv 0) rfl) (xg)))))) (xt))
   (xh (xab (xav (x6 xao rfl T.n_isinstance boot_isinstance (xb (pv 0) (xb (xbd (v:=.ref _) rfl T.g_v rfl) (xg))))) (xn (xr (xaf (xb (xv) (xg))))) (xt))
   (xh (xab (xav (x6 xao rfl T.n_isinstance boot_isinstance (xb (pv 0) (xb (xbd (v:=.ref _) rfl T.g_e rfl) (xg))))) (xn (xr (xaf (xb (xv) (xb (xb2 (pv 0) rfl) (xg)))))) (xt))
   (xh (xab (xav (x6 xao rfl T.n_isinstance boot_isinstance (xb (pv 0) (xb (xbd (v:=.ref _) rfl T.g_w rfl) (xg))))) (xn (xr (xaf (xb (xv) (xb (xb2 (pv 0) rfl) (xg)))))) (xt))
   (xn (xr (xaf (xb (xv) (xg)))))))))))),?_⟩
  obtain ⟨ea,q⟩:=h
  cases er with
  | noName v0 =>
   rcases ea with ⟨z,_⟩ | ⟨_,dx,he,hdx⟩
   ·cases z
   have hd:∀ d,some dx=some d→∃ fs,H d=some (XD d fs):=fun d z=>by cases z; exact ⟨_,hdx⟩
   refine ⟨_,rfl,_,_,rfl,.inr (.inl ⟨e,_,_,_,true,rfl,he,hd,T.x_ah,rfl,T.kit_cc,true,rfl,iteT ?_⟩)⟩
   exact ⟨_,rfl,e,_,dx,_,v0,rfl,he,hdx,T.x_ah,T.n_cg,lk_1,(by show 2≤sizeLine; decide),fun p hp=>q _ p (xp (Same.refl _) hp) xf⟩
  | noCell v0 v1 =>
   rcases ea with ⟨z,_⟩ | ⟨_,dx,he,hdx⟩
   ·cases z
   have hd:∀ d,some dx=some d→∃ fs,H d=some (XD d fs):=fun d z=>by cases z; exact ⟨_,hdx⟩
   refine ⟨_,rfl,_,_,rfl,.inr (.inl ⟨e,_,_,_,false,rfl,he,hd,T.x_af,rfl,T.kit_cd,false,rfl,iteF ?_⟩)⟩
   refine ⟨_,rfl,_,_,rfl,.inr (.inl ⟨e,_,_,_,true,rfl,he,hd,T.x_af,rfl,T.kit_ce,true,rfl,iteT ?_⟩)⟩
   exact ⟨_,rfl,e,_,dx,_,v0,rfl,he,hdx,T.x_af,T.n_c6,lk_1,_,rfl,e,_,dx,_,v1,rfl,he,hdx,T.x_af,T.n_c5,lk_2 (by decide +kernel),(by show 3≤sizeLine; decide),fun p hp=>q _ p (xp (Same.refl _) hp) xf⟩
  | noSides v0 =>
   rcases ea with ⟨z,_⟩ | ⟨_,dx,he,hdx⟩
   ·cases z
   have hd:∀ d,some dx=some d→∃ fs,H d=some (XD d fs):=fun d z=>by cases z; exact ⟨_,hdx⟩
   refine ⟨_,rfl,_,_,rfl,.inr (.inl ⟨e,_,_,_,false,rfl,he,hd,T.x_m,rfl,T.kit_b3,false,rfl,iteF ?_⟩)⟩
   refine ⟨_,rfl,_,_,rfl,.inr (.inl ⟨e,_,_,_,false,rfl,he,hd,T.x_m,rfl,T.kit_b4,false,rfl,iteF ?_⟩)⟩
   refine ⟨_,rfl,_,_,rfl,.inr (.inl ⟨e,_,_,_,true,rfl,he,hd,T.x_m,rfl,T.kit_bo,true,rfl,iteT ?_⟩)⟩
   exact ⟨_,rfl,e,_,dx,_,v0,rfl,he,hdx,T.x_m,T.n_by,lk_1,(by show 2≤sizeLine; decide),fun p hp=>q _ p (xp (Same.refl _) hp) xf⟩
  | noWindow v0 v1 =>
   rcases ea with ⟨z,_⟩ | ⟨_,dx,he,hdx⟩
   ·cases z
   have hd:∀ d,some dx=some d→∃ fs,H d=some (XD d fs):=fun d z=>by cases z; exact ⟨_,hdx⟩
   refine ⟨_,rfl,_,_,rfl,.inr (.inl ⟨e,_,_,_,false,rfl,he,hd,T.x_j,rfl,T.kit_bp,false,rfl,iteF ?_⟩)⟩
   refine ⟨_,rfl,_,_,rfl,.inr (.inl ⟨e,_,_,_,false,rfl,he,hd,T.x_j,rfl,T.kit_bq,false,rfl,iteF ?_⟩)⟩
   refine ⟨_,rfl,_,_,rfl,.inr (.inl ⟨e,_,_,_,false,rfl,he,hd,T.x_j,rfl,T.kit_bg,false,rfl,iteF ?_⟩)⟩
   refine ⟨_,rfl,_,_,rfl,.inr (.inl ⟨e,_,_,_,true,rfl,he,hd,T.x_j,rfl,T.kit_ba,true,rfl,iteT ?_⟩)⟩
   exact ⟨_,rfl,e,_,dx,_,v0,rfl,he,hdx,T.x_j,T.n_b9,lk_1,_,rfl,e,_,dx,_,v1,rfl,he,hdx,T.x_j,T.n_bz,lk_2 (by decide +kernel),(by show 3≤sizeLine; decide),fun p hp=>q _ p (xp (Same.refl _) hp) xf⟩
  | oldPoint v0 =>
   rcases ea with ⟨z,_⟩ | ⟨_,dx,he,hdx⟩
   ·cases z
   have hd:∀ d,some dx=some d→∃ fs,H d=some (XD d fs):=fun d z=>by cases z; exact ⟨_,hdx⟩
   refine ⟨_,rfl,_,_,rfl,.inr (.inl ⟨e,_,_,_,false,rfl,he,hd,T.x_n,rfl,T.kit_br,false,rfl,iteF ?_⟩)⟩
   refine ⟨_,rfl,_,_,rfl,.inr (.inl ⟨e,_,_,_,false,rfl,he,hd,T.x_n,rfl,T.kit_bs,false,rfl,iteF ?_⟩)⟩
   refine ⟨_,rfl,_,_,rfl,.inr (.inl ⟨e,_,_,_,false,rfl,he,hd,T.x_n,rfl,T.kit_bh,false,rfl,iteF ?_⟩)⟩
   refine ⟨_,rfl,_,_,rfl,.inr (.inl ⟨e,_,_,_,false,rfl,he,hd,T.x_n,rfl,T.kit_bb,false,rfl,iteF ?_⟩)⟩
   refine ⟨_,rfl,_,_,rfl,.inr (.inl ⟨e,_,_,_,true,rfl,he,hd,T.x_n,rfl,T.kit_bc,true,rfl,iteT ?_⟩)⟩
   exact ⟨_,rfl,e,_,dx,_,v0,rfl,he,hdx,T.x_n,T.n_b0,lk_1,(by show 2≤sizeLine; decide),fun p hp=>q _ p (xp (Same.refl _) hp) xf⟩
  | tooMany =>
   rcases ea with ⟨_,he⟩ | ⟨z,_⟩
   rotate_left
   ·exact absurd rfl z
   have hd:∀ d,(none:Option Addr)=some d→∃ fs,H d=some (XD d fs):=fun d z=>nomatch z
   refine ⟨_,rfl,_,_,rfl,.inr (.inl ⟨e,_,_,_,false,rfl,he,hd,T.x_v,rfl,T.kit_b5,false,rfl,iteF ?_⟩)⟩
   refine ⟨_,rfl,_,_,rfl,.inr (.inl ⟨e,_,_,_,false,rfl,he,hd,T.x_v,rfl,T.kit_b6,false,rfl,iteF ?_⟩)⟩
   refine ⟨_,rfl,_,_,rfl,.inr (.inl ⟨e,_,_,_,false,rfl,he,hd,T.x_v,rfl,T.kit_bt,false,rfl,iteF ?_⟩)⟩
   refine ⟨_,rfl,_,_,rfl,.inr (.inl ⟨e,_,_,_,false,rfl,he,hd,T.x_v,rfl,T.kit_bi,false,rfl,iteF ?_⟩)⟩
   refine ⟨_,rfl,_,_,rfl,.inr (.inl ⟨e,_,_,_,false,rfl,he,hd,T.x_v,rfl,T.kit_bj,false,rfl,iteF ?_⟩)⟩
   refine ⟨_,rfl,_,_,rfl,.inr (.inl ⟨e,_,_,_,true,rfl,he,hd,T.x_v,rfl,T.kit_bu,true,rfl,iteT ?_⟩)⟩
   exact ⟨(by show 1≤sizeLine; decide),fun p hp=>q _ p (xp (Same.refl _) hp) xf⟩
  | sameColumn v0 =>
   rcases ea with ⟨z,_⟩ | ⟨_,dx,he,hdx⟩
   ·cases z
   have hd:∀ d,some dx=some d→∃ fs,H d=some (XD d fs):=fun d z=>by cases z; exact ⟨_,hdx⟩
   refine ⟨_,rfl,_,_,rfl,.inr (.inl ⟨e,_,_,_,false,rfl,he,hd,T.x_e,rfl,T.kit_bd,false,rfl,iteF ?_⟩)⟩
   refine ⟨_,rfl,_,_,rfl,.inr (.inl ⟨e,_,_,_,false,rfl,he,hd,T.x_e,rfl,T.kit_be,false,rfl,iteF ?_⟩)⟩
   refine ⟨_,rfl,_,_,rfl,.inr (.inl ⟨e,_,_,_,false,rfl,he,hd,T.x_e,rfl,T.kit_a6,false,rfl,iteF ?_⟩)⟩
   refine ⟨_,rfl,_,_,rfl,.inr (.inl ⟨e,_,_,_,false,rfl,he,hd,T.x_e,rfl,T.kit_a4,false,rfl,iteF ?_⟩)⟩
   refine ⟨_,rfl,_,_,rfl,.inr (.inl ⟨e,_,_,_,false,rfl,he,hd,T.x_e,rfl,T.kit_a5,false,rfl,iteF ?_⟩)⟩
   refine ⟨_,rfl,_,_,rfl,.inr (.inl ⟨e,_,_,_,false,rfl,he,hd,T.x_e,rfl,T.kit_a7,false,rfl,iteF ?_⟩)⟩
   refine ⟨_,rfl,_,_,rfl,.inr (.inl ⟨e,_,_,_,true,rfl,he,hd,T.x_e,rfl,T.kit_a2,true,rfl,iteT ?_⟩)⟩
   exact ⟨_,rfl,e,_,dx,_,v0,rfl,he,hdx,T.x_e,T.n_a9,lk_1,(by show 2≤sizeLine; decide),fun p hp=>q _ p (xp (Same.refl _) hp) xf⟩
  | sameRow v0 =>
   rcases ea with ⟨z,_⟩ | ⟨_,dx,he,hdx⟩
   ·cases z
   have hd:∀ d,some dx=some d→∃ fs,H d=some (XD d fs):=fun d z=>by cases z; exact ⟨_,hdx⟩
   refine ⟨_,rfl,_,_,rfl,.inr (.inl ⟨e,_,_,_,false,rfl,he,hd,T.x_w,rfl,T.kit_b7,false,rfl,iteF ?_⟩)⟩
   refine ⟨_,rfl,_,_,rfl,.inr (.inl ⟨e,_,_,_,false,rfl,he,hd,T.x_w,rfl,T.kit_b8,false,rfl,iteF ?_⟩)⟩
   refine ⟨_,rfl,_,_,rfl,.inr (.inl ⟨e,_,_,_,false,rfl,he,hd,T.x_w,rfl,T.kit_bv,false,rfl,iteF ?_⟩)⟩
   refine ⟨_,rfl,_,_,rfl,.inr (.inl ⟨e,_,_,_,false,rfl,he,hd,T.x_w,rfl,T.kit_bk,false,rfl,iteF ?_⟩)⟩
   refine ⟨_,rfl,_,_,rfl,.inr (.inl ⟨e,_,_,_,false,rfl,he,hd,T.x_w,rfl,T.kit_bl,false,rfl,iteF ?_⟩)⟩
   refine ⟨_,rfl,_,_,rfl,.inr (.inl ⟨e,_,_,_,false,rfl,he,hd,T.x_w,rfl,T.kit_bw,false,rfl,iteF ?_⟩)⟩
   refine ⟨_,rfl,_,_,rfl,.inr (.inl ⟨e,_,_,_,false,rfl,he,hd,T.x_w,rfl,T.kit_a8,false,rfl,iteF ?_⟩)⟩
   refine ⟨_,rfl,_,_,rfl,.inr (.inl ⟨e,_,_,_,true,rfl,he,hd,T.x_w,rfl,T.kit_bx,true,rfl,iteT ?_⟩)⟩
   exact ⟨_,rfl,e,_,dx,_,v0,rfl,he,hdx,T.x_w,T.n_cb,lk_1,(by show 2≤sizeLine; decide),fun p hp=>q _ p (xp (Same.refl _) hp) xf⟩
end
end S22
set_option maxRecDepth 100000
set_option maxHeartbeats 4000000
namespace S22
open PySem L2 XL PyProof.Rows
def RdV (t:Adr) (H:Hp) (w h:Nat) (dws:List Pw) (fv tv:V):Prop:=(∃ er q,xce w h dws=some er∧fv=.non∧tv=.ref q∧H q=some (.tup er.told)) ∨
 (xce w h dws=none∧tv=.non∧∃ a dp do_ ps,fv=.ref a∧xap w h [] (dws.map (Pw.pt h))=(none,ps)∧Pic t H a dp do_ w h ps∧Sts H do_ [(false,1)])
def xlc (t:Adr):Sp:=fun vs H Q _=>∃ (ll:Addr) (w h:Nat) (dws:List Pw),vs=[.ref ll]∧H ll=some (.lst (linV w h dws))∧(1≤w∧w≤30)∧(1≤h∧h≤16)∧(∀ p ∈ dws,p.Ok)∧dws.length≤13 ∧
 ∀ H' p fv tv,Same H H'→H' p=some (.tup [fv,tv])→RdV t H' w h dws fv tv→Q (.ref p) H'
theorem RdV.same {t:Adr} {H H':Hp} {w h:Nat} {dws:List Pw} {fv tv:V} (s:Same H H') (x:RdV t H w h dws fv tv):RdV t H' w h dws fv tv:=by
 rcases x with ⟨er,q,o,e1,e2,hq⟩ | ⟨o,e2,a,dp,do_,ss,e1,eo,pic,st⟩
 ·exact .inl ⟨er,q,o,e1,e2,s _ _ hq⟩
 ·exact .inr ⟨o,e2,a,dp,do_,ss,e1,eo,Pic.same s pic,st.same s⟩
theorem xlh {w h:Int} {ps:List Pt} {p:Pt} (o:outP w h ps p=none):ps.length < 12:=by
 cases z:outW w h p with
 | some er=>rw [xg9 z] at o; cases o
 | none =>
  rw [(xhd (ps:=ps) z).2] at o
  unfold outR at o
  split at o
  ·cases o
  ·split at o
   ·cases o
   ·omega
theorem xfa {w h:Int}:∀ {r ps s:List Pt},xap w h ps r=(none,s)→ps.length≤12→s.length≤12
 | [],ps,s,e,l=>by
  cases e
  exact l
 | x :: r,ps,s,e,l=>by
  cases o:outP w h ps x with
  | some er =>
   rw [xap.eq_2,o] at e
   cases e
  | none =>
   rw [xdu o] at e
   have:=xlh o
   exact xfa e (by simp; omega)
theorem xo6 (w h:Nat):Str.ofString "frame " ++ numT w ++ Str.ofString " " ++ numT h=frT w h:=by
 have z:=xd4 (c:=32) (w:=numT h) (ws:=["frame",numT w]) (by simp)
 have y:=xd4 (c:=32) (w:=numT w) (ws:=["frame"]) (by simp)
 unfold frT
 rw [show ([("frame":Str),numT w,numT h]:List Str)=[("frame":Str),numT w] ++ [numT h] from rfl,← z,show ([("frame":Str),numT w]:List Str)=[("frame":Str)] ++ [numT w] from rfl,← y,show Str.ofString " "=(⟨#[32]⟩:Str) from by decide +kernel]
 rw [show Str.join ⟨#[32]⟩ [("frame":Str)] ++ (⟨#[32]⟩:Str)=Str.ofString "frame " from by decide +kernel]
def rngP (L:Nat):Int:=if (if (L:Int) - 2 > 1 then (L:Int) - 2 else 1) < 13 then (if (L:Int) - 2 > 1 then (L:Int) - 2 else 1) else 13
theorem xof (L:Nat):0≤rngP L∧rngP L≤13:=by
 unfold rngP
 split <;> split at * <;> omega
def xgq (K:PySem.W.Frag):Sp:=fun vs H Q _=>∃ (a:Addr) (ns:List Int),vs=[.ref a]∧SqL K H a (ns.map V.int)∧ns.length≤63∧∀ H',Q (.bl true) H'
theorem xki (w h:Nat) (dws:List Pw) (p:Pw):linV w h dws ++ [.str p.t]=linV w h (dws ++ [p]):=by
 unfold linV
 rw [List.map_append]
 rfl
theorem xh1 (er:Er) (h:er.told.all scV=true) {K:PySem.W.Frag} {H:Hp} {q:Addr} (e:H q=some (.tup er.told)):Dv K H 1 (.ref q) (.tup (er.told.map scD)):=.tup (SqT.of e) (by rw [List.length_map]) (xo7 h)
theorem xmj {w h:Int} {ps:List Pt} {p:Pt} {er:Er} (o:outP w h ps p=some er):er.told.all scV=true:=by
 cases z:outW w h p with
 | some er2 =>
  rw [xg9 z] at o
  cases o
  unfold outW at z
  split at z
  ·split at z
   ·split at z
    ·split at z
     ·cases z
     ·cases z; rfl
    ·cases z; rfl
   ·cases z; rfl
  ·cases z; rfl
 | none =>
  rw [(xhd (ps:=ps) z).2] at o
  unfold outR at o
  split at o
  ·cases o; rfl
  ·split at o
   ·cases o; rfl
   ·unfold xa4 at o
    split at o
    ·cases o; rfl
    ·split at o
     ·cases o; rfl
     ·cases o
theorem xfy {w h:Int} {er:Er}:∀ {r ps:List Pt},(xap w h ps r).1=some er→er.told.all scV=true
 | [],ps,e=>by cases e
 | x :: r,ps,e=>by
  cases o:outP w h ps x with
  | some er2 =>
   rw [xev o] at e
   cases e
   exact xmj o
  | none =>
   rw [xdu o] at e
   exact xfy e
def I22 (t:Adr) (H:Hp) (sc ll ld:Addr) (w h:Nat) (i:Nat) (σ:L2.St) (H5:Hp):Prop:=i≤13∧∃ (v6 v7 v8:Option V) (dv:V) (dws:List Pw),σ=[some (.ref sc),some (.int w),some (.int h),some (.ref ll),some (.ref ld),some dv,v6,v7,v8,none,none]∧Same H H5∧H5 ll=some (.lst (linV w h dws))∧(∀ p ∈ dws,p.Ok)∧dws.length=i ∧
 ((dv=.non∧∃ qs,H5 ld=some (.lst (qs.map V.ref))∧PtsL H5 (dws.map (Pw.pt h)) qs∧xap w h [] (dws.map (Pw.pt h))=(none,dws.map (Pw.pt h)))∨(∃ er q,dv=.ref q∧H5 q=some (.tup er.told)∧(xap w h [] (dws.map (Pw.pt h))).1=some er))
theorem PtsL.snoc1 {H:Hp} {ps:List Pt} {qs:List Addr} (h:PtsL H ps qs) {p:Pt} {q:Addr} (e:H q=some (.tup (dotV p))):PtsL H (ps ++ [p]) (qs ++ [q]):=by
 induction h with
 | nil=>exact .cons e .nil
 | cons h _ ih=>exact .cons h ih
section
variable {P:Program} {w:World} {K:PySem.W.Frag} {mg:Str→Option Value} {base:Heap} {t:Adr}
theorem ok_ak (T:Txt w K mg t):FnOk true P w K mg base (CXo P w) 8 t.f_ak t.d_ak ["_law_lines"] (xlc t):=by
 refine T.F_ak.okn (k:=7) sc_ak (fun vs H Q E h=>?_) (fun cdv A outer s H vs Q E hr h=>?_)
 ·obtain ⟨ll,pw,ph,dws,rfl,_⟩:=h
  rfl
 ·obtain ⟨ll,pw,ph,dws,rfl,h⟩:=h
  refine ⟨_,xh (xah (i:=1) sc_ak.nd rfl (Or.inl rfl) (xaj))
   (xh (xah (i:=2) sc_ak.nd rfl (Or.inl rfl) (xaj))
   (xh (xns (E:=(fun σ' e C' H'=>∃ (er:Er),σ'=[some (.ref ll),some .non,some .non,none]∧C'=er.cls t∧xce pw ph dws=some er∧xbb t H H' e er)) rfl T.g_as T.mk_as sc_ak.nd (j:=3) rfl rfl rfl rfl (fun _ _ tk=>xn (xah (i:=1) sc_ak.nd rfl (Or.inl rfl) (x8 (okT_x T) (hr.mono (by decide)) rfl T.g_x T.F_x.kp T.b_x .nil tk.pass (xb (pv 0) (xg))))) (fun _=>xn (xah (i:=2) sc_ak.nd rfl (Or.inl rfl) (x8 (ok_ap T) (Room.mark hr (by decide)) rfl T.g_ap T.F_ap.kp T.b_ap .nil xz (xb (pv 3) (xg))))))
   (xn (xr (xaf (xb (pv 1) (xb (pv 2) (xg)))))))),?_⟩
  obtain ⟨hl,w1,h1,ok,len,q⟩:=h
  refine ⟨?_,?_⟩
  ·refine ⟨_,rfl,ll,pw,ph,dws,rfl,hl,w1,h1,ok,len,fun er her e H' z=>⟨er,rfl,rfl,her,z⟩,fun out H' a dp do_ ps eo s pic st=>?_⟩
   refine ⟨_,rfl,_,rfl,(by show 2≤sizeLine; decide),fun p hp=>?_⟩
   exact q _ p _ _ (xp s hp) xf (RdV.same (xp (Same.refl _) hp) (.inr ⟨out,rfl,a,dp,do_,ps,rfl,eo,pic,st⟩))
  ·rintro σ' e C' H' ⟨er,rfl,rfl,her,ra⟩
   refine ⟨?_,?_,?_⟩
   ·cases er
    ·exact T.mk_ah
    ·exact T.mk_af
    ·exact T.mk_m
    ·exact T.mk_j
    ·exact T.mk_n
    ·exact T.mk_v
    ·exact T.mk_e
    ·exact T.mk_w
   ·cases er
    ·exact T.mro_ah
    ·exact T.mro_af
    ·exact T.mro_m
    ·exact T.mro_j
    ·exact T.mro_n
    ·exact T.mro_v
    ·exact T.mro_e
    ·exact T.mro_w
   ·refine ⟨_,rfl,e,er,rfl,ra.2,fun H2 q2 s2 hq2=>⟨_,rfl,_,rfl,(by show 2≤sizeLine; decide),fun p hp=>?_⟩⟩
    exact q _ p _ _ (xp (ra.1.trans s2) hp) xf (RdV.same (xp (Same.refl _) hp) (.inl ⟨er,q2,her,rfl,rfl,hq2⟩))
theorem xop (T:Txt w K mg t):FnOk true P w K mg base (CXo P w) 9 t.f_law t.d_law ["_law_script"] (xgq K):=by
 refine T.F_law.okn (k:=8) xbs (fun vs H Q E h=>?_) (fun cdv A outer s H vs Q E hr h=>?_)
 ·obtain ⟨sc,ns,rfl,_⟩:=h
  rfl
 ·obtain ⟨sc,ns,rfl,h⟩:=h
  refine ⟨_,xh (xah (i:=1) xbs.nd rfl (Or.inl rfl) (x9 xbh (xk) (x9 xas (x8 (ok_ai T) (hr.mono (by decide)) rfl T.g_ai T.F_ai.kp T.b_ai .nil xz (xb (pv 0) (xb (xk) (xg)))) (xk))))
   (xh (xah (i:=2) xbs.nd rfl (Or.inl rfl) (x9 xbh (xk) (x9 xas (x8 (ok_ai T) (hr.mono (by decide)) rfl T.g_ai T.F_ai.kp T.b_ai .nil xz (xb (pv 0) (xb (xk) (xg)))) (xk))))
   (xh (xah (i:=3) xbs.nd rfl (Or.inl rfl) (xa7 (xb (x9 xdl (x9 xdl (x9 xdl (xv) (xbk xbp rfl T.n_str boot_str (xb (pv 1) (xg)))) (xv)) (xbk xbp rfl T.n_str boot_str (xb (pv 2) (xg)))) (xb (xv) (xg)))))
   (xh (xah (i:=4) xbs.nd rfl (Or.inl rfl) (xa7 (xg)))
   (xh (xah (i:=5) xbs.nd rfl (Or.inl rfl) (xaj))
   (xh (xb3 PassesOwn.never rfl (xjr rfl T.n_range (xb (x6 (xjz rfl) rfl T.n_min boot_min (xb (xk) (xb (x6 (xkr rfl) rfl T.n_max boot_max (xb (xk) (xb (x9 xi5 (x6 xam rfl T.n_len boot_len (xb (pv 0) (xg))) (xk)) (xg)))) (xg)))) (xg))) (x0 (i:=6) xbs.nd rfl (Or.inl rfl)) (xh (xcf (x8 (ok_aq T) (hr.mono (by decide)) rfl T.g_aq T.F_aq.kp T.b_aq .nil xz (xb (x8 (ok_ac T) (hr.mono (by decide)) rfl T.g_ac T.F_ac.kp T.b_ac .nil xz (xb (x8 (ok_ai T) (hr.mono (by decide)) rfl T.g_ai T.F_ai.kp T.b_ai .nil xz (xb (pv 0) (xb (x9 xbh (xk) (pv 6)) (xg)))) (xb (pv 6) (xg)))) (xb (pv 1) (xb (pv 2) (xg))))) (xcm rfl (xad (x0 (i:=7) xbs.nd rfl (Or.inl rfl)) (xad (x0 (i:=8) xbs.nd rfl (Or.inl rfl)) (xa6)))))
   (xh (xbq (xdq PySem.F.plainAttrs_list PySem.F.slot_list_append PySem.F.type_list_append xd1 (pv 3) (xb (xdq PySem.F.plainAttrs_str PySem.F.slot_str_join PySem.F.type_str_join xmp (xv) (xb (pv 7) (xg))) (xg))))
   (xn (xdy (xab (xu xc0 (pv 5) (xaj) (xac _)) (xh (xah (i:=5) xbs.nd rfl (Or.inl rfl) (x8 (ok_p T) (hr.mono (by decide)) rfl T.g_p T.F_p.kp T.b_p .nil xz (xb (pv 4) (xb (pv 8) (xb (pv 1) (xb (pv 2) (xg)))))))
   (xn (xbq (xdq PySem.F.plainAttrs_list PySem.F.slot_list_append PySem.F.type_list_append xd1 (pv 4) (xb (pv 8) (xg)))))) (xt)))))))
   (xh (xcf (x8 (ok_ak T) (hr.mono (by decide)) rfl T.g_ak T.F_ak.kp T.b_ak .nil xz (xb (pv 3) (xg))) (xcm rfl (xad (x0 (i:=9) xbs.nd rfl (Or.inl rfl)) (xad (x0 (i:=10) xbs.nd rfl (Or.inl rfl)) (xa6)))))
   (xh (xdy (xab (xu xed (pv 5) (xaj) (xac _)) (xn (xr (xdk (xha (xdh hr)) (pv 10) (pv 5) (xac _)))) (xt)))
   (xn (xr (xcr (xdk xc0 (pv 10) (xaj) (xac _)) (xcr (xdk (xha (xdh hr)) (xe2 (pv 9) T.c_t T.m_f (ok_f T) (hr.mono (by decide)) T.b_f .nil xz) (pv 4) (xac _)) (xe7 (xdk (xha (xdh hr)) (xe2 (pv 9) T.c_t T.m_i (ok_i T) (hr.mono (by decide)) T.b_i .nil xz) (xa7 (xb (xaf (xb (xv) (xb (xk) (xg)))) (xg))) (xac _)))))))))))))),?_⟩
  obtain ⟨hs,nl,q⟩:=h
  refine ⟨_,rfl,sc,ns,0,rfl,hs,by decide,by decide,fun c0=>⟨_,_,rfl,rfl,(by show (0:Int) < 30; decide),_,_,rfl,rfl,?_⟩⟩
  obtain ⟨w1,ew,w100,w11,w12⟩:=xgi c0 30 (by decide) (by decide)
  simp only [ew]
  refine ⟨_,rfl,sc,ns,1,rfl,hs,by decide,by decide,fun c1=>⟨_,_,rfl,rfl,(by show (0:Int) < 16; decide),_,_,rfl,rfl,?_⟩⟩
  obtain ⟨h1,eh,h100,h11,h12⟩:=xgi c1 16 (by decide) (by decide)
  simp only [eh]
  have wl:=xdj w100
  have hl:=xdj h100
  have e6:(Str.ofString "frame ").length=6:=by decide +kernel
  have e1:(Str.ofString " ").length=1:=by decide +kernel
  have cl:∀ a b:Str,(a ++ b).length=a.length + b.length:=fun a b=>by rw [xbn,xa5,List.length_append,← xbn,← xbn]
  refine ⟨_,rfl,(w1:Int),rfl,xdc w100,_,numT w1,rfl,rfl,?_,_,_,rfl,rfl,?_,_,rfl,(h1:Int),rfl,xdc h100,_,numT h1,rfl,rfl,?_,(by show 2≤sizeLine; decide),fun ll hll=>?_⟩
  ·rw [e6]
   exact Nat.le_trans (by omega:_≤1000) (by decide)
  ·rw [cl,e6,e1]
   exact Nat.le_trans (by omega:_≤1000) (by decide)
  ·rw [cl,cl,e6,e1]
   exact Nat.le_trans (by omega:_≤1000) (by decide)
  rw [xo6]
  have s1:Same H (upd H ll (.lst [.str (frT w1 h1),.str "right 1"])):=xp (Same.refl _) hll
  have g1:upd H ll (.lst [.str (frT w1 h1),.str "right 1"]) ll=some (.lst [.str (frT w1 h1),.str "right 1"]):=xf
  revert s1 g1
  generalize upd H ll (.lst [.str (frT w1 h1),.str "right 1"])=H1
  intro s1 g1
  refine ⟨(by show 0≤sizeLine; exact Nat.zero_le _),fun ld hld=>?_⟩
  have s2:Same H1 (upd H1 ld (.lst [])):=xp (Same.refl _) hld
  have g2:upd H1 ld (.lst []) ld=some (.lst []):=xf
  revert s2 g2
  generalize upd H1 ld (.lst [])=H2
  intro s2 g2
  have s02:=s1.trans s2
  have nll:ll≠ld:=xo g1 hld
  have fll:=hll
  have fld:=s1.free hld
  have rb:=xof ns.length
  refine ⟨_,rfl,sc,_,rfl,.inl (Same.seqL s02 hs),_,_,rfl,rfl,_,_,rfl,_,_,rfl,rngP ns.length,(by unfold rngP; simp),by omega,by omega,?_⟩
  refine xju (n:=(rngP ns.length).toNat) (Pv:=I22 t H sc ll ld w1 h1) ⟨Nat.zero_le _,_,_,_,_,[],rfl,s02,s2 _ _ g1,fun p hp=>(nomatch hp),rfl,.inl ⟨rfl,[],g2,.nil,rfl⟩⟩ ?_ ?_
  ·rintro i σ H5 hi ⟨i13,v6,v7,v8,dv,dws,rfl,s5,h5,dok,dlen,st⟩
   refine ⟨_,rfl,_,rfl,_,_,rfl,rfl,sc,ns,_,rfl,Same.seqL s5 hs,by omega,by omega,fun c=>⟨_,rfl,_,_,rfl,by omega,fun m=>⟨_,rfl,_,rfl,m,w1,h1,rfl,⟨w11,by omega⟩,⟨h11,by omega⟩,fun p H6 pq lw dq pok s6 hpq hlw hdq=>⟨pq,_,rfl,SqT.of hpq,rfl,_,_,rfl,_,_,rfl,rfl,?_⟩⟩⟩⟩
   have h6:=s6 _ _ h5
   have wl7:=p.ws_len.1
   have len6:(linV w1 h1 dws).length < sizeLine:=by
    unfold linV
    rw [List.length_cons,List.length_cons,List.length_map]
    exact Nat.lt_of_le_of_lt (by omega:_≤1000) (by decide)
   refine ⟨_,rfl,.inl ⟨rfl,_,SqL.of h6⟩,rfl,_,rfl,_,lw,p.ws,10,rfl,rfl,hlw,fun s hs=>(Pw.words pok s hs).len,?_,ll,_,_,rfl,rfl,h6,len6,?_⟩
   ·rw [e1]
    exact Nat.le_trans (by omega:_≤1000) (by decide)
   rw [show Str.ofString " "=(⟨#[32]⟩:Str) from by decide +kernel,show Str.join ⟨#[32]⟩ p.ws=p.t from rfl,xki]
   have k7:∀ c u,c≠ll→H6 c=some u→upd H6 ll (.lst (linV w1 h1 (dws ++ [p]))) c=some u:=fun c u nc e=>by rw [xj nc]; exact e
   have g7:upd H6 ll (.lst (linV w1 h1 (dws ++ [p]))) ll=some (.lst (linV w1 h1 (dws ++ [p]))):=xf
   revert k7 g7
   generalize upd H6 ll (.lst (linV w1 h1 (dws ++ [p])))=H7
   intro k7 g7
   have s07:Same H H7:=fun c u e=>k7 c u (xo e fll) (s6 _ _ (s5 _ _ e))
   have t67:Tups H6 H7:=fun c xs e=>k7 _ _ (xbm e h6 (fun z=>nomatch z)) e
   have dok':∀ z ∈ dws ++ [p],z.Ok:=fun z hz=>by
    rcases List.mem_append.mp hz with y | y
    ·exact dok z y
    ·rw [List.mem_singleton.mp y]; exact pok
   have i12:i + 1≤13:=by omega
   refine ⟨I22 t H sc ll ld w1 h1 (i + 1),?_,fun _ _ z=>z⟩
   rcases st with ⟨rfl,qs,hq5,pts,eo⟩ | ⟨er,u,rfl,hu,eo⟩
   ·refine ⟨_,rfl,rfl,_,rfl,ifP (by rfl) ?_⟩
    have hq7:=k7 _ _ (Ne.symm nll) (s6 _ _ hq5)
    have pts7:=pts.keep (fun b xs e=>t67 _ _ (s6 _ _ e))
    have l12:=xfa eo (Nat.zero_le _)
    have hd7:=t67 _ _ hdq
    refine ⟨_,rfl,_,rfl,_,rfl,_,rfl,ld,dq,w1,h1,dws.map (Pw.pt h1),qs,p.pt h1,rfl,hq7,pts7,l12,hd7,by rw [Pw.nm_pt]; exact pok.nm,fun H8 v s8 wr=>?_⟩
    have hq8:=s8 _ _ hq7
    have ql:qs.length≤12:=by rw [pts.len]; exact l12
    refine ⟨_,rfl,.inl ⟨rfl,_,SqL.of hq8⟩,_,rfl,ld,_,_,rfl,rfl,hq8,(by rw [List.length_map]; exact Nat.lt_of_le_of_lt ql (by decide)),?_⟩
    have kt:Tups H8 (upd H8 ld (.lst (qs.map V.ref ++ [.ref dq]))):=fun c xs e=>by rw [xj (xbm e hq8 (fun z=>nomatch z))]; exact e
    refine ⟨i12,_,_,_,v,dws ++ [p],rfl,fun c u e=>?_,?_,dok',by simp [dlen],?_⟩
    ·rw [xj (xo e fld)]
     exact s8 _ _ (s07 _ _ e)
    ·rw [xj nll]
     exact s8 _ _ g7
    rw [List.map_append,List.map_singleton]
    rcases wr with ⟨o,rfl⟩ | ⟨er,u,o,rfl,hu⟩
    ·refine .inl ⟨rfl,qs ++ [dq],by rw [xf,List.map_append]; rfl,((pts7.keep (Same.tups s8)).keep kt).snoc1 (kt _ _ (s8 _ _ hd7)),?_⟩
     rw [xc5 eo,xdu o]
     rfl
    ·refine .inr ⟨er,u,rfl,kt _ _ hu,?_⟩
     rw [xc5 eo]
     exact xev o
   ·refine ⟨_,rfl,rfl,_,rfl,ifN (by rfl) ?_⟩
    refine ⟨i12,_,_,_,_,dws ++ [p],rfl,s07,g7,dok',by simp [dlen],.inr ⟨er,u,rfl,t67 _ _ (s6 _ _ hu),?_⟩⟩
    rw [List.map_append]
    exact xjc eo
  ·rintro σ H5 ⟨i13,v6,v7,v8,dv,dws,rfl,s5,h5,dok,dlen,st⟩
   refine ⟨_,rfl,ll,w1,h1,dws,rfl,h5,⟨w11,by omega⟩,⟨h11,by omega⟩,dok,by omega,fun H6 p6 fv tv s6 hp6 rd=>⟨p6,_,rfl,SqT.of hp6,rfl,_,_,rfl,_,_,rfl,rfl,?_⟩⟩
   rcases st with ⟨rfl,qs,hq5,pts,eo⟩ | ⟨er,u,rfl,hu,eo⟩
   ·refine ⟨fun σ H7=>H6=H7∧σ=[some (.ref sc),some (.int w1),some (.int h1),some (.ref ll),some (.ref ld),some .non,v6,v7,v8,some fv,some tv],⟨_,rfl,rfl,_,rfl,ifN (by rfl) ⟨rfl,rfl⟩⟩,?_⟩
    rintro σ _ ⟨rfl,rfl⟩
    have op:xce w1 h1 dws=none:=by unfold xce; rw [eo]
    rcases rd with ⟨er,u,o,_⟩ | ⟨_,rfl,a,dp,do_,ps,rfl,eo2,pic,sts⟩
    ·rw [op] at o
     cases o
    rw [eo] at eo2
    cases eo2
    obtain ⟨⟨dx,hp⟩,_⟩:=id pic
    refine ⟨_,rfl,rfl,true,rfl,iteT ?_⟩
    refine ⟨_,rfl,a,dx,_,rfl,hp,xcj (by decide +kernel),a,dp,do_,w1,h1,_,rfl,pic,fun H7 l7 qs7 s7 hl7 pts7=>?_⟩
    have s67:=s6.trans s7
    refine ⟨_,rfl,2,2,_,_,pts7.dv hl7,(pts.keep (Same.tups s67)).dv (s67 _ _ hq5),by decide,by decide,true,by rw [xdv],iteT ?_⟩
    refine ⟨_,rfl,a,dx,_,rfl,s7 _ _ hp,xcj (by decide +kernel),a,dp,do_,w1,h1,_,[(false,1)],rfl,Pic.same s7 pic,sts.same s7,fun l9 ss9 qs9 fl9 sl9 pm9 pw9=>?_⟩
    have s9:Same H7 (upd H7 l9 (.lst (qs9.map V.ref))):=xp (Same.refl _) fl9
    have g9:upd H7 l9 (.lst (qs9.map V.ref)) l9=some (.lst (qs9.map V.ref)):=xf
    revert s9 g9
    generalize upd H7 l9 (.lst (qs9.map V.ref))=H9
    intro s9 g9
    have e9:ss9=[(false,1)]:=List.perm_singleton.mp pm9
    subst e9
    refine ⟨(by show 2≤sizeLine; decide),fun qa hqa=>?_⟩
    have s10:Same H9 (upd H9 qa (.tup [.str "right",.int 1])):=xp (Same.refl _) hqa
    have g10:upd H9 qa (.tup [.str "right",.int 1]) qa=some (.tup [.str "right",.int 1]):=xf
    revert s10 g10
    generalize upd H9 qa (.tup [.str "right",.int 1])=H10
    intro s10 g10
    refine ⟨(by show 1≤sizeLine; decide),fun lb hlb=>?_⟩
    have s11:Same H10 (upd H10 lb (.lst [.ref qa])):=xp (Same.refl _) hlb
    have g11:upd H10 lb (.lst [.ref qa]) lb=some (.lst [.ref qa]):=xf
    revert s11 g11
    generalize upd H10 lb (.lst [.ref qa])=H11
    intro s11 g11
    have sl11:xbg H11 [((false,1):Seat)] [qa]:=.cons (s11 _ _ g10) .nil
    refine ⟨2,2,_,_,((sl9.keep (Same.tups (s9.trans s10))).keep (Same.tups s11)).dv (s11 _ _ (s10 _ _ g9)),sl11.dv g11,by decide,by decide,?_⟩
    rw [xdv]
    exact q _
   ·refine ⟨fun σ H7=>False,⟨_,rfl,rfl,_,rfl,ifP (by rfl) ?_⟩,fun _ _ z=>z.elim⟩
    have op:xce w1 h1 dws=some er:=eo
    rcases rd with ⟨er2,u2,o,_,rfl,hu2⟩ | ⟨o,_⟩
    rotate_left
    ·rw [op] at o
     cases o
    rw [op] at o
    cases o
    have sc1:=xfy eo
    refine ⟨_,rfl,_,rfl,1,1,_,_,xh1 er sc1 hu2,xh1 er sc1 (s6 _ _ hu),by decide,by decide,?_⟩
    rw [xdv]
    exact q _
end
end S22
namespace PySem.W.Fast
def tw7215580272385183364:=0
def tw2732795280772655484:=0
def tw13484001618478873831:=0
def tw6558638628380044799:=0
def tw16624177059028871740:=0
def tw2030183535495040554:=0
def tw17123280889982088774:=0
def tw2085381852411912356:=0
def tw5002879432120622722:=0
def tw6212054940436474837:=0
def tw7759898586225341530:=0
def tw4336671022803545896:=0
def tw6965522320190636415:=0
def tw113883556293354737:=0
def tw17978347414739850125:=0
def tw818661448215238644:=0
def tw8234144950669317938:=0
def tw9137114976419424842:=0
def tw10466602197830257337:=0
def tw10254855401599853806:=0
def tw10489221826356735719:=0
def tw712146036237283237:=0
def tw16758591739747130124:=0
def tw14558746386417196540:=0
def tw3082764770640431270:=0
def tw289322545654319092:=0
def tw6430344166390257305:=0
def tw7905441244945977791:=0
def tw18347134384806976465:=0
def tw1773113346945818770:=0
def tw6497832890597212521:=0
def tw12332007366469779001:=0
def tw2797105124813666532:=0
def tw5679439483897959540:=0
def tw10316723612284153424:=0
def tw2222614333879870967:=0
def tw2323154466292127206:=0
def tw10829783076791636690:=0
def tw2611529448896445983:=0
def tw9307665472250384527:=0
def tw1524118519679036105:=0
def tw12323881362852070974:=0
def tw1323681231978576580:=0
def tw5659287685137200020:=0
def tw11597519177943012501:=0
def tw3199439943260762312:=0
def tw14044224417244680302:=0
def tw16122821226630069271:=0
def tw9402052855989121001:=0
def tw2517345697389824281:=0
def tw9810544304796955185:=0
def tw34724111302339363:=0
def tw2544761880890873842:=0
def tw10418887195258490979:=0
def tw8013178053134166087:=0
def tw13442053084381979318:=0
def tw12128269513712876059:=0
def tw7121013101899573267:=0
def tw11884478739979526220:=0
def tw16978564080952983692:=0
def tw9758017608965415296:=0
def tw9138886090462925815:=0
def tw4255443173911338261:=0
def tw3789080460022753279:=0
def tw957869803936577037:=0
def tw13102492381842829869:=0
def tw10648020128541112844:=0
def tw8584113875046148967:=0
def tw6072195084087168130:=0
def tw1994310022688207572:=0
def tw12043517322775706044:=0
def tw17447415149063075520:=0
def tw7799785164095590932:=0
def tw16010733906134047147:=0
def tw2883292199559687967:=0
def tw10755031470820984072:=0
def tw10290749042623904008:=0
def tw17517443245105081157:=0
def tw7770824029601476280:=0
def tw2263173156462220782:=0
def tw5669693701385720630:=0
def tw10735555842392869933:=0
def tw2365430297148233975:=0
def tw2028728618917764392:=0
def tw18163023738126361686:=0
def tw9696280048703298692:=0
def tw305094753180871536:=0
def tw15744433035592342617:=0
def tw17044767540994265354:=0
def tw16407785916424046868:=0
def tw10044328662529666903:=0
def tw3206848501269639355:=0
def tw1200223685556546727:=0
def tw1050277011342047776:=0
def tw11359085968368822382:=0
def tw10651073066737885631:=0
def tw17813439646759228693:=0
def tw12235249824139080419:=0
def tw15610661421758111301:=0
def tw6587001192404653755:=0
def tw2223621259172585849:=0
def tw16143193073636400125:=0
def tw10095629963407040954:=0
def tw879837163871038587:=0
def tw14949629234283597316:=0
def tw13682953881155516168:=0
def tw6567395910345266381:=0
def tw3323691995130958706:=0
def tw8244650243779579469:=0
def tw16330209422279868565:=0
def tw2323847569539515597:=0
def tw14306915049385253460:=0
def tw12498865290027064713:=0
def tw16563978549298364496:=0
def tw12155388960706794760:=0
def tw6466643359548283967:=0
def tw4293702642601580174:=0
def tw6027723391845660596:=0
def tw13200887068005371019:=0
def tw2486584207360262278:=0
def tw2997331039617275503:=0
def tw13767135993844357211:=0
def tw2110994726242157335:=0
def tw6359480830266318081:=0
def tw5260403246313260948:=0
def tw6849110287754505697:=0
def tw11508192197680682097:=0
def tw8450457479331836289:=0
def tw12947322309694115980:=0
def tw15504702459269976060:=0
def tw14228995824594325515:=0
def tw13527081187371259484:=0
def tw14542757295582742801:=0
def tw7736110627509957876:=0
def tw11523933689156755523:=0
def tw11052669345537723267:=0
def tw714697112569977215:=0
def tw3315481568204467645:=0
def tw14702750882929406470:=0
def tw16510249225411094736:=0
def tw17514106787328722104:=0
def tw10006745731321174725:=0
def tw8814690640481775963:=0
def tw3130098246158229537:=0
def tw5398748844138008694:=0
def tw1753399499736097216:=0
def tw15884599291597110169:=0
def tw13965195037724198287:=0
def tw10506849782339416906:=0
def tw15006428898991778682:=0
def tw10959048029384556945:=0
def tw16099470135899256207:=0
def tw687464393802751257:=0
def tw13751023436887069610:=0
def tw18382967173307909127:=0
def tw15776711705766615632:=0
def tw108583568750540507:=0
def tw10992231669760790979:=0
def tw9620936215262160309:=0
def tw2978326172066289011:=0
def tw17304266395833162591:=0
def tw13763330638225266232:=0
def tw7048945353993841725:=0
def tw9748797141492332425:=0
def tw3775233639585502304:=0
def tw10782818110280421916:=0
def tw11022171984854070141:=0
def tw14671755354369463617:=0
def tw16737877192053557331:=0
def tw14337161553306195782:=0
def tw13384856882982720676:=0
def tw12842903265765455227:=0
def tw2700935669875000485:=0
def tw6911113223880649683:=0
def tw1964659608643373482:=0
def tw9965086733012724035:=0
def tw3337551430878069494:=0
def tw521974817479511145:=0
def tw15821641527309989409:=0
def tw10009408630428442106:=0
def tw15304836565204924701:=0
def tw16992585003929214582:=0
def tw10196609471968473770:=0
def tw11556383351839742915:=0
def tw7937483635056581175:=0
def tw10207908335681420903:=0
def tw2238322033712257037:=0
def tw8247322235159012425:=0
def tw7117193320518510390:=0
def tw12873352979269764093:=0
def tw3131090333328077631:=0
def tw8526717061239268228:=0
def tw7001556456719301601:=0
def tw16730105190904172184:=0
def tw15464584147022174381:=0
def tw582320080916478377:=0
def tw12964005656465536517:=0
def tw16330815735686418213:=0
def tw7734959165231878177:=0
def tw6913516724724625858:=0
def tw8129690936098036252:=0
def tw7695112802309260495:=0
def tw10901412137466761775:=0
def tw4563503958093038020:=0
def tw18292268113536003072:=0
def tw5642660546387777901:=0
def tw14520941359151858044:=0
def tw105848262038798706:=0
def tw8127679069265430176:=0
def tw4377457743374779467:=0
def tw11661698313061436448:=0
def tw10753124793772034435:=0
def tw13709707018444665796:=0
def tw6885748926186938871:=0
def tw3069697611620948076:=0
def tw10421003905719523754:=0
def tw11456493346973552275:=0
def tw987612538248325817:=0
def tw8232187030734761988:=0
def tw14878363027541863054:=0
def tw3985770300909633639:=0
def tw739018914594854891:=0
def tw3690027986954069480:=0
def tw10911184152295229:=0
def tw1099577762098912004:=0
def tw17492265489672890850:=0
def tw889733299823199430:=0
def tw4006293390771162296:=0
def tw4741078349306182686:=0
def tw4130462740383958547:=0
def tw11521332245149109837:=0
def tw12500406306764200554:=0
def tw15817338944891578450:=0
def tw14236089883612271252:=0
def tw6310977810924822985:=0
def tw10297737259833941875:=0
def tw13362754938006256727:=0
def tw10232664238717990479:=0
def tw12181589172238151800:=0
def tw9337656802663652297:=0
def tw4362206820872392937:=0
def tw2488244647034301489:=0
def tw12680715233954881512:=0
def tw6214077467810799576:=0
def tw6228411102911054171:=0
def tw18440584866031552067:=0
def tw15846931993214171189:=0
def tw9376665249038719308:=0
def tw9450385357401670102:=0
def tw4954514605372627471:=0
def tw3360065643978051119:=0
def tw13281150789766516098:=0
def tw1703905803114334721:=0
def tw8160239088751812339:=0
def tw660677868804966731:=0
def tw16018997659448371046:=0
def tw4249884072217715038:=0
def tw2555493677809848051:=0
def tw6791170990682949673:=0
def tw10992058940276337212:=0
def tw8959706636502024491:=0
def tw10963382266087327096:=0
def tw8375746140579670850:=0
def tw15429552501727485021:=0
def tw11998518448110455309:=0
def tw217162767883609956:=0
def tw16673494881686695882:=0
def tw764125491136468383:=0
def tw17525272625864442616:=0
def tw2189822125307022107:=0
def tw3459633146334957869:=0
def tw17200298143351937067:=0
def tw4642450412267217812:=0
def tw10325972949121445888:=0
def tw13645314142427593020:=0
def tw3882436705009759748:=0
def tw6229217960683567689:=0
def tw4646655538026937379:=0
def tw242437452384376508:=0
def tw14348678166423007648:=0
def tw13949397902917087854:=0
def tw3684616326503948929:=0
def tw4327690227992400959:=0
def tw9680694279340834692:=0
def tw5632805503235789980:=0
def tw10491478324475534976:=0
def tw8559265332085051802:=0
def tw13590358129869537226:=0
def tw311122365308093846:=0
def tw5810897924743471862:=0
def tw11048797463188613422:=0
def tw3323570940497713156:=0
def tw10523845883862960450:=0
def tw13503938828513246022:=0
def tw5342354429251383725:=0
def tw4000303052086674613:=0
def tw15032355880230194895:=0
def tw15466841492079126778:=0
def tw5598294204862950697:=0
def tw17428322723734420603:=0
def tw11413881840511269030:=0
def tw17399885665888909642:=0
def tw4026904397927796538:=0
def tw7981882140358435581:=0
def tw2228756857079117836:=0
def tw9335151395160733239:=0
def tw6879406282085493604:=0
def tw226645649214681008:=0
def tw17920582970104682123:=0
def tw14046471693365331670:=0
def tw8894068118104047098:=0
def tw7726837230634089266:=0
def tw7330427761354331296:=0
def tw1137637875980302537:=0
def tw6429268823512636672:=0
def tw15133228267281511248:=0
def tw8453063304501802515:=0
def tw1963034311890757637:=0
def tw12633452075797027983:=0
def tw9008197144981159907:=0
def tw3751657713294481924:=0
def tw13909211203890635946:=0
def tw2607687377931622930:=0
def tw146759490352613506:=0
def tw11382310356939715246:=0
def tw11409750947565386937:=0
def tw3400725598835310089:=0
def tw18286215155440484459:=0
def tw9163330705048751629:=0
def tw13734198728191895739:=0
def tw901214904927140934:=0
def tw5431959163944719907:=0
def tw15272732698174804263:=0
def tw3172589432205630354:=0
def tw10042820436159309517:=0
def tw4669575581552377196:=0
def tw3370636912321168659:=0
def tw1141227273812695159:=0
def tw16306323878733802323:=0
def tw5601523213894731510:=0
def tw12830400404536383241:=0
def tw227225819829145618:=0
def tw17749891824417475255:=0
def tw14447424335269922899:=0
def tw16624329609405888984:=0
def tw11092185873365311826:=0
def tw11682098229949642980:=0
def tw7813451676797364440:=0
def tw12648514279343860866:=0
def tw13339763982860998411:=0
def tw14040454259174698649:=0
def tw7584647978887460128:=0
def tw17772459927151856645:=0
def tw1875552739014682445:=0
def tw1808359352855048247:=0
def tw16357373625224482451:=0
def tw9034038205887746901:=0
def tw10891747962991632927:=0
def tw16540047377740462574:=0
def tw8823740187070311659:=0
def tw7434136761799954132:=0
def tw13357207420712689626:=0
def tw4568453722843329142:=0
def tw17596466331402457064:=0
def tw14403230272115471177:=0
def tw16807433912960122591:=0
def tw2540609747748083851:=0
def tw16577131024922033068:=0
def tw16464399952524734251:=0
def tw16530916221703271427:=0
def tw3750114188238175529:=0
def tw3255595026377869556:=0
def tw8418480194958694273:=0
def tw13344020923641908971:=0
def tw2346062062256548348:=0
def tw6986041693066666862:=0
def tw16492238945878691238:=0
def tw9520450709744867819:=0
def tw7327519529686612800:=0
def tw3425111718671344735:=0
def tw6163129497059140050:=0
def tw4054869661564951490:=0
def tw17081692388924246893:=0
def tw17390794235156724964:=0
def tw12317754998623356105:=0
def tw9478628762448148736:=0
def tw995378231099347717:=0
def tw555280642697682039:=0
def tw4523086437018506553:=0
def tw13301279495938618941:=0
def tw8878190764531143653:=0
def tw13066659557367220448:=0
def tw7187631464983730080:=0
def tw1998410743768392801:=0
def tw13685297074344981977:=0
def tw4933077138408616861:=0
def tw4670042920081751489:=0
def tw4843814260636239829:=0
def tw15835765858054233571:=0
def tw11765317054443857392:=0
def tw9404098004547883677:=0
def tw12634317488304900599:=0
def tw9866396906486796722:=0
def tw4583932433684093629:=0
def tw652970681451921075:=0
def tw16829796289006552983:=0
def tw9935345041488042320:=0
def tw3171205827594915597:=0
def tw5878127480379906963:=0
def tw14940129796171236474:=0
def tw7668483250563834549:=0
def tw1761715472502558477:=0
def tw16409036409827353944:=0
def tw5147740279090955045:=0
def tw7158215681190382266:=0
def tw13619987942644253519:=0
def tw1720907549442069114:=0
def tw4568255618069972134:=0
def tw13131350302910035402:=0
def tw15672776414254700608:=0
def tw1076639489348287239:=0
def tw14184501845317506608:=0
def tw13782422466717649511:=0
def tw6833167807564524511:=0
def tw12704159721433668770:=0
def tw17903337249763381410:=0
def tw10799778783615643826:=0
def tw18162890095008739131:=0
def tw15472414653717948419:=0
def tw5809848170374265611:=0
def tw17745468479574596532:=0
def tw6600142013837950080:=0
def tw8283639706067168060:=0
def tw12637431707138100354:=0
def tw10593953578386347930:=0
def tw419670895727561634:=0
def tw5769361600849619558:=0
def tw7659225068478576514:=0
def tw14875269228075928813:=0
def tw3898865259264024982:=0
def tw11706190997525720233:=0
def tw16876253851471239834:=0
def tw2193392423710459669:=0
def tw15194415448189861377:=0
def tw2506752206859663499:=0
def tw5605983051904259952:=0
def tw16441303427551651434:=0
def tw9054449345909176575:=0
def tw17221093225918764550:=0
def tw3204392295642466893:=0
def tw10646215935177674136:=0
def tw5862371262080008:=0
def tw5046101937892060764:=0
def tw15616338211392476478:=0
def tw12337932461577963403:=0
def tw13816727825072275747:=0
def tw16766413787490622355:=0
def tw10884630180789816957:=0
def tw8677140378259484548:=0
def tw16919746890208448582:=0
def tw12871407987558261490:=0
def tw13215597303455924638:=0
def tw13998725479551798772:=0
def tw224152566270170091:=0
def tw8733795702031649250:=0
def tw8807150463308959739:=0
def tw12087304321050581021:=0
def tw13383005138730977000:=0
def tw2753048754424997650:=0
def tw15162694330723432617:=0
def tw9458257139293074838:=0
def tw2325678695157805311:=0
def tw1994621408384219567:=0
def tw2719259325885454539:=0
def tw12929086576103372082:=0
def tw12226025056991384155:=0
def tw3929935090933490744:=0
def tw4304656102499778539:=0
def tw7052781638959633091:=0
def tw2175769031698084598:=0
def tw13247793130376115270:=0
def tw8655020146627993365:=0
def tw17724653957062309374:=0
def tw2158426991876072616:=0
def tw15661806202269247444:=0
def tw6671697079348445238:=0
def tw4930437965086558304:=0
def tw10587238489888686631:=0
def tw13939823903995928566:=0
def tw11877471395892548581:=0
def tw14825355015920312860:=0
def tw5026593111815820810:=0
def tw3679867468497315222:=0
def tw13773425149408667109:=0
def tw11108570194923183162:=0
def tw14705598589487828481:=0
def tw16147082434214395326:=0
def tw17592197102300046651:=0
def tw16921634580139566423:=0
def tw1119735764731257637:=0
def tw5655322913369207752:=0
def tw1889303782806190311:=0
def tw12626310907560724247:=0
def tw1513490496908520997:=0
def tw17170588237461401622:=0
def tw290558492476876761:=0
def tw9561592514114371290:=0
def tw8107410515329850985:=0
def tw10430487483370542763:=0
def tw12093053388895476001:=0
def tw9669941589240771678:=0
def tw8304160481255608650:=0
def tw10293479360581695957:=0
def tw14681129217457258831:=0
def tw13258878201458503647:=0
def tw14975656255408847247:=0
def tw1107344807234005095:=0
def tw11836678270144789585:=0
def tw4149650964261236846:=0
def tw1893512724292470500:=0
def tw15363372918769034348:=0
def tw61071293728323897:=0
def tw12778901068086064166:=0
def tw13372574708583536619:=0
def tw10274608788185057012:=0
def tw18117238429353923988:=0
def tw12163389199141839418:=0
def tw9596749713466968225:=0
def tw12562308952165688598:=0
def tw6609601834493145209:=0
def tw7832413320086768338:=0
def tw3457404086638342073:=0
def tw11964305750503850070:=0
def tw1720345541146503481:=0
def tw7829164111606139583:=0
def tw3970388623902240694:=0
def tw8596944901226124408:=0
def tw9449750727776845481:=0
def tw12516191780418702934:=0
def tw13482455233670140795:=0
def tw995488577360022903:=0
def tw12112652773142463782:=0
def tw15147891403950723236:=0
def tw16768700593464241951:=0
def tw5382730049623787802:=0
def tw8365307197208118007:=0
def tw7197447834488111625:=0
def tw6015555623820325247:=0
def tw3712149553017546467:=0
def tw17041138638740947828:=0
def tw6045515524447355474:=0
def tw13008518028477905362:=0
def tw1802001036798639522:=0
def tw1319146549407518568:=0
def tw11462942138132692115:=0
def tw4851906912318149645:=0
def tw9716925460750883640:=0
def tw12590192055668856160:=0
def tw12543862041595188703:=0
def tw2809589106746064470:=0
def tw5112488688133424053:=0
def tw18082978237527126722:=0
def tw1361541448436767240:=0
def tw13766219736520431883:=0
def tw7664475544477690365:=0
def tw8993962194705494443:=0
def tw14477736639917197444:=0
def tw6397036851338279869:=0
def tw11925485693189896463:=0
def tw918900212762561856:=0
def tw8572540389444728479:=0
def tw10594300175518905335:=0
def tw5179573264668832187:=0
def tw16985974950681129064:=0
def tw12581669591793361128:=0
def tw246160017275827842:=0
def tw13725593719647809739:=0
def tw13104602616001458548:=0
def tw8430914000484670033:=0
def tw4259461049381625578:=0
def tw1267280464123936572:=0
def tw13578627084228174076:=0
def tw10790992349708394641:=0
def tw4085484615842383726:=0
def tw241555951506522477:=0
def tw323564428396301338:=0
def tw14468296670141613435:=0
def tw11749251350232455332:=0
def tw2028270692684645083:=0
def tw12355122769335839469:=0
def tw1458888146832540554:=0
def tw13339730887771005497:=0
def tw11976319243821602813:=0
def tw17290704878662864533:=0
def tw13431235461845013937:=0
def tw4868774524518657638:=0
def tw9876796330272309016:=0
def tw14692462253949505125:=0
def tw9747281377059404941:=0
def tw17762184995230044427:=0
def tw7999246023336168587:=0
def tw756109069054723608:=0
def tw16694633076139296738:=0
def tw4149724881406868298:=0
def tw2486882528611816743:=0
def tw186167375819389035:=0
def tw978771307525214081:=0
def tw14074691753764236261:=0
def tw16306619024390690940:=0
def tw6938147089989051351:=0
def tw17941441477586637782:=0
def tw1377975006407061341:=0
def tw14155897157061355394:=0
def tw12838072197082524118:=0
def tw12073475330272387508:=0
def tw7369928787686690861:=0
def tw2885842103578843227:=0
def tw4273385336286278321:=0
def tw4159842228976949282:=0
def tw14984217979037941193:=0
def tw8666376388937024265:=0
def tw2574193396337646665:=0
def tw16983160190178571208:=0
def tw11329361851921830558:=0
def tw10093884382022497389:=0
def tw3173991624352803921:=0
def tw18358393446052734857:=0
def tw6641647143053394829:=0
def tw14276293385367762890:=0
def tw15855033994356117937:=0
def tw4464246819849572335:=0
def tw7381094839639595214:=0
def tw7179364915062967476:=0
def tw14442328583057433078:=0
def tw2931508177579930429:=0
def tw2672078370469099768:=0
def tw11659154432211120246:=0
def tw7760466791037058668:=0
def tw283490248814607429:=0
def tw10353550380967690572:=0
def tw13456800404297445283:=0
def tw5967160478889092846:=0
def tw3046732850339626290:=0
def tw13963799877135005364:=0
def tw4650818995101382315:=0
def tw8873270162984937020:=0
def tw10921886470535080336:=0
def tw3365609087133085198:=0
def tw9022111833394882545:=0
def tw6679069015484226366:=0
def tw549414843527660403:=0
def tw5551567211005013428:=0
def tw2314533967527777454:=0
def tw2326399596508255628:=0
def tw5698776060825410320:=0
def tw8281003222578387143:=0
def tw1673109407245913102:=0
def tw113957581291898921:=0
def tw2440383226010031160:=0
def tw17536801909495223042:=0
def tw8056188646252654168:=0
def tw16901861378749843825:=0
def tw6333346715971148162:=0
def tw15642262632428120343:=0
def tw5520811833798137170:=0
def tw16218663803620579948:=0
def tw13888868261610543418:=0
def tw10348035487834516033:=0
def tw1591365113759609335:=0
def tw4341615080991567585:=0
def tw10520820089610383779:=0
def tw2266877671681940078:=0
def tw3694021225530523414:=0
def tw14453778887416154135:=0
def tw8406289138097290515:=0
def tw16144710517762056220:=0
def tw7441510390635427115:=0
def tw161668437069400971:=0
def tw13394356889387633580:=0
def tw7173332468598953290:=0
def tw11286682273807529980:=0
def tw11726682678009732634:=0
def tw3802854937003012261:=0
def tw12651711816005557336:=0
def tw17201125535034945653:=0
def tw10482598447235063933:=0
def tw11817924541161422445:=0
def tw4728944995817702677:=0
def tw2884681942494006103:=0
def tw615930610008754932:=0
def tw8192792831041206298:=0
def tw9418036586768246214:=0
def tw15824573833778781504:=0
def tw18055818114800967000:=0
def tw13722957162837870711:=0
def tw14756490843482938430:=0
def tw12969077991555480783:=0
def tw10439901252548967922:=0
def tw14543210429841996742:=0
def tw8166675608053762116:=0
def tw11256768821719402562:=0
def tw12035515736157724309:=0
def tw14376892560007728381:=0
def tw6155819901684595723:=0
def tw17827112844158104070:=0
def tw15148624461783753477:=0
def tw18419428649651144533:=0
def tw18095845932442410398:=0
def tw15267337423513568211:=0
def tw10784484485032337820:=0
def tw7404707679199216516:=0
def tw6964013496310117467:=0
def tw750862423368831508:=0
end PySem.W.Fast
namespace S22
open PySem L2 XL
theorem walk {l:PySem.W.OpenLaw} {q:Program} {loose:List Str} {XP:(Str→Option Value)→Heap→Prop} {YP:World→Heap→Prop} {d:DefRec} {K:Params→PySem.W.Frag} (hn:l.most=some 63) (hdf:d.params.defaults=[])
    (hY:∀ (w:World) (h:Heap),YP w h→(K w.params).In h)
    (F:∀ (w:World) (mg:Str→Option Value) (fa:Addr) (h:Heap),(K w.params).In h→h.Ns mainGlobals mg→mg d.name=some (.ref fa) →
      ∃ fd:FuncData,(∀ (s:Shared) (u:Value),BindsTo s fd ⟨[u],[]⟩ [("_law_script",u)])∧∀ base:Heap,(K w.params).In base→base.Ns mainGlobals mg→FnOk true l.prog w (K w.params) mg base (CXo l.prog w) 9 fa fd ["_law_script"] (xgq (K w.params))) :
    PySem.W.WalkO q loose XP YP l.row.toRowW d [] (fun f vs=>PySem.call f vs) :=
  L2.walk_of (q0:=true) (n:=63) (k:=9) (x:="_law_script") (CX:=fun w=>CXo l.prog w) (sp:=fun w=>xgq (K w.params)) hn (by decide) hdf ⟨fun _=>rfl,by decide,by decide⟩ hY F (fun _ _ a ns hl _ hS=>⟨a,ns,rfl,hS,hl,fun _=>rfl⟩)
    fun w H s e s' z=>by obtain ⟨_,_,_,_,_,_,_,_,_,_,_,_,_,_,q⟩:=z; exact q
theorem all_mk {l:PySem.W.OpenLaw} {w:World} {K:PySem.W.Frag} {h:Heap} {mg:Str→Option Value} {fa:Addr} (hfa:mg "law"=some (.ref fa)) (TT:∃ t,Txt w K mg t) :
    ∃ fd:FuncData,(∀ (s:Shared) (v:Value),BindsTo s fd ⟨[v],[]⟩ [("_law_script",v)])∧∀ base:Heap,K.In base→base.Ns mainGlobals mg→FnOk true l.prog w K mg base (CXo l.prog w) 9 fa fd ["_law_script"] (xgq K):=by
  obtain ⟨t,T⟩:=TT
  have e:=hfa.symm.trans T.g_law
  cases e
  refine ⟨t.d_law,fun s v=>?_,fun base _ _=>xop T⟩
  obtain ⟨oc,od,kV,doc,pm,an,cdv,ct,osl,e,lk,hcd⟩:=T.F_law.ex
  rw [e]
  exact .of_eq rfl
end S22
open PySem PySem.W PyProof.Rows
set_option maxRecDepth 100000 in
set_option maxHeartbeats 0 in
theorem PySem.Challenge.cw_rimnotes_k22_points_in_lines_holds : PySem.Challenge.rw_rimnotes_k22_points_in_lines.Holds := by
 w_on; o_law; k_head; (case hw=>w_witness2)
 k_fill
 refine S22.walk (l:=PySem.Challenge.rw_rimnotes_k22_points_in_lines) rfl rfl (fun w h Y=>PySem.W.kIn_of Y) ?F
 case F =>
  intro w mg fa h KX G hmg
  refine S22.all_mk (h:=h) hmg ?TT
  refine' S22.txt_mk (w:=w) KX G ?g_as ?g_ah ?g_af ?g_m ?g_j ?g_n ?g_v ?g_e ?g_w ?g_az ?g_au ?g_al ?g_t ?a_y ?l_y ?c_y ?k_y ?i_y ?a_z ?l_z ?c_z ?k_z ?i_z ?a_q ?l_q ?c_q ?k_q ?i_q ?a_k ?l_k ?c_k ?k_k ?i_k ?a_l ?l_l ?c_l ?k_l ?i_l ?a_h ?l_h ?c_h ?k_h ?i_h ?a_r ?l_r ?c_r ?k_r ?i_r ?a_ae ?l_ae ?c_ae ?k_ae ?i_ae ?a_aw ?l_aw ?c_aw ?k_aw ?i_aw ?a_u ?l_u ?c_u ?k_u ?i_u ?a_ax ?l_ax ?c_ax ?k_ax ?i_ax ?a_s ?l_s ?c_s ?k_s ?i_s ?a_g ?l_g ?c_g ?k_g ?i_g ?t_g ?a_d ?l_d ?c_d ?k_d ?i_d ?a_f ?l_f ?c_f ?k_f ?i_f ?a_i ?l_i ?c_i ?k_i ?i_i ?a_b ?l_b ?c_b ?k_b ?i_b ?a_a ?l_a ?c_a ?k_a ?i_a ?a_c ?l_c ?c_c ?k_c ?i_c ?a_x ?l_x ?c_x ?k_x ?i_x ?a_ar ?l_ar ?c_ar ?k_ar ?i_ar ?a_aj ?l_aj ?c_aj ?k_aj ?i_aj ?a_an ?l_an ?c_an ?k_an ?i_an ?a_am ?l_am ?c_am ?k_am ?i_am ?a_at ?l_at ?c_at ?k_at ?i_at ?a_aa ?l_aa ?c_aa ?k_aa ?i_aa ?a_o ?l_o ?c_o ?k_o ?i_o ?a_ag ?l_ag ?c_ag ?k_ag ?i_ag ?a_ai ?l_ai ?c_ai ?k_ai ?i_ai ?a_ab ?l_ab ?c_ab ?k_ab ?i_ab ?a_ac ?l_ac ?c_ac ?k_ac ?i_ac ?a_ao ?l_ao ?c_ao ?k_ao ?i_ao ?a_ay ?l_ay ?c_ay ?k_ay ?i_ay ?a_aq ?l_aq ?c_aq ?k_aq ?i_aq ?a_ad ?l_ad ?c_ad ?k_ad ?i_ad ?a_p ?l_p ?c_p ?k_p ?i_p ?a_ap ?l_ap ?c_ap ?k_ap ?i_ap ?a_ak ?l_ak ?c_ak ?k_ak ?i_ak ?a_law ?l_law ?c_law ?k_law ?i_law ?kc_as ?ov_as ?hd_as ?sa_as ?ga_as ?gh_as ?ca_as ?mk_as ?kc_ah ?ov_ah ?hd_ah ?sa_ah ?ga_ah ?gh_ah ?ca_ah ?mk_ah ?kc_af ?ov_af ?hd_af ?sa_af ?ga_af ?gh_af ?ca_af ?mk_af ?kc_m ?ov_m ?hd_m ?sa_m ?ga_m ?gh_m ?ca_m ?mk_m ?kc_j ?ov_j ?hd_j ?sa_j ?ga_j ?gh_j ?ca_j ?mk_j ?kc_n ?ov_n ?hd_n ?sa_n ?ga_n ?gh_n ?ca_n ?mk_n ?kc_v ?ov_v ?hd_v ?sa_v ?ga_v ?gh_v ?ca_v ?mk_v ?kc_e ?ov_e ?hd_e ?sa_e ?ga_e ?gh_e ?ca_e ?mk_e ?kc_w ?ov_w ?hd_w ?sa_w ?ga_w ?gh_w ?ca_w ?mk_w ?kc_az ?pg_az ?hd_az ?po_az ?sa_az ?mk_az ?ca_az ?mo_az ?kc_au ?pg_au ?hd_au ?po_au ?sa_au ?mk_au ?ca_au ?mo_au ?a_LeftSide_init ?kc_al ?pg_al ?hd_al ?po_al ?sa_al ?mk_al ?ca_al ?mo_al ?a_RightSide_init ?kc_t ?pg_t ?hd_t ?po_t ?sa_t ?mk_t ?ca_t ?mo_t ?cg ?ct ?n_a1 ?n_bf ?n_a0 ?n_a3 ?n_cg ?n_cz ?n_c8 ?n_cp ?n_dl ?n_dm ?n_c0 ?n_c1 ?n_c9 ?n_cq ?n_c5 ?n_c6 ?n_cr ?n_cs ?n_c2 ?n_by ?n_df ?n_dg ?n_cl ?n_bz ?n_b9 ?n_ch ?n_da ?n_db ?n_b0 ?n_cm ?n_ct ?n_ci ?n_dc ?n_dd ?n_cu ?n_cv ?n_c3 ?n_cn ?n_dh ?n_di ?n_a9 ?n_cf ?n_cj ?n_ca ?n_cw ?n_cx ?n_cb ?n_cy ?n_c4 ?n_co ?n_dj ?n_dk ?n_de ?n_b2 ?n_bn ?n_bool ?n_enumerate ?n_int ?n_isinstance ?n_len ?n_list ?n_max ?n_min ?n_range ?n_sorted ?n_str ?mro_ah ?kit_cc ?mro_af ?kit_cd ?kit_ce ?mro_m ?kit_b3 ?kit_b4 ?kit_bo ?mro_j ?kit_bp ?kit_bq ?kit_bg ?kit_ba ?mro_n ?kit_br ?kit_bs ?kit_bh ?kit_bb ?kit_bc ?mro_v ?kit_b5 ?kit_b6 ?kit_bt ?kit_bi ?kit_bj ?kit_bu ?ns_v ?ns_c7 ?mro_e ?kit_bd ?kit_be ?kit_a6 ?kit_a4 ?kit_a5 ?kit_a7 ?kit_a2 ?mro_w ?kit_b7 ?kit_b8 ?kit_bv ?kit_bk ?kit_bl ?kit_bw ?kit_a8 ?kit_bx ?v_ck ?v_bm ?v_b1 ?g_av ?l_av ?ns_av
  (case g_as=>k_is)
  (case g_ah=>k_is)
  (case g_af=>k_is)
  (case g_m=>k_is)
  (case g_j=>k_is)
  (case g_n=>k_is)
  (case g_v=>k_is)
  (case g_e=>k_is)
  (case g_w=>k_is)
  (case g_az=>k_is)
  (case g_au=>k_is)
  (case g_al=>k_is)
  (case g_t=>k_is)
  (case a_y=>k_is)
  (case l_y=>k_is)
  (case c_y=>k_is)
  (case k_y=>k_is)
  (case i_y=>k_is)
  (case a_z=>k_is)
  (case l_z=>k_is)
  (case c_z=>k_is)
  (case k_z=>k_is)
  (case i_z=>k_is)
  (case a_q=>k_is)
  (case l_q=>k_is)
  (case c_q=>k_is)
  (case k_q=>k_is)
  (case i_q=>k_is)
  (case a_k=>k_is)
  (case l_k=>k_is)
  (case c_k=>k_is)
  (case k_k=>k_is)
  (case i_k=>k_is)
  (case a_l=>k_is)
  (case l_l=>k_is)
  (case c_l=>k_is)
  (case k_l=>k_is)
  (case i_l=>k_is)
  (case a_h=>k_is)
  (case l_h=>k_is)
  (case c_h=>k_is)
  (case k_h=>k_is)
  (case i_h=>k_is)
  (case a_r=>k_is)
  (case l_r=>k_is)
  (case c_r=>k_is)
  (case k_r=>k_is)
  (case i_r=>k_is)
  (case a_ae=>k_is)
  (case l_ae=>k_is)
  (case c_ae=>k_is)
  (case k_ae=>k_is)
  (case i_ae=>k_is)
  (case a_aw=>k_is)
  (case l_aw=>k_is)
  (case c_aw=>k_is)
  (case k_aw=>k_is)
  (case i_aw=>k_is)
  (case a_u=>k_is)
  (case l_u=>k_is)
  (case c_u=>k_is)
  (case k_u=>k_is)
  (case i_u=>k_is)
  (case a_ax=>k_is)
  (case l_ax=>k_is)
  (case c_ax=>k_is)
  (case k_ax=>k_is)
  (case i_ax=>k_is)
  (case a_s=>k_is)
  (case l_s=>k_is)
  (case c_s=>k_is)
  (case k_s=>k_is)
  (case i_s=>k_is)
  (case a_g=>k_is)
  (case l_g=>k_is)
  (case c_g=>k_is)
  (case k_g=>k_is)
  (case i_g=>k_is)
  (case t_g=>k_is)
  (case a_d=>k_is)
  (case l_d=>k_is)
  (case c_d=>k_is)
  (case k_d=>k_is)
  (case i_d=>k_is)
  (case a_f=>k_is)
  (case l_f=>k_is)
  (case c_f=>k_is)
  (case k_f=>k_is)
  (case i_f=>k_is)
  (case a_i=>k_is)
  (case l_i=>k_is)
  (case c_i=>k_is)
  (case k_i=>k_is)
  (case i_i=>k_is)
  (case a_b=>k_is)
  (case l_b=>k_is)
  (case c_b=>k_is)
  (case k_b=>k_is)
  (case i_b=>k_is)
  (case a_a=>k_is)
  (case l_a=>k_is)
  (case c_a=>k_is)
  (case k_a=>k_is)
  (case i_a=>k_is)
  (case a_c=>k_is)
  (case l_c=>k_is)
  (case c_c=>k_is)
  (case k_c=>k_is)
  (case i_c=>k_is)
  (case a_x=>k_is)
  (case l_x=>k_is)
  (case c_x=>k_is)
  (case k_x=>k_is)
  (case i_x=>k_is)
  (case a_ar=>k_is)
  (case l_ar=>k_is)
  (case c_ar=>k_is)
  (case k_ar=>k_is)
  (case i_ar=>k_is)
  (case a_aj=>k_is)
  (case l_aj=>k_is)
  (case c_aj=>k_is)
  (case k_aj=>k_is)
  (case i_aj=>k_is)
  (case a_an=>k_is)
  (case l_an=>k_is)
  (case c_an=>k_is)
  (case k_an=>k_is)
  (case i_an=>k_is)
  (case a_am=>k_is)
  (case l_am=>k_is)
  (case c_am=>k_is)
  (case k_am=>k_is)
  (case i_am=>k_is)
  (case a_at=>k_is)
  (case l_at=>k_is)
  (case c_at=>k_is)
  (case k_at=>k_is)
  (case i_at=>k_is)
  (case a_aa=>k_is)
  (case l_aa=>k_is)
  (case c_aa=>k_is)
  (case k_aa=>k_is)
  (case i_aa=>k_is)
  (case a_o=>k_is)
  (case l_o=>k_is)
  (case c_o=>k_is)
  (case k_o=>k_is)
  (case i_o=>k_is)
  (case a_ag=>k_is)
  (case l_ag=>k_is)
  (case c_ag=>k_is)
  (case k_ag=>k_is)
  (case i_ag=>k_is)
  (case a_ai=>k_is)
  (case l_ai=>k_is)
  (case c_ai=>k_is)
  (case k_ai=>k_is)
  (case i_ai=>k_is)
  (case a_ab=>k_is)
  (case l_ab=>k_is)
  (case c_ab=>k_is)
  (case k_ab=>k_is)
  (case i_ab=>k_is)
  (case a_ac=>k_is)
  (case l_ac=>k_is)
  (case c_ac=>k_is)
  (case k_ac=>k_is)
  (case i_ac=>k_is)
  (case a_ao=>k_is)
  (case l_ao=>k_is)
  (case c_ao=>k_is)
  (case k_ao=>k_is)
  (case i_ao=>k_is)
  (case a_ay=>k_is)
  (case l_ay=>k_is)
  (case c_ay=>k_is)
  (case k_ay=>k_is)
  (case i_ay=>k_is)
  (case a_aq=>k_is)
  (case l_aq=>k_is)
  (case c_aq=>k_is)
  (case k_aq=>k_is)
  (case i_aq=>k_is)
  (case a_ad=>k_is)
  (case l_ad=>k_is)
  (case c_ad=>k_is)
  (case k_ad=>k_is)
  (case i_ad=>k_is)
  (case a_p=>k_is)
  (case l_p=>k_is)
  (case c_p=>k_is)
  (case k_p=>k_is)
  (case i_p=>k_is)
  (case a_ap=>k_is)
  (case l_ap=>k_is)
  (case c_ap=>k_is)
  (case k_ap=>k_is)
  (case i_ap=>k_is)
  (case a_ak=>k_is)
  (case l_ak=>k_is)
  (case c_ak=>k_is)
  (case k_ak=>k_is)
  (case i_ak=>k_is)
  (case a_law=>k_is)
  (case l_law=>k_is)
  (case c_law=>k_is)
  (case k_law=>k_is)
  (case i_law=>k_is)
  (case kc_as=>k_is)
  (case ov_as=>kernel_rfl)
  (case hd_as=>k_is)
  (case sa_as=>k_is)
  (case ga_as=>k_is)
  (case gh_as=>k_is)
  (case ca_as=>k_is)
  (case mk_as=>first | k_is | kernel_rfl)
  (case kc_ah=>k_is)
  (case ov_ah=>kernel_rfl)
  (case hd_ah=>k_is)
  (case sa_ah=>k_is)
  (case ga_ah=>k_is)
  (case gh_ah=>k_is)
  (case ca_ah=>k_is)
  (case mk_ah=>first | k_is | kernel_rfl)
  (case kc_af=>k_is)
  (case ov_af=>kernel_rfl)
  (case hd_af=>k_is)
  (case sa_af=>k_is)
  (case ga_af=>k_is)
  (case gh_af=>k_is)
  (case ca_af=>k_is)
  (case mk_af=>first | k_is | kernel_rfl)
  (case kc_m=>k_is)
  (case ov_m=>kernel_rfl)
  (case hd_m=>k_is)
  (case sa_m=>k_is)
  (case ga_m=>k_is)
  (case gh_m=>k_is)
  (case ca_m=>k_is)
  (case mk_m=>first | k_is | kernel_rfl)
  (case kc_j=>k_is)
  (case ov_j=>kernel_rfl)
  (case hd_j=>k_is)
  (case sa_j=>k_is)
  (case ga_j=>k_is)
  (case gh_j=>k_is)
  (case ca_j=>k_is)
  (case mk_j=>first | k_is | kernel_rfl)
  (case kc_n=>k_is)
  (case ov_n=>kernel_rfl)
  (case hd_n=>k_is)
  (case sa_n=>k_is)
  (case ga_n=>k_is)
  (case gh_n=>k_is)
  (case ca_n=>k_is)
  (case mk_n=>first | k_is | kernel_rfl)
  (case kc_v=>k_is)
  (case ov_v=>kernel_rfl)
  (case hd_v=>k_is)
  (case sa_v=>k_is)
  (case ga_v=>k_is)
  (case gh_v=>k_is)
  (case ca_v=>k_is)
  (case mk_v=>first | k_is | kernel_rfl)
  (case kc_e=>k_is)
  (case ov_e=>kernel_rfl)
  (case hd_e=>k_is)
  (case sa_e=>k_is)
  (case ga_e=>k_is)
  (case gh_e=>k_is)
  (case ca_e=>k_is)
  (case mk_e=>first | k_is | kernel_rfl)
  (case kc_w=>k_is)
  (case ov_w=>kernel_rfl)
  (case hd_w=>k_is)
  (case sa_w=>k_is)
  (case ga_w=>k_is)
  (case gh_w=>k_is)
  (case ca_w=>k_is)
  (case mk_w=>first | k_is | kernel_rfl)
  (case kc_az=>k_is)
  (case pg_az=>k_is)
  (case hd_az=>k_is)
  (case po_az=>k_is)
  (case sa_az=>k_is)
  (case mk_az=>first | k_is | kernel_rfl)
  (case ca_az=>k_is)
  (case mo_az=>k_is)
  (case kc_au=>k_is)
  (case pg_au=>k_is)
  (case hd_au=>k_is)
  (case po_au=>k_is)
  (case sa_au=>k_is)
  (case mk_au=>first | k_is | kernel_rfl)
  (case ca_au=>k_is)
  (case mo_au=>k_is)
  (case a_LeftSide_init=>k_is)
  (case kc_al=>k_is)
  (case pg_al=>k_is)
  (case hd_al=>k_is)
  (case po_al=>k_is)
  (case sa_al=>k_is)
  (case mk_al=>first | k_is | kernel_rfl)
  (case ca_al=>k_is)
  (case mo_al=>k_is)
  (case a_RightSide_init=>k_is)
  (case kc_t=>k_is)
  (case pg_t=>k_is)
  (case hd_t=>k_is)
  (case po_t=>k_is)
  (case sa_t=>k_is)
  (case mk_t=>first | k_is | kernel_rfl)
  (case ca_t=>k_is)
  (case mo_t=>k_is)
  (case cg=>k_is)
  (case ct=>k_is)
  (case n_a1=>k_is)
  (case n_bf=>k_is)
  (case n_a0=>k_is)
  (case n_a3=>k_is)
  (case n_cg=>k_is)
  (case n_cz=>k_is)
  (case n_c8=>k_is)
  (case n_cp=>k_is)
  (case n_dl=>k_is)
  (case n_dm=>k_is)
  (case n_c0=>k_is)
  (case n_c1=>k_is)
  (case n_c9=>k_is)
  (case n_cq=>k_is)
  (case n_c5=>k_is)
  (case n_c6=>k_is)
  (case n_cr=>k_is)
  (case n_cs=>k_is)
  (case n_c2=>k_is)
  (case n_by=>k_is)
  (case n_df=>k_is)
  (case n_dg=>k_is)
  (case n_cl=>k_is)
  (case n_bz=>k_is)
  (case n_b9=>k_is)
  (case n_ch=>k_is)
  (case n_da=>k_is)
  (case n_db=>k_is)
  (case n_b0=>k_is)
  (case n_cm=>k_is)
  (case n_ct=>k_is)
  (case n_ci=>k_is)
  (case n_dc=>k_is)
  (case n_dd=>k_is)
  (case n_cu=>k_is)
  (case n_cv=>k_is)
  (case n_c3=>k_is)
  (case n_cn=>k_is)
  (case n_dh=>k_is)
  (case n_di=>k_is)
  (case n_a9=>k_is)
  (case n_cf=>k_is)
  (case n_cj=>k_is)
  (case n_ca=>k_is)
  (case n_cw=>k_is)
  (case n_cx=>k_is)
  (case n_cb=>k_is)
  (case n_cy=>k_is)
  (case n_c4=>k_is)
  (case n_co=>k_is)
  (case n_dj=>k_is)
  (case n_dk=>k_is)
  (case n_de=>k_is)
  (case n_b2=>k_is)
  (case n_bn=>k_is)
  (case n_bool=>k_is)
  (case n_enumerate=>k_is)
  (case n_int=>k_is)
  (case n_isinstance=>k_is)
  (case n_len=>k_is)
  (case n_list=>k_is)
  (case n_max=>k_is)
  (case n_min=>k_is)
  (case n_range=>k_is)
  (case n_sorted=>k_is)
  (case n_str=>k_is)
  (case mro_ah=>k_is)
  (case kit_cc=>kernel_rfl)
  (case mro_af=>k_is)
  (case kit_cd=>kernel_rfl)
  (case kit_ce=>kernel_rfl)
  (case mro_m=>k_is)
  (case kit_b3=>kernel_rfl)
  (case kit_b4=>kernel_rfl)
  (case kit_bo=>kernel_rfl)
  (case mro_j=>k_is)
  (case kit_bp=>kernel_rfl)
  (case kit_bq=>kernel_rfl)
  (case kit_bg=>kernel_rfl)
  (case kit_ba=>kernel_rfl)
  (case mro_n=>k_is)
  (case kit_br=>kernel_rfl)
  (case kit_bs=>kernel_rfl)
  (case kit_bh=>kernel_rfl)
  (case kit_bb=>kernel_rfl)
  (case kit_bc=>kernel_rfl)
  (case mro_v=>k_is)
  (case kit_b5=>kernel_rfl)
  (case kit_b6=>kernel_rfl)
  (case kit_bt=>kernel_rfl)
  (case kit_bi=>kernel_rfl)
  (case kit_bj=>kernel_rfl)
  (case kit_bu=>kernel_rfl)
  (case ns_v=>kernel_rfl)
  (case ns_c7=>kernel_rfl)
  (case mro_e=>k_is)
  (case kit_bd=>kernel_rfl)
  (case kit_be=>kernel_rfl)
  (case kit_a6=>kernel_rfl)
  (case kit_a4=>kernel_rfl)
  (case kit_a5=>kernel_rfl)
  (case kit_a7=>kernel_rfl)
  (case kit_a2=>kernel_rfl)
  (case mro_w=>k_is)
  (case kit_b7=>kernel_rfl)
  (case kit_b8=>kernel_rfl)
  (case kit_bv=>kernel_rfl)
  (case kit_bk=>kernel_rfl)
  (case kit_bl=>kernel_rfl)
  (case kit_bw=>kernel_rfl)
  (case kit_a8=>kernel_rfl)
  (case kit_bx=>kernel_rfl)
  (case v_ck=>k_is)
  (case v_bm=>k_is)
  (case v_b1=>k_is)
  (case g_av=>k_is)
  (case l_av=>first | k_is | kernel_rfl)
  (case ns_av=>kernel_rfl)
