import PyProof.Rows.All
import Wide.All
import OpenK.AllK
import Wide.FinOn
import Lean
import PyProof.EqAt
import PyProof.EqKinds
import PyProof.TupleCall
import PyProof.StationsW
import PyProof.ExcClass2
import PyProof.RulesAs
import PyProof.ExcBaseAll.ValueError
import OpenK.KDescr
import OpenK.KWalk
import PyProof.ExcAttrAll.ValueError
import PyProof.Comp
import PyProof.ListRange
import PyProof.DictItems
import KE.KPairComp
import KE.KDictOf
import PyProof.AttrMissHeap
import PyProof.Rows.Range3
import KE.KRevIter
import PyProof.ZipIter
import OpenK.KEqL
import PyProof.AutoListH
import PyProof.EnumMake
import PyProof.WalksEnum
import PyProof.NeKinds
import PyProof.MaxThree
import KE.KSortTup
import PyProof.StrLawsIn
import PyProof.DictValues
import PyProof.DictIter
import PyProof.Draws
import PyProof.DictWalks
import PyProof.ListNew
import PyProof.ListStr
import KE.KIntText
import PyProof.Rows.FStr
import PyProof.MeetsStr
import PyProof.Rows.CallKwBuiltin
import PyProof.Rows.StrNews
import PyProof.Rows.StrNews2
import PyProof.StrLawsChain
import PyProof.StrLawsFirst
import PyProof.StrLawsTight
import PyProof.DictUpdate
import PyProof.Rows.SetFrom
import PyProof.DictStraight
import PyProof.SetRoads
import PySem.Challenge.RW_rimnotes_k35_whole_who_stays_kept
set_option Elab.async false
set_option linter.all false
set_option maxRecDepth 100000
set_option maxHeartbeats 4000000
set_option maxRecDepth 100000
namespace L2
open PySem PySem.Spec PyProof.Rows
variable {q0:Bool}
abbrev Key:=Sum Int Str
def xdw:Key→Value→Bool
 | .inl k,v=>Value.isInt k v
 | .inr x,v=>Value.isStrOf x v
def keyH (w:World):Key→Int
 | .inl k=>hashInt k
 | .inr x=>hashStr w x
theorem xa8:∀ {k:Key} {v:Value},xdw k v=true→(∃ i t,k=Sum.inl i∧v=Value.int i t)∨(∃ x t,k=Sum.inr x∧v=Value.str x t)
 | .inl i,v,h=>by
  obtain ⟨t,e⟩:=Value.isInt_shape (k:=i) (v:=v) h
  exact .inl ⟨i,t,rfl,e⟩
 | .inr x,v,h=>by
  obtain ⟨t,e⟩:=Value.isStrOf_shape (x:=x) (v:=v) h
  exact .inr ⟨x,t,rfl,e⟩
theorem xke (i:Int) (t:Tok):xdw (.inl i) (.int i t)=true:=by simp [xdw,Value.isInt]
theorem xkh (x:Str) (t:Tok):xdw (.inr x) (.str x t)=true:=by simp [xdw,Value.isStrOf]
theorem xny (a b:Int):decide ((Sum.inl a:Key)=Sum.inl b)=(a == b):=by
 by_cases e:a=b
 ·subst e; simp
 ·have h:¬ (Sum.inl a:Key)=Sum.inl b:=fun q=>e (Sum.inl.inj q)
  rw [decide_eq_false h]
  exact (beq_eq_false_iff_ne.mpr e).symm
theorem xoa (a b:Str):decide ((Sum.inr a:Key)=Sum.inr b)=decide (a=b):=by
 by_cases e:a=b
 ·subst e; simp
 ·have h:¬ (Sum.inr a:Key)=Sum.inr b:=fun q=>e (Sum.inr.inj q)
  rw [decide_eq_false h,decide_eq_false e]
theorem xnd (a:Int) (b:Str):decide ((Sum.inl a:Key)=Sum.inr b)=false:=decide_eq_false (fun q=>nomatch q)
theorem xnh (a:Str) (b:Int):decide ((Sum.inr a:Key)=Sum.inl b)=false:=decide_eq_false (fun q=>nomatch q)
def xam (prog:Program) (w:World):PySem.KeyKind prog w Key where
 is:=xdw
 hash:=keyH w
 inj:=fun v a b ha hb=>by
  rcases xa8 ha with ⟨i,t,rfl,rfl⟩ | ⟨x,t,rfl,rfl⟩
  ·rcases xa8 hb with ⟨j,u,rfl,e⟩ | ⟨y,u,rfl,e⟩
   ·injection e with e1 _; rw [e1]
   ·exact nomatch e
  ·rcases xa8 hb with ⟨j,u,rfl,e⟩ | ⟨y,u,rfl,e⟩
   ·exact nomatch e
   ·injection e with e1 _; rw [e1]
 byValue:=fun k v h=>by
  rcases xa8 h with ⟨i,t,rfl,rfl⟩ | ⟨x,t,rfl,rfl⟩ <;> rfl
 pyHash:=fun hv h=>by
  rcases xa8 hv with ⟨i,t,rfl,rfl⟩ | ⟨x,t,rfl,rfl⟩
  ·exact wpAny_pyHash_int h
  ·exact wpAny_pyHash_str h
 eqBool:=fun hu hv h=>by
  rcases xa8 hu with ⟨i,t,rfl,rfl⟩ | ⟨x,t,rfl,rfl⟩
  ·rcases xa8 hv with ⟨j,u,rfl,rfl⟩ | ⟨y,u,rfl,rfl⟩
   ·rw [xny] at h; exact wpAny_eqBool_int h
   ·rw [xnd] at h; exact SeqAt.EqAt.int_str i t y u _ _ _ _ h
  ·rcases xa8 hv with ⟨j,u,rfl,rfl⟩ | ⟨y,u,rfl,rfl⟩
   ·rw [xnh] at h; exact SeqAt.EqAt.str_int x t j u _ _ _ _ h
   ·rw [xoa] at h; exact wpAny_eqBool_str h
 «strs»:=fun k x t v h=>by
  rcases xa8 h with ⟨i,u,rfl,e⟩ | ⟨y,u,rfl,e⟩
  ·exact nomatch e
  ·injection e with e1 _
   subst e1
   cases v <;> rfl
theorem xhy (prog:Program) (w:World) (i:Int) (t:Tok):(xam prog w).is (.inl i) (.int i t)=true:=xke i t
theorem xhz (prog:Program) (w:World) (x:Str) (t:Tok):(xam prog w).is (.inr x) (.str x t)=true:=xkh x t
end L2
namespace L2
open PySem PySem.Spec PyProof.Rows
variable {q0:Bool}
inductive V where
 | non | bl (b:Bool) | int (i:Int) | str (x:Str) | byt (b:Array UInt8) | flt (b:UInt64) | ref (a:Addr) | ty (n:String)
 deriving DecidableEq
def RelV:V→Value→Prop
 | .non,u=>u=Value.none
 | .bl b,u=>u=Value.bool b
 | .int i,u=>∃ t,u=Value.int i t
 | .str x,u=>∃ t,u=Value.str x t
 | .byt b,u=>∃ t,u=Value.bytes b t
 | .flt b,u=>∃ t,u=Value.float b t
 | .ref a,u=>u=Value.ref a
 | .ty n,u=>u=Value.type n
abbrev Vals:List V→List Value→Prop:=Paired RelV
theorem Vals.length {xs:List V} {us:List Value} (r:Vals xs us):xs.length=us.length:=Paired.length r
theorem Vals.get:∀ {xs:List V} {us:List Value} {i:Nat} {x:V},Vals xs us→xs[i]?=some x→∃ u,us[i]?=some u∧RelV x u
 | _,_,_,_,.nil,e=>by simp at e
 | _,_,0,_,.cons r _,e=>by simp at e; subst e; exact ⟨_,rfl,r⟩
 | _,_,i + 1,x,.cons _ t,e=>by
  obtain ⟨u,h1,h2⟩:=Vals.get (i:=i) (x:=x) t (by simpa using e)
  exact ⟨u,by simpa using h1,h2⟩
theorem Vals.append:∀ {xs ys:List V} {us ws:List Value},Vals xs us→Vals ys ws→Vals (xs ++ ys) (us ++ ws)
 | _,_,_,_,.nil,s=>s
 | _,_,_,_,.cons r t,s=>.cons r (Vals.append t s)
theorem Vals.take:∀ {xs:List V} {us:List Value} (n:Nat),Vals xs us→Vals (xs.take n) (us.take n)
 | _,_,0,_=>.nil
 | _,_,_ + 1,.nil=>.nil
 | _,_,n + 1,.cons r t=>.cons r (Vals.take n t)
theorem Vals.drop:∀ {xs:List V} {us:List Value} (n:Nat),Vals xs us→Vals (xs.drop n) (us.drop n)
 | _,_,0,r=>r
 | _,_,_ + 1,.nil=>.nil
 | _,_,n + 1,.cons _ t=>Vals.drop n t
def RelO:Option V→Option Value→Prop
 | some v,some u=>RelV v u
 | none,none=>True
 | _,_=>False
def KV {κ:Type}:List (κ × V)→List (κ × Value)→Prop:=Paired fun (p:κ × V) (q:κ × Value)=>p.1=q.1∧RelV p.2 q.2
def kV:Key→V
 | .inl i=>.int i
 | .inr x=>.str x
inductive HO where
 /-- a list -/
 | lst (xs:List V)
 /-- a tuple (never changes) -/
 | tup (xs:List V)
 /-- a dict whose keys are ints and texts; one whose keys are tuples of ints and texts (the empty one is both) -/
 | dK (kvs:List (Key × V)) | dT (kvs:List (List Key × V))
 /-- a set of ints: its members,its size -/
 | set (S:Int→Bool) (n:Nat)
 /-- an instance of the class at C,its dict at dx,its attributes -/
 | ins (C dx:Addr) (fs:List (Str × V))
 /-- the dict of the instance at x -/
 | own (x:Addr)
 /-- the dict of an exception -/
 | xd (fs:List (Str × V))
 /-- a bound method,f of x -/
 | met (f x:Addr)
 /-- a range object lo,lo + 1,.. below hi -/
 | rng (lo hi:Int)
 /-- a thing that is known to the object (the script; a dict while a loop walks it): read,never written while it is so -/
 | frz (o:Obj) (u:HO)
 /-- a code object's table -/
 | tbl (ps:Array Value)
 /-- any other thing,by what is true of its one object (a def of one's own: SetO a S n:=HO.ext fun h=>..) -/
 | ext (φ:Heap→Prop)
abbrev Hp:=Addr→Option HO
def upd (H:Hp) (a:Addr) (o:HO):Hp:=fun b=>if b=a then some o else H b
theorem xg {H:Hp} {a:Addr} {o:HO}:upd H a o a=some o:=by unfold upd; rw [if_pos rfl]
theorem xh {H:Hp} {a b:Addr} {o:HO} (h:b≠a):upd H a o b=H b:=by unfold upd; rw [if_neg h]
theorem xfs {H:Hp} {a:Addr} {o u:HO}:upd (upd H a o) a u=upd H a u:=by
 funext b; unfold upd; split <;> rfl
theorem xak {H:Hp} {a b:Addr} {o u:HO} (h:H a=some o) (h':H b=some u) (d:o≠u):a≠b:=by
 intro e; subst e; rw [h] at h'; exact d (Option.some.inj h')
theorem xf {H:Hp} {a b:Addr} {o:HO} (h:H a=some o) (h':H b=none):a≠b:=by
 intro e; subst e; rw [h] at h'; cases h'
section
variable (P:Program) (w:World)
def xau (H:Hp) (h:Heap) (a:Addr):HO→Prop
  | .lst xs=>xs.length≤sizeLine∧∃ (its:List Value) (n:Nat),Vals xs its∧h.get? a=some { cls:=.type "list",data:=.seq its.toArray n }
  | .tup xs=>xs.length≤sizeLine∧∃ its:List Value,Vals xs its∧IsTup h a its.toArray
  | .dK kvs=>kvs.length≤sizeLine∧(a == sysModules)=false∧∃ vs,KV kvs vs∧h.DictOf (xam P w) a vs
  | .dT kvs=>kvs.length≤sizeLine∧(a == sysModules)=false∧∃ xs:List (List Key × Addr × Value),
      Paired (fun (p:List Key × V) (q:List Key × Addr × Value)=>p.1=q.1∧H q.2.1=some (.tup (p.1.map kV))∧RelV p.2 q.2.2) kvs xs ∧
      ∃ o es ep,h.get? a=some o∧o.ExactDict∧o.data=.dict es ep∧es.toList=xs.map (entryOfKey (tupleKind (xam P w)))∧(xs.map (·.1)).Nodup
  | .set S n=>h.SetOf (intKind P w) a S n
  | .ins C dx fs=>H dx=some (.own a)∧fs.length≤1000∧dx≠a∧h.get? a=some (PySem.W.instObj C dx) ∧
      ∃ mA,h.Ns1 dx mA∧(∀ f,RelO (fs.lookup f) (mA f))∧PySem.Within mA (fs.map (·.1))
  | .own _=>∃ o,h.get? a=some o
  | .xd fs=>∃ mA,h.Ns1 a mA∧∀ f,RelO (fs.lookup f) (mA f)
  | .rng lo hi=>∃ t u v,h.get? a=some { cls:=.type "range",data:=.fields #[.int lo t,.int hi u,.int 1 v] }
  | .frz o u=>h.get? a=some o∧xau H h a u
  | .tbl ps=>h.get? a=some { cls:=.none,data:=.fields ps }
  | .met f x=>h.get? a=some (PySem.W.methodObj (.ref f) (.ref x))
  | .ext φ=>φ h∧(∃ o,h.get? a=some o)∧∀ h1 h2:Heap,φ h1→(∀ o,h1.get? a=some o→h2.get? a=some o)→φ h2
def HOk (H:Hp) (h:Heap):Prop:=∀ a o,H a=some o→xau P w H h a o
end
section
variable {P:Program} {w:World} {H H':Hp} {h h':Heap} {a:Addr} {o:HO}
theorem xau.lt (x:xau P w H h a o):a < h.objs.size:=by
 cases o with
 | lst xs=>obtain ⟨_,_,_,_,e⟩:=x; exact Heap.lt_size e
 | tup xs=>obtain ⟨_,_,_,p⟩:=x; exact p.lt
 | dK kvs=>obtain ⟨_,_,_,_,o,_,_,e,_⟩:=x; exact Heap.lt_size e
 | dT kvs=>obtain ⟨_,_,_,_,o,_,_,e,_⟩:=x; exact Heap.lt_size e
 | set S n=>obtain ⟨o,_,_,_,e,_⟩:=x; exact Heap.lt_size e
 | ins C dx fs=>obtain ⟨_,_,_,e,_⟩:=x; exact Heap.lt_size e
 | own y=>obtain ⟨_,e⟩:=x; exact Heap.lt_size e
 | xd fs=>obtain ⟨_,⟨_,_,_,e,_⟩,_⟩:=x; exact Heap.lt_size e
 | rng lo hi=>obtain ⟨_,_,_,e⟩:=x; exact Heap.lt_size e
 | frz ob u=>obtain ⟨e,_⟩:=x; exact Heap.lt_size e
 | tbl ps=>exact Heap.lt_size (show h.get? a=some _ from x)
 | met f y=>exact Heap.lt_size (show h.get? a=some _ from x)
 | ext φ=>obtain ⟨_,⟨_,e⟩,_⟩:=x; exact Heap.lt_size e
theorem Paired.mapP {α β:Type} {F G:α→β→Prop}:∀ {l₁:List α} {l₂:List β},Paired F l₁ l₂→(∀ a b,F a b→G a b)→Paired G l₁ l₂
 | _,_,.nil,_=>.nil
 | _,_,.cons r t,f=>.cons (f _ _ r) (Paired.mapP t f)
theorem xau.stay (x:xau P w H h a o) (k:∀ b u,(b=a∨H b=some (.own a))→h.get? b=some u→h'.get? b=some u)
    (ho:∀ b,H b=some (.own a)→H' b=some (.own a)) (ht:∀ b xs,H b=some (.tup xs)→H' b=some (.tup xs)):xau P w H' h' a o:=by
  induction o with
  | lst xs=>obtain ⟨z,its,n,r,e⟩:=x; exact ⟨z,its,n,r,k _ _ (.inl rfl) e⟩
  | tup xs=>obtain ⟨z,its,r,ob,e,c⟩:=x; exact ⟨z,its,r,ob,k _ _ (.inl rfl) e,c⟩
  | dK kvs=>obtain ⟨z,y,vs,r,ob,es,ep,e,c⟩:=x; exact ⟨z,y,vs,r,ob,es,ep,k _ _ (.inl rfl) e,c⟩
  | dT kvs =>
    obtain ⟨z,y,xs,r,ob,es,ep,e,c⟩:=x
    exact ⟨z,y,xs,Paired.mapP r fun p q z=>⟨z.1,ht _ _ z.2.1,z.2.2⟩,ob,es,ep,k _ _ (.inl rfl) e,c⟩
  | set S n=>obtain ⟨ob,es,ep,t,e,c⟩:=x; exact ⟨ob,es,ep,t,k _ _ (.inl rfl) e,c⟩
  | ins C dx fs =>
    obtain ⟨d,z,ne,e,mA,⟨od,es,ep,e2,c⟩,r⟩:=x
    exact ⟨ho _ d,z,ne,k _ _ (.inl rfl) e,mA,⟨od,es,ep,k _ _ (.inr d) e2,c⟩,r⟩
  | own y=>obtain ⟨ob,e⟩:=x; exact ⟨ob,k _ _ (.inl rfl) e⟩
  | xd fs=>obtain ⟨mA,⟨od,es,ep,e,c⟩,r⟩:=x; exact ⟨mA,⟨od,es,ep,k _ _ (.inl rfl) e,c⟩,r⟩
  | rng lo hi=>obtain ⟨t,u,v,e⟩:=x; exact ⟨t,u,v,k _ _ (.inl rfl) e⟩
  | frz ob u ih=>obtain ⟨e,q⟩:=x; exact ⟨k _ _ (.inl rfl) e,ih q⟩
  | tbl ps =>
    have e:h.get? a=some { cls:=.none,data:=.fields ps }:=x
    show h'.get? a=some { cls:=.none,data:=.fields ps }
    exact k a _ (.inl rfl) e
  | met f y =>
    have e:h.get? a=some (PySem.W.methodObj (.ref f) (.ref y)):=x
    show h'.get? a=some (PySem.W.methodObj (.ref f) (.ref y))
    exact k a _ (.inl rfl) e
  | ext φ=>obtain ⟨p,⟨o,e⟩,st⟩:=x; exact ⟨st _ _ p fun o q=>k _ _ (.inl rfl) q,⟨o,k _ _ (.inl rfl) e⟩,st⟩
theorem HOk.lt (x:HOk P w H h) (e:H a=some o):a < h.objs.size:=(x a o e).lt
theorem HOk.fresh (x:HOk P w H h) (e:h.objs.size≤a):H a=none:=by
 cases q:H a with
 | none=>rfl
 | some u=>exact absurd (Nat.lt_of_lt_of_le (x.lt q) e) (Nat.lt_irrefl _)
theorem HOk.kept (x:HOk P w H h) (k:∀ b u,h.get? b=some u→h'.get? b=some u):HOk P w H h':=fun a o e =>
 (x a o e).stay (fun b u _ q=>k b u q) (fun _ q=>q) fun _ _ q=>q
theorem HOk.laid (x:HOk P w H h) (k:∀ b u,h.get? b=some u→h'.get? b=some u) (hp:h.objs.size≤a) (new:xau P w (upd H a o) h' a o):HOk P w (upd H a o) h':=fun b u e=>by
 have hn:=x.fresh hp
 by_cases hb:b=a
 ·subst hb; rw [xg] at e; cases e; exact new
 ·rw [xh hb] at e
  exact (x b u e).stay (fun c v _ q=>k c v q) (fun c q=>by rw [xh (xf q hn)]; exact q) fun c xs q=>by rw [xh (xf q hn)]; exact q
end
def Rd (H:Hp) (a:Addr) (u:HO):Prop:=H a=some u∨∃ o,H a=some (.frz o u)
theorem Rd.ok {P:Program} {w:World} {H:Hp} {h:Heap} {a:Addr} {u:HO} (r:Rd H a u) (x:HOk P w H h):xau P w H h a u:=by
 rcases r with r | ⟨o,r⟩
 ·exact x a u r
 ·obtain ⟨_,q⟩:=x a _ r
  exact q
def Mut:Option HO→Prop
 | some (.lst _)=>True
 | some (.dK _)=>True
 | some (.dT _)=>True
 | some (.set _ _)=>True
 | some (.ins _ _ _)=>True
 | some (.ext _)=>True
 | _=>False
section
variable {P:Program} {w:World} {H:Hp} {h h':Heap} {x e:Addr} {o':HO}
theorem HOk.write (ok:HOk P w H h) (mu:Mut (H x)) (he:e=x∨H e=some (.own x)) (k:∀ b u,b≠e→h.get? b=some u→h'.get? b=some u) (heo:∃ u,h'.get? e=some u)
    (new:xau P w (upd H x o') h' x o'):HOk P w (upd H x o') h':=fun b u q=>by
  have nown:∀ c y,H c=some (.own y)→c≠x:=fun c y r z=>by subst z; rw [r] at mu; exact mu
  have ntup:∀ c xs,H c=some (.tup xs)→c≠x:=fun c xs r z=>by subst z; rw [r] at mu; exact mu
  by_cases hb:b=x
  · subst hb; rw [xg] at q; cases q; exact new
  · rw [xh hb] at q
    by_cases hbe:b=e
    · have q':H b=some (.own x):=by
        rcases he with z | z
        · exact absurd (hbe.trans z) hb
        · rw [hbe]; exact z
      rw [q] at q'; cases q'
      obtain ⟨v,hv⟩:=heo
      exact ⟨v,by rw [hbe]; exact hv⟩
    · refine (ok b u q).stay (fun c v hc r=>k c v ?_ r) (fun c r=>by rw [xh (nown c b r)]; exact r) fun c xs r=>by rw [xh (ntup c xs r)]; exact r
      rcases hc with rfl | hc
      · exact hbe
      · rintro rfl
        rcases he with z | z
        · exact nown c b hc z
        · rw [hc] at z; cases z; exact hb rfl
end
structure Un (fs ex:List Addr) (H H':Hp) (h h':Heap):Prop where
 keep:∀ b o,h.get? b=some o→H b=none→b ∉ fs→b ∉ ex→h'.get? b=some o
 slot:∀ b o,h.get? b=some o→H b=none→b ∈ fs→b ∉ ex→∃ sl,h'.get? b=some { o with slots:=sl }
 free:∀ b o,h.get? b=some o→H b=none→b ∉ ex→H' b=none
 there:∀ b o,h.get? b=some o→b ∉ ex→∃ o',h'.get? b=some o'
 tups:∀ b xs,H b=some (.tup xs)→H' b=some (.tup xs)
 frzs:∀ b o u,H b=some (.frz o u)→H' b=some (.frz o u)
 tbls:∀ b ps,H b=some (.tbl ps)→∃ more,H' b=some (.tbl (ps ++ more))
section
variable {fs fs' ex ex':List Addr} {H H1 H2:Hp} {h h1 h2 h':Heap} {a x e:Addr} {o:HO}
theorem Un.any (u:Un fs ex H H1 h h1) {b:Addr} {ob:Obj} (q:h.get? b=some ob) (n:H b=none) (hx:b ∉ ex):∃ sl,h1.get? b=some { ob with slots:=sl }:=by
 by_cases hb:b ∈ fs
 ·exact u.slot b ob q n hb hx
 ·exact ⟨ob.slots,u.keep b ob q n hb hx⟩
theorem Un.kept (k:∀ b u,h.get? b=some u→h'.get? b=some u):Un fs ex H H h h' :=
 ⟨fun b ob q _ _ _=>k b ob q,fun b ob q _ _ _=>⟨ob.slots,k b ob q⟩,fun _ _ _ n _=>n,fun b ob q _=>⟨ob,k b ob q⟩,fun _ _ q=>q,fun _ _ _ q=>q,fun _ ps q=>⟨#[],by rw [q]; simp⟩⟩
theorem Un.refl:Un fs ex H H h h:=Un.kept fun _ _ q=>q
theorem Un.laid (k:∀ b u,h.get? b=some u→h'.get? b=some u) (hp:h.objs.size≤a) (hn:H a=none):Un fs ex H (upd H a o) h h' where
 keep:=fun b u q _ _ _=>k b u q
 slot:=fun b u q _ _ _=>⟨u.slots,k b u q⟩
 free:=fun b u q n _=>by rw [xh (Nat.ne_of_lt (Nat.lt_of_lt_of_le (Heap.lt_size q) hp))]; exact n
 there:=fun b u q _=>⟨u,k b u q⟩
 tups:=fun b xs q=>by rw [xh (xf q hn)]; exact q
 frzs:=fun b u xs q=>by rw [xh (xf q hn)]; exact q
 tbls:=fun b ps q=>⟨#[],by rw [xh (xf q hn),q]; simp⟩
theorem Un.write (mu:Mut (H x)) (he:e=x∨H e=some (.own x)) (k:∀ b u,b≠e→h.get? b=some u→h'.get? b=some u) (heo:∃ u,h'.get? e=some u):Un fs ex H (upd H x o) h h':=by
 have hx:∀ b,H b=none→b≠x:=fun b n z=>by subst z; rw [n] at mu; exact mu
 have hb:∀ b,H b=none→b≠e:=fun b n z=>by
  subst z
  rcases he with r | r
  ·exact hx b n r
  ·rw [n] at r; cases r
 have hm:∀ b u,H b=some u→¬ Mut (some u)→b≠x:=fun b u q nm z=>by subst z; rw [q] at mu; exact nm mu
 refine ⟨fun b u q n _ _=>k b u (hb b n) q,fun b u q n _ _=>⟨u.slots,k b u (hb b n) q⟩,fun b u q n _=>by rw [xh (hx b n)]; exact n,fun b u q _=>?_,
  fun b xs q=>by rw [xh (hm b _ q fun z=>z)]; exact q,fun b u xs q=>by rw [xh (hm b _ q fun z=>z)]; exact q,fun b ps q=>⟨#[],by rw [xh (hm b _ q fun z=>z),q]; simp⟩⟩
 by_cases hbe:b=e
 ·subst hbe; exact heo
 ·exact ⟨u,k b u hbe q⟩
end
def trk (h:Heap) (H:Hp):List Addr:=(List.range h.objs.size).filter fun a=>(H a).isSome
def hidT (h:Heap) (H:Hp):Heap:=PySem.W.hideAll h (trk h H)
theorem xjd (h:Heap) (H:Hp):(hidT h H).objs.size=h.objs.size:=PySem.W.hideAll_size _ _
theorem xld {h:Heap} {H:Hp} {b:Addr} {o:Obj} (e:h.get? b=some o) (n:H b=none):(hidT h H).get? b=some o :=
 PySem.W.hideAll_get _ e fun hm=>by
  have q:(H b).isSome=true:=(List.mem_filter.mp hm).2
  rw [n] at q; simp at q
theorem xm4 {h:Heap} {H:Hp} {b:Addr} {o:Obj} (e:(hidT h H).get? b=some o):h.get? b=some o∧H b=none:=by
 have e':h.get? b=some o:=PySem.W.of_hideAll (trk h H) e
 refine ⟨e',?_⟩
 cases q:H b with
 | none=>rfl
 | some x =>
  have hm:b ∈ trk h H:=List.mem_filter.mpr ⟨List.mem_range.mpr (Heap.lt_size e'),by simp [q]⟩
  have z:(hidT h H).get? b=none:=PySem.W.hideAll_none (trk h H) hm
  rw [z] at e; cases e
def xm9 (g h:Heap) (L:Addr):List (Addr × Obj):=(List.range h.objs.size).filterMap fun a=>if a=L∨(g.get? a).isSome=true then none else (h.get? a).map fun o=>(a,o)
def rest (g h:Heap) (L d:Addr):List (Addr × Obj):=(xm9 g h L).filter fun p=>decide (p.1≠d)
end L2
namespace L2
open PySem PySem.Spec PyProof.Rows
variable {q0:Bool}
structure Mod (K:PySem.W.Frag) (mg:Str→Option Value) (base:Heap):Prop where
 kin:K.In base
 glob:base.Ns mainGlobals mg
 blt:∃ mb,base.Ns builtinsNs mb∧∀ x:Str,x≠"__name__"→mb x=bootBuiltins x
 nolimit:base.NoLimit
structure Cx where
 prog:Program
 w:World
 K:PySem.W.Frag
 mg:Str→Option Value
 base:Heap
 A:Around
 N:List Str
 s₀:Shared
 H₀:Hp
 env:Env
 outer:List Env
 stack:List Env
 ex:List Addr
 fn:Str→Bool
 calm:Bool
 pn:List (Addr × Obj)
 xe:Value→Shared→Prop
def frs (l:List Env):List Addr:=l.filterMap (·.frame)
abbrev Cx.fs (X:Cx):List Addr:=frs X.outer
def Vis (sc:Scope) (x:Str):Prop:=sc.names.lookup x=some .local∨sc.names.lookup x=some .cell∨sc.names.lookup x=some .free
def Loc (sc:Scope) (x:Str):Prop:=sc.names.lookup x=some .local∨sc.names.lookup x=some .cell
def Look (env:Env) (h:Heap) (m:Str→Option Value) (x:Str) (u:Value):Prop :=
 (env.kindOf x=some .local∧m x=some u)∨((env.kindOf x=some .cell∨env.kindOf x=some .free)∧∃ c,env.cells.lookup x=some c∧h.IsCell c (some u))
structure Cx.Ok (X:Cx):Prop where
 mod:Mod X.K X.mg X.base
 kind:X.env.scope.kind=.function
 glob:X.env.globals=mainGlobals
 blt:X.env.builtins=builtinsNs
 above:X.s₀.heap.objs.size≤X.env.locals
 inj:∀ x y c,X.env.cells.lookup x=some c→X.env.cells.lookup y=some c→x=y
 has:∀ x,(X.env.kindOf x=some .cell∨X.env.kindOf x=some .free)→∃ c,X.env.cells.lookup x=some c
 cab:∀ x c,X.fn x=true→X.env.cells.lookup x=some c→X.s₀.heap.objs.size≤c
 hd:X.calm=true→X.A.handled=none
 frames:X.A.frames=some X.stack
 stk:X.stack=X.outer∨(X.stack=X.env :: X.outer∧X.env.frame=some X.env.locals)
 exf:∀ b ∈ X.ex,b≠X.env.locals∧∀ x c,X.env.cells.lookup x=some c→c≠b
 bs:∀ b o,X.base.get? b=some o→X.s₀.heap.get? b=some o∧X.H₀ b=none
 bsz:X.base.objs.size≤X.s₀.heap.objs.size
 noex:∀ b o,X.base.get? b=some o→b ∉ X.ex
 exfs:∀ b ∈ X.ex,b ∉ X.fs
 funs:X.s₀.heap.FunFrames X.base X.outer
 frf:∀ b ∈ X.fs,X.H₀ b=none
structure Inv (X:Cx) (pins:List (Addr × Obj)) (σ:List (Option V)) (H:Hp) (s:Shared):Prop where
 ok:X.Ok
 os:s.os=X.s₀.os
 bare:AllBare s.gens
 base:Un X.fs X.ex X.H₀ H X.s₀.heap s.heap
 loc:∃ m,s.heap.Ns X.env.locals m∧∀ (i:Nat) (x:Str) (v:V),X.N[i]?=some x→σ[i]?=some (some v)→Vis X.env.scope x→∃ u,RelV v u∧Look X.env s.heap m x u
 cell:∀ x c,X.env.cells.lookup x=some c→∃ v,s.heap.IsCell c v
 free:H X.env.locals=none
 freeC:∀ x c,X.env.cells.lookup x=some c→H c=none
 pin:∀ p ∈ X.pn ++ pins,s.heap.get? p.1=some p.2∧H p.1=none∧p.1≠X.env.locals∧p.1 ∉ X.fs∧∀ v,p.2.data≠.cell v
 hok:HOk X.prog X.w H s.heap
 len:σ.length=X.N.length
section
variable {X:Cx} {pins:List (Addr × Obj)} {σ:List (Option V)} {H H':Hp} {s:Shared} {h':Heap}
theorem Cx.Ok.nofr (ok:X.Ok) {b:Addr} {o:Obj} (e:X.base.get? b=some o):b ∉ X.fs:=fun hb=>by
 have:=(ok.funs.mem hb).1
 rw [e] at this; cases this
theorem Inv.bs (I:Inv X pins σ H s):∀ b o,X.base.get? b=some o→s.heap.get? b=some o∧H b=none:=fun b o e =>
 ⟨I.base.keep b o (I.ok.bs b o e).1 (I.ok.bs b o e).2 (I.ok.nofr e) (I.ok.noex b o e),I.base.free b o (I.ok.bs b o e).1 (I.ok.bs b o e).2 (I.ok.noex b o e)⟩
theorem Inv.bk (I:Inv X pins σ H s):∀ b o,X.base.get? b=some o→s.heap.get? b=some o:=fun b o e=>(I.bs b o e).1
theorem Inv.mod (I:Inv X pins σ H s):Mod X.K X.mg X.base:=I.ok.mod
theorem Inv.kIn (I:Inv X pins σ H s):X.K.In s.heap:=I.ok.mod.kin.keeps I.bk
theorem Inv.fr (I:Inv X pins σ H s):∃ m,Fr X.base X.env.locals s.heap m :=
 let ⟨m,hn,_⟩:=I.loc
 ⟨m,hn,I.bk,Nat.le_trans I.ok.bsz I.ok.above⟩
theorem Inv.lt (I:Inv X pins σ H s):X.env.locals < s.heap.objs.size:=let ⟨_,hn,_⟩:=I.loc; hn.lt
theorem Inv.sz (I:Inv X pins σ H s):X.s₀.heap.objs.size≤s.heap.objs.size:=Nat.le_trans I.ok.above (Nat.le_of_lt I.lt)
theorem Inv.nofs (I:Inv X pins σ H s) {a:Addr} (h:s.heap.objs.size≤a):a ∉ X.fs:=fun hb=>by
 obtain ⟨_,o,ho,_⟩:=I.ok.funs.mem hb
 exact absurd (Nat.lt_of_lt_of_le (Heap.lt_size ho) (Nat.le_trans I.sz h)) (Nat.lt_irrefl _)
theorem Inv.cne (I:Inv X pins σ H s):∀ x c,X.env.cells.lookup x=some c→c≠X.env.locals:=fun x c e z=>by
 obtain ⟨v,o,ho,hd⟩:=I.cell x c e
 obtain ⟨m,⟨o',es,ep,ho',hd',_⟩,_⟩:=I.loc
 rw [z,ho'] at ho; cases ho; rw [hd'] at hd; cases hd
theorem Inv.funs (I:Inv X pins σ H s):s.heap.FunFrames X.base X.outer:=by
 have all:∀ (l:List Env),(∀ b ∈ frs l,b ∈ X.fs)→X.s₀.heap.FunFrames X.base l→s.heap.FunFrames X.base l:=by
  intro l
  induction l with
  | nil=>intro _ _; trivial
  | cons env r ih =>
   intro hs hl
   obtain ⟨hk,⟨L,o,hf,hn,ho,hd⟩,hr⟩:=hl
   have hL:L ∈ X.fs:=hs L (by unfold frs; rw [List.filterMap_cons,hf]; exact List.mem_cons_self)
   obtain ⟨sl,e⟩:=I.base.slot L o ho (I.ok.frf L hL) hL fun z=>I.ok.exfs L z hL
   exact ⟨hk,⟨L,_,hf,hn,e,hd⟩,ih (fun b hb=>hs b (by unfold frs; rw [List.filterMap_cons,hf]; exact List.mem_cons_of_mem _ hb)) hr⟩
 exact all X.outer (fun _ hb=>hb) I.ok.funs
theorem Inv.stack (I:Inv X pins σ H s):s.heap.FunFrames X.base X.stack:=by
 rcases I.ok.stk with e | ⟨e,hf⟩
 ·rw [e]; exact I.funs
 ·rw [e]
  obtain ⟨m,hn,_⟩:=I.loc
  refine .cons (by rw [I.ok.kind]; decide) hf hn ?_ I.funs
  exact Heap.get?_none_of_le (Nat.le_trans I.ok.bsz I.ok.above)
theorem Inv.stkSub (I:Inv X pins σ H s):∀ b ∈ frs X.stack,b ∈ X.env.locals :: X.fs:=fun b hb=>by
 rcases I.ok.stk with e | ⟨e,hf⟩
 ·rw [e] at hb; exact List.mem_cons_of_mem _ hb
 ·rw [e] at hb
  unfold frs at hb
  rw [List.filterMap_cons,hf] at hb
  exact hb
theorem Inv.stkFree (I:Inv X pins σ H s):∀ b ∈ frs X.stack,H b=none:=fun b hb=>by
 rcases List.mem_cons.mp (I.stkSub b hb) with e | hb
 ·rw [e]; exact I.free
 ·obtain ⟨_,o,ho,_⟩:=I.ok.funs.mem hb
  exact I.base.free b o ho (I.ok.frf b hb) fun z=>I.ok.exfs b z hb
theorem Inv.step {g':Array GenState} {t':Nat} {d':Drawn} {ch:List Addr} (I:Inv X pins σ H s)
    (hch:∀ b ∈ ch,(b ∈ X.ex∨X.s₀.heap.objs.size≤b)∧b≠X.env.locals∧(∀ x c,X.env.cells.lookup x=some c→c≠b)∧∀ p ∈ X.pn ++ pins,p.1≠b)
    (keep:∀ b o,b≠X.env.locals→b ∉ X.fs→b ∉ ch→s.heap.get? b=some o→H b=none→h'.get? b=some o)
    (slot:∀ b o,b≠X.env.locals→b ∈ X.fs→b ∉ ch→s.heap.get? b=some o→H b=none→∃ sl,h'.get? b=some { o with slots:=sl }) (free:∀ b o,b ∉ ch→s.heap.get? b=some o→H b=none→H' b=none)
    (there:∀ b o,b ∉ ch→s.heap.get? b=some o→∃ o',h'.get? b=some o')
    (tups:∀ b xs,H b=some (.tup xs)→H' b=some (.tup xs)) (frzs:∀ b o u,H b=some (.frz o u)→H' b=some (.frz o u)) (tbls:∀ b ps,H b=some (.tbl ps)→∃ more,H' b=some (.tbl (ps ++ more)))
    (ns:∀ m,s.heap.Ns X.env.locals m→h'.Ns X.env.locals m) (hok:HOk X.prog X.w H' h') (hg:AllBare g') :
    Inv X pins σ H' { s with heap:=h',gens:=g',drawn:=d',toks:=t' }:=by
  have neL:∀ b o,X.s₀.heap.get? b=some o→b≠X.env.locals:=fun b o e=>Nat.ne_of_lt (Nat.lt_of_lt_of_le (Heap.lt_size e) I.ok.above)
  have neC:∀ b o,X.s₀.heap.get? b=some o→b ∉ X.ex→b ∉ ch:=fun b o e hx hb=>by
    rcases (hch b hb).1 with z | z
    · exact hx z
    · exact absurd (Nat.lt_of_lt_of_le (Heap.lt_size e) z) (Nat.lt_irrefl _)
  have cellK:∀ x c,X.env.cells.lookup x=some c→∀ v,s.heap.IsCell c v→h'.IsCell c v:=fun x c e v ⟨o,ho,hd⟩=>by
    have nch:c ∉ ch:=fun z=>(hch c z).2.2.1 x c e rfl
    by_cases hc:c ∈ X.fs
    · obtain ⟨sl,q⟩:=slot c o (I.cne x c e) hc nch ho (I.freeC x c e)
      exact ⟨_,q,hd⟩
    · exact ⟨o,keep c o (I.cne x c e) hc nch ho (I.freeC x c e),hd⟩
  refine ⟨I.ok,I.os,hg,⟨fun b o e n hb hx=>?_,fun b o e n hb hx=>?_,fun b o e n hx=>?_,fun b o e hx=>?_,fun b xs e=>tups b xs (I.base.tups b xs e),fun b o xs e=>frzs b o xs (I.base.frzs b o xs e),fun b ps e=>?_⟩,?_,fun x c e=>?_,?_,fun x c e=>?_,fun p hp=>?_,hok,I.len⟩
  · exact keep b o (neL b o e) hb (neC b o e hx) (I.base.keep b o e n hb hx) (I.base.free b o e n hx)
  · obtain ⟨sl,e1⟩:=I.base.slot b o e n hb hx
    obtain ⟨sl',e2⟩:=slot b _ (neL b o e) hb (neC b o e hx) e1 (I.base.free b o e n hx)
    exact ⟨sl',e2⟩
  · obtain ⟨o',e1⟩:=I.base.there b o e hx
    exact free b o' (neC b o e hx) e1 (I.base.free b o e n hx)
  · obtain ⟨o',e1⟩:=I.base.there b o e hx
    exact there b o' (neC b o e hx) e1
  · obtain ⟨m1,e1⟩:=I.base.tbls b ps e
    obtain ⟨m2,e2⟩:=tbls b _ e1
    exact ⟨m1 ++ m2,by rw [e2,Array.append_assoc]⟩
  · obtain ⟨m,hn,hl⟩:=I.loc
    refine ⟨m,ns m hn,fun i x v e1 e2 e3=>?_⟩
    obtain ⟨u,r,l⟩:=hl i x v e1 e2 e3
    refine ⟨u,r,?_⟩
    rcases l with l | ⟨k,c,e,z⟩
    · exact .inl l
    · exact .inr ⟨k,c,e,cellK x c e _ z⟩
  · obtain ⟨v,z⟩:=I.cell x c e
    exact ⟨v,cellK x c e v z⟩
  · obtain ⟨m,⟨o,_,_,ho,_⟩,_⟩:=I.loc
    exact free _ o (fun z=>(hch _ z).2.1 rfl) ho I.free
  · obtain ⟨v,o,ho,hd⟩:=I.cell x c e
    exact free c o (fun z=>(hch c z).2.2.1 x c e rfl) ho (I.freeC x c e)
  · obtain ⟨e,n,ne,nf,d⟩:=I.pin p hp
    have nch:p.1 ∉ ch:=fun z=>(hch p.1 z).2.2.2 p hp rfl
    exact ⟨keep p.1 p.2 ne nf nch e n,free p.1 p.2 nch e n,ne,nf,d⟩
theorem Inv.un {t':Nat} (I:Inv X pins σ H s) (u:Un X.fs [] H H' s.heap h') (hok:HOk X.prog X.w H' h'):Inv X pins σ H' { s with heap:=h',toks:=t' }:=by
 obtain ⟨m,⟨o,es,ep,ho,r⟩,_⟩:=id I.loc
 obtain ⟨sl,hL⟩:=u.any ho I.free (by simp)
 exact I.step (g':=s.gens) (d':=s.drawn) (ch:=[]) (fun _ z=>nomatch z) (fun b o _ hb _ e n=>u.keep b o e n hb (by simp)) (fun b o _ hb _ e n=>u.slot b o e n hb (by simp)) (fun b o _ e n=>u.free b o e n (by simp)) (fun b o _ e=>u.there b o e (by simp)) u.tups u.frzs u.tbls (fun m' hm=>by
  obtain ⟨o',es',ep',ho',r'⟩:=hm
  rw [ho] at ho'; cases ho'
  exact ⟨_,es',ep',hL,r'⟩) hok I.bare
theorem Inv.call {g':Array GenState} {t':Nat} {d':Drawn} {ch:List Addr} (I:Inv X pins σ H s) (u:Un (frs X.stack) ch H H' s.heap h') (hok:HOk X.prog X.w H' h') (hg:AllBare g')
    (hch:∀ b ∈ ch,(b ∈ X.ex∨X.s₀.heap.objs.size≤b)∧b≠X.env.locals∧(∀ x c,X.env.cells.lookup x=some c→c≠b)∧∀ p ∈ X.pn ++ pins,p.1≠b) :
    Inv X pins σ H' { s with heap:=h',gens:=g',drawn:=d',toks:=t' }:=by
  obtain ⟨m,⟨o,es,ep,ho,r⟩,_⟩:=id I.loc
  obtain ⟨sl,hL⟩:=u.any ho I.free fun z=>(hch _ z).2.1 rfl
  exact I.step (ch:=ch) hch (fun b o hL hb hc e n=>u.keep b o e n (fun z=>(List.mem_cons.mp (I.stkSub b z)).elim hL hb) hc) (fun b o _ _ hc e n=>u.any e n hc) (fun b o hc e n=>u.free b o e n hc) (fun b o hc e=>u.there b o e hc) u.tups u.frzs u.tbls (fun m' hm=>by
    obtain ⟨o',es',ep',ho',r'⟩:=hm
    rw [ho] at ho'; cases ho'
    exact ⟨_,es',ep',hL,r'⟩) hok hg
theorem Inv.turned {t':Nat} {it:Addr} (I:Inv X pins σ H s) (k:∀ b o,b≠it→s.heap.get? b=some o→h'.get? b=some o) (hn:H it=none) (hL:it≠X.env.locals)
    (h1:it ∈ X.ex∨X.s₀.heap.objs.size≤it) (h2:∀ x c,X.env.cells.lookup x=some c→c≠it) (h3:∀ p ∈ X.pn ++ pins,p.1≠it):Inv X pins σ H { s with heap:=h',toks:=t' }:=by
  have nit:∀ b u,H b=some u→b≠it:=fun b u e z=>by rw [z,hn] at e; cases e
  refine I.step (g':=s.gens) (d':=s.drawn) (ch:=[it]) (fun b hb=>?_) (fun b o _ _ hc e _=>k b o (fun z=>hc (by simp [z])) e) (fun b o _ _ hc e _=>⟨o.slots,k b o (fun z=>hc (by simp [z])) e⟩) (fun _ _ _ _ n=>n)
    (fun b o hc e=>⟨o,k b o (fun z=>hc (by simp [z])) e⟩) (fun _ _ e=>e) (fun _ _ _ e=>e) (fun b ps e=>⟨#[],by rw [e]; simp⟩) (fun m hm=>?_) (fun b u e=>?_) I.bare
  · have e:b=it:=by simpa using hb
    subst e
    exact ⟨h1,hL,h2,h3⟩
  · obtain ⟨o,es,ep,ho,r⟩:=hm
    exact ⟨o,es,ep,k _ o (Ne.symm hL) ho,r⟩
  · refine (I.hok b u e).stay (fun c v hc q=>k c v ?_ q) (fun _ q=>q) fun _ _ q=>q
    rcases hc with z | z
    · rw [z]; exact nit b u e
    · exact nit c _ z
theorem Inv.tok (I:Inv X pins σ H s) (t:Nat):Inv X pins σ H { s with toks:=t }:=I.un (h':=s.heap) (t':=t) Un.refl I.hok
theorem Inv.kept {t':Nat} (I:Inv X pins σ H s) (k:∀ b u,s.heap.get? b=some u→h'.get? b=some u):Inv X pins σ H { s with heap:=h',toks:=t' }:=I.un (Un.kept k) (I.hok.kept k)
theorem Inv.laid {a:Addr} {o:HO} {t':Nat} (I:Inv X pins σ H s) (k:∀ b u,s.heap.get? b=some u→h'.get? b=some u) (hp:s.heap.objs.size≤a) (new:xau X.prog X.w (upd H a o) h' a o) :
    Inv X pins σ (upd H a o) { s with heap:=h',toks:=t' }:=I.un (Un.laid k hp (I.hok.fresh hp)) (I.hok.laid k hp new)
theorem Inv.write {x e:Addr} {o:HO} {t':Nat} (I:Inv X pins σ H s) (mu:Mut (H x)) (he:e=x∨H e=some (.own x)) (k:∀ b u,b≠e→s.heap.get? b=some u→h'.get? b=some u) (heo:∃ u,h'.get? e=some u)
    (new:xau X.prog X.w (upd H x o) h' x o):Inv X pins σ (upd H x o) { s with heap:=h',toks:=t' }:=I.un (Un.write mu he k heo) (I.hok.write mu he k heo new)
theorem Inv.weak {σ':List (Option V)} (I:Inv X pins σ H s) (hl:σ'.length=σ.length) (w:∀ (i:Nat) v,σ'[i]?=some (some v)→σ[i]?=some (some v)):Inv X pins σ' H s :=
 ⟨I.ok,I.os,I.bare,I.base,let ⟨m,hn,hl'⟩:=I.loc; ⟨m,hn,fun i x v e1 e2 e3=>hl' i x v e1 (w i v e2) e3⟩,I.cell,I.free,I.freeC,I.pin,I.hok,hl.trans I.len⟩
theorem Inv.pins_of {pins':List (Addr × Obj)} (I:Inv X pins σ H s) (h:∀ p ∈ pins',s.heap.get? p.1=some p.2∧H p.1=none∧p.1≠X.env.locals∧p.1 ∉ X.fs∧∀ v,p.2.data≠.cell v):Inv X pins' σ H s :=
 ⟨I.ok,I.os,I.bare,I.base,I.loc,I.cell,I.free,I.freeC,fun p hp=>(List.mem_append.mp hp).elim (fun z=>I.pin p (List.mem_append_left _ z)) (h p),I.hok,I.len⟩
theorem xgx {N:List Str} (hN:N.Nodup) {i j:Nat} {x:Str} (a:N[i]?=some x) (b:N[j]?=some x):i=j:=by
 obtain ⟨h1,e1⟩:=List.getElem?_eq_some_iff.mp a
 obtain ⟨h2,e2⟩:=List.getElem?_eq_some_iff.mp b
 exact (List.getElem_inj hN).mp (e1.trans e2.symm)
theorem xgb {M:Model} {A:Around} {E:Value→Shared→Prop} {i:Nat} {x:Str} {v:V} {u:Value} {Q:Unit→Shared→Prop} (I:Inv X pins σ H s) (hN:X.N.Nodup) (hi:X.N[i]?=some x) (hx:Loc X.env.scope x) (r:RelV v u)
    (h:∀ s',Inv X pins (σ.set i (some v)) H s'→(∃ a,Heap.SameBut a s.heap s'.heap∧(a=X.env.locals∨X.env.cells.lookup x=some a))→Q () s') (hf:X.fn x=true∨X.env.scope.names.lookup x=some .local:=by first | exact .inl rfl | exact .inr rfl | assumption):wpAny M A (storeName X.env x u) Q E s:=by
  obtain ⟨m,hn,hl⟩:=id I.loc
  have hcls:(X.env.scope.kind == .class || (X.env.scope.kind == .module && X.env.locals != X.env.globals))=false:=by rw [I.ok.kind]; rfl
  have hiσ:i < σ.length:=by rw [I.len]; exact (List.getElem?_eq_some_iff.mp hi).1
  have cne:=I.cne
  have tracked:∀ {a:Addr} {h':Heap},(∃ o,s.heap.get? a=some o∧H a=none)→Heap.SameBut a s.heap h'→HOk X.prog X.w H h':=fun {a h'} ha hs b ob e=>by
    obtain ⟨_,_,hfree⟩:=ha
    refine (I.hok b ob e).stay (fun c w' hc q=>(hs.2 c ?_).trans q) (fun _ q=>q) fun _ _ q=>q
    rintro rfl
    rcases hc with rfl | hc
    · rw [hfree] at e; cases e
    · rw [hfree] at hc; cases hc
  rcases hx with hk | hk
  · refine wpAny_storeName_local hk hn (fun h' hn' hs=>?_) hcls
    obtain ⟨oL,_,_,hoL,_⟩:=id hn
    refine h _ ⟨I.ok,I.os,I.bare,⟨fun b o e n hb hx=>?_,fun b o e n hb hx=>?_,I.base.free,fun b o e hx=>?_,I.base.tups,I.base.frzs,I.base.tbls⟩,⟨_,hn',fun j y v' e1 e2 e3=>?_⟩,fun y c e=>?_,I.free,I.freeC,fun p hp=>?_,tracked ⟨oL,hoL,I.free⟩ hs,by simpa using I.len⟩ ⟨_,hs,.inl rfl⟩
    · exact (hs.2 b (Nat.ne_of_lt (Nat.lt_of_lt_of_le (Heap.lt_size e) I.ok.above))).trans (I.base.keep b o e n hb hx)
    · obtain ⟨sl,e1⟩:=I.base.slot b o e n hb hx
      exact ⟨sl,(hs.2 b (Nat.ne_of_lt (Nat.lt_of_lt_of_le (Heap.lt_size e) I.ok.above))).trans e1⟩
    · obtain ⟨o',e1⟩:=I.base.there b o e hx
      exact ⟨o',(hs.2 b (Nat.ne_of_lt (Nat.lt_of_lt_of_le (Heap.lt_size e) I.ok.above))).trans e1⟩
    · by_cases hj:j=i
      · subst hj
        rw [hi] at e1; cases e1
        rw [List.getElem?_set_self hiσ] at e2
        cases e2
        exact ⟨u,r,.inl ⟨hk,by simp⟩⟩
      · rw [List.getElem?_set_ne (Ne.symm hj)] at e2
        obtain ⟨u',r',q⟩:=hl j y v' e1 e2 e3
        refine ⟨u',r',?_⟩
        rcases q with ⟨k,e⟩ | ⟨k,c,e,z⟩
        · refine .inl ⟨k,?_⟩
          have:y≠x:=fun e=>hj (xgx hN e1 (e ▸ hi))
          simp [this,e]
        · exact .inr ⟨k,c,e,z.sameBut hs (cne y c e)⟩
    · obtain ⟨w',z⟩:=I.cell y c e
      exact ⟨w',z.sameBut hs (cne y c e)⟩
    · obtain ⟨e,n,ne,nf,d⟩:=I.pin p hp
      exact ⟨(hs.2 p.1 ne).trans e,n,ne,nf,d⟩
  · have hfn:X.fn x=true:=by
      rcases hf with z | z
      · exact z
      · rw [z] at hk; cases hk
    obtain ⟨c,hc⟩:=I.ok.has x (.inl hk)
    obtain ⟨w',z⟩:=I.cell x c hc
    refine wpAny_storeName_cell I.ok.kind hk hc z (fun h' hc' hs=>?_)
    obtain ⟨oc,hoc,hocd⟩:=id z
    refine h { s with heap:=h' } ⟨I.ok,I.os,I.bare,⟨fun b o e n hb hx=>?_,fun b o e n hb hx=>?_,I.base.free,fun b o e hx=>?_,I.base.tups,I.base.frzs,I.base.tbls⟩,⟨m,hn.sameBut hs (Ne.symm (cne x c hc)),fun j y v' e1 e2 e3=>?_⟩,fun y c' e=>?_,I.free,I.freeC,fun p hp=>?_,tracked ⟨oc,hoc,I.freeC x c hc⟩ hs,by simpa using I.len⟩ ⟨c,hs,.inr hc⟩
    · exact (hs.2 b (Nat.ne_of_lt (Nat.lt_of_lt_of_le (Heap.lt_size e) (I.ok.cab x c hfn hc)))).trans (I.base.keep b o e n hb hx)
    · obtain ⟨sl,e1⟩:=I.base.slot b o e n hb hx
      exact ⟨sl,(hs.2 b (Nat.ne_of_lt (Nat.lt_of_lt_of_le (Heap.lt_size e) (I.ok.cab x c hfn hc)))).trans e1⟩
    · obtain ⟨o',e1⟩:=I.base.there b o e hx
      exact ⟨o',(hs.2 b (Nat.ne_of_lt (Nat.lt_of_lt_of_le (Heap.lt_size e) (I.ok.cab x c hfn hc)))).trans e1⟩
    · by_cases hj:j=i
      · subst hj
        rw [hi] at e1; cases e1
        rw [List.getElem?_set_self hiσ] at e2
        cases e2
        exact ⟨u,r,.inr ⟨.inl hk,c,hc,hc'⟩⟩
      · rw [List.getElem?_set_ne (Ne.symm hj)] at e2
        obtain ⟨u',r',q⟩:=hl j y v' e1 e2 e3
        refine ⟨u',r',?_⟩
        rcases q with q | ⟨k,c',e,z'⟩
        · exact .inl q
        · refine .inr ⟨k,c',e,z'.sameBut hs ?_⟩
          rintro rfl
          exact hj (xgx hN e1 (I.ok.inj _ _ _ e hc ▸ hi))
    · by_cases hcc:c'=c
      · subst hcc; exact ⟨_,hc'⟩
      · obtain ⟨w2,z2⟩:=I.cell y c' e
        exact ⟨w2,z2.sameBut hs hcc⟩
    · obtain ⟨e,n,ne,nf,d⟩:=I.pin p hp
      refine ⟨(hs.2 p.1 ?_).trans e,n,ne,nf,d⟩
      intro q
      rw [q,hoc] at e
      have q':oc=p.2:=Option.some.inj e
      exact d w' (by rw [← q']; exact hocd)
theorem xfa {M:Model} {A:Around} {E:Value→Shared→Prop} {i:Nat} {x:Str} {v:V} {u:Value} {Q:Unit→Shared→Prop} (I:Inv X pins σ H s) (hN:X.N.Nodup) (hi:X.N[i]?=some x) (hx:Loc X.env.scope x) (r:RelV v u)
    (h:∀ s',Inv X pins (σ.set i (some v)) H s'→Q () s') (hf:X.fn x=true∨X.env.scope.names.lookup x=some .local:=by first | exact .inl rfl | exact .inr rfl | assumption):wpAny M A (storeName X.env x u) Q E s :=
  xgb I hN hi hx r (fun s' I' _=>h s' I') hf
theorem Inv.call' {s':Shared} {ch:List Addr} (I:Inv X pins σ H s) (ho:s'.os=s.os) (u:Un (frs X.stack) ch H H' s.heap s'.heap) (hok:HOk X.prog X.w H' s'.heap) (hg:AllBare s'.gens)
    (hch:∀ b ∈ ch,(b ∈ X.ex∨X.s₀.heap.objs.size≤b)∧b≠X.env.locals∧(∀ x c,X.env.cells.lookup x=some c→c≠b)∧∀ p ∈ X.pn ++ pins,p.1≠b):Inv X pins σ H' s':=by
  obtain ⟨h',g',d',t',o'⟩:=s'
  have e:o'=s.os:=ho
  subst e
  exact I.call (g':=g') (t':=t') (d':=d') u hok hg hch
end
abbrev XK:=Addr→Addr→Hp→Prop
abbrev St:=List (Option V)
abbrev VK:=V→Hp→Prop
abbrev TE:=St→Hp→VK→Prop
abbrev TT:=St→Hp→(Bool→Hp→Prop)→Prop
abbrev TA:=St→Hp→(List V→Hp→Prop)→Prop
structure Ends where
 nx:St→Hp→Prop
 rt:VK
 bk:St→Hp→Prop:=fun _ _=>False
 ct:St→Hp→Prop:=fun _ _=>False
abbrev TS:=Ends→St→Hp→Prop
def EP (X:Cx) (pins:List (Addr × Obj)) (σ:St) (Q:VK) (u:Value) (s':Shared):Prop:=∃ v H',Inv X pins σ H' s'∧RelV v u∧Q v H'
def TP (X:Cx) (pins:List (Addr × Obj)) (σ:St) (Q:Bool→Hp→Prop) (b:Bool) (s':Shared):Prop:=∃ H',Inv X pins σ H' s'∧Q b H'
def AP (X:Cx) (pins:List (Addr × Obj)) (σ:St) (Q:List V→Hp→Prop) (us:List Value) (s':Shared):Prop:=∃ vs H',Inv X pins σ H' s'∧Vals vs us∧Q vs H'
def SP (X:Cx) (pins:List (Addr × Obj)) (D:Ends) (f:Flow) (s':Shared):Prop :=
 match f with
 | .next=>∃ σ' H',Inv X pins σ' H' s'∧D.nx σ' H'
 | .brk=>∃ σ' H',Inv X pins σ' H' s'∧D.bk σ' H'
 | .cont=>∃ σ' H',Inv X pins σ' H' s'∧D.ct σ' H'
 | .ret u=>∃ v σ' H',Inv X pins σ' H' s'∧RelV v u∧D.rt v H'
def PE (X:Cx) (e:Expr) (t:TE):Prop :=
 ∀ (pins:List (Addr × Obj)) (s:Shared) (σ:St) (H:Hp) (Q:VK),Inv X pins σ H s→t σ H Q→wpAny (model X.prog X.w) X.A (eval e X.env) (EP X pins σ Q) X.xe s
def PT (X:Cx) (e:Expr) (t:TT):Prop :=
 ∀ (pins:List (Addr × Obj)) (s:Shared) (σ:St) (H:Hp) (Q:Bool→Hp→Prop),Inv X pins σ H s→t σ H Q→wpAny (model X.prog X.w) X.A (isTrue e X.env (eval e X.env)) (TP X pins σ Q) X.xe s
def PW (X:Cx) (e:Expr) (t:TT):Prop :=
 ∀ (whole:Sem Value) (pins:List (Addr × Obj)) (s:Shared) (σ:St) (H:Hp) (Q:Bool→Hp→Prop),Inv X pins σ H s→t σ H Q→wpAny (model X.prog X.w) X.A (isTrue e X.env whole) (TP X pins σ Q) X.xe s
theorem PW.pt {X:Cx} {e:Expr} {t:TT} (h:PW X e t):PT X e t:=h _
def PA (X:Cx) (es:List Expr) (t:TA):Prop :=
 ∀ (pos:Pos) (pins:List (Addr × Obj)) (s:Shared) (σ:St) (H:Hp) (Q:List V→Hp→Prop),Inv X pins σ H s→t σ H Q→wpAny (model X.prog X.w) X.A (spliced (backTo pos (starEach es X.env))) (AP X pins σ Q) X.xe s
def PS (X:Cx) (st:Stmt) (t:TS):Prop :=
 ∀ (pins:List (Addr × Obj)) (s:Shared) (σ:St) (H:Hp) (D:Ends),Inv X pins σ H s→t D σ H→wpAny (model X.prog X.w) X.A (exec st X.env) (SP X pins D) X.xe s
def PSs (X:Cx) (st:List Stmt) (t:TS):Prop :=
 ∀ (pins:List (Addr × Obj)) (s:Shared) (σ:St) (H:Hp) (D:Ends),Inv X pins σ H s→t D σ H→wpAny (model X.prog X.w) X.A (execs st X.env) (SP X pins D) X.xe s
theorem thn {α:Type} {t:Sem α} {Q Q':α→Shared→Prop} {M:Model} {A:Around} {E:Value→Shared→Prop} {s:Shared} (h:wpAny M A t Q E s) (hQ:∀ a s,Q a s→Q' a s):wpAny M A t Q' E s:=wpAny_mono h hQ fun _ _ x=>x
end L2
namespace L2
open PySem PySem.Spec PyProof.Rows
variable {q0:Bool}
section
variable {X:Cx}
def tVar (i:Nat):TE:=fun σ H Q=>∃ v,σ[i]?=some (some v)∧Q v H
def tC (v:V):TE:=fun _ H Q=>Q v H
theorem xoc {i:Nat} {x:Str} {pos:Pos} (hN:X.N[i]?=some x) (hv:Vis X.env.scope x) (hd:(x == ("__debug__":Str))=false:=by decide) (hcd:(x == ("__classdict__":Str))=false:=by decide):PE X (.Name x pos) (tVar i):=by
 intro pins s σ H Q I h
 obtain ⟨v,e,h⟩:=h
 obtain ⟨m,hn,hl⟩:=I.loc
 obtain ⟨u,r,l⟩:=hl i x v hN e hv
 have fin:EP X pins σ Q u s:=⟨v,H,I,r,h⟩
 rcases l with ⟨hk,hm⟩ | ⟨hk,c,hc,hcell⟩
 ·exact wpAny_Name (wpAny_loadName_local I.ok.kind hk hn hm fin) hd
 ·rcases hk with hk | hk
  ·exact wpAny_Name (wpAny_loadName_cell I.ok.kind hk hc hcell fin) hd
  ·exact wpAny_Name (wpAny_loadName_free I.ok.kind hk hc hcell fin hcd) hd
theorem xk {i j pos}:PE X (.Constant (.int i) j pos) (tC (.int i)):=fun _ _ _ H _ I h=>wpAny_Constant_int ⟨.int i,H,I.tok _,⟨_,rfl⟩,h⟩
theorem xi6 {b j pos}:PE X (.Constant (.bool b) j pos) (tC (.bl b)):=fun _ _ _ H _ I h=>Constant_bool ⟨.bl b,H,I,rfl,h⟩
theorem xj3 {j pos}:PE X (.Constant .none j pos) (tC .non):=fun _ _ _ H _ I h=>Constant_none ⟨.non,H,I,rfl,h⟩
theorem xaq {x j pos}:PE X (.Constant (.str x) j pos) (tC (.str x)):=fun _ _ _ H _ I h=>Calls.Constant_str ⟨.str x,H,I.tok _,⟨_,rfl⟩,h⟩
def Gl (X:Cx) (x:Str):Prop:=X.env.kindOf x=some .globalImplicit
theorem xej {E:Value→Shared→Prop} {pins:List (Addr × Obj)} {s:Shared} {σ:St} {H:Hp} {x:Str} {u:Value} {pos:Pos} {Q:Value→Shared→Prop} (I:Inv X pins σ H s) (hg:Gl X x) (hm:X.mg x=some u) (h:Q u s)
    (hd:(x == ("__debug__":Str))=false:=by decide):wpAny (model X.prog X.w) X.A (eval (.Name x pos) X.env) Q E s :=
  Calls.Name_function_global I.ok.kind hg (Calls.loadGlobal_global (by rw [I.ok.glob]; exact I.mod.glob.keeps I.bk) hm h) hd
theorem xdo {E:Value→Shared→Prop} {pins:List (Addr × Obj)} {s:Shared} {σ:St} {H:Hp} {x:Str} {u:Value} {pos:Pos} {Q:Value→Shared→Prop} (I:Inv X pins σ H s) (hg:Gl X x) (hm:X.mg x=none) (hv:bootBuiltins x=some u) (h:Q u s)
    (hn:x≠"__name__":=by decide) (hd:(x == ("__debug__":Str))=false:=by decide):wpAny (model X.prog X.w) X.A (eval (.Name x pos) X.env) Q E s:=by
  obtain ⟨mb,h1,h2⟩:=I.mod.blt
  exact Calls.Name_function_global I.ok.kind hg (Calls.loadGlobal_builtin (by rw [I.ok.glob]; exact I.mod.glob.keeps I.bk) hm (by rw [I.ok.blt]; exact h1.keeps I.bk) ((h2 x hn).trans hv) h) hd
theorem xel {x:Str} {v:V} {u:Value} {pos:Pos} (hg:Gl X x) (hm:X.mg x=some u) (r:RelV v u) (hd:(x == ("__debug__":Str))=false:=by decide):PE X (.Name x pos) (tC v) :=
 fun _ _ _ H _ I h=>xej I hg hm ⟨v,H,I,r,h⟩ hd
theorem xdr {x:Str} {v:V} {u:Value} {pos:Pos} (hg:Gl X x) (hm:X.mg x=none) (hv:bootBuiltins x=some u) (r:RelV v u) (hn:x≠"__name__":=by decide) (hd:(x == ("__debug__":Str))=false:=by decide):PE X (.Name x pos) (tC v) :=
 fun _ _ _ H _ I h=>xdo I hg hm hv ⟨v,H,I,r,h⟩ hn hd
variable {a b:Expr} {ta tb:TE} {pos:Pos}
def PC (X:Cx) (op:CmpOp) (a b:Expr) (t:TE):Prop :=
 ∀ (pins:List (Addr × Obj)) (s:Shared) (σ:St) (H:Hp) (Q:VK),Inv X pins σ H s→t σ H Q →
  wpAny (model X.prog X.w) X.A (eval a X.env) (fun v s₁=>wpAny (model X.prog X.w) X.A (eval b X.env) (fun u s₂=>wpAny (model X.prog X.w) X.A (compareOp op v u) (EP X pins σ Q) X.xe s₂) X.xe s₁) X.xe s
theorem xhn (b:Expr) {op:CmpOp} (h:op≠.In) (h2:op≠.NotIn):behindInMarks op b=false:=by
 have e1:(op == CmpOp.In)=false:=by cases op <;> first | rfl | exact absurd rfl h
 have e2:(op == CmpOp.NotIn)=false:=by cases op <;> first | rfl | exact absurd rfl h2
 cases b <;> simp [behindInMarks,e1,e2]
def tB (t:TE):TT:=fun σ H Q=>t σ H fun x H1=>∃ c,x=.bl c∧Q c H1
theorem xn4 {op:CmpOp} {t:TE} (h:PC X op a b t) (h1:behindInMarks op b=false:=by first | exact xhn _ (by decide) (by decide) | rfl):PE X (.Compare a [op] [b] pos) t:=fun pins s σ H Q I hw=>wpAny_Compare1 (h pins s σ H Q I hw) h1
theorem xdd {op:CmpOp} {t:TE} (h:PC X op a b t) (h1:behindInMarks op b=false:=by first | exact xhn _ (by decide) (by decide) | rfl):PT X (.Compare a [op] [b] pos) (tB t):=by
 intro pins s σ H Q I hw
 refine wpAny_isTrue_Compare1 (thn (h pins s σ H _ I hw) fun v s1 h1=>thn h1 fun u s2 h2=>thn h2 fun c s3 ⟨x,H1,I1,r1,q1⟩=>?_) h1
 obtain ⟨d,rfl,q⟩:=q1
 cases r1
 exact wpAny_truthy_bool ⟨H1,I1,q⟩
theorem xbe {e:Expr} {t:TE} (h:PE X e t) (he:∀ whole,isTrue e X.env whole=(do let v ← whole; standAt e.pos; holding [v] (truthy v)):=by intro _; rfl):PT X e (tB t):=by
 intro pins s σ H Q I hw
 refine isTrue_plain (thn (h pins s σ H _ I hw) fun v s1 ⟨x,H1,I1,r1,q1⟩=>?_) (he _)
 obtain ⟨d,rfl,q⟩:=q1
 cases r1
 exact wpAny_truthy_bool ⟨H1,I1,q⟩
variable {tA tB':TT} {rest:List Expr}
def tAnd (t u:TT):TT:=fun σ H Q=>t σ H fun c H1=>if c=true then u σ H1 Q else Q false H1
def tOr (t u:TT):TT:=fun σ H Q=>t σ H fun c H1=>if c=true then Q true H1 else u σ H1 Q
def tNot (t:TT):TT:=fun σ H Q=>t σ H fun c H1=>Q (!c) H1
theorem xc3 (ha:PT X a tA):PW X (.BoolOp .And [a] pos) tA:=by
 intro wh pins s σ H Q I h
 refine isTrue_and (thn (ha pins s σ H Q I h) fun c s1 e=>?_)
 cases c with
 | true=>exact isTrue_and_nil e
 | false=>exact e
theorem xb6 (ha:PT X a tA):PW X (.BoolOp .Or [a] pos) tA:=by
 intro wh pins s σ H Q I h
 refine isTrue_or (thn (ha pins s σ H Q I h) fun c s1 e=>?_)
 cases c with
 | false=>exact isTrue_or_nil e
 | true=>exact e
theorem xc8 (ha:PT X a tA) (hb:PW X (.BoolOp .And (b :: rest) pos) tB'):PW X (.BoolOp .And (a :: b :: rest) pos) (tAnd tA tB'):=by
 intro wh pins s σ H Q I h
 refine isTrue_and (thn (ha pins s σ H _ I h) fun c s1 ⟨H1,I1,q1⟩=>?_)
 cases c with
 | true=>exact hb wh pins s1 σ H1 Q I1 q1
 | false=>exact ⟨H1,I1,q1⟩
theorem xcl (ha:PT X a tA) (hb:PW X (.BoolOp .Or (b :: rest) pos) tB'):PW X (.BoolOp .Or (a :: b :: rest) pos) (tOr tA tB'):=by
 intro wh pins s σ H Q I h
 refine isTrue_or (thn (ha pins s σ H _ I h) fun c s1 ⟨H1,I1,q1⟩=>?_)
 cases c with
 | true=>exact ⟨H1,I1,q1⟩
 | false=>exact hb wh pins s1 σ H1 Q I1 q1
theorem xbu (ha:PT X a tA):PT X (.UnaryOp .Not a pos) (tNot tA):=by
 intro pins s σ H Q I h
 exact isTrue_not (ha pins s σ H (fun c H1=>Q (!c) H1) I h)
def xps (ta tb:TE):TE:=fun σ H Q=>ta σ H fun x H1=>∃ c,x=.bl c∧if c=true then tb σ H1 Q else Q (.bl false) H1
def xpi (ta:TE):TE:=fun σ H Q=>ta σ H fun x H1=>∃ c,x=.bl c∧Q (.bl (!c)) H1
theorem xd4 {op} {t:TE} (h:PE X a t):PE X (.BoolOp op [a] pos) t:=fun pins s σ H Q I hw=>BoolOp_one (h pins s σ H Q I hw)
theorem xcs (ha:PE X a ta) (hb:PE X (.BoolOp .And (b :: rest) pos) tb):PE X (.BoolOp .And (a :: b :: rest) pos) (xps ta tb):=by
 intro pins s σ H Q I h
 refine BoolOp_and (thn (ha pins s σ H _ I h) fun v s1 ⟨x,H1,I1,r1,q1⟩=>?_)
 obtain ⟨c,rfl,q1⟩:=q1
 cases r1
 refine wpAny_truthy_bool ?_
 cases c with
 | true=>exact hb pins s1 σ H1 Q I1 q1
 | false=>exact ⟨.bl false,H1,I1,rfl,q1⟩
theorem xoo (ha:PE X a ta):PE X (.UnaryOp .Not a pos) (xpi ta):=by
 intro pins s σ H Q I h
 refine UnaryOp_ (thn (ha pins s σ H _ I h) fun v s1 ⟨x,H1,I1,r1,q1⟩=>?_)
 obtain ⟨c,rfl,q1⟩:=q1
 cases r1
 exact not_of (wpAny_truthy_bool ⟨.bl (!c),H1,I1,rfl,q1⟩)
def tIf (t:TT) (ta tb:TE):TE:=fun σ H Q=>t σ H fun c H1=>if c=true then ta σ H1 Q else tb σ H1 Q
theorem xle {c:Expr} (hc:PT X c tA) (ha:PE X a ta) (hb:PE X b tb):PE X (.IfExp c a b pos) (tIf tA ta tb):=by
 intro pins s σ H Q I h
 refine wpAny_IfExp (thn (hc pins s σ H _ I h) fun d s1 ⟨H1,I1,q1⟩=>?_)
 cases d with
 | true=>exact ha pins s1 σ H1 Q I1 q1
 | false=>exact hb pins s1 σ H1 Q I1 q1
end
end L2
namespace L2
open PySem PySem.Spec PyProof.Rows
variable {q0:Bool}
def SqL (K:PySem.W.Frag) (H:Hp) (a:Addr) (xs:List V):Prop :=
 Rd H a (.lst xs) ∨
  ∃ (o:Obj) (its:Array Value) (n:Nat),K.lookup a=some o∧o.cls=.type "list"∧o.dict=none∧o.data=.seq its n∧its.size≤sizeLine∧Vals xs its.toList
def SqT (K:PySem.W.Frag) (H:Hp) (a:Addr) (xs:List V):Prop :=
 Rd H a (.tup xs) ∨
  ∃ (o:Obj) (its:Array Value) (n:Nat),K.lookup a=some o∧o.cls=.type "tuple"∧o.data=.seq its n∧its.size≤sizeLine∧Vals xs its.toList
def absV:Value→Option V
 | .none=>some .non
 | .bool b=>some (.bl b)
 | .int i _=>some (.int i)
 | .str x _=>some (.str x)
 | .bytes b _=>some (.byt b)
 | .float b _=>some (.flt b)
 | .ref a=>some (.ref a)
 | .type n=>some (.ty n)
 | _=>none
theorem RelV.abs {x:V} {u:Value} (r:RelV x u):absV u=some x:=by
 cases x with
 | non=>cases r; rfl
 | bl _=>cases r; rfl
 | int _=>obtain ⟨t,rfl⟩:=r; rfl
 | str _=>obtain ⟨t,rfl⟩:=r; rfl
 | byt _=>obtain ⟨t,rfl⟩:=r; rfl
 | flt _=>obtain ⟨t,rfl⟩:=r; rfl
 | ref _=>cases r; rfl
 | ty _=>cases r; rfl
theorem RelV.inj {x y:V} {u:Value} (r:RelV x u) (q:RelV y u):x=y:=Option.some.inj (r.abs.symm.trans q.abs)
theorem Vals.inj:∀ {xs ys:List V} {us:List Value},Vals xs us→Vals ys us→xs=ys
 | _,_,_,.nil,.nil=>rfl
 | _,_,_,.cons r t,.cons r' t'=>by rw [r.inj r',Vals.inj t t']
section
variable {X:Cx} {pins:List (Addr × Obj)} {σ:St} {H:Hp} {s:Shared} {a:Addr} {xs ys:List V}
theorem SqL.of {K:PySem.W.Frag} (h:H a=some (.lst xs)):SqL K H a xs:=.inl (.inl h)
theorem SqT.of {K:PySem.W.Frag} (h:H a=some (.tup xs)):SqT K H a xs:=.inl (.inl h)
theorem Inv.list (I:Inv X pins σ H s) (h:SqL X.K H a xs):∃ its:List Value,Vals xs its∧PlainL s.heap a its.toArray∧xs.length≤sizeLine:=by
 rcases h with h | ⟨o,its,n,hk,hc,hd,hs,hz,r⟩
 ·obtain ⟨z,its,n,r,e⟩:=h.ok I.hok
  exact ⟨its,r,⟨_,n,e,rfl,rfl,rfl⟩,z⟩
 ·refine ⟨its.toList,r,⟨o,n,I.kIn a o hk,hc,hd,by simpa using hs⟩,?_⟩
  have e:=r.length
  simp only [Array.length_toList] at e
  omega
theorem Inv.tuple (I:Inv X pins σ H s) (h:SqT X.K H a xs):∃ its:List Value,Vals xs its∧IsTup s.heap a its.toArray∧xs.length≤sizeLine:=by
 rcases h with h | ⟨o,its,n,hk,hc,hs,hz,r⟩
 ·obtain ⟨z,its,r,p⟩:=h.ok I.hok
  exact ⟨its,r,p,z⟩
 ·refine ⟨its.toList,r,⟨o,I.kIn a o hk,hc,n,by simpa using hs⟩,?_⟩
  have e:=r.length
  simp only [Array.length_toList] at e
  omega
theorem Inv.list_inj (I:Inv X pins σ H s) (h:SqL X.K H a xs) (h':SqL X.K H a ys):xs=ys:=by
 obtain ⟨its,r,⟨o,n,e,_,_,d⟩,_⟩:=I.list h
 obtain ⟨its',r',⟨o',n',e',_,_,d'⟩,_⟩:=I.list h'
 rw [e] at e'; cases e'
 rw [d] at d'
 injection d' with d1 _
 have:its=its':=by simpa using congrArg Array.toList d1
 subst this
 exact r.inj r'
theorem Inv.tuple_inj (I:Inv X pins σ H s) (h:SqT X.K H a xs) (h':SqT X.K H a ys):xs=ys:=by
 obtain ⟨its,r,⟨o,e,_,n,d⟩,_⟩:=I.tuple h
 obtain ⟨its',r',⟨o',e',_,n',d'⟩,_⟩:=I.tuple h'
 rw [e] at e'; cases e'
 rw [d] at d'
 injection d' with d1 _
 have:its=its':=by simpa using congrArg Array.toList d1
 subst this
 exact r.inj r'
end
abbrev Cx.wish (X:Cx) (E:Value→Shared→Prop):Cx:={ X with xe:=E }
abbrev Cx.nox (X:Cx):Cx:=X.wish fun _ _=>False
theorem Cx.Ok.wish {X:Cx} (ok:X.Ok) (E:Value→Shared→Prop):(X.wish E).Ok :=
 ⟨ok.mod,ok.kind,ok.glob,ok.blt,ok.above,ok.inj,ok.has,ok.cab,ok.hd,ok.frames,ok.stk,ok.exf,ok.bs,ok.bsz,ok.noex,ok.exfs,ok.funs,ok.frf⟩
theorem Cx.Ok.unwish {X:Cx} {E:Value→Shared→Prop} (ok:(X.wish E).Ok):X.Ok :=
 ⟨ok.mod,ok.kind,ok.glob,ok.blt,ok.above,ok.inj,ok.has,ok.cab,ok.hd,ok.frames,ok.stk,ok.exf,ok.bs,ok.bsz,ok.noex,ok.exfs,ok.funs,ok.frf⟩
section
variable {X:Cx} {pins:List (Addr × Obj)} {σ:St} {H:Hp} {s:Shared} {E:Value→Shared→Prop}
theorem Inv.wish (I:Inv X pins σ H s) (E:Value→Shared→Prop):Inv (X.wish E) pins σ H s:=⟨I.ok.wish E,I.os,I.bare,I.base,I.loc,I.cell,I.free,I.freeC,I.pin,I.hok,I.len⟩
theorem Inv.unwish (I:Inv (X.wish E) pins σ H s):Inv X pins σ H s:=⟨I.ok.unwish,I.os,I.bare,I.base,I.loc,I.cell,I.free,I.freeC,I.pin,I.hok,I.len⟩
theorem SP.unwish {D:Ends} {f:Flow} {s':Shared} (h:SP (X.wish E) pins D f s'):SP X pins D f s':=by
 cases f with
 | next=>obtain ⟨σ',H',I,q⟩:=h; exact ⟨σ',H',I.unwish,q⟩
 | brk=>obtain ⟨σ',H',I,q⟩:=h; exact ⟨σ',H',I.unwish,q⟩
 | cont=>obtain ⟨σ',H',I,q⟩:=h; exact ⟨σ',H',I.unwish,q⟩
 | ret u=>obtain ⟨v,σ',H',I,r,q⟩:=h; exact ⟨v,σ',H',I.unwish,r,q⟩
theorem PSs.nox {st:List Stmt} {t:TS} (h:PSs X.nox st t):PSs X st t:=fun pins s σ H D I hw =>
 wpAny_mono (h pins s σ H D (I.wish _) hw) (fun _ _ q=>q.unwish) fun _ _ z=>False.elim z
end
section
variable {X:Cx} {st:Stmt} {rest:List Stmt} {t u:TS} {e:Expr} {te:TE} {pos:Pos}
def xpp:TS:=fun D σ H=>D.nx σ H
def tSeq (t u:TS):TS:=fun D σ H=>t { D with nx:=u D } σ H
theorem x9:PSs X [] xpp:=fun _ _ σ H _ I h=>wpAny_execs_nil ⟨σ,H,I,h⟩
theorem xb (h1:PS X st t) (h2:PSs X rest u):PSs X (st :: rest) (tSeq t u):=by
 intro pins s σ H D I h
 refine wpAny_execs_cons (thn (h1 pins s σ H { D with nx:=u D } I h) fun f s1 q=>?_)
 cases f with
 | next =>
  obtain ⟨σ',H',I',q⟩:=q
  exact h2 pins s1 σ' H' D I' q
 | ret v=>exact q
 | brk=>exact q
 | cont=>exact q
theorem xn (h1:PS X st t):PSs X [st] t:=by
 intro pins s σ H D I h
 refine wpAny_execs_cons (thn (h1 pins s σ H D I h) fun f s1 q=>?_)
 cases f with
 | next=>exact wpAny_execs_nil q
 | ret v=>exact q
 | brk=>exact q
 | cont=>exact q
theorem Inv.quiet {pins:List (Addr × Obj)} {σ:St} {H:Hp} {s:Shared} (I:Inv X pins σ H s):interactive X.env=false:=by simp [interactive,I.ok.kind]
def xo4 (te:TE):TS:=fun D σ H=>te σ H fun _ H1=>D.nx σ H1
theorem xaf (he:PE X e te) (hs:swapsWith e none pos.line X.env=pure false:=by rfl):PS X (.Expr e pos) (xo4 te):=by
 intro pins s σ H D I h
 exact wpAny_Expr_any (thn (he pins s σ H _ I h) fun v s1 ⟨x,H1,I1,r1,q1⟩=>⟨σ,H1,I1,q1⟩) I.quiet hs
def tRet (te:TE):TS:=fun D σ H=>te σ H D.rt
theorem xaa (he:PE X e te):PS X (.Return (some e) pos) (tRet te):=by
 intro pins s σ H D I h
 exact wpAny_Return_some (thn (he pins s σ H _ I h) fun v s1 ⟨x,H1,I1,r1,q1⟩=>⟨x,σ,H1,I1,r1,q1⟩)
def tIfS (c:TT) (t u:TS):TS:=fun D σ H=>c σ H fun b H1=>if b=true then t D σ H1 else u D σ H1
theorem xag {c:Expr} {a b:List Stmt} {tc:TT} (hc:PT X c tc) (ha:PSs X a t) (hb:PSs X b u):PS X (.If c a b pos) (tIfS tc t u):=by
 intro pins s σ H D I h
 refine wpAny_If (thn (hc pins s σ H _ I h) fun d s1 ⟨H1,I1,q1⟩=>?_)
 cases d with
 | true=>exact ha pins s1 σ H1 D I1 q1
 | false=>exact hb pins s1 σ H1 D I1 q1
def xnp:TS:=fun _ _ _=>False
theorem xba:PS X st xnp:=fun _ _ _ _ _ _ h=>h.elim
end
abbrev TG:=V→St→Hp→(St→Hp→Prop)→Prop
abbrev TGs:=List V→St→Hp→(St→Hp→Prop)→Prop
def PG (X:Cx) (target:Expr) (t:TG):Prop :=
 ∀ (pins:List (Addr × Obj)) (s:Shared) (σ:St) (H:Hp) (v:V) (u:Value) (Q:St→Hp→Prop),Inv X pins σ H s→RelV v u→t v σ H Q →
  wpAny (model X.prog X.w) X.A (assign target X.env u) (fun _ s'=>∃ σ' H',Inv X pins σ' H' s'∧Q σ' H') X.xe s
def PGs (X:Cx) (ts:List Expr) (t:TGs):Prop :=
 ∀ (pins:List (Addr × Obj)) (s:Shared) (σ:St) (H:Hp) (vs:List V) (us:List Value) (Q:St→Hp→Prop),Inv X pins σ H s→Vals vs us→t vs σ H Q →
  wpAny (model X.prog X.w) X.A (assignInOrder ((assignEach ts X.env).map (·.2)) us) (fun _ s'=>∃ σ' H',Inv X pins σ' H' s'∧Q σ' H') X.xe s
abbrev TIp:=V→V→Hp→VK→Prop
def PIp (X:Cx) (op:Operator) (t:TIp):Prop :=
 ∀ (pins:List (Addr × Obj)) (s:Shared) (σ:St) (H:Hp) (x y:V) (v u:Value) (Q:VK),Inv X pins σ H s→RelV x v→RelV y u→t x y H Q →
  wpAny (model X.prog X.w) X.A (inplaceOp op v u) (EP X pins σ Q) X.xe s
section
variable {X:Cx} {pos:Pos}
def xen (i:Nat):TG:=fun v σ H Q=>Q (σ.set i (some v)) H
theorem xr {i:Nat} {x:Str} (hN:X.N.Nodup) (hi:X.N[i]?=some x) (hx:Loc X.env.scope x) (hf:X.fn x=true∨X.env.scope.names.lookup x=some .local:=by first | exact .inl rfl | exact .inr rfl | assumption):PG X (.Name x pos) (xen i):=by
 intro pins s σ H v u Q I r h
 exact wpAny_assign_Name (xfa I hN hi hx r (fun s' I'=>⟨_,H,I',h⟩) hf)
def gNil:TGs:=fun vs σ H Q=>vs=[]∧Q σ H
def xi0 (t:TG) (u:TGs):TGs:=fun vs σ H Q=>∃ v r,vs=v :: r∧t v σ H fun σ' H'=>u r σ' H' Q
theorem xbq:PGs X [] gNil:=by
 intro pins s σ H vs us Q I r h
 obtain ⟨e,h⟩:=h
 subst e
 cases r
 exact assignInOrder_nil ⟨σ,H,I,h⟩
theorem xad {e:Expr} {es:List Expr} {t:TG} {u:TGs} (h1:PG X e t) (h2:PGs X es u)
    (hs:(assignEach (e :: es) X.env).map (·.2)=assign e X.env :: (assignEach es X.env).map (·.2):=by rfl):PGs X (e :: es) (xi0 t u):=by
  intro pins s σ H vs us Q I r h
  obtain ⟨v,vr,e1,h⟩:=h
  subst e1
  cases r with
  | cons r rr =>
    rw [hs]
    refine assignInOrder_cons (thn (h1 pins s σ H _ _ _ I r h) fun _ s1 ⟨σ1,H1,I1,q1⟩=>?_)
    exact h2 pins s1 σ1 H1 _ _ Q I1 rr q1
def gTup (K:PySem.W.Frag) (n:Nat) (t:TGs):TG:=fun v σ H Q=>∃ a xs,v=.ref a∧SqT K H a xs∧xs.length=n∧t xs σ H Q
theorem xby {es:List Expr} {k:Nat} {t:TGs} {n:Nat} (hc:X.calm=true) (h:PGs X es t)
    (hn:(assignEach es X.env).length=n:=by rfl) (hst:(assignEach es X.env).findIdx? (·.1)=none:=by rfl):PG X (.Tuple es k pos) (gTup X.K n t):=by
  intro pins s σ H v u Q I r hw
  obtain ⟨a,xs,e1,hq,hl,hw⟩:=hw
  subst e1
  cases r
  obtain ⟨its,rv,ht,hz⟩:=I.tuple hq
  refine assign_Tuple_tuple (I.ok.hd hc) ht (by simp [hn,← hl,rv.length]) hst fun h' hx=>?_
  have I1:Inv X pins σ H { s with heap:=h' }:=I.kept (t':=s.toks) fun b o e=>hx b o (Nat.ne_of_lt (Heap.lt_size e)) e
  exact h pins _ σ H xs _ Q I1 (by simpa using rv) hw
def tAsg (te:TE) (g:TG):TS:=fun D σ H=>te σ H fun x H1=>g x σ H1 D.nx
theorem xfi {tg e:Expr} {te:TE} {g:TG} (he:PE X e te) (hg:PG X tg g) (hs:swapsWithSole [tg] e pos.line X.env=pure false:=by rfl) (hw:swappedStores [tg] e X.env=pure none:=by rfl)
    (h1:(assignEach [tg] X.env).map (·.2)=[assign tg X.env]:=by rfl):PS X (.Assign [tg] e pos) (tAsg te g):=by
  intro pins s σ H D I h
  refine wpAny_Assign_stores (thn (he pins s σ H _ I h) fun v s1 ⟨x,H1,I1,r1,q1⟩=>?_) hs hw
  rw [h1]
  exact thn (hg pins s1 σ H1 x v _ I1 r1 q1) fun _ s2 q=>q
theorem xt {i:Nat} {x:Str} {e:Expr} {te:TE} {pos':Pos} (hN:X.N.Nodup) (hi:X.N[i]?=some x) (hx:Loc X.env.scope x) (he:PE X e te) (hs:swapsWith e (some (.Name x pos')) pos.line X.env=pure false:=by rfl) (hf:X.fn x=true∨X.env.scope.names.lookup x=some .local:=by first | exact .inl rfl | exact .inr rfl | assumption) :
    PS X (.Assign [.Name x pos'] e pos) (tAsg te (xen i)):=by
  intro pins s σ H D I h
  refine wpAny_Assign_Name (thn (he pins s σ H _ I h) fun v s1 ⟨y,H1,I1,r1,q1⟩=>?_) hs
  exact xfa I1 hN hi hx r1 (fun s2 I2=>⟨_,H1,I2,q1⟩) hf
def tAug (i:Nat) (te:TE) (ti:TIp):TS:=fun D σ H=>∃ x,σ[i]?=some (some x)∧te σ H fun y H1=>ti x y H1 fun z H2=>D.nx (σ.set i (some z)) H2
theorem xoe {i:Nat} {x:Str} {e:Expr} {te:TE} {op:Operator} {ti:TIp} {pos':Pos} (hN:X.N.Nodup) (hi:X.N[i]?=some x) (hx:Loc X.env.scope x) (he:PE X e te) (ho:PIp X op ti) (hf:X.fn x=true∨X.env.scope.names.lookup x=some .local:=by first | exact .inl rfl | exact .inr rfl | assumption) :
    PS X (.AugAssign (.Name x pos') op e pos) (tAug i te ti):=by
  intro pins s σ H D I h
  obtain ⟨v,e1,h⟩:=h
  obtain ⟨m,hn,hl⟩:=I.loc
  have vis:Vis X.env.scope x:=by rcases hx with k | k; exact .inl k; exact .inr (.inl k)
  obtain ⟨u,r,l⟩:=hl i x v hi e1 vis
  refine wpAny_AugAssign_Name ?_
  have go:wpAny (model X.prog X.w) X.A (eval e X.env) (fun w s₂=>wpAny (model X.prog X.w) X.A (inplaceOp op u w) (fun r s₃=>wpAny (model X.prog X.w) X.A (storeName X.env x r) (fun _=>SP X pins D .next) X.xe s₃) X.xe s₂) X.xe s:=by
    refine thn (he pins s σ H _ I h) fun w s1 ⟨y,H1,I1,r1,q1⟩=>?_
    refine thn (ho pins s1 σ H1 v y u w _ I1 r r1 q1) fun z s2 ⟨zv,H2,I2,r2,q2⟩=>?_
    exact xfa I2 hN hi hx r2 (fun s3 I3=>⟨_,H2,I3,q2⟩) hf
  rcases l with ⟨hk,hm⟩ | ⟨hk,c,hc,hcell⟩
  · exact wpAny_loadName_local I.ok.kind hk hn hm go
  · rcases hk with hk | hk
    · exact wpAny_loadName_cell I.ok.kind hk hc hcell go
    · rcases hx with k | k
      · have:X.env.scope.names.lookup x=some .free:=hk
        rw [k] at this; cases this
      · have:X.env.scope.names.lookup x=some .free:=hk
        rw [k] at this; cases this
end
section
variable {X:Cx} {pos:Pos}
def xoj (c:TT) (tb:TS):TS:=fun D σ H=>∃ W:Nat→St→Hp→Prop,(∃ m,W m σ H)∧∀ m σ H,W m σ H →
 c σ H fun b H1=>if b=true then ∃ N:St→Hp→Prop,(∀ σ' H',N σ' H'→∃ m',m' < m∧W m' σ' H')∧tb { D with nx:=N,ct:=N,bk:=D.nx } σ H1 else D.nx σ H1
theorem xhm {c:Expr} {body:List Stmt} {tc:TT} {tb:TS} (hp:PassesOwn (model X.prog X.w) X.A X.env X.xe) (hc:PT X c tc) (hb:PSs X body tb):PS X (.While c body [] pos) (xoj tc tb):=by
 intro pins s σ H D I h
 obtain ⟨W,⟨m0,w0⟩,turn⟩:=h
 refine wpAny_While (codeAny_whileLoop (fun n s'=>∃ σ' H',Inv X pins σ' H' s'∧W n σ' H') ?_ m0 ⟨σ,H,I,w0⟩)
 rintro n s1 ⟨σ1,H1,I1,w1⟩
 refine wpAny_passesOwn hp (thn (hc pins s1 σ1 H1 _ I1 (turn n σ1 H1 w1)) fun b s2 ⟨H2,I2,q2⟩=>?_)
 cases b with
 | true =>
  obtain ⟨N,hN,q2⟩:=q2
  rw [if_pos rfl]
  refine wpAny_passesOwn hp (thn (hb pins s2 σ1 H2 _ I2 q2) fun f s3 q3=>?_)
  cases f with
  | next =>
   obtain ⟨σ3,H3,I3,n3⟩:=q3
   obtain ⟨m',hm,w3⟩:=hN σ3 H3 n3
   exact ⟨m',hm,σ3,H3,I3,w3⟩
  | cont =>
   obtain ⟨σ3,H3,I3,n3⟩:=q3
   obtain ⟨m',hm,w3⟩:=hN σ3 H3 n3
   exact ⟨m',hm,σ3,H3,I3,w3⟩
  | brk=>exact q3
  | ret v=>exact q3
 | false =>
  rw [if_neg Bool.false_ne_true]
  exact wpAny_execs_nil ⟨σ1,H2,I2,q2⟩
end
structure It where
 go:Nat→Hp→Prop
 yld:Nat→Hp→V→Hp→Prop
 stop:Nat→Hp→Prop
def FpOk (X:Cx) (pins:List (Addr × Obj)) (H:Hp) (b:Addr):Prop :=
 H b=none∧b≠X.env.locals∧b ∉ X.fs∧(b ∈ X.ex∨X.s₀.heap.objs.size≤b)∧(∀ x c,X.env.cells.lookup x=some c→c≠b)∧∀ p ∈ X.pn ++ pins,p.1≠b
theorem Inv.fpOk {X:Cx} {pins:List (Addr × Obj)} {σ:St} {H H':Hp} {s:Shared} {b:Addr} (I:Inv X pins σ H s) (hb:s.heap.objs.size≤b) (hn:H' b=none):FpOk X pins H' b:=by
 refine ⟨hn,Nat.ne_of_gt (Nat.lt_of_lt_of_le I.lt hb),I.nofs hb,.inr (Nat.le_trans I.sz hb),fun x c e z=>?_,fun p hp z=>?_⟩
 ·obtain ⟨v,q⟩:=I.cell x c e
  exact absurd (Nat.lt_of_lt_of_le q.lt (by rw [z]; exact hb)) (Nat.lt_irrefl _)
 ·exact absurd (Nat.lt_of_lt_of_le (Heap.lt_size (I.pin p hp).1) (by rw [z]; exact hb)) (Nat.lt_irrefl _)
structure Turn (P:Program) (w:World) (K:PySem.W.Frag) (tg:Expr) (J:It) (fp:List Addr) (it:Addr) (tn:Nat→Heap→Prop):Prop where
 mem:it ∈ fp
 obj:∀ i h,tn i h→∀ b ∈ fp,∃ o,h.get? b=some o∧∀ v,o.data≠.cell v
 keep:∀ i h h',tn i h→(∀ b ∈ fp,∀ o,h.get? b=some o→h'.get? b=some o)→tn i h'
 item:∀ (X:Cx),X.prog=P→X.w=w→X.K=K→X.calm=true→∀ (i:Nat) (pins:List (Addr × Obj)) (s:Shared) (σ:St) (H:Hp) (E:Value→Shared→Prop),Inv X pins σ H s→(∀ b ∈ fp,FpOk X pins H b)→tn i s.heap→J.go i H →
  wpAny (model P w) X.A (pyNext (.ref it)) (fun r s1=>∃ u,r=some u ∧
   wpAny (model P w) X.A (letOwnedTupleGo tg (.ref it) u) (fun _ s2=>∃ x H',Inv X pins σ H' s2∧RelV x u∧J.yld i H x H'∧tn (i + 1) s2.heap∧∀ b ∈ fp,H' b=none) E s1) E s
 done:∀ (X:Cx),X.prog=P→X.w=w→X.K=K→X.calm=true→∀ (i:Nat) (pins:List (Addr × Obj)) (s:Shared) (σ:St) (H:Hp) (E:Value→Shared→Prop),Inv X pins σ H s→(∀ b ∈ fp,FpOk X pins H b)→tn i s.heap→J.stop i H →
  wpAny (model P w) X.A (pyNext (.ref it)) (fun r s1=>r=none∧Inv X pins σ H s1) E s
 self:∀ (A:Around) (i:Nat) (s:Shared) (Q:Value→Shared→Prop) (E:Value→Shared→Prop),tn i s.heap→Q (.ref it) s→wpAny (model P w) A (pyIter (.ref it)) Q E s
abbrev TI:=St→Hp→(It→Hp→Prop)→Prop
def PIE (X:Cx) (pins:List (Addr × Obj)) (σ:St) (tg:Expr) (R:It→Hp→Prop) (itv:Value) (s2:Shared):Prop :=
 ∃ (it:Addr) (fp:List Addr) (tn:Nat→Heap→Prop) (J:It) (H':Hp),itv=.ref it∧Inv X pins σ H' s2∧Turn X.prog X.w X.K tg J fp it tn∧tn 0 s2.heap∧(∀ b ∈ fp,FpOk X pins H' b)∧R J H'
def PI (X:Cx) (tg iter:Expr) (wi:TI):Prop :=
 ∀ (pins:List (Addr × Obj)) (s:Shared) (σ:St) (H:Hp) (R:It→Hp→Prop),Inv X pins σ H s→wi σ H R →
  wpAny (model X.prog X.w) X.A (eval iter X.env) (fun v s1=>wpAny (model X.prog X.w) X.A (pyIter v) (PIE X pins σ tg R) X.xe s1) X.xe s
theorem xgq {M:Model} {A:Around} {E:Value→Shared→Prop} {s:Shared} {tg:Expr} {it:Addr} {u:Value} {o:Obj} {n:String} {vs:Array Value} {Q:Unit→Shared→Prop} (ho:s.heap.get? it=some o) (hc:o.cls=.type n) (hd:o.data=.fields vs)
    (hn:["enumerate", "zip", "dict_itemiterator", "dict_reverseitemiterator", "odict_iterator", "itertools.zip_longest", "itertools.pairwise"].contains n=false) (hQ:Q () s):wpAny M A (letOwnedTupleGo tg (.ref it) u) Q E s:=by
  unfold letOwnedTupleGo
  cases tg <;> first
    | exact wpAny_pure hQ
    | (cases u <;> first
        | exact wpAny_pure hQ
        | (refine wpAny_bind (wpAny_load ho ?_)
           rw [hc,hd]
           show wpAny M A (if (["enumerate", "zip", "dict_itemiterator", "dict_reverseitemiterator", "odict_iterator", "itertools.zip_longest", "itertools.pairwise"].contains n && vs[0]? == some (rawInt _))=true then _ else _) Q E s
           rw [if_neg (by intro h; rw [hn,Bool.false_and] at h; cases h)]
           exact wpAny_pure hQ))
def Itl (K:PySem.W.Frag) (a:Addr):It :=
 ⟨fun i H=>∃ xs x,SqL K H a xs∧xs[i]?=some x,fun i H x H'=>H'=H∧∀ xs,SqL K H a xs→xs[i]?=some x,fun i H=>∃ xs,SqL K H a xs∧xs.length≤i⟩
def Itr (lo:Int) (n:Nat):It:=⟨fun i _=>i < n,fun i H x H'=>H'=H∧x=.int (lo + i),fun i _=>n≤i⟩
theorem xjz {P:Program} {w:World} {K:PySem.W.Frag} {tg:Expr} (a it:Addr):Turn P w K tg (Itl K a) [it] it (fun i h=>h.IsListIter it a i) where
 mem:=by simp
 obj:=fun i h st b hb=>by
  have e:b=it:=by simpa using hb
  subst e
  obtain ⟨o,e,c,d⟩:=st
  exact ⟨o,e,fun v z=>by rw [d] at z; cases z⟩
 keep:=fun i h h' st k=>st.at fun o e=>k it (by simp) o e
 item:=by
  intro X hP hw hK hc i pins s σ H E I hf st hg
  subst hP hw hK
  obtain ⟨xs,x,hq,hx⟩:=hg
  obtain ⟨its,rv,p,hz⟩:=I.list hq
  obtain ⟨u,hu,ru⟩:=rv.get hx
  obtain ⟨f0,f1,f2,f3,f4,f5⟩:=hf it (by simp)
  refine wpAny_pyNext_list_item st p.isList (x:=u) (by simpa using hu) fun h' st' sb=>?_
  have I1:Inv X pins σ H { s with heap:=h' }:=I.turned (t':=s.toks) (fun b o hb e=>(sb.2 b hb).trans e) f0 f1 f3 f4 f5
  obtain ⟨o,e,c,d⟩:=id st'
  exact ⟨u,rfl,xgq (s:={ s with heap:=h' }) e c d (by decide) ⟨x,H,I1,ru,⟨rfl,fun ys hy=>by rw [I.list_inj hy hq]; exact hx⟩,st',fun b hb=>(hf b hb).1⟩⟩
 done:=by
  intro X hP hw hK hc i pins s σ H E I hf st hg
  subst hP hw hK
  obtain ⟨xs,hq,hx⟩:=hg
  obtain ⟨its,rv,p,hz⟩:=I.list hq
  obtain ⟨f0,f1,f2,f3,f4,f5⟩:=hf it (by simp)
  have hl:=rv.length
  exact wpAny_pyNext_list_end (I.ok.hd hc) st p.isList (by simp; omega) fun h' eb=>⟨rfl,I.turned (t':=s.toks) (fun b o hb e=>eb b o hb e) f0 f1 f3 f4 f5⟩
 self:=fun _ _ _ _ _ st h=>wpAny_pyIter_listiter st h
theorem xiv {P:Program} {w:World} {K:PySem.W.Frag} {tg:Expr} (it:Addr) (lo:Int) (n:Nat):Turn P w K tg (Itr lo n) [it] it (fun i h=>IsRangeIter h it (lo + (i:Nat) * 1) ((n:Int) - (i:Nat)) 1) where
 mem:=by simp
 obj:=fun i h st b hb=>by
  have e:b=it:=by simpa using hb
  subst e
  exact ⟨_,st,fun v z=>by
   have z':Data.fields _=Data.cell v:=z
   cases z'⟩
 keep:=fun i h h' st k=>k it (by simp) _ st
 item:=by
  intro X hP hw hK hc i pins s σ H E I hf st hg
  subst hP hw hK
  obtain ⟨f0,f1,f2,f3,f4,f5⟩:=hf it (by simp)
  have W:=Walks.range (prog:=X.prog) (w:=X.w) (I.ok.hd hc) it lo 1 n
  refine W.item i s _ _ hg st fun v h' tk hv st' kk=>?_
  obtain ⟨t,rfl⟩:=hv
  have I1:Inv X pins σ H { s with heap:=h',toks:=tk }:=I.turned (fun b o hb e=>kk b o (by simpa using hb) e) f0 f1 f3 f4 f5
  refine ⟨_,rfl,xgq (s:={ s with heap:=h',toks:=tk }) (n:="range_iterator") st' rfl rfl (by decide) ⟨.int (lo + i),H,I1,⟨t,?_⟩,⟨rfl,rfl⟩,st',fun b hb=>(hf b hb).1⟩⟩
  rw [Int.mul_one]
 done:=by
  intro X hP hw hK hc i pins s σ H E I hf st hg
  subst hP hw hK
  obtain ⟨f0,f1,f2,f3,f4,f5⟩:=hf it (by simp)
  exact wpAny_pyNext_range_end (I.ok.hd hc) st (by have:n≤i:=hg; omega) fun h' eb=>⟨rfl,I.turned (t':=s.toks) (fun b o hb e=>eb b o hb e) f0 f1 f3 f4 f5⟩
 self:=fun _ _ _ _ _ st h=>wpAny_pyIter_rangeiter st h
end L2
namespace L2
open PySem PySem.Spec PyProof.Rows
variable {q0:Bool}
section
variable {X:Cx} {tg:Expr}
def xpg (K:PySem.W.Frag) (tl:TE):TI:=fun σ H R=>tl σ H fun x H1=>∃ a,x=.ref a∧(∃ xs,SqL K H1 a xs)∧R (Itl K a) H1
theorem xal {l:Expr} {tl:TE} (hl:PE X l tl):PI X tg l (xpg X.K tl):=by
 intro pins s σ H R I h
 refine thn (hl pins s σ H _ I h) fun v s1 ⟨x,H1,I1,r1,q1⟩=>?_
 obtain ⟨a,e,⟨xs,hq⟩,q⟩:=q1
 subst e
 cases r1
 obtain ⟨its,rv,p,hz⟩:=I1.list hq
 refine wpAny_pyIter_list p.isList ?_
 refine ⟨s1.heap.objs.size,[s1.heap.objs.size],_,_,H1,rfl,I1.kept (t':=s1.toks) fun b o e=>Heap.get?_push_of_some _ e,xjz a _,⟨_,Heap.get?_push_size _ rfl,rfl,rfl⟩,fun b hb=>?_,q⟩
 have e:b=s1.heap.objs.size:=by simpa using hb
 subst e
 exact I1.fpOk (Nat.le_refl _) (I1.hok.fresh (Nat.le_refl _))
theorem xlt {pins:List (Addr × Obj)} {σ:St} {H:Hp} {s:Shared} {R:It→Hp→Prop} {E:Value→Shared→Prop} {lo hi:Int} {t u v:Tok} {tk:Nat} (I:Inv X pins σ H s) (h1:-(2 ^ 62)≤lo) (h2:lo < 2 ^ 62) (h3:-(2 ^ 62)≤hi) (h4:hi < 2 ^ 62)
    (q:R (Itr lo (hi - lo).toNat) H):wpAny (model X.prog X.w) X.A (pyIter (.ref s.heap.objs.size)) (PIE X pins σ tg R) E { s with heap:=s.heap.push { cls:=.type "range",data:=.fields #[.int lo t,.int hi u,.int 1 v] },toks:=tk }:=by
  refine wpAny_pyIter_range (IsRange.new ..) (small_one h1 h2 h3 h4) ?_
  have I1:Inv X pins σ H { s with heap:=s.heap.push { cls:=.type "range",data:=.fields #[.int lo t,.int hi u,.int 1 v] },toks:=tk }:=I.kept fun b o e=>Heap.get?_push_of_some _ e
  refine ⟨(s.heap.push { cls:=.type "range",data:=.fields #[.int lo t,.int hi u,.int 1 v] }).objs.size,[(s.heap.push { cls:=.type "range",data:=.fields #[.int lo t,.int hi u,.int 1 v] }).objs.size],_,_,H,rfl,
    I1.kept (t':=tk) fun b o e=>Heap.get?_push_of_some _ e,xiv _ lo (hi - lo).toNat,?_,fun b hb=>?_,q⟩
  · have e1:lo + ((0:Nat):Int) * 1=lo:=by simp
    have e2:(((hi - lo).toNat:Nat):Int) - ((0:Nat):Int)=Builtin.Range.rangeSize lo hi 1:=by rw [rangeSize_one]; split <;> omega
    show IsRangeIter _ _ (lo + ((0:Nat):Int) * 1) ((((hi - lo).toNat:Nat):Int) - ((0:Nat):Int)) 1
    rw [e1,e2]
    exact Heap.get?_push_size _ rfl
  · have e:b=(s.heap.push { cls:=.type "range",data:=.fields #[.int lo t,.int hi u,.int 1 v] }).objs.size:=by simpa using hb
    subst e
    exact I1.fpOk (Nat.le_refl _) (I1.hok.fresh (Nat.le_refl _))
def xo2 (ta:TA):TI:=fun σ H R=>ta σ H fun vs H1=>∃ i j:Int,vs=[.int i,.int j]∧(-(2 ^ 62)≤i∧i < 2 ^ 62∧-(2 ^ 62)≤j∧j < 2 ^ 62)∧R (Itr i (j - i).toNat) H1
theorem xgh {a b:Expr} {ta:TA} {p pos:Pos} (hg:Gl X "range") (hm:X.mg "range"=none) (ha:PA X [a,b] ta) (hs:starEach [a,b] X.env=[(false,eval a X.env),(false,eval b X.env)]:=by rfl) (hs2:starEach [b] X.env=[(false,eval b X.env)]:=by rfl) :
    PI X tg (.Call (.Name "range" p) [a,b] [] pos) (xo2 ta):=by
  intro pins s σ H R I h
  refine Call_ (xdo I hg hm boot_range (PyProof.Rows.callWith_type1 (thn (ha pos pins s σ H _ I h) fun us s1 ⟨vs,H1,I1,r1,q1⟩=>?_) (by rw [hs,hs2]) (by rw [hs2]; rfl)))
  obtain ⟨i,j,e,⟨q1,q2,q3,q4⟩,q⟩:=q1
  subst e
  cases r1 with
  | cons r rr =>
    cases rr with
    | cons r' rr =>
      cases rr
      obtain ⟨t,rfl⟩:=r
      obtain ⟨t',rfl⟩:=r'
      exact call_range_2 (xlt I1 q1 q2 q3 q4 q)
def tFor (wi:TI) (g:TG) (tb:TS):TS:=fun D σ H=>wi σ H fun J H1=>∃ W:Nat→Nat→St→Hp→Prop,(∃ m,W 0 m σ H1)∧∀ i m σ H,W i m σ H →
 (J.stop i H∧D.nx σ H)∨(J.go i H∧∃ N:St→Hp→Prop,(∀ σ' H',N σ' H'→∃ m',m' < m∧W (i + 1) m' σ' H')∧∀ x H',J.yld i H x H'→g x σ H' fun σ2 H2=>tb { D with nx:=N,ct:=N,bk:=D.nx } σ2 H2)
def xd7 (fp:List Addr) (h:Heap):List (Addr × Obj):=fp.filterMap fun b=>(h.get? b).map fun o=>(b,o)
theorem xck {fp:List Addr} {h:Heap} {b:Addr} {o:Obj} (hb:b ∈ fp) (e:h.get? b=some o):(b,o) ∈ xd7 fp h:=List.mem_filterMap.mpr ⟨b,hb,by rw [e]; rfl⟩
theorem xkq {fp:List Addr} {h:Heap} {p:Addr × Obj} (hp:p ∈ xd7 fp h):p.1 ∈ fp∧h.get? p.1=some p.2:=by
 obtain ⟨b,hb,e⟩:=List.mem_filterMap.mp hp
 cases q:h.get? b with
 | none=>rw [q] at e; cases e
 | some o =>
  rw [q] at e
  have e':(b,o)=p:=Option.some.inj e
  subst e'
  exact ⟨hb,q⟩
theorem Inv.pinned {pins:List (Addr × Obj)} {σ:St} {H:Hp} {s:Shared} {fp:List Addr} (I:Inv X pins σ H s) (hf:∀ b ∈ fp,FpOk X pins H b) (ho:∀ b ∈ fp,∃ o,s.heap.get? b=some o∧∀ v,o.data≠.cell v):Inv X (pins ++ xd7 fp s.heap) σ H s :=
 I.pins_of fun p hp=>(List.mem_append.mp hp).elim (fun z=>I.pin p (List.mem_append_right _ z)) fun z=>by
  obtain ⟨hb,e⟩:=xkq z
  obtain ⟨f0,f1,f2,_⟩:=hf p.1 hb
  obtain ⟨o,e',d⟩:=ho p.1 hb
  rw [e] at e'; cases e'
  exact ⟨e,f0,f1,f2,d⟩
theorem Inv.unpinned {pins pl:List (Addr × Obj)} {σ:St} {H:Hp} {s:Shared} (I:Inv X (pins ++ pl) σ H s):Inv X pins σ H s:=I.pins_of fun p hp=>I.pin p (List.mem_append_right _ (List.mem_append_left _ hp))
theorem xb0 {iter:Expr} {body:List Stmt} {wi:TI} {g:TG} {tb:TS} {pos:Pos} (hp:PassesOwn (model X.prog X.w) X.A X.env X.xe) (hc:X.calm=true) (hi:PI X tg iter wi) (hg:PG X tg g) (hb:PSs X body tb)
    (hs:∀ x,foldedSetIterable iter X.env x=pure x:=by intro _; rfl):PS X (.For tg iter body [] pos) (tFor wi g tb):=by
  intro pins s σ H D I h
  refine wpAny_For (thn (hi pins s σ H _ I h) fun v s1 h1=>thn h1 fun itv s2 h2=>?_) hs
  obtain ⟨it,fp,tn,J,H2,e,I2,T,st2,f2,W,⟨m0,w0⟩,turn⟩:=h2
  subst e
  -- what stays true of the iterator's objects through the loop
  have stat:∀ {H':Hp},(∀ b ∈ fp,H' b=none)→∀ b ∈ fp,FpOk X pins H' b:=fun hn b hb=>⟨hn b hb,(f2 b hb).2⟩
  refine codeAny_forLoop_any (fun n s'=>∃ i σ' H',Inv X pins σ' H' s'∧tn i s'.heap∧(∀ b ∈ fp,H' b=none)∧W i n σ' H') ?_ m0 ⟨0,σ,H2,I2,st2,fun b hb=>(f2 b hb).1,w0⟩
  rintro n s3 ⟨i,σ3,H3,I3,st3,fr3,w3⟩
  rcases turn i n σ3 H3 w3 with ⟨stop,qn⟩ | ⟨go,N,hN,step⟩
  · refine wpAny_passesOwn hp (thn (T.done X rfl rfl rfl hc i pins s3 σ3 H3 X.xe I3 (stat fr3) st3 stop) fun r s4 ⟨hr,I4⟩=>?_)
    subst hr
    exact wpAny_execs_nil ⟨σ3,H3,I4,qn⟩
  · refine wpAny_passesOwn hp (thn (T.item X rfl rfl rfl hc i pins s3 σ3 H3 X.xe I3 (stat fr3) st3 go) fun r s4 ⟨u,hr,h4⟩=>?_)
    subst hr
    refine wpAny_passesOwn hp (thn h4 fun _ s5 ⟨x,H5,I5,r5,y5,st5,fr5⟩=>?_)
    have I5':=I5.pinned (stat fr5) (T.obj _ _ st5)
    refine wpAny_passesOwn hp (thn (hg _ s5 σ3 H5 x u _ I5' r5 (step x H5 y5)) fun _ s6 ⟨σ6,H6,I6,q6⟩=>?_)
    refine wpAny_passesOwn hp (thn (hb _ s6 σ6 H6 _ I6 q6) fun f s7 q7=>?_)
    have again:∀ {σ7:St} {H7:Hp},Inv X (pins ++ xd7 fp s5.heap) σ7 H7 s7→N σ7 H7→∃ m,m < n∧∃ i σ' H',Inv X pins σ' H' s7∧tn i s7.heap∧(∀ b ∈ fp,H' b=none)∧W i m σ' H':=fun {σ7 H7} I7 n7=>by
      obtain ⟨m',hm,w7⟩:=hN σ7 H7 n7
      refine ⟨m',hm,i + 1,σ7,H7,I7.unpinned,T.keep _ _ _ st5 fun b hb o e=>(I7.pin (b,o) (List.mem_append_right _ (List.mem_append_right _ (xck hb e)))).1,fun b hb=>?_,w7⟩
      obtain ⟨o,e,d⟩:=T.obj _ _ st5 b hb
      exact (I7.pin (b,o) (List.mem_append_right _ (List.mem_append_right _ (xck hb e)))).2.1
    cases f with
    | next=>obtain ⟨σ7,H7,I7,n7⟩:=q7; exact again I7 n7
    | cont=>obtain ⟨σ7,H7,I7,n7⟩:=q7; exact again I7 n7
    | brk=>obtain ⟨σ7,H7,I7,q7⟩:=q7; exact ⟨σ7,H7,I7.unpinned,q7⟩
    | ret v=>obtain ⟨x7,σ7,H7,I7,r7,q7⟩:=q7; exact ⟨x7,σ7,H7,I7.unpinned,r7,q7⟩
end
theorem xcp {K:PySem.W.Frag} {a:Addr} {xs:List V} {g:TG} {tb:TS} {D:Ends} {σ:St} {H:Hp} (Pv:Nat→St→Hp→Prop) (h0:Pv 0 σ H) (hl:∀ i σ H,i≤xs.length→Pv i σ H→SqL K H a xs)
    (hs:∀ i x σ H,xs[i]?=some x→Pv i σ H→g x σ H fun σ2 H2=>tb { D with nx:=Pv (i + 1),ct:=Pv (i + 1),bk:=D.nx } σ2 H2) (hd:∀ σ H,Pv xs.length σ H→D.nx σ H) :
    ∃ W:Nat→Nat→St→Hp→Prop,(∃ m,W 0 m σ H)∧∀ i m σ H,W i m σ H →
      ((Itl K a).stop i H∧D.nx σ H)∨((Itl K a).go i H∧∃ N:St→Hp→Prop,(∀ σ' H',N σ' H'→∃ m',m' < m∧W (i + 1) m' σ' H')∧∀ x H',(Itl K a).yld i H x H'→g x σ H' fun σ2 H2=>tb { D with nx:=N,ct:=N,bk:=D.nx } σ2 H2):=by
  refine ⟨fun i m σ H=>m=xs.length - i∧i≤xs.length∧Pv i σ H,⟨xs.length,by simp,Nat.zero_le _,h0⟩,?_⟩
  rintro i m σ H ⟨rfl,hi,p⟩
  have q:=hl i σ H hi p
  by_cases hlt:i < xs.length
  · refine .inr ⟨⟨xs,xs[i],q,by simp [hlt]⟩,Pv (i + 1),fun σ' H' p'=>⟨xs.length - (i + 1),by omega,rfl,hlt,p'⟩,fun x H' y=>?_⟩
    obtain ⟨e,y⟩:=y
    subst e
    exact hs i x σ _ (y xs q) p
  · have e:i=xs.length:=by omega
    subst e
    exact .inl ⟨⟨xs,q,Nat.le_refl _⟩,hd σ H p⟩
theorem xj8 {lo:Int} {n:Nat} {g:TG} {tb:TS} {D:Ends} {σ:St} {H:Hp} (Pv:Nat→St→Hp→Prop) (h0:Pv 0 σ H)
    (hs:∀ i σ H,i < n→Pv i σ H→g (.int (lo + i)) σ H fun σ2 H2=>tb { D with nx:=Pv (i + 1),ct:=Pv (i + 1),bk:=D.nx } σ2 H2) (hd:∀ σ H,Pv n σ H→D.nx σ H) :
    ∃ W:Nat→Nat→St→Hp→Prop,(∃ m,W 0 m σ H)∧∀ i m σ H,W i m σ H →
      ((Itr lo n).stop i H∧D.nx σ H)∨((Itr lo n).go i H∧∃ N:St→Hp→Prop,(∀ σ' H',N σ' H'→∃ m',m' < m∧W (i + 1) m' σ' H')∧∀ x H',(Itr lo n).yld i H x H'→g x σ H' fun σ2 H2=>tb { D with nx:=N,ct:=N,bk:=D.nx } σ2 H2):=by
  refine ⟨fun i m σ H=>m=n - i∧i≤n∧Pv i σ H,⟨n,by simp,Nat.zero_le _,h0⟩,?_⟩
  rintro i m σ H ⟨rfl,hi,p⟩
  by_cases hlt:i < n
  · refine .inr ⟨hlt,Pv (i + 1),fun σ' H' p'=>⟨n - (i + 1),by omega,rfl,hlt,p'⟩,fun x H' y=>?_⟩
    obtain ⟨e,y⟩:=y
    subst e y
    exact hs i σ _ hlt p
  · have e:i=n:=by omega
    subst e
    exact .inl ⟨Nat.le_refl _,hd σ H p⟩
end L2
namespace L2
open PySem PySem.Spec PyProof.Rows
variable {q0:Bool}
abbrev R2:=V→V→Hp→VK→Prop
def OpR (X:Cx) (f:Value→Value→Sem Value) (r:R2):Prop :=
 ∀ (pins:List (Addr × Obj)) (s:Shared) (σ:St) (H:Hp) (x y:V) (v u:Value) (Q:VK),Inv X pins σ H s→RelV x v→RelV y u→r x y H Q →
  wpAny (model X.prog X.w) X.A (f v u) (EP X pins σ Q) X.xe s
def xb9 (X:Cx) (f:Value) (r:List V→Hp→VK→Prop):Prop :=
 ∀ (pins:List (Addr × Obj)) (s:Shared) (σ:St) (H:Hp) (xs:List V) (us:List Value) (Q:VK),Inv X pins σ H s→Vals xs us→r xs H Q →
  wpAny (model X.prog X.w) X.A (call f us) (EP X pins σ Q) X.xe s
def TruR (X:Cx) (r:V→Hp→(Bool→Hp→Prop)→Prop):Prop :=
 ∀ (pins:List (Addr × Obj)) (s:Shared) (σ:St) (H:Hp) (x:V) (v:Value) (Q:Bool→Hp→Prop),Inv X pins σ H s→RelV x v→r x H Q →
  wpAny (model X.prog X.w) X.A (truthy v) (TP X pins σ Q) X.xe s
def tOp (r:R2) (ta tb:TE):TE:=fun σ H Q=>ta σ H fun x H1=>tb σ H1 fun y H2=>r x y H2 Q
def rI (C:Int→Int→Prop) (g:Int→Int→V):R2:=fun x y H Q=>∃ i j,x=.int i∧y=.int j∧C i j∧Q (g i j) H
def rI0 (g:Int→Int→V):R2:=fun x y H Q=>∃ i j,x=.int i∧y=.int j∧Q (g i j) H
section
variable {X:Cx} {a b c:Expr} {ta tb tc:TE} {pos:Pos}
theorem binT (ha:PE X a ta) (hb:PE X b tb) {pins:List (Addr × Obj)} {s:Shared} {σ:St} {H:Hp} {R:V→V→Hp→Prop} (I:Inv X pins σ H s)
    (h:ta σ H fun x H1=>tb σ H1 fun y H2=>R x y H2) {Q:Value→Shared→Prop} {f:Value→Value→Sem Value}
    (hf:∀ v u s2 x y H2,Inv X pins σ H2 s2→RelV x v→RelV y u→R x y H2→wpAny (model X.prog X.w) X.A (f v u) Q X.xe s2) :
    wpAny (model X.prog X.w) X.A (eval a X.env) (fun v s₁=>wpAny (model X.prog X.w) X.A (eval b X.env) (fun u s₂=>wpAny (model X.prog X.w) X.A (f v u) Q X.xe s₂) X.xe s₁) X.xe s:=by
  refine thn (ha pins s σ H _ I h) fun v s1 ⟨x,H1,I1,r1,q1⟩=>?_
  refine thn (hb pins s1 σ H1 _ I1 q1) fun u s2 ⟨y,H2,I2,r2,q2⟩=>?_
  exact hf v u s2 x y H2 I2 r1 r2 q2
theorem x0 {op:Operator} {r:R2} (ho:OpR X (binaryOp op) r) (ha:PE X a ta) (hb:PE X b tb):PE X (.BinOp a op b pos) (tOp r ta tb):=by
 intro pins s σ H Q I h
 exact wpAny_BinOp (binT ha hb I h fun v u s2 x y H2 I2 rx ry q=>ho pins s2 σ H2 x y v u Q I2 rx ry q)
theorem opI {f:Value→Value→Sem Value} {C:Int→Int→Prop} {g:Int→Int→Int}
    (rule:∀ (i j:Int) (t u:Tok) (s:Shared) (Q:Value→Shared→Prop) (E:Value→Shared→Prop),C i j→Q (.int (g i j) s.toks) { s with toks:=s.toks + 1 }→wpAny (model X.prog X.w) X.A (f (.int i t) (.int j u)) Q E s) :
    OpR X f (rI C fun i j=>.int (g i j)):=by
  intro pins s σ H x y v u Q I rx ry h
  obtain ⟨i,j,rfl,rfl,hc,q⟩:=h
  obtain ⟨t,rfl⟩:=rx
  obtain ⟨t',rfl⟩:=ry
  exact rule i j t t' s _ _ hc ⟨.int (g i j),H,I.tok _,⟨_,rfl⟩,q⟩
theorem opI0 {f:Value→Value→Sem Value} {g:Int→Int→Int}
    (rule:∀ (i j:Int) (t u:Tok) (s:Shared) (Q:Value→Shared→Prop) (E:Value→Shared→Prop),Q (.int (g i j) s.toks) { s with toks:=s.toks + 1 }→wpAny (model X.prog X.w) X.A (f (.int i t) (.int j u)) Q E s) :
    OpR X f (rI0 fun i j=>.int (g i j)):=by
  intro pins s σ H x y v u Q I rx ry h
  obtain ⟨i,j,rfl,rfl,q⟩:=h
  obtain ⟨t,rfl⟩:=rx
  obtain ⟨t',rfl⟩:=ry
  exact rule i j t t' s _ _ ⟨.int (g i j),H,I.tok _,⟨_,rfl⟩,q⟩
theorem opB0 {f:Value→Value→Sem Value} {g:Int→Int→Bool}
    (rule:∀ (i j:Int) (t u:Tok) (s:Shared) (Q:Value→Shared→Prop) (E:Value→Shared→Prop),Q (.bool (g i j)) s→wpAny (model X.prog X.w) X.A (f (.int i t) (.int j u)) Q E s) :
    OpR X f (rI0 fun i j=>.bl (g i j)):=by
  intro pins s σ H x y v u Q I rx ry h
  obtain ⟨i,j,rfl,rfl,q⟩:=h
  obtain ⟨t,rfl⟩:=rx
  obtain ⟨t',rfl⟩:=ry
  exact rule i j t t' s _ _ ⟨.bl (g i j),H,I,rfl,q⟩
def CDiv (i j:Int):Prop:=0 < j∧j < 1073741824
def CMul (i j:Int):Prop:=(-(2 ^ 64) < i∧i < 2 ^ 64)∨(-(2 ^ 64) < j∧j < 2 ^ 64)
theorem CMul.ok {i j:Int} (h:CMul i j):IntMulOk i j:=by
 rcases h with ⟨h1,h2⟩ | ⟨h1,h2⟩
 ·exact .of_left (intBits_le_64 h1 h2)
 ·exact .of_right (intBits_le_64 h1 h2)
theorem xa7:OpR X (binaryOp .Add) (rI0 fun i j=>.int (i + j)):=opI0 fun _ _ _ _ _ _ _ q=>add_int q
theorem xnm:OpR X (binaryOp .Sub) (rI0 fun i j=>.int (i - j)):=opI0 fun _ _ _ _ _ _ _ q=>sub_int q
theorem xea:OpR X (binaryOp .Mult) (rI CMul fun i j=>.int (i * j)):=opI fun _ _ _ _ _ _ _ hc q=>mul_int q hc.ok
theorem xek:OpR X (binaryOp .FloorDiv) (rI CDiv fun i j=>.int (i / j)):=opI fun i j _ _ _ _ _ hc q=>by
 have h1:(0:Int) < j:=hc.1
 have h2:j < 1073741824:=hc.2
 exact floordiv_int (by omega) (by rw [Int.fdiv_eq_ediv_of_nonneg i (by omega)]; exact q) (.inl (PyProof.noPylong_small (by omega)))
theorem xaj:OpR X (binaryOp .Mod) (rI (fun _ j=>0 < j) fun i j=>.int (i % j)):=opI fun i j _ _ _ _ _ hc q=>by
 have h1:(0:Int) < j:=hc
 exact mod_int' (by omega) (by rw [Int.fmod_eq_emod_of_nonneg i (by omega)]; exact q)
theorem xmn:OpR X (inplaceOp .Add) (rI0 fun i j=>.int (i + j)):=opI0 fun _ _ _ _ _ _ _ q=>iadd_int q
end
def scal:V→V→Bool
 | .non,.non=>true | .non,.int _=>true | .int _,.non=>true | .non,.bl _=>true | .bl _,.non=>true | .non,.str _=>true | .str _,.non=>true
 | .int _,.int _=>true | .bl _,.bl _=>true | .str _,.str _=>true | .byt _,.byt _=>true
 | .int _,.str _=>true | .str _,.int _=>true | .bl _,.str _=>true | .str _,.bl _=>true
 | _,_=>false
def rEq:R2:=fun x y H Q=>scal x y=true∧Q (.bl (decide (x=y))) H
def rNe:R2:=fun x y H Q=>scal x y=true∧Q (.bl (!decide (x=y))) H
theorem xiq {i j:Int}:decide (V.int i=V.int j)=(i == j):=by
 rw [Bool.eq_iff_iff]
 simp
theorem xjw {i j:Bool}:decide (V.bl i=V.bl j)=(i == j):=by
 rw [Bool.eq_iff_iff]
 simp
theorem xid {i j:Str}:decide (V.str i=V.str j)=(i == j):=by
 rw [Bool.eq_iff_iff]
 simp
theorem xii {i j:Array UInt8}:decide (V.byt i=V.byt j)=(i.toList == j.toList):=by
 rw [Bool.eq_iff_iff]
 cases i
 cases j
 simp
section
variable {X:Cx} {a b c:Expr} {ta tb tc:TE} {pos:Pos}
theorem xai {pins:List (Addr × Obj)} {σ:St} {H:Hp} {s:Shared} {Q:VK} {k k':Bool} (I:Inv X pins σ H s) (q:Q (.bl k) H) (e:k=k'):EP X pins σ Q (.bool k') s:=by
 subst e
 exact ⟨.bl k,H,I,rfl,q⟩
theorem xa5:OpR X (compareOp .Eq) rEq:=by
 intro pins s σ H x y v u Q I rx ry h
 obtain ⟨hs,q⟩:=h
 cases x with
 | non =>
  cases rx
  cases y with
  | non=>cases ry; exact PySem.EqNone.eq_none_none (xai I q (by simp))
  | bl j=>cases ry; exact PySem.EqNone.eq_none_bool (xai I q (by simp))
  | int j=>obtain ⟨t',rfl⟩:=ry; exact PySem.EqNone.eq_none_int (xai I q (by simp))
  | str j=>obtain ⟨t',rfl⟩:=ry; exact PySem.EqNone.eq_none_str (xai I q (by simp))
  | _=>exact absurd (show false=true from hs) Bool.false_ne_true
 | bl i =>
  cases rx
  cases y with
  | non=>cases ry; exact PySem.EqNone.eq_bool_none (xai I q (by simp))
  | bl j=>cases ry; exact eq_bool (xai I q xjw)
  | str j=>obtain ⟨t',rfl⟩:=ry; exact PySem.EqMixed.eq_bool_str (xai I q (by simp))
  | _=>exact absurd (show false=true from hs) Bool.false_ne_true
 | int i =>
  obtain ⟨t,rfl⟩:=rx
  cases y with
  | non=>cases ry; exact PySem.EqNone.eq_int_none (xai I q (by simp))
  | int j=>obtain ⟨t',rfl⟩:=ry; exact eq_int (xai I q xiq)
  | str j=>obtain ⟨t',rfl⟩:=ry; exact PySem.EqMixed.eq_int_str (xai I q (by simp))
  | _=>exact absurd (show false=true from hs) Bool.false_ne_true
 | str i =>
  obtain ⟨t,rfl⟩:=rx
  cases y with
  | non=>cases ry; exact PySem.EqNone.eq_str_none (xai I q (by simp))
  | bl j=>cases ry; exact PySem.EqMixed.eq_str_bool (xai I q (by simp))
  | int j=>obtain ⟨t',rfl⟩:=ry; exact PySem.EqMixed.eq_str_int (xai I q (by simp))
  | str j=>obtain ⟨t',rfl⟩:=ry; exact eq_str (xai I q xid)
  | _=>exact absurd (show false=true from hs) Bool.false_ne_true
 | byt i =>
  obtain ⟨t,rfl⟩:=rx
  cases y with
  | byt j=>obtain ⟨t',rfl⟩:=ry; exact PySem.W.eq_bytes (xai I q xii)
  | _=>exact absurd (show false=true from hs) Bool.false_ne_true
 | _=>cases y <;> exact absurd (show false=true from hs) Bool.false_ne_true
theorem xit:OpR X (compareOp .NotEq) rNe:=by
 intro pins s σ H x y v u Q I rx ry h
 obtain ⟨hs,q⟩:=h
 cases x with
 | non =>
  cases rx
  cases y with
  | non=>cases ry; exact PySem.EqNone.ne_none_none (xai I q (by simp))
  | bl j=>cases ry; exact PySem.EqNone.ne_none_bool (xai I q (by simp))
  | int j=>obtain ⟨t',rfl⟩:=ry; exact PySem.EqNone.ne_none_int (xai I q (by simp))
  | str j=>obtain ⟨t',rfl⟩:=ry; exact PySem.EqNone.ne_none_str (xai I q (by simp))
  | _=>exact absurd (show false=true from hs) Bool.false_ne_true
 | bl i =>
  cases rx
  cases y with
  | non=>cases ry; exact PySem.EqNone.ne_bool_none (xai I q (by simp))
  | bl j=>cases ry; exact ne_bool (xai I q (congrArg not xjw))
  | str j=>obtain ⟨t',rfl⟩:=ry; exact PySem.EqMixed.ne_bool_str (xai I q (by simp))
  | _=>exact absurd (show false=true from hs) Bool.false_ne_true
 | int i =>
  obtain ⟨t,rfl⟩:=rx
  cases y with
  | non=>cases ry; exact PySem.EqNone.ne_int_none (xai I q (by simp))
  | int j=>obtain ⟨t',rfl⟩:=ry; exact ne_int (xai I q (congrArg not xiq))
  | str j=>obtain ⟨t',rfl⟩:=ry; exact PySem.EqMixed.ne_int_str (xai I q (by simp))
  | _=>exact absurd (show false=true from hs) Bool.false_ne_true
 | str i =>
  obtain ⟨t,rfl⟩:=rx
  cases y with
  | non=>cases ry; exact PySem.EqNone.ne_str_none (xai I q (by simp))
  | bl j=>cases ry; exact PySem.EqMixed.ne_str_bool (xai I q (by simp))
  | int j=>obtain ⟨t',rfl⟩:=ry; exact PySem.EqMixed.ne_str_int (xai I q (by simp))
  | str j=>obtain ⟨t',rfl⟩:=ry; exact ne_str (xai I q (congrArg not xid))
  | _=>exact absurd (show false=true from hs) Bool.false_ne_true
 | byt i =>
  obtain ⟨t,rfl⟩:=rx
  cases y with
  | byt j=>obtain ⟨t',rfl⟩:=ry; exact PySem.W.ne_bytes (xai I q (congrArg not xii))
  | _=>exact absurd (show false=true from hs) Bool.false_ne_true
 | _=>cases y <;> exact absurd (show false=true from hs) Bool.false_ne_true
theorem xep:OpR X (compareOp .Lt) (rI0 fun i j=>.bl (decide (i < j))):=opB0 fun _ _ _ _ _ _ _ q=>lt_int q
theorem xgr:OpR X (compareOp .LtE) (rI0 fun i j=>.bl (decide (i≤j))):=opB0 fun _ _ _ _ _ _ _ q=>le_int q
theorem xpt:OpR X (compareOp .Gt) (rI0 fun i j=>.bl (decide (j < i))):=opB0 fun _ _ _ _ _ _ _ q=>gt_int q
theorem xoz:OpR X (compareOp .GtE) (rI0 fun i j=>.bl (decide (j≤i))):=opB0 fun _ _ _ _ _ _ _ q=>ge_int q
theorem xol:OpR X (compareOp .Is) (fun x y H Q=>y=.non∧Q (.bl (decide (x=.non))) H):=by
 intro pins s σ H x y v u Q I rx ry h
 obtain ⟨rfl,q⟩:=h
 cases ry
 refine is_none_gen (xai I q ?_)
 cases x <;> first
  | (cases rx; rfl)
  | (obtain ⟨t,rfl⟩:=rx; rfl)
theorem xm7:OpR X (compareOp .IsNot) (fun x y H Q=>y=.non∧Q (.bl (!decide (x=.non))) H):=by
 intro pins s σ H x y v u Q I rx ry h
 obtain ⟨rfl,q⟩:=h
 cases ry
 refine isnot_none_gen (xai I q ?_)
 cases x <;> first
  | (cases rx; rfl)
  | (obtain ⟨t,rfl⟩:=rx; rfl)
def isObj:HO→Bool
 | .lst _=>true
 | .ins _ _ _=>true
 | _=>false
theorem x6 (b:Expr) {op:CmpOp} (h:op≠.In:=by decide) (h2:op≠.NotIn:=by decide):behindInMarks op b=false:=by
 have e1:(op == CmpOp.In)=false:=by cases op <;> first | rfl | exact absurd rfl h
 have e2:(op == CmpOp.NotIn)=false:=by cases op <;> first | rfl | exact absurd rfl h2
 cases b <;> simp [behindInMarks,e1,e2]
theorem xbw {op:CmpOp} {r:R2} (ho:OpR X (compareOp op) r) (ha:PE X a ta) (hb:PE X b tb) (hm:behindInMarks op b=false):PE X (.Compare a [op] [b] pos) (tOp r ta tb):=by
 intro pins s σ H Q I h
 exact wpAny_Compare1 (binT ha hb I h fun v u s2 x y H2 I2 rx ry q=>ho pins s2 σ H2 x y v u Q I2 rx ry q) hm
def xo7 (t:TE):TT:=fun σ H Q=>t σ H fun x H'=>∃ k,x=.bl k∧Q k H'
theorem xw {op:CmpOp} {r:R2} (ho:OpR X (compareOp op) r) (ha:PE X a ta) (hb:PE X b tb) (hm:behindInMarks op b=false):PT X (.Compare a [op] [b] pos) (xo7 (tOp r ta tb)):=by
 intro pins s σ H Q I h
 refine wpAny_isTrue_Compare1 (thn (ha pins s σ H _ I h) fun v s1 ⟨x,H1,I1,r1,q1⟩=>thn (hb pins s1 σ H1 _ I1 q1) fun u s2 ⟨y,H2,I2,r2,q2⟩ =>
  thn (ho pins s2 σ H2 x y v u _ I2 r1 r2 q2) fun c s3 ⟨z,H3,I3,r3,k,e,q3⟩=>?_) hm
 subst e
 cases r3
 exact wpAny_truthy_bool ⟨H3,I3,q3⟩
def xnw (r r':R2) (ta tb tc:TE):TE:=fun σ H Q=>ta σ H fun x H1=>tb σ H1 fun y H2=>r x y H2 fun z H3=>∃ k,z=.bl k ∧
 (if k=true then tc σ H3 fun w' H4=>r' y w' H4 Q else Q (.bl false) H3)
theorem xe9 {op op':CmpOp} {r r':R2} (ho:OpR X (compareOp op) r) (ho':OpR X (compareOp op') r') (ha:PE X a ta) (hb:PE X b tb) (hc:PE X c tc)
    (hm:lastMarks [op,op'] [b,c]=false:=by with_unfolding_all rfl):PE X (.Compare a [op,op'] [b,c] pos) (xnw r r' ta tb tc):=by
  intro pins s σ H Q I h
  refine Compare_chain (thn (ha pins s σ H _ I h) fun v s1 ⟨x,H1,I1,r1,q1⟩=>chain_link (thn (hb pins s1 σ H1 _ I1 q1) fun u s2 ⟨y,H2,I2,r2,q2⟩ =>
    thn (ho pins s2 σ H2 x y v u _ I2 r1 r2 q2) fun d s3 ⟨z,H3,I3,r3,k,e,q3⟩=>?_)) hm
  subst e
  cases r3
  refine wpAny_truthy_bool ?_
  cases k with
  | false=>exact ite_ff ⟨.bl false,H3,I3,rfl,q3⟩
  | true=>exact ite_tt (chain_last (thn (hc pins s3 σ H3 _ I3 q3) fun w' s4 ⟨z',H4,I4,r4,q4⟩=>ho' pins s4 σ H4 y z' u w' Q I4 r2 r4 q4))
def TruV (K:PySem.W.Frag) (x:V) (H:Hp) (k:Bool):Prop :=
 match x with
 | .non=>k=false
 | .bl b=>k=b
 | .int i=>k=(i != 0)
 | .str y=>y.length≤sizeLine∧k=((y.length:Int) != 0)
 | .byt y=>y.size≤sizeLine∧k=((y.size:Int) != 0)
 | .ref p=>(∃ xs,SqL K H p xs∧k=!xs.isEmpty)∨(∃ xs,SqT K H p xs∧k=!xs.isEmpty)∨∃ kvs,H p=some (.dK kvs)∧k=!kvs.isEmpty
 | _=>False
theorem xjc {κ:Type} {kvs:List (κ × V)} {vs:List (κ × Value)} (r:KV kvs vs):(!vs.isEmpty)=!kvs.isEmpty:=by
 cases r <;> rfl
theorem xfp {xs:List V} {its:List Value} (r:Vals xs its):(!its.toArray.isEmpty)=!xs.isEmpty:=by
 cases r <;> simp
theorem xd8:(sizeLine:Nat) < 2 ^ 63:=by rw [sizeLine_eq]; decide
theorem xof:TruR X (fun x H Q=>∃ k,TruV X.K x H k∧Q k H):=by
 intro pins s σ H x v Q I rx h
 obtain ⟨k,e,q⟩:=h
 have hl:=xd8
 have hs:sizeLine=16777216:=sizeLine_eq
 cases x with
 | non =>
  cases rx
  have e':k=false:=e
  subst e'
  exact truthy_none ⟨H,I,q⟩
 | bl b =>
  cases rx
  have e':k=b:=e
  subst e'
  exact wpAny_truthy_bool ⟨H,I,q⟩
 | int i =>
  obtain ⟨t,rfl⟩:=rx
  have e':k=(i != 0):=e
  subst e'
  exact PySem.P.truthy_int ⟨H,I,q⟩
 | str y =>
  obtain ⟨t,rfl⟩:=rx
  obtain ⟨hy,e'⟩:y.length≤sizeLine∧k=((y.length:Int) != 0):=e
  subst e'
  exact PySem.P.truthy_str (by omega) ⟨H,I.tok _,q⟩
 | byt y =>
  obtain ⟨t,rfl⟩:=rx
  obtain ⟨hy,e'⟩:y.size≤sizeLine∧k=((y.size:Int) != 0):=e
  subst e'
  exact PySem.W.truthy_bytes (by omega) ⟨H,I.tok _,q⟩
 | ref p =>
  cases rx
  have e':(∃ xs,SqL X.K H p xs∧k=!xs.isEmpty)∨(∃ xs,SqT X.K H p xs∧k=!xs.isEmpty)∨∃ kvs,H p=some (.dK kvs)∧k=!kvs.isEmpty:=e
  rcases e' with ⟨xs,hx,e'⟩ | ⟨xs,hx,e'⟩ | ⟨kvs,hx,e'⟩
  ·subst e'
   obtain ⟨its,r,pl,hz⟩:=I.list hx
   have hlen:=r.length
   exact wpAny_truthy_list pl.isList (by simp only [List.size_toArray]; omega) ⟨H,I.tok _,by rw [xfp r]; exact q⟩
  ·subst e'
   obtain ⟨its,r,pl,hz⟩:=I.tuple hx
   have hlen:=r.length
   exact truthy_tuple pl (by simp only [List.size_toArray]; omega) ⟨H,I.tok _,by rw [xfp r]; exact q⟩
  ·subst e'
   obtain ⟨hz,hS,vs,r,m⟩:kvs.length≤sizeLine∧(p == sysModules)=false∧∃ vs,KV kvs vs∧s.heap.DictOf (xam X.prog X.w) p vs:=I.hok p _ hx
   have hlen:kvs.length=vs.length:=Paired.length r
   exact wpAny_truthy_dict hS m (by omega) ⟨H,I.tok _,by rw [xjc r]; exact q⟩
 | _=>exact (show False from e).elim
theorem xln (ha:PE X a ta) (he:∀ whole,isTrue a X.env whole=(do let v ← whole; standAt a.pos; holding [v] (truthy v))) :
    PT X a (fun σ H Q=>ta σ H fun x H'=>∃ k,TruV X.K x H' k∧Q k H'):=by
  intro pins s σ H Q I h
  exact isTrue_plain (thn (ha pins s σ H _ I h) fun v s1 ⟨x,H1,I1,r1,q1⟩=>xof pins s1 σ H1 x v Q I1 r1 q1) (he _)
theorem xcw {x:V} {us:List Value} (r:Vals [x] us):∃ u,us=[u]∧RelV x u:=by
 cases r with
 | cons r1 r2=>cases r2; exact ⟨_,rfl,r1⟩
theorem xgu {x y:V} {us:List Value} (r:Vals [x,y] us):∃ u w',us=[u,w']∧RelV x u∧RelV y w':=by
 cases r with
 | cons r1 r2 =>
  cases r2 with
  | cons r3 r4=>cases r4; exact ⟨_,_,rfl,r1,r3⟩
theorem xkf (hc:X.calm=true):xb9 X (.builtin "min") (fun xs H Q=>∃ i j,xs=[.int i,.int j]∧Q (.int (if j < i then j else i)) H):=by
 intro pins s σ H xs us Q I r h
 obtain ⟨i,j,rfl,q⟩:=h
 obtain ⟨u,w',rfl,⟨t,rfl⟩,⟨t',rfl⟩⟩:=xgu r
 refine min_two_ints (I.ok.hd hc) fun h' tk k=>⟨_,H,I.kept k,?_,q⟩
 by_cases hj:j < i
 ·rw [if_pos hj,if_pos hj]; exact ⟨_,rfl⟩
 ·rw [if_neg hj,if_neg hj]; exact ⟨_,rfl⟩
end
end L2
namespace L2
open PySem PySem.Spec PyProof.Rows
variable {q0:Bool}
structure ObjM (h:Heap) (x dx C:Addr) (mA:Str→Option Value):Prop where
 obj:h.get? x=some (PySem.W.instObj C dx)
 ns:h.Ns1 dx mA
 ne:dx≠x
theorem xjq {h:Heap} {dx:Addr} {mA:Str→Option Value} (n:h.Ns1 dx mA):∃ od,h.get? dx=some od∧∀ name,PySem.W.lookIn name od=some (mA name):=by
 obtain ⟨o,es,ep,ho,hd,hk,_,hm⟩:=n
 refine ⟨o,ho,fun name=>?_⟩
 have e:=hm name
 unfold nsFind findBy at e
 rw [← Array.find?_toList] at e
 unfold PySem.W.lookIn
 rw [hd]
 dsimp only
 split
 ·rename_i y q
  rw [q] at e
  exact congrArg some e
 ·rename_i q
  rw [q] at e
  have a:es.toList.any (·.refKey)=false:=by
   rw [List.any_eq_false]
   intro y hy
   obtain ⟨z,t,hkey⟩:=hk y (Array.mem_toList_iff.mp hy)
   simp [DictEntry.refKey,hkey]
  have a':¬ es.toList.any (·.refKey)=true:=by rw [a]; exact Bool.false_ne_true
  rw [if_neg a']
  exact congrArg some e
theorem ObjM.look {h:Heap} {x dx C:Addr} {mA:Str→Option Value} (I:ObjM h x dx C mA):∃ od,PySem.W.InstAt h x (PySem.W.instObj C dx) C (some od)∧∀ name,PySem.W.lookIn name od=some (mA name) :=
 let ⟨od,ho,hl⟩:=xjq I.ns
 ⟨od,⟨I.obj,rfl,rfl,ho⟩,hl⟩
section
variable {prog:Program} {w:World} {A:Around} {E:Value→Shared→Prop} {s:Shared} {K:PySem.W.Frag} {x dx C f:Addr} {mA:Str→Option Value} {name:Str} {v:Value}
theorem xm1 {expr:Bool} {Q:Value→Shared→Prop} (X:K.In s.heap) (I:ObjM s.heap x dx C mA) (hg:PySem.W.plainGet K C name=true) (hh:PySem.W.hasDictIn K C=true)
    (ha:PySem.W.findIn K (.ref C) name=some none) (hv:mA name=some v) (hv':PySem.W.handedIn v=true) (h:Q v { s with toks:=s.toks + 1 }) :
    wpAny (model prog w) A (getAttr (.ref x) name expr) Q E s:=by
  obtain ⟨od,J,hl⟩:=I.look
  exact PySem.W.get_value X J (PySem.W.plainGet_of hg).1 (PySem.W.findObj_own hh ha rfl (by rw [hl,hv])) hv' h
theorem xls {pl:Sem Bool} {Q:Value × List Value→Shared→Prop} (X:K.In s.heap) (I:ObjM s.heap x dx C mA) (hg:PySem.W.plainGet K C name=true)
    (hf:PySem.W.findIn K (.ref C) name=some (some (.ref f))) (ht:PySem.W.isFn K (.ref f)=true) (hv:mA name=none) (h:Q (.ref f,[.ref x]) s) :
    wpAny (model prog w) A (getMethod (.ref x) name pl) Q E s:=by
  obtain ⟨od,J,hl⟩:=I.look
  exact PySem.W.method_fn X J (PySem.W.plainGet_of hg).1 (PySem.W.plainGet_of hg).2 hf (beq_iff_eq.mp ht) (by show (PySem.W.lookIn name od).map (·.isSome)=some false; rw [hl,hv]; rfl) h
theorem xnb {ns:List Str} {Q:Unit→Shared→Prop} (X:K.In s.heap) (I:ObjM s.heap x dx C mA)
    (hs:PySem.W.findIn K (.ref C) "__setattr__"=some (some (.builtin "object.__setattr__"))) (hp:PySem.W.plainOver K C=true) (ht:PySem.W.takerIn K C name=some none) (hh:PySem.W.hasDictIn K C=true)
    (hw:PySem.Within mA ns) (hsz:ns.length≤sizeLine)
    (h:∀ h',ObjM h' x dx C (fun y=>if y=name then some v else mA y)→Heap.SameBut dx s.heap h'→Q () { s with heap:=h',toks:=s.toks + 2 }) :
    wpAny (model prog w) A (setAttr (.ref x) name v) Q E s:=by
  obtain ⟨od,J,hl⟩:=I.look
  refine PySem.W.set_plain X J hs (PySem.W.osa_open (s:={ s with toks:=s.toks + 1 }) (r:=none) X J hp ht fun b=>?_)
  obtain ⟨cd,hc,hd'⟩:=PySem.W.any_some hh
  have hx:s.heap.get? x=some ⟨.ref C,some dx,.plain,#[]⟩:=I.obj
  refine wpAny_bind (wpAny_pure (wpAny_bind (wpAny_bind (wpAny_loadPart hx (wpAny_bind (PySem.W.Looks.here (s:={ s with toks:=s.toks + 1 }) (PySem.W.looks_clsIn X hc) ?_))))))
  rw [hd']
  refine wpAny_pure (a:=some dx) (wpAny_bind (wpAny_pure (wpAny_bind ?_)))
  refine wpAny_nsSet1 (s:={ s with toks:=s.toks + 1 }) I.ns fun h' hn2 hs2=>?_
  obtain ⟨oD,esD,epD,hoD,hdD,hcD⟩:=hn2.count (PySem.Within.cons name v hw)
  refine wpAny_bind (wpAny_lookBehind hoD (by rw [hdD]; exact pastItsLine_dict (Nat.le_trans hcD (by rw [List.length_cons]; omega))) ?_)
  exact wpAny_pure (h _ ⟨(hs2.2 _ (Ne.symm I.ne)).trans I.obj,hn2,I.ne⟩ hs2)
theorem xlr {R:Result→Shared→Prop} {vs:List Value} {kw:List (Str × Value)} (X:K.In s.heap) (hm:PySem.W.makesIn K C=true)
    (hi:PySem.W.findIn K (.ref C) "__init__"=some (some (.ref f))) (hf:PySem.W.typeIn K (.ref f)=some (.type "function"))
    (h:codeAny (model prog w) (A.under (.builtin "type.__call__" ⟨.ref C :: vs,kw⟩)) (.call (.ref f) ⟨.ref (s.heap.objs.size + 1) :: vs,kw⟩) (PySem.W.InitBack (s.heap.objs.size + 1) R)
      { s with heap:=(s.heap.push PySem.W.emptyDict).push (PySem.W.instObj C s.heap.objs.size) }) :
    codeAny (model prog w) A (.call (.ref C) ⟨vs,kw⟩) R s:=by
  obtain ⟨hh,g,d,t,os⟩:=s
  exact PySem.W.make_core (PySem.W.makes_of X hm) (PySem.W.looks_findIn X hi) (fun self=>PySem.W.bind_fn X self hf) (.inl rfl) h
end
def putF (f:Str) (v:V):List (Str × V)→List (Str × V)
 | []=>[(f,v)]
 | (g,x) :: r=>if g=f then (g,v) :: r else (g,x) :: putF f v r
theorem xex (f g:Str) (v:V):∀ fs:List (Str × V),(putF f v fs).lookup g=if g=f then some v else fs.lookup g
 | []=>by
  show List.lookup g [(f,v)]=_
  by_cases h:g=f
  ·have hb:(g == f)=true:=beq_iff_eq.mpr h
   simp only [List.lookup,hb,if_pos h]
  ·have hb:(g == f)=false:=beq_eq_false_iff_ne.mpr h
   simp only [List.lookup,hb,if_neg h]
 | (k,x) :: r=>by
  have ih:=xex f g v r
  rw [show putF f v ((k,x) :: r)=(if k=f then (k,v) :: r else (k,x) :: putF f v r) from rfl]
  by_cases hk:k=f
  ·rw [if_pos hk]
   by_cases h:g=k
   ·have hb:(g == k)=true:=beq_iff_eq.mpr h
    simp only [List.lookup,hb,if_pos (h.trans hk)]
   ·have hb:(g == k)=false:=beq_eq_false_iff_ne.mpr h
    simp only [List.lookup,hb,if_neg (fun e:g=f=>h (e.trans hk.symm))]
  ·rw [if_neg hk]
   by_cases h:g=k
   ·have hb:(g == k)=true:=beq_iff_eq.mpr h
    simp only [List.lookup,hb,if_neg (fun e:g=f=>hk (h.symm.trans e))]
   ·have hb:(g == k)=false:=beq_eq_false_iff_ne.mpr h
    simp only [List.lookup,hb]
    exact ih
theorem xed (f:Str) (v:V):∀ fs:List (Str × V),f ∈ (putF f v fs).map (·.1)∧∀ g,g ∈ fs.map (·.1)→g ∈ (putF f v fs).map (·.1)
 | []=>⟨by simp [putF],fun g h=>by simp at h⟩
 | (k,x) :: r=>by
  obtain ⟨i1,i2⟩:=xed f v r
  rw [show putF f v ((k,x) :: r)=(if k=f then (k,v) :: r else (k,x) :: putF f v r) from rfl]
  by_cases hk:k=f
  ·rw [if_pos hk]
   subst hk
   exact ⟨by simp,fun g h=>by simpa using h⟩
  ·rw [if_neg hk]
   refine ⟨?_,fun g h=>?_⟩
   ·rw [List.map_cons]
    exact List.mem_cons_of_mem _ i1
   ·rw [List.map_cons] at h ⊢
    rcases List.mem_cons.mp h with e | e
    ·exact List.mem_cons.mpr (.inl e)
    ·exact List.mem_cons_of_mem _ (i2 g e)
theorem xes (f:Str) (v:V):∀ fs:List (Str × V),(putF f v fs).length≤fs.length + 1
 | []=>by simp [putF]
 | (k,x) :: r=>by
  have ih:=xes f v r
  rw [show putF f v ((k,x) :: r)=(if k=f then (k,v) :: r else (k,x) :: putF f v r) from rfl]
  by_cases hk:k=f
  ·rw [if_pos hk,List.length_cons,List.length_cons]; omega
  ·rw [if_neg hk,List.length_cons,List.length_cons]; omega
theorem RelO.some_of {v:V} {o:Option Value} (r:RelO (some v) o):∃ u,o=some u∧RelV v u:=by
 cases o with
 | none=>exact (show False from r).elim
 | some u=>exact ⟨u,rfl,r⟩
theorem RelO.none_of {o:Option Value} (r:RelO none o):o=none:=by
 cases o with
 | none=>rfl
 | some u=>exact (show False from r).elim
theorem xjy {v:V} {u:Value} (r:RelV v u):PySem.W.handedIn u=true:=by
 cases v with
 | non=>cases (show u=Value.none from r); rfl
 | bl b=>cases (show u=Value.bool b from r); rfl
 | int i=>obtain ⟨t,e⟩:=(show ∃ t,u=Value.int i t from r); cases e; rfl
 | str x=>obtain ⟨t,e⟩:=(show ∃ t,u=Value.str x t from r); cases e; rfl
 | byt b=>obtain ⟨t,e⟩:=(show ∃ t,u=Value.bytes b t from r); cases e; rfl
 | flt b=>obtain ⟨t,e⟩:=(show ∃ t,u=Value.float b t from r); cases e; rfl
 | ref a=>cases (show u=Value.ref a from r); rfl
 | ty n=>cases (show u=Value.type n from r); rfl
section
variable {P:Program} {w:World} {H H':Hp} {h h':Heap} {a C dx:Addr} {fs fs':List (Str × V)}
theorem xem (hok:HOk P w H h) (e:H a=some (.ins C dx fs)):∃ mA,ObjM h a dx C mA∧(∀ f,RelO (fs.lookup f) (mA f))∧PySem.Within mA (fs.map (·.1))∧fs.length≤1000∧H dx=some (.own a):=by
 obtain ⟨d,z,ne,ob,mA,n,r,q⟩:=(show xau P w H h a (.ins C dx fs) from hok a _ e)
 exact ⟨mA,⟨ob,n,ne⟩,r,q,z,d⟩
end
structure Cls (K:PySem.W.Frag) (C:Addr):Prop where
 pg:PySem.W.plainGet K C Str.empty=true
 hd:PySem.W.hasDictIn K C=true
 po:PySem.W.plainOver K C=true
 sa:PySem.W.findIn K (.ref C) "__setattr__"=some (some (.builtin "object.__setattr__"))
theorem Cls.get {K:PySem.W.Frag} {C:Addr} (c:Cls K C) (f:Str):PySem.W.plainGet K C f=true:=c.pg
def xc9 (K:PySem.W.Frag) (C:Addr) (f:Str):Prop:=PySem.W.findIn K (.ref C) f=some none
theorem xc9.taker {K:PySem.W.Frag} {C:Addr} {f:Str} (n:xc9 K C f):PySem.W.takerIn K C f=some none:=by
 unfold PySem.W.takerIn
 rw [show PySem.W.findIn K (.ref C) f=some none from n]
 rfl
structure Meth (K:PySem.W.Frag) (C:Addr) (m:Str) (f:Addr):Prop where
 at_:PySem.W.findIn K (.ref C) m=some (some (.ref f))
 fn:PySem.W.isFn K (.ref f)=true
 kp:PySem.W.keepIn K (.ref f)=true
section
variable {X:Cx} {pins:List (Addr × Obj)} {σ:St} {H:Hp} {s:Shared} {a C dx:Addr} {fs:List (Str × V)} {f:Str} {v:V} {A:Around} {E:Value→Shared→Prop}
theorem xi1 {b:Bool} {Q:Value→Shared→Prop} (I:Inv X pins σ H s) (e:H a=some (.ins C dx fs)) (c:Cls X.K C) (n:xc9 X.K C f) (l:fs.lookup f=some v)
    (h:∀ u s',Inv X pins σ H s'→RelV v u→Q u s'):wpAny (model X.prog X.w) A (getAttr (.ref a) f b) Q E s:=by
  obtain ⟨mA,O,r,_,_,_⟩:=xem I.hok e
  obtain ⟨u,hu,ru⟩:=RelO.some_of (v:=v) (o:=mA f) (by rw [← l]; exact r f)
  exact xm1 I.kIn O (c.get f) c.hd n hu (xjy ru) (h u _ (I.tok _) ru)
theorem xfd {m:Str} {g:Addr} {pl:Sem Bool} {Q:Value × List Value→Shared→Prop} (I:Inv X pins σ H s) (e:H a=some (.ins C dx fs)) (c:Cls X.K C) (k:Meth X.K C m g) (l:fs.lookup m=none)
    (h:Q (.ref g,[.ref a]) s):wpAny (model X.prog X.w) A (getMethod (.ref a) m pl) Q E s:=by
  obtain ⟨mA,O,r,_,_,_⟩:=xem I.hok e
  have hn:mA m=none:=RelO.none_of (by rw [← l]; exact r m)
  exact xls I.kIn O (c.get m) k.at_ k.fn hn h
theorem xiu {y:V} {u:Value} {Q:Unit→Shared→Prop} (I:Inv X pins σ H s) (e:H a=some (.ins C dx fs)) (c:Cls X.K C) (n:xc9 X.K C f) (hl:fs.length < 1000) (ry:RelV y u)
    (h:∀ s',Inv X pins σ (upd H a (.ins C dx (putF f y fs))) s'→Q () s'):wpAny (model X.prog X.w) A (setAttr (.ref a) f u) Q E s:=by
  obtain ⟨mA,O,r,wi,_,ho⟩:=xem I.hok e
  have hz:(fs.map (·.1)).length≤sizeLine:=by rw [List.length_map,sizeLine_eq]; omega
  refine xnb I.kIn O c.sa c.po n.taker c.hd wi hz fun h' O' sb=>h _ ?_
  have hd:∃ o,h'.get? dx=some o:=let ⟨o,_,_,e',_⟩:=O'.ns; ⟨o,e'⟩
  refine I.write (x:=a) (e:=dx) (by rw [e]; exact True.intro) (.inr ho) (fun b q hb z=>(sb.2 b hb).trans z) hd ?_
  refine ⟨by rw [xh O.ne]; exact ho,?_,O.ne,O'.obj,_,O'.ns,fun g=>?_,fun g hg=>?_⟩
  · have:=xes f y fs; omega
  · show RelO ((putF f y fs).lookup g) (if g=f then some u else mA g)
    rw [xex]
    by_cases q:g=f
    · rw [if_pos q,if_pos q]; exact ry
    · rw [if_neg q,if_neg q]; exact r g
  · by_cases q:g=f
    · rw [q]; exact (xed f y fs).1
    · refine (xed f y fs).2 g (wi g fun z=>hg ?_)
      show (if g=f then some u else mA g)=none
      rw [if_neg q]; exact z
theorem Inv.made (I:Inv X pins σ H s):Inv X pins σ (upd (upd H s.heap.objs.size (.own (s.heap.objs.size + 1))) (s.heap.objs.size + 1) (.ins C s.heap.objs.size []))
    { s with heap:=(s.heap.push PySem.W.emptyDict).push (PySem.W.instObj C s.heap.objs.size) }:=by
  have e1:(s.heap.push PySem.W.emptyDict).get? s.heap.objs.size=some PySem.W.emptyDict:=Heap.get?_push_size s.heap rfl
  have e2:((s.heap.push PySem.W.emptyDict).push (PySem.W.instObj C s.heap.objs.size)).get? (s.heap.objs.size + 1)=some (PySem.W.instObj C s.heap.objs.size):=by
    have:=Heap.get?_push_size (s.heap.push PySem.W.emptyDict) (o:=PySem.W.instObj C s.heap.objs.size) rfl
    rwa [Heap.size_push] at this
  have e3:(s.heap.push PySem.W.emptyDict).Ns s.heap.objs.size (fun _=>none):=⟨PySem.W.emptyDict,#[],_,e1,rfl,(fun e he=>absurd he (by simp)),fun _=>rfl⟩
  have I1:=I.laid (a:=s.heap.objs.size) (o:=.own (s.heap.objs.size + 1)) (h':=s.heap.push PySem.W.emptyDict) (t':=s.toks) (fun b u q=>Heap.get?_push_of_some _ q) (Nat.le_refl _) ⟨_,e1⟩
  refine I1.laid (a:=s.heap.objs.size + 1) (o:=.ins C s.heap.objs.size []) (t':=s.toks) (fun b u q=>Heap.get?_push_of_some _ q) (Nat.le_of_eq (Heap.size_push _ _)) ?_
  have ne:s.heap.objs.size≠s.heap.objs.size + 1:=Nat.ne_of_lt (Nat.lt_succ_self _)
  refine ⟨by rw [xh ne,xg],Nat.zero_le _,ne,e2,fun _=>none,(Heap.Ns1.of_empty e3).at fun o q=>Heap.get?_push_of_some _ q,fun _=>True.intro,fun y hy=>absurd rfl hy⟩
theorem xmv {prog:Program} {w:World} {env:Env} {e:Expr} {f:Str} {pos:Pos} {s:Shared} {Q:Value→Shared→Prop} (hb:attributeBase e f env (eval e env)=eval e env)
    (h:wpAny (model prog w) A (eval e env) (fun o s₁=>wpAny (model prog w) A (getAttr o f true) Q E s₁) E s):wpAny (model prog w) A (eval (.Attribute e f pos) env) Q E s :=
  Attribute_any_ h (by rw [arm_eval_Attribute,hb])
end
def tFld (K:PySem.W.Frag) (ta:TE) (f:Str):TE:=fun σ H Q=>ta σ H fun x H1=>∃ a C dx fs v,x=.ref a∧H1 a=some (.ins C dx fs)∧Cls K C∧xc9 K C f∧fs.lookup f=some v∧Q v H1
def sFld (K:PySem.W.Frag) (ta tv:TE) (f:Str):TS:=fun D σ H=>tv σ H fun y H1=>ta σ H1 fun x H2=>∃ a C dx fs,x=.ref a∧H2 a=some (.ins C dx fs)∧Cls K C∧xc9 K C f∧fs.length < 1000 ∧
 D.nx σ (upd H2 a (.ins C dx (putF f y fs)))
section
variable {X:Cx} {o e value:Expr} {f:Str} {pos pos' tpos:Pos} {ta tv:TE}
theorem xah (he:PE X e ta) (hb:attributeBase e f X.env (eval e X.env)=eval e X.env):PE X (.Attribute e f pos) (tFld X.K ta f):=by
 intro pins s σ H Q I h
 refine xmv hb (thn (he pins s σ H _ I h) fun u s1 ⟨x,H1,I1,rx,a,C,dx,fs,v,ex,ea,c,n,l,q⟩=>?_)
 subst ex
 obtain rfl:u=Value.ref a:=rx
 exact xi1 I1 ea c n l fun u' s2 I2 ru=>⟨v,H1,I2,ru,q⟩
theorem xc6 (ha:PE X o ta) (hv:PE X value tv) (hs:swapsWith value (some (.Attribute o f pos')) pos.line X.env=pure false):PS X (.Assign [.Attribute o f pos'] value pos) (sFld X.K ta tv f):=by
 intro pins s σ H D I h
 refine plainObj_wpAny_Assign_Attribute (thn (hv pins s σ H _ I h) fun u s1 ⟨y,H1,I1,ry,q⟩=>thn (ha pins s1 σ H1 _ I1 q) fun ov s2 ⟨x,H2,I2,rx,a,C,dx,fs,ex,ea,c,n,l,q2⟩=>?_) hs
 subst ex
 obtain rfl:ov=Value.ref a:=rx
 exact xiu I2 ea c n l ry fun s3 I3=>⟨σ,_,I3,q2⟩
end
section
variable {X:Cx} {pins:List (Addr × Obj)} {σ:St} {H:Hp} {s:Shared} {A:Around} {E:Value→Shared→Prop} {Q:Value→Shared→Prop} {c:Value} {b:Bool}
inductive TyOf (K:PySem.W.Frag) (H:Hp):V→Value→Prop where
  | non:TyOf K H .non (.type "NoneType")
  | bl (x:Bool):TyOf K H (.bl x) (.type "bool")
  | int (i:Int):TyOf K H (.int i) (.type "int")
  | str (x:Str):TyOf K H (.str x) (.type "str")
  | flt (x:UInt64):TyOf K H (.flt x) (.type "float")
  | lst {a:Addr} {xs:List V} (e:H a=some (.lst xs)):TyOf K H (.ref a) (.type "list")
  | frz {a:Addr} {o:Obj} {xs:List V} (e:H a=some (.frz o (.lst xs))):TyOf K H (.ref a) (.type "list")
  | tup {a:Addr} {xs:List V} (e:H a=some (.tup xs)):TyOf K H (.ref a) (.type "tuple")
  | dK {a:Addr} {kvs:List (Key × V)} (e:H a=some (.dK kvs)):TyOf K H (.ref a) (.type "dict")
  | dT {a:Addr} {kvs:List (List Key × V)} (e:H a=some (.dT kvs)):TyOf K H (.ref a) (.type "dict")
  | ins {a C dx:Addr} {fs:List (Str × V)} (e:H a=some (.ins C dx fs)) (cl:Cls K C) (ha:PySem.W.findIn K (.ref C) "__class__"=some (some (.builtin "object.__class__")))
      (hn:PySem.W.specialIn K (.builtin "object.__class__") "__get__"=some (some (.builtin "getset_descriptor.__get__"))) (htk:PySem.W.takesIn K (.builtin "object.__class__")=some true)
      (hm:PySem.W.mroIn K C (.type "object")=some true):TyOf K H (.ref a) (.ref C)
theorem xko {x:V} {u t:Value} (I:Inv X pins σ H s) (rx:RelV x u) (ty:TyOf X.K H x t) (e:PySem.W.kitOne X.K t c=some b) (h:∀ tk,Q (.bool b) { s with toks:=tk }) :
    wpAny (model X.prog X.w) A (call (.builtin "isinstance") [u,c]) Q E s:=by
  cases ty with
  | non=>cases (show u=Value.none from rx); exact PySem.W.kia_one PySem.W.kitx_none I.kIn True.intro e (fun z=>nomatch z) h
  | bl y=>cases (show u=Value.bool y from rx); exact PySem.W.kia_one PySem.W.kitx_bool I.kIn True.intro e (fun z=>nomatch z) h
  | int i=>obtain ⟨t,q⟩:=(show ∃ t,u=Value.int i t from rx); cases q; exact PySem.W.kia_one PySem.W.kitx_int I.kIn True.intro e (fun z=>nomatch z) h
  | str y=>obtain ⟨t,q⟩:=(show ∃ t,u=Value.str y t from rx); cases q; exact PySem.W.kia_one PySem.W.kitx_str I.kIn True.intro e (fun z=>nomatch z) h
  | flt y=>obtain ⟨t,q⟩:=(show ∃ t,u=Value.float y t from rx); cases q; exact PySem.W.kia_one PySem.W.kitx_float I.kIn True.intro e (fun z=>nomatch z) h
  | @lst a xs ea =>
    cases (show u=Value.ref a from rx)
    obtain ⟨_,_,n,_,h1⟩:=(show xau X.prog X.w H s.heap a (.lst xs) from I.hok a _ ea)
    exact PySem.W.kia_one PySem.W.kitx_list I.kIn ⟨_,h1,rfl⟩ e (fun z=>nomatch z) h
  | @frz a ob xs ea =>
    cases (show u=Value.ref a from rx)
    obtain ⟨_,_,_,n,_,h1⟩:=(show xau X.prog X.w H s.heap a (.frz ob (.lst xs)) from I.hok a _ ea)
    exact PySem.W.kia_one PySem.W.kitx_list I.kIn ⟨_,h1,rfl⟩ e (fun z=>nomatch z) h
  | @tup a xs ea =>
    cases (show u=Value.ref a from rx)
    obtain ⟨_,_,_,p⟩:=(show xau X.prog X.w H s.heap a (.tup xs) from I.hok a _ ea)
    obtain ⟨o,h1,h2,_⟩:=p
    exact PySem.W.kia_one PySem.W.kitx_tuple I.kIn ⟨o,h1,h2⟩ e (fun z=>nomatch z) h
  | @dK a kvs ea =>
    cases (show u=Value.ref a from rx)
    obtain ⟨_,_,vs,_,p⟩:=(show xau X.prog X.w H s.heap a (.dK kvs) from I.hok a _ ea)
    obtain ⟨o,es,ep,h1,h2,_⟩:=p
    exact PySem.W.kia_one PySem.W.kitx_dict I.kIn ⟨o,h1,h2.1⟩ e (fun z=>nomatch z) h
  | @dT a kvs ea =>
    cases (show u=Value.ref a from rx)
    obtain ⟨_,_,xs,_,o,es,ep,h1,h2,_⟩:=(show xau X.prog X.w H s.heap a (.dT kvs) from I.hok a _ ea)
    exact PySem.W.kia_one PySem.W.kitx_dict I.kIn ⟨o,h1,h2.1⟩ e (fun z=>nomatch z) h
  | @ins a C dx fs ea cl ha hn htk hm =>
    cases (show u=Value.ref a from rx)
    obtain ⟨mA,O,_⟩:=xem I.hok ea
    obtain ⟨od,J,_⟩:=O.look
    exact PySem.W.kia_one (PySem.W.kitx_own (cl.get _) cl.hd ha hn htk hm) I.kIn J e (fun z=>nomatch z) h
end
end L2
namespace L2
open PySem PySem.Spec PyProof.Rows
variable {q0:Bool}
structure Room (q0:Bool) (k:Nat) (A:Around):Prop where
 hd:q0=true→A.handled=none
 dp:A.depth + 3 * k + 5 < recursionLimit
 un:A.units + 16 * k + 200 < cLine
theorem Room.mono {j k:Nat} {A:Around} (r:Room q0 k A) (h:j≤k):Room q0 j A:=⟨r.hd,by have:=r.dp; omega,by have:=r.un; omega⟩
theorem Room.deeper {k:Nat} {A:Around} (r:Room q0 (k + 1) A) (env:Env):Room q0 k (A.deeper env) :=
 ⟨r.hd,by have:=r.dp; show A.depth + 1 + 3 * k + 5 < _; omega,by have:=r.un; show A.units + 3 + 16 * k + 200 < _; omega⟩
theorem xi9 {A:Around} {C:Addr} {us:List Value} {kw:List (Str × Value)}:(A.under (.builtin "type.__call__" ⟨.ref C :: us,kw⟩)).depth=A.depth + 1:=by
 first | rfl | simp [Around.under,Code.weight,Code.isCreation,Code.isGuard,Code.isCaller,Code.frames,Code.isFrame,guardIds]
theorem xi4 {A:Around} {C:Addr} {us:List Value} {kw:List (Str × Value)}:(A.under (.builtin "type.__call__" ⟨.ref C :: us,kw⟩)).units=A.units + 1:=by
 first | rfl | simp [Around.under,Code.cUnits,Code.frames,Code.isFrame]
theorem Room.make {k:Nat} {A:Around} (r:Room q0 (k + 1) A) (C:Addr) (us:List Value) (kw:List (Str × Value)):Room q0 k (A.under (.builtin "type.__call__" ⟨.ref C :: us,kw⟩)) :=
 ⟨r.hd,by have:=r.dp; rw [xi9]; omega,by have:=r.un; rw [xi4]; omega⟩
theorem Room.depth {k:Nat} {A:Around} (r:Room q0 k A):A.depth < recursionLimit:=by have:=r.dp; omega
theorem Room.units {k:Nat} {A:Around} (r:Room q0 k A):A.units + 64 < cLine:=by have:=r.un; omega
def tNil:TA:=fun _ H Q=>Q [] H
def xl4 (ta:TE) (tr:TA):TA:=fun σ H Q=>ta σ H fun x H1=>tr σ H1 fun xs H2=>Q (x :: xs) H2
section
variable {X:Cx} {e:Expr} {es:List Expr} {te:TE} {t:TA} {pos:Pos}
theorem xj:PA X [] tNil:=fun _ _ _ _ H Q I h=>Calls.spliced_nil ⟨[],H,I,.nil,h⟩
theorem xa (ha:PE X e te) (hr:PA X es t) (hs:starEach (e :: es) X.env=(false,eval e X.env) :: starEach es X.env:=by rfl):PA X (e :: es) (xl4 te t):=by
 intro pos pins s σ H Q I h
 rw [hs]
 show wpAny _ _ (spliced ((false,eval e X.env) :: backTo pos (starEach es X.env))) _ _ s
 refine Calls.spliced_cons (thn (ha pins s σ H _ I h) fun u s1 ⟨x,H1,I1,r1,q1⟩=>?_)
 exact thn (hr pos pins s1 σ H1 _ I1 q1) fun us s2 ⟨xs,H2,I2,r2,q2⟩=>⟨x :: xs,H2,I2,.cons r1 r2,q2⟩
def tTup (t:TA):TE:=fun σ H Q=>t σ H fun xs H1=>xs.length≤sizeLine∧∀ p,H1 p=none→Q (.ref p) (upd H1 p (.tup xs))
def tLst (t:TA):TE:=fun σ H Q=>t σ H fun xs H1=>xs.length≤sizeLine∧∀ p,H1 p=none→Q (.ref p) (upd H1 p (.lst xs))
theorem xay {x1} (h:PA X es t):PE X (.Tuple es x1 pos) (tTup t):=by
 intro pins s σ H Q I hq
 refine wpAny_Tuple_spliced (thn (h pos pins s σ H _ I hq) fun us s1 ⟨xs,H1,I1,r,z,q⟩=>⟨by rw [← r.length]; exact z,?_⟩)
 have hf:H1 s1.heap.objs.size=none:=I1.hok.fresh (Nat.le_refl _)
 refine ⟨.ref s1.heap.objs.size,upd H1 s1.heap.objs.size (.tup xs),I1.laid (t':=s1.toks) (fun b u e=>Heap.get?_push_of_some _ e) (Nat.le_refl _) ?_,rfl,q _ hf⟩
 exact ⟨z,us,r,⟨_,Heap.get?_push_size _ rfl,rfl,_,rfl⟩⟩
theorem xbh (h:PA X es t):PE X (.List es pos) (tLst t):=by
 intro pins s σ H Q I hq
 refine wpAny_List_spliced (thn (h pos pins s σ H _ I hq) fun us s1 ⟨xs,H1,I1,r,z,q⟩=>⟨by rw [← r.length]; exact z,?_⟩)
 have hf:H1 s1.heap.objs.size=none:=I1.hok.fresh (Nat.le_refl _)
 refine ⟨.ref s1.heap.objs.size,upd H1 s1.heap.objs.size (.lst xs),I1.laid (t':=s1.toks) (fun b u e=>Heap.get?_push_of_some _ e) (Nat.le_refl _) ?_,rfl,q _ hf⟩
 exact ⟨z,us,0,r,Heap.get?_push_size _ rfl⟩
end
abbrev Sp:=List V→Hp→VK→XK→Prop
abbrev CXT:=List Env→Hp→Shared→XK→Value→Shared→Prop
structure Env0 (P:Program) (w:World) (K:PySem.W.Frag) (mg:Str→Option Value) (base:Heap) (A:Around) (outer:List Env) (s:Shared) (H:Hp):Prop where
 frames:A.frames=some outer
 mod:Mod K mg base
 bs:∀ b o,base.get? b=some o→s.heap.get? b=some o∧H b=none
 bsz:base.objs.size≤s.heap.objs.size
 funs:s.heap.FunFrames base outer
 frf:∀ b ∈ frs outer,H b=none
 hok:HOk P w H s.heap
 bare:AllBare s.gens
def CE (outer:List Env) (P:Program) (w:World) (H:Hp) (s:Shared) (Q:VK) (u:Value) (s':Shared):Prop :=
 ∃ v H',s'.os=s.os∧AllBare s'.gens∧Un (frs outer) [] H H' s.heap s'.heap∧HOk P w H' s'.heap∧RelV v u∧Q v H'
def CR (CX:CXT) (outer:List Env) (P:Program) (w:World) (H:Hp) (s:Shared) (Q:VK) (E:XK) (r:Result) (s':Shared):Prop :=
 match r with
 | .ok (.ret u)=>CE outer P w H s Q u s'
 | .ok _=>False
 | .error e=>CX outer H s E e s'
structure FnOk (q0:Bool) (P:Program) (w:World) (K:PySem.W.Frag) (mg:Str→Option Value) (base:Heap) (CX:CXT) (k:Nat) (f:Addr) (fd:FuncData) (ps:List Str) (sp:Sp):Prop where
 len:∀ vs H Q E,sp vs H Q E→vs.length=ps.length
 run:∀ (A:Around) (outer:List Env) (s:Shared) (H:Hp) (args:Args) (us:List Value) (vs:List V) (Q:VK) (E:XK),Room q0 k A→Env0 P w K mg base A outer s H→BindsTo s fd args (ps.zip us)→Vals vs us→sp vs H Q E →
  codeAny (model P w) A (.call (.ref f) args) (CR CX outer P w H s Q E) s
theorem Env0.make {P:Program} {w:World} {K:PySem.W.Frag} {mg:Str→Option Value} {base:Heap} {A:Around} {outer:List Env} {s:Shared} {H:Hp} (e:Env0 P w K mg base A outer s H) (C:Addr) (us:List Value) (kw:List (Str × Value)) :
    Env0 P w K mg base (A.under (.builtin "type.__call__" ⟨.ref C :: us,kw⟩)) outer s H:=⟨by first | exact e.frames | (simpa [Around.under,Code.envs,Code.isFrame,pushEnvs] using e.frames),e.mod,e.bs,e.bsz,e.funs,e.frf,e.hok,e.bare⟩
section
variable {X:Cx} {pins:List (Addr × Obj)} {σ:St} {H:Hp} {s s':Shared}
theorem Inv.env0 (I:Inv X pins σ H s):Env0 X.prog X.w X.K X.mg X.base X.A X.stack s H :=
 ⟨I.ok.frames,I.ok.mod,I.bs,Nat.le_trans I.ok.bsz I.sz,I.stack,I.stkFree,I.hok,I.bare⟩
theorem Inv.after {Q:VK} {u:Value} (I:Inv X pins σ H s) (h:CE X.stack X.prog X.w H s Q u s'):EP X pins σ Q u s':=by
 obtain ⟨v,H',os,bare,un,hok,r,q⟩:=h
 obtain ⟨hh,g,d,t,os'⟩:=s'
 obtain rfl:os'=s.os:=os
 exact ⟨v,H',I.call (h':=hh) (g':=g) (d':=d) (t':=t) (ch:=[]) un hok bare (fun b z=>absurd z (by simp)),r,q⟩
end
def xo9 (sp:Sp) (dvs:List V) (E:St→XK) (t:TA):TE:=fun σ H Q=>t σ H fun vs H1=>sp (vs ++ dvs) H1 Q (E σ)
def xl8 (C:Addr) (m:Str) (sp:Sp) (dvs:List V) (E:St→XK) (ta:TE) (t:TA):TE:=fun σ H Q=>ta σ H fun x H1=>∃ a dx fs,x=.ref a∧H1 a=some (.ins C dx fs)∧fs.lookup m=none ∧
 t σ H1 fun vs H2=>sp (x :: (vs ++ dvs)) H2 Q (E σ)
def xl2 (C:Addr) (sp:Sp) (dvs:List V) (E:St→XK) (t:TA):TE:=fun σ H Q=>t σ H fun vs H1=>∀ x dx,H1 x=none→H1 dx=none→dx≠x →
 sp (.ref x :: (vs ++ dvs)) (upd (upd H1 dx (.own x)) x (.ins C dx [])) (fun v H2=>v=.non∧Q (.ref x) H2) (E σ)
def xab (K:PySem.W.Frag) (fd:FuncData) (ps:List Str) (ds:List Value):Prop :=
 ∀ (s:Shared) (us:List Value),K.In s.heap→(us ++ ds).length=ps.length→BindsTo s fd ⟨us,[]⟩ (ps.zip (us ++ ds))
theorem xab.all {K:PySem.W.Frag} {fd:FuncData} {ps:List Str} (h:∀ us:List Value,us.length=ps.length→bindArgs fd ⟨us,[]⟩=pure (ps.zip us)):xab K fd ps []:=fun s us _ hl=>by
 rw [List.append_nil] at hl ⊢
 exact .of_eq (h us hl)
def xcv (CX:CXT) (X:Cx) (E:St→XK):Prop:=∀ (pins:List (Addr × Obj)) (σ:St) (H:Hp) (s:Shared) (e:Value) (s':Shared),Inv X pins σ H s→CX X.stack H s (E σ) e s'→X.xe e s'
section
variable {X:Cx} {CX:CXT} {k:Nat} {f C:Addr} {fd:FuncData} {ps:List Str} {sp:Sp} {dvs:List V} {ds:List Value} {E:St→XK} {x m:Str} {p pos apos:Pos} {e o:Expr} {es:List Expr} {ta:TE} {t:TA}
theorem xhj {pins:List (Addr × Obj)} {σ:St} {H:Hp} {s:Shared} {Q:VK} {us:List Value} {vs:List V} (F:FnOk q0 X.prog X.w X.K X.mg X.base CX k f fd ps sp) (hr:Room q0 k X.A) (hb:xab X.K fd ps ds) (hd:Vals dvs ds) (hx:xcv CX X E)
    (I:Inv X pins σ H s) (r:Vals vs us) (h:sp (vs ++ dvs) H Q (E σ)):wpAny (model X.prog X.w) X.A (call (.ref f) us) (EP X pins σ Q) X.xe s:=by
  have r2:Vals (vs ++ dvs) (us ++ ds):=r.append hd
  have hl:(us ++ ds).length=ps.length:=by rw [← r2.length]; exact F.len _ _ _ _ h
  refine wpAny_call (codeAny_mono (F.run X.A X.stack s H ⟨us,[]⟩ (us ++ ds) (vs ++ dvs) Q (E σ) hr I.env0 (hb s us I.kIn hl) r2 h) fun r s' hq=>?_)
  cases r with
  | error e=>exact hx pins σ H s e s' I hq
  | ok fl =>
    cases fl with
    | ret u=>exact I.after hq
    | next=>exact False.elim hq
    | brk=>exact False.elim hq
    | cont=>exact False.elim hq
theorem xv (F:FnOk q0 X.prog X.w X.K X.mg X.base CX k f fd ps sp) (hr:Room q0 k X.A) (hg:Gl X x) (hm:X.mg x=some (.ref f)) (hk:PySem.W.keepIn X.K (.ref f)=true) (hb:xab X.K fd ps ds) (hd:Vals dvs ds) (hx:xcv CX X E)
    (ha:PA X (e :: es) t) (hdb:(x == ("__debug__":Str))=false:=by decide) (he:starEach (e :: es) X.env=(false,eval e X.env) :: starEach es X.env:=by rfl) (hpl:(backTo pos (starEach es X.env)).any (·.1)=false:=by rfl) :
    PE X (.Call (.Name x p) (e :: es) [] pos) (xo9 sp dvs E t):=by
  intro pins s σ H Q I h
  refine wpAny_Call_Name_kw (xej I hg hm ?_ hdb)
  refine PySem.W.callWith_K (h₀:=X.base) I.ok.mod.kin hk (thn (ha pos pins s σ H _ I h) fun us s1 ⟨vs,H1,I1,r,q⟩=>⟨I1.kIn,?_⟩) he hpl
  exact xhj F hr hb hd hx I1 r q
theorem xaw {pl:Sem Bool} (he:PE X o ta) (c:Cls X.K C) (hm:Meth X.K C m f) (F:FnOk q0 X.prog X.w X.K X.mg X.base CX k f fd ps sp) (hr:Room q0 k X.A) (hb:xab X.K fd ps ds) (hd:Vals dvs ds) (hx:xcv CX X E) (ha:PA X (e :: es) t)
    (hst:starEach (e :: es) X.env=(false,eval e X.env) :: starEach es X.env:=by rfl) (hpl:(backTo pos (starEach es X.env)).any (·.1)=false:=by rfl)
    (ht:eval (.Call (.Attribute o m apos) (e :: es) [] pos) X.env=(do
      let ov ← eval o X.env
      standAt apos.atName
      let (f,first) ← holding [ov] (getMethod ov m pl)
      callWith pos f first (backTo pos (starEach (e :: es) X.env)) (backToKw pos (keywordEach [] X.env))):=by rfl) :
    PE X (.Call (.Attribute o m apos) (e :: es) [] pos) (xl8 C m sp dvs E ta t):=by
  intro pins s σ H Q I h
  refine PySem.W.methodCall_KW (pl:=pl) (thn (he pins s σ H _ I h) fun u s1 ⟨x,H1,I1,rx,a,dx,fs,ex,ea,l,q⟩=>?_) ht
  subst ex
  obtain rfl:u=Value.ref a:=rx
  refine xfd I1 ea c hm l ?_
  refine PySem.W.callWith_K (first:=[.ref a]) (h₀:=X.base) I.ok.mod.kin hm.kp (thn (ha pos pins s1 σ H1 _ I1 q) fun us s2 ⟨vs,H2,I2,r,q2⟩=>⟨I2.kIn,?_⟩) hst hpl
  exact xhj (us:=.ref a :: us) (vs:=.ref a :: vs) F hr hb hd hx I2 (.cons rfl r) q2
theorem xbs {pl:Sem Bool} (he:PE X o ta) (c:Cls X.K C) (hm:Meth X.K C m f) (F:FnOk q0 X.prog X.w X.K X.mg X.base CX k f fd ps sp) (hr:Room q0 k X.A) (hb:xab X.K fd ps ds) (hd:Vals dvs ds) (hx:xcv CX X E)
    (ht:eval (.Call (.Attribute o m apos) [] [] pos) X.env=(do
      let ov ← eval o X.env
      standAt apos.atName
      let (f,first) ← holding [ov] (getMethod ov m pl)
      callWith pos f first (backTo pos (starEach [] X.env)) (backToKw pos (keywordEach [] X.env))):=by rfl) :
    PE X (.Call (.Attribute o m apos) [] [] pos) (xl8 C m sp dvs E ta tNil):=by
  intro pins s σ H Q I h
  refine PySem.W.methodCall_KW (pl:=pl) (thn (he pins s σ H _ I h) fun u s1 ⟨x,H1,I1,rx,a,dx,fs,ex,ea,l,q⟩=>?_) ht
  subst ex
  obtain rfl:u=Value.ref a:=rx
  refine xfd I1 ea c hm l ?_
  exact PySem.W.callWith_K0 (first:=[.ref a]) I1.kIn hm.kp (xhj (us:=[.ref a]) (vs:=[.ref a]) F hr hb hd hx I1 (.cons rfl .nil) q)
structure Mk (K:PySem.W.Frag) (C f:Addr):Prop where
 makes:PySem.W.makesIn K C=true
 init:PySem.W.findIn K (.ref C) "__init__"=some (some (.ref f))
 fn:PySem.W.isFn K (.ref f)=true
 kp:PySem.W.keepIn K (.ref C)=true
theorem xhx {pins:List (Addr × Obj)} {σ:St} {H:Hp} {s:Shared} {Q:VK} {us:List Value} {vs:List V} (M:Mk X.K C f) (F:FnOk q0 X.prog X.w X.K X.mg X.base CX k f fd ps sp) (hr:Room q0 (k + 1) X.A) (hb:xab X.K fd ps ds) (hd:Vals dvs ds)
    (hx:xcv CX X E) (I:Inv X pins σ H s) (r:Vals vs us)
    (h:∀ x dx,H x=none→H dx=none→dx≠x→sp (.ref x :: (vs ++ dvs)) (upd (upd H dx (.own x)) x (.ins C dx [])) (fun v H2=>v=.non∧Q (.ref x) H2) (E σ)) :
    wpAny (model X.prog X.w) X.A (call (.ref C) us) (EP X pins σ Q) X.xe s:=by
  have hq:=h (s.heap.objs.size + 1) s.heap.objs.size (I.hok.fresh (Nat.le_succ _)) (I.hok.fresh (Nat.le_refl _)) (Nat.ne_of_lt (Nat.lt_succ_self _))
  have I2:=Inv.made (C:=C) I
  have r2:Vals (V.ref (s.heap.objs.size + 1) :: (vs ++ dvs)) (Value.ref (s.heap.objs.size + 1) :: (us ++ ds)):=.cons rfl (r.append hd)
  have hl:(Value.ref (s.heap.objs.size + 1) :: us ++ ds).length=ps.length:=by
    have e:=r2.length
    rw [F.len _ _ _ _ hq] at e
    exact e.symm
  refine wpAny_call (xlr (f:=f) I.kIn M.makes M.init (beq_iff_eq.mp M.fn) (codeAny_mono (F.run _ X.stack _ _ ⟨Value.ref (s.heap.objs.size + 1) :: us,[]⟩ (Value.ref (s.heap.objs.size + 1) :: (us ++ ds)) _ _ (E σ) (hr.make C us [])
    (I2.env0.make C us []) (hb _ (Value.ref (s.heap.objs.size + 1) :: us) I2.kIn hl) r2 hq) fun r s' hq'=>?_))
  cases r with
  | error e=>exact hx pins σ _ _ e s' I2 hq'
  | ok fl =>
    cases fl with
    | ret u =>
      obtain ⟨v,H',I3,rv,ev,q3⟩:=I2.after hq'
      subst ev
      exact ⟨rv,⟨V.ref (s.heap.objs.size + 1),H',I3,rfl,q3⟩⟩
    | next=>exact False.elim hq'
    | brk=>exact False.elim hq'
    | cont=>exact False.elim hq'
theorem xf4 (M:Mk X.K C f) (F:FnOk q0 X.prog X.w X.K X.mg X.base CX k f fd ps sp) (hr:Room q0 (k + 1) X.A) (hg:Gl X x) (hm:X.mg x=some (.ref C)) (hb:xab X.K fd ps ds) (hd:Vals dvs ds) (hx:xcv CX X E)
    (ha:PA X (e :: es) t) (hdb:(x == ("__debug__":Str))=false:=by decide) (he:starEach (e :: es) X.env=(false,eval e X.env) :: starEach es X.env:=by rfl) (hpl:(backTo pos (starEach es X.env)).any (·.1)=false:=by rfl) :
    PE X (.Call (.Name x p) (e :: es) [] pos) (xl2 C sp dvs E t):=by
  intro pins s σ H Q I h
  refine wpAny_Call_Name_kw (xej I hg hm ?_ hdb)
  refine PySem.W.callWith_K (h₀:=X.base) I.ok.mod.kin M.kp (thn (ha pos pins s σ H _ I h) fun us s1 ⟨vs,H1,I1,r,q⟩=>⟨I1.kIn,?_⟩) he hpl
  exact xhx M F hr hb hd hx I1 r q
theorem xlc (M:Mk X.K C f) (F:FnOk q0 X.prog X.w X.K X.mg X.base CX k f fd ps sp) (hr:Room q0 (k + 1) X.A) (hg:Gl X x) (hm:X.mg x=some (.ref C)) (hb:xab X.K fd ps ds) (hd:Vals dvs ds) (hx:xcv CX X E)
    (hdb:(x == ("__debug__":Str))=false:=by decide):PE X (.Call (.Name x p) [] [] pos) (xl2 C sp dvs E tNil):=by
  intro pins s σ H Q I h
  refine wpAny_Call_Name_kw (xej I hg hm ?_ hdb)
  exact PySem.W.callWith_K0 I.kIn M.kp (xhx (us:=[]) M F hr hb hd hx I .nil h)
end
section
variable {X:Cx} {CX:CXT} {k:Nat} {f C:Addr} {fd:FuncData} {ps ks:List Str} {sp:Sp} {E:St→XK} {x m:Str} {p pos apos kpos:Pos} {e o:Expr} {es:List Expr} {kws:List Keyword} {te ta:TE} {t tk:TA} {nm:Option Str}
variable {g:List Value→List Value→List Value} {gV:List V→List V→List V}
end
structure x5 (N P:List Str) (sc:Scope):Prop where
 kind:sc.kind=.function
 co:sc.isCoroutine=false
 gen:sc.isGenerator=false
 nd:N.Nodup
 pre:N.take P.length=P
 par:∀ x ∈ P,sc.names.lookup x=some .local∨sc.names.lookup x=some .cell
 nofree:∀ y ∈ sc.names,y.2≠.free
theorem xgd {kindOf:Str→Option NameKind} {x:Str}:∀ {binds:List (Str × Value)} {m:Str→Option Value},(∀ v,(x,v) ∉ binds)→bindL kindOf binds m x=m x
 | [],_,_=>rfl
 | (n,v) :: r,m,h=>by
  unfold bindL
  rw [xgd fun w hw=>h w (List.mem_cons_of_mem _ hw)]
  split
  ·have:x≠n:=by rintro rfl; exact h v List.mem_cons_self
   simp [this]
  ·rfl
theorem xf9 {kindOf:Str→Option NameKind} {x:Str}:∀ {binds:List (Str × Value)} {m:Str→Option Value},(∀ v,(x,v) ∉ binds)→bindC kindOf binds m x=m x
 | [],_,_=>rfl
 | (n,v) :: r,m,h=>by
  unfold bindC
  rw [xf9 fun w hw=>h w (List.mem_cons_of_mem _ hw)]
  split
  ·rfl
  ·have:x≠n:=by rintro rfl; exact h v List.mem_cons_self
   simp [this]
theorem xgf {kindOf:Str→Option NameKind} {x:Str} {v:Value}:∀ {P:List Str} {vs:List Value} {i:Nat} {m:Str→Option Value},P.Nodup→P[i]?=some x→vs[i]?=some v→kindOf x=some .local →
    bindL kindOf (P.zip vs) m x=some v
  | [],_,_,_,_,h,_,_=>by simp at h
  | _ :: _,[],_,_,_,_,h,_=>by simp at h
  | p :: P,w :: vs,0,m,nd,h1,h2,hk=>by
    simp at h1 h2; subst h1; subst h2
    show bindL kindOf ((p,w) :: P.zip vs) m p=_
    unfold bindL
    rw [xgd fun v hv=>(List.nodup_cons.mp nd).1 (List.of_mem_zip hv).1,if_pos hk]
    simp
  | p :: P,w :: vs,i + 1,m,nd,h1,h2,hk=>by
    show bindL kindOf ((p,w) :: P.zip vs) m x=_
    unfold bindL
    exact xgf (i:=i) (List.nodup_cons.mp nd).2 (by simpa using h1) (by simpa using h2) hk
theorem xge {kindOf:Str→Option NameKind} {x:Str} {v:Value}:∀ {P:List Str} {vs:List Value} {i:Nat} {m:Str→Option Value},P.Nodup→P[i]?=some x→vs[i]?=some v→kindOf x≠some .local →
    bindC kindOf (P.zip vs) m x=some v
  | [],_,_,_,_,h,_,_=>by simp at h
  | _ :: _,[],_,_,_,_,h,_=>by simp at h
  | p :: P,w :: vs,0,m,nd,h1,h2,hk=>by
    simp at h1 h2; subst h1; subst h2
    show bindC kindOf ((p,w) :: P.zip vs) m p=_
    unfold bindC
    rw [xf9 fun v hv=>(List.nodup_cons.mp nd).1 (List.of_mem_zip hv).1,if_neg hk]
    simp
  | p :: P,w :: vs,i + 1,m,nd,h1,h2,hk=>by
    show bindC kindOf ((p,w) :: P.zip vs) m x=_
    unfold bindC
    exact xge (i:=i) (List.nodup_cons.mp nd).2 (by simpa using h1) (by simpa using h2) hk
def start (N:List Str) (vs:List V):St:=vs.map some ++ List.replicate (N.length - vs.length) none
def cxOf (q0:Bool) (CX:CXT) (P:Program) (w:World) (K:PySem.W.Frag) (mg:Str→Option Value) (base:Heap) (N:List Str) (qual:Str) (scope:Scope) (f:Addr) (cd:Value) (A:Around) (outer:List Env) (s:Shared) (H:Hp) (E:XK):Cx where
 prog:=P
 w:=w
 K:=K
 mg:=mg
 base:=base
 A:=A.deeper (envOfC qual scope s.heap.objs.size f cd)
 N:=N
 s₀:=s
 H₀:=H
 env:=envOfC qual scope s.heap.objs.size f cd
 outer:=outer
 stack:=envOfC qual scope s.heap.objs.size f cd :: outer
 ex:=[]
 calm:=q0
 fn:=fun _=>true
 pn:=[]
 xe:=fun e s'=>wpAny (model P w) (A.deeper (envOfC qual scope s.heap.objs.size f cd)) (leaving (envOfC qual scope s.heap.objs.size f cd) e) (fun _ s''=>CX outer H s E e s'') (fun e' s''=>CX outer H s E e' s'') s'
theorem xht {sc:Scope} {n:Nat} {x:Str} (h:sc.names.lookup x=some .cell):∃ c,(cellsFrom n sc.names []).lookup x=some c:=by
 have q:=PySem.W.cellsFrom_some sc.names n [] (.inl h)
 exact Option.isSome_iff_exists.mp q
theorem xju {CX:CXT} {P:Program} {w:World} {K:PySem.W.Frag} {mg:Str→Option Value} {base:Heap} {N ps:List Str} {qual:Str} {scope:Scope} {f:Addr} {cd:Value} {A:Around} {outer:List Env} {s s1:Shared} {H:Hp} {E:XK} {us:List Value} {vs:List V}
    (S:x5 N ps scope) (hd:q0=true→A.handled=none) (e0:Env0 P w K mg base A outer s H) (hl:vs.length=ps.length) (r:Vals vs us)
    (x:InCallC s s.heap.objs.size (bindL (envOfC qual scope s.heap.objs.size f cd).kindOf (ps.zip us) fun _=>none) (cellsFrom (s.heap.objs.size + 1) scope.names []) (bindC (envOfC qual scope s.heap.objs.size f cd).kindOf (ps.zip us) fun _=>none) s1) :
    Inv (cxOf q0 CX P w K mg base N qual scope f cd A outer s H E) [] (start N vs) H s1:=by
  have hpl:ps.length≤N.length:=by have:=congrArg List.length S.pre; rw [List.length_take] at this; omega
  obtain ⟨h1,tk,rfl,hk⟩:=x.done
  have noA:∀ b:Addr,b ∉ (cxOf q0 CX P w K mg base N qual scope f cd A outer s H E).ex:=fun b z=>absurd (show b ∈ ([]:List Addr) from z) (by simp)
  refine ⟨⟨e0.mod,S.kind,rfl,rfl,Nat.le_refl _,fun y z c h1 h2=>?_,fun y hy=>?_,fun y c _ h=>?_,hd,Around.frames_deeper e0.frames,.inr ⟨rfl,rfl⟩,fun b z=>absurd z (noA b),e0.bs,e0.bsz,fun b _ _=>noA b,fun b z=>absurd z (noA b),e0.funs,e0.frf⟩,
    rfl,e0.bare,Un.kept hk,⟨_,x.toInCall.ns,fun i y v h1 h2 h3=>?_⟩,fun y c h=>⟨_,x.cell y c h⟩,e0.hok.fresh (Nat.le_refl _),fun y c h=>?_,fun p hp=>absurd (show p ∈ ([]:List (Addr × Obj)) from hp) (by simp),e0.hok.kept hk,?_⟩
  · exact name_of_addr x.apart (PySem.mem_of_lookup h1) (PySem.mem_of_lookup h2)
  · have hy:scope.names.lookup y=some .cell∨scope.names.lookup y=some .free:=hy
    rcases hy with hy | hy
    · exact xht hy
    · exact absurd rfl (S.nofree _ (PySem.mem_of_lookup hy))
  · exact Nat.le_of_lt (x.above y c (PySem.mem_of_lookup h))
  · have hi:i < vs.length:=by
      unfold start at h2
      by_cases hi:i < vs.length
      · exact hi
      · rw [List.getElem?_append_right (by simpa using hi)] at h2
        rw [List.getElem?_replicate] at h2
        split at h2 <;> cases h2
    have ha:vs[i]?=some v:=by
      unfold start at h2
      rw [List.getElem?_append_left (by simpa using hi),List.getElem?_map] at h2
      cases e:vs[i]? with
      | none=>rw [e] at h2; cases h2
      | some a=>rw [e] at h2; cases h2; rfl
    obtain ⟨u,hu,rv⟩:=r.get ha
    have hp:ps[i]?=some y:=by
      rw [← S.pre,List.getElem?_take_of_lt (by omega)]; exact h1
    have ndP:ps.Nodup:=by rw [← S.pre]; exact S.nd.sublist (List.take_sublist _ _)
    refine ⟨u,rv,?_⟩
    rcases S.par y (List.mem_of_getElem? hp) with k | k
    · exact .inl ⟨k,xgf ndP hp hu k⟩
    · obtain ⟨c,e⟩:=xht (n:=s.heap.objs.size + 1) k
      refine .inr ⟨.inl k,c,e,?_⟩
      have q:=x.cell y c e
      rw [xge ndP hp hu (by show scope.names.lookup y≠_; rw [k]; decide)] at q
      exact q
  · exact e0.hok.fresh (Nat.le_of_lt (x.above y c (PySem.mem_of_lookup h)))
  · unfold start
    show _=N.length
    rw [List.length_append,List.length_map,List.length_replicate]
    omega
theorem xja {CX:CXT} {P:Program} {w:World} {K:PySem.W.Frag} {mg:Str→Option Value} {base:Heap} {k:Nat} {f:Addr} {name qual:Str} {params:Arguments} {body:List Stmt} {scope:Scope} {dV kV doc pm cdv ct oc:Value} {an od:Option Addr}
    {osl:Array (Option Value)} {N ps:List Str} {sp:Sp} (lk:K.lookup f=some ⟨oc,od,.func (PySem.W.fnOf name qual params body scope dV kV doc pm an cdv ct),osl⟩) (hcd:PySem.W.codeIn K cdv qual=true) (S:x5 N ps scope)
    (len:∀ vs H Q E,sp vs H Q E→vs.length=ps.length)
    (hbody:∀ (A:Around) (outer:List Env) (s:Shared) (H:Hp) (vs:List V) (Q:VK) (E:XK),Room q0 k (A.deeper (envOfC qual scope s.heap.objs.size f cdv))→sp vs H Q E →
      ∃ t,PSs (cxOf q0 CX P w K mg base N qual scope f cdv A outer s H E) body t∧t { nx:=fun _ H'=>Q .non H',rt:=Q } (start N vs) H) :
    FnOk q0 P w K mg base CX (k + 1) f (PySem.W.fnOf name qual params body scope dV kV doc pm an cdv ct) ps sp:=by
  refine ⟨len,fun A outer s H args us vs Q E hr e0 hb r hsp=>?_⟩
  have hl:=len _ _ _ _ hsp
  have KX:K.In s.heap:=e0.mod.kin.keeps fun b o e=>(e0.bs b o e).1
  have lim:s.heap.NoLimit:=e0.mod.nolimit.keeps fun b o e=>(e0.bs b o e).1
  have hkind:∀ y ∈ ps.zip us,scope.names.lookup y.1=some .local∨(scope.names.lookup y.1=some .cell∧((cellsFrom (s.heap.objs.size + 1) scope.names []).lookup y.1).isSome=true):=fun ⟨n,v⟩ hy=>by
    rcases S.par n (List.of_mem_zip hy).1 with q | q
    · exact .inl q
    · exact .inr ⟨q,PySem.W.cellsFrom_some _ _ _ (.inl q)⟩
  refine codeAny_call_function hr.depth (KX _ _ lk) rfl S.co S.gen rfl (PySem.W.codeRec_of KX hcd) (hb _ _ _ _ ?_)
  refine wpAny_newFunctionEnv_cells S.kind hkind fun env he s1 x=>?_
  subst he
  refine ⟨lim.keeps x.toInCall.keep,codeAny_func ?_⟩
  obtain ⟨t,ht,hq⟩:=hbody A outer s H vs Q E (hr.deeper _) hsp
  have I:Inv (cxOf q0 CX P w K mg base N qual scope f cdv A outer s H E) [] (start N vs) H s1:=xju S hr.hd e0 hl r x
  refine wpAny_mono (ht [] s1 (start N vs) H _ I hq) (fun fl s' hs=>?_) fun e s' hs=>hs
  have fin:∀ {σ':St} {H':Hp} {v:V} {u:Value},Inv (cxOf q0 CX P w K mg base N qual scope f cdv A outer s H E) [] σ' H' s'→RelV v u→Q v H'→CE outer P w H s Q u s' :=
    fun {σ' H' v u} J rv q=>⟨v,H',J.os,J.bare,J.base,J.hok,rv,q⟩
  cases fl with
  | ret u =>
    obtain ⟨v,σ',H',J,rv,q⟩:=hs
    exact fin J rv q
  | next =>
    obtain ⟨σ',H',J,q⟩:=hs
    exact fin (v:=V.non) (u:=Value.none) J rfl q
  | brk =>
    obtain ⟨_,_,_,q⟩:=hs
    exact False.elim q
  | cont =>
    obtain ⟨_,_,_,q⟩:=hs
    exact False.elim q
end L2
namespace L2
open PySem PySem.Spec PyProof.Rows
variable {q0:Bool}
section
variable {X:Cx} {x:Str} {p pos:Pos} {e:Expr} {es:List Expr} {t:TA} {id T:String} {r:List V→Hp→VK→Prop}
def tCB (r:List V→Hp→VK→Prop) (t:TA):TE:=fun σ H Q=>t σ H fun vs H1=>r vs H1 Q
theorem xav (hc:xb9 X (.builtin id) r) (hg:Gl X x) (hm:X.mg x=none) (hv:bootBuiltins x=some (.builtin id)) (ha:PA X (e :: es) t) (hn:x≠"__name__":=by decide) (hdb:(x == ("__debug__":Str))=false:=by decide)
    (he:starEach (e :: es) X.env=(false,eval e X.env) :: starEach es X.env:=by rfl) (hpl:(backTo pos (starEach es X.env)).any (·.1)=false:=by rfl):PE X (.Call (.Name x p) (e :: es) [] pos) (tCB r t):=by
  intro pins s σ H Q I h
  refine wpAny_Call_Name_kw (xdo I hg hm hv ?_ hn hdb)
  exact PyProof.Rows.callWith_builtin1 (thn (ha pos pins s σ H _ I h) fun us s1 ⟨vs,H1,I1,r1,q1⟩=>hc pins s1 σ H1 vs us Q I1 r1 q1) he hpl
theorem xcf (hc:xb9 X (.type T) r) (hg:Gl X x) (hm:X.mg x=none) (hv:bootBuiltins x=some (.type T)) (ha:PA X (e :: es) t) (hn:x≠"__name__":=by decide) (hdb:(x == ("__debug__":Str))=false:=by decide)
    (he:starEach (e :: es) X.env=(false,eval e X.env) :: starEach es X.env:=by rfl) (hpl:(backTo pos (starEach es X.env)).any (·.1)=false:=by rfl):PE X (.Call (.Name x p) (e :: es) [] pos) (tCB r t):=by
  intro pins s σ H Q I h
  refine wpAny_Call_Name_kw (xdo I hg hm hv ?_ hn hdb)
  exact PyProof.Rows.callWith_type1 (thn (ha pos pins s σ H _ I h) fun us s1 ⟨vs,H1,I1,r1,q1⟩=>hc pins s1 σ H1 vs us Q I1 r1 q1) he hpl
end
end L2
namespace HT
open PySem PyProof.Rows
section
open PySem.SeqAt
open PySem.AutoSeq1 (wpAny_loadPart')
open PySem.MeetsSeq PySem.MeetsSeq2 PySem.MeetsSeq3
end
section
variable {prog:Program} {w:World} {A:Around} {E:Value→Shared→Prop} {s:Shared}
theorem cat_tup {t b:Addr} {vs ws:List Value} {Q:Value→Shared→Prop} (ht:IsTup s.heap t vs.toArray) (hb:IsTup s.heap b ws.toArray) (hv:vs≠[])
    (h1:ws=[]→Q (.ref t) s) (h2:ws≠[]→Q (.ref s.heap.objs.size) { s with heap:=s.heap.push { cls:=.type "tuple",data:=.seq (vs ++ ws).toArray } })
    (hsz:vs.length + ws.length≤sizeLine):wpAny (model prog w) A (binaryOp .Add (.ref t) (.ref b)) Q E s:=by
  obtain ⟨⟨cls,dd,data,sl⟩,ho,hc,n,hd⟩:=id ht
  obtain ⟨⟨cls2,dd2,data2,sl2⟩,ho2,hc2,n2,hd2⟩:=id hb
  simp only at hc hd hc2 hd2
  subst hc hd hc2 hd2
  have e:vs.toArray ++ ws.toArray=(vs ++ ws).toArray:=by simp
  by_cases hw:ws=[]
  · exact concat_meets ⟨_,ho,rfl⟩ ⟨_,ho2,rfl⟩ noFill_tuple_add seq_tuple_add PySem.F.slot_tuple_add PySem.F.entry_tuple_add (PySem.F.args_tuple_add_2 _ _)
      (tuple_addW1 t b vs.toArray ws.toArray n n2 dd dd2 sl sl2 (by simpa using hv) (by simp [hw])) ⟨ho,ho2,h1 hw⟩
  · refine concat_meets ⟨_,ho,rfl⟩ ⟨_,ho2,rfl⟩ noFill_tuple_add seq_tuple_add PySem.F.slot_tuple_add PySem.F.entry_tuple_add (PySem.F.args_tuple_add_2 _ _)
      (tuple_addW2 t b vs.toArray ws.toArray n n2 dd dd2 sl sl2 (by simpa using hv) (by simpa using hw) (by rw [List.size_toArray,List.size_toArray]; exact hsz)) ⟨ho,ho2,?_⟩
    rw [e]
    exact h2 hw
def sIx (n d:Nat):Option Int→Nat
 | none=>d
 | some v=>if v < 0 then (v + (n:Int)).toNat else min v.toNat n
theorem sIx_none (n d:Nat):sIx n d none=d:=rfl
theorem sIx_nat (n d k:Nat):sIx n d (some (k:Int))=min k n:=by
 show (if (k:Int) < 0 then ((k:Int) + (n:Int)).toNat else min (k:Int).toNat n)=min k n
 rw [if_neg (by omega),Int.toNat_natCast]
theorem xng (n d:Nat) (hd:d≤n) (o:Option Int):sIx n d o≤n:=by
 cases o with
 | none=>exact hd
 | some v =>
  show (if v < 0 then (v + (n:Int)).toNat else min v.toNat n)≤n
  by_cases hv:v < 0
  ·rw [if_pos hv]; omega
  ·rw [if_neg hv]; exact Nat.min_le_right _ _
theorem xh5 (v:Int) (n d:Nat):(if v < 0 then max (v + (n:Int)) 0 else min v (n:Int))=((sIx n d (some v):Nat):Int):=by
 show (if v < 0 then max (v + (n:Int)) 0 else min v (n:Int))=(((if v < 0 then (v + (n:Int)).toNat else min v.toNat n):Nat):Int)
 by_cases hv:v < 0
 ·simp only [if_pos hv]; omega
 ·simp only [if_neg hv]; omega
theorem xir (lo hi:Option Int) (n:Nat):Builtin.Slice.sliceAdjust lo hi 1 (n:Int)=(((sIx n 0 lo:Nat):Int),((sIx n n hi:Nat):Int)):=by
 have h1:¬ ((1:Int) < 0):=by omega
 unfold Builtin.Slice.sliceAdjust
 simp only [h1,if_false]
 refine Prod.ext ?_ ?_
 ·cases lo with
  | none=>rfl
  | some v=>exact xh5 v n 0
 ·cases hi with
  | none=>rfl
  | some v=>exact xh5 v n n
theorem xi8 (i j:Nat):Builtin.Slice.slicePlaces (i:Int) (j:Int) 1=j - i:=by
 unfold Builtin.Slice.slicePlaces
 have h1:(1:Int) > 0:=by omega
 simp only [h1,if_true,Int.ediv_one]
 split <;> omega
theorem xfq {v:Value} {o:Option Int} {Q:Option Int→Shared→Prop} (p:IsPart v o) (h:Q o s):wpAny (model prog w) A (Builtin.Slice.slicePartIndex v) Q E s:=by
 cases p with
 | none=>exact slicePart_none h
 | int i t=>exact slicePart_int h
theorem xey {sl:Addr} {vl vu:Value} {lo hi:Option Int} {n:Nat} {Q:Int × Int × Nat→Shared→Prop} (hs:s.heap.IsSliceOf sl vl vu .none) (pl:IsPart vl lo) (pu:IsPart vu hi)
    (h:Q (((sIx n 0 lo:Nat):Int),1,sIx n n hi - sIx n 0 lo) s):wpAny (model prog w) A (Builtin.Slice.sliceApplied (.ref sl) (pure (n:Int))) Q E s:=by
  obtain ⟨os,hos,hcs,hds⟩:=id hs
  unfold Builtin.Slice.sliceApplied Builtin.Slice.sliceFields
  refine wpAny_bind (wpAny_bind (wpAny_field hos hds (x:=vl) rfl (wpAny_bind (wpAny_field hos hds (x:=vu) rfl (wpAny_bind (wpAny_field hos hds (x:=.none) rfl (wpAny_pure ?_)))))))
  refine wpAny_bind (slicePart_none ?_)
  show wpAny _ _ (if ((1:Int) == 0)=true then _ else _) _ _ s
  rw [if_neg (by decide)]
  refine wpAny_bind (xfq pl (wpAny_bind (xfq pu (wpAny_bind (wpAny_pure ?_)))))
  show wpAny _ _ (match Builtin.Slice.sliceAdjust lo hi 1 (n:Int) with | (lo,hi)=>pure (lo,(1:Int),Builtin.Slice.slicePlaces lo hi 1)) _ _ s
  rw [xir lo hi n]
  show wpAny _ _ (pure (((sIx n 0 lo:Nat):Int),(1:Int),Builtin.Slice.slicePlaces ((sIx n 0 lo:Nat):Int) ((sIx n n hi:Nat):Int) 1)) _ _ s
  rw [xi8]
  exact wpAny_pure h
theorem xlo (xs:Array Value) (i k:Nat):((List.range k).filterMap fun (m:Nat)=>xs[((i:Int) + (m:Int) * 1).toNat]?).toArray=((xs.toList.drop i).take k).toArray:=by
 have e:(fun (m:Nat)=>xs[((i:Int) + (m:Int) * 1).toNat]?)=fun m=>xs[i + m]?:=by
  funext m
  have:((i:Int) + (m:Int) * 1).toNat=i + m:=by omega
  rw [this]
 rw [e]
 have:=pick_run xs i k
 rw [List.filterMap_map] at this
 have e2:((fun x=>xs[x]?) ∘ fun x=>i + x)=fun m=>xs[i + m]?:=rfl
 rw [e2] at this
 rw [this]
theorem getItem_tuple_cut {t sl:Addr} {items:Array Value} {vl vu:Value} {lo hi:Option Int} {Q:Value→Shared→Prop} (ht:IsTup s.heap t items) (hs:s.heap.IsSliceOf sl vl vu .none) (pl:IsPart vl lo) (pu:IsPart vu hi)
    (hw:¬ (sIx items.size 0 lo=0∧sIx items.size items.size hi=items.size))
    (h:Q (.ref s.heap.objs.size) { s with heap:=s.heap.push { cls:=.type "tuple",data:=.seq ((items.toList.drop (sIx items.size 0 lo)).take (sIx items.size items.size hi - sIx items.size 0 lo)).toArray } })
    (hsz:items.size≤sizeLine):wpAny (model prog w) A (getItem (.ref t) (.ref sl)) Q E s:=by
  have htake:sizeOk (.seq ((items.toList.drop (sIx items.size 0 lo)).take (sIx items.size items.size hi - sIx items.size 0 lo)).toArray):=by
    show ((items.toList.drop (sIx items.size 0 lo)).take (sIx items.size items.size hi - sIx items.size 0 lo)).toArray.size≤sizeLine
    rw [List.size_toArray,List.length_take,List.length_drop,Array.length_toList]
    omega
  have hj:sIx items.size items.size hi≤items.size:=xng _ _ (Nat.le_refl _) hi
  obtain ⟨os,hos,hcs,hds⟩:=id hs
  have hTs:s.TypeIs (.ref sl) "slice":=⟨os,hos,hcs⟩
  unfold getItem
  try with_reducible refine wpAny_holding ?_
  first | refine wpAny_bind (wpAny_pure ?_) | skip
  refine wpAny_bind (wpAny_sequenceKey ht.typeIs (by decide) ?_)
  refine wpAny_bind (wpAny_callSpecial?_slot (name:=Str.ofString "__getitem__") ht.typeIs PyProof.Rows.slot_tuple_getitem
    (wpAny_call_entry PyProof.Rows.slot_tuple_getitem ht.typeIs entry_tuple_getitem ?_ (args_tuple_getitem _ _)))
  show wpAny _ _ (Builtin.Tuple.tupleItemsOf (.ref t) >>= _) _ _ s
  refine wpAny_bind (tupleItemsOf_ ht ?_)
  refine wpAny_bind (wpAny_typeOf hTs ?_)
  rw [if_pos (by decide)]
  refine wpAny_bind (xey hs pl pu ?_)
  have hno:¬ ((((sIx items.size 0 lo:Nat):Int) == 0 && (1:Int) == 1 && (sIx items.size items.size hi - sIx items.size 0 lo) == items.size)=true):=by
    intro q
    rw [Bool.and_eq_true,Bool.and_eq_true] at q
    have q1:((sIx items.size 0 lo:Nat):Int)=0:=eq_of_beq q.1.1
    have q2:sIx items.size items.size hi - sIx items.size 0 lo=items.size:=eq_of_beq q.2
    exact hw ⟨by omega,by omega⟩
  show wpAny _ _ (if (((sIx items.size 0 lo:Nat):Int) == 0 && (1:Int) == 1 && (sIx items.size items.size hi - sIx items.size 0 lo) == items.size)=true then _ else _) _ _ s
  rw [if_neg hno,xlo]
  first
    | exact wpAny_bind (m:=Builtin.Tuple.tupleExact _) (wpAny_newObj_type (wpAny_pure ⟨_,rfl,wpAny_pure h⟩) htake)
    | exact wpAny_bind (m:=Builtin.Tuple.tupleExact _) (wpAny_newObj_type (wpAny_bind (wpAny_pure (wpAny_pure ⟨_,rfl,wpAny_pure h⟩))) htake)
    | exact wpAny_bind (wpAny_bind (m:=Builtin.Tuple.tupleExact _) (wpAny_newObj_type (wpAny_pure (wpAny_pure ⟨_,rfl,wpAny_pure h⟩)) htake))
    | exact wpAny_bind (wpAny_bind (m:=Builtin.Tuple.tupleExact _) (wpAny_newObj_type (wpAny_pure ⟨_,rfl,wpAny_pure h⟩) htake))
end
end HT
namespace L2
open PySem PySem.Spec PyProof.Rows
variable {q0:Bool}
abbrev TO:=St→Hp→(Option Int→Hp→Prop)→Prop
def PO (X:Cx) (e:Option Expr) (t:TO):Prop :=
 ∀ (pins:List (Addr × Obj)) (s:Shared) (σ:St) (H:Hp) (Q:Option Int→Hp→Prop),Inv X pins σ H s→t σ H Q →
  wpAny (model X.prog X.w) X.A (evalPart e X.env) (fun u s'=>∃ o H',Inv X pins σ H' s'∧IsPart u o∧Q o H') X.xe s
def xml:TO:=fun _ H Q=>Q none H
def xo8 (t:TE):TO:=fun σ H Q=>t σ H fun x H1=>∃ i,x=.int i∧Q (some i) H1
section
variable {X:Cx} {e:Expr} {te:TE} {lo hi:Option Expr} {tl th:TO} {pos p2:Pos}
theorem xdu:PO X none xml:=by
 intro pins s σ H Q I h
 rw [evalPart_none]
 exact wpAny_pure ⟨none,H,I,.none,h⟩
theorem xb4 (h:PE X e te):PO X (some e) (xo8 te):=by
 intro pins s σ H Q I hw
 rw [evalPart_some]
 refine thn (h pins s σ H _ I hw) fun u s1 ⟨x,H1,I1,r1,q1⟩=>?_
 obtain ⟨i,rfl,q⟩:=q1
 obtain ⟨t,rfl⟩:=r1
 exact ⟨some i,H1,I1,.int i t,q⟩
def SlR (X:Cx) (r:V→Option Int→Option Int→Hp→VK→Prop):Prop :=
 ∀ (pins:List (Addr × Obj)) (s:Shared) (σ:St) (H:Hp) (x:V) (v vl vu:Value) (lo hi:Option Int) (sl:Addr) (Q:VK),Inv X pins σ H s→RelV x v→s.heap.IsSliceOf sl vl vu .none→IsPart vl lo→IsPart vu hi→r x lo hi H Q →
  ∃ T id,typeLookup (.type T) "__getitem__"=pure (some (.builtin id))∧s.TypeIs v T∧wpAny (model X.prog X.w) X.A (getItem v (.ref sl)) (EP X pins σ Q) X.xe s
def tSl (r:V→Option Int→Option Int→Hp→VK→Prop) (te:TE) (tl th:TO):TE:=fun σ H Q=>te σ H fun x H1=>tl σ H1 fun l H2=>th σ H2 fun u H3=>r x l u H3 Q
theorem xcb {r:V→Option Int→Option Int→Hp→VK→Prop} (hr:SlR X r) (he:PE X e te) (hl:PO X lo tl) (hu:PO X hi th):PE X (.Subscript e (.Slice lo hi none p2) pos) (tSl r te tl th):=by
 intro pins s σ H Q I h
 refine Subscript_ (thn (he pins s σ H _ I h) fun v s1 ⟨x,H1,I1,r1,q1⟩=>?_)
 refine wpAny_Slice (thn (hl pins s1 σ H1 _ I1 q1) fun vl s2 ⟨l,H2,I2,pl,q2⟩=>thn (hu pins s2 σ H2 _ I2 q2) fun vu s3 ⟨u,H3,I3,pu,q3⟩=>?_)
 rw [evalPart_none]
 refine wpAny_pure ?_
 have I4:Inv X pins σ H3 { s3 with heap:=s3.heap.push { cls:=.type "slice",data:=.fields #[vl,vu,.none] } }:=I3.kept (t':=s3.toks) fun b ob q=>Heap.get?_push_of_some _ q
 obtain ⟨T,id,hT,ht,hg⟩:=hr pins { s3 with heap:=s3.heap.push { cls:=.type "slice",data:=.fields #[vl,vu,.none] } } σ H3 x v vl vu l u s3.heap.objs.size Q I4 r1 (Heap.IsSliceOf.new ..) pl pu q3
 show wpAny (model X.prog X.w) X.A (subscriptTail e (.Slice lo hi none p2) v (.ref s3.heap.objs.size)) (EP X pins σ Q) X.xe { s3 with heap:=s3.heap.push { cls:=.type "slice",data:=.fields #[vl,vu,.none] } }
 exact tail_any (ops:=[.ref s3.heap.objs.size,v]) ht hT hg (by with_unfolding_all rfl)
def cutV (xs:List V) (lo hi:Option Int):List V:=(xs.drop (HT.sIx xs.length 0 lo)).take (HT.sIx xs.length xs.length hi - HT.sIx xs.length 0 lo)
theorem xeu (xs:List V) (lo hi:Option Int):(cutV xs lo hi).length≤xs.length:=by
 unfold cutV
 rw [List.length_take,List.length_drop]
 omega
def rSlT (K:PySem.W.Frag):V→Option Int→Option Int→Hp→VK→Prop:=fun x lo hi H Q=>∃ a xs,x=.ref a∧SqT K H a xs ∧
 ¬ (HT.sIx xs.length 0 lo=0∧HT.sIx xs.length xs.length hi=xs.length)∧∀ p,H p=none→Q (.ref p) (upd H p (.tup (cutV xs lo hi)))
theorem xnt:SlR X (rSlT X.K):=by
 intro pins s σ H x v vl vu lo hi sl Q I rx hs pl pu h
 obtain ⟨a,xs,rfl,hx,hw,q⟩:=h
 cases rx
 obtain ⟨its,r,ht,hz⟩:=I.tuple hx
 have hlen:its.toArray.size=xs.length:=by rw [List.size_toArray]; exact r.length.symm
 refine ⟨"tuple",_,PyProof.Rows.slot_tuple_getitem.lookup,ht.typeIs,?_⟩
 refine HT.getItem_tuple_cut ht hs pl pu (by rw [hlen]; exact hw) ?_ (by rw [hlen]; exact hz)
 rw [hlen]
 refine ⟨.ref s.heap.objs.size,_,I.laid (t':=s.toks) (o:=.tup (cutV xs lo hi)) (fun b ob q=>Heap.get?_push_of_some _ q) (Nat.le_refl _) ?_,rfl,q _ (I.hok.fresh (Nat.le_refl _))⟩
 exact ⟨Nat.le_trans (xeu xs lo hi) hz,_,(r.drop (HT.sIx xs.length 0 lo)).take (HT.sIx xs.length xs.length hi - HT.sIx xs.length 0 lo),IsTup.new _ _⟩
def xl3 (K:PySem.W.Frag):R2:=fun x y H Q=>∃ a b xs ys,x=.ref a∧y=.ref b∧SqT K H a xs∧SqT K H b ys∧xs≠[]∧xs.length + ys.length≤sizeLine ∧
 (ys=[]→Q (.ref a) H)∧(ys≠[]→∀ p,H p=none→Q (.ref p) (upd H p (.tup (xs ++ ys))))
theorem Vals.nil_iff {xs:List V} {us:List Value} (r:Vals xs us):us=[] ↔ xs=[]:=by
 cases r with
 | nil=>simp
 | cons _ _=>simp
theorem xh6:OpR X (binaryOp .Add) (xl3 X.K):=by
 intro pins s σ H x y v u Q I rx ry h
 obtain ⟨a,b,xs,ys,rfl,rfl,ha,hb,hx,hz,q1,q2⟩:=h
 cases rx
 cases ry
 obtain ⟨its,r1,p1,_⟩:=I.tuple ha
 obtain ⟨its2,r2,p2,_⟩:=I.tuple hb
 refine HT.cat_tup p1 p2 (fun z=>hx (r1.nil_iff.mp z)) (fun z=>⟨.ref a,H,I,rfl,q1 (r2.nil_iff.mp z)⟩) (fun z=>?_) (by rw [← r1.length,← r2.length]; exact hz)
 refine ⟨.ref s.heap.objs.size,_,I.laid (t':=s.toks) (o:=.tup (xs ++ ys)) (fun b ob q=>Heap.get?_push_of_some _ q) (Nat.le_refl _) ?_,rfl,q2 (fun w=>z (r2.nil_iff.mpr w)) _ (I.hok.fresh (Nat.le_refl _))⟩
 exact ⟨by rw [List.length_append]; exact hz,_,r1.append r2,IsTup.new _ _⟩
end
end L2
namespace L2
open PySem PySem.Spec PyProof.Rows
variable {q0:Bool}
def ixN (n:Nat) (i:Int):Option Nat:=if 0≤i then (if i < n then some i.toNat else none) else if -(n:Int)≤i then some (i + n).toNat else none
def atI {α:Type} (xs:List α) (i:Int):Option α:=(ixN xs.length i).bind fun j=>xs[j]?
theorem xmd {n:Nat} {i:Int} {j:Nat} (h:ixN n i=some j):seqIndex? i n=some j∧j < n∧-(n:Int)≤i∧i < n:=by
 unfold ixN at h
 by_cases h0:0≤i
 ·rw [if_pos h0] at h
  by_cases h1:i < n
  ·rw [if_pos h1] at h
   have e:i.toNat=j:=Option.some.inj h
   exact ⟨by rw [seqIndex_of h0 h1,e],by omega,by omega,h1⟩
  ·rw [if_neg h1] at h; cases h
 ·rw [if_neg h0] at h
  by_cases h1:-(n:Int)≤i
  ·rw [if_pos h1] at h
   have e:(i + n).toNat=j:=Option.some.inj h
   exact ⟨by rw [seqIndex_neg (by omega) h1,e],by omega,h1,by omega⟩
  ·rw [if_neg h1] at h; cases h
theorem xh8 {α:Type} {xs:List α} {i:Int} {v:α} (h:atI xs i=some v):∃ j,seqIndex? i xs.length=some j∧xs[j]?=some v∧j < xs.length∧-(xs.length:Int)≤i∧i < xs.length:=by
 unfold atI at h
 cases e:ixN xs.length i with
 | none=>rw [e] at h; cases h
 | some j =>
  rw [e] at h
  obtain ⟨h1,h2,h3,h4⟩:=xmd e
  exact ⟨j,h1,h,h2,h3,h4⟩
theorem xds {α:Type} {xs:List α} {j:Nat} {v:α} (h:xs[j]?=some v):atI xs (j:Int)=some v:=by
 have hj:j < xs.length:=(List.getElem?_eq_some_iff.mp h).1
 have e:ixN xs.length (j:Int)=some j:=by
  unfold ixN
  rw [if_pos (by omega),if_pos (by omega)]; simp
 unfold atI; rw [e]; exact h
def xm3 (b:Expr):Prop:=∀ o i,subscripted b false o i=operate [o,i] (getItem o i)
def IxR (X:Cx) (r:R2):Prop :=
 ∀ (value slice:Expr) (pins:List (Addr × Obj)) (s:Shared) (σ:St) (H:Hp) (x y:V) (v u:Value) (Q:VK),Inv X pins σ H s→RelV x v→RelV y u→r x y H Q →
  subscripted slice false v u=operate [v,u] (getItem v u)→wpAny (model X.prog X.w) X.A (subscriptTail value slice v u) (EP X pins σ Q) X.xe s
def MtR (X:Cx) (id:String) (r:V→List V→Hp→VK→Prop):Prop :=
 ∀ (pins:List (Addr × Obj)) (s:Shared) (σ:St) (H:Hp) (x:V) (xs:List V) (v:Value) (us:List Value) (Q:VK),Inv X pins σ H s→RelV x v→Vals xs us→r x xs H Q →
  wpAny (model X.prog X.w) X.A (call (.builtin id) (v :: us)) (EP X pins σ Q) X.xe s
section
variable {X:Cx} {a b:Expr} {ta tb:TE} {pos:Pos}
theorem xan {r:R2} (hr:IxR X r) (ha:PE X a ta) (hb:PE X b tb) (hs:xm3 b):PE X (.Subscript a b pos) (tOp r ta tb):=by
 intro pins s σ H Q I h
 exact Subscript_ (binT ha hb I h fun v u s2 x y H2 I2 rx ry q=>hr a b pins s2 σ H2 x y v u Q I2 rx ry q (hs _ _))
def rIxL (K:PySem.W.Frag):R2:=fun x y H Q=>∃ p xs i v,x=.ref p∧y=.int i∧SqL K H p xs∧atI xs i=some v∧Q v H
def rIxT (K:PySem.W.Frag):R2:=fun x y H Q=>∃ p xs i v,x=.ref p∧y=.int i∧SqT K H p xs∧atI xs i=some v∧Q v H
theorem xas:IxR X (rIxL X.K):=by
 intro value slice pins s σ H x y v u Q I rx ry h hs
 obtain ⟨p,xs,i,z,rfl,rfl,hq,he,q⟩:=h
 cases rx
 obtain ⟨t,rfl⟩:=ry
 obtain ⟨its,r,pl,hz⟩:=I.list hq
 obtain ⟨j,h1,h2,h3,h4,h5⟩:=xh8 he
 obtain ⟨w,ew,rw'⟩:=r.get h2
 have hl:=r.length
 have hn:=xd8
 have fin:EP X pins σ Q w s:=⟨z,H,I,rw',q⟩
 by_cases h0:0≤i
 ·have hj:i.toNat=j:=by
   rw [seqIndex_of h0 h5] at h1
   exact Option.some.inj h1
  exact item_listR pl.isList h0 (by omega) (by rw [hj]; simpa using ew) fin hs
 ·have hj:(i + (its.toArray.size:Int)).toNat=j:=by
   rw [seqIndex_neg (by omega) h4] at h1
   rw [List.size_toArray,← hl]
   exact Option.some.inj h1
  exact subscriptTail_builtinR (x:=w) pl.isList.typeIs slot_list_getitem.lookup
   (wpAny_getItem_list_neg (Q:=fun r s'=>r=w∧EP X pins σ Q r s') pl.isList (by omega) (by rw [List.size_toArray] <;> omega) (by omega) (by rw [hj]; simpa using ew) ⟨rfl,fin⟩) hs
theorem xbl:IxR X (rIxT X.K):=by
 intro value slice pins s σ H x y v u Q I rx ry h hs
 obtain ⟨p,xs,i,z,rfl,rfl,hq,he,q⟩:=h
 cases rx
 obtain ⟨t,rfl⟩:=ry
 obtain ⟨its,r,pl,hz⟩:=I.tuple hq
 obtain ⟨j,h1,h2,h3,h4,h5⟩:=xh8 he
 obtain ⟨w,ew,rw'⟩:=r.get h2
 have hl:=r.length
 have hn:=xd8
 have fin:EP X pins σ Q w s:=⟨z,H,I,rw',q⟩
 exact subscriptTail_builtinR (x:=w) pl.typeIs slot_tuple_getitem.lookup
  (getItem_tuple (j:=j) (Q:=fun r s'=>r=w∧EP X pins σ Q r s') pl (by omega) (by omega) (by rw [List.size_toArray,← hl]; exact h1) (by simpa using ew) ⟨rfl,fin⟩) hs
theorem Inv.lst {pins:List (Addr × Obj)} {σ:St} {H:Hp} {s:Shared} {p:Addr} {xs:List V} (I:Inv X pins σ H s) (h:H p=some (.lst xs)) :
    ∃ (its:List Value) (n:Nat),Vals xs its∧s.heap.get? p=some { cls:=.type "list",data:=.seq its.toArray n }∧xs.length≤sizeLine:=by
  obtain ⟨z,its,n,r,e⟩:=I.hok p _ h
  exact ⟨its,n,r,e,z⟩
theorem xg5 (lo hi:Option Int) (n:Nat):(sliceBounds lo hi none n).1=((HT.sIx n 0 lo:Nat):Int)∧(sliceBounds lo hi none n).2.1=((HT.sIx n n hi:Nat):Int)∧(sliceBounds lo hi none n).2.2=1:=by
 refine ⟨?_,?_,rfl⟩
 ·cases lo with
  | none=>simp [sliceBounds,HT.sIx]
  | some i =>
   simp only [sliceBounds,HT.sIx,Option.getD_none,show (1:Int) > 0 by decide,if_true]
   by_cases h:i < 0
   ·simp only [h,if_true] <;> omega
   ·simp only [h,if_false] <;> omega
 ·cases hi with
  | none=>simp [sliceBounds,HT.sIx]
  | some i =>
   simp only [sliceBounds,HT.sIx,Option.getD_none,show (1:Int) > 0 by decide,if_true]
   by_cases h:i < 0
   ·simp only [h,if_true] <;> omega
   ·simp only [h,if_false] <;> omega
theorem xgn (its:List Value) (lo hi:Option Int):slicePick its.toArray lo hi none=((its.drop (HT.sIx its.length 0 lo)).take (HT.sIx its.length its.length hi - HT.sIx its.length 0 lo)).toArray:=by
 obtain ⟨h1,h2,h3⟩:=xg5 lo hi its.toArray.size
 unfold slicePick
 rw [h1,h2,h3]
 simp only [sliceRange_one,pick_run,List.size_toArray] <;> rfl
def rSlL (K:PySem.W.Frag):V→Option Int→Option Int→Hp→VK→Prop:=fun x lo hi H Q=>∃ a xs,x=.ref a∧SqL K H a xs∧∀ p,H p=none→Q (.ref p) (upd H p (.lst (cutV xs lo hi)))
theorem xc5:SlR X (rSlL X.K):=by
 intro pins s σ H x v vl vu lo hi sl Q I rx hs pl pu h
 obtain ⟨a,xs,rfl,hx,q⟩:=h
 cases rx
 obtain ⟨its,r,ht,hz⟩:=I.list hx
 have hlen:=r.length
 refine ⟨"list",_,slot_list_getitem.lookup,ht.isList.typeIs,?_⟩
 refine wpAny_getItem_list_slice ht.isList hs pl pu .none (by simp) ?_ (by rw [List.size_toArray] <;> omega)
 rw [xgn,← hlen]
 refine ⟨.ref s.heap.objs.size,_,I.laid (t':=s.toks) (o:=.lst (cutV xs lo hi)) (fun b ob q=>Heap.get?_push_of_some _ q) (Nat.le_refl _) ?_,rfl,q _ (I.hok.fresh (Nat.le_refl _))⟩
 exact ⟨Nat.le_trans (xeu xs lo hi) hz,_,0,(r.drop (HT.sIx xs.length 0 lo)).take (HT.sIx xs.length xs.length hi - HT.sIx xs.length 0 lo),Heap.get?_push_size _ rfl⟩
def xdh:V→Bool
 | .non=>true
 | .bl _=>true
 | .int _=>true
 | .str _=>true
 | _=>false
def eqV:V→V→Bool
 | .non,.non=>true
 | .bl a,.bl b=>a == b
 | .bl a,.int b=>(if a then 1 else 0) == b
 | .int a,.bl b=>a == (if b then 1 else 0)
 | .int a,.int b=>a == b
 | .str a,.str b=>a == b
 | _,_=>false
theorem xnk {A:Around} {s:Shared} {y x:V} {u v:Value} (ry:RelV y u) (rx:RelV x v) (fy:xdh y=true) (fx:xdh x=true):SeqAt.EqAt A s u v (eqV y x):=by
 cases y with
 | non =>
  cases ry
  cases x with
  | non=>cases rx; exact SeqAt.EqAt.same _
  | bl b=>cases rx; exact SeqAt.EqAt.none_bool b
  | int b=>obtain ⟨t,rfl⟩:=rx; exact SeqAt.EqAt.none_int b t
  | str b=>obtain ⟨t,rfl⟩:=rx; exact SeqAt.EqAt.none_str b t
  | _=>exact absurd (show false=true from fx) Bool.false_ne_true
 | bl a =>
  cases ry
  cases x with
  | non=>cases rx; exact SeqAt.EqAt.bool_none a
  | bl b=>cases rx; exact SeqAt.EqAt.bool_bool a b
  | int b=>obtain ⟨t,rfl⟩:=rx; exact SeqAt.EqAt.bool_int a b t
  | str b=>obtain ⟨t,rfl⟩:=rx; exact SeqAt.EqAt.bool_str a b t
  | _=>exact absurd (show false=true from fx) Bool.false_ne_true
 | int a =>
  obtain ⟨t',rfl⟩:=ry
  cases x with
  | non=>cases rx; exact SeqAt.EqAt.int_none a t'
  | bl b=>cases rx; exact SeqAt.EqAt.int_bool a t' b
  | int b=>obtain ⟨t,rfl⟩:=rx; exact SeqAt.EqAt.int_int a t' b t
  | str b=>obtain ⟨t,rfl⟩:=rx; exact SeqAt.EqAt.int_str a t' b t
  | _=>exact absurd (show false=true from fx) Bool.false_ne_true
 | str a =>
  obtain ⟨t',rfl⟩:=ry
  cases x with
  | non=>cases rx; exact SeqAt.EqAt.str_none a t'
  | bl b=>cases rx; exact SeqAt.EqAt.str_bool a t' b
  | int b=>obtain ⟨t,rfl⟩:=rx; exact SeqAt.EqAt.str_int a t' b t
  | str b=>obtain ⟨t,rfl⟩:=rx; exact SeqAt.EqAt.str_str a t' b t
  | _=>exact absurd (show false=true from fx) Bool.false_ne_true
 | _=>exact absurd (show false=true from fy) Bool.false_ne_true
def eqU (x:V) (u:Value):Bool:=match u with
 | .none=>eqV .non x
 | .bool b=>eqV (.bl b) x
 | .int i _=>eqV (.int i) x
 | .str z _=>eqV (.str z) x
 | _=>false
theorem xjm {x y:V} {u:Value} (r:RelV y u) (f:xdh y=true):eqU x u=eqV y x:=by
 cases y with
 | non=>cases r; rfl
 | bl b=>cases r; rfl
 | int i=>obtain ⟨t,rfl⟩:=r; rfl
 | str z=>obtain ⟨t,rfl⟩:=r; rfl
 | _=>exact absurd (show false=true from f) Bool.false_ne_true
theorem xfx {x:V}:∀ {xs:List V} {us:List Value},Vals xs us→xs.all xdh=true→us.any (eqU x)=xs.any fun y=>eqV y x
 | _,_,.nil,_=>rfl
 | y :: xs,u :: us,.cons r t,f=>by
  rw [List.all_cons,Bool.and_eq_true] at f
  rw [List.any_cons,List.any_cons,xjm r f.1,xfx t f.2]
theorem xe4 {A:Around} {s:Shared} {x:V} {v:Value} (rx:RelV x v) (fx:xdh x=true):∀ {xs:List V} {us:List Value},Vals xs us→xs.all xdh=true→∀ u ∈ us,SeqAt.EqAt A s u v (eqU x u)
 | _,_,.nil,_=>fun u hu=>by cases hu
 | y :: xs,u :: us,.cons r t,f=>fun u' hu=>by
  rw [List.all_cons,Bool.and_eq_true] at f
  rcases List.mem_cons.mp hu with rfl | hu
  ·rw [xjm r f.1]; exact xnk r rx f.1 fx
  ·exact xe4 rx fx t f.2 u' hu
def inV (x:V) (xs:List V):Bool:=xs.any fun y=>eqV y x
def rIn (K:PySem.W.Frag) (neg:Bool):R2:=fun x y H Q=>∃ p xs,y=.ref p∧(SqL K H p xs∨SqT K H p xs)∧xdh x=true∧xs.all xdh=true∧Q (.bl (if neg then !inV x xs else inV x xs)) H
theorem xjg:OpR X (compareOp .In) (rIn X.K false):=by
 intro pins s σ H x y v u Q I rx ry h
 obtain ⟨p,xs,rfl,hq,fx,fs,q⟩:=h
 cases ry
 rcases hq with hq | hq
 ·obtain ⟨its,r,pl,hz⟩:=I.list hq
  refine SeqAt.in_listAt (eqU x) pl.isList (fun w hw=>xe4 rx fx r fs w (by simpa using hw)) ⟨.bl _,H,I,rfl,?_⟩
  rw [show its.toArray.any (eqU x)=its.any (eqU x) by simp,xfx r fs]
  exact q
 ·obtain ⟨its,r,pl,hz⟩:=I.tuple hq
  refine SeqAt.in_tupleAt (eqU x) pl (fun w hw=>xe4 rx fx r fs w (by simpa using hw)) ⟨.bl _,H,I,rfl,?_⟩
  rw [show its.toArray.any (eqU x)=its.any (eqU x) by simp,xfx r fs]
  exact q
theorem xa2:xb9 X (.builtin "len") (fun xs H Q=>∃ p ys,xs=[.ref p]∧(SqL X.K H p ys∨SqT X.K H p ys)∧Q (.int ys.length) H):=by
 intro pins s σ H xs us Q I r h
 obtain ⟨p,ys,rfl,hq,q⟩:=h
 obtain ⟨u,rfl,rx⟩:=xcw r
 cases rx
 have hn:=xd8
 rcases hq with hq | hq
 ·obtain ⟨its,r',pl,hz⟩:=I.list hq
  have hlen:=r'.length
  exact Calls.call_len_list pl.isList (by simp only [List.size_toArray] <;> omega) ⟨.int ys.length,H,I.tok _,⟨s.toks + 1,by rw [List.size_toArray,hlen]⟩,q⟩
 ·obtain ⟨its,r',pl,hz⟩:=I.tuple hq
  have hlen:=r'.length
  exact len_tuple pl (by simp only [List.size_toArray] <;> omega) ⟨.int ys.length,H,I.tok _,⟨s.toks + 1,by rw [List.size_toArray,hlen]⟩,q⟩
theorem xhs:xb9 X (.builtin "len") (fun xs H Q=>∃ z,xs=[.str z]∧z.length≤sizeLine∧Q (.int z.length) H):=by
 intro pins s σ H xs us Q I r h
 obtain ⟨z,rfl,hz,q⟩:=h
 obtain ⟨u,rfl,t,rfl⟩:=xcw r
 have hn:=xd8
 exact len_str (by omega) ⟨.int z.length,H,I.tok _,⟨_,rfl⟩,q⟩
def tyV (K:PySem.W.Frag) (T:String) (x:V) (H:Hp):Prop:=match x with
  | .str _=>T="str"
  | .int _=>T="int"
  | .ref p=>(T="list"∧∃ xs,SqL K H p xs)∨(T="tuple"∧∃ o,K.lookup p=some o∧o.cls=.type "tuple"∧o.dict=none) ∨
      (T="dict"∧((∃ kvs,H p=some (.dK kvs))∨∃ kvs,H p=some (.dT kvs)))∨(T="set"∧∃ S n,H p=some (.set S n))
  | _=>False
theorem xnu {pins:List (Addr × Obj)} {σ:St} {H:Hp} {s:Shared} {T:String} {x:V} {v:Value} (I:Inv X pins σ H s) (r:RelV x v) (ty:tyV X.K T x H) :
    s.TypeIs v T∧∀ a,v=.ref a→∃ ob,s.heap.get? a=some ob∧ob.dict=none:=by
  cases x with
  | str z =>
    obtain ⟨t,rfl⟩:=r
    cases (show T="str" from ty)
    exact ⟨typeIs_str s z t,fun _ e=>nomatch e⟩
  | int i =>
    obtain ⟨t,rfl⟩:=r
    cases (show T="int" from ty)
    exact ⟨typeIs_int s i t,fun _ e=>nomatch e⟩
  | ref p =>
    cases r
    rcases ty with ⟨rfl,xs,hq⟩ | ⟨rfl,o,hk,hc,hd⟩ | ⟨rfl,hk⟩ | ⟨rfl,S,n,hk⟩
    · obtain ⟨its,_,pl,_⟩:=I.list hq
      refine ⟨pl.isList.typeIs,fun a e=>?_⟩
      cases e
      obtain ⟨o,n,e,c,hd,_⟩:=pl
      exact ⟨o,e,hd⟩
    · refine ⟨⟨o,I.kIn p o hk,hc⟩,fun a e=>?_⟩
      cases e
      exact ⟨o,I.kIn _ o hk,hd⟩
    · have z:∃ o,s.heap.get? p=some o∧o.ExactDict:=by
        rcases hk with ⟨kvs,hk⟩ | ⟨kvs,hk⟩
        · obtain ⟨_,_,_,_,o,_,_,e,ex,_⟩:=I.hok p _ hk
          exact ⟨o,e,ex⟩
        · obtain ⟨_,_,_,_,o,_,_,e,ex,_⟩:=I.hok p _ hk
          exact ⟨o,e,ex⟩
      obtain ⟨o,e,ex⟩:=z
      refine ⟨⟨o,e,ex.1⟩,fun a e2=>?_⟩
      cases e2
      exact ⟨o,e,ex.2.1⟩
    · obtain ⟨o,_,_,_,e,ex,_⟩:=I.hok p _ hk
      refine ⟨⟨o,e,ex.1⟩,fun a e2=>?_⟩
      cases e2
      exact ⟨o,e,ex.2.1⟩
  | _=>exact False.elim ty
def tBM (K:PySem.W.Frag) (T:String) (r:V→List V→Hp→VK→Prop) (to:TE) (t:TA):TE:=fun σ H Q=>to σ H fun x H1=>tyV K T x H1∧t σ H1 fun xs H2=>r x xs H2 Q
variable {o e:Expr} {es:List Expr} {to:TE} {t:TA} {name:Str} {apos cpos:Pos} {T id:String} {r:V→List V→Hp→VK→Prop}
theorem xcy (pa:PlainAttrs T) (slot:Slot T name id) (hty:typeOf (.builtin id)=pure (.type "method_descriptor")) (hm:MtR X id r) (ho:PE X o to) (ha:PA X (e :: es) t)
    (hbase:attributeBase o name X.env (eval o X.env)=eval o X.env:=by rfl)
    (hfew:((backTo cpos (starEach (e :: es) X.env)).all (fun x=>!x.1) && (backToKw cpos (keywordEach [] X.env)).all (fun x=>x.1.isSome)
      && decide ((e :: es).length + ([]:List Keyword).length + (if ([]:List Keyword).isEmpty then 0 else 1) < 30))=true:=by rfl)
    (hline:(apos.endLine == cpos.line)=true:=by rfl) (hs:starEach (e :: es) X.env=(false,eval e X.env) :: starEach es X.env:=by rfl) (hplain:(backTo cpos (starEach es X.env)).any (·.1)=false:=by rfl) :
    PE X (.Call (.Attribute o name apos) (e :: es) [] cpos) (tBM X.K T r to t):=by
  intro pins s σ H Q I h
  refine wpAny_Call_method_late hbase hfew hline rfl (thn (ho pins s σ H _ I h) fun v s1 ⟨x,H1,I1,r1,ty,q1⟩=>?_)
  obtain ⟨h1,h2⟩:=xnu I1 r1 ty
  refine ⟨T,id,pa,slot,hty,h1,h2,?_⟩
  have hA:=ha cpos pins s1 σ H1 _ I1 q1
  rw [hs] at hA ⊢
  refine Calls.callWith_builtin (by show (false || (backTo cpos (starEach es X.env)).any (·.1))=false; rw [hplain] <;> rfl) (Calls.evalArgs_plain ?_)
  exact thn hA fun us s2 ⟨vs,H2,I2,r2,q2⟩=>hm pins s2 σ H2 x vs v us Q I2 r1 r2 q2
end
end L2
namespace L2
open PySem PySem.Spec PyProof.Rows
variable {q0:Bool}
def MtM (X:Cx) (id:String) (r:V→List V→Hp→VK→Prop):Prop :=
 ∀ (pins:List (Addr × Obj)) (s:Shared) (σ:St) (H:Hp) (x:V) (xs:List V) (v:Value) (us:List Value) (Q:VK),Inv X pins σ H s→RelV x v→Vals xs us→r x xs H Q →
  wpAny (model X.prog X.w) X.A (call (.builtin id) (v :: us)) (EP X pins σ Q) X.xe s
theorem Vals.one:∀ {x:V} {us:List Value},Vals [x] us→∃ u,us=[u]∧RelV x u
 | _,_,.cons r .nil=>⟨_,rfl,r⟩
theorem Vals.eraseIdx:∀ {xs:List V} {us:List Value} (i:Nat),Vals xs us→Vals (xs.eraseIdx i) (us.eraseIdx i)
 | _,_,_,.nil=>.nil
 | _,_,0,.cons _ t=>t
 | _,_,i + 1,.cons r t=>.cons r (Vals.eraseIdx i t)
theorem xce {α:Type}:∀ (l:List α) (i:Nat),(l.eraseIdx i).length≤l.length
 | [],_=>Nat.le_refl _
 | _ :: _,0=>Nat.le_succ _
 | _ :: r,i + 1=>Nat.succ_le_succ (xce r i)
section
variable {X:Cx} {pins:List (Addr × Obj)} {σ:St} {H:Hp} {s:Shared} {l b:Addr} {xs ys zs:List V}
theorem Inv.lset {its its':List Value} {n:Nat} {f:Array Value→Array Value} {t':Nat} (I:Inv X pins σ H s) (hH:H l=some (.lst xs))
    (e:s.heap.get? l=some { cls:=.type "list",data:=.seq its.toArray n }) (hf:f its.toArray=its'.toArray) (hv:Vals ys its') (hz:ys.length≤sizeLine) :
    Inv X pins σ (upd H l (.lst ys)) { s with heap:=s.heap.update l (Obj.mapSeq f),toks:=t' }:=by
  have q:=PySem.IsL.update e f
  rw [hf] at q
  refine I.write (x:=l) (e:=l) (by rw [hH]; exact trivial) (.inl rfl) (fun b' u hb hu=>(Heap.get?_update_other s.heap (Obj.mapSeq f) (Ne.symm hb)).trans hu) ⟨_,q⟩ ?_
  exact ⟨hz,its',_,hv,q⟩
theorem Inv.lnew {its:List Value} {t':Nat} (I:Inv X pins σ H s) (hv:Vals ys its) (hz:ys.length≤sizeLine) :
    Inv X pins σ (upd H s.heap.objs.size (.lst ys)) { s with heap:=s.heap.push { cls:=.type "list",data:=.seq its.toArray },toks:=t' } :=
  I.laid (fun _ _ q=>Heap.get?_push_of_some _ q) (Nat.le_refl _) ⟨hz,its,0,hv,Heap.get?_push_size _ rfl⟩
theorem Inv.fresh (I:Inv X pins σ H s):H s.heap.objs.size=none:=I.hok.fresh (Nat.le_refl _)
theorem Inv.lstM (I:Inv X pins σ H s) (hH:H l=some (.lst xs)):xs.length≤sizeLine∧∃ (its:List Value) (n:Nat),Vals xs its∧xs.length=its.length∧s.heap.get? l=some { cls:=.type "list",data:=.seq its.toArray n }:=by
 obtain ⟨z,its,n,r,e⟩:=I.hok l _ hH
 exact ⟨z,its,n,r,r.length,e⟩
end
section
variable {X:Cx}
def xm6:V→List V→Hp→VK→Prop:=fun x vs H Q=>∃ l xs y,x=.ref l∧vs=[y]∧H l=some (.lst xs)∧xs.length < sizeLine∧Q .non (upd H l (.lst (xs ++ [y])))
theorem xbz:MtM X "list.append" xm6:=by
 intro pins s σ H x vs v us Q I rx rv h
 obtain ⟨l,xs,y,rfl,rfl,hH,hz,q⟩:=h
 cases rx
 obtain ⟨u,rfl,ru⟩:=rv.one
 obtain ⟨z,its,n,r,hl,e⟩:=I.lstM hH
 refine call_meets F.slot_list_append ⟨_,e,rfl⟩ F.entry_list_append (F.args_list_append_2 _ _) (PySem.list_append l its.toArray n u (by rw [List.size_toArray]; omega)) ⟨e,?_⟩
 refine ⟨.non,_,I.lset (its':=its ++ [u]) hH e (by simp) (r.append (.cons ru .nil)) ?_,rfl,q⟩
 rw [List.length_append,List.length_singleton]
 omega
def xn8:V→List V→Hp→VK→Prop:=fun x vs H Q=>∃ l xs i k y,x=.ref l∧vs=[.int i]∧H l=some (.lst xs)∧-(2 ^ 63)≤i∧i < 2 ^ 63∧seqIndex? i xs.length=some k∧xs[k]?=some y∧Q y (upd H l (.lst (xs.eraseIdx k)))
theorem xe2:MtM X "list.pop" xn8:=by
 intro pins s σ H x vs v us Q I rx rv h
 obtain ⟨l,xs,i,k,y,rfl,rfl,hH,h1,h2,hk,hy,q⟩:=h
 cases rx
 obtain ⟨u,rfl,ru⟩:=rv.one
 obtain ⟨t,rfl⟩:=ru
 obtain ⟨z,its,n,r,hl,e⟩:=I.lstM hH
 obtain ⟨w,hw,rw'⟩:=r.get hy
 refine call_meets F.slot_list_pop ⟨_,e,rfl⟩ F.entry_list_pop (F.args_list_pop_2 _ _)
  (MeetsSeq.list_pop_at l its.toArray n i t k w (fitsIndex_both h1 h2) (by rw [List.size_toArray,← hl]; exact hk) (by rw [← Array.getElem?_toList]; exact hw) (by rw [List.size_toArray]; omega)) ⟨e,?_⟩
 refine ⟨y,_,I.lset (its':=its.eraseIdx k) hH e ?_ (r.eraseIdx k) ?_,rw',q⟩
 ·show its.toArray.eraseIdxIfInBounds k=(its.eraseIdx k).toArray
  rw [List.eraseIdxIfInBounds_toArray]
 ·have:=xce xs k
  omega
end
section
variable {prog:Program} {w:World} {A:Around} {E:Value→Shared→Prop} {s:Shared}
end
section
variable {X:Cx}
end
end L2
namespace L2
open PySem PySem.Spec PyProof.Rows
variable {q0:Bool}
section
variable {κ:Type} [DecidableEq κ]
def valV (kvs:List (κ × V)) (k:κ):Option V:=(kvs.find? fun kv=>decide (kv.1=k)).map (·.2)
def putK (kvs:List (κ × V)) (k:κ) (v:V):List (κ × V) :=
 if (kvs.any fun kv=>decide (kv.1=k))=true then kvs.map (fun kv=>if kv.1=k then (kv.1,v) else kv) else kvs ++ [(k,v)]
def xbo (kvs:List (κ × V)) (k:κ):List (κ × V):=kvs.filter fun kv=>decide (kv.1≠k)
theorem xbd {p:κ × V} {r:List (κ × V)} {k:κ} (e:p.1=k):valV (p :: r) k=some p.2:=by simp [valV,List.find?_cons,e]
theorem xa9 {p:κ × V} {r:List (κ × V)} {k:κ} (e:¬ p.1=k):valV (p :: r) k=valV r k:=by simp [valV,List.find?_cons,e]
theorem xca (k:κ):∀ kvs:List (κ × V),(kvs.any fun kv=>decide (kv.1=k))=(valV kvs k).isSome
 | []=>rfl
 | p :: r=>by
  rw [List.any_cons]
  by_cases e:p.1=k
  ·simp only [xbd e,decide_eq_true e,Bool.true_or,Option.isSome_some]
  ·rw [xa9 e,decide_eq_false e,Bool.false_or]; exact xca k r
theorem xhv (k j:κ) (y:V):∀ kvs:List (κ × V),valV (kvs.map fun kv=>if kv.1=k then (kv.1,y) else kv) j=(valV kvs j).map fun x=>if j=k then y else x
 | []=>rfl
 | p :: r=>by
  have ih:=xhv k j y r
  rw [List.map_cons]
  by_cases h:p.1=k
  ·rw [if_pos h]
   by_cases e:p.1=j
   ·rw [xbd (p:=(p.1,y)) e,xbd e,Option.map_some,if_pos (e.symm.trans h)]
   ·rw [xa9 (p:=(p.1,y)) e,xa9 e,ih]
  ·rw [if_neg h]
   by_cases e:p.1=j
   ·rw [xbd (p:=p) e,xbd e,Option.map_some,if_neg (fun z=>h (e.trans z))]
   ·rw [xa9 (p:=p) e,xa9 e,ih]
theorem xgj (k j:κ) (y:V):∀ kvs:List (κ × V),valV kvs k=none→valV (kvs ++ [(k,y)]) j=if j=k then some y else valV kvs j
 | [],_=>by
  by_cases e:k=j
  ·rw [if_pos e.symm]; exact xbd (p:=(k,y)) e
  ·rw [if_neg (fun z=>e z.symm)]; exact xa9 (p:=(k,y)) e
 | p :: r,hn=>by
  rw [List.cons_append]
  have hk:¬ p.1=k:=fun z=>by rw [xbd z] at hn; cases hn
  rw [xa9 hk] at hn
  have ih:=xgj k j y r hn
  by_cases e:p.1=j
  ·rw [xbd e,xbd e,if_neg (fun z=>hk (e.trans z))]
  ·rw [xa9 e,xa9 e,ih]
theorem xdz (kvs:List (κ × V)) (k j:κ) (y:V):valV (putK kvs k y) j=if j=k then some y else valV kvs j:=by
 unfold putK
 by_cases a:(kvs.any fun kv=>decide (kv.1=k))=true
 ·rw [if_pos a,xhv]
  rw [xca] at a
  by_cases e:j=k
  ·obtain ⟨x,hx⟩:=Option.isSome_iff_exists.mp a
   rw [if_pos e,e,hx,Option.map_some,if_pos rfl]
  ·rw [if_neg e]
   cases valV kvs j with
   | none=>rfl
   | some x=>rw [Option.map_some,if_neg e]
 ·rw [if_neg a]
  refine xgj k j y kvs ?_
  rw [xca] at a
  cases q:valV kvs k with
  | none=>rfl
  | some x=>rw [q] at a; exact (a rfl).elim
theorem xbm (kvs:List (κ × V)) (k:κ) (v:V):(putK kvs k v).length≤kvs.length + 1:=by
 unfold putK
 split
 ·rw [List.length_map]; omega
 ·rw [List.length_append,List.length_cons,List.length_nil]; omega
theorem xe5 {kvs:List (κ × V)} {k:κ} (v:V) (h:valV kvs k=none):putK kvs k v=kvs ++ [(k,v)]:=by
 unfold putK
 rw [xca,h]
 exact if_neg (by decide)
theorem RelO.isSome_eq {o:Option V} {u:Option Value} (r:RelO o u):o.isSome=u.isSome:=by
 cases o with
 | none=>cases u with
  | none=>rfl
  | some _=>exact (show False from r).elim
 | some _=>cases u with
  | none=>exact (show False from r).elim
  | some _=>rfl
theorem RelO.getD {o:Option V} {u:Option Value} {d:V} {d':Value} (r:RelO o u) (rd:RelV d d'):RelV (o.getD d) (u.getD d'):=by
 cases o with
 | none=>cases u with
  | none=>exact rd
  | some _=>exact (show False from r).elim
 | some _=>cases u with
  | none=>exact (show False from r).elim
  | some _=>exact r
theorem KV.val {kvs:List (κ × V)} {vs:List (κ × Value)} (r:KV kvs vs) (k:κ):RelO (valV kvs k) (valueAt vs k):=by
 unfold KV at r
 induction r with
 | nil=>exact True.intro
 | @cons p q ps qs h t ih =>
  obtain ⟨h1,h2⟩:=h
  by_cases e:p.1=k
  ·have e':q.1=k:=h1.symm.trans e
   have b:valueAt (q :: qs) k=some q.2:=by simp [valueAt,List.find?_cons,e']
   rw [xbd e,b]; exact h2
  ·have e':¬ q.1=k:=fun z=>e (h1.trans z)
   have b:valueAt (q :: qs) k=valueAt qs k:=by simp [valueAt,List.find?_cons,e']
   rw [xa9 e,b]; exact ih
theorem KV.any {kvs:List (κ × V)} {vs:List (κ × Value)} (r:KV kvs vs) (k:κ):(kvs.any fun kv=>decide (kv.1=k))=vs.any fun kv=>decide (kv.1=k):=by
 unfold KV at r
 induction r with
 | nil=>rfl
 | cons h t ih=>rw [List.any_cons,List.any_cons,ih,h.1]
theorem KV.repl {kvs:List (κ × V)} {vs:List (κ × Value)} (r:KV kvs vs) (k:κ) {y:V} {u:Value} (ry:RelV y u) :
    KV (kvs.map fun kv=>if kv.1=k then (kv.1,y) else kv) (vs.map fun kv=>if kv.1=k then (kv.1,u) else kv):=by
  unfold KV at r ⊢
  induction r with
  | nil=>exact .nil
  | @cons p q ps qs h t ih =>
    rw [List.map_cons,List.map_cons]
    refine .cons ?_ ih
    obtain ⟨h1,h2⟩:=h
    by_cases e:p.1=k
    · rw [if_pos e,if_pos (h1.symm.trans e)]; exact ⟨h1,ry⟩
    · rw [if_neg e,if_neg (fun z=>e (h1.trans z))]; exact ⟨h1,h2⟩
theorem KV.put {kvs:List (κ × V)} {vs:List (κ × Value)} (r:KV kvs vs) (k:κ) {y:V} {u:Value} (ry:RelV y u):KV (putK kvs k y) (stored vs k u):=by
 unfold putK stored
 rw [r.any k]
 by_cases e:(vs.any fun kv=>decide (kv.1=k))=true
 ·rw [if_pos e,if_pos e]; exact r.repl k ry
 ·rw [if_neg e,if_neg e]; exact Paired.snoc r ⟨rfl,ry⟩
theorem KV.drop {kvs:List (κ × V)} {vs:List (κ × Value)} (r:KV kvs vs) (k:κ):KV (xbo kvs k) (without vs k):=by
 unfold KV at r ⊢
 unfold xbo without
 induction r with
 | nil=>exact .nil
 | @cons p q ps qs h t ih =>
  obtain ⟨h1,h2⟩:=h
  rw [List.filter_cons,List.filter_cons]
  by_cases e:p.1=k
  ·have a:¬ decide (p.1≠k)=true:=by simp [e]
   have b:¬ decide (q.1≠k)=true:=by simp [h1.symm.trans e]
   rw [if_neg a,if_neg b]; exact ih
  ·have e':¬ q.1=k:=fun z=>e (h1.trans z)
   have a:decide (p.1≠k)=true:=by simp [e]
   have b:decide (q.1≠k)=true:=by simp [e']
   rw [if_pos a,if_pos b]; exact .cons ⟨h1,h2⟩ ih
theorem KV.keys {kvs:List (κ × V)} {vs:List (κ × Value)} (r:KV kvs vs):kvs.map (·.1)=vs.map (·.1):=by
 unfold KV at r
 induction r with
 | nil=>rfl
 | cons h t ih=>rw [List.map_cons,List.map_cons,ih,h.1]
theorem KV.length {kvs:List (κ × V)} {vs:List (κ × Value)} (r:KV kvs vs):kvs.length=vs.length:=Paired.length r
theorem xhu (kvs:List (κ × V)) (k:κ):(xbo kvs k).length≤kvs.length:=List.length_filter_le _ _
end
theorem xco {P:Program} {w:World} {k:Key} {u:Value} (r:RelV (kV k) u):(xam P w).is k u=true:=by
 cases k with
 | inl i=>obtain ⟨t,e⟩:=(show ∃ t,u=Value.int i t from r); subst e; exact xhy P w i t
 | inr x=>obtain ⟨t,e⟩:=(show ∃ t,u=Value.str x t from r); subst e; exact xhz P w x t
theorem xgi {P:Program} {w:World}:∀ {ks:List Key} {us:List Value},Vals (ks.map kV) us→ItemsAre (xam P w) ks us
 | [],_,r=>by rw [List.map_nil] at r; cases r; exact .nil
 | k :: ks,_,r=>by
  rw [List.map_cons] at r
  cases r with
  | cons h t=>exact .cons (xco h) (xgi t)
abbrev KT (H:Hp):List (List Key × V)→List (List Key × Addr × Value)→Prop:=Paired fun p q=>p.1=q.1∧H q.2.1=some (.tup (p.1.map kV))∧RelV p.2 q.2.2
theorem KT.val {H:Hp} {kvs:List (List Key × V)} {xs:List (List Key × Addr × Value)} (r:KT H kvs xs) (k:List Key):RelO (valV kvs k) ((atKey xs k).map (·.2)):=by
 induction r with
 | nil=>exact True.intro
 | @cons p q ps qs h t ih =>
  obtain ⟨h1,_,h2⟩:=h
  by_cases e:p.1=k
  ·have e':q.1=k:=h1.symm.trans e
   have b:atKey (q :: qs) k=some q.2:=by simp [atKey,List.find?_cons,e']
   rw [xbd e,b]; exact h2
  ·have e':¬ q.1=k:=fun z=>e (h1.trans z)
   have b:atKey (q :: qs) k=atKey qs k:=by simp [atKey,List.find?_cons,e']
   rw [xa9 e,b]; exact ih
theorem KT.repl {H:Hp} {kvs:List (List Key × V)} {xs:List (List Key × Addr × Value)} (r:KT H kvs xs) (k:List Key) {y:V} {u:Value} (ry:RelV y u) :
    KT H (kvs.map fun kv=>if kv.1=k then (kv.1,y) else kv) (xs.map (putAt k u)):=by
  induction r with
  | nil=>exact .nil
  | @cons p q ps qs h t ih =>
    rw [List.map_cons,List.map_cons]
    refine .cons ?_ ih
    obtain ⟨h1,h2,h3⟩:=h
    unfold putAt
    by_cases e:p.1=k
    · rw [if_pos e,if_pos (h1.symm.trans e)]; exact ⟨h1,h2,ry⟩
    · rw [if_neg e,if_neg (fun z=>e (h1.trans z))]; exact ⟨h1,h2,h3⟩
theorem KT.put {H:Hp} {kvs:List (List Key × V)} {xs:List (List Key × Addr × Value)} (r:KT H kvs xs) (k:List Key) {b:Addr} {y:V} {u:Value} (hb:H b=some (.tup (k.map kV))) (ry:RelV y u) :
    KT H (putK kvs k y) (storedH xs k b u):=by
  have e:(kvs.any fun kv=>decide (kv.1=k))=(atKey xs k).isSome:=by
    rw [xca,(r.val k).isSome_eq,Option.isSome_map]
  unfold putK storedH
  rw [e]
  by_cases q:(atKey xs k).isSome=true
  · rw [if_pos q,if_pos q]; exact r.repl k ry
  · rw [if_neg q,if_neg q]; exact Paired.snoc r ⟨rfl,hb,ry⟩
theorem KT.keeps {H H':Hp} {kvs:List (List Key × V)} {xs:List (List Key × Addr × Value)} (r:KT H kvs xs) (ht:∀ b ys,H b=some (.tup ys)→H' b=some (.tup ys)):KT H' kvs xs :=
 Paired.mapP r fun _ _ z=>⟨z.1,ht _ _ z.2.1,z.2.2⟩
section
variable {P:Program} {w:World} {H:Hp} {h:Heap} {a:Addr}
theorem xl5 {u:HO} (ok:HOk P w H h) (e:Rd H a u):xau P w H h a u:=e.ok ok
theorem xdj {kvs:List (Key × V)} (ok:HOk P w H h) (e:Rd H a (.dK kvs)):kvs.length≤sizeLine∧(a == sysModules)=false∧∃ vs,KV kvs vs∧h.DictOf (xam P w) a vs :=
 show xau P w H h a (.dK kvs) from xl5 ok e
theorem xgv {kvs:List (Key × V)} (ok:HOk P w H h) (e:H a=some (.dK kvs)):kvs.length≤sizeLine∧(a == sysModules)=false∧∃ vs,KV kvs vs∧h.DictOf (xam P w) a vs:=xdj ok (.inl e)
theorem xct {ks:List Key} (ok:HOk P w H h) (e:H a=some (.tup (ks.map kV))):(tupleKind (xam P w)).is h ks a:=by
 obtain ⟨_,its,r,o,h1,h2,n,h3⟩:=(show xau P w H h a (.tup (ks.map kV)) from ok a _ e)
 exact ⟨o,its.toArray,n,h1,h2,h3,by simpa using xgi r⟩
theorem xdy {kvs:List (List Key × V)} (ok:HOk P w H h) (e:Rd H a (.dT kvs)):kvs.length≤sizeLine∧(a == sysModules)=false ∧
    ∃ xs,KT H kvs xs∧h.DictOfH (tupleKind (xam P w)) a xs:=by
  obtain ⟨z,y,xs,r,o,es,ep,h1,h2,h3,h4,h5⟩:=(show xau P w H h a (.dT kvs) from xl5 ok e)
  refine ⟨z,y,xs,r,o,es,ep,h1,h2,h3,h4,fun x hx=>?_,h5⟩
  have all:∀ {l:List (List Key × V)} {m:List (List Key × Addr × Value)},KT H l m→∀ x ∈ m,(tupleKind (xam P w)).is h x.1 x.2.1:=by
    intro l m q
    induction q with
    | nil=>intro x hx; exact nomatch hx
    | @cons p q ps qs hq t ih =>
      intro x hx
      rcases List.mem_cons.mp hx with e | hx
      · subst e
        exact xct ok (by rw [← hq.1]; exact hq.2.1)
      · exact ih x hx
  exact all r x hx
theorem xgt {kvs:List (List Key × V)} (ok:HOk P w H h) (e:H a=some (.dT kvs)):kvs.length≤sizeLine∧(a == sysModules)=false ∧
    ∃ xs,KT H kvs xs∧h.DictOfH (tupleKind (xam P w)) a xs:=xdy ok (.inl e)
end
def DGet (H:Hp) (a:Addr) (y:V) (r:Option V):Prop :=
 (∃ kvs k,Rd H a (.dK kvs)∧y=kV k∧r=valV kvs k)∨∃ kvs k b,Rd H a (.dT kvs)∧y=.ref b∧H b=some (.tup (k.map kV))∧r=valV kvs k
def DPut (H:Hp) (a:Addr) (y v:V) (H':Hp):Prop :=
 (∃ kvs k,H a=some (.dK kvs)∧y=kV k∧kvs.length < sizeLine∧H'=upd H a (.dK (putK kvs k v))) ∨
 ∃ kvs k b,H a=some (.dT kvs)∧y=.ref b∧H b=some (.tup (k.map kV))∧kvs.length < sizeLine∧H'=upd H a (.dT (putK kvs k v))
theorem DGet.k {H:Hp} {a:Addr} {kvs:List (Key × V)} {k:Key} (e:H a=some (.dK kvs)):DGet H a (kV k) (valV kvs k):=.inl ⟨kvs,k,.inl e,rfl,rfl⟩
theorem DGet.t {H:Hp} {a b:Addr} {kvs:List (List Key × V)} {k:List Key} (e:H a=some (.dT kvs)) (eb:H b=some (.tup (k.map kV))):DGet H a (.ref b) (valV kvs k):=.inr ⟨kvs,k,b,.inl e,rfl,eb,rfl⟩
theorem DPut.k {H:Hp} {a:Addr} {kvs:List (Key × V)} {k:Key} {v:V} (e:H a=some (.dK kvs)) (hl:kvs.length < sizeLine):DPut H a (kV k) v (upd H a (.dK (putK kvs k v))):=.inl ⟨kvs,k,e,rfl,hl,rfl⟩
theorem DPut.t {H:Hp} {a b:Addr} {kvs:List (List Key × V)} {k:List Key} {v:V} (e:H a=some (.dT kvs)) (eb:H b=some (.tup (k.map kV))) (hl:kvs.length < sizeLine) :
    DPut H a (.ref b) v (upd H a (.dT (putK kvs k v))):=.inr ⟨kvs,k,b,e,rfl,eb,hl,rfl⟩
section
variable {X:Cx} {pins:List (Addr × Obj)} {σ:St} {H:Hp} {s:Shared} {a:Addr} {y v:V} {u r:Value} {o:Option V} {A:Around} {E:Value→Shared→Prop}
theorem Inv.big (I:Inv X pins σ H s):sysModules < s.heap.objs.size:=by
 have h:mainGlobals < s.heap.objs.size:=(I.mod.glob.keeps I.bk).lt
 exact Nat.lt_trans (by decide) h
theorem xkv {Q:Value→Shared→Prop} (hu:A.units + 1 < cLine) (I:Inv X pins σ H s) (g:DGet H a y (some v)) (ry:RelV y u) (h:∀ w' s',Inv X pins σ H s'→RelV v w'→Q w' s') :
    wpAny (model X.prog X.w) A (getItem (.ref a) u) Q E s:=by
  rcases g with ⟨kvs,k,e,ey,l⟩ | ⟨kvs,k,b,e,ey,eb,l⟩
  · subst ey
    obtain ⟨z,hd,vs,rel,dd⟩:=xdj I.hok e
    obtain ⟨w',hw,rw'⟩:=RelO.some_of (v:=v) (o:=valueAt vs k) (by rw [l]; exact rel.val k)
    exact wpAny_getItem_of (xco ry) dd.mapOf hw (h w' _ (I.tok _) rw')
  · subst ey
    cases (show u=Value.ref b from ry)
    obtain ⟨z,hd,xs,rel,dd⟩:=xdy I.hok e
    obtain ⟨w',hw,rw'⟩:=RelO.some_of (v:=v) (o:=(atKey xs k).map (·.2)) (by rw [l]; exact rel.val k)
    obtain ⟨p,hp,hp2⟩:=Option.map_eq_some_iff.mp hw
    refine wpAny_getItem_heap (tupleKind_room_in1 hu) (xct I.hok eb) dd hp ?_
    rw [hp2]
    exact h w' _ (I.tok _) rw'
theorem d_in {Q:Value→Shared→Prop} (hu:A.units + 1 < cLine) (I:Inv X pins σ H s) (g:DGet H a y o) (ry:RelV y u) (h:∀ s',Inv X pins σ H s'→Q (.bool o.isSome) s') :
    wpAny (model X.prog X.w) A (compareOp .In u (.ref a)) Q E s:=by
  rcases g with ⟨kvs,k,e,ey,l⟩ | ⟨kvs,k,b,e,ey,eb,l⟩
  · subst ey
    obtain ⟨z,hd,vs,rel,dd⟩:=xdj I.hok e
    refine wpAny_in_of (xco ry) hd dd.mapOf ?_
    rw [← (rel.val k).isSome_eq,← l]
    exact h _ (I.tok _)
  · subst ey
    cases (show u=Value.ref b from ry)
    obtain ⟨z,hd,xs,rel,dd⟩:=xdy I.hok e
    refine wpAny_in_heap (tupleKind_room_in1 hu) (xct I.hok eb) hd dd ?_
    have q:=(rel.val k).isSome_eq
    rw [Option.isSome_map] at q
    rw [← q,← l]
    exact h _ (I.tok _)
theorem xmk {Q:Value→Shared→Prop} (hu:A.units + 1 < cLine) (I:Inv X pins σ H s) (g:DGet H a y o) (ry:RelV y u) (h:∀ s',Inv X pins σ H s'→Q (.bool (!o.isSome)) s') :
    wpAny (model X.prog X.w) A (compareOp .NotIn u (.ref a)) Q E s:=by
  rcases g with ⟨kvs,k,e,ey,l⟩ | ⟨kvs,k,b,e,ey,eb,l⟩
  · subst ey
    obtain ⟨z,hd,vs,rel,dd⟩:=xdj I.hok e
    refine wpAny_notIn_of (xco ry) hd dd.mapOf ?_
    rw [← (rel.val k).isSome_eq,← l]
    exact h _ (I.tok _)
  · subst ey
    cases (show u=Value.ref b from ry)
    obtain ⟨z,hd,xs,rel,dd⟩:=xdy I.hok e
    refine wpAny_notIn_heap (tupleKind_room_in1 hu) (xct I.hok eb) hd dd ?_
    have q:=(rel.val k).isSome_eq
    rw [Option.isSome_map] at q
    rw [← q,← l]
    exact h _ (I.tok _)
theorem xcz {h':Heap} {t':Nat} {ob:HO} (I:Inv X pins σ H s) (mu:Mut (H a)) (hs:Heap.SameBut a s.heap h') (he:∃ q,h'.get? a=some q) (new:xau X.prog X.w (upd H a ob) h' a ob) :
    Inv X pins σ (upd H a ob) { s with heap:=h',toks:=t' } :=
  I.write (x:=a) (e:=a) mu (.inl rfl) (fun b q hb z=>(hs.2 b hb).trans z) he new
theorem xhb {P:Program} {w:World} {H':Hp} {h':Heap} {kvs:List (Key × V)} {vs:List (Key × Value)} (z:kvs.length≤sizeLine) (hd:(a == sysModules)=false) (rel:KV kvs vs) (dd:h'.DictOf (xam P w) a vs) :
    xau P w H' h' a (.dK kvs):=⟨z,hd,vs,rel,dd⟩
theorem xj5 {H':Hp} {Q:Unit→Shared→Prop} (hu:A.units + 1 < cLine) (I:Inv X pins σ H s) (g:DPut H a y v H') (ry:RelV y u) (rv:RelV v r) (h:∀ s',Inv X pins σ H' s'→Q () s') :
    wpAny (model X.prog X.w) A (setItem (.ref a) u r) Q E s:=by
  rcases g with ⟨kvs,k,e,ey,l,eH⟩ | ⟨kvs,k,b,e,ey,eb,l,eH⟩
  · subst ey eH
    obtain ⟨z,hd,vs,rel,dd⟩:=xgv I.hok e
    have hz:vs.length≤sizeLine:=by rw [← rel.length]; exact z
    have hl:(putK kvs k v).length≤sizeLine:=by have:=xbm kvs k v; omega
    refine wpAny_setItem_pairs (hsz:=hz) (xco ry) dd fun h' dd' hs=>h _ ?_
    have he:∃ q,h'.get? a=some q:=let ⟨q,_,_,hq,_⟩:=dd'; ⟨q,hq⟩
    exact xcz I (by rw [e]; exact True.intro) hs he (xhb hl hd (rel.put k rv) dd')
  · subst ey eH
    cases (show u=Value.ref b from ry)
    obtain ⟨z,hd,xs,rel,dd⟩:=xgt I.hok e
    have hz:xs.length≤sizeLine:=by rw [← Paired.length rel]; exact z
    have hl:(putK kvs k v).length≤sizeLine:=by have:=xbm kvs k v; omega
    refine wpAny_setItem_heap (hsz:=hz) (tupleKind_room_in1 hu) (xct I.hok eb) dd fun h' dd' hs=>h _ ?_
    obtain ⟨q,es,ep,hq,h2,h3,h4,_,h5⟩:=dd'
    refine xcz I (by rw [e]; exact True.intro) hs ⟨q,hq⟩ ⟨hl,hd,_,(rel.put k eb rv).keeps fun c ys ec=>?_,q,es,ep,hq,h2,h3,h4,h5⟩
    rw [xh (xak ec e (fun z=>nomatch z))]
    exact ec
end
section
variable {X:Cx} {pins:List (Addr × Obj)} {σ:St} {H:Hp} {s:Shared} {a:Addr} {kvs:List (Key × V)} {k:Key} {u:Value} {A:Around} {E:Value→Shared→Prop}
theorem xpa {v:V} {more:List Value} {Q:Value→Shared→Prop} (I:Inv X pins σ H s) (e:H a=some (.dK kvs)) (ry:RelV (kV k) u) (l:valV kvs k=some v) (hm:more=[]∨∃ x,more=[x])
    (h:∀ w' s',Inv X pins σ (upd H a (.dK (xbo kvs k))) s'→RelV v w'→Q w' s'):wpAny (model X.prog X.w) A (call (.builtin "dict.pop") (.ref a :: u :: more)) Q E s:=by
  obtain ⟨z,hd,vs,rel,dd⟩:=xgv I.hok e
  obtain ⟨w',hw,rw'⟩:=RelO.some_of (v:=v) (o:=valueAt vs k) (by rw [← l]; exact rel.val k)
  have hp:(keyPart u).isSome=true:=by
    cases k with
    | inl i=>obtain ⟨t,q⟩:=(show ∃ t,u=Value.int i t from ry); subst q; rfl
    | inr x=>obtain ⟨t,q⟩:=(show ∃ t,u=Value.str x t from ry); subst q; rfl
  have ha:argsOk "dict.pop" ⟨.ref a :: u :: more,[]⟩:=by
    rcases hm with q | ⟨x,q⟩
    · subst q; exact PySem.F.args_dict_pop_2 _ _
    · subst q; exact PySem.F.args_dict_pop_3 _ _ _
  refine call_meetsIn PySem.F.slot_dict_pop dd.typeIs PySem.F.entry_dict_pop ha (meets_dict_pop_there (xam X.prog X.w) a (xco ry) more hm hp)
    ⟨vs,w',dd,by rw [← rel.length]; exact z,hw,fun h' dd' hs=>h w' _ ?_ rw'⟩
  have he:∃ q,h'.get? a=some q:=let ⟨q,_,_,hq,_⟩:=dd'; ⟨q,hq⟩
  exact xcz I (by rw [e]; exact True.intro) hs he (xhb (Nat.le_trans (xhu kvs k) z) hd (rel.drop k) dd')
theorem xpn {Q:Value→Shared→Prop} (I:Inv X pins σ H s) (e:Rd H a (.dK kvs)) (h:∀ t s',Inv X pins σ H s'→Q (.int kvs.length t) s'):wpAny (model X.prog X.w) A (call (.builtin "len") [.ref a]) Q E s:=by
 obtain ⟨z,hd,vs,rel,dd⟩:=xdj I.hok e
 refine call_len_dict hd dd (by rw [← rel.length]; rw [sizeLine_eq] at z; omega) ?_
 rw [← rel.length]
 exact h _ _ (I.tok _)
end
def NoSl (i:Expr):Prop:=∀ ov iv,subscripted i false ov iv=operate [ov,iv] (getItem ov iv)
theorem xna {prog:Program} {w:World} {A:Around} {E:Value→Shared→Prop} {s:Shared} {env:Env} {value slice:Expr} {pos:Pos} {T id:String} {Q:Value→Shared→Prop}
    (hl:typeLookup (.type T) "__getitem__"=pure (some (.builtin id))) (hs:NoSl slice)
    (h:wpAny (model prog w) A (eval value env) (fun o s₁=>wpAny (model prog w) A (eval slice env) (fun i s₂=>s₂.TypeIs o T∧wpAny (model prog w) A (getItem o i) Q E s₂) E s₁) E s) :
    wpAny (model prog w) A (eval (.Subscript value slice pos) env) Q E s:=by
  refine Subscript_ (wpAny_mono h (fun o s₁ h₁=>wpAny_mono h₁ (fun i s₂ h₂=>?_) fun _ _ x=>x) fun _ _ x=>x)
  obtain ⟨hT,h₂⟩:=h₂
  unfold subscriptTail
  refine wpAny_bind ?_
  rw [getitemInPython_of_ne hT.not_modules]
  refine wpAny_bind (wpAny_specialOf hT hl ?_)
  have fin:wpAny (model prog w) A (subscripted slice false o i) (fun r s₃=>wpAny (model prog w) A (letTemporaryGo value o r >>= fun _=>pure r) Q E s₃) E s₂:=by
    rw [hs o i]
    exact wpAny_operating (wpAny_mono h₂ (fun r s₃ h₃=>wpAny_bind (wpAny_letTemporaryGo (wpAny_pure h₃))) fun _ _ x=>x)
  first
    | exact wpAny_pure (wpAny_bind fin)
    | exact wpAny_bind (wpAny_pure (wpAny_bind fin))
    | exact wpAny_bind fin
theorem xh3 {X:Cx} {pins:List (Addr × Obj)} {σ:St} {H:Hp} {s:Shared} {a:Addr} {y:V} {o:Option V} (I:Inv X pins σ H s) (g:DGet H a y o):s.TypeIs (.ref a) "dict":=by
 rcases g with ⟨kvs,k,e,_,_⟩ | ⟨kvs,k,b,e,_,_,_⟩
 ·obtain ⟨_,_,vs,_,dd⟩:=xdj I.hok e
  exact dd.typeIs
 ·obtain ⟨_,_,xs,_,dd⟩:=xdy I.hok e
  exact dd.typeIs
def xpc (td ty:TE):TE:=fun σ H Q=>td σ H fun x H1=>ty σ H1 fun y H2=>∃ a v,x=.ref a∧DGet H2 a y (some v)∧Q v H2
def tDIn (ty td:TE):TE:=fun σ H Q=>ty σ H fun y H1=>td σ H1 fun x H2=>∃ a o,x=.ref a∧DGet H2 a y o∧Q (.bl o.isSome) H2
def xmg (ty td:TE):TE:=fun σ H Q=>ty σ H fun y H1=>td σ H1 fun x H2=>∃ a o,x=.ref a∧DGet H2 a y o∧Q (.bl (!o.isSome)) H2
def xo0 (td ty tv:TE):TS:=fun D σ H=>tv σ H fun v H1=>td σ H1 fun x H2=>ty σ H2 fun y H3=>∃ a H4,x=.ref a∧DPut H3 a y v H4∧D.nx σ H4
section
variable {X:Cx} {o i e value:Expr} {pos pos' tpos:Pos} {td ty tv:TE}
theorem xdn (hu:X.A.units + 1 < cLine) (ho:PE X o td) (hi:PE X i ty) (hs:NoSl i):PE X (.Subscript o i pos) (xpc td ty):=by
 intro pins s σ H Q I h
 refine xna PySem.F.slot_dict_getitem.lookup hs (thn (ho pins s σ H _ I h) fun u s1 ⟨x,H1,I1,rx,q1⟩=>thn (hi pins s1 σ H1 _ I1 q1) fun iv s2 ⟨y,H2,I2,ry,a,v,ex,g,q2⟩=>?_)
 subst ex
 obtain rfl:u=Value.ref a:=rx
 exact ⟨xh3 I2 g,xkv hu I2 g ry fun w' s3 I3 rw'=>⟨v,H2,I3,rw',q2⟩⟩
theorem xhl (hu:X.A.units + 1 < cLine) (hi:PE X i ty) (ho:PE X o td):PC X .In i o (tDIn ty td):=by
 intro pins s σ H Q I h
 refine thn (hi pins s σ H _ I h) fun iv s1 ⟨y,H1,I1,ry,q1⟩=>thn (ho pins s1 σ H1 _ I1 q1) fun u s2 ⟨x,H2,I2,rx,a,ov,ex,g,q2⟩=>?_
 subst ex
 obtain rfl:u=Value.ref a:=rx
 exact d_in hu I2 g ry fun s3 I3=>⟨.bl ov.isSome,H2,I3,rfl,q2⟩
theorem xdf (hu:X.A.units + 1 < cLine) (hi:PE X i ty) (ho:PE X o td):PC X .NotIn i o (xmg ty td):=by
 intro pins s σ H Q I h
 refine thn (hi pins s σ H _ I h) fun iv s1 ⟨y,H1,I1,ry,q1⟩=>thn (ho pins s1 σ H1 _ I1 q1) fun u s2 ⟨x,H2,I2,rx,a,ov,ex,g,q2⟩=>?_
 subst ex
 obtain rfl:u=Value.ref a:=rx
 exact xmk hu I2 g ry fun s3 I3=>⟨.bl (!ov.isSome),H2,I3,rfl,q2⟩
theorem xc4 (hu:X.A.units + 1 < cLine) (ho:PE X o td) (hi:PE X i ty) (hv:PE X value tv) (hs:swapsWith value (some (.Subscript o i pos')) pos.line X.env=pure false) :
    PS X (.Assign [.Subscript o i pos'] value pos) (xo0 td ty tv):=by
  intro pins s σ H D I h
  refine wpAny_Assign_Subscript (thn (hv pins s σ H _ I h) fun r s1 ⟨v,H1,I1,rv,q1⟩=>thn (ho pins s1 σ H1 _ I1 q1) fun u s2 ⟨x,H2,I2,rx,q2⟩=>thn (hi pins s2 σ H2 _ I2 q2) fun iv s3 ⟨y,H3,I3,ry,a,H4,ex,g,q3⟩=>?_) hs
  subst ex
  obtain rfl:u=Value.ref a:=rx
  exact xj5 hu I3 g ry rv fun s4 I4=>⟨σ,H4,I4,q3⟩
end
theorem xhi {P:Program} {w:World} {H:Hp} (h:Heap) (hb:sysModules < h.objs.size):xau P w H (h.push { cls:=.type "dict",data:=.dict #[] }) h.objs.size (.dK []) :=
 ⟨Nat.zero_le _,beq_eq_false_iff_ne.mpr (Ne.symm (Nat.ne_of_lt hb)),[],.nil,Heap.DictOf.new h⟩
theorem xha {P:Program} {w:World} {H:Hp} (h:Heap) (hb:sysModules < h.objs.size):xau P w H (h.push { cls:=.type "dict",data:=.dict #[] }) h.objs.size (.dT []) :=
 ⟨Nat.zero_le _,beq_eq_false_iff_ne.mpr (Ne.symm (Nat.ne_of_lt hb)),[],.nil,_,#[],0,Heap.get?_push_size _ rfl,⟨rfl,rfl,rfl⟩,rfl,rfl,List.nodup_nil⟩
def xn3:TE:=fun _ H Q=>∀ p,H p=none→Q (.ref p) (upd H p (.dK []))
def xog:TE:=fun _ H Q=>∀ p,H p=none→Q (.ref p) (upd H p (.dT []))
section
variable {X:Cx} {pos:Pos}
theorem xhc:PE X (.Dict [] [] pos) xn3:=fun pins s σ H Q I h =>
 wpAny_Dict_empty ⟨.ref s.heap.objs.size,_,I.laid (a:=s.heap.objs.size) (o:=.dK []) (t':=s.toks) (fun _ _ q=>Heap.get?_push_of_some _ q) (Nat.le_refl _) (xhi s.heap I.big),rfl,h _ (I.hok.fresh (Nat.le_refl _))⟩
theorem xe7:PE X (.Dict [] [] pos) xog:=fun pins s σ H Q I h =>
 wpAny_Dict_empty ⟨.ref s.heap.objs.size,_,I.laid (a:=s.heap.objs.size) (o:=.dT []) (t':=s.toks) (fun _ _ q=>Heap.get?_push_of_some _ q) (Nat.le_refl _) (xha s.heap I.big),rfl,h _ (I.hok.fresh (Nat.le_refl _))⟩
end
structure M1 (X:Cx) (o:Expr) (m:Str) (apos:Pos) (e:Expr) (cpos:Pos):Prop where
 base:attributeBase o m X.env (eval o X.env)=eval o X.env
 few:((backTo cpos (starEach [e] X.env)).all (fun x=>!x.1) && (backToKw cpos (keywordEach [] X.env)).all (fun x=>x.1.isSome)
  && decide (([e]:List Expr).length + ([]:List Keyword).length + (if ([]:List Keyword).isEmpty then 0 else 1) < 30))=true
 line:(apos.endLine == cpos.line)=true
 trees:backTo cpos (starEach [e] X.env)=[(false,eval e X.env)]
def IsD (H:Hp) (a:Addr):Prop:=(∃ kvs,Rd H a (.dK kvs))∨∃ kvs,Rd H a (.dT kvs)
theorem xhe {X:Cx} {pins:List (Addr × Obj)} {σ:St} {H:Hp} {s:Shared} {a:Addr} (I:Inv X pins σ H s) (d:IsD H a) :
    s.TypeIs (.ref a) "dict"∧(∀ b,Value.ref a=.ref b→∃ ob,s.heap.get? b=some ob∧ob.dict=none)∧(a == sysModules)=false:=by
  rcases d with ⟨kvs,e⟩ | ⟨kvs,e⟩
  · obtain ⟨_,hd,vs,_,dd⟩:=xdj I.hok e
    refine ⟨dd.typeIs,fun b q=>?_,hd⟩
    cases q
    obtain ⟨ob,_,_,h1,h2,_⟩:=dd
    exact ⟨ob,h1,h2.2.1⟩
  · obtain ⟨_,hd,xs,_,dd⟩:=xdy I.hok e
    refine ⟨dd.typeIs,fun b q=>?_,hd⟩
    cases q
    obtain ⟨ob,_,_,h1,h2,_⟩:=dd
    exact ⟨ob,h1,h2.2.1⟩
section
variable {X:Cx} {pins:List (Addr × Obj)} {σ:St} {H:Hp} {s:Shared} {a:Addr} {y d:V} {u r:Value} {o:Option V} {A:Around} {E:Value→Shared→Prop}
theorem xno {Q:Value→Shared→Prop} (hu:A.units + 1 < cLine) (I:Inv X pins σ H s) (g:DGet H a y o) (ry:RelV y u) (h:∀ w' s',Inv X pins σ H s'→RelV (o.getD .non) w'→Q w' s') :
    wpAny (model X.prog X.w) A (call (.builtin "dict.get") [.ref a,u]) Q E s:=by
  rcases g with ⟨kvs,k,e,ey,l⟩ | ⟨kvs,k,b,e,ey,eb,l⟩
  · subst ey
    obtain ⟨z,hd,vs,rel,dd⟩:=xdj I.hok e
    refine call_meetsIn PySem.F.slot_dict_get dd.typeIs PySem.F.entry_dict_get (PySem.F.args_dict_get_2 _ _) (meets_dict_get (xam X.prog X.w) a (xco ry) hd) ⟨_,dd.mapOf,h _ _ (I.tok _) ?_⟩
    rw [l]
    exact (rel.val k).getD rfl
  · subst ey
    cases (show u=Value.ref b from ry)
    obtain ⟨z,hd,xs,rel,dd⟩:=xdy I.hok e
    refine call_meetsIn PySem.F.slot_dict_get dd.typeIs PySem.F.entry_dict_get (PySem.F.args_dict_get_2 _ _) (meetsH_dict_get (tupleKind (xam X.prog X.w)) a b hd) ⟨tupleKind_room_in1 hu,k,xs,xct I.hok eb,dd,h _ _ (I.tok _) ?_⟩
    rw [l]
    exact (rel.val k).getD rfl
end
def xnc (td ty:TE):TE:=fun σ H Q=>td σ H fun x H1=>∃ a,x=.ref a∧IsD H1 a∧ty σ H1 fun y H2=>∃ o,DGet H2 a y o∧Q (o.getD .non) H2
def xoh (td ty:TE):TE:=fun σ H Q=>td σ H fun x H1=>∃ a,x=.ref a∧IsD H1 a∧ty σ H1 fun y H2=>∃ kvs k v,H2 a=some (.dK kvs)∧y=kV k∧valV kvs k=some v∧Q v (upd H2 a (.dK (xbo kvs k)))
section
variable {X:Cx} {o e f:Expr} {apos cpos:Pos} {td ty tx:TE}
theorem xk4 (hu:X.A.units + 1 < cLine) (ho:PE X o td) (he:PE X e ty) (m:M1 X o "get" apos e cpos):PE X (.Call (.Attribute o "get" apos) [e] [] cpos) (xnc td ty):=by
 intro pins s σ H Q I h
 refine wpAny_Call_method m.base m.few m.line PySem.F.plainAttrs_dict PySem.F.slot_dict_get PySem.F.type_dict_get (thn (ho pins s σ H _ I h) fun u s1 ⟨x,H1,I1,rx,a,ex,d,q1⟩=>?_)
 subst ex
 obtain rfl:u=Value.ref a:=rx
 obtain ⟨t1,t2,_⟩:=xhe I1 d
 refine ⟨t1,t2,?_⟩
 rw [m.trees]
 refine Calls.callWith_builtin rfl (Calls.evalArgs_plain (Calls.spliced_cons (thn (he pins s1 σ H1 _ I1 q1) fun iv s2 ⟨y,H2,I2,ry,ov,g,q2⟩=>Calls.spliced_nil ?_)))
 exact xno hu I2 g ry fun w' s3 I3 rw'=>⟨_,H2,I3,rw',q2⟩
theorem xlb (ho:PE X o td) (he:PE X e ty) (m:M1 X o "pop" apos e cpos):PE X (.Call (.Attribute o "pop" apos) [e] [] cpos) (xoh td ty):=by
 intro pins s σ H Q I h
 refine wpAny_Call_method m.base m.few m.line PySem.F.plainAttrs_dict PySem.F.slot_dict_pop PySem.F.type_dict_pop (thn (ho pins s σ H _ I h) fun u s1 ⟨x,H1,I1,rx,a,ex,d,q1⟩=>?_)
 subst ex
 obtain rfl:u=Value.ref a:=rx
 obtain ⟨t1,t2,_⟩:=xhe I1 d
 refine ⟨t1,t2,?_⟩
 rw [m.trees]
 refine Calls.callWith_builtin rfl (Calls.evalArgs_plain (Calls.spliced_cons (thn (he pins s1 σ H1 _ I1 q1) fun iv s2 ⟨y,H2,I2,ry,kvs,k,v,ea,ey,l,q2⟩=>Calls.spliced_nil ?_)))
 subst ey
 exact xpa I2 ea ry l (.inl rfl) fun w' s3 I3 rw'=>⟨v,_,I3,rw',q2⟩
end
section
variable {X:Cx} {pins:List (Addr × Obj)} {σ:St} {H:Hp} {s:Shared} {a:Addr} {kvs:List (Key × V)} {A:Around} {E:Value→Shared→Prop}
end
section
variable {X:Cx} {pins:List (Addr × Obj)} {σ:St} {H:Hp} {s:Shared} {a:Addr} {y:V} {u:Value} {A:Around} {E:Value→Shared→Prop}
end
end L2
namespace Att
open PySem PySem.W PySem.Calls PyProof.Rows
theorem xfh {P:Params} {h:Heap}:∀ (ns:List Int) (vs:List Value),WellAll P h vs (ns.map WData.int)→IntsAre vs ns:=by
 intro ns
 induction ns with
 | nil =>
  intro vs w
  rw [List.map_nil] at w
  cases w
  exact .nil
 | cons n ns ih =>
  intro vs w
  rw [List.map_cons] at w
  cases w with
  | cons a b =>
   cases a
   exact .cons _ _ (ih _ b)
theorem xjf {l:OpenLaw} {n:Nat} (hn:l.most=some n) {P:Params} {h:Heap} {args:List WData} {vals:List Value}
    (hpre:l.row.toRowW.claim.pre args=true) (hwl:WellAll P h vals args) :
    ∃ a vs ns,vals=[Value.ref a]∧args=[WData.list (ns.map WData.int)]∧h.get? a=some { cls:=.type "list",data:=.seq vs.toArray }∧IntsAre vs ns∧ns.length≤n:=by
  have hsh:WShape.hasAll [] args [.list .int]=true:=(pre_splitW hpre).1
  have hc:l.pre.holds [] { args:=args }=true:=(pre_splitW hpre).2
  obtain ⟨d,r,rfl,h1,h2⟩:=hasAllW_cons hsh
  obtain rfl:=hasAllW_nil h2
  obtain ⟨xs,rfl,h3⟩:=hasW_list h1
  obtain ⟨ns,rfl⟩:=items_int h3
  have hlen:ns.length≤n:=by
    unfold OpenLaw.pre at hc
    have h4:(WTm.not (.lt (.lit (.int (n:Int))) (.len (.arg 0)))).holds [] { args:=[.list (ns.map .int)] }=true:=by
      have h4:=(holds_andW hc).1
      rw [hn] at h4
      exact h4
    have h5:=condW_of h4 (w_not (w_lt w_lit (w_len_list (w_arg rfl))))
    rw [List.length_map] at h5
    refine Nat.le_of_not_lt fun q=>?_
    have q':(n:Int) < ((ns.length:Nat):Int):=by omega
    first
      | (rw [decide_eq_true q'] at h5; exact absurd h5 (by decide))
      | (simp at h5; omega)
  cases hwl with
  | cons w1 w2 =>
    cases w2
    cases w1 with
    | list ho hall=>exact ⟨_,_,ns,rfl,rfl,ho,xfh ns _ hall,hlen⟩
theorem xje (l:OpenLaw) (args:List WData):l.row.toRowW.claim.post args (.bool true) args=true :=
 postW_of (r:=l.row.toRowW) (X:=(true == true))
  (show WShape.has [] (.bool true) .bool=true by first | rfl | decide | simp [WShape.has,WShape.arms,WShape.armsAll])
  (show (WTm.eq .res (.lit (.bool true))).value [] { args:=args,res:=some (.bool true),after:=args }=some (.bool (true == true)) from w_eq_bool (w_res rfl) w_lit) rfl
theorem attach_call {l:OpenLaw} {n:Nat} {q:Program} {loose:List Str} {XP:(Str→Option Value)→Heap→Prop} {YP:World→Heap→Prop} {d:DefRec}
    (hn:l.most=some n) (hdf:d.params.defaults=[])
    (call:∀ (w:World) (s₀ s₁:Shared) (mg mb:Str→Option Value) (fa:Addr) (o:Obj) (pm cd doc:Value) (a:Addr) (vs:List Value) (ns:List Int),
      Ground q loose [] XP w s₀ mg mb s₁.heap→YP w s₁.heap →
      s₁.heap.get? fa=some o→o.data=.func (docDef d.name d.params d.body d.scope pm cd doc)→s₁.heap.CodeRec cd d.name→mg d.name=some (.ref fa) →
      s₁.heap.get? a=some { cls:=.type "list",data:=.seq vs.toArray }→IntsAre vs ns→ns.length≤n→s₁.gens=#[] →
      codeAny (model l.prog w) callerA (.call (.ref fa) ⟨[.ref a],[]⟩) (fun r s'=>r=.ok (.ret (.bool true))∧OldK s₁.heap s'.heap∧s'.os=s₁.os∧AllBare s'.gens) s₁) :
    WalkO q loose XP YP l.row.toRowW d [] (fun f vs=>PySem.call f vs):=by
  intro w s₀ s₁ mg mb G Y fa o pm cd doc dV kV ho hd hcd hD hmg hg args vals as hpre hlay hrd hwl hlo
  obtain rfl:dV=.none:=Dflts.none hD hdf
  obtain rfl:kV=.none:=Dflts.noKw hD
  obtain ⟨a,vs,ns,rfl,rfl,hobj,hints,hlen⟩:=xjf hn hpre hwl
  refine enter_call (codeAny_mono (call w s₀ s₁ mg mb fa o pm cd doc a vs ns G Y ho (fd_plain hd) hcd hmg hobj hints hlen hg) fun r s' hq=>?_)
  obtain ⟨rfl,h2,h3,h4⟩:=hq
  exact ⟨.inl ⟨.bool true,.bool true,[],rfl,fun _=>rfl,.bool true,xje l _,fun _=>⟨List.Pairwise.nil,fun _ hm=>(nomatch hm)⟩⟩,h2,h3,h4⟩
section
variable {prog:Program} {w:World} {A:Around} {E:Value→Shared→Prop} {s:Shared} {K:Frag}
def xpv (h:Heap) (L d:Addr):List (Addr × Obj):=(List.range h.objs.size).filterMap fun a=>if a=L∨a=d then none else (h.get? a).map fun o=>(a,o)
end
end Att
namespace L2
open PySem PySem.Spec PyProof.Rows
variable {q0:Bool}
theorem xgm:∀ {vs:List Value} {ns:List Int},IntsAre vs ns→Vals (ns.map V.int) vs
 | _,_,.nil=>.nil
 | _,_,.cons n t h=>.cons ⟨t,rfl⟩ (xgm h)
def Only (H:Hp):Prop:=∀ b,H b=none∨∃ o xs,H b=some (.frz o (.lst xs))
theorem xk6 {P:Program} {w:World} {K:PySem.W.Frag} {mg mb:Str→Option Value} {CX:CXT} {k:Nat} {fa a:Addr} {fd:FuncData} {x:Str} {sp:Sp} {s₁:Shared} {vs:List Value} {ns:List Int}
    (KX:K.In s₁.heap) (hns:s₁.heap.Ns mainGlobals mg) (hb:s₁.heap.Ns builtinsNs mb) (hbb:∀ x:Str,x≠"__name__"→mb x=bootBuiltins x) (hlim:s₁.heap.NoLimit) (hg:s₁.gens=#[])
    (ha:s₁.heap.get? a=some { cls:=.type "list",data:=.seq vs.toArray }) (hi:IntsAre vs ns) (hl:ns.length≤sizeLine) (hr:Room q0 k callerA)
    (F:∀ base:Heap,K.In base→base.Ns mainGlobals mg→FnOk q0 P w K mg base CX k fa fd [x] sp) (hbind:∀ (s:Shared) (u:Value),BindsTo s fd ⟨[u],[]⟩ [(x,u)])
    (hsp:∀ H:Hp,Only H→SqL K H a (ns.map V.int)→sp [.ref a] H (fun v _=>v=.bl true) fun _ _ _=>False)
    (hCX:∀ H e s',CX [] H s₁ (fun _ _ _=>False) e s'→False) :
    codeAny (model P w) callerA (.call (.ref fa) ⟨[.ref a],[]⟩) (fun r s'=>r=.ok (.ret (.bool true))∧OldK s₁.heap s'.heap∧s'.os=s₁.os∧AllBare s'.gens) s₁:=by
  have rv:=xgm hi
  have lenV:=hi.length
  -- from an abstract heap in which nothing but the script may be tracked
  have core:∀ H:Hp,Only H→SqL K H a (ns.map V.int)→HOk P w H s₁.heap→(∀ b,H b≠none→b=a)→(H a≠none→K.lookup a=none) →
      codeAny (model P w) callerA (.call (.ref fa) ⟨[.ref a],[]⟩) (fun r s'=>r=.ok (.ret (.bool true))∧OldK s₁.heap s'.heap∧s'.os=s₁.os∧AllBare s'.gens) s₁:=by
    intro H hO hS hok hA hK
    have base_of:∀ {b:Addr} {o:Obj},s₁.heap.get? b=some o→H b=none→(hidT s₁.heap H).get? b=some o:=fun e n=>xld e n
    have noA:∀ {b:Addr} {o:Obj} {es:Array DictEntry} {ep:Nat},s₁.heap.get? b=some o→o.data=.dict es ep→H b=none:=fun {b o es ep} e d=>by
      cases q:H b with
      | none=>rfl
      | some u =>
        have e':b=a:=hA b (by rw [q]; simp)
        subst e'
        rw [ha] at e; cases e
        have d':Data.seq vs.toArray _=Data.dict es ep:=d
        cases d'
    have nsK:∀ {b:Addr} {m:Str→Option Value},s₁.heap.Ns b m→(hidT s₁.heap H).Ns b m:=fun {b m} ⟨o,es,ep,e,d,r⟩=>⟨o,es,ep,base_of e (noA e d),d,r⟩
    have hKb:K.In (hidT s₁.heap H):=fun b o e=>base_of (KX b o e) (by
      cases q:H b with
      | none=>rfl
      | some u =>
        have e':b=a:=hA b (by rw [q]; simp)
        subst e'
        rw [hK (by rw [q]; simp)] at e; cases e)
    have hM:Mod K mg (hidT s₁.heap H):=⟨hKb,nsK hns,⟨mb,nsK hb,hbb⟩,let ⟨mc,h1,h2⟩:=hlim; ⟨mc,nsK h1,h2⟩⟩
    have e0:Env0 P w K mg (hidT s₁.heap H) callerA [] s₁ H:=⟨rfl,hM,fun b o e=>xm4 e,Nat.le_of_eq (xjd _ _),trivial,fun b hb=>absurd (show b ∈ ([]:List Addr) from hb) (by simp),hok,.of_eq hg⟩
    refine codeAny_mono ((F _ hKb (nsK hns)).run callerA [] s₁ H ⟨[.ref a],[]⟩ [.ref a] [.ref a] _ _ hr e0 (hbind s₁ (.ref a)) (.cons rfl .nil) (hsp H hO hS)) fun r s' h=>?_
    cases r with
    | error e=>exact (hCX H e s' h).elim
    | ok fl =>
      cases fl with
      | next=>exact False.elim h
      | brk=>exact False.elim h
      | cont=>exact False.elim h
      | ret u =>
        obtain ⟨v,H',os,bare,un,hok',r',q⟩:=h
        have q':v=.bl true:=q
        subst q'
        obtain rfl:u=Value.bool true:=r'
        refine ⟨rfl,OldK.of_keep fun b o e=>?_,os,bare⟩
        cases q:H b with
        | none=>exact un.keep b o e q (by intro z; exact absurd (show b ∈ ([]:List Addr) from z) (by simp)) (by simp)
        | some u =>
          rcases hO b with z | ⟨ob,xs,z⟩
          · rw [q] at z; cases z
          · have z2:=un.frzs b ob _ z
            obtain ⟨e1,_⟩:=hok b _ z
            obtain ⟨e2,_⟩:=hok' b _ z2
            rw [e] at e1; cases e1
            exact e2
  cases hk:K.lookup a with
  | some o =>
    -- the script is one of the module's own objects
    have e:=KX a o hk
    rw [ha] at e
    cases e
    refine core (fun _=>none) (fun _=>.inl rfl) (.inr ⟨_,vs.toArray,_,hk,rfl,rfl,rfl,by rw [List.size_toArray,lenV]; exact hl,by simpa using rv⟩) (fun b u z=>by have z':(none:Option HO)=some u:=z; cases z') (fun b z=>absurd rfl z) fun z=>absurd rfl z
  | none =>
    refine core (fun b=>if b=a then some (.frz { cls:=.type "list",data:=.seq vs.toArray } (.lst (ns.map V.int))) else none) (fun b=>?_) (.inl (.inr ⟨{ cls:=.type "list",data:=.seq vs.toArray },if_pos rfl⟩)) (fun b u z=>?_) (fun b z=>?_) fun _=>hk
    · by_cases hb:b=a
      · exact .inr ⟨_,_,if_pos hb⟩
      · exact .inl (if_neg hb)
    · by_cases hb:b=a
      · have z':=(if_pos hb).symm.trans z
        cases z'
        subst hb
        exact ⟨ha,by rw [List.length_map]; exact hl,vs,_,rv,ha⟩
      · have z':=(if_neg hb).symm.trans z
        cases z'
    · by_cases hb:b=a
      · exact hb
      · exact absurd (if_neg hb) z
end L2
namespace L2
open PySem PySem.Spec PyProof.Rows
variable {q0:Bool}
abbrev KOf {K:PySem.W.Frag} {h:Heap} (_:K.In h):PySem.W.Frag:=K
theorem walk_of {l:PySem.W.OpenLaw} {n k:Nat} {q:Program} {loose:List Str} {XP:(Str→Option Value)→Heap→Prop} {YP:World→Heap→Prop} {d:DefRec} {K:Params→PySem.W.Frag} {CX:World→CXT} {sp:World→Sp} {x:Str}
    (hn:l.most=some n) (hn2:n≤sizeLine) (hdf:d.params.defaults=[]) (hr:Room q0 k callerA)
    (hY:∀ (w:World) (h:Heap),YP w h→(K w.params).In h)
    (F:∀ (w:World) (mg:Str→Option Value) (fa:Addr) (h:Heap),(K w.params).In h→h.Ns mainGlobals mg→mg d.name=some (.ref fa) →
      ∃ fd:FuncData,(∀ (s:Shared) (u:Value),BindsTo s fd ⟨[u],[]⟩ [(x,u)]) ∧
        ∀ base:Heap,(K w.params).In base→base.Ns mainGlobals mg→FnOk q0 l.prog w (K w.params) mg base (CX w) k fa fd [x] (sp w))
    (hsp:∀ (w:World) (H:Hp) (a:Addr) (ns:List Int),ns.length≤n→Only H→SqL (K w.params) H a (ns.map V.int)→sp w [.ref a] H (fun v _=>v=.bl true) fun _ _ _=>False)
    (hCX:∀ (w:World) (H:Hp) (s:Shared) (e:Value) (s':Shared),CX w [] H s (fun _ _ _=>False) e s'→False) :
    PySem.W.WalkO q loose XP YP l.row.toRowW d [] (fun f vs=>PySem.call f vs):=by
  refine Att.attach_call hn hdf fun w s₀ s₁ mg mb fa o pm cd doc a vs ns G Y ho hd hcd hmg hobj hints hlen hg=>?_
  have KX:=hY w _ Y
  obtain ⟨fd,hb,hF⟩:=F w mg fa _ KX G.T.g hmg
  exact xk6 KX G.T.g G.T.b G.T.builtins G.T.nolimit hg hobj hints (Nat.le_trans hlen hn2) hr hF hb (fun H hO hS=>hsp w H a ns hlen hO hS) fun H e s'=>hCX w H s₁ e s'
end L2
namespace L2
open PySem PySem.Spec PyProof.Rows
variable {q0:Bool}
def xa4 (s:Stmt) (j:Nat):Stmt:=match s with
 | .ClassDef _ _ _ body _ _ _ _ _ _ _=>body.getD j (.Pass ⟨0,0,0,0⟩)
 | _=>.Pass ⟨0,0,0,0⟩
def xz (s:Stmt):Arguments:=match s with
 | .FunctionDef _ a _ _ _ _ _ _ _ _=>a
 | _=>{ posonlyargs:=[],args:=[],vararg:=none,kwonlyargs:=[],kw_defaults:=[],kwarg:=none,defaults:=[] }
def xu (s:Stmt):List Stmt:=match s with
 | .FunctionDef _ _ b _ _ _ _ _ _ _=>b
 | _=>[]
def xi (s:Stmt):Scope:=match s with
 | .FunctionDef _ _ _ _ _ _ sc _ _ _=>sc
 | _=>{ kind:=.function,names:=[],isGenerator:=false,isCoroutine:=false }
abbrev CX0:CXT:=fun _ _ _ _ _ _=>False
structure Fun (K:PySem.W.Frag) (x qual:Str) (st:Stmt) (f:Addr) (fd:FuncData):Prop where
 ex:∃ (oc:Value) (od:Option Addr) (kV doc pm:Value) (an:Option Addr) (cdv ct:Value) (osl:Array (Option Value)),
  fd=PySem.W.fnOf x qual (xz st) (xu st) (xi st) .none kV doc pm an cdv ct∧K.lookup f=some ⟨oc,od,.func fd,osl⟩∧PySem.W.codeIn K cdv qual=true
 kp:PySem.W.keepIn K (.ref f)=true
section
variable {P:Program} {w:World} {K:PySem.W.Frag} {mg:Str→Option Value} {base:Heap}
theorem Fun.ok {x qual:Str} {st:Stmt} {f:Addr} {fd:FuncData} {N ps:List Str} {k:Nat} {sp:Sp} (F:Fun K x qual st f fd) (S:x5 N ps (xi st)) (len:∀ vs H Q E,sp vs H Q E→vs.length=ps.length)
    (hbody:∀ (cdv:Value) (A:Around) (outer:List Env) (s:Shared) (H:Hp) (vs:List V) (Q:VK) (E:XK),Room q0 k (A.deeper (envOfC qual (xi st) s.heap.objs.size f cdv))→sp vs H Q E →
      ∃ t,PSs (cxOf q0 CX0 P w K mg base N qual (xi st) f cdv A outer s H E).nox (xu st) t∧t { nx:=fun _ H'=>Q .non H',rt:=Q } (start N vs) H):FnOk q0 P w K mg base CX0 (k + 1) f fd ps sp:=by
  obtain ⟨oc,od,kV,doc,pm,an,cdv,ct,osl,rfl,lk,hcd⟩:=F.ex
  refine xja lk hcd S len fun A outer s H vs Q E hr hsp=>?_
  obtain ⟨t,h,q⟩:=hbody cdv A outer s H vs Q E hr hsp
  exact ⟨t,h.nox,q⟩
theorem Fun.binds {x qual:Str} {st:Stmt} {f:Addr} {fd:FuncData} {ps:List Str} (F:Fun K x qual st f fd)
    (h:∀ (kV doc pm:Value) (an:Option Addr) (cdv ct:Value) (us:List Value),us.length=ps.length→bindArgs (PySem.W.fnOf x qual (xz st) (xu st) (xi st) .none kV doc pm an cdv ct) ⟨us,[]⟩=pure (ps.zip us)):xab K fd ps []:=by
  obtain ⟨oc,od,kV,doc,pm,an,cdv,ct,osl,rfl,lk,hcd⟩:=F.ex
  exact .all (h kV doc pm an cdv ct)
theorem xp {x qual:Str} {st:Stmt} {f:Addr} {oc:Value} {od an:Option Addr} {osl:Array (Option Value)} {kV doc pm cdv ct:Value} (l:K.lookup f=some ⟨oc,od,.func (PySem.W.fnOf x qual (xz st) (xu st) (xi st) .none kV doc pm an cdv ct),osl⟩)
    (c:PySem.W.codeIn K cdv qual=true) (k:PySem.W.keepIn K (.ref f)=true):Fun K x qual st f (PySem.W.fnOf x qual (xz st) (xu st) (xi st) .none kV doc pm an cdv ct):=⟨⟨oc,od,kV,doc,pm,an,cdv,ct,osl,rfl,l,c⟩,k⟩
end
theorem xbg {A:Around} {k:Nat} (hr:Room q0 k A):A.units + 1 < cLine:=Nat.lt_of_le_of_lt (Nat.add_le_add_left (by decide:1≤64) _) hr.units
section
variable {X:Cx}
theorem pv (i:Nat) {x:Str} {pos:Pos} (hN:X.N[i]?=some x:=by rfl) (hv:Vis X.env.scope x:=by first | exact Or.inl rfl | exact Or.inr (Or.inl rfl) | exact Or.inr (Or.inr rfl)) (hd:(x == ("__debug__":Str))=false:=by decide)
    (hcd:(x == ("__classdict__":Str))=false:=by decide):PE X (.Name x pos) (tVar i):=xoc hN hv hd hcd
end
theorem iteF {A B:Prop} (h:B):if false=true then A else B:=by
 rw [if_neg Bool.false_ne_true]
 exact h
theorem iteT {A B:Prop} (h:A):if true=true then A else B:=by
 rw [if_pos rfl]
 exact h
theorem ite2 {c A B:Prop} [Decidable c] (h1:c→A) (h2:¬ c→B):if c then A else B:=by
 by_cases h:c
 ·rw [if_pos h]
  exact h1 h
 ·rw [if_neg h]
  exact h2 h
def Same (H H':Hp):Prop:=∀ b o,H b=some o→H' b=some o
theorem Same.refl (H:Hp):Same H H:=fun _ _ h=>h
theorem Same.trans {H H1 H2:Hp} (a:Same H H1) (b:Same H1 H2):Same H H2:=fun c o h=>b c o (a c o h)
theorem Same.free {H H':Hp} (e:Same H H') {l:Addr} (h:H' l=Option.none):H l=Option.none:=by
 cases q:H l with
 | none=>rfl
 | some o =>
  rw [e l o q] at h
  cases h
theorem Same.seq {K:PySem.W.Frag} {H H':Hp} {a:Addr} {xs:List V} (e:Same H H') (h:SqL K H a xs):SqL K H' a xs:=by
 rcases h with (h | ⟨o,h⟩) | h
 ·exact .inl (.inl (e _ _ h))
 ·exact .inl (.inr ⟨o,e _ _ h⟩)
 ·exact .inr h
end L2
namespace Srt
open PySem PySem.W PyProof.Rows
abbrev CM:=Nat→Nat→(Bool→Shared→Prop)→Shared→Prop
abbrev g (p:Array Nat) (i:Nat):Nat:=p.getD i 0
structure Ord (n:Nat) (lt:Nat→Nat→Bool):Prop where
 irr:∀ i,i < n→lt i i=false
 tr:∀ i j k,i < n→j < n→k < n→lt i j=true→lt j k=true→lt i k=true
 tot:∀ i j,i < n→j < n→i≠j→lt i j=false→lt j i=true
def Cmp (n:Nat) (lt:Nat→Nat→Bool) (cmp:CM) (s:Shared):Prop:=∀ i j,i < n→j < n→∀ Q:Bool→Shared→Prop,Q (lt i j) s→cmp i j Q s
theorem xb1 {α:Type} {cmp:CM} {a:α} {Q:α→Shared→Prop} {s:Shared} (h:Q a s):KasT.kasWp cmp (.ret a) Q s:=h
theorem xd9 {α:Type} {cmp:CM} {i j:Nat} {k:Bool→KasT α} {Q:α→Shared→Prop} {s:Shared} (h:cmp i j (fun c s'=>KasT.kasWp cmp (k c) Q s') s):KasT.kasWp cmp (.ask i j k) Q s:=h
theorem xpb {p:Array Nat} {n:Nat}:kas_asc p 0 n=.ret n:=by unfold kas_asc; rfl
theorem xpr {p:Array Nat} {f n:Nat}:kas_asc p (f + 1) n=.ask (p.getD n 0) (p.getD (n - 1) 0) fun c=>if c=true then .ret n else kas_asc p f (n + 1):=by rw [kas_asc]
theorem xpd {p:Array Nat} {k:Nat}:kas_bin 0 p k=.ret p:=by unfold kas_bin; rfl
theorem xpl {f:Nat} {p:Array Nat} {k:Nat}:kas_bin (f + 1) p k=(kas_place p k k 0 k).bind fun l=>kas_bin f (bubble p k (k - l)) (k + 1):=by rw [kas_bin]
theorem xmo {p:Array Nat} {k l r:Nat}:kas_place p k 0 l r=.ret l:=by unfold kas_place; rfl
theorem xmw {p:Array Nat} {k f l r:Nat}:kas_place p k (f + 1) l r=if l ≥ r then .ret l else .ask (p.getD k 0) (p.getD ((l + r) / 2) 0) fun c=>if c=true then kas_place p k f l ((l + r) / 2) else kas_place p k f ((l + r) / 2 + 1) r:=by rw [kas_place]
theorem xnn {p:Array Nat} {k l:Nat}:kas_desc 0 p k l=.ret (p,k,l):=by unfold kas_desc; rfl
theorem xov {f:Nat} {p:Array Nat} {k l:Nat}:kas_desc (f + 1) p k l=.ask (p.getD k 0) (p.getD (k - 1) 0) fun c=>if c=true then (if l > 0 then kas_desc f (kas_rev p (k - (l + 1)) k) (k + 1) 0 else kas_desc f p (k + 1) 0) else .ask (p.getD (k - 1) 0) (p.getD k 0) fun d=>if d=true then .ret (p,k,l) else kas_desc f p (k + 1) (l + 1):=by rw [kas_desc]
section
variable {n:Nat} {lt:Nat→Nat→Bool} {cmp:CM} {s:Shared}
structure Arr (n:Nat) (p:Array Nat):Prop where
 sz:p.size=n
 lt:∀ i,i < n→g p i < n
 inj:∀ i j,i < n→j < n→g p i=g p j→i=j
 pm:p.Perm (List.range n).toArray
theorem g_at {p:Array Nat} {i:Nat} {v:Nat} (h:p[i]?=some v):g p i=v:=by
 show p.getD i 0=v
 rw [Array.getD_eq_getD_getElem?,h]
 rfl
theorem Arr.at {p:Array Nat} (a:Arr n p) {i:Nat} (h:i < n):p[i]?=some (g p i):=by
 have z:i < p.size:=by rw [a.sz]; exact h
 have e:p[i]?=some p[i]:=Array.getElem?_eq_getElem z
 rw [e,g_at e]
def Srtd (lt:Nat→Nat→Bool) (p:Array Nat) (m:Nat):Prop:=∀ i j,i < j→j < m→lt (g p i) (g p j)=true
theorem xh7 (o:Ord n lt) {p:Array Nat} (a:Arr n p) {m:Nat} (hm:m≤n) (h:∀ i,1≤i→i < m→lt (g p (i - 1)) (g p i)=true):Srtd lt p m:=by
 intro i j hij hj
 obtain ⟨d,rfl⟩:∃ d,j=i + 1 + d:=⟨j - (i + 1),by omega⟩
 induction d with
 | zero=>exact h (i + 1) (by omega) hj
 | succ d ih =>
  have h1:=ih (by omega) (by omega)
  have h2:=h (i + 1 + (d + 1)) (by omega) hj
  exact o.tr _ _ _ (a.lt _ (by omega)) (a.lt _ (by omega)) (a.lt _ (by omega)) h1 h2
theorem xhd (c:Cmp n lt cmp s) {p:Array Nat} (a:Arr n p) {G:Nat→Shared→Prop}:∀ (f k:Nat),1≤k→k + f≤n →
    (∀ m,k≤m→m≤k + f→(∀ i,k≤i→i < m→lt (g p i) (g p (i - 1))=false)→(m < k + f→lt (g p m) (g p (m - 1))=true)→G m s)→KasT.kasWp cmp (kas_asc p f k) G s
  | 0,k,h1,hf,hG=>by
    rw [xpb]
    exact xb1 (hG k (Nat.le_refl _) (by omega) (fun i h h'=>by omega) (fun h=>by omega))
  | f + 1,k,h1,hf,hG=>by
    rw [xpr]
    refine xd9 (c _ _ (a.lt k (by omega)) (a.lt (k - 1) (by omega)) _ ?_)
    cases e:lt (g p k) (g p (k - 1)) with
    | true =>
      exact xb1 (hG k (Nat.le_refl _) (by omega) (fun i h h'=>by omega) (fun _=>e))
    | false =>
      show KasT.kasWp cmp (kas_asc p f (k + 1)) G s
      refine xhd c a f (k + 1) (by omega) (by omega) fun m hm hm2 h3 h4=>hG m (by omega) (by omega) (fun i hi hi2=>?_) (fun h=>h4 (by omega))
      by_cases z:i=k
      · rw [z]; exact e
      · exact h3 i (by omega) hi2
theorem xic (o:Ord n lt) (c:Cmp n lt cmp s) {p:Array Nat} (a:Arr n p) {G:Array Nat × Nat × Nat→Shared→Prop}:∀ (f k:Nat),1≤k→k + f≤n →
    (∀ m,k≤m→m≤k + f→(∀ i,k≤i→i < m→lt (g p i) (g p (i - 1))=true)→G (p,m,0) s)→KasT.kasWp cmp (kas_desc f p k 0) G s
  | 0,k,h1,hf,hG=>by
    rw [xnn]
    exact xb1 (hG k (Nat.le_refl _) (by omega) (fun i h h'=>by omega))
  | f + 1,k,h1,hf,hG=>by
    rw [xov]
    refine xd9 (c _ _ (a.lt k (by omega)) (a.lt (k - 1) (by omega)) _ ?_)
    cases e:lt (g p k) (g p (k - 1)) with
    | true =>
      show KasT.kasWp cmp (kas_desc f p (k + 1) 0) G s
      refine xic o c a f (k + 1) (by omega) (by omega) fun m hm hm2 h3=>hG m (by omega) (by omega) fun i hi hi2=>?_
      by_cases z:i=k
      · rw [z]; exact e
      · exact h3 i (by omega) hi2
    | false =>
      refine xd9 (c _ _ (a.lt (k - 1) (by omega)) (a.lt k (by omega)) _ ?_)
      have ne:g p k≠g p (k - 1):=fun z=>by have:=a.inj _ _ (by omega) (by omega) z; omega
      rw [show lt (p.getD (k - 1) 0) (p.getD k 0)=true from o.tot _ _ (a.lt k (by omega)) (a.lt (k - 1) (by omega)) ne e]
      exact xb1 (hG k (Nat.le_refl _) (by omega) (fun i h h'=>by omega))
theorem Arr.rev {p:Array Nat} (a:Arr n p) {k:Nat} (hk:k≤n):Arr n (kas_rev p 0 k)∧∀ i,i < n→g (kas_rev p 0 k) i=if i < k then g p (k - 1 - i) else g p i:=by
 have ge:∀ i,i < n→g (kas_rev p 0 k) i=if i < k then g p (k - 1 - i) else g p i:=fun i hi=>by
  have z:=getElem?_mirror_all (xs:=p) (i:=0) (j:=k) (by rw [a.sz]; exact hk) i
  by_cases c:i < k
  ·rw [if_pos c]
   rw [if_pos ⟨Nat.zero_le _,c⟩,show 0 + k - 1 - i=k - 1 - i by omega,a.at (show k - 1 - i < n by omega)] at z
   exact g_at z
  ·rw [if_neg c]
   rw [if_neg (fun w=>c w.2),a.at hi] at z
   exact g_at z
 refine ⟨⟨by rw [kas_rev_size,a.sz],fun i hi=>?_,fun i j hi hj e=>?_,(mirror_perm _ _ _ _).trans a.pm⟩,ge⟩
 ·rw [ge i hi]
  split <;> exact a.lt _ (by omega)
 ·rw [ge i hi,ge j hj] at e
  split at e <;> split at e <;> have:=a.inj _ _ (by omega) (by omega) e <;> omega
theorem xk1 (o:Ord n lt) (c:Cmp n lt cmp s) {p:Array Nat} (a:Arr n p) (h2:2≤n) {G:Nat × Array Nat→Shared→Prop}
    (hG:∀ m p',1≤m→m≤n→Arr n p'→Srtd lt p' m→G (m,p') s):KasT.kasWp cmp (kas_count n p) G s:=by
  unfold kas_count
  rw [KasT.kasWp_bind]
  have up:∀ q,Arr n q→∀ i,1≤i→i < n→lt (g q i) (g q (i - 1))=false→lt (g q (i - 1)) (g q i)=true:=fun q b i h1 hi e =>
    o.tot _ _ (b.lt i hi) (b.lt (i - 1) (by omega)) (fun z=>by have:=b.inj _ _ hi (by omega) z; omega) e
  refine xhd c a (n - 1) 1 (Nat.le_refl _) (by omega) fun m hm hm2 h3 h4=>?_
  have sm:Srtd lt p m:=xh7 o a (by omega) fun i hi hi2=>up p a i hi (by omega) (h3 i hi hi2)
  show KasT.kasWp cmp (if (m == n)=true then _ else _) G s
  by_cases e1:m=n
  · rw [if_pos (by simpa using e1)]
    exact xb1 (hG m p hm (by omega) a sm)
  · rw [if_neg (by simpa using e1)]
    by_cases e2:m > 1
    · rw [if_pos e2]
      refine xd9 (c _ _ (a.lt 0 (by omega)) (a.lt (m - 1) (by omega)) _ ?_)
      rw [show lt (p.getD 0 0) (p.getD (m - 1) 0)=true from sm 0 (m - 1) (by omega) (by omega)]
      exact xb1 (hG m p hm (by omega) a sm)
    · rw [if_neg e2]
      have m1:m=1:=by omega
      subst m1
      have d1:=h4 (by omega)
      unfold kas_descPart
      rw [KasT.kasWp_bind]
      refine xic o c a (n - (1 + 1)) (1 + 1) (by omega) (by omega) fun k hk hk2 h5=>?_
      show KasT.kasWp cmp (if (0:Nat) > 0 then _ else kas_tail3 k n p) G s
      rw [if_neg (Nat.lt_irrefl 0)]
      unfold kas_tail3
      rw [KasT.kasWp_bind]
      obtain ⟨b,ge⟩:=a.rev (k:=k) (by omega)
      refine xhd c b (n - k) k (by omega) (by omega) fun m' hm' hm2' h6 _=>?_
      refine xb1 (hG m' _ (by omega) (by omega) b (xh7 o b (by omega) fun i hi hi2=>?_))
      by_cases ik:i < k
      · rw [ge i (by omega),ge (i - 1) (by omega),if_pos ik,if_pos (by omega)]
        have e3:k - 1 - (i - 1) - 1=k - 1 - i:=by omega
        by_cases z:k - 1 - (i - 1)=1
        · have z':k - 1 - i=0:=by omega
          rw [z,z']
          exact d1
        · have:=h5 (k - 1 - (i - 1)) (by omega) (by omega)
          rw [e3] at this
          exact this
      · exact up _ b i hi (by omega) (h6 i (by omega) hi2)
theorem xe3 (o:Ord n lt) (c:Cmp n lt cmp s) {p:Array Nat} (a:Arr n p) {k:Nat} (hk:k < n) (sk:Srtd lt p k) {G:Nat→Shared→Prop}:∀ (f l r:Nat),l≤r→r≤k→r - l≤f →
    (∀ j,j < l→lt (g p k) (g p j)=false)→(∀ j,r≤j→j < k→lt (g p k) (g p j)=true) →
    (∀ m,m≤k→(∀ j,j < m→lt (g p k) (g p j)=false)→(∀ j,m≤j→j < k→lt (g p k) (g p j)=true)→G m s)→KasT.kasWp cmp (kas_place p k f l r) G s
  | 0,l,r,h1,h2,h3,lo,hi,hG=>by
    rw [xmo]
    exact xb1 (hG l (by omega) lo fun j hj hj2=>hi j (by omega) hj2)
  | f + 1,l,r,h1,h2,h3,lo,hi,hG=>by
    rw [xmw]
    by_cases e:l ≥ r
    · rw [if_pos e]
      exact xb1 (hG l (by omega) lo fun j hj hj2=>hi j (by omega) hj2)
    · rw [if_neg e]
      have m1:(l + r) / 2 < r:=by omega
      have m2:l≤(l + r) / 2:=by omega
      refine xd9 (c _ _ (a.lt k hk) (a.lt _ (by omega)) _ ?_)
      cases e2:lt (g p k) (g p ((l + r) / 2)) with
      | true =>
        show KasT.kasWp cmp (kas_place p k f l ((l + r) / 2)) G s
        refine xe3 o c a hk sk f l _ m2 (by omega) (by omega) lo (fun j hj hj2=>?_) hG
        by_cases z:j=(l + r) / 2
        · rw [z]; exact e2
        · exact o.tr _ _ _ (a.lt k hk) (a.lt _ (by omega)) (a.lt _ (by omega)) e2 (sk _ _ (by omega) hj2)
      | false =>
        show KasT.kasWp cmp (kas_place p k f ((l + r) / 2 + 1) r) G s
        refine xe3 o c a hk sk f _ r (by omega) h2 (by omega) (fun j hj=>?_) hi hG
        by_cases z:j=(l + r) / 2
        · rw [z]; exact e2
        · cases e3:lt (g p k) (g p j) with
          | false=>rfl
          | true =>
            have:=o.tr _ _ _ (a.lt k hk) (a.lt _ (by omega)) (a.lt _ (by omega)) e3 (sk j ((l + r) / 2) (by omega) (by omega))
            rw [e2] at this
            cases this
theorem Arr.bub {p:Array Nat} (a:Arr n p) {k m:Nat} (hk:k < n) (hm:m≤k):Arr n (bubble p k (k - m))∧∀ i,i < n→g (bubble p k (k - m)) i=if i=m then g p k else if m < i∧i≤k then g p (i - 1) else g p i:=by
 have ge:∀ i,i < n→g (bubble p k (k - m)) i=if i=m then g p k else if m < i∧i≤k then g p (i - 1) else g p i:=fun i hi=>by
  have z:=getElem?_bubble (xs:=p) (src:=k) (by rw [a.sz]; exact hk) (k - m) (by omega) i
  rw [show k - (k - m)=m by omega] at z
  by_cases c:i=m
  ·rw [if_pos c]
   rw [if_pos c,a.at hk] at z
   exact g_at z
  ·rw [if_neg c]
   rw [if_neg c] at z
   by_cases d:m < i∧i≤k
   ·rw [if_pos d]
    rw [if_pos d,a.at (show i - 1 < n by omega)] at z
    exact g_at z
   ·rw [if_neg d]
    rw [if_neg d,a.at hi] at z
    exact g_at z
 refine ⟨⟨by rw [bubble_size,a.sz],fun i hi=>?_,fun i j hi hj e=>?_,(bubble_perm _ _ _).trans a.pm⟩,ge⟩
 ·rw [ge i hi]
  split
  ·exact a.lt _ hk
  ·split <;> exact a.lt _ (by omega)
 ·rw [ge i hi,ge j hj] at e
  split at e <;> (try split at e) <;> (try split at e) <;> (try split at e) <;> first | omega | (have:=a.inj _ _ (by omega) (by omega) e; omega)
theorem xkk (o:Ord n lt) (c:Cmp n lt cmp s) {G:Array Nat→Shared→Prop}:∀ (f k:Nat) (p:Array Nat),k + f=n→Arr n p→Srtd lt p k→(∀ p',Arr n p'→Srtd lt p' n→G p' s)→KasT.kasWp cmp (kas_bin f p k) G s
 | 0,k,p,h,a,sk,hG=>by
  rw [xpd]
  have:k=n:=by omega
  subst this
  exact xb1 (hG p a sk)
 | f + 1,k,p,h,a,sk,hG=>by
  have hk:k < n:=by omega
  rw [xpl,KasT.kasWp_bind]
  refine xe3 o c a hk sk k 0 k (Nat.zero_le _) (Nat.le_refl _) (by omega) (fun j hj=>by omega) (fun j hj hj2=>by omega) fun m hm lo hi=>?_
  obtain ⟨b,ge⟩:=a.bub hk hm
  refine xkk o c f (k + 1) _ (by omega) b (fun i j hij hj=>?_) hG
  have inS:∀ i,i < m→lt (g p i) (g p k)=true:=fun i hi'=>o.tot _ _ (a.lt k hk) (a.lt i (by omega)) (fun z=>by have:=a.inj _ _ hk (by omega) z; omega) (lo i hi')
  have g1:∀ i,i < n→i=m→g (bubble p k (k - m)) i=g p k:=fun i hi z=>by rw [ge i hi,if_pos z]
  have g2:∀ i,i < n→m < i→i≤k→g (bubble p k (k - m)) i=g p (i - 1):=fun i hi z z2=>by rw [ge i hi,if_neg (by omega),if_pos ⟨z,z2⟩]
  have g3:∀ i,i < n→i < m→g (bubble p k (k - m)) i=g p i:=fun i hi z=>by rw [ge i hi,if_neg (by omega),if_neg (by omega)]
  by_cases j1:j=m
  ·rw [g1 j (by omega) j1,g3 i (by omega) (by omega)]
   exact inS i (by omega)
  ·by_cases i1:i=m
   ·rw [g1 i (by omega) i1,g2 j (by omega) (by omega) (by omega)]
    exact hi (j - 1) (by omega) (by omega)
   ·by_cases j2:m < j
    ·rw [g2 j (by omega) j2 (by omega)]
     by_cases i2:m < i
     ·rw [g2 i (by omega) i2 (by omega)]
      exact sk _ _ (by omega) (by omega)
     ·rw [g3 i (by omega) (by omega)]
      by_cases z:i=j - 1
      ·omega
      ·exact sk _ _ (by omega) (by omega)
    ·rw [g3 j (by omega) (by omega),g3 i (by omega) (by omega)]
     exact sk _ _ hij (by omega)
theorem xkg:Arr n (List.range n).toArray:=by
 have e:∀ i,i < n→g (List.range n).toArray i=i:=fun i hi=>g_at (by rw [List.getElem?_toArray,List.getElem?_range hi])
 exact ⟨by simp,fun i hi=>by rw [e i hi]; exact hi,fun i j hi hj z=>by rw [e i hi,e j hj] at z; exact z,Array.Perm.refl _⟩
theorem sort_wp (o:Ord n lt) (c:Cmp n lt cmp s) (h2:2≤n) {G:Array Nat→Shared→Prop} (hG:∀ p,Arr n p→Srtd lt p n→G p s):KasT.kasWp cmp (kas_sort n) G s:=by
 unfold kas_sort
 rw [KasT.kasWp_bind]
 refine xk1 o c xkg h2 fun m p hm hm2 a sm=>?_
 show KasT.kasWp cmp (if m < n then _ else _) G s
 by_cases e:m < n
 ·rw [if_pos e]
  show KasT.kasWp cmp (kas_bin (n - max m 1) p (max m 1)) G s
  rw [Nat.max_eq_left hm]
  exact xkk o c (n - m) m p (by omega) a sm hG
 ·rw [if_neg e]
  have:m=n:=by omega
  subst this
  exact xb1 (hG p a sm)
end
end Srt
set_option maxRecDepth 100000
namespace XL
open PySem
def Xat (h:Heap) (e:Addr) (cls:Value) (od tb:Option Addr):Prop :=
 ∃ oe vs,h.get? e=some oe∧oe.cls=cls∧oe.dict=od∧oe.data=.fields vs∧1 < vs.size ∧
  ((tb=none∧vs[1]?=some Value.none)∨∃ T oT ts,tb=some T∧vs[1]?=some (.ref T)∧T≠e∧h.get? T=some oT∧oT.data=.fields ts∧ts[3]?=some Value.none)
section
variable {M:Model} {A:Around} {E:Value→Shared→Prop} {s:Shared}
end
end XL
set_option maxRecDepth 100000
namespace XL
open PySem
section
variable {prog:Program} {w:World} {A:Around} {E:Value→Shared→Prop} {h:Heap} {g:Array GenState} {d:Drawn} {t:Nat} {os:OsState}
variable {nm qn:Str} {C N:Addr} {bs bm bmB:List Value} {hz:Bool} {sn:List Str} {sub:List Value} {ab:Bool} {col:Option Bool} {dd:Option Addr} {k0 k1 k2 k3 k5:Option Value} {B ni ii:String}
end
end XL
set_option maxRecDepth 100000
namespace XL
open PySem PySem.W PySem.Calls PyProof.Rows Builtin Builtin.ObjectAttr
def vErr:List Value:=[.type "ValueError",.type "Exception",.type "BaseException",.type "object"]
def xei:List Value→Bool
 | []=>false
 | .ref c :: r=>xei r || ((.ref c :: r:List Value) == vErr)
 | v :: r=>(v :: r) == vErr
def xl9 (K:Frag) (C:Addr):Bool:=(clsIn K C).any fun cd=>xei cd.mro
theorem xe8:∀ {l:List Value},xei l=true→l.contains (.type "object")=true∧l.contains (.type "BaseException")=true∧l.isEmpty=false
 | [],e=>by cases e
 | v :: r,e=>by
  have last:((v :: r:List Value) == vErr)=true→(v :: r).contains (.type "object")=true∧(v :: r).contains (.type "BaseException")=true∧(v :: r).isEmpty=false:=fun z=>by
   rw [eq_of_beq z]
   exact ⟨by decide +kernel,by decide +kernel,rfl⟩
  cases v with
  | ref c =>
   rcases Bool.or_eq_true_iff.mp e with z | z
   ·obtain ⟨a,b,_⟩:=xe8 z
    exact ⟨by rw [List.contains_cons,a,Bool.or_true],by rw [List.contains_cons,b,Bool.or_true],rfl⟩
   ·exact last z
  | _=>exact last e
structure XC (K:Frag) (C:Addr):Prop where
 over:xl9 K C=true
 hd:hasDictIn K C=true
 sa:findIn K (.ref C) "__setattr__"=some (some (.builtin "object.__setattr__"))
 ga:findIn K (.ref C) "__getattribute__"=some (some (.builtin "BaseException.__getattribute__"))
 gh:findIn K (.ref C) "__getattr__"=some none
 ca:findIn K (.ref C) "__class__"=some (some (.builtin "object.__class__"))
 cg:specialIn K (.builtin "object.__class__") "__get__"=some (some (.builtin "getset_descriptor.__get__"))
 ct:takesIn K (.builtin "object.__class__")=some true
section
variable {prog:Program} {w:World} {A:Around} {E:Value→Shared→Prop} {s:Shared} {K:Frag} {x C dx:Addr} {ox:Obj} {od:Option Obj} {name:Str} {v:Value} {R:Result→Shared→Prop}
theorem XC.mro (c:XC K C):∃ cd,clsIn K C=some cd∧xei cd.mro=true∧cd.hasDict=true:=by
 obtain ⟨cd,h1,h2⟩:=any_some c.over
 obtain ⟨cd',h3,h4⟩:=any_some c.hd
 rw [h1] at h3
 cases h3
 exact ⟨cd,h1,h2,h4⟩
theorem XC.isObj (c:XC K C):mroIn K C (.type "object")=some true:=by
 obtain ⟨cd,h1,h2,_⟩:=c.mro
 obtain ⟨a,_,b⟩:=xe8 h2
 unfold mroIn
 rw [h1,Option.bind_some,if_neg (by rw [b]; decide),a]
theorem XC.isExc (c:XC K C):mroIn K C (.type "BaseException")=some true:=by
 obtain ⟨cd,h1,h2,_⟩:=c.mro
 obtain ⟨_,a,b⟩:=xe8 h2
 unfold mroIn
 rw [h1,Option.bind_some,if_neg (by rw [b]; decide),a]
theorem xmz (v:Value):bindSpecial (.builtin "BaseException.__getattribute__") v=pure (.builtin "BaseException.__getattribute__",[v]):=by
 have f:=PySem.F.attr_ValueError.ga.bind v
 exact f
theorem xli:plainId "BaseException.__getattribute__"=true:=PySem.F.attr_ValueError.ga.plain
theorem xn5 {Q:Value→Shared→Prop} {expr fill:Bool} {tk:Tok} (X:K.In s.heap) (c:XC K C) (I:InstAt s.heap x ox C od)
    (h:wpAny (model prog w) A.in1 (Builtin.«object.__getattribute__» ⟨[.ref x,.str name tk],[]⟩)
      (fun fin s'=>match fin with | .done (.ret v)=>wpAny (model prog w) A (handedOut v) Q E s' | _=>False) (fun _ _=>False) s) :
    wpAny (model prog w) A (getAttrBy (.ref x) (.str name tk) fill expr) Q E s:=by
  obtain ⟨hh,g,d,t,os⟩:=s
  have L0:=I.type (M:=model prog w)
  have L1:=looks_findIn (M:=model prog w) X c.ga
  have L2:=looks_findIn (M:=model prog w) X c.gh
  have sub:Looks (model prog w) hh (isInstance (.ref x) (.type "BaseException")) true:=I.type.andThen (looks_mroIn X c.isExc)
  have f2:(onTheHeap (Value.ref C) && Value.builtin "BaseException.__getattribute__" == Value.builtin "object.__getattribute__")=false:=by
    rw [show (Value.builtin "BaseException.__getattribute__" == Value.builtin "object.__getattribute__")=false from by decide +kernel]; rfl
  have f3:(expr && onTheHeap (Value.builtin "BaseException.__getattribute__"))=false:=by cases expr <;> rfl
  unfold getAttrBy
  refine wpAny_holding (wpAny_bind (L0.at (wpAny_bind (L1.at ?_))))
  dsimp only
  rw [f2]
  simp only [Bool.false_eq_true,if_false]
  unfold getAttrByItsOwn hookBefore
  refine wpAny_bind (L2.at (wpAny_bind (wpAny_attempt (wpAny_holding ?_))))
  unfold callGetattribute
  rw [f3]
  simp only [Bool.false_eq_true,if_false]
  unfold boundAndCalled
  rw [xmz]
  refine wpAny_bind (wpAny_pure (wpAny_call (codeAny_call_builtin xli PySem.F.entry_bexc_ga
    (@check_slot (model prog w) _ _ ⟨hh,g,d,t,os⟩ "BaseException.__getattribute__" "BaseException" "__getattribute__" (.ref x) [.str name tk] [] _ (by decide +kernel) (by decide +kernel) sub (PySem.F.args_bexc_ga _ _) ?_))))
  refine wpAny_mono h (fun fin s' z=>?_) fun e s' z=>z.elim
  rcases fin with (_ | _ | _ | _) | _ <;> first | exact z | exact z.elim
theorem xlm {Q:Option Value→Shared→Prop} (X:K.In s.heap) (c:XC K C) (I:InstAt s.heap x ox C od) (h:Q (some (.ref C)) { s with toks:=s.toks + 1 }) :
    wpAny (model prog w) A (getAttr? (.ref x) "__class__") Q E s:=by
  obtain ⟨cd,h1,_,h2⟩:=c.mro
  have hf:findObj K C od "__class__"=some (.bind (.builtin "getset_descriptor.__get__") (.builtin "object.__class__")):=by
    unfold findObj
    rw [h1,Option.bind_some,c.ca,Option.bind_some]
    simp [c.cg,c.ct]
  unfold getAttr? getAttrBy?
  refine wpAny_bind (wpAny_mkText (wpAny_bind (wpAny_attempt ?_)))
  refine xn5 (s:={ s with toks:=s.toks + 1 }) X c I ?_
  have L0:=I.type (M:=model prog w)
  have L1:=looks_find (M:=model prog w) X I hf
  refine wpAny_bind (wpAny_pure (wpAny_bind (wpAny_pure (wpAny_bind (L0.here (s:={ s with toks:=s.toks + 1 }) (wpAny_bind (L1.here (s:={ s with toks:=s.toks + 1 }) ?_)))))))
  show wpAny _ _ (holding [_] (call _ [_,.ref x,.ref C]) >>= ret) _ _ _
  refine wpAny_bind (wpAny_holding (wpAny_call (class_get (s:={ s with toks:=s.toks + 1 }) (ox:=ox) (od:=od) X I c.isObj ?_)))
  refine wpAny_pure ?_
  show wpAny _ _ (handedOut (.ref C)) _ _ _
  exact wpAny_pure (wpAny_pure h)
end
end XL
set_option maxRecDepth 100000
namespace XL
open PySem
section
variable {M:Model} {A:Around} {E:Value→Shared→Prop} {s:Shared} {env:Env}
end
end XL
set_option maxRecDepth 100000
namespace L2
open PySem PySem.Spec PyProof.Rows XL
variable {q0:Bool}
def XO (e C:Addr) (od:Option Addr):HO:=.ext fun h=>∃ ox vs,h.get? e=some ox∧ox.cls=.ref C∧ox.dict=od∧ox.data=.fields vs
def XD (dx:Addr) (fs:List (Str × V)):HO:=.ext fun h=>fs.length≤1000∧∃ mA,h.Ns1 dx mA∧(∀ f,RelO (fs.lookup f) (mA f))∧PySem.Within mA (fs.map (·.1))
section
variable {P:Program} {w:World} {H:Hp} {h:Heap} {e C dx:Addr} {od:Option Addr} {fs:List (Str × V)}
end
def CXo (P:Program) (w:World):CXT:=fun outer H s E u s'=>∃ e C od H' T,u=.ref e∧s'.os=s.os∧AllBare s'.gens∧Un (frs outer) [] H H' s.heap s'.heap∧HOk P w H' s'.heap ∧
 Xat s'.heap e (.ref C) od (some T)∧H' e=some (XO e C od)∧s.heap.objs.size≤T∧H' T=none∧E e C H'
section
variable {X:Cx} {pins:List (Addr × Obj)} {σ:St} {H:Hp} {s:Shared} {e C:Addr} {od tb:Option Addr}
theorem Inv.size_lt (I:Inv X pins σ H s) {b:Addr} (h:s.heap.objs.size≤b):H b=none∧b≠X.env.locals∧(∀ x c,X.env.cells.lookup x=some c→c≠b)∧∀ p ∈ X.pn ++ pins,p.1≠b:=by
 refine ⟨I.hok.fresh h,fun z=>?_,fun x c hc z=>?_,fun p hp z=>?_⟩
 ·rw [z] at h
  exact absurd I.lt (Nat.not_lt.mpr h)
 ·obtain ⟨v,o,ho,_⟩:=I.cell x c hc
  rw [z] at ho
  exact absurd (Heap.lt_size ho) (Nat.not_lt.mpr h)
 ·have g:=(I.pin p hp).1
  rw [z] at g
  exact absurd (Heap.lt_size g) (Nat.not_lt.mpr h)
theorem xm:xcv (CXo X.prog X.w) X (fun _ _ _ _=>False):=fun pins σ H s u s' I h=>by
 obtain ⟨e,C,od,H',T,_,_,_,_,_,_,_,_,_,q⟩:=h
 exact q.elim
end
end L2
set_option maxRecDepth 100000
namespace XL
open PySem PySem.W
end XL
namespace L2
open PySem PySem.Spec PyProof.Rows XL
variable {q0:Bool}
section
variable {X:Cx} {pins:List (Addr × Obj)} {σ:St} {H:Hp} {s:Shared} {a C dx:Addr} {od:Option Addr} {fs:List (Str × V)} {f:Str} {v y:V} {u:Value} {A:Around} {E:Value→Shared→Prop}
theorem xpk (I:Inv X pins σ H s) (e:H a=some (XO a C od)):∃ ox vs,s.heap.get? a=some ox∧ox.cls=.ref C∧ox.dict=od∧ox.data=.fields vs:=(I.hok a _ e).1
theorem xlz (I:Inv X pins σ H s) (e:H dx=some (XD dx fs)):fs.length≤1000∧∃ mA,s.heap.Ns1 dx mA∧(∀ f,RelO (fs.lookup f) (mA f))∧PySem.Within mA (fs.map (·.1)):=(I.hok dx _ e).1
theorem xhk {o:Obj} {vs:Array Value} (d:o.data=.fields vs):PySem.W.notCls o=true:=by
 unfold PySem.W.notCls
 rw [d]
end
section
variable {X:Cx} {o e value:Expr} {f:Str} {pos pos' tpos:Pos} {ta tv te:TE}
end
section
variable {X:Cx} {k:Nat} {f C:Addr} {fd:FuncData} {ps:List Str} {sp:Sp} {dvs:List V} {ds:List Value} {E:St→XK} {x m:Str} {p pos apos:Pos} {e o:Expr} {es:List Expr} {ta te:TE} {t:TA}
end
end L2
set_option maxRecDepth 100000
namespace XL
open PySem PySem.W
section
variable {M:Model} {A:Around} {E:Value→Shared→Prop} {s:Shared}
variable {nm qn nm' qn':Str} {C N C' N':Addr} {bs bm bs' bm':List Value} {hz hz':Bool} {sn sn':List Str} {sub sub':List Value} {ab ab':Bool} {col col':Option Bool} {dd dd':Option Addr} {k0 k1 k2 k3 k5 j0 j1 j2 j3 j5:Option Value} {ni ni':String}
end
end XL
namespace L2
open PySem PySem.Spec PyProof.Rows XL
variable {q0:Bool}
section
variable {X:Cx} {pins:List (Addr × Obj)} {σ:St} {H:Hp} {s:Shared}
end
section
variable {X:Cx} {pos np hpos:Pos} {body hbody:List Stmt} {b0:Stmt} {cx n:Str} {C0:Addr} {j:Nat} {E:St→XK} {tb th:TS}
end
end L2
set_option maxRecDepth 100000
namespace XL
open PySem PySem.W
theorem xj0 {K:Frag} {x C:Addr} (c:XC K C):KitX K (.ref x) (.ref C) (fun h=>∃ ox od,InstAt h x ox C od) where
 ty:=fun _ _ _ ⟨_,_,I⟩=>I.type
 it:=fun _ _ X _=>by
  obtain ⟨cd,hc,_,_⟩:=c.mro
  unfold clsIn at hc
  split at hc
  ·rename_i c' d' cd' sl' ho
   intro A' Q' E' s' k q
   unfold isType loadHead
   exact wpAny_bind (wpAny_loadPart (k _ _ (X _ _ ho)) (wpAny_pure q))
  ·cases hc
 ne:=fun h tp dd its n sl X htp=>by
  obtain ⟨cd,hc,_,_⟩:=c.mro
  refine Bool.eq_false_iff.mpr fun q=>?_
  have e:C=tp:=Value.ref.inj (beq_iff_eq.mp q)
  subst e
  unfold clsIn at hc
  split at hc
  ·rename_i c' d' cd' sl' ho
   have z:=(X _ _ ho).symm.trans htp
   cases z
  ·cases hc
 ca:=fun X ⟨ox,od,I⟩ k=>xlm X c I k
end XL
namespace L2
open PySem PySem.Spec PyProof.Rows XL
variable {q0:Bool}
def clsV:V→Option Value
 | .ty n=>some (.type n)
 | .ref a=>some (.ref a)
 | _=>none
theorem xe1 {c:V} {u cv:Value} (e:clsV c=some cv) (r:RelV c u):u=cv:=by
 cases c <;> first | (cases e; exact r) | cases e
def xi2:List V→Option (List Value)
 | []=>some []
 | c :: r=>(clsV c).bind fun a=>(xi2 r).map (a :: ·)
theorem xgg:∀ {cs:List V} {us cv:List Value},xi2 cs=some cv→Vals cs us→us=cv
 | [],_,_,e,.nil=>by cases e; rfl
 | c :: r,_,_,e,.cons rc rr=>by
  obtain ⟨a,e1,e2⟩:=Option.bind_eq_some_iff.mp e
  obtain ⟨b,e3,rfl⟩:=Option.map_eq_some_iff.mp e2
  rw [xe1 e1 rc,xgg e3 rr]
section
variable {X:Cx} {pins:List (Addr × Obj)} {σ:St} {H:Hp} {s:Shared} {A:Around} {E:Value→Shared→Prop} {Q:Value→Shared→Prop}
theorem xib {a C:Addr} {od:Option Addr} (I:Inv X pins σ H s) (h:H a=some (XO a C od)) (hd:∀ d,od=some d→∃ o,s.heap.get? d=some o):∃ ox odx,PySem.W.InstAt s.heap a ox C odx:=by
 obtain ⟨ox,vs,g,ce,oo,de⟩:=xpk I h
 cases e:od with
 | none=>exact ⟨ox,none,g,ce,xhk de,by rw [oo,e]; trivial⟩
 | some d =>
  obtain ⟨o,go⟩:=hd d e
  exact ⟨ox,some o,g,ce,xhk de,by rw [oo,e]; exact go⟩
end
def xph (K:PySem.W.Frag):List V→Hp→VK→Prop:=fun xs H Q=>∃ x c,xs=[x,c]∧((∃ t cv b,TyOf K H x t∧clsV c=some cv∧PySem.W.kitOne K t cv=some b∧Q (.bl b) H) ∨
 (∃ a C od cv b,x=.ref a∧H a=some (XO a C od)∧(∀ d,od=some d→∃ fs,H d=some (XD d fs))∧XC K C∧clsV c=some cv∧PySem.W.kitOne K (.ref C) cv=some b∧Q (.bl b) H) ∨
 (∃ a C od p cs cv b,x=.ref a∧H a=some (XO a C od)∧(∀ d,od=some d→∃ fs,H d=some (XD d fs))∧XC K C∧c=.ref p∧SqT K H p cs∧xi2 cs=some cv∧PySem.W.kitAny K (.ref C) cv=some b∧Q (.bl b) H))
section
variable {X:Cx}
theorem xcu:xb9 X (.builtin "isinstance") (xph X.K):=by
 intro pins s σ H us xs Q I r h
 obtain ⟨x,c,rfl,h⟩:=h
 obtain ⟨u,v,rfl,ru,rv⟩:=xgu r
 rcases h with ⟨t,cv,b,ty,ec,ek,q⟩ | ⟨a,C,od,cv,b,rfl,ha,hd,xc,ec,ek,q⟩ | ⟨a,C,od,p,cs,cv,b,rfl,ha,hd,xc,rfl,hp,ec,ek,q⟩
 ·obtain rfl:=xe1 ec rv
  exact xko I ru ty ek fun tk=>⟨.bl b,H,I.tok tk,rfl,q⟩
 ·obtain rfl:=xe1 ec rv
  obtain rfl:u=Value.ref a:=ru
  refine PySem.W.kia_one (xj0 xc) I.kIn (xib I ha fun d e=>?_) ek (fun z=>nomatch z) fun tk=>⟨.bl b,H,I.tok tk,rfl,q⟩
  obtain ⟨fs,hw⟩:=hd d e
  obtain ⟨_,_,⟨o,_,_,go,_⟩,_⟩:=xlz I hw
  exact ⟨o,go⟩
 ·obtain rfl:u=Value.ref a:=ru
  obtain rfl:v=Value.ref p:=rv
  obtain ⟨its,vi,it,_⟩:=I.tuple hp
  obtain rfl:=xgg ec vi
  obtain ⟨o,g,oc,n,od'⟩:=it
  obtain ⟨c1,d1,dt1,sl1⟩:=o
  dsimp only at oc od'
  subst oc od'
  refine PySem.W.kia_tup (xj0 xc) I.kIn (xib I ha fun d e=>?_) g ek (fun z=>nomatch z) fun tk=>⟨.bl b,H,I.tok tk,rfl,q⟩
  obtain ⟨fs,hw⟩:=hd d e
  obtain ⟨_,_,⟨o,_,_,go,_⟩,_⟩:=xlz I hw
  exact ⟨o,go⟩
end
end L2
set_option maxRecDepth 100000
namespace L2
open PySem PySem.Spec PyProof.Rows XL
variable {q0:Bool}
def xcj (scope:Scope):List Str:=(scope.names.filter fun x=>x.2 == .free).map (·.1)
def Cx.clo (X:Cx) (scope:Scope):List (Str × Addr):=(xcj scope).reverse.map fun n=>(n,(X.env.cells.lookup n).getD 0)
theorem xfo {env:Env} {f:Str→Addr}:∀ (l:List (Str × NameKind)) (acc:List (Str × Addr)),(∀ x ∈ l,x.2=.free→env.cells.lookup x.1=some (f x.1)) →
    (forIn l acc fun x cs=>(if x.2 == .free then do let c ← cellOf env x.1; pure (ForInStep.yield ((x.1,c) :: cs)) else pure (ForInStep.yield cs):Sem (ForInStep (List (Str × Addr))))) =
      pure ((((l.filter fun x=>x.2 == .free).map (·.1)).reverse.map fun n=>(n,f n)) ++ acc)
  | [],acc,_=>rfl
  | x :: r,acc,h=>by
    have ih:=fun a=>xfo r a fun y hy=>h y (List.mem_cons_of_mem _ hy)
    rw [List.forIn_cons]
    by_cases q:x.2=.free
    · have e:=h x List.mem_cons_self q
      have qb:(x.2 == NameKind.free)=true:=by rw [q]; rfl
      rw [if_pos qb,List.filter_cons,if_pos qb]
      have ec:cellOf env x.1=pure (f x.1):=by unfold cellOf; rw [e]
      rw [ec]
      simp only [pure_bind]
      rw [ih]
      simp
    · have qb:(x.2 == NameKind.free)=false:=by simpa using q
      rw [if_neg (by rw [qb]; decide),List.filter_cons,if_neg (by rw [qb]; decide)]
      simp only [pure_bind]
      rw [ih]
theorem xkx {X:Cx} {scope:Scope} (h:∀ n ∈ xcj scope,∃ c,X.env.cells.lookup n=some c):closureFor scope X.env=pure (X.clo scope):=by
 unfold closureFor
 have z:=xfo (env:=X.env) (f:=fun n=>(X.env.cells.lookup n).getD 0) scope.names [] fun x hx hf=>by
  obtain ⟨c,e⟩:=h x.1 (List.mem_map.mpr ⟨x,List.mem_filter.mpr ⟨hx,by simp [hf]⟩,rfl⟩)
  rw [e]
  rfl
 rw [List.append_nil] at z
 refine (bind_pure (m:=Sem) _).trans ?_
 exact z
theorem xmh {X:Cx} {scope:Scope} {n:Str} {c:Addr} (h:(X.clo scope).lookup n=some c):n ∈ xcj scope∧c=(X.env.cells.lookup n).getD 0:=by
 have z:=PySem.mem_of_lookup h
 unfold Cx.clo at z
 obtain ⟨y,hy,e⟩:=List.mem_map.mp z
 injection e with e1 e2
 subst e1
 exact ⟨List.mem_reverse.mp hy,e2.symm⟩
theorem xde {f:Str→Addr} {n:Str}:∀ {l:List Str},n ∈ l→(l.map fun y=>(y,f y)).lookup n=some (f n)
 | [],h=>by simp at h
 | y :: r,h=>by
  rw [List.map_cons,List.lookup_cons]
  by_cases q:n=y
  ·subst q
   simp
  ·rw [show (n == y)=false from by simpa using q]
   exact xde ((List.mem_cons.mp h).resolve_left q)
theorem xia {X:Cx} {scope:Scope} {n:Str} {c:Addr} (hn:n ∈ xcj scope) (h:X.env.cells.lookup n=some c):(X.clo scope).lookup n=some c:=by
 have z:=xde (f:=fun n=>(X.env.cells.lookup n).getD 0) (List.mem_reverse.mpr hn)
 unfold Cx.clo
 rw [z,h]
 rfl
section
variable {X:Cx} {pins:List (Addr × Obj)} {σ:St} {H:Hp} {s:Shared} {scope:Scope} {x:Str} {ys:List Str} {fr:List Nat} {fp:List Addr}
end
section
variable {X:Cx} {pins:List (Addr × Obj)} {σ:St} {H:Hp} {s:Shared} {scope:Scope} {x:Str} {ys:List Str} {fr:List Nat} {fp:List Addr}
end
def xeq:TT:=fun _ H Q=>Q true H
def PIf (X:Cx) (ifs:List Expr) (t:TT):Prop :=
 ∀ (pins:List (Addr × Obj)) (s:Shared) (σ:St) (H:Hp) (Q:Bool→Hp→Prop),Inv X pins σ H s→t σ H Q →
  wpAny (model X.prog X.w) X.A (forIn ifs true fun c r=>if r=true then do let ok ← isTrue c X.env (eval c X.env); pure (ForInStep.yield ok) else pure (ForInStep.yield r)) (TP X pins σ Q) X.xe s
theorem xbk {X:Cx}:PIf X [] xeq:=fun pins s σ H Q I h=>wpAny_pure ⟨H,I,h⟩
theorem xbp {X:Cx} {c:Expr} {t:TT} (hc:PT X c t):PIf X [c] t:=fun pins s σ H Q I h=>by
 rw [List.forIn_cons]
 refine wpAny_bind ?_
 rw [if_pos rfl]
 refine wpAny_bind (wpAny_mono (hc pins s σ H Q I h) (fun b s1 q=>wpAny_pure ?_) fun _ _ z=>z)
 exact wpAny_pure q
section
variable {X:Cx} {scope:Scope} {x:Str} {ys:List Str} {fr:List Nat} {elt iter:Expr} {ifs:List Expr} {px pos:Pos} {wi:TI} {tc:TT} {te:TE}
end
end L2
set_option maxRecDepth 100000
namespace L2
open PySem PySem.Spec PyProof.Rows XL
variable {q0:Bool}
theorem xjj {env:Env} {scope:Scope} (nc:∀ y ∈ scope.names,y.2≠.cell) (n:Str) (h:(relabel scope env).names.lookup n=some .cell∨(relabel scope env).names.lookup n=some .free):n ∈ xcj scope:=by
 have key:∀ k,(relabel scope env).names.lookup n=some k→(k=.cell∨k=.free)→n ∈ xcj scope:=fun k e hk=>by
  obtain ⟨y,hy,ey⟩:=List.mem_map.mp (PySem.mem_of_lookup e)
  obtain ⟨m,j⟩:=y
  dsimp only at ey
  split at ey
  ·rename_i q
   injection ey with e1 e2
   subst e1
   have:j=.free:=by
    simp only [Bool.and_eq_true,beq_iff_eq] at q
    exact q.1.1
   subst this
   exact List.mem_map.mpr ⟨_,List.mem_filter.mpr ⟨hy,by simp⟩,rfl⟩
  ·injection ey with e1 e2
   subst e1 e2
   rcases hk with z | z
   ·exact absurd z (nc _ hy)
   ·subst z
    exact List.mem_map.mpr ⟨_,List.mem_filter.mpr ⟨hy,by simp⟩,rfl⟩
 rcases h with h | h
 ·exact key _ h (.inl rfl)
 ·exact key _ h (.inr rfl)
theorem xiw {env:Env} {scope:Scope} {n:Str} (h:scope.names.lookup n=some .free):(relabel scope env).names.lookup n=some .cell∨(relabel scope env).names.lookup n=some .free:=by
  have key:∀ (l:List (Str × NameKind)),l.lookup n=some .free→(l.map fun (m,k)=>if (k == NameKind.free && env.scope.kind == .function && env.kindOf m == some .cell) then (m,NameKind.cell) else (m,k)).lookup n=some .cell ∨
      (l.map fun (m,k)=>if (k == NameKind.free && env.scope.kind == .function && env.kindOf m == some .cell) then (m,NameKind.cell) else (m,k)).lookup n=some .free:=fun l=>by
    induction l with
    | nil=>intro e; simp at e
    | cons y r ih =>
      intro e
      obtain ⟨m,k⟩:=y
      rw [List.map_cons]
      rw [List.lookup_cons] at e
      cases q:n == m with
      | true =>
        rw [q] at e
        cases e
        dsimp only
        split
        · left; rw [List.lookup_cons,q]
        · right; rw [List.lookup_cons,q]
      | false =>
        rw [q] at e
        have z:=ih e
        dsimp only
        split <;> (rw [List.lookup_cons,q]; exact z)
  exact key _ h
section
variable {P:Program} {w:World} {K:PySem.W.Frag} {mg:Str→Option Value} {base:Heap}
theorem Fun.okn {x qual:Str} {st:Stmt} {f:Addr} {fd:FuncData} {N ps:List Str} {k:Nat} {sp:Sp} (F:Fun K x qual st f fd) (S:x5 N ps (xi st)) (len:∀ vs H Q E,sp vs H Q E→vs.length=ps.length)
    (hbody:∀ (cdv:Value) (A:Around) (outer:List Env) (s:Shared) (H:Hp) (vs:List V) (Q:VK) (E:XK),Room q0 k (A.deeper (envOfC qual (xi st) s.heap.objs.size f cdv))→sp vs H Q E →
      ∃ t,PSs (cxOf q0 (CXo P w) P w K mg base N qual (xi st) f cdv A outer s H E).nox (xu st) t∧t { nx:=fun _ H'=>Q .non H',rt:=Q } (start N vs) H):FnOk q0 P w K mg base (CXo P w) (k + 1) f fd ps sp:=by
  obtain ⟨oc,od,kV,doc,pm,an,cdv,ct,osl,rfl,lk,hcd⟩:=F.ex
  refine xja lk hcd S len fun A outer s H vs Q E hr hsp=>?_
  obtain ⟨t,h,q⟩:=hbody cdv A outer s H vs Q E hr hsp
  exact ⟨t,h.nox,q⟩
end
end L2
set_option maxRecDepth 100000
namespace L2
open PySem PySem.Spec PyProof.Rows XL
theorem ifP {b:Bool} {A B:Prop} (h:b=true) (q:A):if b=true then A else B:=by
 rw [if_pos h]
 exact q
theorem ifN {b:Bool} {A B:Prop} (h:b=false) (q:B):if b=true then A else B:=by
 rw [if_neg (by rw [h]; decide)]
 exact q
end L2
set_option maxRecDepth 100000
namespace L2
open PySem PySem.Spec PyProof.Rows XL
def sgn (c:Nat):V:=.str ⟨#[c]⟩
def Its (x:Str):It:=⟨fun i _=>i < x.cps.toList.length,fun i H v H'=>H'=H∧∃ c,x.cps.toList[i]?=some c∧v=sgn c,fun i _=>x.cps.toList.length≤i⟩
theorem xmt {h h':Heap} {it:Addr} {ty:String} {x:Str} {t:Tok} {i:Nat} (y:h.IsStrIter it ty x t i) (k:∀ o,h.get? it=some o→h'.get? it=some o):h'.IsStrIter it ty x t i:=by
 obtain ⟨o,ho,r⟩:=y
 exact ⟨o,k o ho,r⟩
theorem xlu {P:Program} {w:World} {K:PySem.W.Frag} {tg:Expr} {x:Str} (t:Tok) (it:Addr):Turn P w K tg (Its x) [it] it (fun i h=>h.IsStrIter it "str_ascii_iterator" x t i) where
 mem:=by simp
 obj:=fun i h st b hb=>by
  have e:b=it:=by simpa using hb
  subst e
  obtain ⟨o,e,c,d⟩:=st
  exact ⟨o,e,fun v z=>by rw [d] at z; cases z⟩
 keep:=fun i h h' st k=>xmt st fun o e=>k it (by simp) o e
 item:=by
  intro X hP hw hK hc i pins s σ H E I hf st hg
  subst hP hw hK
  have lt:i < x.cps.toList.length:=hg
  have ex:x.cps[i]?=some (x.cps.toList[i]):=by simp
  obtain ⟨f0,f1,f2,f3,f4,f5⟩:=hf it (by simp)
  refine wpAny_pyNext_ascii_item st ex fun h' st' sb=>?_
  have I1:Inv X pins σ H { s with heap:=h',toks:=s.toks + 1 }:=I.turned (t':=s.toks + 1) (fun b o hb e=>(sb.2 b hb).trans e) f0 f1 f3 f4 f5
  obtain ⟨o,e,c,d⟩:=id st'
  exact ⟨_,rfl,xgq (s:={ s with heap:=h',toks:=s.toks + 1 }) e c d (by decide) ⟨sgn (x.cps.toList[i]),H,I1,⟨_,rfl⟩,⟨rfl,_,by simp,rfl⟩,st',fun b hb=>(hf b hb).1⟩⟩
 done:=by
  intro X hP hw hK hc i pins s σ H E I hf st hg
  subst hP hw hK
  have ge:x.cps.toList.length≤i:=hg
  obtain ⟨f0,f1,f2,f3,f4,f5⟩:=hf it (by simp)
  exact wpAny_pyNext_ascii_end (I.ok.hd hc) st (by simpa using ge) fun h' eb=>⟨rfl,I.turned (t':=s.toks) (fun b o hb e=>eb b o hb e) f0 f1 f3 f4 f5⟩
 self:=fun _ _ _ _ _ st h=>wpAny_pyIter_striter_ascii st h
def iStr (tl:TE):TI:=fun σ H R=>tl σ H fun v H1=>∃ x:Str,v=.str x∧x.cps.all (· < 128)=true∧R (Its x) H1
theorem xnj {X:Cx} {tg l:Expr} {tl:TE} (hl:PE X l tl):PI X tg l (iStr tl):=by
 intro pins s σ H R I h
 refine thn (hl pins s σ H _ I h) fun v s1 ⟨y,H1,I1,r1,x,e,ha,q⟩=>?_
 subst e
 obtain ⟨t,rfl⟩:=r1
 refine wpAny_pyIter_ascii ha ?_
 refine ⟨s1.heap.objs.size,[s1.heap.objs.size],_,_,H1,rfl,I1.kept (t':=s1.toks) fun b o e=>Heap.get?_push_of_some _ e,xlu t _,⟨_,Heap.get?_push_size _ rfl,rfl,rfl⟩,fun b hb=>?_,q⟩
 have e:b=s1.heap.objs.size:=by simpa using hb
 subst e
 exact I1.fpOk (Nat.le_refl _) (I1.hok.fresh (Nat.le_refl _))
section
variable {X:Cx}
theorem xgc:OpR X (compareOp .LtE) (fun x y H Q=>∃ i j,x=.str i∧y=.str j∧Q (.bl (!decide (j.cps.toList < i.cps.toList))) H):=by
 intro pins s σ H x y v u Q I rx ry h
 obtain ⟨i,j,rfl,rfl,q⟩:=h
 obtain ⟨t,rfl⟩:=rx
 obtain ⟨t',rfl⟩:=ry
 exact PySem.P.le_str (xai I q rfl)
theorem xew:xb9 X (.type "range") (fun xs H Q=>∃ i j,xs=[.int i,.int j]∧∀ p,H p=none→Q (.ref p) (upd H p (.rng i j))):=by
 intro pins s σ H xs us Q I r h
 obtain ⟨i,j,rfl,q⟩:=h
 obtain ⟨u,w',rfl,⟨t,rfl⟩,⟨t',rfl⟩⟩:=xgu r
 refine call_range_2 ⟨.ref s.heap.objs.size,_,I.laid (t':=s.toks + 1) (fun b o e=>Heap.get?_push_of_some _ e) (Nat.le_refl _) (show xau X.prog X.w _ _ _ (.rng i j) from ⟨_,_,_,Heap.get?_push_size _ rfl⟩),rfl,q _ (I.hok.fresh (Nat.le_refl _))⟩
end
end L2
set_option maxRecDepth 100000
namespace L2
open PySem PySem.Spec PyProof.Rows
variable {q0:Bool}
section
variable {X:Cx}
theorem xf7:∀ {us:List Value} {ys:List V},us.length=ys.length→(∀ (j:Nat) (y:V) (u:Value),ys[j]?=some y→us[j]?=some u→RelV y u)→Vals ys us
 | [],[],_,_=>.nil
 | u :: us,y :: ys,hl,h=>.cons (h 0 y u rfl rfl) (xf7 (Nat.succ.inj hl) fun j y' u' e e'=>h (j + 1) y' u' e e')
def rngL (lo hi:Int):List V:=(List.range (hi - lo).toNat).map fun (i:Nat)=>V.int (lo + (i:Int))
theorem xd1 (hc:X.calm=true):xb9 X (.type "list") (fun xs H Q=>∃ p lo hi,xs=[.ref p]∧H p=some (.rng lo hi)∧(-(2 ^ 62)≤lo∧lo < 2 ^ 62∧-(2 ^ 62)≤hi∧hi < 2 ^ 62)∧(hi - lo).toNat≤1000 ∧
    ∀ l,H l=none→Q (.ref l) (upd H l (.lst (rngL lo hi)))):=by
  intro pins s σ H xs us Q I r h
  obtain ⟨p,lo,hi,rfl,hp,⟨h1,h2,h3,h4⟩,hn,q⟩:=h
  obtain ⟨u,rfl,rx⟩:=xcw r
  cases rx
  obtain ⟨t1,t2,t3,g⟩:=(show xau X.prog X.w H s.heap p (.rng lo hi) from I.hok p _ hp)
  refine call_list_range (I.ok.hd hc) g (small_one h1 h2 h3 h4) (n:=(hi - lo).toNat) (by rw [rangeSize_one]; split <;> omega) (Nat.le_trans hn (by decide)) fun h' tk acc' c' kp e it=>?_
  have len:acc'.toList.length=(rngL lo hi).length:=by rw [rngL,List.length_map,List.length_range]; exact it.1
  refine ⟨.ref s.heap.objs.size,_,I.laid (t':=tk) kp (Nat.le_refl _) (show xau X.prog X.w _ h' _ (.lst (rngL lo hi)) from ⟨?_,acc'.toList,c',xf7 len fun j y u ey eu=>?_,by simpa using e⟩),rfl,q _ (I.hok.fresh (Nat.le_refl _))⟩
  · rw [rngL,List.length_map,List.length_range]
    exact Nat.le_trans hn (by decide)
  · have eu':acc'[j]?=some u:=by simpa using eu
    obtain ⟨t,e2⟩:=it.2 j u eu'
    have lt:j < (hi - lo).toNat:=by
      have:=(List.getElem?_eq_some_iff.mp ey).1
      simpa [rngL] using this
    rw [rngL,List.getElem?_map,List.getElem?_range lt] at ey
    cases ey
    exact ⟨t,by rw [e2,Int.mul_one]⟩
end
end L2
set_option maxRecDepth 100000
namespace L2
open PySem PySem.Spec PyProof.Rows
variable {q0:Bool}
structure FunD (K:PySem.W.Frag) (x qual:Str) (st:Stmt) (T f:Addr) (fd:FuncData):Prop where
 ex:∃ (oc:Value) (od:Option Addr) (kV doc pm:Value) (an:Option Addr) (cdv ct:Value) (osl:Array (Option Value)),
  fd=PySem.W.fnOf x qual (xz st) (xu st) (xi st) (.ref T) kV doc pm an cdv ct∧K.lookup f=some ⟨oc,od,.func fd,osl⟩∧PySem.W.codeIn K cdv qual=true
 kp:PySem.W.keepIn K (.ref f)=true
section
variable {P:Program} {w:World} {K:PySem.W.Frag} {mg:Str→Option Value} {base:Heap}
theorem FunD.okn {x qual:Str} {st:Stmt} {T f:Addr} {fd:FuncData} {N ps:List Str} {k:Nat} {sp:Sp} (F:FunD K x qual st T f fd) (S:x5 N ps (xi st)) (len:∀ vs H Q E,sp vs H Q E→vs.length=ps.length)
    (hbody:∀ (cdv:Value) (A:Around) (outer:List Env) (s:Shared) (H:Hp) (vs:List V) (Q:VK) (E:XK),Room q0 k (A.deeper (envOfC qual (xi st) s.heap.objs.size f cdv))→sp vs H Q E →
      ∃ t,PSs (cxOf q0 (CXo P w) P w K mg base N qual (xi st) f cdv A outer s H E).nox (xu st) t∧t { nx:=fun _ H'=>Q .non H',rt:=Q } (start N vs) H):FnOk q0 P w K mg base (CXo P w) (k + 1) f fd ps sp:=by
  obtain ⟨oc,od,kV,doc,pm,an,cdv,ct,osl,rfl,lk,hcd⟩:=F.ex
  refine xja lk hcd S len fun A outer s H vs Q E hr hsp=>?_
  obtain ⟨t,h,q⟩:=hbody cdv A outer s H vs Q E hr hsp
  exact ⟨t,h.nox,q⟩
theorem FunD.binds {x qual:Str} {st:Stmt} {T f:Addr} {fd:FuncData} {ps:List Str} {o:Obj} {items:Array Value} {n:Nat} {ds:List Value} (F:FunD K x qual st T f fd) (ho:K.lookup T=some o) (hs:o.data=.seq items n) (m:Nat) (hm:m + ds.length=ps.length)
    (h:∀ (kV doc pm:Value) (an:Option Addr) (cdv ct:Value) (us:List Value),us.length=m →
      ∃ k,bindArgs (PySem.W.fnOf x qual (xz st) (xu st) (xi st) (.ref T) kV doc pm an cdv ct) ⟨us,[]⟩=seqItems? (.ref T) >>= k∧k (some items)=pure (ps.zip (us ++ ds))):xab K fd ps ds:=by
  obtain ⟨oc,od,kV,doc,pm,an,cdv,ct,osl,rfl,lk,hcd⟩:=F.ex
  intro s us hK hl
  rw [List.length_append] at hl
  obtain ⟨k,h1,h2⟩:=h kV doc pm an cdv ct us (by omega)
  exact BindsTo.of_defaults rfl (hK _ _ ho) hs h1 h2
theorem xf2 {x qual:Str} {st:Stmt} {T f:Addr} {oc:Value} {od an:Option Addr} {osl:Array (Option Value)} {kV doc pm cdv ct:Value} (l:K.lookup f=some ⟨oc,od,.func (PySem.W.fnOf x qual (xz st) (xu st) (xi st) (.ref T) kV doc pm an cdv ct),osl⟩)
    (c:PySem.W.codeIn K cdv qual=true) (k:PySem.W.keepIn K (.ref f)=true):FunD K x qual st T f (PySem.W.fnOf x qual (xz st) (xu st) (xi st) (.ref T) kV doc pm an cdv ct):=⟨⟨oc,od,kV,doc,pm,an,cdv,ct,osl,rfl,l,c⟩,k⟩
end
end L2
set_option maxRecDepth 100000
namespace L2
open PySem PySem.Spec PyProof.Rows XL
variable {q0:Bool}
abbrev Cx.blkG (X:Cx) (scope:Scope) (zs:List Str) (ys:List Str) (C:Addr) (ex:List Addr) (s:Shared) (H:Hp) (pn:List (Addr × Obj)):Cx where
 prog:=X.prog
 w:=X.w
 K:=X.K
 mg:=X.mg
 base:=X.base
 A:=X.A
 N:=zs ++ ys
 s₀:=s
 H₀:=H
 env:=compEnvC scope (X.clo scope) C X.env
 outer:=X.stack
 stack:=X.stack
 ex:=ex
 fn:=fun _=>false
 calm:=X.calm
 pn:=pn
 xe:=fun _ _=>False
theorem xfe {prog:Program} {w:World} {A:Around} {R:Result→Shared→Prop} {s:Shared} {elt target iter:Expr} {ifs:List Expr} {scope:Scope} {pos:Pos} {it acc:Value} {env:Env} (I:Nat→Shared→Prop)
    (turn:∀ n s,I n s→wpAny (model prog w) A (pyNext it) (fun r s₁=>match r with
      | none=>R (.ok .next) s₁
      | some v=>wpAny (model prog w) A (letOwnedTupleGo target it v) (fun _ s₀=>wpAny (model prog w) A (assign target env v) (fun _ s₂ =>
          wpAny (model prog w) A (forIn ifs true fun c r=>if r=true then do let ok ← isTrue c env (eval c env); pure (ForInStep.yield ok) else pure (ForInStep.yield r)) (fun ok s₃ =>
            if ok=true then wpAny (model prog w) A (eval elt env) (fun x s₄ =>
              wpAny (model prog w) A (call (.builtin "list.append") [acc,x]) (fun _ s₅=>∃ m,m < n∧I m s₅) (notedBy (model prog w) A env fun e s'=>R (.error e) s') s₄) (notedBy (model prog w) A env fun e s'=>R (.error e) s') s₃
            else ∃ m,m < n∧I m s₃) (notedBy (model prog w) A env fun e s'=>R (.error e) s') s₂) (notedBy (model prog w) A env fun e s'=>R (.error e) s') s₀) (notedBy (model prog w) A env fun e s'=>R (.error e) s') s₁) (notedBy (model prog w) A env fun e s'=>R (.error e) s') s)
    (n:Nat) (h:I n s):codeAny (model prog w) A (.compLoop (.ListComp elt [⟨target,iter,ifs,0⟩] scope pos) 0 it acc env) R s:=by
  refine codeAny_loop rfl I (fun n s hI=>?_) n h
  show wpAny _ A ((compTurn (.ListComp elt [⟨target,iter,ifs,0⟩] scope pos) 0 it acc env).onRaise (fun x=>do noteFrame x env; theTreesLotGoes x)) _ _ s
  refine wpAny_noted ?_
  rw [compTurn_list]
  refine wpAny_bind (wpAny_standAt (wpAny_bind (wpAny_mono (turn n s hI) (fun r s₁ h₁=>?_) fun _ _ h'=>h')))
  cases r with
  | none=>exact wpAny_pure h₁
  | some v =>
    refine wpAny_bind (wpAny_mono h₁ (fun _ s₀ h₀=>wpAny_bind (wpAny_mono h₀ (fun _ s₂ h₂=>wpAny_bind (wpAny_mono h₂ (fun ok s₃ h₃=>?_) fun _ _ h'=>h')) fun _ _ h'=>h')) fun _ _ h'=>h')
    cases ok with
    | false=>exact wpAny_pure ⟨rfl,h₃⟩
    | true =>
      exact wpAny_bind (wpAny_bind (wpAny_mono h₃ (fun x s₄ h₄=>wpAny_bind (wpAny_mono h₄ (fun _ s₅ h₅=>wpAny_pure (wpAny_pure ⟨rfl,h₅⟩)) fun _ _ h'=>h')) fun _ _ h'=>h'))
structure BlkG (X:Cx) (scope:Scope) (zs:List Str) (ys:List Str) (fr:List Nat):Prop where
 kind:scope.kind=.function
 own:∀ x ∈ zs,scope.names.lookup x=some .local
 ncell:∀ y ∈ scope.names,y.2≠.cell
 names:∀ y ∈ scope.names,y.2=.local→scope.names.lookup y.1=some .local
 free:∀ n ∈ xcj scope,X.env.scope.names.lookup n=some .cell
 has:∀ n,((relabel scope X.env).names.lookup n=some .cell∨(relabel scope X.env).names.lookup n=some .free)→n ∈ xcj scope
 slots:fr.map (fun i=>X.N[i]?)=ys.map some
 ysf:∀ y ∈ ys,y ∈ xcj scope
 ysc:∀ y ∈ ys,(relabel scope X.env).names.lookup y=some .cell∨(relabel scope X.env).names.lookup y=some .free
 nd:X.N.Nodup
 ndb:(zs ++ ys).Nodup
def blk0 (σ:St) (fr:List Nat) (n:Nat):St:=List.replicate n none ++ fr.map fun i=>(σ[i]?).join
section
variable {X:Cx} {pins:List (Addr × Obj)} {σ:St} {H:Hp} {s:Shared} {scope:Scope} {zs:List Str} {ys:List Str} {fr:List Nat} {fp:List Addr}
theorem BlkG.cells (B:BlkG X scope zs ys fr) (I:Inv X pins σ H s):∀ n ∈ xcj scope,∃ c,X.env.cells.lookup n=some c:=fun n hn=>I.ok.has n (.inl (B.free n hn))
theorem BlkG.sub (B:BlkG X scope zs ys fr) (I:Inv X pins σ H s) {n:Str} {c:Addr} (h:(X.clo scope).lookup n=some c):X.env.cells.lookup n=some c:=by
 obtain ⟨a,b⟩:=xmh h
 obtain ⟨d,e⟩:=B.cells I n a
 rw [e] at b
 rw [b,e]
 rfl
theorem Inv.blkG {h1:Heap} {m1:Str→Option Value} {t':Nat} (B:BlkG X scope zs ys fr) (I:Inv X pins σ H s) (hf:∀ b ∈ fp,FpOk X pins H b) (hz:∀ b ∈ fp,b < s.heap.objs.size) (n1:h1.Ns s.heap.objs.size m1) (k1:∀ b o,s.heap.get? b=some o→h1.get? b=some o) :
    Inv (X.blkG scope zs ys s.heap.objs.size fp s H (X.pn ++ pins)) [] (blk0 σ fr zs.length) H { s with heap:=h1,toks:=t' }:=by
  have sub:∀ n c,(X.clo scope).lookup n=some c→X.env.cells.lookup n=some c:=fun n c h=>B.sub I h
  have cz:∀ n c,X.env.cells.lookup n=some c→c < s.heap.objs.size:=fun n c e=>by
    obtain ⟨v,o,ho,_⟩:=I.cell n c e
    exact Heap.lt_size ho
  have nfs:∀ b ∈ fp,b ∉ frs X.stack:=fun b hb z=>(List.mem_cons.mp (I.stkSub b z)).elim (hf b hb).2.1 (hf b hb).2.2.1
  have fz:∀ b,b ∈ frs X.stack→b < s.heap.objs.size:=fun b hb=>by
    obtain ⟨_,o,ho,_⟩:=I.stack.mem hb
    exact Heap.lt_size ho
  refine ⟨⟨I.ok.mod,B.kind,I.ok.glob,I.ok.blt,Nat.le_refl _,fun y z c h1 h2=>I.ok.inj y z c (sub y c h1) (sub z c h2),fun y hy=>?_,(fun y c hy _=>nomatch hy),I.ok.hd,I.ok.frames,.inl rfl,fun b hb=>⟨?_,fun y c h=>(hf b hb).2.2.2.2.1 y c (sub y c h)⟩,
      I.bs,Nat.le_trans I.ok.bsz I.sz,fun b o e hb=>?_,fun b hb=>nfs b hb,I.stack,I.stkFree⟩,
    rfl,I.bare,Un.kept k1,⟨m1,n1,fun i y v e1 e2 e3=>?_⟩,fun y c h=>?_,I.hok.fresh (Nat.le_refl _),fun y c h=>I.freeC y c (sub y c h),fun p hp=>?_,I.hok.kept k1,?_⟩
  · obtain ⟨c,e⟩:=B.cells I y (B.has y hy)
    exact ⟨c,xia (B.has y hy) e⟩
  · exact Nat.ne_of_lt (hz b hb)
  · rcases (hf b hb).2.2.2.1 with z | z
    · exact I.ok.noex b o e z
    · exact absurd (Nat.lt_of_lt_of_le (Heap.lt_size (I.ok.bs b o e).1) z) (Nat.lt_irrefl _)
  · have ln:(List.replicate zs.length (none:Option V)).length=zs.length:=List.length_replicate
    by_cases lt:i < zs.length
    · have e2':(blk0 σ fr zs.length)[i]?=some (some v):=e2
      unfold blk0 at e2'
      rw [List.getElem?_append_left (by rw [ln]; exact lt),List.getElem?_replicate] at e2'
      split at e2' <;> cases e2'
    · obtain ⟨k,rfl⟩:∃ k,i=zs.length + k:=⟨i - zs.length,by omega⟩
      have e2':(fr.map fun i=>(σ[i]?).join)[k]?=some (some v):=by
        have z:(blk0 σ fr zs.length)[zs.length + k]?=some (some v):=e2
        unfold blk0 at z
        rw [List.getElem?_append_right (by rw [ln]; omega),ln] at z
        simpa using z
      have e1':ys[k]?=some y:=by
        have z:(zs ++ ys)[zs.length + k]?=some y:=e1
        rw [List.getElem?_append_right (by omega)] at z
        simpa using z
      rw [List.getElem?_map] at e2'
      obtain ⟨j,hj,ej⟩:=Option.map_eq_some_iff.mp e2'
      have ev:σ[j]?=some (some v):=by
        cases q:σ[j]? with
        | none=>rw [q] at ej; cases ej
        | some w=>rw [q] at ej; exact congrArg some ej
      have eN:X.N[j]?=some y:=by
        have z:=congrArg (fun l=>l[k]?) B.slots
        simp only [List.getElem?_map,hj,e1',Option.map_some] at z
        exact Option.some.inj z
      have my:y ∈ ys:=List.mem_of_getElem? e1'
      obtain ⟨m,_,lk⟩:=I.loc
      obtain ⟨u,r,l⟩:=lk j y v eN ev (.inr (.inl (B.free y (B.ysf y my))))
      refine ⟨u,r,.inr ⟨B.ysc y my,?_⟩⟩
      rcases l with ⟨kk,_⟩ | ⟨_,c,e,o,ho,hd⟩
      · have z:=B.free y (B.ysf y my)
        rw [show X.env.scope.names.lookup y=some .local from kk] at z
        cases z
      · exact ⟨c,xia (B.ysf y my) e,o,k1 c o ho,hd⟩
  · obtain ⟨v,o,ho,hd⟩:=I.cell y c (sub y c h)
    exact ⟨v,o,k1 c o ho,hd⟩
  · have hp':p ∈ X.pn ++ pins:=by simpa using hp
    obtain ⟨a1,a2,a3,a4,a5⟩:=I.pin p hp'
    exact ⟨k1 _ _ a1,a2,Nat.ne_of_lt (Heap.lt_size a1),fun z=>(List.mem_cons.mp (I.stkSub _ z)).elim a3 a4,a5⟩
  · have z:=congrArg List.length B.slots
    simp only [List.length_map] at z
    simp [blk0,z]
end
section
variable {X:Cx} {pins:List (Addr × Obj)} {σ:St} {H:Hp} {s:Shared} {scope:Scope} {zs:List Str} {ys:List Str} {fr:List Nat} {fp:List Addr}
theorem Inv.unblkG {C:Addr} {s':Shared} {h2:Heap} {σ':St} {H':Hp} {pl:List (Addr × Obj)} (I:Inv X pins σ H s) (hf:∀ b ∈ fp,FpOk X pins H b) (hC:s.heap.objs.size≤C) (J:Inv (X.blkG scope zs ys C fp s H (X.pn ++ pins)) pl σ' H' s') (sb:Heap.SameBut C s'.heap h2) :
    Inv X pins σ H' { s' with heap:=h2 }:=by
  have kp:∀ b o,b≠C→s'.heap.get? b=some o→h2.get? b=some o:=fun b o nb g=>(sb.2 b nb).trans g
  have old:∀ b o,s.heap.get? b=some o→b≠C:=fun b o g=>Nat.ne_of_lt (Nat.lt_of_lt_of_le (Heap.lt_size g) hC)
  have trk:∀ b u,H' b=some u→b≠C:=fun b u hb z=>by
    have f:H' C=none:=J.free
    rw [z,f] at hb
    cases hb
  refine I.call' (s':={ s' with heap:=h2 }) J.os (ch:=fp) ⟨fun b o e n hb hx=>kp b o (old b o e) (J.base.keep b o e n hb hx),fun b o e n hb hx=>?_,fun b o e n hx=>J.base.free b o e n hx,fun b o e hx=>?_,J.base.tups,J.base.frzs,J.base.tbls⟩ (fun b u hb=>?_) J.bare fun b hb=>?_
  · obtain ⟨sl,q⟩:=J.base.slot b o e n hb hx
    exact ⟨sl,kp b _ (old b o e) q⟩
  · obtain ⟨o',q⟩:=J.base.there b o e hx
    exact ⟨o',kp b o' (old b o e) q⟩
  · refine (J.hok b u hb).stay (fun c v hc q=>?_) (fun c q=>q) fun c xs q=>q
    rcases hc with rfl | hc
    · exact kp c v (trk c u hb) q
    · exact kp c v (trk c _ hc) q
  · obtain ⟨_,a1,_,a3,a4,a5⟩:=hf b hb
    exact ⟨a3,a1,a4,a5⟩
end
def GOk (n:Nat) (g:TG):Prop:=∀ v σ H Q,g v σ H Q→g v σ H (fun σ' H'=>Q σ' H'∧σ'.length=σ.length∧∀ i,n≤i→σ'[i]?=σ[i]?)
theorem xar {i n:Nat} (h:i < n):GOk n (xen i):=fun v σ H Q q=>⟨q,by simp,fun j hj=>by rw [List.getElem?_set_ne (by omega)]⟩
def xdk (J:It) (n:Nat) (g:TG) (σ:St) (fr:List Nat) (tc:TT) (te:TE) (l:Addr) (H1:Hp) (Q:VK):Prop:=∃ W:Nat→Nat→List V→Hp→Prop,(∃ m,W 0 m [] (upd H1 l (.lst [])))∧∀ i m xs H2,W i m xs H2 →
 (J.stop i H2∧Q (.ref l) H2)∨(J.go i H2∧∀ v H3,J.yld i H2 v H3→g v (blk0 σ fr n) H3 fun σ' H3'=>tc σ' H3' fun b H4=>if b=true then
  (te σ' H4 fun y H5=>H5 l=some (.lst xs)∧xs.length < sizeLine∧∃ m',m' < m∧W (i + 1) m' (xs ++ [y]) (upd H5 l (.lst (xs ++ [y])))) else ∃ m',m' < m∧W (i + 1) m' xs H4)
def xgy (wi:TI) (n:Nat) (g:TG) (fr:List Nat) (tc:TT) (te:TE):TE:=fun σ H Q=>wi σ H fun J H1=>∀ l,H1 l=none→xdk J n g σ fr tc te l H1 Q
section
variable {X:Cx} {scope:Scope} {zs:List Str} {ys:List Str} {fr:List Nat} {elt iter tg:Expr} {g:TG} {ifs:List Expr} {px pos:Pos} {wi:TI} {tc:TT} {te:TE}
theorem xfg {pins:List (Addr × Obj)} {s:Shared} {σ:St} {H:Hp} {Q:VK} {U:Option (Value→Sem Unit)} {R:Value→Shared→Prop} (hc:X.calm=true) (B:BlkG X scope zs ys fr) (hi:PI X tg iter wi) (hg:∀ C ex s H pn,(∀ x ∈ zs,(relabel scope X.env).names.lookup x=some .local)→(zs ++ ys).Nodup→PG (X.blkG scope zs ys C ex s H pn) tg g) (gok:GOk zs.length g)
    (hif:∀ C ex s H pn,PIf (X.blkG scope zs ys C ex s H pn) ifs tc) (he:∀ C ex s H pn,PE (X.blkG scope zs ys C ex s H pn) elt te) (I:Inv X pins σ H s) (h:xgy wi zs.length g fr tc te σ H Q)
    (fin:∀ C l H' s' m,(X.s₀.heap.objs.size≤C∧C≠X.env.locals∧(∀ x c,X.env.cells.lookup x=some c→c≠C)∧∀ p ∈ X.pn ++ pins,p.1≠C)→H' C=none→s'.heap.Ns C m→(∀ h2,Heap.SameBut C s'.heap h2→Inv X pins σ H' { s' with heap:=h2 })→Q (.ref l) H'→compPost (model X.prog X.w) X.A X.xe U R (.ref l) C (.ok .next) s') :
    wpAny (model X.prog X.w) X.A (eval iter X.env) (fun v s1=>wpAny (model X.prog X.w) X.A (pyIter v) (fun it s2=>wpAny (model X.prog X.w) X.A (newList []) (fun acc s3 =>
      wpAny (model X.prog X.w) X.A (newFunctionEnv scope X.env.globals (X.clo scope) [] X.env.qual none .none (some X.env)) (fun cenv s4 =>
        codeAny (model X.prog X.w) X.A (.compStart (.ListComp elt [⟨tg,iter,ifs,0⟩] scope pos) 0 it acc { cenv with scope:=relabel scope X.env }) (compPost (model X.prog X.w) X.A X.xe U R acc cenv.locals) s4) X.xe s3) X.xe s2) X.xe s1) X.xe s:=by
  refine thn (hi pins s σ H _ I h) fun v s1 h1=>thn h1 fun itv s2 h2=>?_
  obtain ⟨it,fp,tn,J,H2,rfl,I2,T,st2,f2,body⟩:=h2
  have hN:H2 s2.heap.objs.size=none:=I2.hok.fresh (Nat.le_refl _)
  obtain ⟨W,⟨m0,w0⟩,turn⟩:=body s2.heap.objs.size hN
  refine wpAny_newObj_type ?_
  generalize hs3:({ s2 with heap:=s2.heap.push { cls:=.type "list",data:=.seq ([]:List Value).toArray } }:Shared)=s3
  have k3:∀ b o,s2.heap.get? b=some o→s3.heap.get? b=some o:=fun b o g=>by rw [← hs3]; exact Heap.get?_push_of_some _ g
  have I3:Inv X pins σ (upd H2 s2.heap.objs.size (.lst [])) s3:=by
    rw [← hs3]
    exact I2.laid (t':=s2.toks) (fun b u e=>Heap.get?_push_of_some _ e) (Nat.le_refl _) ⟨Nat.zero_le _,[],0,.nil,Heap.get?_push_size _ rfl⟩
  have z2:∀ b ∈ fp,b < s2.heap.objs.size:=fun b hb=>by
    obtain ⟨o,g,_⟩:=T.obj 0 _ st2 b hb
    exact Heap.lt_size g
  have z3:∀ b ∈ fp,b < s3.heap.objs.size:=fun b hb=>by
    obtain ⟨o,g,_⟩:=T.obj 0 _ st2 b hb
    exact Heap.lt_size (k3 b o g)
  have f3:∀ b ∈ fp,FpOk X pins (upd H2 s2.heap.objs.size (.lst [])) b:=fun b hb=>⟨by rw [xh (Nat.ne_of_lt (z2 b hb))]; exact (f2 b hb).1,(f2 b hb).2⟩
  have st3:tn 0 s3.heap:=T.keep _ _ _ st2 fun b _ o g=>k3 b o g
  refine wpAny_newFunctionEnv B.ncell (by intro y hy; simp at hy) (fun h1 n1 sb1=>?_) B.kind
  have k4:∀ b o,s3.heap.get? b=some o→h1.get? b=some o:=fun b o g=>sb1.extBut b o (Nat.ne_of_lt (Heap.lt_size g)) (Heap.get?_push_of_some _ g)
  have I4:=I3.blkG (t':=s3.toks + ([]:List (Str × Value)).length) B f3 z3 n1 k4
  have st4:tn 0 h1:=T.keep _ _ _ st3 fun b _ o g=>k4 b o g
  have own':∀ x ∈ zs,(relabel scope X.env).names.lookup x=some .local:=fun x hx=>lookup_relabel_local (B.own x hx)
  -- the iterator's objects,through the loop
  have stat:∀ {H':Hp},(∀ b ∈ fp,H' b=none)→∀ b ∈ fp,FpOk (X.blkG scope zs ys s3.heap.objs.size fp s3 (upd H2 s2.heap.objs.size (.lst [])) (X.pn ++ pins)) [] H' b:=fun hn b hb=>by
    obtain ⟨_,a1,a2,a3,a4,a5⟩:=f3 b hb
    exact ⟨hn b hb,Nat.ne_of_lt (z3 b hb),fun z=>(List.mem_cons.mp (I3.stkSub b z)).elim a1 a2,.inl hb,fun y c h=>a4 y c (B.sub I3 h),fun p hp=>a5 p (by simpa using hp)⟩
  have loop:∀ s4:Shared,s4={ s3 with heap:=h1,toks:=s3.toks + ([]:List (Str × Value)).length } →
      codeAny (model X.prog X.w) X.A (.compLoop (.ListComp elt [⟨tg,iter,ifs,0⟩] scope pos) 0 (.ref it) (.ref s2.heap.objs.size) (compEnvC scope (X.clo scope) s3.heap.objs.size X.env))
        (compPost (model X.prog X.w) X.A X.xe U R (.ref s2.heap.objs.size) s3.heap.objs.size) s4:=by
    rintro s4 rfl
    refine xfe (fun n s'=>∃ i xs H',Inv (X.blkG scope zs ys s3.heap.objs.size fp s3 (upd H2 s2.heap.objs.size (.lst [])) (X.pn ++ pins)) [] (blk0 σ fr zs.length) H' s'∧tn i s'.heap∧(∀ b ∈ fp,H' b=none)∧W i n xs H') ?_ m0
      ⟨0,[],_,I4,st4,fun b hb=>(f3 b hb).1,w0⟩
    rintro n s5 ⟨i,xs,H5,I5,st5,fr5,w5⟩
    rcases turn i n xs H5 w5 with ⟨stop,q⟩ | ⟨go,step⟩
    · refine wpAny_mono (T.done (X.blkG scope zs ys s3.heap.objs.size fp s3 (upd H2 s2.heap.objs.size (.lst [])) (X.pn ++ pins)) rfl rfl rfl hc i [] s5 _ H5 (fun _ _=>False) I5 (stat fr5) st5 stop) (fun r s6 ⟨hr,I6⟩=>?_) fun _ _ z=>z.elim
      subst hr
      obtain ⟨m,hm,_⟩:=I6.loc
      exact fin _ _ H5 s6 m ⟨I3.sz,(I3.size_lt (Nat.le_refl _)).2⟩ I6.free hm (fun h2 sb=>I3.unblkG f3 (Nat.le_refl _) I6 sb) q
    · refine wpAny_mono (T.item (X.blkG scope zs ys s3.heap.objs.size fp s3 (upd H2 s2.heap.objs.size (.lst [])) (X.pn ++ pins)) rfl rfl rfl hc i [] s5 _ H5 (fun _ _=>False) I5 (stat fr5) st5 go) (fun r s6 ⟨u,hr,h6⟩=>?_) fun _ _ z=>z.elim
      subst hr
      refine wpAny_mono h6 (fun _ s7 ⟨y,H7,I7,r7,y7,st7,fr7⟩=>?_) fun _ _ z=>z.elim
      have I7':=I7.pinned (stat fr7) (T.obj _ _ st7)
      refine wpAny_mono (hg _ _ _ _ _ own' B.ndb _ s7 _ H7 y u _ I7' r7 (gok _ _ _ _ (step y H7 y7))) (fun _ s8 ⟨σ8,H8,I8,q8,l8,k8⟩=>?_) fun _ _ z=>z.elim
      have back:∀ {s9:Shared} {H9:Hp} {xs':List V},Inv (X.blkG scope zs ys s3.heap.objs.size fp s3 (upd H2 s2.heap.objs.size (.lst [])) (X.pn ++ pins)) ([] ++ xd7 fp s7.heap) σ8 H9 s9→(∃ m',m' < n∧W (i + 1) m' xs' H9) →
          ∃ m,m < n∧∃ i xs H',Inv (X.blkG scope zs ys s3.heap.objs.size fp s3 (upd H2 s2.heap.objs.size (.lst [])) (X.pn ++ pins)) [] (blk0 σ fr zs.length) H' s9∧tn i s9.heap∧(∀ b ∈ fp,H' b=none)∧W i m xs H':=fun {s9 H9 xs'} I9 ⟨m',lt,w9⟩=>by
        refine ⟨m',lt,i + 1,xs',H9,I9.unpinned.weak l8.symm (fun j v e=>?_),T.keep _ _ _ st7 fun b hb o e=>(I9.pin (b,o) (List.mem_append_right _ (List.mem_append_right _ (xck hb e)))).1,fun b hb=>?_,w9⟩
        · by_cases lj:j < zs.length
          · unfold blk0 at e
            rw [List.getElem?_append_left (by rw [List.length_replicate]; exact lj),List.getElem?_replicate] at e
            split at e <;> cases e
          · rw [k8 j (by omega)]
            exact e
        obtain ⟨o,e,d⟩:=T.obj _ _ st7 b hb
        exact (I9.pin (b,o) (List.mem_append_right _ (List.mem_append_right _ (xck hb e)))).2.1
      refine wpAny_mono (hif _ _ _ _ _ _ s8 _ H8 _ I8 q8) (fun ok s9 ⟨H9,I9,q9⟩=>?_) fun _ _ z=>z.elim
      cases ok with
      | false =>
        rw [if_neg (by decide)] at q9 ⊢
        exact back I9 q9
      | true =>
        rw [if_pos rfl] at q9 ⊢
        refine wpAny_mono (he _ _ _ _ _ _ s9 _ H9 _ I9 q9) (fun ev s10 ⟨yv,H10,I10,r10,hl,len,w10⟩=>?_) fun _ _ z=>z.elim
        refine wpAny_mono (xbz (X:=X.blkG scope zs ys s3.heap.objs.size fp s3 (upd H2 s2.heap.objs.size (.lst [])) (X.pn ++ pins)) _ s10 _ H10 (.ref s2.heap.objs.size) [yv] (.ref s2.heap.objs.size) [ev] (fun v H'=>H'=upd H10 s2.heap.objs.size (.lst (xs ++ [yv]))) I10 rfl (.cons r10 .nil) ⟨_,xs,yv,rfl,rfl,hl,len,rfl⟩)
          (fun _ s11 ⟨_,H11,I11,_,e11⟩=>?_) fun _ _ z=>z.elim
        subst e11
        exact back I11 w10
  exact codeAny_compStart_list (loop _ rfl) (T.self _ 0 _ _ _ st4 (loop _ rfl))
theorem xbb (hc:X.calm=true) (B:BlkG X scope zs ys fr) (hi:PI X tg iter wi) (hg:∀ C ex s H pn,(∀ x ∈ zs,(relabel scope X.env).names.lookup x=some .local)→(zs ++ ys).Nodup→PG (X.blkG scope zs ys C ex s H pn) tg g) (gok:GOk zs.length g) (hif:∀ C ex s H pn,PIf (X.blkG scope zs ys C ex s H pn) ifs tc) (he:∀ C ex s H pn,PE (X.blkG scope zs ys C ex s H pn) elt te)
    (hs:∀ x,foldedSetIterable iter X.env x=pure x:=by intro _; rfl):PE X (.ListComp elt [⟨tg,iter,ifs,0⟩] scope pos) (xgy wi zs.length g fr tc te):=by
  intro pins s σ H Q I h
  rw [eval_ListComp]
  refine wpAny_comprehension_free (use:=none) rfl hs (xkx (B.cells I)) B.kind B.names (xfg hc B hi hg gok hif he I h fun C l H' s' m _ _ hm iv q=>?_)
  exact ⟨m,hm,fun h2 sb=>⟨.ref l,H',iv h2 sb,rfl,q⟩⟩
theorem xbn {j:Nat} {y:Str} {py spos:Pos} (hc:X.calm=true) (B:BlkG X scope zs ys fr) (hi:PI X tg iter wi) (hg:∀ C ex s H pn,(∀ x ∈ zs,(relabel scope X.env).names.lookup x=some .local)→(zs ++ ys).Nodup→PG (X.blkG scope zs ys C ex s H pn) tg g) (gok:GOk zs.length g) (hif:∀ C ex s H pn,PIf (X.blkG scope zs ys C ex s H pn) ifs tc) (he:∀ C ex s H pn,PE (X.blkG scope zs ys C ex s H pn) elt te)
    (hj:X.N[j]?=some y) (hy:Loc X.env.scope y) (hf:X.fn y=true∨X.env.scope.names.lookup y=some .local:=by first | exact .inl rfl | exact .inr rfl | assumption)
    (hsw:swapsWith (.ListComp elt [⟨tg,iter,ifs,0⟩] scope pos) (some (.Name y py)) spos.line X.env=pure true:=by rfl)
    (hs:∀ x,foldedSetIterable iter X.env x=pure x:=by intro _; rfl):PS X (.Assign [.Name y py] (.ListComp elt [⟨tg,iter,ifs,0⟩] scope pos) spos) (tAsg (xgy wi zs.length g fr tc te) (xen j)):=by
  intro pins s σ H D I h
  rw [exec_Assign_Name_used _ _ _ _ hsw]
  refine wpAny_bind (wpAny_standAt (wpAny_bind ?_))
  show wpAny _ _ (do let _ ← comprehension (.ListComp elt [⟨tg,iter,ifs,0⟩] scope pos) scope X.env _ (newList []) false (eval iter X.env) (some (assign (.Name y py) X.env))) _ _ s
  refine wpAny_bind (wpAny_mono (wpAny_comprehension_free (use:=some (assign (.Name y py) X.env)) (Q:=fun _ s'=>SP X pins D .next s') rfl hs (xkx (B.cells I)) B.kind B.names
    (xfg hc B hi hg gok hif he I h fun C l H' s' m hC hn hm iv q=>?_)) (fun _ s' z=>wpAny_pure (wpAny_pure z)) fun _ _ e=>e)
  show wpAny _ _ (assign (.Name y py) X.env (.ref l)) _ _ _
  have J:Inv X pins σ H' s':=iv s'.heap (.refl ..)
  refine wpAny_assign_Name (xgb (v:=V.ref l) J B.nd hj hy rfl (fun s2 J2 ⟨a,sb,ha⟩=>?_) hf)
  have na:a≠C:=by
    rcases ha with z | z
    · rw [z]; exact Ne.symm hC.2.1
    · exact hC.2.2.1 _ _ z
  refine ⟨m,?_,fun h2 s3=>?_⟩
  · obtain ⟨o,es,ep,g,r⟩:=hm
    exact ⟨o,es,ep,(sb.2 C (Ne.symm na)).trans g,r⟩
  · exact ⟨_,H',J2.turned (t':=s2.toks) (fun b o nb g=>(s3.2 b nb).trans g) hn (hC.2.1) (.inr hC.1) hC.2.2.1 hC.2.2.2,q⟩
end
def xg1 (scope sc0:Scope) (N0:List Str) (zs:List Str) (ys:List Str) (fr:List Nat):Bool :=
 scope.kind == .function && zs.all (fun x=>scope.names.lookup x == some .local) && scope.names.all (fun y=>y.2 != .cell) && scope.names.all (fun y=>y.2 != .local || scope.names.lookup y.1 == some .local) &&
 (xcj scope).all (fun n=>sc0.names.lookup n == some .cell) && fr.map (fun i=>N0[i]?) == ys.map some && ys.all (fun y=>scope.names.lookup y == some .free) && decide N0.Nodup && decide (zs ++ ys).Nodup
theorem xk7 {X:Cx} {scope sc0:Scope} {N0:List Str} {zs:List Str} {ys:List Str} {fr:List Nat} (chk:xg1 scope sc0 N0 zs ys fr=true) (es:X.env.scope=sc0) (eN:X.N=N0):BlkG X scope zs ys fr:=by
 unfold xg1 at chk
 simp only [Bool.and_eq_true,beq_iff_eq,List.all_eq_true,decide_eq_true_eq] at chk
 obtain ⟨⟨⟨⟨⟨⟨⟨⟨a1,a2⟩,a3⟩,a4⟩,a5⟩,a6⟩,a7⟩,a8⟩,a9⟩:=chk
 have nc:∀ y ∈ scope.names,y.2≠.cell:=fun y hy=>by simpa using a3 y hy
 refine ⟨a1,a2,nc,fun y hy hl=>?_,fun n hn=>by rw [es]; exact a5 n hn,fun n h=>xjj nc n h,by rw [eN]; exact a6,fun y hy=>?_,fun y hy=>xiw (a7 y hy),by rw [eN]; exact a8,a9⟩
 ·have z:=a4 y hy
  rw [hl] at z
  simpa using z
 ·exact List.mem_map.mpr ⟨(y,.free),List.mem_filter.mpr ⟨PySem.mem_of_lookup (a7 y hy),by simp⟩,rfl⟩
theorem xat {X:Cx} {scope sc0:Scope} {N0:List Str} {zs:List Str} {ys:List Str} {fr:List Nat} (chk:xg1 scope sc0 N0 zs ys fr=true) (es:X.env.scope=sc0) (eN:X.N=N0) (_:X.stack=X.env :: X.outer):BlkG X scope zs ys fr:=xk7 chk es eN
theorem xfy {K:PySem.W.Frag} {m n:Nat} {t:TGs} (h:∀ vs σ H Q,t vs σ H Q→t vs σ H (fun σ' H'=>Q σ' H'∧σ'.length=σ.length∧∀ i,n≤i→σ'[i]?=σ[i]?)):GOk n (gTup K m t):=fun v σ H Q q=>by
 obtain ⟨a,xs,e,hs,hl,q⟩:=q
 exact ⟨a,xs,e,hs,hl,h _ _ _ _ q⟩
theorem xez {n:Nat}:∀ vs σ H Q,gNil vs σ H Q→gNil vs σ H (fun σ' H'=>Q σ' H'∧σ'.length=σ.length∧∀ i,n≤i→σ'[i]?=σ[i]?):=fun vs σ H Q q=>⟨q.1,q.2,rfl,fun _ _=>rfl⟩
theorem xcc {i n:Nat} (hi:i < n) {t:TGs} (h:∀ vs σ H Q,t vs σ H Q→t vs σ H (fun σ' H'=>Q σ' H'∧σ'.length=σ.length∧∀ i,n≤i→σ'[i]?=σ[i]?)) :
    ∀ vs σ H Q,xi0 (xen i) t vs σ H Q→xi0 (xen i) t vs σ H (fun σ' H'=>Q σ' H'∧σ'.length=σ.length∧∀ i,n≤i→σ'[i]?=σ[i]?):=fun vs σ H Q q=>by
  obtain ⟨v,r,e,q⟩:=q
  refine ⟨v,r,e,?_⟩
  have z:=h _ _ _ _ q
  have e2:∀ (j:Nat),n≤j→(σ.set i (some v))[j]?=σ[j]?:=fun j hj=>by rw [List.getElem?_set_ne (by omega)]
  have e1:(σ.set i (some v)).length=σ.length:=by simp
  have key:(fun σ' H'=>Q σ' H'∧σ'.length=(σ.set i (some v)).length∧∀ j,n≤j→σ'[j]?=(σ.set i (some v))[j]?)=(fun σ' (H':Hp)=>Q σ' H'∧σ'.length=σ.length∧∀ j,n≤j→σ'[j]?=σ[j]?):=by
    funext σ' H'
    rw [e1]
    refine propext ⟨fun ⟨a,b,c⟩=>⟨a,b,fun j hj=>(c j hj).trans (e2 j hj)⟩,fun ⟨a,b,c⟩=>⟨a,b,fun j hj=>(c j hj).trans (e2 j hj).symm⟩⟩
  rw [key] at z
  exact z
theorem xdx {J:It} {n:Nat} {g:TG} {σ:St} {fr:List Nat} {tc:TT} {te:TE} {l:Addr} {H1:Hp} {Q:VK} (len:Nat) (Pv:Nat→List V→Hp→Prop) (h0:Pv 0 [] (upd H1 l (.lst []))) (hgo:∀ i xs H,i < len→Pv i xs H→J.go i H)
    (step:∀ i xs H2 v H3,i < len→Pv i xs H2→J.yld i H2 v H3→∀ N:List V→Hp→Prop,(∀ xs' H',Pv (i + 1) xs' H'→N xs' H')→g v (blk0 σ fr n) H3 fun σ' H3'=>tc σ' H3' fun b H4=>if b=true then
      (te σ' H4 fun y H5=>H5 l=some (.lst xs)∧xs.length < sizeLine∧N (xs ++ [y]) (upd H5 l (.lst (xs ++ [y])))) else N xs H4)
    (fin:∀ xs H2,Pv len xs H2→J.stop len H2∧Q (.ref l) H2):xdk J n g σ fr tc te l H1 Q:=by
  refine ⟨fun i m xs H=>m=len - i∧i≤len∧Pv i xs H,⟨len,by simp,Nat.zero_le _,h0⟩,?_⟩
  rintro i m xs H2 ⟨rfl,hi,p⟩
  by_cases lt:i < len
  · exact .inr ⟨hgo i xs H2 lt p,fun v H3 y=>step i xs H2 v H3 lt p y (fun xs' H'=>∃ m',m' < len - i∧m'=len - (i + 1)∧i + 1≤len∧Pv (i + 1) xs' H') fun xs' H' q=>⟨_,by omega,rfl,lt,q⟩⟩
  · have e:i=len:=by omega
    subst e
    exact .inl (fin xs H2 p)
end L2
set_option maxRecDepth 100000
namespace L2
open PySem PySem.Spec PyProof.Rows XL
variable {q0:Bool}
section
variable {X:Cx} {pins:List (Addr × Obj)} {σ:St} {H:Hp} {s:Shared}
theorem Inv.adopt {p:Addr} {o:HO} (I:Inv X pins σ H s) (n:H p=none) (h0:X.s₀.heap.objs.size≤p) (hL:p≠X.env.locals) (hC:∀ x c,X.env.cells.lookup x=some c→c≠p) (hp:∀ q ∈ X.pn ++ pins,q.1≠p)
    (new:xau X.prog X.w (upd H p o) s.heap p o):Inv X pins σ (upd H p o) s:=by
  have ne:∀ b u,H b=some u→b≠p:=fun b u e=>xf e n
  refine ⟨I.ok,I.os,I.bare,⟨I.base.keep,I.base.slot,fun b ob e hn hx=>?_,I.base.there,fun b xs e=>?_,fun b ob u e=>?_,fun b ps e=>?_⟩,I.loc,I.cell,?_,fun x c e=>?_,fun q hq=>?_,fun b u e=>?_,I.len⟩
  · rw [xh (Nat.ne_of_lt (Nat.lt_of_lt_of_le (Heap.lt_size e) h0))]
    exact I.base.free b ob e hn hx
  · have z:=I.base.tups b xs e
    rw [xh (ne b _ z)]
    exact z
  · have z:=I.base.frzs b ob u e
    rw [xh (ne b _ z)]
    exact z
  · obtain ⟨m,z⟩:=I.base.tbls b ps e
    exact ⟨m,by rw [xh (ne b _ z)]; exact z⟩
  · rw [xh (Ne.symm hL)]
    exact I.free
  · rw [xh (hC x c e)]
    exact I.freeC x c e
  · obtain ⟨a1,a2,a3⟩:=I.pin q hq
    exact ⟨a1,by rw [xh (hp q hq)]; exact a2,a3⟩
  · by_cases hb:b=p
    · subst hb
      rw [xg] at e
      cases e
      exact new
    · rw [xh hb] at e
      exact (I.hok b u e).stay (fun c v _ q=>q) (fun c q=>by rw [xh (ne c _ q)]; exact q) fun c xs q=>by rw [xh (ne c _ q)]; exact q
theorem Inv.thaw {d:Addr} {o:Obj} {u:HO} (I:Inv X pins σ H s) (e:H d=some (.frz o u)) (nf:∀ o' u',X.H₀ d≠some (.frz o' u')):Inv X pins σ (upd H d u) s:=by
 have ne:∀ b v,H b=some v→(∀ o' u',v≠.frz o' u')→b≠d:=fun b v h1 h2 z=>by
  subst z
  rw [e] at h1
  cases h1
  exact h2 _ _ rfl
 have ne0:∀ b,H b=none→b≠d:=fun b h1 z=>by
  subst z
  rw [e] at h1
  cases h1
 refine ⟨I.ok,I.os,I.bare,⟨I.base.keep,I.base.slot,fun b ob q hn hx=>?_,I.base.there,fun b xs q=>?_,fun b ob v q=>?_,fun b ps q=>?_⟩,I.loc,I.cell,?_,fun x c q=>?_,fun p hp=>?_,fun b v q=>?_,I.len⟩
 ·have z:=I.base.free b ob q hn hx
  rw [xh (ne0 b z)]
  exact z
 ·have z:=I.base.tups b xs q
  rw [xh (ne b _ z (fun _ _ h=>nomatch h))]
  exact z
 ·have z:=I.base.frzs b ob v q
  have hb:b≠d:=fun w=>by
   subst w
   exact nf _ _ q
  rw [xh hb]
  exact z
 ·obtain ⟨m,z⟩:=I.base.tbls b ps q
  exact ⟨m,by rw [xh (ne b _ z (fun _ _ h=>nomatch h))]; exact z⟩
 ·rw [xh (ne0 _ I.free)]
  exact I.free
 ·rw [xh (ne0 _ (I.freeC x c q))]
  exact I.freeC x c q
 ·obtain ⟨a1,a2,a3⟩:=I.pin p hp
  exact ⟨a1,by rw [xh (ne0 _ a2)]; exact a2,a3⟩
 ·have st:∀ (a:Addr) (v:HO),xau X.prog X.w H s.heap a v→xau X.prog X.w (upd H d u) s.heap a v:=fun a v k =>
   k.stay (fun c v _ q=>q) (fun c q=>by rw [xh (ne c _ q (fun _ _ h=>nomatch h))]; exact q) fun c xs q=>by rw [xh (ne c _ q (fun _ _ h=>nomatch h))]; exact q
  by_cases hb:b=d
  ·subst hb
   rw [xg] at q
   cases q
   obtain ⟨g,ok⟩:=I.hok b _ e
   exact st _ _ ok
  ·rw [xh hb] at q
   exact st _ _ (I.hok b v q)
theorem Inv.nofrz {d:Addr} {kvs:List (Key × V)} (I:Inv X pins σ H s) (e:H d=some (.dK kvs)):∀ o' u',X.H₀ d≠some (.frz o' u'):=fun o' u' z=>by
 have q:=I.base.frzs d o' u' z
 rw [e] at q
 cases q
theorem KV.get:∀ {kvs:List (Key × V)} {vs:List (Key × Value)} {i:Nat} {k:Key} {x:V},KV kvs vs→kvs[i]?=some (k,x)→∃ u,vs[i]?=some (k,u)∧RelV x u
 | _,_,_,_,_,.nil,e=>by simp at e
 | _,(_,_) :: _,0,_,_,.cons r _,e=>by
  simp at e
  subst e
  obtain ⟨r1,r2⟩:=r
  dsimp only at r1 r2
  subst r1
  exact ⟨_,rfl,r2⟩
 | _,_,i + 1,k,x,.cons _ t,e=>by
  obtain ⟨u,h1,h2⟩:=KV.get (i:=i) (k:=k) (x:=x) t (by simpa using e)
  exact ⟨u,by simpa using h1,h2⟩
theorem xns {P:Program} {w:World} {k:Key} {u:Value} (h:(xam P w).is k u=true):RelV (kV k) u:=by
 rcases xa8 (show xdw k u=true from h) with ⟨i,t,rfl,rfl⟩ | ⟨x,t,rfl,rfl⟩
 ·exact ⟨t,rfl⟩
 ·exact ⟨t,rfl⟩
theorem xkc {d:Addr} {o:Obj} {kvs:List (Key × V)} {ep:Nat} (I:Inv X pins σ H s) (e:H d=some (.frz o (.dK kvs))) (hep:∃ es,o.data=.dict es ep):∃ vs,KV kvs vs∧s.heap.DictAt (xam X.prog X.w) d vs ep:=by
 obtain ⟨g,_,_,vs,rel,o',es',ep',g',ex,hdat,hk,hp,hn⟩:=I.hok d _ e
 rw [g] at g'
 cases g'
 obtain ⟨es,he⟩:=hep
 rw [he] at hdat
 cases hdat
 exact ⟨vs,rel,o,_,g,ex,he,hk,hp,hn⟩
end
def Iti (d:Addr) (o:Obj) (kvs:List (Key × V)):It :=
 ⟨fun i H=>H d=some (.frz o (.dK kvs))∧i < kvs.length,fun i H v H'=>∃ p k x,kvs[i]?=some (k,x)∧v=.ref p∧H p=none∧H'=upd H p (.tup [kV k,x]),fun i H=>H d=some (.frz o (.dK kvs))∧kvs.length≤i⟩
theorem xix {P:Program} {w:World} {K:PySem.W.Frag} {elts:List Expr} {x1} {tpos:Pos} (d it:Addr) (o:Obj) (kvs:List (Key × V)) (ep:Nat) (hep:∃ es,o.data=.dict es ep) :
    Turn P w K (.Tuple elts x1 tpos) (Iti d o kvs) [it] it (fun i h=>∃ ok ov,IsItemIter h it d i kvs.length ep ok ov) where
  mem:=by simp
  obj:=fun i h st b hb=>by
    have e:b=it:=by simpa using hb
    subst e
    obtain ⟨ok,ov,st⟩:=st
    exact ⟨_,st,fun v z=>by
      have z':Data.fields _=Data.cell v:=z
      cases z'⟩
  keep:=fun i h h' ⟨ok,ov,st⟩ k=>⟨ok,ov,k it (by simp) _ st⟩
  item:=by
    intro X hP hw hK hc i pins s σ H E I hf st hg
    subst hP hw hK
    obtain ⟨ok,ov,st⟩:=st
    obtain ⟨e,lt⟩:=hg
    obtain ⟨vs,rel,da⟩:=xkc I e hep
    obtain ⟨f0,f1,f2,f3,f4,f5⟩:=hf it (by simp)
    have hl:kvs.length=vs.length:=rel.length
    obtain ⟨⟨k,x⟩,q⟩:∃ y,kvs[i]=y:=⟨_,rfl⟩
    have hx:kvs[i]?=some (k,x):=by rw [List.getElem?_eq_getElem lt,q]
    obtain ⟨u,hv,ru⟩:=rel.get hx
    rw [hl] at st
    refine wpAny_pyNext_items_item st da hv fun key h' hkey hout ht hz hkp=>?_
    refine ⟨_,rfl,wpAny_letOwnedTupleGo_items hout fun h'' hit' hsb=>?_⟩
    have kk:∀ b o,b≠it→s.heap.get? b=some o→h''.get? b=some o:=fun b o hb g=>(hsb.2 b hb).trans (hkp b o hb g)
    have I1:Inv X pins σ H { s with heap:=h'' }:=I.turned (t':=s.toks) kk f0 f1 f3 f4 f5
    obtain ⟨n0,nL,nC,nP⟩:=I.size_lt (Nat.le_refl s.heap.objs.size)
    have itlt:it < s.heap.objs.size:=Heap.lt_size st
    have pne:s.heap.objs.size≠it:=Nat.ne_of_gt itlt
    have hp:h''.get? s.heap.objs.size=some { cls:=.type "tuple",data:=.seq #[key,u] }:=(hsb.2 _ pne).trans ht
    refine ⟨.ref s.heap.objs.size,upd H s.heap.objs.size (.tup [kV k,x]),I1.adopt n0 I.sz nL nC nP ⟨by show 2≤sizeLine; decide,[key,u],.cons (xns hkey) (.cons ru .nil),_,hp,rfl,_,rfl⟩,rfl,⟨_,k,x,hx,rfl,n0,rfl⟩,?_,fun b hb=>?_⟩
    · rw [← hl] at hit'
      exact ⟨_,_,hit'⟩
    · have e:b=it:=by simpa using hb
      subst e
      rw [xh (Ne.symm pne)]
      exact f0
  done:=by
    intro X hP hw hK hc i pins s σ H E I hf st hg
    subst hP hw hK
    obtain ⟨ok,ov,st⟩:=st
    obtain ⟨e,le⟩:=hg
    obtain ⟨vs,rel,da⟩:=xkc I e hep
    obtain ⟨f0,f1,f2,f3,f4,f5⟩:=hf it (by simp)
    have hl:kvs.length=vs.length:=rel.length
    rw [hl] at st
    exact wpAny_pyNext_items_end (I.ok.hd hc) st da (by simpa using (by omega:vs.length≤i)) fun h' eb=>⟨rfl,I.turned (t':=s.toks) (fun b o hb e=>eb b o hb e) f0 f1 f3 f4 f5⟩
  self:=fun _ _ _ _ _ ⟨ok,ov,st⟩ h=>PySem.W.kcp_self st h
def xot (X:Cx) (to:TE):TI:=fun σ H R=>to σ H fun x H1=>∃ d kvs,x=.ref d∧H1 d=some (.dK kvs)∧∀ ob,(∀ o' u',X.H₀ d≠some (.frz o' u'))→R (Iti d ob kvs) (upd H1 d (.frz ob (.dK kvs)))
section
variable {X:Cx} {o:Expr} {to:TE} {elts:List Expr} {x1:_} {tpos apos cpos:Pos}
theorem xlw (ho:PE X o to) (hbase:attributeBase o "items" X.env (eval o X.env)=eval o X.env:=by rfl) (hline:(apos.endLine == cpos.line)=true:=by rfl) :
    PI X (.Tuple elts x1 tpos) (.Call (.Attribute o "items" apos) [] [] cpos) (xot X to):=by
  intro pins s σ H R I h
  refine wpAny_Call_method0_late hbase hline (thn (ho pins s σ H _ I h) fun v s1 ⟨x,H1,I1,r1,q1⟩=>?_)
  obtain ⟨d,kvs,e1,e,q⟩:=q1
  subst e1
  cases r1
  obtain ⟨z,hd,vs,rel,dd⟩:=xgv I1.hok e
  obtain ⟨ob,es,ep,g,ex,hdat,hk,hp,hn⟩:=id dd
  refine ⟨"dict", "dict.items",PySem.F.plainAttrs_dict,PySem.F.slot_dict_items,PySem.F.type_dict_items,dd.typeIs,fun a e2=>?_,Calls.callWith_builtin rfl (PySem.evalArgs_none ?_)⟩
  · cases e2
    exact ⟨ob,g,ex.2.1⟩
  refine call_meetsIn PySem.F.slot_dict_items dd.typeIs PySem.F.entry_dict_items (PySem.F.args_dict_items_1 _) (meets_dict_items (xam X.prog X.w) d hd) ⟨⟨vs,dd⟩,?_⟩
  have da:(s1.heap.push { cls:=.type "dict_items",data:=.fields #[.ref d] }).DictAt (xam X.prog X.w) d vs ep:=⟨ob,es,Heap.get?_push_of_some _ g,ex,hdat,hk,hp,hn⟩
  refine wpAny_pyIter_items (s:={ s1 with heap:=s1.heap.push { cls:=.type "dict_items",data:=.fields #[.ref d] } }) ⟨_,Heap.get?_push_size _ rfl,rfl,rfl⟩ da ?_
  have I2:Inv X pins σ H1 { s1 with heap:=s1.heap.push { cls:=.type "dict_items",data:=.fields #[.ref d] } }:=I1.kept (t':=s1.toks) fun b o e=>Heap.get?_push_of_some _ e
  generalize hs2:({ s1 with heap:=s1.heap.push { cls:=.type "dict_items",data:=.fields #[.ref d] } }:Shared)=s2 at I2
  have g2:s2.heap.get? d=some ob:=by rw [← hs2]; exact Heap.get?_push_of_some _ g
  have I3:Inv X pins σ (upd H1 d (.frz ob (.dK kvs))) s2:=I2.write (t':=s2.toks) (x:=d) (e:=d) (by rw [e]; exact True.intro) (.inl rfl) (fun b u _ q=>q) ⟨ob,g2⟩ ⟨g2,I2.hok d _ e⟩
  have I4:Inv X pins σ (upd H1 d (.frz ob (.dK kvs))) { s2 with heap:=s2.heap.push { cls:=.type "dict_itemiterator",data:=.fields #[.none,.bool false,.ref d,.int 0 0,.int vs.length 0,.int ep 0,.none,.none] } } :=
    I3.kept (t':=s2.toks) fun b o e=>Heap.get?_push_of_some _ e
  have fin:PIE X pins σ (.Tuple elts x1 tpos) R (.ref s2.heap.objs.size) { s2 with heap:=s2.heap.push { cls:=.type "dict_itemiterator",data:=.fields #[.none,.bool false,.ref d,.int 0 0,.int vs.length 0,.int ep 0,.none,.none] } }:=by
    refine ⟨s2.heap.objs.size,[s2.heap.objs.size],_,_,upd H1 d (.frz ob (.dK kvs)),rfl,I4,xix d _ ob kvs ep ⟨es,hdat⟩,⟨.none,.none,?_⟩,fun b hb=>?_,q ob (I1.nofrz e)⟩
    · have hl:kvs.length=vs.length:=rel.length
      show IsItemIter _ _ d 0 kvs.length ep .none .none
      rw [hl]
      exact Heap.get?_push_size _ rfl
    · have eb:b=s2.heap.objs.size:=by simpa using hb
      subst eb
      exact I3.fpOk (Nat.le_refl _) (I3.hok.fresh (Nat.le_refl _))
  exact fin
theorem xlg {pins:List (Addr × Obj)} {σ:St} {Q:VK} {u:Value} {s:Shared} (h:EP X pins σ (fun v H2=>∃ d ob u,H2 d=some (.frz ob u)∧(∀ o' u',X.H₀ d≠some (.frz o' u'))∧Q v (upd H2 d u)) u s):EP X pins σ Q u s:=by
 obtain ⟨v,H2,I2,r2,d,ob,u',e,nf,q⟩:=h
 exact ⟨v,_,I2.thaw e nf,r2,q⟩
theorem xm8 {e:Expr} {t:TE} (h:PE X e t):PE X e (fun σ H Q=>t σ H fun v H2=>∃ d ob u,H2 d=some (.frz ob u)∧(∀ o' u',X.H₀ d≠some (.frz o' u'))∧Q v (upd H2 d u)):=fun pins s σ H Q I q =>
 thn (h pins s σ H _ I q) fun _ _ z=>xlg z
end
end L2
set_option maxRecDepth 100000
namespace PySem.F
theorem xl_plain_dict_loop:plainId "dict.update.loop"=true:=by decide +kernel
theorem xl_entry_dict_loop:entryFor table "dict.update.loop"=some Builtin.«dict.update.loop»:=entryFor_of_tree (by kernel_rfl)
theorem xl_list_nokeys:typeLookup (.type "list") "keys"=pure none:=by rw [typeLookup_type,builtinLookup_eq_fast]; kernel_rfl
end PySem.F
namespace L2
open PySem PySem.Spec PyProof.Rows XL
variable {q0:Bool}
theorem xj1 {prog:Program} {w:World} {A:Around} {E:Value→Shared→Prop} {s:Shared} {a:Addr} {o:Obj} {xs:Array Value} {k:Nat} {Q:Option Value→Shared→Prop}
    (hx:s.heap.get? a=some o) (hc:o.cls=.type "list") (hdat:o.data=.seq xs k) (hd:o.dict=none) (hA:A.handled=none)
    (h:∀ h' tk,(∀ b o,s.heap.get? b=some o→h'.get? b=some o)→Q none { s with heap:=h',toks:=tk }):wpAny (model prog w) A (getAttr? (.ref a) "keys") Q E s:=by
  obtain ⟨c,dct,dat,sl⟩:=o
  simp only at hc hdat hd
  subst hc hdat hd
  obtain ⟨hp,g,d,tk,os⟩:=s
  have hT:∀ tk',(⟨hp,g,d,tk',os⟩:Shared).TypeIs (.ref a) "list":=fun _=>⟨_,hx,rfl⟩
  have f1:=sub_AttributeError
  have f3:=F.slot_list_getattribute.lookup
  have f4:=F.slot_list_getattribute.bind (.ref a)
  have f5:=am_list_getattr_none
  unfold getAttr? getAttrBy? getAttrBy
  repeat (any_goals (first | assumption | exact hT _ | ((with_reducible show wpAny _ _ (call (Value.builtin "list.__getattribute__") _ _) _ _ _); refine call_meets F.slot_list_getattribute (hT _) am_entry_list_getattribute (F.args_list_getattribute_2 _ _) (meets_getattribute_miss_list a xs k sl "keys" _ F.xl_list_nokeys (by decide +kernel) (by size_fits)) ⟨hx,hA,fun h' tk' e hx'=>?_⟩) | wp_step))
  obtain ⟨t',u',he⟩:=hx'.there
  have hk:=hx'.of.keeps
  show wpAny _ _ (getattributeRaised _ _ _ _ _ _ _) _ _ _
  unfold getattributeRaised
  repeat (any_goals (first | assumption | wp_step))
  exact h _ _ hk
section
variable {X:Cx} {pins:List (Addr × Obj)} {σ:St} {H:Hp} {s:Shared} {a:Addr} {y v:V} {u r:Value} {A:Around} {E:Value→Shared→Prop}
theorem xjs {H':Hp} {Q:Unit→Shared→Prop} (hu:A.units < cLine) (I:Inv X pins σ H s) (g:DPut H a y v H') (ry:RelV y u) (rv:RelV v r) (h:∀ s',Inv X pins σ H' s'→Q () s') :
    wpAny (model X.prog X.w) A (dictSet a u r) Q E s:=by
  rcases g with ⟨kvs,k,e,ey,l,eH⟩ | ⟨kvs,k,b,e,ey,eb,l,eH⟩
  · subst ey eH
    obtain ⟨z,hd,vs,rel,dd⟩:=xgv I.hok e
    have hz:vs.length≤sizeLine:=by rw [← rel.length]; exact z
    have hl:(putK kvs k v).length≤sizeLine:=by have:=xbm kvs k v; omega
    refine wpAny_dictSet_pairs (hsz:=hz) (xco ry) dd fun h' dd' hs=>h _ ?_
    have he:∃ q,h'.get? a=some q:=let ⟨q,_,_,hq,_⟩:=dd'; ⟨q,hq⟩
    exact xcz I (by rw [e]; exact True.intro) hs he (xhb hl hd (rel.put k rv) dd')
  · subst ey eH
    cases (show u=Value.ref b from ry)
    obtain ⟨z,hd,xs,rel,dd⟩:=xgt I.hok e
    have hz:xs.length≤sizeLine:=by rw [← Paired.length rel]; exact z
    have hl:(putK kvs k v).length≤sizeLine:=by have:=xbm kvs k v; omega
    refine wpAny_dictSet_heap (hsz:=hz) (show (tupleKind (xam X.prog X.w)).room A from hu) (xct I.hok eb) dd fun h' dd' hs=>h _ ?_
    obtain ⟨q,es,ep,hq,h2,h3,h4,_,h5⟩:=dd'
    refine xcz I (by rw [e]; exact True.intro) hs ⟨q,hq⟩ ⟨hl,hd,_,(rel.put k eb rv).keeps fun c ys ec=>?_,q,es,ep,hq,h2,h3,h4,h5⟩
    rw [xh (xak ec e (fun z=>nomatch z))]
    exact ec
theorem DPut.stay {d b:Addr} {H':Hp} {o:HO} (g:DPut H d y v H') (e:H b=some o) (n1:∀ kvs,o≠.dK kvs) (n2:∀ kvs,o≠.dT kvs):H' b=some o:=by
 rcases g with ⟨kvs,k,e2,_,_,rfl⟩ | ⟨kvs,k,b2,e2,_,_,_,rfl⟩
 ·rw [xh (xak e e2 (n1 _))]
  exact e
 ·rw [xh (xak e e2 (n2 _))]
  exact e
theorem DPut.free {d b:Addr} {H':Hp} (g:DPut H d y v H') (e:H b=none):H' b=none:=by
 rcases g with ⟨kvs,k,e2,_,_,rfl⟩ | ⟨kvs,k,b2,e2,_,_,_,rfl⟩
 ·rw [xh (Ne.symm (xf e2 e))]
  exact e
 ·rw [xh (Ne.symm (xf e2 e))]
  exact e
end
inductive xer (d:Addr):Hp→List (V × V)→Hp→Prop
 | nil {H:Hp}:xer d H [] H
 | cons {H H1 H2:Hp} {y v:V} {r:List (V × V)}:DPut H d y v H1→xer d H1 r H2→xer d H ((y,v) :: r) H2
theorem xet {X:Cx} {pins:List (Addr × Obj)} {σ:St} {A:Around} {R:Result→Shared→Prop} (hh:A.in1.handled=none) (hu:A.in1.units < cLine) {l it d:Addr} :
    ∀ (ps:List (Addr × V × V)) (pre:List V) (j:Int) (H H2:Hp) (s:Shared),Inv X pins σ H s→H l=some (.lst (pre ++ ps.map fun p=>.ref p.1))→(∀ p ∈ ps,H p.1=some (.tup [p.2.1,p.2.2]))→xer d H (ps.map (·.2)) H2 →
      s.heap.IsListIter it l pre.length→FpOk X pins H it→(∀ s',Inv X pins σ H2 s'→R (.ok (.ret .none)) s') →
      codeAny (model X.prog X.w) A (.builtin "dict.update.loop" ⟨[.ref d,.ref it,rawInt j,.none],[]⟩) R s
  | [],pre,j,H,H2,s,I,hl,hp,dp,st,fo,fin=>by
    cases dp
    obtain ⟨z,its,n,r,hl2,e⟩:=I.lstM hl
    obtain ⟨f0,f1,f2,f3,f4,f5⟩:=fo
    refine codeAny_builtin F.xl_entry_dict_loop ?_
    rw [Around.under_plainId F.xl_plain_dict_loop _]
    show wpAny _ A.in1 (pyNext (.ref it) >>= _) _ _ s
    refine wpAny_bind (wpAny_pyNext_list_end hh st ⟨_,e,rfl,_,rfl⟩ (by simp at hl2 ⊢; omega) fun h' eb=>?_)
    show wpAny _ A.in1 (Builtin.Dict.addKeywords d [] >>= _) _ _ _
    exact wpAny_bind (wpAny_pure (wpAny_pure (fin _ (I.turned (t':=s.toks) (fun b o hb e=>eb b o hb e) f0 f1 f3 f4 f5))))
  | (a,y,v) :: ps,pre,j,H,H2,s,I,hl,hp,dp,st,fo,fin=>by
    have fo':=fo
    obtain ⟨f0,f1,f2,f3,f4,f5⟩:=fo
    cases dp with
    | @cons _ H1 _ _ _ _ g dp =>
    obtain ⟨z,its,n,r,hl2,e⟩:=I.lstM hl
    obtain ⟨u,hu1,ru⟩:=r.get (i:=pre.length) (x:=.ref a) (by simp)
    obtain rfl:u=Value.ref a:=ru
    refine codeAny_builtin F.xl_entry_dict_loop ?_
    rw [Around.under_plainId F.xl_plain_dict_loop _]
    show wpAny _ A.in1 (pyNext (.ref it) >>= _) _ _ s
    refine wpAny_bind (wpAny_pyNext_list_item st ⟨_,e,rfl,_,rfl⟩ (x:=.ref a) (by simpa using hu1) fun h' st' sb=>?_)
    have I1:Inv X pins σ H { s with heap:=h' }:=I.turned (t':=s.toks) (fun b o hb e=>(sb.2 b hb).trans e) f0 f1 f3 f4 f5
    obtain ⟨z2,ts,rt,ot,et,ct,nt,dt⟩:=I1.hok a _ (hp _ List.mem_cons_self)
    obtain ⟨uk,uv,rfl,rk,rv⟩:=xgu rt
    show wpAny _ A.in1 (holding [.ref a] _ >>= _) _ _ _
    refine wpAny_bind (wpAny_holding ?_)
    refine wpAny_bind (wpAny_tryCatch ?_)
    unfold Builtin.Dict.pairItems
    refine wpAny_bind (wpAny_typeOf (T:="tuple") ⟨ot,et,ct⟩ ?_)
    rw [if_pos (by decide)]
    refine wpAny_bind (wpAny_seqItems et dt (wpAny_pure ?_))
    show wpAny _ A.in1 (holding [uk,uv] (dictSet d uk uv)) _ _ _
    have ob:∀ b ∈ [it],∃ o,h'.get? b=some o∧∀ v,o.data≠.cell v:=fun b hb=>by
      have e:b=it:=by simpa using hb
      subst e
      obtain ⟨o,e,c,d⟩:=id st'
      exact ⟨o,e,fun v z=>by rw [d] at z; cases z⟩
    have I1':=I1.pinned (fp:=[it]) (fun b hb=>by
      have e:b=it:=by simpa using hb
      subst e
      exact fo') ob
    refine wpAny_holding (xjs hu I1' g rk rv fun s' I2=>?_)
    refine wpAny_pure ⟨plainId_quiet F.xl_plain_dict_loop _,?_⟩
    have fo2:FpOk X pins H1 it:=⟨g.free f0,f1,f2,f3,f4,f5⟩
    have st2:s'.heap.IsListIter it l (pre ++ [V.ref a]).length:=by
      rw [List.length_append]
      exact st'.at fun o e=>(I2.pin (it,o) (List.mem_append_right _ (List.mem_append_right _ (xck (by simp) e)))).1
    refine xet hh hu ps (pre ++ [V.ref a]) (j + 1) H1 H2 s' I2.unpinned ?_ (fun p hp'=>?_) dp st2 fo2 fin
    · have z:=g.stay hl (fun _ q=>nomatch q) (fun _ q=>nomatch q)
      rw [z]
      simp
    · exact g.stay (hp p (List.mem_cons_of_mem _ hp')) (fun _ q=>nomatch q) (fun _ q=>nomatch q)
def xmm:List V→Hp→VK→Prop:=fun xs H Q=>∃ (l:Addr) (ps:List (Addr × V × V)),xs=[.ref l]∧H l=some (.lst (ps.map fun p=>.ref p.1))∧(∀ p ∈ ps,H p.1=some (.tup [p.2.1,p.2.2])) ∧
 ∀ d,H d=none→∃ e H2,(e=.dK []∨e=.dT [])∧xer d (upd H d e) (ps.map (·.2)) H2∧Q (.ref d) H2
theorem xh4 {X:Cx} (hc:X.calm=true) (hu:X.A.units + 3 < cLine):xb9 X (.type "dict") xmm:=by
 intro pins s σ H xs us Q I r h
 obtain ⟨l,ps,rfl,hl,hp,q⟩:=h
 obtain ⟨u,rfl,rx⟩:=xcw r
 obtain rfl:u=Value.ref l:=rx
 refine callType_codes (Q₁:=fun obj s₁=>obj=.ref s.heap.objs.size∧s₁={ s with heap:=s.heap.push { cls:=.type "dict",data:=.dict #[] } }) F.kt_called_dict (F.kt_typeCall_dict_1 _) F.entry_dict_init (kt_code_dict_new _ ⟨rfl,rfl⟩) ?_
 rintro obj s₁ ⟨rfl,rfl⟩
 obtain ⟨e,H2,he,dps,q2⟩:=q s.heap.objs.size I.fresh
 have I1:Inv X pins σ (upd H s.heap.objs.size e) { s with heap:=s.heap.push { cls:=.type "dict",data:=.dict #[] } }:=by
  refine I.laid (t':=s.toks) (fun b u e=>Heap.get?_push_of_some _ e) (Nat.le_refl _) ?_
  rcases he with rfl | rfl
  ·exact xhi s.heap I.big
  ·exact xha s.heap I.big
 have hT:(Shared.mk (s.heap.push { cls:=.type "dict",data:=.dict #[] }) s.gens s.drawn s.toks s.os).TypeIs (.ref s.heap.objs.size) "dict":=⟨_,Heap.get?_push_size _ rfl,rfl⟩
 have nl:l≠s.heap.objs.size:=fun z=>by
  rw [z,I.fresh] at hl
  cases hl
 have hl1:upd H s.heap.objs.size e l=some (.lst (ps.map fun p=>.ref p.1)):=by rw [xh nl]; exact hl
 obtain ⟨z,its,n,rr,hll,el⟩:=I1.lstM hl1
 refine ⟨hT,F.args_dict_init_2 _ _,?_⟩
 unfold Builtin.«dict.__init__»
 refine wpAny_bind ?_
 unfold Builtin.Dict.selfAndRest
 refine wpAny_bind (wpAny_notOrdered_dict hT ?_)
 show wpAny _ _ (pure (s.heap.objs.size,[Value.ref l])) _ _ _
 refine wpAny_pure ?_
 show wpAny _ _ (Builtin.Dict.updateFrom "dict.__init__" s.heap.objs.size (.ref l) [] .none) _ _ _
 unfold Builtin.Dict.updateFrom
 refine wpAny_bind (wpAny_typeOf (T:="list") ⟨_,el,rfl⟩ ?_)
 rw [if_pos (by decide)]
 refine wpAny_bind (xj1 el rfl rfl rfl (I.ok.hd hc) fun h' tk hk=>?_)
 have I2:=I1.kept (h':=h') (t':=tk) hk
 show wpAny _ _ (rule _ >>= _) _ _ _
 refine wpAny_bind (wpAny_rule ?_)
 refine wpAny_bind (wpAny_pyIter_list ⟨_,hk _ _ el,rfl,_,rfl⟩ ?_)
 refine wpAny_pure ⟨plainId_quiet F.xl_plain_dict_loop _,?_⟩
 have I3:Inv X pins σ (upd H s.heap.objs.size e) _:=I2.kept (t':=tk) (h':=h'.push { cls:=.type "list_iterator",data:=.fields #[.ref l,.int 0 0] }) fun b o e=>Heap.get?_push_of_some _ e
 refine xet (A:=X.A.in1) (I.ok.hd hc) (by show X.A.units + 1 + 1 < cLine; omega) ps [] 0 _ H2 _ I3 (by simpa using hl1) (fun p hp'=>?_) dps ?_ ?_ fun s' I'=>?_
 ·rw [xh (xf (hp p hp') I.fresh)]
  exact hp p hp'
 ·exact ⟨_,Heap.get?_push_size _ rfl,rfl,rfl⟩
 ·exact I2.fpOk (Nat.le_refl _) (I2.hok.fresh (Nat.le_refl _))
 ·exact ⟨rfl,⟨.ref _,H2,I',rfl,q2⟩⟩
end L2
set_option maxRecDepth 100000
namespace L2
open PySem PySem.Spec PyProof.Rows XL
variable {q0:Bool}
section
variable {X:Cx} {tg:Expr}
end
theorem xeo {xs:List V} {us:List Value} (r:Vals xs us) {j:Nat} (h:j < us.toArray.size):∃ x,xs[j]?=some x∧RelV x us.toArray[j]:=by
 have hl:=r.length
 have hj:j < xs.length:=by simp at h; omega
 obtain ⟨u,h1,h2⟩:=r.get (x:=xs[j]) (List.getElem?_eq_getElem hj)
 refine ⟨xs[j],List.getElem?_eq_getElem hj,?_⟩
 have:us.toArray[j]=u:=by
  have z:=List.getElem?_eq_some_iff.mp h1
  obtain ⟨z1,z2⟩:=z
  simpa using z2
 rw [this]
 exact h2
section
variable {X:Cx} {pins:List (Addr × Obj)} {σ:St} {H:Hp} {s:Shared}
end
theorem xni {A:Around} {k:Nat} (hr:Room q0 k A):A.units + 3 < cLine:=by have:=hr.un; omega
theorem xa0 {A:Around} {k:Nat} (hr:Room q0 k A):A.units + 20 < cLine:=by have:=hr.un; omega
theorem xj4 {X:Cx}:xb9 X (.builtin "len") (fun xs H Q=>∃ a kvs,xs=[.ref a]∧H a=some (.dK kvs)∧Q (.int kvs.length) H):=by
 intro pins s σ H xs us Q I r h
 obtain ⟨a,kvs,rfl,e,q⟩:=h
 obtain ⟨u,rfl,rx⟩:=xcw r
 obtain rfl:u=Value.ref a:=rx
 exact xpn I (.inl e) fun t s' I'=>⟨.int _,H,I',⟨t,rfl⟩,q⟩
inductive Ents (w:World):List DictEntry→List (Key × V)→Prop
 | nil:Ents w [] []
 | cons {k:Key} {x:V} {key val:Value} {h:Int} {es:List DictEntry} {kvs:List (Key × V)} (hh:h=keyH w k) (hk:RelV (kV k) key) (hv:RelV x val) (r:Ents w es kvs):Ents w (⟨h,key,val⟩ :: es) ((k,x) :: kvs)
def xjb (w:World) (K:PySem.W.Frag) (D:Addr) (kvs:List (Key × V)):Prop:=(D == sysModules)=false∧∃ (es:Array DictEntry) (ep:Nat),K.lookup D=some ⟨.type "dict",none,.dict es ep,#[]⟩∧Ents w es.toList kvs∧(kvs.map (·.1)).Nodup
theorem Ents.ok {P:Program} {w:World} {es:List DictEntry} {kvs:List (Key × V)} (h:Ents w es kvs):∃ vs,KV kvs vs∧Pairs (xam P w) es vs∧∀ e ∈ es,∃ k,(xam P w).is k e.key=true∧e.hash=(xam P w).hash k:=by
 induction h with
 | nil=>exact ⟨[],.nil,.nil,fun e z=>nomatch z⟩
 | @cons k x key val h es kvs hh hk hv _ ih =>
  obtain ⟨vs,a,b,c⟩:=ih
  refine ⟨(k,val) :: vs,.cons ⟨rfl,hv⟩ a,.cons (xco hk) rfl b,fun e he=>?_⟩
  rcases List.mem_cons.mp he with rfl | z
  ·exact ⟨k,xco hk,hh⟩
  ·exact c e z
section
variable {X:Cx} {pins:List (Addr × Obj)} {σ:St} {H:Hp} {s:Shared} {D:Addr} {kvs:List (Key × V)}
theorem xlp (I:Inv X pins σ H s) (g:xjb X.w X.K D kvs):∃ vs,KV kvs vs∧s.heap.DictOf (xam X.prog X.w) D vs:=by
 obtain ⟨_,es,ep,l,en,nd⟩:=g
 obtain ⟨vs,a,b,c⟩:=en.ok (P:=X.prog)
 refine ⟨vs,a,_,es,ep,I.kIn _ _ l,⟨rfl,rfl,rfl⟩,rfl,fun e he=>c e (by simpa using he),b,?_⟩
 rw [← a.keys]
 exact nd
def tGIn (kvs:List (Key × V)) (neg:Bool) (ty:TE):TE:=fun σ H Q=>ty σ H fun y H1=>∃ k:Key,y=kV k∧Q (.bl (if neg then !(valV kvs k).isSome else (valV kvs k).isSome)) H1
theorem xku {i:Expr} {ty:TE} {x:Str} {p:Pos} (hi:PE X i ty) (hg:Gl X x) (hm:X.mg x=some (.ref D)) (g:xjb X.w X.K D kvs) (hd:(x == ("__debug__":Str))=false:=by decide):PC X .NotIn i (.Name x p) (tGIn kvs true ty):=by
 intro pins s σ H Q I h
 refine thn (hi pins s σ H _ I h) fun iv s1 ⟨y,H1,I1,ry,k,ey,q1⟩=>thn (xel (v:=.ref D) hg hm rfl hd pins s1 σ H1 (fun v H2=>v=.ref D∧H2=H1) I1 ⟨rfl,rfl⟩) fun u s2 ⟨x,H2,I2,rx,e1,e2⟩=>?_
 subst ey e1 e2
 obtain rfl:u=Value.ref D:=rx
 obtain ⟨vs,rel,dd⟩:=xlp I2 g
 refine wpAny_notIn_of (xco ry) g.1 dd.mapOf ?_
 rw [← (rel.val k).isSome_eq]
 exact ⟨.bl _,_,I2.tok _,rfl,q1⟩
end
end L2
set_option maxRecDepth 100000
namespace L2
open PySem PySem.Spec PyProof.Rows XL
variable {q0:Bool}
end L2
set_option maxRecDepth 100000
namespace L2
open PySem PySem.Spec PyProof.Rows XL
variable {q0:Bool}
section
variable {X:Cx} {pins:List (Addr × Obj)} {σ:St} {H:Hp} {s:Shared} {h':Heap}
theorem Inv.turnedL {t':Nat} {ch:List Addr} (I:Inv X pins σ H s) (k:∀ b o,b ∉ ch→s.heap.get? b=some o→h'.get? b=some o) (hf:∀ b ∈ ch,FpOk X pins H b):Inv X pins σ H { s with heap:=h',toks:=t' }:=by
 have nit:∀ b u,H b=some u→b ∉ ch:=fun b u e z=>by
  have:=(hf b z).1
  rw [this] at e
  cases e
 refine I.step (g':=s.gens) (d':=s.drawn) (ch:=ch) (fun b hb=>?_) (fun b o _ _ hc e _=>k b o hc e) (fun b o _ _ hc e _=>⟨o.slots,k b o hc e⟩) (fun _ _ _ _ n=>n)
  (fun b o hc e=>⟨o,k b o hc e⟩) (fun _ _ e=>e) (fun _ _ _ e=>e) (fun b ps e=>⟨#[],by rw [e]; simp⟩) (fun m hm=>?_) (fun b u e=>?_) I.bare
 ·obtain ⟨f0,f1,f2,f3,f4,f5⟩:=hf b hb
  exact ⟨f3,f1,f4,f5⟩
 ·obtain ⟨o,es,ep,ho,r⟩:=hm
  exact ⟨o,es,ep,k _ o (fun z=>(hf _ z).2.1 rfl) ho,r⟩
 ·refine (I.hok b u e).stay (fun c v hc q=>k c v ?_ q) (fun _ q=>q) fun _ _ q=>q
  rcases hc with z | z
  ·rw [z]; exact nit b u e
  ·exact nit c _ z
end
def Itv (K:PySem.W.Frag) (a:Addr) (n:Nat):It :=
 ⟨fun i H=>i < n∧∃ xs,SqL K H a xs∧xs.length=n,fun i H x H'=>H'=H∧∀ xs,SqL K H a xs→xs[n - 1 - i]?=some x,fun i _=>i=n⟩
theorem xk5 {P:Program} {w:World} {K:PySem.W.Frag} {tg:Expr} (a it:Addr) (n:Nat):Turn P w K tg (Itv K a n) [it] it (fun i h=>h.IsRevIter it a ((n:Int) - 1 - (i:Int))) where
 mem:=by simp
 obj:=fun i h st b hb=>by
  have e:b=it:=by simpa using hb
  subst e
  obtain ⟨o,e,c,d⟩:=st
  exact ⟨o,e,fun v z=>by rw [d] at z; cases z⟩
 keep:=fun i h h' st k=>st.at fun o e=>k it (by simp) o e
 item:=by
  intro X hP hw hK hc i pins s σ H E I hf st hg
  subst hP hw hK
  obtain ⟨lt,xs,hq,hn⟩:=hg
  obtain ⟨its,rv,p,hz⟩:=I.list hq
  have hx:xs[n - 1 - i]?=some (xs[n - 1 - i]'(by omega)):=List.getElem?_eq_getElem (by omega)
  generalize (xs[n - 1 - i]'(by omega))=x at hx
  obtain ⟨u,hu,ru⟩:=rv.get hx
  obtain ⟨f0,f1,f2,f3,f4,f5⟩:=hf it (by simp)
  have e:(n:Int) - 1 - (i:Int)=((n - 1 - i:Nat):Int):=by omega
  rw [e] at st
  refine wpAny_pyNext_rev_item st p.isList (x:=u) (by simpa using hu) fun h' st' sb=>?_
  have e2:((n - 1 - i:Nat):Int) - 1=(n:Int) - 1 - ((i + 1:Nat):Int):=by omega
  rw [e2] at st'
  have I1:Inv X pins σ H { s with heap:=h' }:=I.turned (t':=s.toks) (fun b o hb e=>(sb.2 b hb).trans e) f0 f1 f3 f4 f5
  obtain ⟨o,e,c,d⟩:=id st'
  exact ⟨u,rfl,xgq (s:={ s with heap:=h' }) e c d (by decide) ⟨x,H,I1,ru,⟨rfl,fun ys hy=>by rw [I.list_inj hy hq]; exact hx⟩,st',fun b hb=>(hf b hb).1⟩⟩
 done:=by
  intro X hP hw hK hc i pins s σ H E I hf st hg
  subst hP hw hK
  obtain rfl:i=n:=hg
  obtain ⟨f0,f1,f2,f3,f4,f5⟩:=hf it (by simp)
  have e:(i:Int) - 1 - (i:Int)=-1:=by omega
  rw [e] at st
  exact wpAny_pyNext_rev_end (I.ok.hd hc) st fun h' eb=>⟨rfl,I.turned (t':=s.toks) (fun b o hb e=>eb b o hb e) f0 f1 f3 f4 f5⟩
 self:=fun _ _ _ _ _ st h=>wpAny_pyIter_revIter st h
def iRev (K:PySem.W.Frag) (ta:TA):TI:=fun σ H R=>ta σ H fun vs H1=>∃ a xs,vs=[.ref a]∧SqL K H1 a xs∧R (Itv K a xs.length) H1
section
variable {X:Cx} {tg:Expr}
theorem xh2 {a:Expr} {ta:TA} {p pos:Pos} (hg:Gl X "reversed") (hm:X.mg "reversed"=none) (ha:PA X [a] ta) (hs:starEach [a] X.env=[(false,eval a X.env)]:=by rfl):PI X tg (.Call (.Name "reversed" p) [a] [] pos) (iRev X.K ta):=by
 intro pins s σ H R I h
 refine Call_ (xdo I hg hm PyProof.Rows.Boot.«reversed» (PyProof.Rows.callWith_type1 (thn (ha pos pins s σ H _ I h) fun us s1 ⟨vs,H1,I1,r1,q1⟩=>?_) hs rfl))
 obtain ⟨l,xs,e,hq,q⟩:=q1
 subst e
 obtain ⟨u,rfl,ru⟩:=xcw r1
 obtain rfl:u=Value.ref l:=ru
 obtain ⟨its,rv,p,hz⟩:=I1.list hq
 have hl:=rv.length
 refine call_reversed_list p.isList ?_
 have hit:Heap.IsRevIter (s1.heap.push (revObj l ((its.toArray.size:Int) - 1))) s1.heap.objs.size l ((its.toArray.size:Int) - 1):=⟨_,Heap.get?_push_size _ rfl,rfl,rfl⟩
 refine wpAny_pyIter_revIter (s:={ s1 with heap:=s1.heap.push (revObj l ((its.toArray.size:Int) - 1)) }) hit ?_
 refine ⟨s1.heap.objs.size,[s1.heap.objs.size],_,_,H1,rfl,I1.kept (t':=s1.toks) fun b o e=>Heap.get?_push_of_some _ e,xk5 l _ xs.length,?_,fun b hb=>?_,q⟩
 ·have e:(its.toArray.size:Int) - 1=(xs.length:Int) - 1 - ((0:Nat):Int):=by rw [List.size_toArray]; omega
  rw [e] at hit ⊢
  exact hit
 ·have e:b=s1.heap.objs.size:=by simpa using hb
  subst e
  exact I1.fpOk (Nat.le_refl _) (I1.hok.fresh (Nat.le_refl _))
end
theorem xmx {K:PySem.W.Frag} {a:Addr} {xs:List V} {g:TG} {tb:TS} {D:Ends} {σ:St} {H:Hp} (Pv:Nat→St→Hp→Prop) (h0:Pv 0 σ H) (hl:∀ i σ H,i≤xs.length→Pv i σ H→SqL K H a xs)
    (hs:∀ i x σ H,i < xs.length→xs[xs.length - 1 - i]?=some x→Pv i σ H→g x σ H fun σ2 H2=>tb { D with nx:=Pv (i + 1),ct:=Pv (i + 1),bk:=D.nx } σ2 H2) (hd:∀ σ H,Pv xs.length σ H→D.nx σ H) :
    ∃ W:Nat→Nat→St→Hp→Prop,(∃ m,W 0 m σ H)∧∀ i m σ H,W i m σ H →
      ((Itv K a xs.length).stop i H∧D.nx σ H)∨((Itv K a xs.length).go i H∧∃ N:St→Hp→Prop,(∀ σ' H',N σ' H'→∃ m',m' < m∧W (i + 1) m' σ' H')∧∀ x H',(Itv K a xs.length).yld i H x H'→g x σ H' fun σ2 H2=>tb { D with nx:=N,ct:=N,bk:=D.nx } σ2 H2):=by
  refine ⟨fun i m σ H=>m=xs.length - i∧i≤xs.length∧Pv i σ H,⟨xs.length,by simp,Nat.zero_le _,h0⟩,?_⟩
  rintro i m σ H ⟨rfl,hi,p⟩
  have q:=hl i σ H hi p
  by_cases hlt:i < xs.length
  · refine .inr ⟨⟨hlt,xs,q,rfl⟩,Pv (i + 1),fun σ' H' p'=>⟨xs.length - (i + 1),by omega,rfl,hlt,p'⟩,fun x H' y=>?_⟩
    obtain ⟨e,y⟩:=y
    subst e
    exact hs i x σ _ hlt (y xs q) p
  · have e:i=xs.length:=by omega
    subst e
    exact .inl ⟨rfl,hd σ H p⟩
theorem xnf {a b:Nat} (h:a≠b):(a:Addr)≠(b:Addr):=h
section
variable {X:Cx} {elts:List Expr} {x1:_} {tpos:Pos}
end
end L2
set_option maxRecDepth 100000
namespace L2
open PySem PySem.Spec PyProof.Rows XL
variable {q0:Bool}
def Ite (K:PySem.W.Frag) (a:Addr):It :=
 ⟨fun i H=>∃ xs x,SqL K H a xs∧xs[i]?=some x,fun i H v H'=>∃ p x,(∀ xs,SqL K H a xs→xs[i]?=some x)∧v=.ref p∧H p=none∧H'=upd H p (.tup [.int i,x]),fun i H=>∃ xs,SqL K H a xs∧xs.length≤i⟩
theorem xj9 {P:Program} {w:World} {K:PySem.W.Frag} {elts:List Expr} {x1} {tpos:Pos} (e it l:Addr) (hei:e≠it) :
    Turn P w K (.Tuple elts x1 tpos) (Ite K l) [e,it] e (fun i h=>(∃ old,IsEnum h e it i old)∧h.IsListIter it l i) where
  mem:=by simp
  obj:=fun i h st b hb=>by
    obtain ⟨⟨old,he⟩,⟨o1,e1,c1,d1⟩⟩:=st
    simp only [List.mem_cons,List.not_mem_nil,or_false] at hb
    rcases hb with rfl | rfl
    · exact ⟨_,he,fun v k=>by have k':Data.fields _=Data.cell v:=k; cases k'⟩
    · exact ⟨_,e1,fun v k=>by rw [d1] at k; cases k⟩
  keep:=fun i h h' ⟨⟨old,he⟩,h1⟩ k=>⟨⟨old,k e (by simp) _ he⟩,h1.at fun o z=>k it (by simp) o z⟩
  item:=by
    intro X hP hw hK hc i pins s σ H E I hf st hg
    subst hP hw hK
    obtain ⟨xs,x,hq,hx⟩:=hg
    obtain ⟨its,rv,p,hz1⟩:=I.list hq
    obtain ⟨u,hu,ru⟩:=rv.get hx
    obtain ⟨⟨old,he⟩,h1⟩:=id st
    refine wpAny_pyNext_enum_item he h1 p.isList (x:=u) (by simpa using hu) hei fun h' ho hit' hT hsz hk=>?_
    refine ⟨_,rfl,wpAny_letOwnedTupleGo_enum (s:={ s with heap:=h',toks:=s.toks + 1 }) ho fun h'' he' hs'=>?_⟩
    have elt:e < s.heap.objs.size:=Heap.lt_size he
    have pne:s.heap.objs.size≠e:=Nat.ne_of_gt elt
    have kk:∀ b o,b ∉ [e,it]→s.heap.get? b=some o→h''.get? b=some o:=fun b o hb g=>by
      simp only [List.mem_cons,List.not_mem_nil,or_false,not_or] at hb
      exact (hs'.2 b hb.1).trans (hk b o hb.1 hb.2 g)
    have I1:Inv X pins σ H { s with heap:=h'',toks:=s.toks + 1 }:=I.turnedL kk hf
    obtain ⟨n0,nL,nC,nP⟩:=I.size_lt (Nat.le_refl s.heap.objs.size)
    have hp:h''.get? s.heap.objs.size=some { cls:=.type "tuple",data:=.seq #[.int i s.toks,u] }:=(hs'.2 _ pne).trans hT
    refine ⟨.ref s.heap.objs.size,upd H s.heap.objs.size (.tup [.int i,x]),I1.adopt n0 I.sz nL nC nP ⟨by show 2≤sizeLine; decide,[.int i s.toks,u],.cons ⟨_,rfl⟩ (.cons ru .nil),_,hp,rfl,_,rfl⟩,rfl,
      ⟨_,x,fun zs hz=>by rw [I.list_inj hz hq]; exact hx,rfl,n0,rfl⟩,?_,fun b hb=>?_⟩
    · exact ⟨⟨_,by simpa using he'⟩,hit'.at fun o y=>(hs'.2 it (Ne.symm hei)).trans y⟩
    · obtain ⟨o,ho⟩:∃ o,s.heap.get? b=some o:=by
        obtain ⟨o1,e1,c1,d1⟩:=h1
        simp only [List.mem_cons,List.not_mem_nil,or_false] at hb
        rcases hb with rfl | rfl
        · exact ⟨_,he⟩
        · exact ⟨_,e1⟩
      rw [xh (Nat.ne_of_lt (Heap.lt_size ho))]
      exact (hf b hb).1
  done:=by
    intro X hP hw hK hc i pins s σ H E I hf st hg
    subst hP hw hK
    obtain ⟨xs,hq,hl⟩:=hg
    obtain ⟨its,rv,p,hz1⟩:=I.list hq
    have e1:=rv.length
    obtain ⟨⟨old,he⟩,h1⟩:=id st
    refine wpAny_pyNext_enum_end (I.ok.hd hc) he h1 p.isList (by simp; omega) fun h' hx=>⟨rfl,I.turnedL (t':=s.toks) (fun b o hb g=>?_) hf⟩
    simp only [List.mem_cons,List.not_mem_nil,or_false,not_or] at hb
    exact hx b o hb.2 g
  self:=fun _ _ _ _ _ ⟨⟨_,st⟩,_⟩ h=>wpAny_pyIter_enum st h
def xo6 (K:PySem.W.Frag) (ta:TA):TI:=fun σ H R=>ta σ H fun vs H1=>∃ a xs,vs=[.ref a]∧SqL K H1 a xs∧R (Ite K a) H1
section
variable {X:Cx} {elts:List Expr} {x1:_} {tpos:Pos}
theorem xdb {a:Expr} {ta:TA} {p pos:Pos} (hg:Gl X "enumerate") (hm:X.mg "enumerate"=none) (ha:PA X [a] ta) (hs:starEach [a] X.env=[(false,eval a X.env)]:=by rfl) :
    PI X (.Tuple elts x1 tpos) (.Call (.Name "enumerate" p) [a] [] pos) (xo6 X.K ta):=by
  intro pins s σ H R I h
  refine Call_ (xdo I hg hm PyProof.Rows.Boot.«enumerate» (PyProof.Rows.callWith_type1 (thn (ha pos pins s σ H _ I h) fun us s1 ⟨vs,H1,I1,r1,q1⟩=>?_) hs rfl))
  obtain ⟨l,xs,e,hq,q⟩:=q1
  subst e
  obtain ⟨u,rfl,ru⟩:=xcw r1
  obtain rfl:u=Value.ref l:=ru
  obtain ⟨its,rv,p1,hz1⟩:=I1.list hq
  refine call_enumerate_list p1.isList fun h' he h1 hsz hk=>?_
  refine wpAny_pyIter_enum (s:={ s1 with heap:=h' }) he ?_
  have I2:Inv X pins σ H1 { s1 with heap:=h' }:=I1.kept (t':=s1.toks) hk
  refine ⟨_,[s1.heap.objs.size + 1,s1.heap.objs.size],_,_,H1,rfl,I2,xj9 _ _ l (xnf (by omega)),⟨⟨_,he⟩,h1⟩,fun b hb=>?_,q⟩
  have hb':s1.heap.objs.size≤b:=by
    simp only [List.mem_cons,List.not_mem_nil,or_false] at hb
    rcases hb with rfl | rfl
    · exact Nat.le_add_right _ 1
    · exact Nat.le_refl _
  exact I1.fpOk hb' (I1.hok.fresh hb')
end
theorem xe6 {K:PySem.W.Frag} {a:Addr} {xs:List V} {g:TG} {tb:TS} {D:Ends} {σ:St} {H:Hp} (Pv:Nat→St→Hp→Prop) (h0:Pv 0 σ H) (hl:∀ i σ H,i≤xs.length→Pv i σ H→SqL K H a xs)
    (hs:∀ i x p σ H,xs[i]?=some x→H p=none→Pv i σ H→g (.ref p) σ (upd H p (.tup [.int i,x])) fun σ2 H2=>tb { D with nx:=Pv (i + 1),ct:=Pv (i + 1),bk:=D.nx } σ2 H2) (hd:∀ σ H,Pv xs.length σ H→D.nx σ H) :
    ∃ W:Nat→Nat→St→Hp→Prop,(∃ m,W 0 m σ H)∧∀ i m σ H,W i m σ H →
      ((Ite K a).stop i H∧D.nx σ H)∨((Ite K a).go i H∧∃ N:St→Hp→Prop,(∀ σ' H',N σ' H'→∃ m',m' < m∧W (i + 1) m' σ' H')∧∀ x H',(Ite K a).yld i H x H'→g x σ H' fun σ2 H2=>tb { D with nx:=N,ct:=N,bk:=D.nx } σ2 H2):=by
  refine ⟨fun i m σ H=>m=xs.length - i∧i≤xs.length∧Pv i σ H,⟨xs.length,by simp,Nat.zero_le _,h0⟩,?_⟩
  rintro i m σ H ⟨rfl,hi,p⟩
  have q:=hl i σ H hi p
  by_cases hlt:i < xs.length
  · refine .inr ⟨⟨xs,xs[i],q,by simp [hlt]⟩,Pv (i + 1),fun σ' H' p'=>⟨xs.length - (i + 1),by omega,rfl,hlt,p'⟩,fun x H' y=>?_⟩
    obtain ⟨r,x',e1,rfl,hr,rfl⟩:=y
    exact hs i x' r σ H (e1 _ q) hr p
  · have e:i=xs.length:=by omega
    subst e
    exact .inl ⟨⟨xs,q,Nat.le_refl _⟩,hd σ H p⟩
end L2
namespace L2
open PySem PySem.Spec PyProof.Rows XL
end L2
set_option maxRecDepth 100000
namespace L2
open PySem PySem.Spec PyProof.Rows XL
def tMid (t:TS):TS:=fun D σ H=>∃ Pv:St→Hp→Prop,t { D with nx:=Pv } σ H∧∀ σ' H',Pv σ' H'→D.nx σ' H'
theorem xbf {X:Cx} {st:Stmt} {t:TS} (h:PS X st t):PS X st (tMid t):=by
 intro pins s σ H D I q
 obtain ⟨Pv,q1,q2⟩:=q
 refine thn (h pins s σ H { D with nx:=Pv } I q1) fun fl s1 z=>?_
 cases fl with
 | next =>
  obtain ⟨σ',H',I',r⟩:=z
  exact ⟨σ',H',I',q2 _ _ r⟩
 | _=>exact z
end L2
set_option maxRecDepth 100000
namespace XL
open PySem PySem.W
section
variable {prog:Program} {w:World} {A:Around} {E:Value→Shared→Prop} {h:Heap} {g:Array GenState} {d:Drawn} {t:Nat} {os:OsState}
variable {nm qn:Str} {C N:Addr} {bs bm bmB:List Value} {hz:Bool} {sn:List Str} {sub:List Value} {ab:Bool} {col:Option Bool} {dd:Option Addr} {k0 k1 k2 k3 k5:Option Value} {B ni ii:String}
end
end XL
namespace L2
open PySem PySem.Spec PyProof.Rows XL
variable {q0:Bool}
section
variable {X:Cx} {C:Addr} {x:Str} {p pos:Pos}
end
section
variable {X:Cx} {pos np hpos np1 np2 hpos1 hpos2:Pos} {body hbody hbody1 hbody2:List Stmt} {b0 b1 b2:Stmt} {cx cx1 cx2 n:Str} {C0 C1 C2:Addr} {j:Nat} {E:St→XK} {tb th th1 th2:TS} {rest:List ExceptHandler}
end
end L2
set_option maxRecDepth 100000
namespace L2
open PySem PySem.Spec PyProof.Rows XL
section
variable {X:Cx} {a b c d:Expr} {ta tb tc td:TE} {pos:Pos}
end
end L2
set_option maxRecDepth 100000
set_option maxHeartbeats 4000000
namespace L2
open PySem PySem.Calls PyProof PyProof.Rows
def eU (e:V→Bool) (u:Value):Bool:=match absV u with | some y=>e y | none=>false
theorem xi5 {e:V→Bool} {y:V} {u:Value} (r:RelV y u):eU e u=e y:=by unfold eU; rw [r.abs]
theorem xhp {e:V→Bool}:∀ {xs:List V} {us:List Value},Vals xs us→us.any (eU e)=xs.any e
 | _,_,.nil=>rfl
 | y :: xs,u :: us,.cons r t=>by rw [List.any_cons,List.any_cons,xi5 r,xhp t]
theorem xf3:∀ {xs:List V} {us:List Value},Vals xs us→∀ u ∈ us,∃ y ∈ xs,RelV y u
 | _,_,.nil=>fun u hu=>nomatch hu
 | y :: xs,u :: us,.cons r t=>fun u' hu=>by
  rcases List.mem_cons.mp hu with rfl | hu
  ·exact ⟨y,List.mem_cons_self,r⟩
  ·obtain ⟨z,h1,h2⟩:=xf3 t u' hu
   exact ⟨z,List.mem_cons_of_mem _ h1,h2⟩
section
variable {X:Cx}
end
end L2
set_option maxRecDepth 100000
namespace PySem.F
end PySem.F
namespace L2
open PySem PySem.Spec PyProof.Rows XL
variable {q0:Bool}
end L2
set_option maxRecDepth 100000
namespace L2
open PySem PySem.Spec PyProof.Rows XL
variable {q0:Bool}
section
variable {z TI TO i1 i2 l1 l2:Addr} {P:Nat→Prop} {i:Nat} {h:Heap}
end
end L2
set_option maxRecDepth 100000
namespace L2
open PySem PySem.Spec PyProof.Rows XL
variable {q0:Bool}
end L2
set_option maxRecDepth 100000
namespace L2
open PySem PySem.Spec PyProof.Rows XL
variable {q0:Bool}
section
variable {X:Cx} {pos np1 np2 np3 hpos1 hpos2 hpos3:Pos} {body hbody1 hbody2 hbody3:List Stmt} {rest:List ExceptHandler} {b1 b2 b3:Stmt} {cx1 cx2 cx3 n:Str} {C1 C2 C3:Addr} {j:Nat} {E:St→XK} {tb th1 th2 th3:TS}
end
end L2
set_option maxRecDepth 100000
namespace L2
open PySem PySem.Spec PyProof.Rows XL PySem.W
variable {q0:Bool}
theorem xfz {prog:Program} {w:World} {A:Around} {E:Value→Shared→Prop} {s:Shared} {a:Addr} {vs:List Value} {n:Nat} {P:PySem.Fin→Shared→Prop}
    (h:s.heap.get? a=some (seqObj "list" vs.toArray n)) (h2:2≤vs.length) (h64:vs.length < 64)
    (hk:∀ s':Shared,s'.heap=(((s.heap.update a (Obj.mapSeq fun x=>#[])).push (seqObj "tuple" vs.toArray 0)).push (seqObj "list" #[] 0))→s'={ s with heap:=s'.heap } →
      wpAny (model prog w) A (keyKind' vs.toArray) (fun κ s''=>s''=s'∧KasT.kasWp (kas_ask prog w A κ vs) (kas_sort vs.length) (fun p s3=>s3=s'∧P (.done (.ret .none)) { s with heap:=sortedHeap s.heap a vs (p.map fun i=>vs.getD i .none) }) s'') (fun _ _=>False) s') :
    wpAny (model prog w) A (Builtin.«list.sort» { pos:=[.ref a] }) P E s:=by
  obtain ⟨hp,g,d,tk,os⟩:=s
  rw [list_sort_plain]
  repeat (any_goals (first | assumption | wp_step))
  have z:¬ vs.toArray.toList.toArray.size > sizeLine:=by
    simp
    exact Nat.le_of_lt (Nat.lt_trans h64 (by decide))
  rw [if_neg z]
  generalize keyKind' vs.toArray=kk at hk ⊢
  repeat (any_goals (first | assumption | wp_step))
  have hk':=hk { heap:=((hp.update a (Obj.mapSeq fun x=>#[])).push (seqObj "tuple" vs.toArray 0)).push (seqObj "list" #[] 0),gens:=g,drawn:=d,toks:=tk,os:=os } rfl rfl
  refine wpAny_mono hk' (fun κ s'' z=>?_) (fun _ _ z=>z.elim)
  obtain ⟨e,q⟩:=z
  subst e
  show wpAny _ _ (StateT.run (if vs.toArray.size < 2 then pure () else sortRuns') _ >>= _) _ _ _
  rw [if_neg (by simp; omega)]
  refine wpAny_bind (wpAny_mono (kat_run (E:=E) (Q:=fun st' s'=>∃ p:Array Nat,p.size=vs.length∧arrOf st'=Array.map (kas_item (vs.toArray.zip vs.toArray)) p∧failedOf st'=none∧s'=_∧P (.done (.ret .none)) { heap:=sortedHeap hp a vs (p.map fun i=>vs.getD i .none),gens:=g,drawn:=d,toks:=tk,os:=os }) rfl h2 h64 (fun p st' s' hp' e f q'=>⟨p,hp',e,f,q'.1,q'.2⟩) q) (fun r s' z=>?_) fun _ _ z=>z)
  obtain ⟨u,st⟩:=r
  obtain ⟨p,psz,e,f,rfl,q'⟩:=z
  have al:a < hp.objs.size:=Heap.lt_size h
  have g1:(((hp.update a (Obj.mapSeq fun x=>#[])).push (seqObj "tuple" vs.toArray 0)).push (seqObj "list" #[] 0)).get? a=some (seqObj "list" #[] (n + 1)):=by
    refine Heap.get?_push_of_some _ (Heap.get?_push_of_some _ ?_)
    rw [Heap.get?_update_self _ h rfl]
    have z:((0:Nat) == vs.length)=false:=by
      cases vs with
      | nil=>simp at h2
      | cons=>rfl
    simp [Obj.mapSeq,z]
  have e2:(if (((fun x=>#[]) vs.toArray:Array Value).size == vs.toArray.size)=true then n else n + 1)=n + 1:=by
    rw [if_neg]
    simp
    omega
  simp only [e2,f]
  have e3:Array.map (fun x=>x.snd) (arrOf st)=p.map fun i=>vs.getD i .none:=by
    rw [e,Array.map_map]
    congr 1
    funext i
    show (kas_item (vs.toArray.zip vs.toArray) i).snd=_
    unfold kas_item
    by_cases c:i < vs.length
    · simp [List.getElem?_eq_getElem c,c]
    · simp [List.getElem?_eq_none (by omega:vs.length≤i),c]
  simp only [e3]
  repeat (any_goals (first | assumption | wp_step))
  have e4:(Obj.mapSeq (fun x=>Array.map (fun i=>vs.getD i Value.none) p) (seqObj "list" #[] (n + 1))).data.pastItsLine=none:=by
    show (if (Array.map (fun i=>vs.getD i Value.none) p).size > sizeLine + 1 then _ else none)=none
    rw [if_neg]
    rw [Array.size_map,psz]
    have:vs.length < sizeLine:=Nat.lt_trans h64 (by decide)
    omega
  rw [e4]
  refine wpAny_pure ?_
  rw [f]
  show wpAny _ _ (if (n + 1 != n + 1)=true then _ else _) _ _ _
  rw [if_neg (by simp)]
  exact wpAny_pure q'
theorem xg9 {prog:Program} {w:World} {A:Around} {E:Value→Shared→Prop} {s:Shared} {it d:Addr} {i ep:Nat} {o:Obj} {es:Array DictEntry} {en:DictEntry} {Q:Option Value→Shared→Prop}
    (st:s.heap.IsKeyIter it d i es.size ep) (hd:s.heap.get? d=some o) (hx:o.ExactDict) (hdat:o.data=.dict es ep) (hi:es[i]?=some en)
    (h:∀ h',h'.IsKeyIter it d (i + 1) es.size ep→Heap.SameBut it s.heap h'→Q (some en.key) { s with heap:=h' }):wpAny (model prog w) A (pyNext (.ref it)) Q E s:=by
  unfold pyNext
  refine wpAny_bind (wpAny_attempt (wpAny_callSpecial?_slot st.typeIs F.slot_dict_keyiterator_next ?_))
  refine wpAny_call_entry F.slot_dict_keyiterator_next st.typeIs F.entry_dict_keyiterator_next ?_ (F.args_dict_keyiterator_next_1 _)
  have ti:=st.typeIs
  obtain ⟨hp,g,dr,tk,os⟩:=s
  obtain ⟨⟨c,dct,dat,sl⟩,hit,ci,di⟩:=st
  simp only at ci di
  subst ci di
  unfold Builtin.«dict_keyiterator.__next__»
  repeat (any_goals (first | assumption | (with_reducible refine wpAny_typeNameOfWhole_keyiter ti ?_) | (with_reducible refine wpAny_isOneOf_keyiter ti ?_) | (with_reducible refine wpAny_dictEntries hd hdat ?_) | (with_reducible refine wpAny_dictEpoch hd hdat ?_) | wp_step))
  have e1:(if (i:Int) < 0 then none else es[(i:Int).toNat]?)=some en:=by
    rw [if_neg (by omega),Int.toNat_natCast]
    exact hi
  rw [e1]
  repeat (any_goals (first | assumption | (with_reducible refine wpAny_typeNameOfWhole_keyiter ti ?_) | (with_reducible refine wpAny_isOneOf_keyiter ti ?_) | (with_reducible refine wpAny_dictEntries hd hdat ?_) | (with_reducible refine wpAny_dictEpoch hd hdat ?_) | wp_step))
  refine ⟨_,rfl,wpAny_pure (h _ ?_ (Heap.SameBut.update _ _ _))⟩
  refine ⟨_,Heap.get?_update_self _ hit rfl,rfl,?_⟩
  rfl
theorem xh1 {prog:Program} {w:World} {A:Around} {E:Value→Shared→Prop} {s:Shared} {it d:Addr} {ep:Nat} {o:Obj} {es:Array DictEntry} {Q:Option Value→Shared→Prop}
    (hA:A.handled=none) (st:s.heap.IsKeyIter it d es.size es.size ep) (hd:s.heap.get? d=some o) (hx:o.ExactDict) (hdat:o.data=.dict es ep)
    (h:∀ h',Heap.ExtBut it s.heap h'→Q none { s with heap:=h' }):wpAny (model prog w) A (pyNext (.ref it)) Q E s:=by
  unfold pyNext
  refine wpAny_bind (wpAny_attempt (wpAny_callSpecial?_slot st.typeIs F.slot_dict_keyiterator_next ?_))
  refine wpAny_call_entry F.slot_dict_keyiterator_next st.typeIs F.entry_dict_keyiterator_next ?_ (F.args_dict_keyiterator_next_1 _)
  have ti:=st.typeIs
  obtain ⟨hp,g,dr,tk,os⟩:=s
  obtain ⟨⟨c,dct,dat,sl⟩,hit,ci,di⟩:=st
  simp only at ci di
  subst ci di
  unfold Builtin.«dict_keyiterator.__next__»
  repeat (any_goals (first | assumption | (with_reducible refine wpAny_typeNameOfWhole_keyiter ti ?_) | (with_reducible refine wpAny_isOneOf_keyiter ti ?_) | (with_reducible refine wpAny_dictEntries hd hdat ?_) | (with_reducible refine wpAny_dictEpoch hd hdat ?_) | wp_step))
  have e1:(if (es.size:Int) < 0 then none else es[(es.size:Int).toNat]?)=none:=by
    rw [if_neg (by omega),Int.toNat_natCast]
    simp
  rw [e1]
  repeat (any_goals (first | assumption | (with_reducible refine wpAny_typeNameOfWhole_keyiter ti ?_) | (with_reducible refine wpAny_isOneOf_keyiter ti ?_) | (with_reducible refine wpAny_dictEntries hd hdat ?_) | (with_reducible refine wpAny_dictEpoch hd hdat ?_) | wp_step))
  refine wpAny_raiseNew_none hA ?_
  refine wpAny_bind (wpAny_isInstance ⟨_,Heap.get?_push_size _ rfl,rfl⟩ isSubtype_stop (wpAny_pure (h _ fun b o nb e=>?_)))
  refine Heap.get?_push_of_some _ (Heap.get?_push_of_some _ ?_)
  rw [Heap.get?_update_other _ _ (Ne.symm nb)]
  exact e
theorem xk2 {prog:Program} {w:World} {A:Around} {E:Value→Shared→Prop} {s:Shared} {d:Addr} {ep:Nat} {o:Obj} {es:Array DictEntry} {Q:Value→Shared→Prop}
    (hs:(d == sysModules)=false) (hd:s.heap.get? d=some o) (hx:o.ExactDict) (hdat:o.data=.dict es ep)
    (h:Q (.ref s.heap.objs.size) { s with heap:=s.heap.push { cls:=.type "dict_keyiterator",data:=.fields #[.ref d,.int 0 0,.int es.size 0,.int ep 0] } }):wpAny (model prog w) A (pyIter (.ref d)) Q E s:=by
  have ti:s.TypeIs (.ref d) "dict":=⟨o,hd,hx.1⟩
  obtain ⟨c,dct,dat,sl⟩:=o
  obtain ⟨x1,x2,x3⟩:=hx
  simp only at x1 x2 x3 hdat
  subst x1 x2 x3 hdat
  refine wpAny_pyIter_slot ti F.slot_dict_iter ?_
  refine wpAny_call_entry F.slot_dict_iter ti F.entry_dict_iter ?_ (F.args_dict_iter_1 _)
  obtain ⟨hp,g,dr,tk,os⟩:=s
  unfold Builtin.«dict.__iter__»
  repeat (any_goals (first | assumption | (with_reducible refine wpAny_notOrdered_dict ti ?_) | (with_reducible refine wpAny_dictEntries hd rfl ?_) | (with_reducible refine wpAny_dictEpoch hd rfl ?_) | wp_step))
  exact ⟨_,rfl,_,_,⟨_,Heap.get?_push_size _ rfl,rfl⟩,F.slot_dict_keyiterator_next.lookup,h⟩
theorem xmr {prog:Program} {w:World} {d:Addr} {ep:Nat} {o:Obj} {es:Array DictEntry} (hs:(d == sysModules)=false) (hx:o.ExactDict) (hdat:o.data=.dict es ep) :
    KdlSrc prog w "dict" d d es.size (fun i v=>∃ en,es[i]?=some en∧v=en.key) (fun h=>h.get? d=some o) where
  type:=fun s h=>⟨o,h,hx.1⟩
  there:=fun h e=>⟨Heap.lt_size e,Heap.lt_size e⟩
  keep:=fun h h' e k=>k d (.inl rfl) o e
  notList:=by decide
  notTuple:=by decide
  hint:=fun A E s Q h q=>kdl_hint_dict ⟨o,h,hx.1⟩ q
  iter:=fun A s hA h=>by
    have dl:=Heap.lt_size h
    refine ⟨{ cls:=.type "dict_keyiterator",data:=.fields #[.ref d,.int 0 0,.int es.size 0,.int ep 0] },fun i h=>h.IsKeyIter s.heap.objs.size d i es.size ep∧h.get? d=some o,fun E Q q=>xk2 hs h hx hdat q,?_,⟨_,Heap.get?_push_size _ rfl,rfl,rfl⟩,Heap.get?_push_of_some _ h⟩
    have dn:d≠s.heap.objs.size:=Nat.ne_of_lt dl
    exact {
      sub:=fun b hb=>by
        have e:b=s.heap.objs.size:=by simpa using hb
        rw [e]
        simp
      frame:=fun i h h' st k=>⟨st.1.at fun o e=>k _ (by simp) o e,k _ (by simp) _ st.2⟩
      item:=fun i s' Q E hi st q=>by
        refine xg9 st.1 st.2 hx hdat (Array.getElem?_eq_getElem hi) fun h' st' sb=>q _ h' s'.toks ⟨_,Array.getElem?_eq_getElem hi,rfl⟩ ⟨st',(sb.2 d dn).trans st.2⟩ fun b o hb e=>?_
        exact (sb.2 b (by simpa using hb)).trans e
      done:=fun s' Q E st q=>by
        refine xh1 hA st.1 st.2 hx hdat fun h' eb=>q h' s'.toks fun b o hb e=>?_
        exact eb b o (by simpa using hb) e
      self:=fun i s' Q E st q=>wpAny_pyIter_keyiter st.1 q }
end L2
set_option maxRecDepth 100000
namespace L2
open PySem PySem.Spec PyProof.Rows XL PySem.W
variable {q0:Bool}
def xcm:Key→Key→Bool
 | .inl a,.inl b=>decide (a < b)
 | .inr a,.inr b=>decide (a.cps.toList < b.cps.toList)
 | _,_=>false
def lexK:List Key→List Key→Bool
 | [],[]=>false
 | [],_ :: _=>true
 | _ :: _,[]=>false
 | x :: xs,y :: ys=>if x=y then lexK xs ys else xcm x y
abbrev shp (k:List Key):List Bool:=k.map Sum.isLeft
theorem xmq {a b:Str} (h:a.cps.toList=b.cps.toList):a=b:=by
 cases a
 cases b
 simp at h
 rw [h]
theorem xjl (x:Key):xcm x x=false:=by
 cases x with
 | inl a=>simp [xcm]
 | inr a=>exact PyProof.Rows.strKind.irrefl a.cps.toList
theorem xlx {x y z:Key} (h1:xcm x y=true) (h2:xcm y z=true):xcm x z=true:=by
 cases x <;> cases y <;> cases z <;> simp only [xcm,Bool.false_eq_true] at h1 h2
 ·have a:=of_decide_eq_true h1
  have b:=of_decide_eq_true h2
  exact decide_eq_true (Int.lt_trans a b)
 ·exact PyProof.Rows.strKind.trans _ _ _ h1 h2
theorem xkp {x y:Key} (hs:x.isLeft=y.isLeft) (ne:x≠y) (h:xcm x y=false):xcm y x=true:=by
 cases x with
 | inl a =>
  cases y with
  | inl b =>
   have h':¬ a < b:=of_decide_eq_false h
   have n':a≠b:=fun e=>ne (by rw [e])
   exact decide_eq_true (show b < a by omega)
  | inr b=>cases hs
 | inr a =>
  cases y with
  | inl b=>cases hs
  | inr b =>
   cases e:xcm (.inr b) (.inr a) with
   | true=>rfl
   | false=>exact absurd (by rw [xmq (PyProof.Rows.strKind.total _ _ h e)]) ne
theorem xhw:∀ x:List Key,lexK x x=false
 | []=>rfl
 | x :: xs=>by
  unfold lexK
  rw [if_pos rfl]
  exact xhw xs
theorem xin:∀ {x y z:List Key},shp x=shp y→shp y=shp z→lexK x y=true→lexK y z=true→lexK x z=true
 | [],[],_,_,_,h,_=>by cases h
 | [],_ :: _,_,h,_,_,_=>by cases h
 | _ :: _,[],_,h,_,_,_=>by cases h
 | _ :: _,_ :: _,[],_,h,_,_=>by cases h
 | x :: xs,y :: ys,z :: zs,h1,h2,h3,h4=>by
  simp only [shp,List.map_cons,List.cons.injEq] at h1 h2
  unfold lexK at h3 h4 ⊢
  by_cases xy:x=y
  ·subst xy
   rw [if_pos rfl] at h3
   by_cases yz:x=z
   ·rw [if_pos yz] at h4 ⊢
    exact xin h1.2 h2.2 h3 h4
   ·rw [if_neg yz] at h4 ⊢
    exact h4
  ·rw [if_neg xy] at h3
   by_cases yz:y=z
   ·subst yz
    rw [if_neg xy]
    exact h3
   ·rw [if_neg yz] at h4
    have h5:=xlx h3 h4
    rw [if_neg (fun e=>by rw [e,xjl] at h5; cases h5)]
    exact h5
theorem xho:∀ {x y:List Key},shp x=shp y→x≠y→lexK x y=false→lexK y x=true
 | [],[],_,h,_=>absurd rfl h
 | [],_ :: _,h,_,_=>by cases h
 | _ :: _,[],h,_,_=>by cases h
 | x :: xs,y :: ys,h1,h2,h3=>by
  simp only [shp,List.map_cons,List.cons.injEq] at h1
  unfold lexK at h3 ⊢
  by_cases xy:x=y
  ·subst xy
   rw [if_pos rfl] at h3 ⊢
   exact xho h1.2 (fun e=>h2 (by rw [e])) h3
  ·rw [if_neg xy] at h3
   rw [if_neg (fun e=>xy e.symm)]
   exact xkp h1.1 xy h3
theorem xhf {prog:Program} {w:World} {A:Around} {s:Shared} {b:Bool} {Q:Bool→Shared→Prop}:∀ (xs ys:List Key) (us vs:List Value) (i:Nat),shp xs=shp ys→Vals (xs.map kV) us→Vals (ys.map kV) vs→Q (lexK xs ys) s→KatLex prog w A b false Q (us.zip vs) i s
 | [],[],_,_,i,_,.nil,.nil,q=>kat_nil q
 | [],_ :: _,_,_,_,h,_,_,_=>by cases h
 | _ :: _,[],_,_,_,h,_,_,_=>by cases h
 | x :: xs,y :: ys,_,_,i,h,.cons ru r,.cons rv r',q=>by
  simp only [shp,List.map_cons,List.cons.injEq] at h
  unfold lexK at q
  cases x with
  | inl a =>
   cases y with
   | inr c=>cases h.1
   | inl c =>
    obtain ⟨t,rfl⟩:=ru
    obtain ⟨t',rfl⟩:=rv
    refine kat_cons (wpAny_eqBool_int ?_)
    unfold KatGo
    by_cases e:a=c
    ·subst e
     rw [if_pos rfl] at q
     rw [if_pos (by simp)]
     exact xhf xs ys _ _ (i + 1) h.2 r r' q
    ·rw [if_neg (fun z=>e (Sum.inl.inj z))] at q
     rw [if_neg (by simpa using e)]
     cases (b && i == 0) with
     | true=>exact oneLt_int q
     | false=>exact kat_one _ _ (lt_int q)
  | inr a =>
   cases y with
   | inl c=>cases h.1
   | inr c =>
    obtain ⟨t,rfl⟩:=ru
    obtain ⟨t',rfl⟩:=rv
    refine kat_cons (wpAny_eqBool_str ?_)
    unfold KatGo
    by_cases e:a=c
    ·subst e
     rw [if_pos rfl] at q
     rw [if_pos (by simp)]
     exact xhf xs ys _ _ (i + 1) h.2 r r' q
    ·rw [if_neg (fun z=>e (Sum.inr.inj z))] at q
     rw [if_neg (by simpa using e)]
     cases (b && i == 0) with
     | true=>exact oneLt_str q
     | false=>exact kat_one _ _ (lt_str q)
theorem xgp {prog:Program} {w:World} {A:Around} {E:Value→Shared→Prop} {s:Shared} {a:Addr} {vs:List Value} {n:Nat} {P:PySem.Fin→Shared→Prop}
    (h:s.heap.get? a=some (seqObj "list" vs.toArray n)) (h2:vs.length < 2) (q':P (.done (.ret .none)) { s with heap:=sortedHeap s.heap a vs vs.toArray }) :
    wpAny (model prog w) A (Builtin.«list.sort» { pos:=[.ref a] }) P E s:=by
  obtain ⟨hp,g,d,tk,os⟩:=s
  rcases vs with _ | ⟨v,_ | ⟨v',r⟩⟩
  · rw [list_sort_plain]
    repeat (any_goals (first | assumption | wp_step))
    show wpAny _ _ (pure (PUnit.unit,SortSt.mk' general' ((#[]:Array Value).zip #[]) #[] 7 none)) _ _ _
    refine wpAny_pure ?_
    have e3:Array.map (fun x=>x.snd) (arrOf (SortSt.mk' general' ((#[]:Array Value).zip #[]) #[] 7 none))=#[]:=by
      show Array.map (fun x=>x.snd) ((#[]:Array Value).zip #[])=#[]
      simp
    simp only [e3]
    have g1:(((hp.update a (Obj.mapSeq fun x=>#[])).push (seqObj "tuple" #[] 0)).push (seqObj "list" #[] 0)).get? a=some (seqObj "list" #[] (n)):=by
      refine Heap.get?_push_of_some _ (Heap.get?_push_of_some _ ?_)
      rw [Heap.get?_update_self _ h rfl]
      rfl
    show wpAny _ _ (seqEpoch a >>= _) _ _ _
    repeat (any_goals (first | assumption | wp_step))
  · rw [list_sort_plain]
    repeat (any_goals (first | assumption | wp_step))
    show wpAny _ _ (pure (PUnit.unit,SortSt.mk' general' ((#[v]:Array Value).zip #[v]) #[] 7 none)) _ _ _
    refine wpAny_pure ?_
    have e3:Array.map (fun x=>x.snd) (arrOf (SortSt.mk' general' ((#[v]:Array Value).zip #[v]) #[] 7 none))=#[v]:=by
      show Array.map (fun x=>x.snd) ((#[v]:Array Value).zip #[v])=#[v]
      simp
    simp only [e3]
    have g1:(((hp.update a (Obj.mapSeq fun x=>#[])).push (seqObj "tuple" #[v] 0)).push (seqObj "list" #[] 0)).get? a=some (seqObj "list" #[] (n + 1)):=by
      refine Heap.get?_push_of_some _ (Heap.get?_push_of_some _ ?_)
      rw [Heap.get?_update_self _ h rfl]
      rfl
    show wpAny _ _ (seqEpoch a >>= _) _ _ _
    repeat (any_goals (first | assumption | wp_step))
  · simp at h2
    omega
theorem xd2 {α:Type} (f:α→Addr):∀ (es:List α),Vals (es.map fun x=>V.ref (f x)) (es.map fun x=>Value.ref (f x))
 | []=>.nil
 | x :: r=>.cons rfl (xd2 f r)
theorem xkl {H:Hp} {kvs:List (List Key × V)} {es:List (List Key × Addr × Value)} (h:KT H kvs es):(∀ x ∈ es,H x.2.1=some (.tup (x.1.map kV)))∧es.map (·.1)=kvs.map (·.1):=by
 induction h with
 | nil=>exact ⟨(fun _ z=>nomatch z),rfl⟩
 | @cons p x kvs es hp r ih =>
  obtain ⟨e1,e2,_⟩:=hp
  refine ⟨fun y hy=>?_,by rw [List.map_cons,List.map_cons,ih.2,e1]⟩
  rcases List.mem_cons.mp hy with rfl | z
  ·rw [← e1]
   exact e2
  ·exact ih.1 y z
theorem xkn {P:Program} {w:World} {H:Hp} {h:Heap} (ok:HOk P w H h) {b:Bool} {sh:List Bool}:∀ (es:List (List Key × Addr × Value)),(∀ x ∈ es,H x.2.1=some (.tup (x.1.map kV)))→(∀ x ∈ es,shp x.1=b :: sh) →
    ∃ fs,KatTups h (es.map fun x=>Value.ref x.2.1) fs∧fs.length=es.length∧∀ v ∈ fs,if b=true then ∃ i t,v=Value.int i t else ∃ i t,v=Value.str i t
  | [],_,_=>⟨[],KatTups.nil,rfl,fun _ z=>nomatch z⟩
  | x :: es,h1,h2=>by
    obtain ⟨fs,k,l,m⟩:=xkn ok es (fun y hy=>h1 y (List.mem_cons_of_mem _ hy)) (fun y hy=>h2 y (List.mem_cons_of_mem _ hy))
    obtain ⟨z2,ts,rt,ot,et,ct,nt,dt⟩:=ok x.2.1 _ (h1 x List.mem_cons_self)
    have s1:=h2 x List.mem_cons_self
    obtain ⟨k1,a1,v1⟩:=x
    cases k1 with
    | nil=>cases s1
    | cons k0 kr =>
      simp only [shp,List.map_cons,List.cons.injEq] at s1
      simp only [List.map_cons] at rt
      cases rt with
      | @cons _ u _ us ru rr =>
        refine ⟨u :: fs,KatTups.cons et ct dt (by simp) k,by simp [l],fun v hv=>?_⟩
        rcases List.mem_cons.mp hv with rfl | hv'
        · cases k0 with
          | inl i =>
            obtain ⟨t,rfl⟩:=ru
            rw [if_pos (show b=true from s1.1.symm)]
            exact ⟨i,t,rfl⟩
          | inr i =>
            obtain ⟨t,rfl⟩:=ru
            rw [if_neg (show ¬ b=true by rw [← s1.1]; simp)]
            exact ⟨i,t,rfl⟩
        · exact m v hv'
theorem xki {X:Cx} {pins:List (Addr × Obj)} {σ:St} {H:Hp} {s:Shared} {h1:Heap} {tk:Nat} {Q:VK} {sh:List Bool} (es':List (List Key × Addr × Value)) (I1:Inv X pins σ H { s with heap:=h1,toks:=tk })
    (hl:es'.length < 64) (km:∀ x ∈ es',H x.2.1=some (.tup (x.1.map kV))) (shE:∀ x ∈ es',shp x.1=sh) (hpos:0 < sh.length) (hnd:(List.map (fun x=>x.fst) es').Nodup)
    (q:∀ (l:Addr) (ts:List (List Key × Addr)),H l=none→ts.Perm (es'.map fun x=>(x.1,x.2.1))→(ts.map (·.1)).Pairwise (fun x y=>lexK x y=true)→Q (.ref l) (upd H l (.lst (ts.map fun t=>.ref t.2)))) :
    wpAny (model X.prog X.w) X.A.in1 (newList (es'.map fun x=>Value.ref x.2.1) >>= fun l=>holding [l] (call (.builtin "list.sort") [l] []) >>= fun _=>ret l) (fun fin s'=>∃ v,fin=Fin.done (Flow.ret v)∧EP X pins σ Q v s') X.xe { s with heap:=h1,toks:=tk }:=by
  have hz:es'.length≤sizeLine:=Nat.le_of_lt (Nat.lt_trans hl (by decide))
  have vals:Vals (es'.map fun x=>V.ref x.2.1) (es'.map fun x=>Value.ref x.2.1):=xd2 (fun x=>x.2.1) es'
  have I2:=I1.lnew (t':=tk) vals (by rw [List.length_map]; exact hz)
  refine wpAny_bind (wpAny_newList ?_ (by rw [List.length_map]; exact hz))
  have fr:H h1.objs.size=none:=I1.fresh
  have gl:(h1.push { cls:=.type "list",data:=.seq (es'.map fun x=>Value.ref x.2.1).toArray }).get? h1.objs.size=some (seqObj "list" (es'.map fun x=>Value.ref x.2.1).toArray 0):=Heap.get?_push_size _ rfl
  refine wpAny_bind (wpAny_holding (wpAny_call_entry slot_list_sort ⟨_,gl,rfl⟩ entry_list_sort ?_ (args_list_sort _)))
  have J1:=I2.lset (l:=h1.objs.size) (its:=es'.map fun x=>Value.ref x.2.1) (its':=[]) (ys:=[]) (f:=fun _=>#[]) (t':=tk) xg gl rfl .nil (Nat.zero_le _)
  have J2:=J1.kept (t':=tk) (h':=(((h1.push { cls:=.type "list",data:=.seq (es'.map fun x=>Value.ref x.2.1).toArray }).update h1.objs.size (Obj.mapSeq fun _=>#[])).push (seqObj "tuple" (es'.map fun x=>Value.ref x.2.1).toArray 0)).push (seqObj "list" #[] 0)) fun b u e=>Heap.get?_push_of_some _ (Heap.get?_push_of_some _ e)
  obtain ⟨z9,its9,n9,r9,hl9,e9⟩:=J2.lstM xg
  have done:∀ (ts:List (List Key × Addr)),ts.Perm (es'.map fun x=>(x.1,x.2.1))→(ts.map (·.1)).Pairwise (fun x y=>lexK x y=true) →
      EP X pins σ Q (.ref h1.objs.size) { s with heap:=sortedHeap (h1.push { cls:=.type "list",data:=.seq (es'.map fun x=>Value.ref x.2.1).toArray }) h1.objs.size (es'.map fun x=>Value.ref x.2.1) (ts.map fun t=>Value.ref t.2).toArray,toks:=tk }:=by
    intro ts pm pw
    have tl:ts.length=es'.length:=by rw [pm.length_eq,List.length_map]
    have J3:=J2.lset (l:=h1.objs.size) (its:=its9) (its':=ts.map fun t=>Value.ref t.2) (ys:=ts.map fun t=>V.ref t.2) (f:=fun _=>(ts.map fun t=>Value.ref t.2).toArray) (t':=tk) xg e9 rfl (xd2 (fun t=>t.2) ts) (by rw [List.length_map,tl]; exact hz)
    rw [xfs,xfs] at J3
    exact ⟨.ref h1.objs.size,_,J3,rfl,q _ ts fr pm pw⟩
  by_cases few:es'.length < 2
  · refine xgp gl (by rw [List.length_map]; exact few) ⟨_,rfl,wpAny_pure ⟨_,rfl,?_⟩⟩
    have:=done (es'.map fun x=>(x.1,x.2.1)) (List.Perm.refl _) ?_
    · rw [List.map_map] at this
      exact this
    · match es',few with
      | [],_=>exact .nil
      | [x],_=>exact List.pairwise_singleton _ _
      | _ :: _ :: _,h=>exact absurd h (by simp)
  · refine xfz gl (by rw [List.length_map]; omega) (by rw [List.length_map]; exact hl) fun s' es1 es2=>?_
    obtain ⟨b,sh0,rfl⟩:∃ b sh0,sh=b :: sh0:=by
      cases sh with
      | nil=>simp at hpos
      | cons b r=>exact ⟨b,r,rfl⟩
    rw [es1] at es2
    subst es2
    have km2:∀ x ∈ es',upd (upd H h1.objs.size (.lst (es'.map fun x=>V.ref x.2.1))) h1.objs.size (.lst []) x.2.1=some (.tup (x.1.map kV)):=fun x hx=>by
      rw [xh (xf (km x hx) fr),xh (xf (km x hx) fr)]
      exact km x hx
    obtain ⟨fs,kt,fl,fm⟩:=xkn J2.hok es' km2 shE
    have few':2≤es'.length:=by omega
    refine kat_kind (T:=if b=true then .type "int" else .type "str") kt (by omega) (fun v hv=>?_) (by cases b <;> rfl) ⟨rfl,?_⟩
    · have z:=fm v hv
      cases b with
      | true =>
        obtain ⟨i,t,rfl⟩:=z
        exact fun A Q E s _ q=>wpAny_typeOf (T:="int") rfl q
      | false =>
        obtain ⟨i,t,rfl⟩:=z
        exact fun A Q E s _ q=>wpAny_typeOf (T:="str") rfl q
    rw [List.length_map]
    have eAt:∀ i,i < es'.length→es'[i]?=some (es'.getD i ([],0,.none)):=fun i hi=>by
      rw [List.getD_eq_getElem?_getD,List.getElem?_eq_getElem hi]
      rfl
    have eM:∀ i,i < es'.length→es'.getD i ([],0,.none) ∈ es':=fun i hi=>List.mem_of_getElem? (eAt i hi)
    have vAt:∀ i,i < es'.length→(es'.map fun x=>Value.ref x.2.1).getD i .none=.ref (es'.getD i ([],0,.none)).2.1:=fun i hi=>by
      rw [List.getD_eq_getElem?_getD,List.getElem?_map,eAt i hi]
      rfl
    have shI:∀ i j,i < es'.length→j < es'.length→shp (es'.getD i ([],0,.none)).1=shp (es'.getD j ([],0,.none)).1:=fun i j hi hj=>by rw [shE _ (eM i hi),shE _ (eM j hj)]
    refine Srt.sort_wp (lt:=fun i j=>lexK (es'.getD i ([],0,.none)).1 (es'.getD j ([],0,.none)).1) ⟨fun i hi=>xhw _,fun i j k hi hj hk=>xin (shI i j hi hj) (shI j k hj hk),fun i j hi hj ne=>xho (shI i j hi hj) fun e=>ne ?_⟩ (fun i j hi hj Q' q'=>?_) few' fun p arr srt=>⟨rfl,_,rfl,wpAny_pure ⟨_,rfl,?_⟩⟩
    · have e1:(es'.map (·.1))[i]?=(es'.map (·.1))[j]?:=by rw [List.getElem?_map,List.getElem?_map,eAt i hi,eAt j hj]; exact congrArg some e
      exact (List.getElem?_inj (by rw [List.length_map]; exact hi) hnd).mp e1
    · show wpAny _ _ (keyLt' _ ((es'.map fun x=>Value.ref x.2.1).getD i .none) ((es'.map fun x=>Value.ref x.2.1).getD j .none)) _ _ _
      rw [vAt i hi,vAt j hj]
      obtain ⟨_,ti,ri,oi,ei,_,ni,di⟩:=J2.hok _ _ (km2 _ (eM i hi))
      obtain ⟨_,tj,rj,oj,ej,_,nj,dj⟩:=J2.hok _ _ (km2 _ (eM j hj))
      have l1:=Vals.length ri
      have l2:=Vals.length rj
      have l3:=congrArg List.length (shI i j hi hj)
      simp only [List.length_map] at l1 l2 l3
      refine kat_lt ei di ej dj ?_
      rw [decide_eq_false (by simp; omega)]
      exact xhf _ _ _ _ 0 (shI i j hi hj) ri rj q'
    have pl:∀ i ∈ p.toList,i < es'.length:=fun i hi=>by
      have:=(Array.Perm.mem_iff arr.pm).mp (Array.mem_toList_iff.mp hi)
      simpa using this
    have:=done (p.toList.map fun i=>((es'.getD i ([],0,.none)).1,(es'.getD i ([],0,.none)).2.1)) ?_ ?_
    · rw [List.map_map] at this
      have e2:(p.map fun i=>(es'.map fun x=>Value.ref x.2.1).getD i .none)=(p.toList.map ((fun t:List Key × Addr=>Value.ref t.2) ∘ fun i=>((es'.getD i ([],0,.none)).1,(es'.getD i ([],0,.none)).2.1))).toArray:=by
        rw [← Array.toList_inj,Array.toList_map]
        exact List.map_congr_left fun i hi=>vAt i (pl i hi)
      rw [e2]
      exact this
    · have e3:(es'.map fun x=>(x.1,x.2.1))=(List.range es'.length).map fun i=>((es'.getD i ([],0,.none)).1,(es'.getD i ([],0,.none)).2.1):=by
        refine List.ext_getElem? fun i=>?_
        by_cases c:i < es'.length
        · rw [List.getElem?_map,eAt i c,List.getElem?_map,List.getElem?_range c]
          rfl
        · rw [List.getElem?_eq_none (by rw [List.length_map]; omega),List.getElem?_eq_none (by simp; omega)]
      rw [e3]
      refine List.Perm.map _ ?_
      have:=Array.Perm.toList arr.pm
      simpa using this
    · rw [List.map_map,List.pairwise_map,List.pairwise_iff_getElem]
      intro i j hi hj hij
      have z:=srt i j hij (by rw [← arr.sz]; simpa using hj)
      have gi:Srt.g p i=p.toList[i]:=Srt.g_at (by rw [← Array.getElem?_toList]; exact List.getElem?_eq_getElem hi)
      have gj:Srt.g p j=p.toList[j]:=Srt.g_at (by rw [← Array.getElem?_toList]; exact List.getElem?_eq_getElem hj)
      rw [gi,gj] at z
      exact z
def xlj:List V→Hp→VK→Prop:=fun xs H Q=>∃ (d:Addr) (kvs:List (List Key × V)) (sh:List Bool),xs=[.ref d]∧H d=some (.dT kvs)∧kvs.length < 64∧(∀ p ∈ kvs,shp p.1=sh)∧0 < sh.length ∧
 ∀ (l:Addr) (ts:List (List Key × Addr)),H l=none→(∀ t ∈ ts,H t.2=some (.tup (t.1.map kV)))→(ts.map (·.1)).Perm (kvs.map (·.1))→(ts.map (·.1)).Pairwise (fun x y=>lexK x y=true)→Q (.ref l) (upd H l (.lst (ts.map fun t=>.ref t.2)))
theorem xgz {X:Cx} (hc:X.calm=true):xb9 X (.builtin "sorted") xlj:=by
 intro pins s σ H xs us Q I r h
 obtain ⟨d,kvs,sh,rfl,hd,hl,hsh,hpos,q⟩:=h
 obtain ⟨u,rfl,ru⟩:=xcw r
 obtain rfl:u=Value.ref d:=ru
 obtain ⟨z,hsys,es',rel,dd⟩:=xgt I.hok hd
 obtain ⟨o,es,ep,ho,hx,hdat,hes,hkk,hnd⟩:=dd
 have ln:=Paired.length rel
 have esz:es.size=es'.length:=by rw [← Array.length_toList,hes,List.length_map]
 refine Calls.call_function_entry kind_sorted plain_sorted entry_sorted (args_sorted1 _) ?_
 unfold Builtin.sorted
 refine wpAny_bind (wpAny_pure ?_)
 show wpAny _ _ (collect (.ref d) >>= _) _ _ _
 refine wpAny_bind (kdu_collect (xmr hsys hx hdat) (I.ok.hd hc) ho (by rw [esz,← ln]; exact z) fun h1 tk acc keep items=>?_)
 have acl:acc.toList=es'.map fun x=>Value.ref x.2.1:=by
  refine List.ext_getElem? fun j=>?_
  obtain ⟨i1,i2⟩:=items
  by_cases c:j < es'.length
  ·have c':j < acc.size:=by rw [i1,esz]; exact c
   have e:acc[j]?=some acc[j]:=Array.getElem?_eq_getElem c'
   obtain ⟨en,he,hv⟩:=i2 j acc[j] e
   rw [Array.getElem?_toList,e,hv]
   have he':es.toList[j]?=some en:=by rw [Array.getElem?_toList]; exact he
   rw [hes,List.getElem?_map,List.getElem?_eq_getElem c] at he'
   rw [List.getElem?_map,List.getElem?_eq_getElem c]
   have:=Option.some.inj he'
   rw [← this]
   rfl
  ·rw [List.getElem?_eq_none (by rw [Array.length_toList,i1,esz]; omega),List.getElem?_eq_none (by rw [List.length_map]; omega)]
 rw [acl]
 have I1:Inv X pins σ H { s with heap:=h1,toks:=tk }:=I.kept keep
 obtain ⟨km,ke⟩:=xkl rel
 have shE:∀ x ∈ es',shp x.1=sh:=fun x hx=>by
  have m:x.1 ∈ kvs.map (·.1):=by rw [← ke]; exact List.mem_map.mpr ⟨x,hx,rfl⟩
  obtain ⟨p,hp,e⟩:=List.mem_map.mp m
  rw [← e]
  exact hsh p hp
 refine xki es' I1 (by rw [← ln]; exact hl) km shE hpos hnd fun l ts fr pm pw=>q l ts fr (fun t ht=>?_) ?_ pw
 ·obtain ⟨x,hx,rfl⟩:=List.mem_map.mp (pm.mem_iff.mp ht)
  exact km x hx
 ·have:=pm.map (·.1)
  rw [List.map_map] at this
  rw [← ke]
  exact this
end L2
set_option maxRecDepth 100000
namespace L2
open PySem PySem.Spec PyProof.Rows XL PySem.W
variable {q0:Bool}
theorem xg8 {prog:Program} {w:World} {K:Type} [DecidableEq K] {knd:HeapKind prog w K} {A:Around} {E:Value→Shared→Prop} {s:Shared} {d a b:Addr} {xs:List (K × Addr × Value)} {k:K} {v:Value} {i:Nat} {Q:Option DictEntry→Shared→Prop}
    (hr:knd.room A) (hk:knd.is s.heap k a) (dd:Heap.DictOfH knd s.heap d xs) (hi:xs[i]?=some (k,b,v)) (hz:xs.length≤sizeLine)
    (h:∀ h',Heap.DictOfH knd h' d (xs.eraseIdx i)→Heap.SameBut d s.heap h'→Q (some (entryOfKey knd (k,b,v))) { s with heap:=h',toks:=s.toks + knd.draws k }):wpAny (model prog w) A (Builtin.Dict.takeOut d (.ref a)) Q E s:=by
  obtain ⟨o,es,ep,ho,hx,hdat,hes,hkk,hnd⟩:=dd
  have esz:es.size=xs.length:=by rw [← Array.length_toList,hes,List.length_map]
  unfold Builtin.Dict.takeOut
  refine wpAny_holding (wpAny_bind (knd.pyHash hr hk ?_))
  refine wpAny_bind (wpAny_dictFind_heap (s:={ s with toks:=s.toks + knd.draws k }) hr hk ho hdat hes hkk hnd (fun no=>absurd hi (no i (b,v))) fun j p hj=>?_)
  have ji:j=i:=by
    have e1:(xs.map (·.1))[j]?=(xs.map (·.1))[i]?:=by rw [List.getElem?_map,List.getElem?_map,hj,hi]; rfl
    exact (List.getElem?_inj (by rw [List.length_map]; exact (List.getElem?_eq_some_iff.mp hj).1) hnd).mp e1
  subst ji
  refine wpAny_bind (wpAny_dictEntries ho hdat ?_)
  have e:=entry_at hes j
  rw [hi] at e
  rw [e]
  refine wpAny_bind (wpAny_updateDictKeys ho hdat (wpAny_pure (h _ ?_ (Heap.SameBut.update _ _ _))) (by rw [esz]; exact hz) (by have:=size_eraseIdxIfInBounds_le es j; omega))
  refine ⟨_,_,_,Heap.get?_update_self _ ho (Obj.isFreed_of_dict (Obj.data_mapDictKeys hdat _)),hx.mapDictKeys _,Obj.data_mapDictKeys hdat _,?_,fun x hx'=>?_,?_⟩
  · have e2:(es.eraseIdxIfInBounds j).toList=es.toList.eraseIdx j:=by simp
    rw [e2,hes]
    simp [List.eraseIdx_eq_take_drop_succ,List.map_take,List.map_drop]
  · exact knd.keeps (hkk x (List.mem_of_mem_eraseIdx hx')) ho hdat (Heap.SameBut.update _ _ _)
  · exact List.Nodup.sublist (List.Sublist.map _ (List.eraseIdx_sublist _ _)) hnd
theorem Paired.erase {α β:Type} {F:α→β→Prop} {l₁:List α} {l₂:List β} (h:Paired F l₁ l₂):∀ i,Paired F (l₁.eraseIdx i) (l₂.eraseIdx i):=by
 induction h with
 | nil=>exact fun i=>.nil
 | cons r t ih =>
  intro i
  cases i with
  | zero=>exact t
  | succ i=>exact .cons r (ih i)
theorem Paired.at_ {α β:Type} {F:α→β→Prop} {l₁:List α} {l₂:List β} (h:Paired F l₁ l₂):∀ {i:Nat} {x:α},l₁[i]?=some x→∃ y,l₂[i]?=some y∧F x y:=by
 induction h with
 | nil=>intro i x e; simp at e
 | @cons a b l₁ l₂ r t ih =>
  intro i x e
  cases i with
  | zero =>
   simp at e
   subst e
   exact ⟨b,rfl,r⟩
  | succ i=>exact ih (by simpa using e)
theorem xfm {κ:Type} [DecidableEq κ]:∀ {kvs:List (κ × V)} {i:Nat} {k:κ} {v:V},(kvs.map (·.1)).Nodup→kvs[i]?=some (k,v)→xbo kvs k=kvs.eraseIdx i
 | [],i,k,v,_,h=>by simp at h
 | p :: r,0,k,v,nd,h=>by
  simp at h
  subst h
  rw [List.map_cons,List.nodup_cons] at nd
  show List.filter _ _=r
  rw [List.filter_cons_of_neg (by simp)]
  refine List.filter_eq_self.mpr fun q hq=>?_
  have:q.1≠k:=fun e=>nd.1 (e ▸ List.mem_map.mpr ⟨q,hq,rfl⟩)
  simpa using this
 | p :: r,i + 1,k,v,nd,h=>by
  rw [List.map_cons,List.nodup_cons] at nd
  have h':r[i]?=some (k,v):=by simpa using h
  have ne:p.1≠k:=fun e=>nd.1 (by rw [e]; exact List.mem_map.mpr ⟨(k,v),List.mem_of_getElem? h',rfl⟩)
  show List.filter _ _=p :: r.eraseIdx i
  rw [List.filter_cons_of_pos (by simpa using ne)]
  have:=xfm nd.2 h'
  unfold xbo at this
  rw [this]
theorem xfw {κ:Type} [DecidableEq κ]:∀ {kvs:List (κ × V)} {k:κ} {v:V},valV kvs k=some v→∃ i:Nat,kvs[i]?=some (k,v)
 | [],k,v,h=>by cases h
 | p :: r,k,v,h=>by
  by_cases e:p.1=k
  ·rw [xbd e] at h
   cases h
   exact ⟨0,by simp [← e]⟩
  ·rw [xa9 e] at h
   obtain ⟨i,hi⟩:=xfw h
   exact ⟨i + 1,by simpa using hi⟩
theorem xor {X:Cx} {pins:List (Addr × Obj)} {σ:St} {H:Hp} {s:Shared} {A:Around} {E:Value→Shared→Prop} {a b:Addr} {kvs:List (List Key × V)} {k:List Key} {v:V} {Q:Value→Shared→Prop} (hu:A.in1.units < cLine) (I:Inv X pins σ H s) (e:H a=some (.dT kvs)) (eb:H b=some (.tup (k.map kV))) (l:valV kvs k=some v)
    (h:∀ w' s',Inv X pins σ (upd H a (.dT (xbo kvs k))) s'→RelV v w'→Q w' s'):wpAny (model X.prog X.w) A (call (.builtin "dict.pop") [.ref a,.ref b]) Q E s:=by
  obtain ⟨z,hd,xs,rel,dd⟩:=xgt I.hok e
  obtain ⟨km,ke⟩:=xkl rel
  have ln:=Paired.length rel
  obtain ⟨i,hi⟩:=xfw l
  obtain ⟨x,hx,rx⟩:∃ x,xs[i]?=some x∧((k,v):List Key × V).1=x.1∧H x.2.1=some (.tup (k.map kV))∧RelV v x.2.2:=L2.Paired.at_ rel hi
  obtain ⟨k',b',w'⟩:=x
  obtain ⟨ek,_,rw'⟩:=rx
  simp only at ek
  subst ek
  have dd0:=dd
  obtain ⟨o,es,ep,ho,hxd,hdat,hes,hkk,hnd⟩:=dd
  have ndk:(kvs.map (·.1)).Nodup:=by rw [← ke]; exact hnd
  refine wpAny_call_entry PySem.F.slot_dict_pop ⟨o,ho,hxd.1⟩ PySem.F.entry_dict_pop ?_ (PySem.F.args_dict_pop_2 _ _)
  have ti:s.TypeIs (.ref a) "dict":=⟨o,ho,hxd.1⟩
  unfold Builtin.«dict.pop»
  have esz:es.isEmpty=false:=by
    have:es.size=xs.length:=by rw [← Array.length_toList,hes,List.length_map]
    have:i < xs.length:=(List.getElem?_eq_some_iff.mp hx).1
    rw [Array.isEmpty_eq_false_iff_exists_mem]
    exact ⟨es[i]'(by omega),by simp⟩
  obtain ⟨c0,d0,dat0,sl0⟩:=o
  obtain ⟨x1,x2,x3⟩:=hxd
  simp only at x1 x2 x3 hdat
  subst x1 x2 x3 hdat
  repeat (any_goals (first | assumption | (with_reducible refine wpAny_notOrdered_dict ti ?_) | (with_reducible refine wpAny_dictEntries ho rfl ?_) | ((with_reducible show wpAny _ _ (Builtin.Dict.takeOut _ _) _ _ _); refine xg8 (show (tupleKind (xam X.prog X.w)).room A.in1 from hu) (xct I.hok eb) dd0 hx (by rw [← ln]; exact z) fun h' dd' hs=>?_) | wp_step))
  refine ⟨_,rfl,h w' _ ?_ rw'⟩
  have dd2:=dd'
  obtain ⟨o',es',ep',ho',hx',hd',he',hk',hn'⟩:=dd2
  refine xcz I (by rw [e]; exact True.intro) hs ⟨o',ho'⟩ ?_
  refine ⟨Nat.le_trans (xhu kvs k) z,hd,xs.eraseIdx i,?_,o',es',ep',ho',hx',hd',he',hn'⟩
  rw [xfm ndk hi]
  refine Paired.mapP (L2.Paired.erase rel i) fun p q zz=>⟨zz.1,?_,zz.2.2⟩
  rw [xh (xak zz.2.1 e (fun z=>nomatch z))]
  exact zz.2.1
def xod (td ty:TE):TE:=fun σ H Q=>td σ H fun x H1=>∃ a,x=.ref a∧IsD H1 a∧ty σ H1 fun y H2=>∃ kvs k b v,H2 a=some (.dT kvs)∧y=.ref b∧H2 b=some (.tup (k.map kV))∧valV kvs k=some v∧Q v (upd H2 a (.dT (xbo kvs k)))
section
variable {X:Cx} {o e:Expr} {td ty:TE} {apos cpos:Pos}
theorem xlq (hu:X.A.units + 1 < cLine) (ho:PE X o td) (he:PE X e ty) (m:M1 X o "pop" apos e cpos):PE X (.Call (.Attribute o "pop" apos) [e] [] cpos) (xod td ty):=by
 intro pins s σ H Q I h
 refine wpAny_Call_method m.base m.few m.line PySem.F.plainAttrs_dict PySem.F.slot_dict_pop PySem.F.type_dict_pop (thn (ho pins s σ H _ I h) fun u s1 ⟨x,H1,I1,rx,a,ex,d,q1⟩=>?_)
 subst ex
 obtain rfl:u=Value.ref a:=rx
 obtain ⟨t1,t2,_⟩:=xhe I1 d
 refine ⟨t1,t2,?_⟩
 rw [m.trees]
 refine Calls.callWith_builtin rfl (Calls.evalArgs_plain (Calls.spliced_cons (thn (he pins s1 σ H1 _ I1 q1) fun iv s2 ⟨y,H2,I2,ry,kvs,k,b,v,ea,ey,eb,l,q2⟩=>Calls.spliced_nil ?_)))
 subst ey
 obtain rfl:iv=Value.ref b:=ry
 exact xor hu I2 ea eb l fun w' s3 I3 rw'=>⟨v,_,I3,rw',q2⟩
end
end L2
set_option maxRecDepth 100000
namespace L2
open PySem PySem.Spec PyProof.Rows XL PySem.W
variable {q0:Bool}
end L2
set_option maxRecDepth 100000
set_option maxHeartbeats 1000000
namespace L2
open PySem PySem.Spec PyProof.Rows XL PySem.W
inductive DV where
 | non
 | bl (b:Bool)
 | int (i:Int)
 | str (x:Str)
 | tup (xs:List DV)
 | lst (xs:List DV)
mutual
def dEq:DV→DV→Bool
 | .non,.non=>true
 | .bl a,.bl b=>a == b
 | .bl a,.int b=>(if a then 1 else 0) == b
 | .int a,.bl b=>a == (if b then 1 else 0)
 | .int a,.int b=>a == b
 | .str a,.str b=>a == b
 | .tup xs,.tup ys=>dEqs xs ys
 | .lst xs,.lst ys=>dEqs xs ys
 | _,_=>false
def dEqs:List DV→List DV→Bool
 | [],[]=>true
 | x :: xs,y :: ys=>dEq x y && dEqs xs ys
 | _,_=>false
end
mutual
theorem xa6:∀ d,dEq d d=true
 | .non=>rfl
 | .bl _=>by simp [dEq]
 | .int _=>by simp [dEq]
 | .str _=>by simp [dEq]
 | .tup xs=>by simp only [dEq]; exact xcr xs
 | .lst xs=>by simp only [dEq]; exact xcr xs
theorem xcr:∀ xs,dEqs xs xs=true
 | []=>rfl
 | x :: xs=>by simp only [dEqs,Bool.and_eq_true]; exact ⟨xa6 x,xcr xs⟩
end
mutual
def DV.pl:DV→Bool
 | .bl _=>false
 | .tup xs=>pls xs
 | .lst xs=>pls xs
 | _=>true
def pls:List DV→Bool
 | []=>true
 | x :: xs=>x.pl && pls xs
end
mutual
theorem xka:∀ {d e:DV},d.pl=true→e.pl=true→dEq d e=true→d=e
 | .non,.non,_,_,_=>rfl
 | .int a,.int b,_,_,h=>by simp only [dEq,beq_iff_eq] at h; rw [h]
 | .str a,.str b,_,_,h=>by simp only [dEq,beq_iff_eq] at h; rw [h]
 | .tup xs,.tup ys,p,q,h=>by
  simp only [dEq] at h
  simp only [DV.pl] at p q
  rw [xfv p q h]
 | .lst xs,.lst ys,p,q,h=>by
  simp only [dEq] at h
  simp only [DV.pl] at p q
  rw [xfv p q h]
 | .bl _,_,p,_,_=>by simp [DV.pl] at p
 | .non,.bl _,_,q,_=>by simp [DV.pl] at q
 | .int _,.bl _,_,q,_=>by simp [DV.pl] at q
 | .str _,.bl _,_,q,_=>by simp [DV.pl] at q
 | .tup _,.bl _,_,q,_=>by simp [DV.pl] at q
 | .lst _,.bl _,_,q,_=>by simp [DV.pl] at q
 | .non,.int _,_,_,h=>by simp [dEq] at h
 | .non,.str _,_,_,h=>by simp [dEq] at h
 | .non,.tup _,_,_,h=>by simp [dEq] at h
 | .non,.lst _,_,_,h=>by simp [dEq] at h
 | .int _,.non,_,_,h=>by simp [dEq] at h
 | .int _,.str _,_,_,h=>by simp [dEq] at h
 | .int _,.tup _,_,_,h=>by simp [dEq] at h
 | .int _,.lst _,_,_,h=>by simp [dEq] at h
 | .str _,.non,_,_,h=>by simp [dEq] at h
 | .str _,.int _,_,_,h=>by simp [dEq] at h
 | .str _,.tup _,_,_,h=>by simp [dEq] at h
 | .str _,.lst _,_,_,h=>by simp [dEq] at h
 | .tup _,.non,_,_,h=>by simp [dEq] at h
 | .tup _,.int _,_,_,h=>by simp [dEq] at h
 | .tup _,.str _,_,_,h=>by simp [dEq] at h
 | .tup _,.lst _,_,_,h=>by simp [dEq] at h
 | .lst _,.non,_,_,h=>by simp [dEq] at h
 | .lst _,.int _,_,_,h=>by simp [dEq] at h
 | .lst _,.str _,_,_,h=>by simp [dEq] at h
 | .lst _,.tup _,_,_,h=>by simp [dEq] at h
theorem xfv:∀ {xs ys:List DV},pls xs=true→pls ys=true→dEqs xs ys=true→xs=ys
 | [],[],_,_,_=>rfl
 | x :: xs,y :: ys,p,q,h=>by
  simp only [pls,Bool.and_eq_true] at p q
  simp only [dEqs,Bool.and_eq_true] at h
  rw [xka p.1 q.1 h.1,xfv p.2 q.2 h.2]
 | [],_ :: _,_,_,h=>by simp [dEqs] at h
 | _ :: _,[],_,_,h=>by simp [dEqs] at h
end
theorem xf5 {d e:DV} {α:Type} {x y:α} [DecidableEq α] (p:d.pl=true) (q:e.pl=true) (f:d=e ↔ x=y):dEq d e=decide (x=y):=by
 by_cases c:x=y
 ·rw [decide_eq_true c,f.mpr c]
  exact xa6 _
 ·rw [decide_eq_false c]
  cases z:dEq d e with
  | false=>rfl
  | true=>exact absurd (f.mp (xka p q z)) c
theorem xfc:∀ {xs ys:List DV} {e:Nat→Bool},(∀ (j:Nat) (x y:DV),xs[j]?=some x→ys[j]?=some y→e j=dEq x y)→((List.range (min xs.length ys.length)).all e && xs.length == ys.length)=dEqs xs ys
 | [],[],_,_=>rfl
 | [],_ :: _,_,_=>by simp [dEqs]
 | _ :: _,[],_,_=>by simp [dEqs]
 | x :: xs,y :: ys,e,h=>by
  have ih:=xfc (xs:=xs) (ys:=ys) (e:=fun j=>e (j + 1)) (fun j a b ha hb=>h (j + 1) a b (by simpa using ha) (by simpa using hb))
  have h0:=h 0 x y rfl rfl
  rw [List.length_cons,List.length_cons,show min (xs.length + 1) (ys.length + 1)=min xs.length ys.length + 1 by omega,List.range_succ_eq_map,List.all_cons,List.all_map]
  show _=(dEq x y && dEqs xs ys)
  rw [← ih,h0]
  have z:((xs.length + 1 == ys.length + 1):Bool)=(xs.length == ys.length):=by
   rw [Bool.eq_iff_iff]
   simp
  rw [z,Bool.and_assoc]
  rfl
theorem xg4:∀ {xs ys:List DV},xs.length≠ys.length→dEqs xs ys=false
 | [],[],h=>absurd rfl h
 | [],_ :: _,_=>rfl
 | _ :: _,[],_=>rfl
 | x :: xs,y :: ys,h=>by
  show (dEq x y && dEqs xs ys)=false
  rw [xg4 (xs:=xs) (ys:=ys) (fun z=>h (by simp [z]))]
  exact Bool.and_false _
inductive Dv (K:PySem.W.Frag) (H:Hp):Nat→V→DV→Prop
 | non {n:Nat}:Dv K H n .non .non
 | bl {n:Nat} {b:Bool}:Dv K H n (.bl b) (.bl b)
 | int {n:Nat} {b:Int}:Dv K H n (.int b) (.int b)
 | str {n:Nat} {b:Str}:Dv K H n (.str b) (.str b)
 | tup {n:Nat} {a:Addr} {xs:List V} {ds:List DV} (ha:SqT K H a xs) (hl:xs.length=ds.length) (h:∀ (j:Nat) (x:V) (d:DV),xs[j]?=some x→ds[j]?=some d→Dv K H n x d):Dv K H (n + 1) (.ref a) (.tup ds)
 | lst {n:Nat} {a:Addr} {xs:List V} {ds:List DV} (ha:SqL K H a xs) (hl:xs.length=ds.length) (h:∀ (j:Nat) (x:V) (d:DV),xs[j]?=some x→ds[j]?=some d→Dv K H n x d):Dv K H (n + 1) (.ref a) (.lst ds)
section
variable {X:Cx} {pins:List (Addr × Obj)} {σ:St} {H:Hp} {s:Shared}
theorem xgl {h:Heap} {a:Addr} {i j:Array Value} (p:h.IsTuple a i) (q:PlainL h a j):False:=by
 obtain ⟨o,e,c,_⟩:=p
 obtain ⟨o',n,e',c',_⟩:=q
 rw [e] at e'
 cases e'
 rw [c] at c'
 exact absurd c' (by decide)
theorem xkt {xs ys:List DV} (h:xs.length=ys.length) (f:∀ (j:Nat) (x y:DV),xs[j]?=some x→ys[j]?=some y→x=y):xs=ys:=by
 refine List.ext_getElem? fun j=>?_
 by_cases c:j < xs.length
 ·rw [List.getElem?_eq_getElem c,List.getElem?_eq_getElem (by omega),f j _ _ (List.getElem?_eq_getElem c) (List.getElem?_eq_getElem (by omega))]
 ·rw [List.getElem?_eq_none (by omega),List.getElem?_eq_none (by omega)]
theorem xg0 (I:Inv X pins σ H s) {n:Nat} {x:V} {d:DV} (h:Dv X.K H n x d):∀ {m:Nat} {e:DV},Dv X.K H m x e→d=e:=by
 induction h with
 | non=>intro m e h; cases h; rfl
 | bl=>intro m e h; cases h; rfl
 | int=>intro m e h; cases h; rfl
 | str=>intro m e h; cases h; rfl
 | @tup n a xs ds ha hl h ih =>
  intro m e h2
  cases h2 with
  | @tup m _ ys es hb kl k =>
   obtain rfl:=I.tuple_inj ha hb
   refine congrArg DV.tup (xkt (by omega) fun j d e h1 h2=>?_)
   have lt:j < xs.length:=by
    have:=(List.getElem?_eq_some_iff.mp h1).1
    omega
   exact ih j xs[j] d (List.getElem?_eq_getElem lt) h1 (k j xs[j] e (List.getElem?_eq_getElem lt) h2)
  | @lst m _ ys es hb kl k =>
   obtain ⟨its,_,t1,_⟩:=I.tuple ha
   obtain ⟨its2,_,t2,_⟩:=I.list hb
   exact (xgl t1 t2).elim
 | @lst n a xs ds ha hl h ih =>
  intro m e h2
  cases h2 with
  | @lst m _ ys es hb kl k =>
   obtain rfl:=I.list_inj ha hb
   refine congrArg DV.lst (xkt (by omega) fun j d e h1 h2=>?_)
   have lt:j < xs.length:=by
    have:=(List.getElem?_eq_some_iff.mp h1).1
    omega
   exact ih j xs[j] d (List.getElem?_eq_getElem lt) h1 (k j xs[j] e (List.getElem?_eq_getElem lt) h2)
  | @tup m _ ys es hb kl k =>
   obtain ⟨its,_,t1,_⟩:=I.tuple hb
   obtain ⟨its2,_,t2,_⟩:=I.list ha
   exact (xgl t1 t2).elim
def at2 (f:DV→DV→Bool) (ds es:List DV) (j:Nat):Bool:=match ds[j]?,es[j]? with | some d,some e=>f d e | _,_=>false
theorem xfl {f:DV→DV→Bool} {ds es:List DV} {j:Nat} {d e:DV} (h:ds[j]?=some d) (h2:es[j]?=some e):at2 f ds es j=f d e:=by
 unfold at2
 rw [h,h2]
theorem xgw (I:Inv X pins σ H s) {n:Nat} {x:V} {d:DV} (h:Dv X.K H n x d):∀ {m:Nat} {y:V} {e:DV},Dv X.K H m y e→∀ {A:Around} {u v:Value},A.units + n + m < cLine→RelV x u→RelV y v →
    SeqAt.EqAt A s u v (dEq d e)∧SeqAt.RcAt A s u v (dEq d e)∧SeqAt.RcNeAt A s u v (!dEq d e):=by
  induction h with
  | @non n =>
    intro m y e h2 A u v hu rx ry
    obtain rfl:u=Value.none:=rx
    cases h2 with
    | @non  =>
      obtain rfl:v=Value.none:=ry
      exact ⟨SeqAt.EqAt.same _,SeqAt.RcAt.none_none,SeqAt.RcNeAt.none_none⟩
    | @bl _ b2 =>
      obtain rfl:v=Value.bool _:=ry
      exact ⟨SeqAt.EqAt.none_bool _,SeqAt.RcAt.none_bool _,SeqAt.RcNeAt.none_bool _⟩
    | @int _ b2 =>
      obtain ⟨_,rfl⟩:=ry
      exact ⟨SeqAt.EqAt.none_int _ _,SeqAt.RcAt.none_int _ _,SeqAt.RcNeAt.none_int _ _⟩
    | @str _ b2 =>
      obtain ⟨_,rfl⟩:=ry
      exact ⟨SeqAt.EqAt.none_str _ _,SeqAt.RcAt.none_str _ _,SeqAt.RcNeAt.none_str _ _⟩
    | @tup m b ys es hb kl k =>
      obtain rfl:v=Value.ref _:=ry
      obtain ⟨its2,r2,t2,z2⟩:=I.tuple hb
      have l2:=r2.length
      exact ⟨SeqAt.EqAt.none_tuple t2 (by omega),SeqAt.RcAt.none_tuple t2 (by omega),SeqAt.RcNeAt.none_tuple t2 (by omega)⟩
    | @lst m b ys es hb kl k =>
      obtain rfl:v=Value.ref _:=ry
      obtain ⟨its2,r2,t2,z2⟩:=I.list hb
      have l2:=r2.length
      exact ⟨SeqAt.EqAt.none_list t2.isList (by omega),SeqAt.RcAt.none_list t2.isList (by omega),SeqAt.RcNeAt.none_list t2.isList (by omega)⟩
  | @bl n b1 =>
    intro m y e h2 A u v hu rx ry
    obtain rfl:u=Value.bool _:=rx
    cases h2 with
    | @non  =>
      obtain rfl:v=Value.none:=ry
      exact ⟨SeqAt.EqAt.bool_none _,SeqAt.RcAt.bool_none _,SeqAt.RcNeAt.bool_none _⟩
    | @bl _ b2 =>
      obtain rfl:v=Value.bool _:=ry
      exact ⟨SeqAt.EqAt.bool_bool _ _,SeqAt.RcAt.bool_bool _ _,SeqAt.RcNeAt.bool_bool _ _⟩
    | @int _ b2 =>
      obtain ⟨_,rfl⟩:=ry
      exact ⟨SeqAt.EqAt.bool_int _ _ _,SeqAt.RcAt.bool_int _ _ _,SeqAt.RcNeAt.bool_int _ _ _⟩
    | @str _ b2 =>
      obtain ⟨_,rfl⟩:=ry
      exact ⟨SeqAt.EqAt.bool_str _ _ _,SeqAt.RcAt.bool_str _ _ _,SeqAt.RcNeAt.bool_str _ _ _⟩
    | @tup m b ys es hb kl k =>
      obtain rfl:v=Value.ref _:=ry
      obtain ⟨its2,r2,t2,z2⟩:=I.tuple hb
      have l2:=r2.length
      exact ⟨SeqAt.EqAt.bool_tuple _ t2 (by omega),SeqAt.RcAt.bool_tuple _ t2 (by omega),SeqAt.RcNeAt.bool_tuple _ t2 (by omega)⟩
    | @lst m b ys es hb kl k =>
      obtain rfl:v=Value.ref _:=ry
      obtain ⟨its2,r2,t2,z2⟩:=I.list hb
      have l2:=r2.length
      exact ⟨SeqAt.EqAt.bool_list _ t2.isList (by omega),SeqAt.RcAt.bool_list _ t2.isList (by omega),SeqAt.RcNeAt.bool_list _ t2.isList (by omega)⟩
  | @int n b1 =>
    intro m y e h2 A u v hu rx ry
    obtain ⟨_,rfl⟩:=rx
    cases h2 with
    | @non  =>
      obtain rfl:v=Value.none:=ry
      exact ⟨SeqAt.EqAt.int_none _ _,SeqAt.RcAt.int_none _ _,SeqAt.RcNeAt.int_none _ _⟩
    | @bl _ b2 =>
      obtain rfl:v=Value.bool _:=ry
      exact ⟨SeqAt.EqAt.int_bool _ _ _,SeqAt.RcAt.int_bool _ _ _,SeqAt.RcNeAt.int_bool _ _ _⟩
    | @int _ b2 =>
      obtain ⟨_,rfl⟩:=ry
      exact ⟨SeqAt.EqAt.int_int _ _ _ _,SeqAt.RcAt.int_int _ _ _ _,SeqAt.RcNeAt.int_int _ _ _ _⟩
    | @str _ b2 =>
      obtain ⟨_,rfl⟩:=ry
      exact ⟨SeqAt.EqAt.int_str _ _ _ _,SeqAt.RcAt.int_str _ _ _ _,SeqAt.RcNeAt.int_str _ _ _ _⟩
    | @tup m b ys es hb kl k =>
      obtain rfl:v=Value.ref _:=ry
      obtain ⟨its2,r2,t2,z2⟩:=I.tuple hb
      have l2:=r2.length
      exact ⟨SeqAt.EqAt.int_tuple _ _ t2 (by omega),SeqAt.RcAt.int_tuple _ _ t2 (by omega),SeqAt.RcNeAt.int_tuple _ _ t2 (by omega)⟩
    | @lst m b ys es hb kl k =>
      obtain rfl:v=Value.ref _:=ry
      obtain ⟨its2,r2,t2,z2⟩:=I.list hb
      have l2:=r2.length
      exact ⟨SeqAt.EqAt.int_list _ _ t2.isList (by omega),SeqAt.RcAt.int_list _ _ t2.isList (by omega),SeqAt.RcNeAt.int_list _ _ t2.isList (by omega)⟩
  | @str n b1 =>
    intro m y e h2 A u v hu rx ry
    obtain ⟨_,rfl⟩:=rx
    cases h2 with
    | @non  =>
      obtain rfl:v=Value.none:=ry
      exact ⟨SeqAt.EqAt.str_none _ _,SeqAt.RcAt.str_none _ _,SeqAt.RcNeAt.str_none _ _⟩
    | @bl _ b2 =>
      obtain rfl:v=Value.bool _:=ry
      exact ⟨SeqAt.EqAt.str_bool _ _ _,SeqAt.RcAt.str_bool _ _ _,SeqAt.RcNeAt.str_bool _ _ _⟩
    | @int _ b2 =>
      obtain ⟨_,rfl⟩:=ry
      exact ⟨SeqAt.EqAt.str_int _ _ _ _,SeqAt.RcAt.str_int _ _ _ _,SeqAt.RcNeAt.str_int _ _ _ _⟩
    | @str _ b2 =>
      obtain ⟨_,rfl⟩:=ry
      exact ⟨SeqAt.EqAt.str_str _ _ _ _,SeqAt.RcAt.str_str _ _ _ _,SeqAt.RcNeAt.str_str _ _ _ _⟩
    | @tup m b ys es hb kl k =>
      obtain rfl:v=Value.ref _:=ry
      obtain ⟨its2,r2,t2,z2⟩:=I.tuple hb
      have l2:=r2.length
      exact ⟨SeqAt.EqAt.str_tuple _ _ t2 (by omega),SeqAt.RcAt.str_tuple _ _ t2 (by omega),SeqAt.RcNeAt.str_tuple _ _ t2 (by omega)⟩
    | @lst m b ys es hb kl k =>
      obtain rfl:v=Value.ref _:=ry
      obtain ⟨its2,r2,t2,z2⟩:=I.list hb
      have l2:=r2.length
      exact ⟨SeqAt.EqAt.str_list _ _ t2.isList (by omega),SeqAt.RcAt.str_list _ _ t2.isList (by omega),SeqAt.RcNeAt.str_list _ _ t2.isList (by omega)⟩
  | @tup n a xs ds ha hl h ih =>
    intro m y e h2 A u v hu rx ry
    obtain rfl:u=Value.ref _:=rx
    obtain ⟨its,r1,t1,z1⟩:=I.tuple ha
    have l1:=r1.length
    cases h2 with
    | @non  =>
      obtain rfl:v=Value.none:=ry
      exact ⟨SeqAt.EqAt.tuple_none t1 (by omega),SeqAt.RcAt.tuple_none t1 (by omega),SeqAt.RcNeAt.tuple_none t1 (by omega)⟩
    | @bl _ b2 =>
      obtain rfl:v=Value.bool _:=ry
      exact ⟨SeqAt.EqAt.tuple_bool _ t1 (by omega),SeqAt.RcAt.tuple_bool _ t1 (by omega),SeqAt.RcNeAt.tuple_bool _ t1 (by omega)⟩
    | @int _ b2 =>
      obtain ⟨_,rfl⟩:=ry
      exact ⟨SeqAt.EqAt.tuple_int _ _ t1 (by omega),SeqAt.RcAt.tuple_int _ _ t1 (by omega),SeqAt.RcNeAt.tuple_int _ _ t1 (by omega)⟩
    | @str _ b2 =>
      obtain ⟨_,rfl⟩:=ry
      exact ⟨SeqAt.EqAt.tuple_str _ _ t1 (by omega),SeqAt.RcAt.tuple_str _ _ t1 (by omega),SeqAt.RcNeAt.tuple_str _ _ t1 (by omega)⟩
    | @tup m b ys es hb kl k =>
      obtain rfl:v=Value.ref _:=ry
      obtain ⟨its2,r2,t2,z2⟩:=I.tuple hb
      have l2:=r2.length
      have step:∀ (j:Nat) (h1:j < its.toArray.size) (h2:j < its2.toArray.size),SeqAt.EqAt A.in1 s its.toArray[j] its2.toArray[j] (at2 dEq ds es j):=fun j h1 h2=>by
        obtain ⟨x,hx,rx⟩:=xeo r1 h1
        obtain ⟨y,hy,ry⟩:=xeo r2 h2
        have j1:j < ds.length:=by simp at h1; omega
        have j2:j < es.length:=by simp at h2; omega
        rw [xfl (List.getElem?_eq_getElem j1) (List.getElem?_eq_getElem j2)]
        exact (ih j x _ hx (List.getElem?_eq_getElem j1) (k j y _ hy (List.getElem?_eq_getElem j2)) (A:=A.in1) (by show A.units + 1 + n + m < cLine; omega) rx ry).1
      have all:=xfc (xs:=ds) (ys:=es) (e:=at2 dEq ds es) fun j x y h1 h2=>xfl h1 h2
      have both:SeqAt.RcAt A s (.ref a) (.ref b) (dEqs ds es)∧SeqAt.RcNeAt A s (.ref a) (.ref b) (!dEqs ds es):=by
        have z1:=SeqAt.RcAt.tuples (A:=A) (e:=at2 dEq ds es) (show s.heap.IsTuple a its.toArray from t1) (show s.heap.IsTuple b its2.toArray from t2) (by omega) step
        have z2:=SeqAt.RcNeAt.tuples (A:=A) (e:=at2 dEq ds es) (show s.heap.IsTuple a its.toArray from t1) (show s.heap.IsTuple b its2.toArray from t2) (by omega) step
        have e1:its.toArray.size=ds.length:=by simp; omega
        have e2:its2.toArray.size=es.length:=by simp; omega
        rw [e1,e2,all] at z1 z2
        exact ⟨z1,z2⟩
      simp only [dEq]
      refine ⟨?_,both⟩
      by_cases q:a=b
      · subst q
        have ed:DV.tup ds=DV.tup es:=xg0 I (Dv.tup ha hl h) (Dv.tup hb kl k)
        rw [show es=ds by injection ed with z; exact z.symm,xcr]
        exact SeqAt.EqAt.same _
      · exact .of_refs q both.1
    | @lst m b ys es hb kl k =>
      obtain rfl:v=Value.ref _:=ry
      obtain ⟨its2,r2,t2,z2⟩:=I.list hb
      have l2:=r2.length
      exact ⟨SeqAt.EqAt.tuple_list t1 t2.isList (by omega),SeqAt.RcAt.tuple_list t1 t2.isList (by omega),SeqAt.RcNeAt.tuple_list t1 t2.isList (by omega)⟩
  | @lst n a xs ds ha hl h ih =>
    intro m y e h2 A u v hu rx ry
    obtain rfl:u=Value.ref _:=rx
    obtain ⟨its,r1,t1,z1⟩:=I.list ha
    have l1:=r1.length
    cases h2 with
    | @non  =>
      obtain rfl:v=Value.none:=ry
      exact ⟨SeqAt.EqAt.list_none t1.isList (by omega),SeqAt.RcAt.list_none t1.isList (by omega),SeqAt.RcNeAt.list_none t1.isList (by omega)⟩
    | @bl _ b2 =>
      obtain rfl:v=Value.bool _:=ry
      exact ⟨SeqAt.EqAt.list_bool _ t1.isList (by omega),SeqAt.RcAt.list_bool _ t1.isList (by omega),SeqAt.RcNeAt.list_bool _ t1.isList (by omega)⟩
    | @int _ b2 =>
      obtain ⟨_,rfl⟩:=ry
      exact ⟨SeqAt.EqAt.list_int _ _ t1.isList (by omega),SeqAt.RcAt.list_int _ _ t1.isList (by omega),SeqAt.RcNeAt.list_int _ _ t1.isList (by omega)⟩
    | @str _ b2 =>
      obtain ⟨_,rfl⟩:=ry
      exact ⟨SeqAt.EqAt.list_str _ _ t1.isList (by omega),SeqAt.RcAt.list_str _ _ t1.isList (by omega),SeqAt.RcNeAt.list_str _ _ t1.isList (by omega)⟩
    | @tup m b ys es hb kl k =>
      obtain rfl:v=Value.ref _:=ry
      obtain ⟨its2,r2,t2,z2⟩:=I.tuple hb
      have l2:=r2.length
      exact ⟨SeqAt.EqAt.list_tuple t1.isList t2 (by omega),SeqAt.RcAt.list_tuple t1.isList t2 (by omega),SeqAt.RcNeAt.list_tuple t1.isList t2 (by omega)⟩
    | @lst m b ys es hb kl k =>
      obtain rfl:v=Value.ref _:=ry
      obtain ⟨its2,r2,t2,z2⟩:=I.list hb
      have l2:=r2.length
      have step:∀ (j:Nat) (h1:j < its.toArray.size) (h2:j < its2.toArray.size),SeqAt.EqAt A.in1 s its.toArray[j] its2.toArray[j] (at2 dEq ds es j):=fun j h1 h2=>by
        obtain ⟨x,hx,rx⟩:=xeo r1 h1
        obtain ⟨y,hy,ry⟩:=xeo r2 h2
        have j1:j < ds.length:=by simp at h1; omega
        have j2:j < es.length:=by simp at h2; omega
        rw [xfl (List.getElem?_eq_getElem j1) (List.getElem?_eq_getElem j2)]
        exact (ih j x _ hx (List.getElem?_eq_getElem j1) (k j y _ hy (List.getElem?_eq_getElem j2)) (A:=A.in1) (by show A.units + 1 + n + m < cLine; omega) rx ry).1
      have all:=xfc (xs:=ds) (ys:=es) (e:=at2 dEq ds es) fun j x y h1 h2=>xfl h1 h2
      have both:SeqAt.RcAt A s (.ref a) (.ref b) (dEqs ds es)∧SeqAt.RcNeAt A s (.ref a) (.ref b) (!dEqs ds es):=by
        have e1:its.toArray.size=ds.length:=by simp; omega
        have e2:its2.toArray.size=es.length:=by simp; omega
        by_cases c:ds.length=es.length
        · have z1:=SeqAt.RcAt.lists (A:=A) (e:=at2 dEq ds es) t1.isList t2.isList (by omega) (by omega) step
          have z2:=SeqAt.RcNeAt.lists (A:=A) (e:=at2 dEq ds es) t1.isList t2.isList (by omega) (by omega) step
          have all':(List.range ds.length).all (at2 dEq ds es)=dEqs ds es:=by
            rw [← all,c,Nat.min_self]
            simp
          rw [e1,all'] at z1 z2
          exact ⟨z1,z2⟩
        · rw [xg4 c]
          exact ⟨SeqAt.RcAt.lists_lengths (A:=A) t1.isList t2.isList (by rw [e1,e2]; simpa using c) (by omega),SeqAt.RcNeAt.lists_lengths (A:=A) t1.isList t2.isList (by rw [e1,e2]; simpa using c) (by omega)⟩
      simp only [dEq]
      refine ⟨?_,both⟩
      by_cases q:a=b
      · subst q
        have ed:DV.lst ds=DV.lst es:=xg0 I (Dv.lst ha hl h) (Dv.lst hb kl k)
        rw [show es=ds by injection ed with z; exact z.symm,xcr]
        exact SeqAt.EqAt.same _
      · exact .of_refs q both.1
end
theorem Same.seqL {K:PySem.W.Frag} {H H':Hp} {a:Addr} {xs:List V} (s:Same H H') (h:SqL K H a xs):SqL K H' a xs:=by
 rcases h with (h | ⟨ob,h⟩) | h
 ·exact .inl (.inl (s _ _ h))
 ·exact .inl (.inr ⟨ob,s _ _ h⟩)
 ·exact .inr h
def rEqV (K:PySem.W.Frag):R2:=fun x y H Q=>∃ (n m:Nat) (d e:DV),Dv K H n x d∧Dv K H m y e∧n≤9∧m≤9∧Q (.bl (dEq d e)) H
def rNeV (K:PySem.W.Frag):R2:=fun x y H Q=>∃ (n m:Nat) (d e:DV),Dv K H n x d∧Dv K H m y e∧n≤9∧m≤9∧Q (.bl (!dEq d e)) H
def rInV (K:PySem.W.Frag) (neg:Bool):R2:=fun x y H Q=>∃ (n m:Nat) (d:DV) (es:List DV),Dv K H n x d∧Dv K H m y (.lst es)∧n≤9∧m≤9∧Q (.bl (if neg then !es.any (fun z=>dEq z d) else es.any fun z=>dEq z d)) H
section
variable {X:Cx}
theorem xda (hu:X.A.units + 20 < cLine):OpR X (compareOp .Eq) (rEqV X.K):=by
 intro pins s σ H x y u v Q I rx ry h
 obtain ⟨n,m,d,e,h1,h2,hn,hm,q⟩:=h
 exact (xgw I h1 h2 (A:=X.A) (by omega) rx ry).2.1 X.prog X.w X.xe _ ⟨.bl _,H,I,rfl,q⟩
theorem xfj (hu:X.A.units + 20 < cLine):OpR X (compareOp .NotEq) (rNeV X.K):=by
 intro pins s σ H x y u v Q I rx ry h
 obtain ⟨n,m,d,e,h1,h2,hn,hm,q⟩:=h
 exact PySem.W.cmp_ofNotEq ((xgw I h1 h2 (A:=X.A) (by omega) rx ry).2.2 X.prog X.w X.xe _ ⟨.bl _,H,I,rfl,q⟩)
theorem xhq {α β:Type} {f:α→Bool} {g:β→Bool}:∀ {xs:List α} {ys:List β},xs.length=ys.length→(∀ (j:Nat) (x:α) (y:β),xs[j]?=some x→ys[j]?=some y→f x=g y)→xs.any f=ys.any g
 | [],[],_,_=>rfl
 | [],_ :: _,h,_=>by cases h
 | _ :: _,[],h,_=>by cases h
 | x :: xs,y :: ys,h,k=>by
  rw [List.any_cons,List.any_cons,k 0 x y rfl rfl,xhq (xs:=xs) (ys:=ys) (by simpa using h) fun j a b h1 h2=>k (j + 1) a b (by simpa using h1) (by simpa using h2)]
noncomputable def eOf (K:PySem.W.Frag) (H:Hp) (m:Nat) (d:DV) (z:V):Bool:=@dite Bool (∃ e,Dv K H m z e) (Classical.propDecidable _) (fun h=>dEq h.choose d) fun _=>false
theorem xff {pins:List (Addr × Obj)} {σ:St} {H:Hp} {s:Shared} (I:Inv X pins σ H s) {m:Nat} {d e:DV} {z:V} (h:Dv X.K H m z e):eOf X.K H m d z=dEq e d:=by
 unfold eOf
 rw [dif_pos ⟨e,h⟩]
 have ex:∃ e,Dv X.K H m z e:=⟨e,h⟩
 rw [xg0 I ex.choose_spec h]
theorem xg6 (hu:X.A.units + 20 < cLine):OpR X (compareOp .In) (rInV X.K false):=by
 intro pins s σ H x y v u Q I rx ry h
 obtain ⟨n,m,d,es,h1,h2,hn,hm,q⟩:=h
 cases h2 with
 | @lst m a xs _ ha hl k =>
  cases ry
  obtain ⟨its,r,pl,hz⟩:=I.list ha
  have get:∀ z ∈ xs,∃ (j:Nat) (e:DV),xs[j]?=some z∧es[j]?=some e∧Dv X.K H m z e:=fun z hz=>by
   obtain ⟨j,hj⟩:=List.getElem?_of_mem hz
   have lt:j < es.length:=by rw [← hl]; exact (List.getElem?_eq_some_iff.mp hj).1
   exact ⟨j,es[j],hj,List.getElem?_eq_getElem lt,k j z _ hj (List.getElem?_eq_getElem lt)⟩
  refine SeqAt.in_listAt (eU (eOf X.K H m d)) pl.isList (fun w hw=>?_) ⟨.bl _,H,I,rfl,?_⟩
  ·obtain ⟨z,m1,m2⟩:=xf3 r w (by simpa using hw)
   obtain ⟨j,e,_,_,he⟩:=get z m1
   rw [xi5 m2,xff I he]
   exact (xgw I he h1 (A:=X.A.in1) (by show X.A.units + 1 + m + n < cLine; omega) m2 rx).1
  ·rw [show its.toArray.any (eU (eOf X.K H m d))=its.any (eU (eOf X.K H m d)) by simp,xhp r,xhq (g:=fun z=>dEq z d) hl fun j z e g1 g2=>xff I (k j z e g1 g2)]
   exact q
theorem xcg (hu:X.A.units + 20 < cLine):OpR X (compareOp .NotIn) (rInV X.K true):=by
 intro pins s σ H x y v u Q I rx ry h
 obtain ⟨n,m,d,es,h1,h2,hn,hm,q⟩:=h
 cases h2 with
 | @lst m a xs _ ha hl k =>
  cases ry
  obtain ⟨its,r,pl,hz⟩:=I.list ha
  have get:∀ z ∈ xs,∃ (j:Nat) (e:DV),xs[j]?=some z∧es[j]?=some e∧Dv X.K H m z e:=fun z hz=>by
   obtain ⟨j,hj⟩:=List.getElem?_of_mem hz
   have lt:j < es.length:=by rw [← hl]; exact (List.getElem?_eq_some_iff.mp hj).1
   exact ⟨j,es[j],hj,List.getElem?_eq_getElem lt,k j z _ hj (List.getElem?_eq_getElem lt)⟩
  refine SeqAt.notIn_listAt (eU (eOf X.K H m d)) pl.isList (fun w hw=>?_) ⟨.bl _,H,I,rfl,?_⟩
  ·obtain ⟨z,m1,m2⟩:=xf3 r w (by simpa using hw)
   obtain ⟨j,e,_,_,he⟩:=get z m1
   rw [xi5 m2,xff I he]
   exact (xgw I he h1 (A:=X.A.in1) (by show X.A.units + 1 + m + n < cLine; omega) m2 rx).1
  ·rw [show its.toArray.any (eU (eOf X.K H m d))=its.any (eU (eOf X.K H m d)) by simp,xhp r,xhq (g:=fun z=>dEq z d) hl fun j z e g1 g2=>xff I (k j z e g1 g2)]
   exact q
end
end L2
set_option maxRecDepth 100000
set_option maxHeartbeats 1000000
namespace L2
open PySem PySem.Spec PyProof.Rows XL PySem.W
def Tp (H H':Hp):Prop:=∀ b xs,H b=some (.tup xs)→H' b=some (.tup xs)
theorem Same.tp {H H':Hp} (s:Same H H'):Tp H H':=fun b xs e=>s b _ e
theorem Tp.trans {H H' H'':Hp} (s:Tp H H') (r:Tp H' H''):Tp H H'':=fun b xs e=>r b xs (s b xs e)
theorem xjx {H:Hp} {l:Addr} {xs ys:List V} (h:H l=some (.lst xs)):Tp H (upd H l (.lst ys)):=fun b zs e=>by
 rw [xh (fun z=>by rw [z,h] at e; cases e)]
 exact e
section
variable {J:It} {n:Nat} {g:TG} {σ:St} {fr:List Nat} {tc:TT} {te:TE} {l:Addr} {H1:Hp} {Q:VK}
theorem xf6 (len:Nat) (hlen:len < sizeLine) (hl:H1 l=none) (x:Nat→V) (hgo:∀ i H,i < len→Same H1 H→J.go i H) (hy:∀ i H v H',i < len→Same H1 H→J.yld i H v H'→H'=H∧v=x i) (hst:∀ H,Same H1 H→J.stop len H)
    (p:Nat→Bool) (F:Nat→V→Hp→Prop) (stab:∀ i y H H',Tp H H'→F i y H→F i y H')
    (step:∀ i H2,i < len→Same H1 H2→∀ (N:V→Hp→Prop) (M:Hp→Prop),(∀ y H',Same H2 H'→p i=true→F i y H'→N y H')→(∀ H',Same H2 H'→p i=false→M H') →
      g (x i) (blk0 σ fr n) H2 fun σ' H3=>tc σ' H3 fun b H4=>if b=true then te σ' H4 N else M H4)
    (fin:∀ ys H2,Same H1 H2→H2 l=some (.lst ys)→ys.length=((List.range len).filter p).length→(∀ (j:Nat) (y:V) (i:Nat),ys[j]?=some y→((List.range len).filter p)[j]?=some i→F i y H2)→Q (.ref l) H2):xdk J n g σ fr tc te l H1 Q:=by
  refine xdx len (fun i ys H2=>Same H1 H2∧H2 l=some (.lst ys)∧ys.length=((List.range i).filter p).length∧∀ (j:Nat) (y:V) (k:Nat),ys[j]?=some y→((List.range i).filter p)[j]?=some k→F k y H2) ?_ ?_ ?_ ?_
  · refine ⟨fun b u e=>?_,xg,rfl,fun j y k e=>by simp at e⟩
    rw [xh (xf e hl)]
    exact e
  · rintro i ys H2 lt ⟨s,_⟩
    exact hgo i H2 lt s
  · rintro i ys H2 v H3 lt ⟨s,el,ly,f⟩ yl N hN
    obtain ⟨rfl,rfl⟩:=hy i H2 v H3 lt s yl
    refine step i H3 lt s _ _ (fun y H' s' pt hf=>?_) (fun H' s' pf=>?_)
    · have el':=s' _ _ el
      have ylen:ys.length < sizeLine:=by
        rw [ly]
        refine Nat.lt_of_le_of_lt (List.length_filter_le _ _) ?_
        rw [List.length_range]
        omega
      refine ⟨el',ylen,hN _ _ ⟨fun b u e=>?_,xg,?_,fun j z k e1 e2=>?_⟩⟩
      · rw [xh (xf e hl)]
        exact s' _ _ (s _ _ e)
      · rw [List.range_succ,List.filter_append,List.length_append,List.length_append,ly,List.filter_cons_of_pos pt]
        rfl
      · rw [List.range_succ,List.filter_append,List.filter_cons_of_pos pt] at e2
        by_cases c:j < ys.length
        · rw [List.getElem?_append_left c] at e1
          rw [List.getElem?_append_left (by omega)] at e2
          exact stab _ _ _ _ ((Same.tp s').trans (xjx el')) (f j z k e1 e2)
        · rw [List.getElem?_append_right (by omega)] at e1 e2
          rw [← ly] at e2
          cases hj:j - ys.length with
          | zero =>
            rw [hj] at e1 e2
            simp at e1 e2
            subst e1 e2
            exact stab _ _ _ _ (xjx el') hf
          | succ m =>
            rw [hj] at e1
            simp at e1
    · refine hN _ _ ⟨s.trans s',s' _ _ el,?_,fun j z k e1 e2=>?_⟩
      · rw [List.range_succ,List.filter_append,List.filter_cons_of_neg (by simp [pf])]
        simpa using ly
      · rw [List.range_succ,List.filter_append,List.filter_cons_of_neg (by simp [pf])] at e2
        simp only [List.filter_nil,List.append_nil] at e2
        exact stab _ _ _ _ (Same.tp s') (f j z k e1 e2)
  · rintro ys H2 ⟨s,el,ly,f⟩
    exact ⟨hst _ s,fin ys H2 s el ly f⟩
theorem xbi {K:PySem.W.Frag} {a:Addr} {xs:List V} (hs:SqL K H1 a xs) (hlen:xs.length < sizeLine) (hl:H1 l=none) (p:Nat→Bool) (F:Nat→V→Hp→Prop) (stab:∀ i y H H',Tp H H'→F i y H→F i y H')
    (step:∀ (i:Nat) (x:V) (H2:Hp),xs[i]?=some x→Same H1 H2→∀ (N:V→Hp→Prop) (M:Hp→Prop),(∀ y H',Same H2 H'→p i=true→F i y H'→N y H')→(∀ H',Same H2 H'→p i=false→M H') →
      g x (blk0 σ fr n) H2 fun σ' H3=>tc σ' H3 fun b H4=>if b=true then te σ' H4 N else M H4)
    (fin:∀ ys H2,Same H1 H2→H2 l=some (.lst ys)→ys.length=((List.range xs.length).filter p).length→(∀ (j:Nat) (y:V) (i:Nat),ys[j]?=some y→((List.range xs.length).filter p)[j]?=some i→F i y H2)→Q (.ref l) H2):xdk (Itl K a) n g σ fr tc te l H1 Q:=by
  refine xf6 xs.length hlen hl (fun i=>xs.getD i .non) (fun i H lt s=>⟨xs,xs[i],Same.seqL s hs,List.getElem?_eq_getElem lt⟩) (fun i H v H' lt s y=>?_) (fun H s=>⟨xs,Same.seqL s hs,Nat.le_refl _⟩) p F stab (fun i H2 lt s N M h1 h2=>?_) fin
  · obtain ⟨e,f⟩:=y
    have z:=f xs (Same.seqL s hs)
    refine ⟨e,?_⟩
    simp [z]
  · have e:xs[i]?=some (xs.getD i .non):=by simp [List.getElem?_eq_getElem lt]
    exact step i _ H2 e s N M h1 h2
theorem xhr {i:Nat} {x:V} {σ0:St} {H2:Hp} {N:V→Hp→Prop} {M:Hp→Prop} {g:TG} {te:TE} (h:g x σ0 H2 fun σ' H3=>te σ' H3 N):g x σ0 H2 fun σ' H3=>xeq σ' H3 fun b H4=>if b=true then te σ' H4 N else M H4:=by
 have e:(fun (σ':St) (H3:Hp)=>xeq σ' H3 fun b H4=>if b=true then te σ' H4 N else M H4)=fun σ' H3=>te σ' H3 N:=by
  funext σ' H3
  show (if true=true then te σ' H3 N else M H3)=te σ' H3 N
  rw [if_pos rfl]
 rw [e]
 exact h
theorem xfn (m:Nat):(List.range m).filter (fun _=>true)=List.range m:=by simp
theorem xbj {K:PySem.W.Frag} {a:Addr} {xs:List V} (hs:SqL K H1 a xs) (hlen:xs.length < sizeLine) (hl:H1 l=none) (F:Nat→V→Hp→Prop) (stab:∀ i y H H',Tp H H'→F i y H→F i y H')
    (step:∀ (i:Nat) (x:V) (H2:Hp),xs[i]?=some x→Same H1 H2→∀ (N:V→Hp→Prop),(∀ y H',Same H2 H'→F i y H'→N y H')→g x (blk0 σ fr n) H2 fun σ' H3=>te σ' H3 N)
    (fin:∀ ys H2,Same H1 H2→H2 l=some (.lst ys)→ys.length=xs.length→(∀ (i:Nat) (y:V),ys[i]?=some y→F i y H2)→Q (.ref l) H2):xdk (Itl K a) n g σ fr xeq te l H1 Q:=by
  refine xbi hs hlen hl (fun _=>true) F stab (fun i x H2 hx s N M h1 h2=>xhr (i:=i) (step i x H2 hx s N fun y H' s' f=>h1 y H' s' rfl f)) (fun ys H2 s e ly f=>?_)
  rw [xfn,List.length_range] at ly
  refine fin ys H2 s e ly fun i y hy=>f i y i hy ?_
  rw [xfn,List.getElem?_range (by have:=(List.getElem?_eq_some_iff.mp hy).1; omega)]
theorem xh0 {lo:Int} {m:Nat} (hlen:m < sizeLine) (hl:H1 l=none) (p:Nat→Bool) (F:Nat→V→Hp→Prop) (stab:∀ i y H H',Tp H H'→F i y H→F i y H')
    (step:∀ (i:Nat) H2,i < m→Same H1 H2→∀ (N:V→Hp→Prop) (M:Hp→Prop),(∀ y H',Same H2 H'→p i=true→F i y H'→N y H')→(∀ H',Same H2 H'→p i=false→M H') →
      g (.int (lo + i)) (blk0 σ fr n) H2 fun σ' H3=>tc σ' H3 fun b H4=>if b=true then te σ' H4 N else M H4)
    (fin:∀ ys H2,Same H1 H2→H2 l=some (.lst ys)→ys.length=((List.range m).filter p).length→(∀ (j:Nat) (y:V) (i:Nat),ys[j]?=some y→((List.range m).filter p)[j]?=some i→F i y H2)→Q (.ref l) H2):xdk (Itr lo m) n g σ fr tc te l H1 Q:=by
  exact xf6 m hlen hl (fun i=>.int (lo + i)) (fun i H lt s=>lt) (fun i H v H' lt s y=>y) (fun H s=>Nat.le_refl _) p F stab (fun i H2 lt s N M h1 h2=>step i H2 lt s N M h1 h2) fin
end
theorem xbx {α:Type} {f:α→V}:∀ {as:List α} {ys:List V},ys.length=as.length→(∀ (i:Nat) (y:V) (a:α),ys[i]?=some y→as[i]?=some a→y=f a)→ys=as.map f
 | [],[],_,_=>rfl
 | [],_ :: _,h,_=>by cases h
 | _ :: _,[],h,_=>by cases h
 | a :: as,y :: ys,h,k=>by
  rw [List.map_cons,k 0 y a rfl rfl,xbx (as:=as) (ys:=ys) (by simpa using h) fun i y' a' h1 h2=>k (i + 1) y' a' (by simpa using h1) (by simpa using h2)]
theorem xik {α:Type} (q:α→Bool):∀ (as:List α) (p:Nat→Bool),(∀ (i:Nat) (a:α),as[i]?=some a→p i=q a)→((List.range as.length).filter p).filterMap (fun i=>as[i]?)=as.filter q
 | [],_,_=>rfl
 | a :: as,p,h=>by
  have ih:=xik q as (fun i=>p (i + 1)) fun i b hb=>h (i + 1) b (by simpa using hb)
  rw [List.length_cons,List.range_succ_eq_map]
  have e:((List.range as.length).map Nat.succ).filter p=((List.range as.length).filter (fun i=>p (i + 1))).map Nat.succ:=by
   rw [List.filter_map]
   rfl
  have h0:=h 0 a rfl
  by_cases c:q a=true
  ·rw [List.filter_cons_of_pos (by rw [h0]; exact c),List.filter_cons_of_pos c,e,List.filterMap_cons]
   simp only [List.getElem?_cons_zero,List.filterMap_map]
   rw [← ih]
   rfl
  ·rw [List.filter_cons_of_neg (by rw [h0]; exact c),List.filter_cons_of_neg c,e,List.filterMap_map,← ih]
   rfl
theorem xf0 {α:Type} (q:α→Bool) {as:List α} {p:Nat→Bool} (h:∀ (i:Nat) (a:α),as[i]?=some a→p i=q a):((List.range as.length).filter p).length=(as.filter q).length∧∀ j i:Nat,((List.range as.length).filter p)[j]?=some i→as[i]?=(as.filter q)[j]?:=by
 rw [← xik q as p h]
 have all:∀ i ∈ (List.range as.length).filter p,∃ a,as[i]?=some a:=fun i hi=>by
  have:=List.mem_range.mp (List.mem_filter.mp hi).1
  exact ⟨as[i],List.getElem?_eq_getElem this⟩
 generalize (List.range as.length).filter p=is at all
 induction is with
 | nil=>exact ⟨rfl,fun j i e=>by simp at e⟩
 | cons i is ih =>
  obtain ⟨a,ha⟩:=all i List.mem_cons_self
  obtain ⟨h1,h2⟩:=ih fun k hk=>all k (List.mem_cons_of_mem _ hk)
  rw [List.filterMap_cons,ha]
  refine ⟨by simp [h1],fun j k e=>?_⟩
  cases j with
  | zero =>
   simp at e
   subst e
   exact ha
  | succ m=>exact h2 m k (by simpa using e)
end L2
set_option maxRecDepth 100000
set_option maxHeartbeats 1000000
namespace XL
open PySem PySem.MeetsSeq PySem.MeetsSeq2 PySem.MeetsSeq3 PySem.SeqAt
open AutoSeq1 (wpAny_loadPart')
end XL
namespace L2
open PySem PySem.Spec PyProof.Rows XL PySem.W
def xjr:Expr→Bool
 | .Starred _ _=>false
 | _=>true
theorem xiy {e:Expr} {es:List Expr} {env:Env} (h:xjr e=true):starEach (e :: es) env=(false,eval e env) :: starEach es env:=by
 cases e <;> first | rfl | cases h
theorem x8 {X:Cx} {e:Expr} {es:List Expr} {te:TE} {t:TA} (ha:PE X e te) (hr:PA X es t) (hn:xjr e=true):PA X (e :: es) (xl4 te t):=xa ha hr (xiy hn)
section
variable {X:Cx}
end
section
variable {J:It} {n:Nat} {g:TG} {σ:St} {fr:List Nat} {tc:TT} {te:TE} {l:Addr} {H1:Hp} {Q:VK}
end
end L2
set_option maxRecDepth 100000
set_option maxHeartbeats 1000000
namespace XL
open PySem L2
open PyProof.Rows (assign_Tuple)
section
variable {prog:Program} {w:World} {A:Around} {E:Value→Shared→Prop}
end
section
variable {X:Cx} {pos:Pos}
end
end XL
set_option maxRecDepth 100000
set_option maxHeartbeats 1000000
namespace L2
open PySem PySem.Spec PyProof.Rows XL PySem.W
section
variable {J:It} {n:Nat} {g:TG} {σ:St} {fr:List Nat} {tc:TT} {te:TE} {l:Addr} {H1:Hp} {Q:VK}
end
end L2
set_option maxRecDepth 100000
set_option maxHeartbeats 1000000
namespace L2
open PySem PySem.Spec PyProof.Rows XL PySem.W
section
variable {J:It} {n:Nat} {g:TG} {σ:St} {fr:List Nat} {tc:TT} {te:TE} {l:Addr} {H1:Hp} {Q:VK}
end
end L2
set_option maxRecDepth 100000
set_option maxHeartbeats 1000000
namespace L2
open PySem PySem.Spec PyProof.Rows XL PySem.W PySem.Builtin PySem.Builtin.Str
section
variable {prog:Program} {w:World} {A:Around} {E:Value→Shared→Prop} {s:Shared} {x y:Str} {t u:Tok} {Q:Value→Shared→Prop}
end
section
variable {X:Cx}
end
end L2
set_option maxRecDepth 100000
set_option maxHeartbeats 1000000
namespace L2
open PySem PySem.Spec PyProof.Rows XL
open AutoSeq1 (wpAny_loadPart')
section
variable {prog:Program} {w:World} {A:Around} {E:Value→Shared→Prop} {s:Shared}
end
section
variable {prog:Program} {w:World} {A:Around} {E:Value→Shared→Prop} {s:Shared}
end
section
variable {prog:Program} {w:World} {K:Type} [DecidableEq K] {knd:KeyKind prog w K} {A:Around} {E:Value→Shared→Prop} {s:Shared}
end
section
variable {X:Cx} {elts:List Expr} {x1:_} {tpos:Pos}
end
section
variable {X:Cx} {o:Expr} {to:TE} {tg:Expr} {apos cpos:Pos}
end
end L2
set_option maxRecDepth 100000
set_option maxHeartbeats 1000000
namespace L2
open PySem PySem.Spec PyProof.Rows XL
section
variable {prog:Program} {w:World} {A:Around} {E:Value→Shared→Prop} {s:Shared}
end
section
variable {X:Cx}
end
end L2
set_option maxRecDepth 100000
set_option maxHeartbeats 1000000
namespace L2
open PySem PySem.Spec PyProof.Rows XL
section
variable {X:Cx} {o:Expr} {to:TE} {tg:Expr}
end
end L2
set_option maxRecDepth 100000
set_option maxHeartbeats 1000000
namespace L2
open PySem PySem.Spec PyProof.Rows XL
open AutoSeq1 (wpAny_loadPart')
section
variable {M:Model} {A:Around} {E:Value→Shared→Prop} {s:Shared} {env:Env}
end
section
variable {prog:Program} {w:World} {A:Around} {E:Value→Shared→Prop} {s:Shared}
end
section
variable {prog:Program} {w:World} {A:Around} {E:Value→Shared→Prop} {s:Shared}
end
end L2
set_option maxRecDepth 100000
set_option maxHeartbeats 1000000
namespace L2
open PySem PySem.Spec PyProof.Rows XL
section
variable {X:Cx} {elts:List Expr} {x1:_} {tpos:Pos}
end
end L2
set_option maxRecDepth 100000
set_option maxHeartbeats 1000000
namespace L2
open PySem PySem.Spec PyProof.Rows XL
end L2
set_option maxRecDepth 100000
set_option maxHeartbeats 1000000
namespace L2
open PySem PySem.Spec PyProof.Rows XL PySem.W PySem.Builtin PySem.Builtin.Str
section
variable {J:It} {n:Nat} {g:TG} {σ:St} {fr:List Nat} {tc:TT} {te:TE} {l:Addr} {H1:Hp} {Q:VK}
theorem xfk {K:PySem.W.Frag} {a:Addr} {xs:List V} (hs:SqL K H1 a xs) (hlen:xs.length < sizeLine) (hl:H1 l=none) (F:Nat→List V→Hp→Prop) (F0:∀ H,Same H1 H→F 0 [] H) (stab:∀ i ys zs H H',H l=some (.lst zs)→(∀ b u,b≠l→H b=some u→H' b=some u)→F i ys H→F i ys H')
    (step:∀ (i:Nat) (x:V) (ys:List V) H2,xs[i]?=some x→Same H1 H2→H2 l=some (.lst ys)→F i ys H2→∀ (N:V→Hp→Prop),(∀ y H',Same H2 H'→F (i + 1) (ys ++ [y]) H'→N y H')→g x (blk0 σ fr n) H2 fun σ' H3=>te σ' H3 N)
    (fin:∀ ys H2,Same H1 H2→H2 l=some (.lst ys)→ys.length=xs.length→F xs.length ys H2→Q (.ref l) H2):xdk (Itl K a) n g σ fr xeq te l H1 Q:=by
  refine xdx xs.length (fun i ys H2=>Same H1 H2∧H2 l=some (.lst ys)∧ys.length=i∧F i ys H2) ?_ ?_ ?_ ?_
  · have s0:Same H1 (upd H1 l (.lst [])):=fun b u e=>by
      rw [xh (xf e hl)]
      exact e
    exact ⟨s0,xg,rfl,F0 _ s0⟩
  · rintro i ys H2 lt ⟨s,_⟩
    exact ⟨xs,xs[i],Same.seqL s hs,List.getElem?_eq_getElem lt⟩
  · rintro i ys H2 v H3 lt ⟨s,el,ly,f⟩ ⟨rfl,yv⟩ N hN
    have hv:=yv xs (Same.seqL s hs)
    refine xhr (i:=i) (step i v ys H3 hv s el f _ fun y H' s' f'=>?_)
    have el':=s' _ _ el
    refine ⟨el',by omega,hN _ _ ⟨fun b u e=>?_,xg,by simp [ly],stab _ _ _ _ _ el' (fun b u nb e=>?_) f'⟩⟩
    · rw [xh (xf e hl)]
      exact s' _ _ (s _ _ e)
    · rw [xh nb]
      exact e
  · rintro ys H2 ⟨s,el,ly,f⟩
    exact ⟨⟨xs,Same.seqL s hs,Nat.le_refl _⟩,fin ys H2 s el ly f⟩
end
end L2
set_option maxRecDepth 100000
set_option maxHeartbeats 1000000
namespace L2
open PySem PySem.Spec PyProof.Rows XL PySem.W PySem.Builtin PySem.Builtin.Str
section
variable {X:Cx}
end
end L2
namespace L2
open PySem PySem.Spec PyProof.Rows XL PySem.W
end L2
set_option maxRecDepth 100000
set_option maxHeartbeats 1000000
namespace L2
open PySem PySem.Spec PyProof.Rows XL PySem.W
section
variable {X:Cx}
end
end L2
namespace L2
open PySem PySem.Spec PyProof.Rows XL PySem.W
section
variable {X:Cx}
def sgnL (x:Str):List V:=x.cps.toList.map fun c=>V.str ⟨#[c]⟩
theorem xgo (hc:X.calm=true):xb9 X (.type "list") (fun xs H Q=>∃ x:Str,xs=[.str x]∧x.length≤1000∧∀ l,H l=none→Q (.ref l) (upd H l (.lst (sgnL x)))):=by
 intro pins s σ H xs us Q I r h
 obtain ⟨x,rfl,hn,q⟩:=h
 obtain ⟨u,rfl,t,rfl⟩:=xcw r
 refine PySem.call_list_str (I.ok.hd hc) x t (fun h' tk acc' c' kp e it=>?_) (Nat.le_trans hn (by decide))
 have len:acc'.toList.length=(sgnL x).length:=by
  rw [sgnL,List.length_map]
  have:=it.1
  simpa using this
 refine ⟨.ref s.heap.objs.size,_,I.laid (t':=tk) kp (Nat.le_refl _) (show xau X.prog X.w _ h' _ (.lst (sgnL x)) from ⟨?_,acc'.toList,c',xf7 len fun j y u ey eu=>?_,by simpa using e⟩),rfl,q _ (I.hok.fresh (Nat.le_refl _))⟩
 ·rw [sgnL,List.length_map]
  have:x.cps.toList.length=x.length:=by simp [Str.length]
  exact Nat.le_trans (by omega:_≤1000) (by decide)
 ·have eu':acc'[j]?=some u:=by simpa using eu
  obtain ⟨c,t2,e1,e2⟩:=it.2 j u eu'
  rw [sgnL,List.getElem?_map,Array.getElem?_toList,e1] at ey
  cases ey
  exact ⟨t2,e2⟩
end
end L2
set_option maxRecDepth 100000
set_option maxHeartbeats 1000000
namespace L2
open PySem PySem.Spec PyProof.Rows XL PySem.W
section
variable {J:It} {n:Nat} {g:TG} {σ:St} {fr:List Nat} {tc:TT} {te:TE} {l:Addr} {H1:Hp} {Q:VK} {α:Type}
end
end L2
set_option maxRecDepth 100000
set_option maxHeartbeats 1000000
namespace L2
open PySem PySem.Spec PyProof.Rows XL PySem.W PySem.Builtin PySem.Builtin.Str
section
variable {X:Cx}
end
end L2
set_option maxRecDepth 100000
set_option maxHeartbeats 1000000
namespace L2
open PySem PySem.Spec PyProof.Rows XL PySem.W PySem.Builtin PySem.Builtin.Str
end L2
set_option maxRecDepth 100000
set_option maxHeartbeats 1000000
namespace L2
open PySem PySem.Spec PyProof.Rows XL PySem.W PySem.Builtin PySem.Builtin.Str
section
variable {prog:Program} {w:World} {K:Type} [DecidableEq K] {A:Around} {E:Value→Shared→Prop} {s:Shared}
end
section
variable {prog:Program} {w:World} {K:Type} [DecidableEq K] {kk:KeyKind prog w K} {A:Around} {E:Value→Shared→Prop} {s:Shared}
end
end L2
set_option maxRecDepth 100000
namespace L2
open PySem
def th (a b:Int):Int:=reduceHash (Builtin.Tuple.tupleHashOf [hashInt a,hashInt b])
end L2
set_option maxRecDepth 100000
set_option maxHeartbeats 4000000
namespace XL
open PySem PySem.Spec PyProof.Rows
def xm5 (acc:List Str) (x:Str):List Str:=if acc.any (· == x)=true then acc else acc ++ [x]
section
variable {pr:Program} {wd:World} {ar:Around} {R:Result→Shared→Prop} {it:Addr} {fp wr:List Addr} {G:Array GenState→Array GenState→Prop} {n:Nat} {P:Nat→Value→Prop} {St:Nat→Shared→Prop}
end
section
variable {pr:Program} {wd:World} {ar:Around} {E:Value→Shared→Prop} {s:Shared}
end
end XL
set_option maxRecDepth 100000
set_option maxHeartbeats 4000000
namespace L2
open PySem PySem.Spec PyProof.Rows XL
def xpu (xs:List Str):Nat:=(xs.foldl xm5 []).length
section
variable {X:Cx}
end
end L2
set_option maxRecDepth 100000
set_option maxHeartbeats 4000000
namespace L2
open PySem PySem.Spec PyProof.Rows XL
end L2
namespace Geo
def dn (y r:Int):Int:=if y < r then 1 else -1
def upN (y r:Int):Nat:=if y < r then (r - y).toNat else (y - r).toNat
def wayI (b:Bool):Int:=if b then -1 else 1
def lvN (w x:Int) (b:Bool):Nat:=if b then (x + 1).toNat else (w + 2 - x).toNat
def upL (x y r:Int):List (Int × Int):=(List.range (upN y r)).map fun (i:Nat)=>(x,y + (i:Int) * dn y r)
def lvL (w x:Int) (b:Bool) (r:Int):List (Int × Int):=(List.range (lvN w x b)).map fun (i:Nat)=>(x + (i:Int) * wayI b,r)
def cells (w x y:Int) (b:Bool) (r:Int):List (Int × Int):=upL x y r ++ lvL w x b r
def btw (v a b:Int):Prop:=min a b≤v∧v≤max a b
instance (v a b:Int):Decidable (btw v a b):=inferInstanceAs (Decidable (_∧_))
def meet (l m:List (Int × Int)):Option (Int × Int):=l.find? fun c=>decide (c ∈ m)
end Geo
namespace Drw
variable {S:Type}
abbrev Cl:=Int × Int
def at_ (c:Cl) (L:List (Cl × S)):List S:=(L.filter fun x=>decide (x.1=c)).map (·.2)
def no:Cl→Option S:=fun _=>none
def ls (sp sb sm:S) (x r:Int) (c:Cl):S:=if c=(x,r) then sp else if c.1=x then sb else sm
theorem nd_map {α β:Type} {f:α→β} (inj:∀ a b,f a=f b→a=b) {l:List α} (h:l.Nodup):(l.map f).Nodup:=by
 rw [List.Nodup,List.pairwise_map]
 exact h.imp fun ne e=>ne (inj _ _ e)
end Drw
namespace Kp
def pc (n:Nat):Nat:=if h:n=0 then 0 else n % 2 + pc (n / 2)
termination_by n
decreasing_by omega
def subs {α:Type}:List α→List (List α)
 | []=>[[]]
 | a :: l=>subs l ++ (subs l).map (a :: ·)
theorem subs_mem {α:Type}:∀ {l S:List α},S ∈ subs l→(∀ a ∈ S,a ∈ l)∧S.length≤l.length
 | [],S,h=>by
  rw [List.mem_singleton.mp h]
  exact ⟨fun _ z=>(nomatch z),Nat.le_refl _⟩
 | b :: l,S,h=>by
  rcases List.mem_append.mp h with h | h
  ·have:=subs_mem h
   exact ⟨fun a ha=>List.mem_cons_of_mem _ (this.1 a ha),Nat.le_succ_of_le this.2⟩
  ·obtain ⟨S',hS,rfl⟩:=List.mem_map.mp h
   have:=subs_mem hS
   refine ⟨fun a ha=>?_,Nat.succ_le_succ this.2⟩
   rcases List.mem_cons.mp ha with rfl | ha
   ·exact List.mem_cons_self ..
   ·exact List.mem_cons_of_mem _ (this.1 a ha)
theorem subs_nd {α:Type}:∀ {l S:List α},l.Nodup→S ∈ subs l→S.Nodup
 | [],S,_,h=>by
  rw [List.mem_singleton.mp h]
  exact List.nodup_nil
 | b :: l,S,nd,h=>by
  rw [List.nodup_cons] at nd
  rcases List.mem_append.mp h with h | h
  ·exact subs_nd nd.2 h
  ·obtain ⟨S',hS,rfl⟩:=List.mem_map.mp h
   exact List.nodup_cons.mpr ⟨fun z=>nd.1 ((subs_mem hS).1 _ z),subs_nd nd.2 hS⟩
theorem subs_all {α:Type} [DecidableEq α]:∀ {l:List α} {T:List α},T.Nodup→(∀ a ∈ T,a ∈ l)→∃ S ∈ subs l,S.Perm T
 | [],T,_,h=>by
  cases T with
  | nil=>exact ⟨[],List.mem_singleton.mpr rfl,List.Perm.refl _⟩
  | cons a T=>exact nomatch h a (List.mem_cons_self ..)
 | b :: l,T,nd,h=>by
  by_cases hb:b ∈ T
  ·have p:=List.perm_cons_erase hb
   have nd':(b :: T.erase b).Nodup:=p.nodup_iff.mp nd
   rw [List.nodup_cons] at nd'
   obtain ⟨S,hS,pS⟩:=subs_all (l:=l) (T:=T.erase b) nd'.2 (fun a ha=>by
    rcases List.mem_cons.mp (h a (List.mem_of_mem_erase ha)) with rfl | z
    ·exact absurd ha nd'.1
    ·exact z)
   exact ⟨b :: S,List.mem_append_right _ (List.mem_map.mpr ⟨S,hS,rfl⟩),(pS.cons b).trans p.symm⟩
  ·obtain ⟨S,hS,pS⟩:=subs_all (l:=l) (T:=T) nd (fun a ha=>by
    rcases List.mem_cons.mp (h a ha) with rfl | z
    ·exact absurd ha hb
    ·exact z)
   exact ⟨S,List.mem_append_left _ hS,pS⟩
section
variable {N S:Type} [DecidableEq N] [DecidableEq S]
structure Mt (room:N→List S) (so:N→Option S) (ho:S→Option N):Prop where
 iff:∀ n s,so n=some s ↔ ho s=some n
 rm:∀ n s,so n=some s→s ∈ room n
theorem Mt.inj {room:N→List S} {so:N→Option S} {ho:S→Option N} (m:Mt room so ho) {a b:N} {s:S} (ha:so a=some s) (hb:so b=some s):a=b:=by
 have x:=(m.iff a s).mp ha
 rw [(m.iff b s).mp hb] at x
 exact (Option.some.inj x).symm
theorem xc7 {so:N→Option S}:∀ {T:List N},T.Nodup→(∀ a ∈ T,∀ b ∈ T,∀ s,so a=some s→so b=some s→a=b)→(T.filterMap so).Nodup
 | [],_,_=>List.nodup_nil
 | a :: T,nd,inj=>by
  rw [List.nodup_cons] at nd
  have ih:=xc7 nd.2 fun x hx y hy=>inj x (List.mem_cons_of_mem _ hx) y (List.mem_cons_of_mem _ hy)
  rw [List.filterMap_cons]
  cases e:so a with
  | none=>exact ih
  | some s =>
   refine List.nodup_cons.mpr ⟨fun z=>?_,ih⟩
   obtain ⟨b,hb,eb⟩:=List.mem_filterMap.mp z
   rw [inj a (List.mem_cons_self ..) b (List.mem_cons_of_mem _ hb) s e eb] at nd
   exact nd.1 hb
theorem xb7 {so:N→Option S}:∀ {T:List N},(∀ a ∈ T,(so a).isSome)→(T.filterMap so).length=T.length
 | [],_=>rfl
 | a :: T,h=>by
  rw [List.filterMap_cons]
  cases e:so a with
  | none =>
   have:=h a (List.mem_cons_self ..)
   rw [e] at this
   cases this
  | some s =>
   show (s :: T.filterMap so).length=_
   rw [List.length_cons,List.length_cons,xb7 fun b hb=>h b (List.mem_cons_of_mem _ hb)]
def tog (room:N→List S) (T:List N) (s:S):Bool:=T.any fun n=>decide (s ∈ room n)
theorem hall {room:N→List S} {so:N→Option S} {ho:S→Option N} (m:Mt room so ho) {ss:List S} (hr:∀ n s,s ∈ room n→s ∈ ss) {T:List N} (nd:T.Nodup) (h:∀ a ∈ T,(so a).isSome):T.length≤ss.countP (tog room T):=by
 rw [List.countP_eq_length_filter,← xb7 h]
 refine List.Nodup.length_le_of_subset (xc7 nd fun a _ b _ s ha hb=>m.inj ha hb) fun s hs=>?_
 obtain ⟨n,hn,e⟩:=List.mem_filterMap.mp hs
 have r:=m.rm n s e
 exact List.mem_filter.mpr ⟨hr n s r,List.any_eq_true.mpr ⟨n,hn,decide_eq_true r⟩⟩
structure Crowd (room:N→List S) (so:N→Option S) (name:N) (hs:List N):Prop where
 nd:(name :: hs).Nodup
 has:∀ h ∈ hs,(so h).isSome
 all:∀ c ∈ name :: hs,∀ s ∈ room c,∃ h ∈ hs,so h=some s
theorem Crowd.count {room:N→List S} {so:N→Option S} {ho:S→Option N} (m:Mt room so ho) {name:N} {hs:List N} (c:Crowd room so name hs) {ss:List S} (nd:ss.Nodup) (hr:∀ n s,s ∈ room n→s ∈ ss):ss.countP (tog room (name :: hs))=hs.length:=by
 rw [List.countP_eq_length_filter]
 have ndh:=(List.nodup_cons.mp c.nd).2
 refine Nat.le_antisymm ?_ ?_
 ·rw [← xb7 c.has]
  refine List.Nodup.length_le_of_subset (List.Pairwise.filter _ nd) fun s hs'=>?_
  obtain ⟨n,hn,e⟩:=List.any_eq_true.mp (List.mem_filter.mp hs').2
  obtain ⟨h,hh,e'⟩:=c.all n hn s (of_decide_eq_true e)
  exact List.mem_filterMap.mpr ⟨h,hh,e'⟩
 ·rw [← xb7 c.has]
  refine List.Nodup.length_le_of_subset (xc7 ndh fun a _ b _ s ha hb=>m.inj ha hb) fun s hs'=>?_
  obtain ⟨n,hn,e⟩:=List.mem_filterMap.mp hs'
  have r:=m.rm n s e
  exact List.mem_filter.mpr ⟨hr n s r,List.any_eq_true.mpr ⟨n,List.mem_cons_of_mem _ hn,decide_eq_true r⟩⟩
theorem tog_perm {room:N→List S} {T T':List N} (p:T.Perm T') (s:S):tog room T s=tog room T' s:=by
 unfold tog
 rw [Bool.eq_iff_iff,List.any_eq_true,List.any_eq_true]
 constructor
 ·rintro ⟨n,h,e⟩
  exact ⟨n,p.mem_iff.mp h,e⟩
 ·rintro ⟨n,h,e⟩
  exact ⟨n,p.mem_iff.mpr h,e⟩
def upd1 {α β:Type} [DecidableEq α] (f:α→Option β) (a:α) (b:β):α→Option β:=fun z=>if z=a then some b else f z
structure Hand (room:N→List S) (dom:N→Bool) (so:N→Option S) (ho:S→Option N) (wait:S):Prop where
 iff:∀ n s,s≠wait→(so n=some s ↔ ho s=some n)
 rm:∀ n s,so n=some s→s ∈ room n
 no:∀ n,so n≠some wait
 dm:∀ n,(so n).isSome=dom n
theorem Mt.hand {room:N→List S} {so:N→Option S} {ho:S→Option N} (m:Mt room so ho) {s:S} (h:ho s=none):Hand room (fun n=>(so n).isSome) so ho s :=
 ⟨fun n s _=>m.iff n s,m.rm,fun n e=>(by rw [(m.iff n s).mp e] at h; cases h),fun _=>rfl⟩
theorem Hand.step {room:N→List S} {dom:N→Bool} {so:N→Option S} {ho:S→Option N} {s s1:S} {a:N} (g:Hand room dom so ho s) (ra:s ∈ room a) (e:so a=some s1):Hand room dom (upd1 so a s) (upd1 ho s a) s1:=by
 have ne:s1≠s:=fun z=>g.no a (z ▸ e)
 refine ⟨fun n x hx=>?_,fun n x hx=>?_,fun n hx=>?_,fun n=>?_⟩
 ·unfold upd1
  by_cases h1:n=a
  ·subst h1
   rw [if_pos rfl]
   by_cases h2:x=s
   ·rw [if_pos h2,h2]
    simp
   ·rw [if_neg h2]
    constructor
    ·intro z
     exact absurd (Option.some.inj z).symm h2
    ·intro z
     have:=(g.iff n x h2).mpr z
     rw [e] at this
     exact absurd (Option.some.inj this).symm hx
  ·rw [if_neg h1]
   by_cases h2:x=s
   ·subst h2
    rw [if_pos rfl]
    constructor
    ·intro z
     exact absurd z (g.no n)
    ·intro z
     exact absurd (Option.some.inj z).symm h1
   ·rw [if_neg h2]
    exact g.iff n x h2
 ·unfold upd1 at hx
  split at hx
  ·rename_i h1
   rw [h1,← Option.some.inj hx]
   exact ra
  ·exact g.rm n x hx
 ·unfold upd1 at hx
  split at hx
  ·exact ne (Option.some.inj hx).symm
  ·rename_i h1
   have x1:=(g.iff n s1 ne).mp hx
   rw [(g.iff a s1 ne).mp e] at x1
   exact h1 (Option.some.inj x1).symm
 ·unfold upd1
  split
  ·rename_i h1
   rw [h1,← g.dm a,e]
   rfl
  ·exact g.dm n
theorem Hand.last {room:N→List S} {dom:N→Bool} {so:N→Option S} {ho:S→Option N} {s:S} {a:N} (g:Hand room dom so ho s) (ra:s ∈ room a) (e:so a=none):Mt room (upd1 so a s) (upd1 ho s a)∧∀ n,(upd1 so a s n).isSome=(decide (n=a) || dom n):=by
 refine ⟨⟨fun n x=>?_,fun n x hx=>?_⟩,fun n=>?_⟩
 ·unfold upd1
  by_cases h1:n=a
  ·subst h1
   rw [if_pos rfl]
   by_cases h2:x=s
   ·rw [if_pos h2,h2]
    simp
   ·rw [if_neg h2]
    constructor
    ·intro z
     exact absurd (Option.some.inj z).symm h2
    ·intro z
     have:=(g.iff n x h2).mpr z
     rw [e] at this
     cases this
  ·rw [if_neg h1]
   by_cases h2:x=s
   ·subst h2
    rw [if_pos rfl]
    constructor
    ·intro z
     exact absurd z (g.no n)
    ·intro z
     exact absurd (Option.some.inj z).symm h1
   ·rw [if_neg h2]
    exact g.iff n x h2
 ·unfold upd1 at hx
  split at hx
  ·rename_i h1
   rw [h1,← Option.some.inj hx]
   exact ra
  ·exact g.rm n x hx
 ·unfold upd1
  split
  ·rename_i h1
   simp [h1]
  ·rename_i h1
   rw [← g.dm n]
   simp [h1]
end
end Kp
namespace Kp
inductive Rch {α:Type} (f:α→Option α):α→α→Prop
 | refl (a:α):Rch f a a
 | step {a b c:α}:Rch f a b→f b=some c→Rch f a c
theorem Rch.trans {α:Type} {f:α→Option α} {a b c:α} (h:Rch f a b) (g:Rch f b c):Rch f a c:=by
 induction g with
 | refl=>exact h
 | step _ e ih=>exact .step ih e
theorem Rch.head {α:Type} {f:α→Option α} {a b:α} (h:Rch f a b):a=b∨∃ d,f a=some d∧Rch f d b:=by
 induction h with
 | refl=>exact .inl rfl
 | step g e ih =>
  rcases ih with rfl | ⟨d,e1,g1⟩
  ·exact .inr ⟨_,e,.refl _⟩
  ·exact .inr ⟨d,e1,.step g1 e⟩
theorem Rch.lin {α:Type} {f:α→Option α} {a b c:α} (h:Rch f a b) (g:Rch f a c):Rch f b c∨Rch f c b:=by
 induction h with
 | refl=>exact .inl g
 | step h e ih =>
  rcases ih with z | z
  ·rcases z.head with rfl | ⟨d,e1,g1⟩
   ·exact .inr (.step (.refl _) e)
   ·rw [e] at e1
    cases e1
    exact .inl g1
  ·exact .inr (.step z e)
theorem Rch.det {α:Type} {f:α→Option α} {a b c:α} (h:Rch f a b) (n1:f b=none) (g:Rch f a c) (n2:f c=none):b=c:=by
 rcases h.lin g with z | z
 ·rcases z.head with e | ⟨d,e1,_⟩
  ·exact e
  ·rw [n1] at e1
   cases e1
 ·rcases z.head with e | ⟨d,e1,_⟩
  ·exact e.symm
  ·rw [n2] at e1
   cases e1
inductive KS (N S:Type) where
 | ask (crowd:List N) (asked:S→Option N) (i j:Nat)
 | hand (so:N→Option S) (ho:S→Option N) (asked:S→Option N) (s:S)
 | out (crowd:List N)
 | fin (so:N→Option S) (ho:S→Option N)
section
variable {N S:Type} [DecidableEq N] [DecidableEq S]
def kstep (room:N→List S) (so:N→Option S) (ho:S→Option N):KS N S→Option (KS N S)
 | .ask crowd asked i j=>match crowd[i]? with
  | none=>some (.out crowd)
  | some a=>match (room a)[j]? with
   | none=>some (.ask crowd asked (i + 1) 0)
   | some s=>match asked s with
    | some _=>some (.ask crowd asked i (j + 1))
    | none=>match ho s with
     | none=>some (.hand so ho (upd1 asked s a) s)
     | some h=>some (.ask (crowd ++ [h]) (upd1 asked s a) i (j + 1))
 | .hand so1 ho1 asked s=>match asked s with
  | none=>none
  | some a=>match so1 a with
   | none=>some (.fin (upd1 so1 a s) (upd1 ho1 s a))
   | some l=>some (.hand (upd1 so1 a s) (upd1 ho1 s a) asked l)
 | .out _=>none
 | .fin _ _=>none
variable {room:N→List S} {so so1:N→Option S} {ho ho1 asked:S→Option N} {crowd:List N} {i j:Nat} {a h:N} {s l:S}
theorem k_end (e:crowd[i]?=none):kstep room so ho (.ask crowd asked i j)=some (.out crowd):=by
 simp only [kstep,e]
theorem k_next (e:crowd[i]?=some a) (e2:(room a)[j]?=none):kstep room so ho (.ask crowd asked i j)=some (.ask crowd asked (i + 1) 0):=by
 simp only [kstep,e,e2]
theorem k_old (e:crowd[i]?=some a) (e2:(room a)[j]?=some s) (e3:asked s=some h):kstep room so ho (.ask crowd asked i j)=some (.ask crowd asked i (j + 1)):=by
 simp only [kstep,e,e2,e3]
theorem k_free (e:crowd[i]?=some a) (e2:(room a)[j]?=some s) (e3:asked s=none) (e4:ho s=none):kstep room so ho (.ask crowd asked i j)=some (.hand so ho (upd1 asked s a) s):=by
 simp only [kstep,e,e2,e3,e4]
theorem k_grow (e:crowd[i]?=some a) (e2:(room a)[j]?=some s) (e3:asked s=none) (e4:ho s=some h):kstep room so ho (.ask crowd asked i j)=some (.ask (crowd ++ [h]) (upd1 asked s a) i (j + 1)):=by
 simp only [kstep,e,e2,e3,e4]
theorem k_hand (e:asked s=some a) (e2:so1 a=some l):kstep room so ho (.hand so1 ho1 asked s)=some (.hand (upd1 so1 a s) (upd1 ho1 s a) asked l):=by
 simp only [kstep,e,e2]
theorem k_fin (e:asked s=some a) (e2:so1 a=none):kstep room so ho (.hand so1 ho1 asked s)=some (.fin (upd1 so1 a s) (upd1 ho1 s a)):=by
 simp only [kstep,e,e2]
end
end Kp
namespace Kp
section
variable {α:Type} [DecidableEq α]
structure Rk (N:List α→Nat):Prop where
 mono:∀ {S T:List α},(∀ x ∈ S,x ∈ T)→N S≤N T
 subm:∀ {X Y U I:List α},(∀ x ∈ U,x ∈ X∨x ∈ Y)→(∀ x ∈ I,x ∈ X∧x ∈ Y)→N U + N I≤N X + N Y
def okN (N:List α→Nat) (keep:List α) (nm:α):Bool:=(subs keep.reverse).all fun S=>decide (S.length + 1≤N (nm :: S))
def stepN (N:List α→Nat) (keep:List α) (nm:α):List α:=if okN N keep nm then keep ++ [nm] else keep
def keepN (N:List α→Nat) (ns:List α):List α:=ns.foldl (stepN N) []
theorem keepN_snoc (N:List α→Nat) (ns:List α) (nm:α):keepN N (ns ++ [nm])=stepN N (keepN N ns) nm:=by
 unfold keepN
 rw [List.foldl_append]
 rfl
theorem snoc_ind {P:List α→Prop} (h0:P []) (h1:∀ l a,P l→P (l ++ [a])):∀ l,P l:=fun l=>by
 rw [← List.reverse_reverse l]
 induction l.reverse with
 | nil=>exact h0
 | cons a r ih =>
  rw [List.reverse_cons]
  exact h1 _ _ ih
variable {N:List α→Nat}
theorem Rk.congr (h:Rk N) {S T:List α} (e:∀ x,x ∈ S ↔ x ∈ T):N S=N T:=Nat.le_antisymm (h.mono fun x hx=>(e x).mp hx) (h.mono fun x hx=>(e x).mpr hx)
theorem xc1 (h:Rk N) {keep:List α} (kd:keep.Nodup) {nm:α}:okN N keep nm=true ↔ ∀ S:List α,S.Nodup→(∀ x ∈ S,x ∈ keep)→S.length + 1≤N (nm :: S):=by
 unfold okN
 rw [List.all_eq_true]
 constructor
 ·intro k S nd hS
  obtain ⟨S',hS',p⟩:=subs_all (l:=keep.reverse) nd fun x hx=>List.mem_reverse.mpr (hS x hx)
  have z:=of_decide_eq_true (k S' hS')
  rw [p.length_eq] at z
  rw [h.congr (T:=nm :: S') fun x=>by rw [List.mem_cons,List.mem_cons,p.mem_iff]]
  exact z
 ·intro k S hS
  exact decide_eq_true (k S (subs_nd ((List.reverse_perm _).nodup_iff.mpr kd) hS) fun x hx=>List.mem_reverse.mp ((subs_mem hS).1 x hx))
theorem xeh (h:Rk N) {keep:List α} (kd:keep.Nodup) {nm:α} (o:¬ okN N keep nm=true):∃ C:List α,C.Nodup∧(∀ x ∈ C,x ∈ keep)∧N (nm :: C)≤C.length:=by
 refine Classical.byContradiction fun c=>o ((xc1 h kd).mpr fun S nd hS=>?_)
 refine Classical.byContradiction fun z=>c ⟨S,nd,hS,by omega⟩
theorem keepN_sub (ns:List α):∀ x ∈ keepN N ns,x ∈ ns:=by
 refine snoc_ind (P:=fun ns=>∀ x ∈ keepN N ns,x ∈ ns) (fun x hx=>nomatch hx) (fun l a ih x hx=>?_) ns
 rw [keepN_snoc] at hx
 unfold stepN at hx
 split at hx
 ·rcases List.mem_append.mp hx with hx | hx
  ·exact List.mem_append_left _ (ih x hx)
  ·exact List.mem_append_right _ hx
 ·exact List.mem_append_left _ (ih x hx)
theorem keepN_nd {ns:List α} (nd:ns.Nodup):(keepN N ns).Nodup:=by
 revert nd
 refine snoc_ind (P:=fun ns=>ns.Nodup→(keepN N ns).Nodup) (fun _=>List.nodup_nil) (fun l a ih nd=>?_) ns
 rw [List.nodup_append] at nd
 rw [keepN_snoc]
 unfold stepN
 split
 ·rw [List.nodup_append]
  exact ⟨ih nd.1,by simp,fun x hx y hy e=>nd.2.2 x (keepN_sub l x hx) y hy e⟩
 ·exact ih nd.1
theorem xce {C:List α} {e:α} (he:e ∈ C):(C.erase e).length + 1=C.length:=by
 rw [List.length_erase_of_mem he]
 have:=List.length_pos_of_mem he
 omega
theorem xdg (h:Rk N) {ns:List α} (nd:ns.Nodup):∀ S:List α,S.Nodup→(∀ x ∈ S,x ∈ keepN N ns)→S.length≤N S:=by
 revert nd
 refine snoc_ind (P:=fun ns=>ns.Nodup→∀ S:List α,S.Nodup→(∀ x ∈ S,x ∈ keepN N ns)→S.length≤N S) (fun _ S _ hS=>?_) (fun l a ih nd S sn hS=>?_) ns
 ·cases S with
  | nil=>exact Nat.zero_le _
  | cons x r=>exact nomatch hS x (List.mem_cons_self ..)
 ·rw [List.nodup_append] at nd
  rw [keepN_snoc] at hS
  unfold stepN at hS
  split at hS
  ·rename_i ok
   by_cases ha:a ∈ S
   ·have z:=(xc1 h (keepN_nd nd.1)).mp ok (S.erase a) (sn.erase a) fun x hx=>by
     have x1:=List.mem_of_mem_erase hx
     rcases List.mem_append.mp (hS x x1) with y | y
     ·exact y
     ·rw [List.mem_singleton.mp y] at hx
      exact absurd hx (fun w=>((List.Nodup.mem_erase_iff sn).mp w).1 rfl)
    rw [xce ha] at z
    exact Nat.le_trans z (h.mono fun x hx=>by
     rcases List.mem_cons.mp hx with rfl | hx
     ·exact ha
     ·exact List.mem_of_mem_erase hx)
   ·exact ih nd.1 S sn fun x hx=>by
     rcases List.mem_append.mp (hS x hx) with y | y
     ·exact y
     ·rw [List.mem_singleton.mp y] at hx
      exact absurd hx ha
  ·exact ih nd.1 S sn hS
theorem xf8 {A B:List α} (na:A.Nodup) (nb:B.Nodup):∃ U I:List α,U.Nodup∧I.Nodup∧U.length + I.length=A.length + B.length∧(∀ x,x ∈ U ↔ x ∈ A∨x ∈ B)∧∀ x,x ∈ I ↔ x ∈ A∧x ∈ B:=by
 refine ⟨A ++ B.filter fun x=>!decide (x ∈ A),B.filter fun x=>decide (x ∈ A),?_,List.Pairwise.filter _ nb,?_,fun x=>?_,fun x=>?_⟩
 ·rw [List.nodup_append]
  refine ⟨na,List.Pairwise.filter _ nb,fun x hx y hy e=>?_⟩
  have k:=(List.mem_filter.mp hy).2
  rw [← e] at k
  simp [hx] at k
 ·rw [List.length_append]
  have:∀ l:List α,(l.filter fun x=>!decide (x ∈ A)).length + (l.filter fun x=>decide (x ∈ A)).length=l.length:=by
   intro l
   induction l with
   | nil=>rfl
   | cons a l ih =>
    by_cases c:a ∈ A
    ·rw [List.filter_cons_of_neg (by simp [c]),List.filter_cons_of_pos (by simp [c]),List.length_cons,List.length_cons]
     omega
    ·rw [List.filter_cons_of_pos (by simp [c]),List.filter_cons_of_neg (by simp [c]),List.length_cons,List.length_cons]
     omega
  have:=this B
  omega
 ·rw [List.mem_append,List.mem_filter]
  by_cases c:x ∈ A <;> simp [c]
 ·rw [List.mem_filter]
  by_cases c:x ∈ A <;> simp [c]
theorem xga (h:Rk N) {K:List α} {e nm:α} {C Ce:List α} (ok:∀ S:List α,S.Nodup→(∀ x ∈ S,x ∈ K)→S.length + 1≤N (nm :: S)) (ce1:Ce.Nodup) (ce2:∀ x ∈ Ce,x ∈ K) (ce3:N (e :: Ce)≤Ce.length)
    (c1:C.Nodup) (c2:∀ x ∈ C,x ∈ K∨x=e) (he:e ∈ C) (c3:N (nm :: C)≤C.length) (ind:∀ S:List α,S.Nodup→(∀ x ∈ S,x ∈ C∧x≠e)→S.length + 1≤N (e :: S)):False:=by
  have a1:(C.erase e).Nodup:=c1.erase e
  have a2:∀ x ∈ C.erase e,x ∈ C∧x≠e:=fun x hx=>⟨List.mem_of_mem_erase hx,fun z=>((List.Nodup.mem_erase_iff c1).mp hx).1 z⟩
  have al:=xce he
  obtain ⟨U,I,un,inn,ul,um,im⟩:=xf8 ce1 a1
  have k1:=ok U un fun x hx=>by
    rcases (um x).mp hx with y | y
    · exact ce2 x y
    · rcases c2 x (a2 x y).1 with z | z
      · exact z
      · exact absurd z (a2 x y).2
  have k2:=ind I inn fun x hx=>a2 x ((im x).mp hx).2
  have sm:=h.subm (X:=e :: Ce) (Y:=nm :: C) (U:=nm :: U) (I:=e :: I) (fun x hx=>by
    rcases List.mem_cons.mp hx with rfl | hx
    · exact .inr (List.mem_cons_self ..)
    · rcases (um x).mp hx with y | y
      · exact .inl (List.mem_cons_of_mem _ y)
      · exact .inr (List.mem_cons_of_mem _ (a2 x y).1)) (fun x hx=>by
    rcases List.mem_cons.mp hx with rfl | hx
    · exact ⟨List.mem_cons_self ..,List.mem_cons_of_mem _ he⟩
    · exact ⟨List.mem_cons_of_mem _ ((im x).mp hx).1,List.mem_cons_of_mem _ (a2 x ((im x).mp hx).2).1⟩)
  omega
theorem xij (h:Rk N) {K:List α} (ind:∀ S:List α,S.Nodup→(∀ x ∈ S,x ∈ K)→S.length≤N S) {e nm:α} {C Ce:List α} (ce1:Ce.Nodup) (ce2:∀ x ∈ Ce,x ∈ K) (ce3:N (e :: Ce)≤Ce.length) (c1:C.Nodup) (c2:∀ x ∈ C,x ∈ K) (c3:N (nm :: C)≤C.length) :
    ∃ U:List α,U.Nodup∧(∀ x ∈ U,x ∈ K)∧N (nm :: e :: U)≤U.length:=by
  obtain ⟨U,I,un,inn,ul,um,im⟩:=xf8 c1 ce1
  have uk:∀ x ∈ U,x ∈ K:=fun x hx=>((um x).mp hx).elim (c2 x) (ce2 x)
  refine ⟨U,un,uk,?_⟩
  have k:=ind I inn fun x hx=>c2 x ((im x).mp hx).1
  have sm:=h.subm (X:=nm :: C) (Y:=e :: Ce) (U:=nm :: e :: U) (I:=I) (fun x hx=>by
    rcases List.mem_cons.mp hx with rfl | hx
    · exact .inl (List.mem_cons_self ..)
    · rcases List.mem_cons.mp hx with rfl | hx
      · exact .inr (List.mem_cons_self ..)
      · exact ((um x).mp hx).imp (List.mem_cons_of_mem _) (List.mem_cons_of_mem _)) (fun x hx=>⟨List.mem_cons_of_mem _ ((im x).mp hx).1,List.mem_cons_of_mem _ ((im x).mp hx).2⟩)
  omega
structure More (N:List α→Nat) (K L:List α) (es:List α):Prop where
 le:es.length≤1
 cov:∀ x ∈ L,x ∈ K∨x ∈ es
 out:∀ e ∈ es,e ∈ L∧e ∉ K∧∃ C:List α,C.Nodup∧(∀ x ∈ C,x ∈ K)∧N (e :: C)≤C.length
theorem xac {keep:List α} {nm x:α}:x ∈ stepN N keep nm ↔ x ∈ keep∨(x=nm∧okN N keep nm=true):=by
 unfold stepN
 split
 ·rename_i ok
  simp [ok]
 ·rename_i ok
  simp [ok]
theorem seat_more {N':List α→Nat} {T:List α→Nat} (h:Rk N) (h':Rk N') (e:∀ S,N' S=N S + T S) (t1:∀ S,T S≤1) (tm:∀ {S R:List α},(∀ x ∈ S,x ∈ R)→T S≤T R) {ns:List α} (nd:ns.Nodup) :
    (∀ x ∈ keepN N ns,x ∈ keepN N' ns)∧∃ es,More N (keepN N ns) (keepN N' ns) es:=by
  revert nd
  refine snoc_ind (P:=fun ns=>ns.Nodup→(∀ x ∈ keepN N ns,x ∈ keepN N' ns)∧∃ es,More N (keepN N ns) (keepN N' ns) es) (fun _=>⟨fun _ z=>(nomatch z),[],Nat.zero_le _,fun _ z=>(nomatch z),fun _ z=>(nomatch z)⟩) (fun l nm ih nd=>?_) ns
  rw [List.nodup_append] at nd
  obtain ⟨sub,es,mo⟩:=ih nd.1
  have nl:nm ∉ l:=fun z=>nd.2.2 nm z nm (List.mem_singleton.mpr rfl) rfl
  have kd:=keepN_nd (N:=N) nd.1
  have kd':=keepN_nd (N:=N') nd.1
  have ind:=xdg h nd.1
  have ind':=xdg h' nd.1
  have ks:=keepN_sub (N:=N) l
  have ks':=keepN_sub (N:=N') l
  rw [keepN_snoc,keepN_snoc]
  generalize keepN N l=K at *
  generalize keepN N' l=K' at *
  have nk:nm ∉ K:=fun z=>nl (ks nm z)
  have up:okN N K nm=true→okN N' K' nm=true:=fun ok=>by
    rw [xc1 h kd] at ok
    refine Classical.byContradiction fun no=>?_
    obtain ⟨C,c1,c2,c3⟩:=xeh h' kd' no
    rw [e] at c3
    by_cases inK:∀ x ∈ C,x ∈ K
    · have:=ok C c1 inK
      omega
    · obtain ⟨x,hx⟩:=Classical.not_forall.mp inK
      obtain ⟨hx,hk⟩:=Classical.not_imp.mp hx
      have xe:=(mo.cov x (c2 x hx)).resolve_left hk
      have es1:∀ y ∈ es,y=x:=fun y hy=>by
        match es,mo.le,xe,hy with
        | [z],_,xe,hy=>rw [List.mem_singleton.mp xe,List.mem_singleton.mp hy]
      obtain ⟨_,_,Ce,ce1,ce2,ce3⟩:=mo.out x xe
      have c2':∀ y ∈ C,y ∈ K∨y=x:=fun y hy=>(mo.cov y (c2 y hy)).imp id (es1 y)
      have al:=xce hx
      have t:=t1 (nm :: C)
      by_cases t0:T (nm :: C)=0
      · refine xga h ok ce1 ce2 ce3 c1 c2' hx (by omega) fun S sn hS=>?_
        have k:=ind' (x :: S) (List.nodup_cons.mpr ⟨fun z=>(hS x z).2 rfl,sn⟩) fun y hy=>by
          rcases List.mem_cons.mp hy with rfl | hy
          · exact c2 _ hx
          · exact c2 y (hS y hy).1
        rw [e,List.length_cons] at k
        have tz:=tm (S:=x :: S) (R:=nm :: C) fun y hy=>by
          rcases List.mem_cons.mp hy with rfl | hy
          · exact List.mem_cons_of_mem _ hx
          · exact List.mem_cons_of_mem _ (hS y hy).1
        omega
      · have k:=ok (C.erase x) (c1.erase x) fun y hy=>by
          rcases c2' y (List.mem_of_mem_erase hy) with z | z
          · exact z
          · exact absurd z fun z=>((List.Nodup.mem_erase_iff c1).mp hy).1 z
        have m:=h.mono (S:=nm :: C.erase x) (T:=nm :: C) fun y hy=>by
          rcases List.mem_cons.mp hy with rfl | hy
          · exact List.mem_cons_self ..
          · exact List.mem_cons_of_mem _ (List.mem_of_mem_erase hy)
        omega
  refine ⟨fun x hx=>?_,?_⟩
  · rcases xac.mp hx with y | ⟨rfl,ok⟩
    · exact xac.mpr (.inl (sub x y))
    · exact xac.mpr (.inr ⟨rfl,up ok⟩)
  by_cases ok:okN N K nm=true
  · refine ⟨es,mo.le,fun x hx=>?_,fun z hz=>?_⟩
    · rcases xac.mp hx with y | ⟨rfl,_⟩
      · exact (mo.cov x y).imp (fun w=>xac.mpr (.inl w)) id
      · exact .inl (xac.mpr (.inr ⟨rfl,ok⟩))
    · obtain ⟨a,b,C,c1,c2,c3⟩:=mo.out z hz
      refine ⟨xac.mpr (.inl a),fun w=>?_,C,c1,fun x hx=>xac.mpr (.inl (c2 x hx)),c3⟩
      rcases xac.mp w with y | ⟨y,_⟩
      · exact b y
      · subst y
        exact nl (ks' _ a)
  · have eK:stepN N K nm=K:=if_neg ok
    rw [eK]
    obtain ⟨C,c1,c2,c3⟩:=xeh h kd ok
    by_cases ok':okN N' K' nm=true
    · have e0:es=[]:=by
        cases es with
        | nil=>rfl
        | cons z r =>
          exfalso
          obtain ⟨a,b,Ce,ce1,ce2,ce3⟩:=mo.out z (List.mem_cons_self ..)
          obtain ⟨U,u1,u2,u3⟩:=xij h ind ce1 ce2 ce3 c1 c2 c3
          have k:=(xc1 h' kd').mp ok' (z :: U) (List.nodup_cons.mpr ⟨fun w=>b (u2 z w),u1⟩) fun x hx=>by
            rcases List.mem_cons.mp hx with rfl | hx
            · exact a
            · exact sub x (u2 x hx)
          rw [e,List.length_cons] at k
          have:=t1 (nm :: z :: U)
          omega
      subst e0
      refine ⟨[nm],Nat.le_refl _,fun x hx=>?_,fun z hz=>?_⟩
      · rcases xac.mp hx with y | ⟨rfl,_⟩
        · exact .inl ((mo.cov x y).resolve_right fun w=>nomatch w)
        · exact .inr (List.mem_singleton.mpr rfl)
      · rw [List.mem_singleton.mp hz]
        exact ⟨xac.mpr (.inr ⟨rfl,ok'⟩),nk,C,c1,c2,c3⟩
    · have eK':stepN N' K' nm=K':=if_neg ok'
      rw [eK']
      exact ⟨es,mo⟩
theorem point_less (h:Rk N) (g:α) {ns:List α} (nd:ns.Nodup) :
    (g ∉ keepN N ns→keepN N (ns.filter fun z=>decide (z≠g))=keepN N ns)∧(g ∈ keepN N ns→(∀ x ∈ keepN N ns,x≠g→x ∈ keepN N (ns.filter fun z=>decide (z≠g)))∧∃ es,More N (keepN N ns) (keepN N (ns.filter fun z=>decide (z≠g))) es):=by
  revert nd
  refine snoc_ind (P:=fun ns=>ns.Nodup→(g ∉ keepN N ns→keepN N (ns.filter fun z=>decide (z≠g))=keepN N ns)∧(g ∈ keepN N ns→(∀ x ∈ keepN N ns,x≠g→x ∈ keepN N (ns.filter fun z=>decide (z≠g)))∧∃ es,More N (keepN N ns) (keepN N (ns.filter fun z=>decide (z≠g))) es)) (fun _=>⟨fun _=>rfl,fun z=>(nomatch z)⟩) (fun l nm ih nd=>?_) ns
  rw [List.nodup_append] at nd
  have nl:nm ∉ l:=fun z=>nd.2.2 nm z nm (List.mem_singleton.mpr rfl) rfl
  have fd:(l.filter fun z=>decide (z≠g)).Nodup:=List.Pairwise.filter _ nd.1
  obtain ⟨i1,i2⟩:=ih nd.1
  by_cases eg:nm=g
  · subst eg
    have fl:((l ++ [nm]).filter fun z=>decide (z≠nm))=l.filter fun z=>decide (z≠nm):=by
      rw [List.filter_append,List.filter_cons_of_neg (by simp),List.filter_nil,List.append_nil]
    have lk:=i1 fun z=>nl (keepN_sub l nm z)
    rw [fl,lk,keepN_snoc]
    have nk:nm ∉ keepN N l:=fun z=>nl (keepN_sub l nm z)
    refine ⟨fun no=>?_,fun yes=>⟨fun x hx ne=>?_,[],Nat.zero_le _,fun x hx=>.inl (xac.mpr (.inl hx)),fun _ z=>(nomatch z)⟩⟩
    · have:¬ okN N (keepN N l) nm=true:=fun ok=>no (xac.mpr (.inr ⟨rfl,ok⟩))
      exact (if_neg this).symm
    · rcases xac.mp hx with y | ⟨y,_⟩
      · exact y
      · exact absurd y ne
  · have fl:((l ++ [nm]).filter fun z=>decide (z≠g))=(l.filter fun z=>decide (z≠g)) ++ [nm]:=by
      rw [List.filter_append,List.filter_cons_of_pos (by simp [eg]),List.filter_nil]
    rw [fl,keepN_snoc,keepN_snoc]
    have gm:g ∈ stepN N (keepN N l) nm ↔ g ∈ keepN N l:=by
      rw [xac]
      exact ⟨fun z=>z.elim id fun w=>absurd w.1.symm eg,.inl⟩
    rw [gm]
    refine ⟨fun no=>by rw [i1 no],fun yes=>?_⟩
    obtain ⟨sub,es,mo⟩:=i2 yes
    have kd:=keepN_nd (N:=N) nd.1
    have kd':=keepN_nd (N:=N) fd
    have ind:=xdg h nd.1
    have ind':=xdg h fd
    have ks:=keepN_sub (N:=N) l
    have ks':∀ x ∈ keepN N (l.filter fun z=>decide (z≠g)),x ∈ l:=fun x hx=>(List.mem_filter.mp (keepN_sub _ x hx)).1
    have gl:g ∉ keepN N (l.filter fun z=>decide (z≠g)):=fun z=>by
      have:=(List.mem_filter.mp (keepN_sub _ g z)).2
      simp at this
    generalize keepN N l=K at *
    generalize keepN N (l.filter fun z=>decide (z≠g))=L at *
    have nk:nm ∉ K:=fun z=>nl (ks nm z)
    have up:okN N K nm=true→okN N L nm=true:=fun ok=>by
      rw [xc1 h kd] at ok
      refine Classical.byContradiction fun no=>?_
      obtain ⟨C,c1,c2,c3⟩:=xeh h kd' no
      by_cases inK:∀ x ∈ C,x ∈ K
      · have:=ok C c1 inK
        omega
      · obtain ⟨x,hx⟩:=Classical.not_forall.mp inK
        obtain ⟨hx,hk⟩:=Classical.not_imp.mp hx
        have xe:=(mo.cov x (c2 x hx)).resolve_left hk
        have es1:∀ y ∈ es,y=x:=fun y hy=>by
          match es,mo.le,xe,hy with
          | [z],_,xe,hy=>rw [List.mem_singleton.mp xe,List.mem_singleton.mp hy]
        obtain ⟨_,_,Ce,ce1,ce2,ce3⟩:=mo.out x xe
        have c2':∀ y ∈ C,y ∈ K∨y=x:=fun y hy=>(mo.cov y (c2 y hy)).imp id (es1 y)
        refine xga h ok ce1 ce2 ce3 c1 c2' hx c3 fun S sn hS=>?_
        have k:=ind' (x :: S) (List.nodup_cons.mpr ⟨fun z=>(hS x z).2 rfl,sn⟩) fun y hy=>by
          rcases List.mem_cons.mp hy with rfl | hy
          · exact c2 _ hx
          · exact c2 y (hS y hy).1
        rw [List.length_cons] at k
        exact k
    refine ⟨fun x hx ne=>?_,?_⟩
    · rcases xac.mp hx with y | ⟨rfl,ok⟩
      · exact xac.mpr (.inl (sub x y ne))
      · exact xac.mpr (.inr ⟨rfl,up ok⟩)
    by_cases ok:okN N K nm=true
    · refine ⟨es,mo.le,fun x hx=>?_,fun z hz=>?_⟩
      · rcases xac.mp hx with y | ⟨rfl,_⟩
        · exact (mo.cov x y).imp (fun w=>xac.mpr (.inl w)) id
        · exact .inl (xac.mpr (.inr ⟨rfl,ok⟩))
      · obtain ⟨a,b,C,c1,c2,c3⟩:=mo.out z hz
        refine ⟨xac.mpr (.inl a),fun w=>?_,C,c1,fun x hx=>xac.mpr (.inl (c2 x hx)),c3⟩
        rcases xac.mp w with y | ⟨y,_⟩
        · exact b y
        · subst y
          exact nl (ks' _ a)
    · have eK:stepN N K nm=K:=if_neg ok
      rw [eK]
      obtain ⟨C,c1,c2,c3⟩:=xeh h kd ok
      by_cases ok':okN N L nm=true
      · have e0:es=[]:=by
          cases es with
          | nil=>rfl
          | cons z r =>
            exfalso
            obtain ⟨a,b,Ce,ce1,ce2,ce3⟩:=mo.out z (List.mem_cons_self ..)
            obtain ⟨U,u1,u2,u3⟩:=xij h ind ce1 ce2 ce3 c1 c2 c3
            have k:=(xc1 h kd').mp ok' (z :: U.filter fun x=>decide (x≠g)) (List.nodup_cons.mpr ⟨fun w=>b (u2 z (List.mem_filter.mp w).1),List.Pairwise.filter _ u1⟩) fun x hx=>by
              rcases List.mem_cons.mp hx with rfl | hx
              · exact a
              · exact sub x (u2 x (List.mem_filter.mp hx).1) (of_decide_eq_true (List.mem_filter.mp hx).2)
            rw [List.length_cons] at k
            have m:=h.mono (S:=nm :: z :: U.filter fun x=>decide (x≠g)) (T:=nm :: z :: U) fun x hx=>by
              rcases List.mem_cons.mp hx with rfl | hx
              · exact List.mem_cons_self ..
              · rcases List.mem_cons.mp hx with rfl | hx
                · exact List.mem_cons_of_mem _ (List.mem_cons_self ..)
                · exact List.mem_cons_of_mem _ (List.mem_cons_of_mem _ (List.mem_filter.mp hx).1)
            have fl:U.length≤(U.filter fun x=>decide (x≠g)).length + 1:=by
              have:U.length≤(g :: U.filter fun x=>decide (x≠g)).length:=u1.length_le_of_subset fun x hx=>by
                by_cases c:x=g
                · rw [c]
                  exact List.mem_cons_self ..
                · exact List.mem_cons_of_mem _ (List.mem_filter.mpr ⟨hx,decide_eq_true c⟩)
              simpa using this
            omega
        subst e0
        refine ⟨[nm],Nat.le_refl _,fun x hx=>?_,fun z hz=>?_⟩
        · rcases xac.mp hx with y | ⟨rfl,_⟩
          · exact .inl ((mo.cov x y).resolve_right fun w=>nomatch w)
          · exact .inr (List.mem_singleton.mpr rfl)
        · rw [List.mem_singleton.mp hz]
          exact ⟨xac.mpr (.inr ⟨rfl,ok'⟩),nk,C,c1,c2,c3⟩
      · have eK':stepN N L nm=L:=if_neg ok'
        rw [eK']
        exact ⟨es,mo⟩
end
theorem rk_tog {N S:Type} [DecidableEq N] [DecidableEq S] (room:N→List S) (ss:List S):Rk fun T=>ss.countP (tog room T):=by
 have iff:∀ (T:List N) (s:S),tog room T s=true ↔ ∃ n ∈ T,s ∈ room n:=fun T s=>by
  unfold tog
  rw [List.any_eq_true]
  simp only [decide_eq_true_iff]
 refine ⟨fun {T R} h=>?_,fun {X Y U I} hU hI=>?_⟩
 ·refine List.countP_mono_left fun s _ hs=>?_
  obtain ⟨n,hn,e⟩:=(iff T s).mp hs
  exact (iff R s).mpr ⟨n,h n hn,e⟩
 ·have key:∀ l:List S,l.countP (tog room U) + l.countP (tog room I)≤l.countP (tog room X) + l.countP (tog room Y):=by
   intro l
   induction l with
   | nil=>exact Nat.le_refl _
   | cons s l ih =>
    rw [List.countP_cons,List.countP_cons,List.countP_cons,List.countP_cons]
    have a:tog room U s=true→tog room X s=true∨tog room Y s=true:=fun z=>by
     obtain ⟨n,hn,e⟩:=(iff U s).mp z
     rcases hU n hn with y | y
     ·exact .inl ((iff X s).mpr ⟨n,y,e⟩)
     ·exact .inr ((iff Y s).mpr ⟨n,y,e⟩)
    have b:tog room I s=true→tog room X s=true∧tog room Y s=true:=fun z=>by
     obtain ⟨n,hn,e⟩:=(iff I s).mp z
     exact ⟨(iff X s).mpr ⟨n,(hI n hn).1,e⟩,(iff Y s).mpr ⟨n,(hI n hn).2,e⟩⟩
    cases hu:tog room U s <;> cases hi:tog room I s <;> cases hx:tog room X s <;> cases hy:tog room Y s <;> simp_all <;> omega
  exact key ss
end Kp
set_option maxRecDepth 100000
set_option maxHeartbeats 4000000
namespace S35
open PySem L2 XL
def top (i:Nat):Stmt:=PySem.Challenge.pw_rimnotes_k35_whole_who_stays_kept.main.body.getD i (.Pass ⟨0,0,0,0⟩)
abbrev s_u:Stmt:=xa4 (top 2) 0
abbrev s_j:Stmt:=xa4 (top 2) 1
abbrev s_c:Stmt:=xa4 (top 2) 2
abbrev xb2:Stmt:=top 3
abbrev s_ah:Stmt:=top 4
abbrev xcn:Stmt:=top 5
abbrev s_ac:Stmt:=xa4 (top 23) 0
abbrev s_ap:Stmt:=top 26
abbrev s_x:Stmt:=top 28
abbrev s_an:Stmt:=top 29
abbrev s_v:Stmt:=xa4 (top 35) 0
abbrev s_l:Stmt:=xa4 (top 35) 1
abbrev s_p:Stmt:=xa4 (top 35) 2
abbrev s_q:Stmt:=xa4 (top 35) 3
abbrev s_f:Stmt:=xa4 (top 35) 4
abbrev s_i:Stmt:=xa4 (top 35) 5
abbrev s_g:Stmt:=xa4 (top 35) 6
abbrev s_m:Stmt:=xa4 (top 35) 7
abbrev s_s:Stmt:=xa4 (top 35) 9
abbrev s_h:Stmt:=xa4 (top 35) 11
abbrev s_b:Stmt:=xa4 (top 35) 15
abbrev s_e:Stmt:=xa4 (top 35) 16
abbrev s_a:Stmt:=xa4 (top 35) 17
abbrev s_d:Stmt:=xa4 (top 35) 18
abbrev s_o:Stmt:=top 37
abbrev s_ab:Stmt:=top 38
abbrev s_ad:Stmt:=top 39
abbrev s_aa:Stmt:=top 40
abbrev s_r:Stmt:=top 41
abbrev s_y:Stmt:=top 42
abbrev s_w:Stmt:=top 43
abbrev s_al:Stmt:=top 44
abbrev s_t:Stmt:=top 45
abbrev s_af:Stmt:=top 46
abbrev s_z:Stmt:=top 47
abbrev s_ae:Stmt:=top 48
abbrev s_ai:Stmt:=top 49
abbrev s_n:Stmt:=top 50
abbrev s_ag:Stmt:=top 51
abbrev xci:Stmt:=top 52
set_option genInjectivity false in
set_option genSizeOf false in
structure Adr where
 f_u:Addr
 d_u:FuncData
 f_j:Addr
 d_j:FuncData
 f_c:Addr
 d_c:FuncData
 f_crowds:Addr
 d_crowds:FuncData
 f_ah:Addr
 d_ah:FuncData
 f_kept:Addr
 d_kept:FuncData
 f_ac:Addr
 d_ac:FuncData
 f_ap:Addr
 d_ap:FuncData
 f_x:Addr
 d_x:FuncData
 f_an:Addr
 d_an:FuncData
 f_v:Addr
 d_v:FuncData
 f_l:Addr
 d_l:FuncData
 T_l:Addr
 f_p:Addr
 d_p:FuncData
 f_q:Addr
 d_q:FuncData
 f_f:Addr
 d_f:FuncData
 f_i:Addr
 d_i:FuncData
 f_g:Addr
 d_g:FuncData
 f_m:Addr
 d_m:FuncData
 f_s:Addr
 d_s:FuncData
 f_h:Addr
 d_h:FuncData
 f_b:Addr
 d_b:FuncData
 f_e:Addr
 d_e:FuncData
 f_a:Addr
 d_a:FuncData
 f_d:Addr
 d_d:FuncData
 f_o:Addr
 d_o:FuncData
 f_ab:Addr
 d_ab:FuncData
 f_ad:Addr
 d_ad:FuncData
 f_aa:Addr
 d_aa:FuncData
 f_r:Addr
 d_r:FuncData
 f_y:Addr
 d_y:FuncData
 f_w:Addr
 d_w:FuncData
 f_al:Addr
 d_al:FuncData
 f_t:Addr
 d_t:FuncData
 f_af:Addr
 d_af:FuncData
 f_z:Addr
 d_z:FuncData
 f_ae:Addr
 d_ae:FuncData
 f_ai:Addr
 d_ai:FuncData
 f_n:Addr
 d_n:FuncData
 f_ag:Addr
 d_ag:FuncData
 f_law:Addr
 d_law:FuncData
 C_ak:Addr
 C_as:Addr
 C_am:Addr
 C_aj:Addr
 C_k:Addr
 D_ao:Addr
structure Txt (w:World) (K:PySem.W.Frag) (mg:Str→Option Value) (t:Adr):Prop where
 g_ak:mg "Seating"=some (.ref t.C_ak)
 g_as:mg "Side"=some (.ref t.C_as)
 g_am:mg "LeftSide"=some (.ref t.C_am)
 g_aj:mg "RightSide"=some (.ref t.C_aj)
 g_k:mg "Picture"=some (.ref t.C_k)
 F_u:Fun K "__init__" "Seating.__init__" s_u t.f_u t.d_u
 b_u:xab K t.d_u ["self"] []
 F_j:Fun K "hand_on" "Seating.hand_on" s_j t.f_j t.d_j
 b_j:xab K t.d_j ["self", "asked_by", "free_seat"] []
 F_c:Fun K "crowd_with" "Seating.crowd_with" s_c t.f_c t.d_c
 b_c:xab K t.d_c ["self", "name", "rooms"] []
 g_crowds:mg "crowds"=some (.ref t.f_crowds)
 F_crowds:Fun K "crowds" "crowds" xb2 t.f_crowds t.d_crowds
 b_crowds:xab K t.d_crowds ["picture", "names"] []
 g_ah:mg "left_out"=some (.ref t.f_ah)
 F_ah:Fun K "left_out" "left_out" s_ah t.f_ah t.d_ah
 b_ah:xab K t.d_ah ["picture"] []
 g_kept:mg "kept"=some (.ref t.f_kept)
 F_kept:Fun K "kept" "kept" xcn t.f_kept t.d_kept
 b_kept:xab K t.d_kept ["picture"] []
 F_ac:Fun K "__init__" "Side.__init__" s_ac t.f_ac t.d_ac
 b_ac:xab K t.d_ac ["self", "width"] []
 g_ap:mg "side_of"=some (.ref t.f_ap)
 F_ap:Fun K "side_of" "side_of" s_ap t.f_ap t.d_ap
 b_ap:xab K t.d_ap ["word", "width"] []
 g_x:mg "is_whole"=some (.ref t.f_x)
 F_x:Fun K "is_whole" "is_whole" s_x t.f_x t.d_x
 b_x:xab K t.d_x ["thing", "low", "high"] []
 g_an:mg "is_name"=some (.ref t.f_an)
 F_an:Fun K "is_name" "is_name" s_an t.f_an t.d_an
 b_an:xab K t.d_an ["thing"] []
 F_v:Fun K "__init__" "Picture.__init__" s_v t.f_v t.d_v
 b_v:xab K t.d_v ["self", "width", "height"] []
 F_l:FunD K "put" "Picture.put" s_l t.T_l t.f_l t.d_l
 b_a3:∃ ds,Vals [.str "both",.int 1,.non] ds∧xab K t.d_l ["self", "name", "x", "y", "sides", "low", "high"] ds
 b_l:xab K t.d_l ["self", "name", "x", "y", "sides", "low", "high"] []
 F_p:Fun K "take" "Picture.take" s_p t.f_p t.d_p
 b_p:xab K t.d_p ["self", "name"] []
 F_q:Fun K "move" "Picture.move" s_q t.f_q t.d_q
 b_q:xab K t.d_q ["self", "name", "x", "y"] []
 F_f:Fun K "open_seat" "Picture.open_seat" s_f t.f_f t.d_f
 b_f:xab K t.d_f ["self", "side", "row"] []
 F_i:Fun K "shut_seat" "Picture.shut_seat" s_i t.f_i t.d_i
 b_i:xab K t.d_i ["self", "side", "row"] []
 F_g:Fun K "points" "Picture.points" s_g t.f_g t.d_g
 b_g:xab K t.d_g ["self"] []
 F_m:Fun K "seats" "Picture.seats" s_m t.f_m t.d_m
 b_m:xab K t.d_m ["self"] []
 F_s:Fun K "may" "Picture.may" s_s t.f_s t.d_s
 b_s:xab K t.d_s ["self", "name", "side", "row"] []
 F_h:Fun K "seats_for" "Picture.seats_for" s_h t.f_h t.d_h
 b_h:xab K t.d_h ["self", "name"] []
 F_b:Fun K "check_name" "Picture.check_name" s_b t.f_b t.d_b
 b_b:xab K t.d_b ["self", "name"] []
 F_e:Fun K "check_cell" "Picture.check_cell" s_e t.f_e t.d_e
 b_e:xab K t.d_e ["self", "x", "y"] []
 F_a:Fun K "check_lines" "Picture.check_lines" s_a t.f_a t.d_a
 b_a:xab K t.d_a ["self", "name", "x", "y"] []
 F_d:Fun K "check_seat" "Picture.check_seat" s_d t.f_d t.d_d
 b_d:xab K t.d_d ["self", "side", "row"] []
 g_o:mg "_law_cell_at"=some (.ref t.f_o)
 F_o:Fun K "_law_cell_at" "_law_cell_at" s_o t.f_o t.d_o
 b_o:xab K t.d_o ["_law_script", "_law_k"] []
 g_ab:mg "_law_mix"=some (.ref t.f_ab)
 F_ab:Fun K "_law_mix" "_law_mix" s_ab t.f_ab t.d_ab
 b_ab:xab K t.d_ab ["_law_cell", "_law_k"] []
 g_ad:mg "_law_frame"=some (.ref t.f_ad)
 F_ad:Fun K "_law_frame" "_law_frame" s_ad t.f_ad t.d_ad
 b_ad:xab K t.d_ad ["_law_script"] []
 g_aa:mg "_law_seats"=some (.ref t.f_aa)
 F_aa:Fun K "_law_seats" "_law_seats" s_aa t.f_aa t.d_aa
 b_aa:xab K t.d_aa ["_law_script", "_law_height"] []
 g_r:mg "_law_numbers"=some (.ref t.f_r)
 F_r:Fun K "_law_numbers" "_law_numbers" s_r t.f_r t.d_r
 b_r:xab K t.d_r ["_law_cell", "_law_digits", "_law_bases"] []
 g_y:mg "_law_point"=some (.ref t.f_y)
 F_y:Fun K "_law_point" "_law_point" s_y t.f_y t.d_y
 b_y:xab K t.d_y ["_law_numbers_here", "_law_name", "_law_x", "_law_y", "_law_height"] []
 g_w:mg "_law_points"=some (.ref t.f_w)
 F_w:Fun K "_law_points" "_law_points" s_w t.f_w t.d_w
 b_w:xab K t.d_w ["_law_cells", "_law_digits", "_law_width", "_law_height"] []
 g_al:mg "_law_put"=some (.ref t.f_al)
 F_al:Fun K "_law_put" "_law_put" s_al t.f_al t.d_al
 b_al:xab K t.d_al ["_law_picture_here", "_law_point_here"] []
 g_t:mg "_law_picture"=some (.ref t.f_t)
 F_t:Fun K "_law_picture" "_law_picture" s_t t.f_t t.d_t
 b_t:xab K t.d_t ["_law_width", "_law_height", "_law_points_here", "_law_seats_here"] []
 g_af:mg "_law_free"=some (.ref t.f_af)
 F_af:Fun K "_law_free" "_law_free" s_af t.f_af t.d_af
 b_af:xab K t.d_af ["_law_most", "_law_had", "_law_cell"] []
 g_z:mg "_law_comes"=some (.ref t.f_z)
 F_z:Fun K "_law_comes" "_law_comes" s_z t.f_z t.d_z
 b_z:xab K t.d_z ["_law_picture_here", "_law_numbers_here"] []
 g_ae:mg "_law_moves"=some (.ref t.f_ae)
 F_ae:Fun K "_law_moves" "_law_moves" s_ae t.f_ae t.d_ae
 b_ae:xab K t.d_ae ["_law_picture_here", "_law_numbers_here", "_law_name"] []
 g_ai:mg "_law_deed"=some (.ref t.f_ai)
 F_ai:Fun K "_law_deed" "_law_deed" s_ai t.f_ai t.d_ai
 b_ai:xab K t.d_ai ["_law_picture_here", "_law_numbers_here"] []
 g_n:mg "_law_one_more"=some (.ref t.f_n)
 F_n:Fun K "_law_one_more" "_law_one_more" s_n t.f_n t.d_n
 b_n:xab K t.d_n ["_law_old", "_law_new"] []
 g_ag:mg "_law_stays"=some (.ref t.f_ag)
 F_ag:Fun K "_law_stays" "_law_stays" s_ag t.f_ag t.d_ag
 b_ag:xab K t.d_ag ["_law_word", "_law_name", "_law_old", "_law_new"] []
 g_law:mg "law"=some (.ref t.f_law)
 F_law:Fun K "law" "law" xci t.f_law t.d_law
 b_law:xab K t.d_law ["_law_script"] []
 c_ak:Cls K t.C_ak
 ca_ak:PySem.W.findIn K (.ref t.C_ak) "__class__"=some (some (.builtin "object.__class__"))
 mo_ak:PySem.W.mroIn K t.C_ak (.type "object")=some true
 k_ak:Mk K t.C_ak t.f_u
 m_j:Meth K t.C_ak "hand_on" t.f_j
 m_c:Meth K t.C_ak "crowd_with" t.f_c
 c_as:Cls K t.C_as
 ca_as:PySem.W.findIn K (.ref t.C_as) "__class__"=some (some (.builtin "object.__class__"))
 mo_as:PySem.W.mroIn K t.C_as (.type "object")=some true
 k_as:Mk K t.C_as t.f_ac
 c_am:Cls K t.C_am
 ca_am:PySem.W.findIn K (.ref t.C_am) "__class__"=some (some (.builtin "object.__class__"))
 mo_am:PySem.W.mroIn K t.C_am (.type "object")=some true
 k_am:Mk K t.C_am t.f_ac
 c_aj:Cls K t.C_aj
 ca_aj:PySem.W.findIn K (.ref t.C_aj) "__class__"=some (some (.builtin "object.__class__"))
 mo_aj:PySem.W.mroIn K t.C_aj (.type "object")=some true
 k_aj:Mk K t.C_aj t.f_ac
 c_k:Cls K t.C_k
 ca_k:PySem.W.findIn K (.ref t.C_k) "__class__"=some (some (.builtin "object.__class__"))
 mo_k:PySem.W.mroIn K t.C_k (.type "object")=some true
 k_k:Mk K t.C_k t.f_v
 m_l:Meth K t.C_k "put" t.f_l
 m_p:Meth K t.C_k "take" t.f_p
 m_q:Meth K t.C_k "move" t.f_q
 m_f:Meth K t.C_k "open_seat" t.f_f
 m_i:Meth K t.C_k "shut_seat" t.f_i
 m_g:Meth K t.C_k "points" t.f_g
 m_m:Meth K t.C_k "seats" t.f_m
 m_s:Meth K t.C_k "may" t.f_s
 m_h:Meth K t.C_k "seats_for" t.f_h
 m_b:Meth K t.C_k "check_name" t.f_b
 m_e:Meth K t.C_k "check_cell" t.f_e
 m_a:Meth K t.C_k "check_lines" t.f_a
 m_d:Meth K t.C_k "check_seat" t.f_d
 cg:PySem.W.specialIn K (.builtin "object.__class__") "__get__"=some (some (.builtin "getset_descriptor.__get__"))
 ct:PySem.W.takesIn K (.builtin "object.__class__")=some true
 n_aq:PySem.W.findIn K (.ref t.C_k) "placed"=some none
 n_ar:PySem.W.findIn K (.ref t.C_k) "height"=some none
 n_aw:PySem.W.findIn K (.ref t.C_k) "width"=some none
 n_at:PySem.W.findIn K (.ref t.C_k) "opened"=some none
 n_au:PySem.W.findIn K (.ref t.C_ak) "holder_of"=some none
 n_av:PySem.W.findIn K (.ref t.C_ak) "seat_of"=some none
 n_a2:PySem.W.findIn K (.ref t.C_as) "width"=some none
 n_a0:PySem.W.findIn K (.ref t.C_am) "width"=some none
 n_ay:PySem.W.findIn K (.ref t.C_aj) "width"=some none
 n_bool:mg "bool"=none
 n_dict:mg "dict"=none
 n_enumerate:mg "enumerate"=none
 n_int:mg "int"=none
 n_isinstance:mg "isinstance"=none
 n_len:mg "len"=none
 n_list:mg "list"=none
 n_min:mg "min"=none
 n_range:mg "range"=none
 n_reversed:mg "reversed"=none
 n_sorted:mg "sorted"=none
 n_str:mg "str"=none
 v_a1:∃ tk,mg "MOST_ROWS"=some (.int 16 tk)
 v_ax:∃ tk,mg "MOST_COLUMNS"=some (.int 30 tk)
 v_az:∃ tk,mg "MOST_POINTS"=some (.int 12 tk)
 g_ao:mg "MIRRORED_SIDES"=some (.ref t.D_ao)
 D_ao:xjb w K t.D_ao [(.inr "left",.str "right"),(.inr "right",.str "left"),(.inr "both",.str "both")]
theorem txt_mk {w:World} {K:PySem.W.Frag} {h:Heap} {mg:Str→Option Value} (X:K.In h) (G:h.Ns mainGlobals mg) {C_ak C_as C_am C_aj C_k f_u f_j f_c f_crowds f_ah f_kept f_ac f_ap f_x f_an f_v f_l T_l f_p f_q f_f f_i f_g f_m f_s f_h f_b f_e f_a f_d f_o f_ab f_ad f_aa f_r f_y f_w f_al f_t f_af f_z f_ae f_ai f_n f_ag f_law:Addr} {oc_u kv_u dc_u pm_u cd_u ct_u:Value} {od_u an_u:Option Addr} {sl_u:Array (Option Value)} {oc_j kv_j dc_j pm_j cd_j ct_j:Value} {od_j an_j:Option Addr} {sl_j:Array (Option Value)} {oc_c kv_c dc_c pm_c cd_c ct_c:Value} {od_c an_c:Option Addr} {sl_c:Array (Option Value)} {oc_crowds kv_crowds dc_crowds pm_crowds cd_crowds ct_crowds:Value} {od_crowds an_crowds:Option Addr} {sl_crowds:Array (Option Value)} {oc_ah kv_ah dc_ah pm_ah cd_ah ct_ah:Value} {od_ah an_ah:Option Addr} {sl_ah:Array (Option Value)} {oc_kept kv_kept dc_kept pm_kept cd_kept ct_kept:Value} {od_kept an_kept:Option Addr} {sl_kept:Array (Option Value)} {oc_ac kv_ac dc_ac pm_ac cd_ac ct_ac:Value} {od_ac an_ac:Option Addr} {sl_ac:Array (Option Value)} {oc_ap kv_ap dc_ap pm_ap cd_ap ct_ap:Value} {od_ap an_ap:Option Addr} {sl_ap:Array (Option Value)} {oc_x kv_x dc_x pm_x cd_x ct_x:Value} {od_x an_x:Option Addr} {sl_x:Array (Option Value)} {oc_an kv_an dc_an pm_an cd_an ct_an:Value} {od_an an_an:Option Addr} {sl_an:Array (Option Value)} {oc_v kv_v dc_v pm_v cd_v ct_v:Value} {od_v an_v:Option Addr} {sl_v:Array (Option Value)} {oc_l kv_l dc_l pm_l cd_l ct_l:Value} {od_l an_l:Option Addr} {sl_l:Array (Option Value)} {oc_p kv_p dc_p pm_p cd_p ct_p:Value} {od_p an_p:Option Addr} {sl_p:Array (Option Value)} {oc_q kv_q dc_q pm_q cd_q ct_q:Value} {od_q an_q:Option Addr} {sl_q:Array (Option Value)} {oc_f kv_f dc_f pm_f cd_f ct_f:Value} {od_f an_f:Option Addr} {sl_f:Array (Option Value)} {oc_i kv_i dc_i pm_i cd_i ct_i:Value} {od_i an_i:Option Addr} {sl_i:Array (Option Value)} {oc_g kv_g dc_g pm_g cd_g ct_g:Value} {od_g an_g:Option Addr} {sl_g:Array (Option Value)} {oc_m kv_m dc_m pm_m cd_m ct_m:Value} {od_m an_m:Option Addr} {sl_m:Array (Option Value)} {oc_s kv_s dc_s pm_s cd_s ct_s:Value} {od_s an_s:Option Addr} {sl_s:Array (Option Value)} {oc_h kv_h dc_h pm_h cd_h ct_h:Value} {od_h an_h:Option Addr} {sl_h:Array (Option Value)} {oc_b kv_b dc_b pm_b cd_b ct_b:Value} {od_b an_b:Option Addr} {sl_b:Array (Option Value)} {oc_e kv_e dc_e pm_e cd_e ct_e:Value} {od_e an_e:Option Addr} {sl_e:Array (Option Value)} {oc_a kv_a dc_a pm_a cd_a ct_a:Value} {od_a an_a:Option Addr} {sl_a:Array (Option Value)} {oc_d kv_d dc_d pm_d cd_d ct_d:Value} {od_d an_d:Option Addr} {sl_d:Array (Option Value)} {oc_o kv_o dc_o pm_o cd_o ct_o:Value} {od_o an_o:Option Addr} {sl_o:Array (Option Value)} {oc_ab kv_ab dc_ab pm_ab cd_ab ct_ab:Value} {od_ab an_ab:Option Addr} {sl_ab:Array (Option Value)} {oc_ad kv_ad dc_ad pm_ad cd_ad ct_ad:Value} {od_ad an_ad:Option Addr} {sl_ad:Array (Option Value)} {oc_aa kv_aa dc_aa pm_aa cd_aa ct_aa:Value} {od_aa an_aa:Option Addr} {sl_aa:Array (Option Value)} {oc_r kv_r dc_r pm_r cd_r ct_r:Value} {od_r an_r:Option Addr} {sl_r:Array (Option Value)} {oc_y kv_y dc_y pm_y cd_y ct_y:Value} {od_y an_y:Option Addr} {sl_y:Array (Option Value)} {oc_w kv_w dc_w pm_w cd_w ct_w:Value} {od_w an_w:Option Addr} {sl_w:Array (Option Value)} {oc_al kv_al dc_al pm_al cd_al ct_al:Value} {od_al an_al:Option Addr} {sl_al:Array (Option Value)} {oc_t kv_t dc_t pm_t cd_t ct_t:Value} {od_t an_t:Option Addr} {sl_t:Array (Option Value)} {oc_af kv_af dc_af pm_af cd_af ct_af:Value} {od_af an_af:Option Addr} {sl_af:Array (Option Value)} {oc_z kv_z dc_z pm_z cd_z ct_z:Value} {od_z an_z:Option Addr} {sl_z:Array (Option Value)} {oc_ae kv_ae dc_ae pm_ae cd_ae ct_ae:Value} {od_ae an_ae:Option Addr} {sl_ae:Array (Option Value)} {oc_ai kv_ai dc_ai pm_ai cd_ai ct_ai:Value} {od_ai an_ai:Option Addr} {sl_ai:Array (Option Value)} {oc_n kv_n dc_n pm_n cd_n ct_n:Value} {od_n an_n:Option Addr} {sl_n:Array (Option Value)} {oc_ag kv_ag dc_ag pm_ag cd_ag ct_ag:Value} {od_ag an_ag:Option Addr} {sl_ag:Array (Option Value)} {oc_law kv_law dc_law pm_law cd_law ct_law:Value} {od_law an_law:Option Addr} {sl_law:Array (Option Value)} {tk0_l:Tok} {tk1_l:Tok} {toc_l:Value} {tod_l:Option Addr} {tn_l:Nat} {tsl_l:Array (Option Value)} {tkc_a1:Tok} {tkc_ax:Tok} {tkc_az:Tok} {D_ao:Addr} {ta0_ao tb0_ao:Tok} {ta1_ao tb1_ao:Tok} {ta2_ao tb2_ao:Tok} {ep_ao:Nat}
    (g_ak:PySem.W.nsIn K mainGlobals "Seating"=some (some (.ref C_ak)))
    (g_as:PySem.W.nsIn K mainGlobals "Side"=some (some (.ref C_as)))
    (g_am:PySem.W.nsIn K mainGlobals "LeftSide"=some (some (.ref C_am)))
    (g_aj:PySem.W.nsIn K mainGlobals "RightSide"=some (some (.ref C_aj)))
    (g_k:PySem.W.nsIn K mainGlobals "Picture"=some (some (.ref C_k)))
    (a_u:PySem.W.findIn K (.ref C_ak) "__init__"=some (some (.ref f_u)))
    (l_u:K.lookup f_u=some ⟨oc_u,od_u,.func (PySem.W.fnOf "__init__" "Seating.__init__" (xz s_u) (xu s_u) (xi s_u) .none kv_u dc_u pm_u an_u cd_u ct_u),sl_u⟩)
    (c_u:PySem.W.codeIn K cd_u "Seating.__init__"=true)
    (k_u:PySem.W.keepIn K (.ref f_u)=true)
    (i_u:PySem.W.isFn K (.ref f_u)=true)
    (a_j:PySem.W.findIn K (.ref C_ak) "hand_on"=some (some (.ref f_j)))
    (l_j:K.lookup f_j=some ⟨oc_j,od_j,.func (PySem.W.fnOf "hand_on" "Seating.hand_on" (xz s_j) (xu s_j) (xi s_j) .none kv_j dc_j pm_j an_j cd_j ct_j),sl_j⟩)
    (c_j:PySem.W.codeIn K cd_j "Seating.hand_on"=true)
    (k_j:PySem.W.keepIn K (.ref f_j)=true)
    (i_j:PySem.W.isFn K (.ref f_j)=true)
    (a_c:PySem.W.findIn K (.ref C_ak) "crowd_with"=some (some (.ref f_c)))
    (l_c:K.lookup f_c=some ⟨oc_c,od_c,.func (PySem.W.fnOf "crowd_with" "Seating.crowd_with" (xz s_c) (xu s_c) (xi s_c) .none kv_c dc_c pm_c an_c cd_c ct_c),sl_c⟩)
    (c_c:PySem.W.codeIn K cd_c "Seating.crowd_with"=true)
    (k_c:PySem.W.keepIn K (.ref f_c)=true)
    (i_c:PySem.W.isFn K (.ref f_c)=true)
    (a_crowds:PySem.W.nsIn K mainGlobals "crowds"=some (some (.ref f_crowds)))
    (l_crowds:K.lookup f_crowds=some ⟨oc_crowds,od_crowds,.func (PySem.W.fnOf "crowds" "crowds" (xz xb2) (xu xb2) (xi xb2) .none kv_crowds dc_crowds pm_crowds an_crowds cd_crowds ct_crowds),sl_crowds⟩)
    (c_crowds:PySem.W.codeIn K cd_crowds "crowds"=true)
    (k_crowds:PySem.W.keepIn K (.ref f_crowds)=true)
    (i_crowds:PySem.W.isFn K (.ref f_crowds)=true)
    (a_ah:PySem.W.nsIn K mainGlobals "left_out"=some (some (.ref f_ah)))
    (l_ah:K.lookup f_ah=some ⟨oc_ah,od_ah,.func (PySem.W.fnOf "left_out" "left_out" (xz s_ah) (xu s_ah) (xi s_ah) .none kv_ah dc_ah pm_ah an_ah cd_ah ct_ah),sl_ah⟩)
    (c_ah:PySem.W.codeIn K cd_ah "left_out"=true)
    (k_ah:PySem.W.keepIn K (.ref f_ah)=true)
    (i_ah:PySem.W.isFn K (.ref f_ah)=true)
    (a_kept:PySem.W.nsIn K mainGlobals "kept"=some (some (.ref f_kept)))
    (l_kept:K.lookup f_kept=some ⟨oc_kept,od_kept,.func (PySem.W.fnOf "kept" "kept" (xz xcn) (xu xcn) (xi xcn) .none kv_kept dc_kept pm_kept an_kept cd_kept ct_kept),sl_kept⟩)
    (c_kept:PySem.W.codeIn K cd_kept "kept"=true)
    (k_kept:PySem.W.keepIn K (.ref f_kept)=true)
    (i_kept:PySem.W.isFn K (.ref f_kept)=true)
    (a_ac:PySem.W.findIn K (.ref C_as) "__init__"=some (some (.ref f_ac)))
    (l_ac:K.lookup f_ac=some ⟨oc_ac,od_ac,.func (PySem.W.fnOf "__init__" "Side.__init__" (xz s_ac) (xu s_ac) (xi s_ac) .none kv_ac dc_ac pm_ac an_ac cd_ac ct_ac),sl_ac⟩)
    (c_ac:PySem.W.codeIn K cd_ac "Side.__init__"=true)
    (k_ac:PySem.W.keepIn K (.ref f_ac)=true)
    (i_ac:PySem.W.isFn K (.ref f_ac)=true)
    (a_ap:PySem.W.nsIn K mainGlobals "side_of"=some (some (.ref f_ap)))
    (l_ap:K.lookup f_ap=some ⟨oc_ap,od_ap,.func (PySem.W.fnOf "side_of" "side_of" (xz s_ap) (xu s_ap) (xi s_ap) .none kv_ap dc_ap pm_ap an_ap cd_ap ct_ap),sl_ap⟩)
    (c_ap:PySem.W.codeIn K cd_ap "side_of"=true)
    (k_ap:PySem.W.keepIn K (.ref f_ap)=true)
    (i_ap:PySem.W.isFn K (.ref f_ap)=true)
    (a_x:PySem.W.nsIn K mainGlobals "is_whole"=some (some (.ref f_x)))
    (l_x:K.lookup f_x=some ⟨oc_x,od_x,.func (PySem.W.fnOf "is_whole" "is_whole" (xz s_x) (xu s_x) (xi s_x) .none kv_x dc_x pm_x an_x cd_x ct_x),sl_x⟩)
    (c_x:PySem.W.codeIn K cd_x "is_whole"=true)
    (k_x:PySem.W.keepIn K (.ref f_x)=true)
    (i_x:PySem.W.isFn K (.ref f_x)=true)
    (a_an:PySem.W.nsIn K mainGlobals "is_name"=some (some (.ref f_an)))
    (l_an:K.lookup f_an=some ⟨oc_an,od_an,.func (PySem.W.fnOf "is_name" "is_name" (xz s_an) (xu s_an) (xi s_an) .none kv_an dc_an pm_an an_an cd_an ct_an),sl_an⟩)
    (c_an:PySem.W.codeIn K cd_an "is_name"=true)
    (k_an:PySem.W.keepIn K (.ref f_an)=true)
    (i_an:PySem.W.isFn K (.ref f_an)=true)
    (a_v:PySem.W.findIn K (.ref C_k) "__init__"=some (some (.ref f_v)))
    (l_v:K.lookup f_v=some ⟨oc_v,od_v,.func (PySem.W.fnOf "__init__" "Picture.__init__" (xz s_v) (xu s_v) (xi s_v) .none kv_v dc_v pm_v an_v cd_v ct_v),sl_v⟩)
    (c_v:PySem.W.codeIn K cd_v "Picture.__init__"=true)
    (k_v:PySem.W.keepIn K (.ref f_v)=true)
    (i_v:PySem.W.isFn K (.ref f_v)=true)
    (a_l:PySem.W.findIn K (.ref C_k) "put"=some (some (.ref f_l)))
    (l_l:K.lookup f_l=some ⟨oc_l,od_l,.func (PySem.W.fnOf "put" "Picture.put" (xz s_l) (xu s_l) (xi s_l) (.ref T_l) kv_l dc_l pm_l an_l cd_l ct_l),sl_l⟩)
    (c_l:PySem.W.codeIn K cd_l "Picture.put"=true)
    (k_l:PySem.W.keepIn K (.ref f_l)=true)
    (i_l:PySem.W.isFn K (.ref f_l)=true)
    (t_l:K.lookup T_l=some ⟨toc_l,tod_l,.seq #[.str "both" tk0_l,.int 1 tk1_l,.none] tn_l,tsl_l⟩)
    (a_p:PySem.W.findIn K (.ref C_k) "take"=some (some (.ref f_p)))
    (l_p:K.lookup f_p=some ⟨oc_p,od_p,.func (PySem.W.fnOf "take" "Picture.take" (xz s_p) (xu s_p) (xi s_p) .none kv_p dc_p pm_p an_p cd_p ct_p),sl_p⟩)
    (c_p:PySem.W.codeIn K cd_p "Picture.take"=true)
    (k_p:PySem.W.keepIn K (.ref f_p)=true)
    (i_p:PySem.W.isFn K (.ref f_p)=true)
    (a_q:PySem.W.findIn K (.ref C_k) "move"=some (some (.ref f_q)))
    (l_q:K.lookup f_q=some ⟨oc_q,od_q,.func (PySem.W.fnOf "move" "Picture.move" (xz s_q) (xu s_q) (xi s_q) .none kv_q dc_q pm_q an_q cd_q ct_q),sl_q⟩)
    (c_q:PySem.W.codeIn K cd_q "Picture.move"=true)
    (k_q:PySem.W.keepIn K (.ref f_q)=true)
    (i_q:PySem.W.isFn K (.ref f_q)=true)
    (a_f:PySem.W.findIn K (.ref C_k) "open_seat"=some (some (.ref f_f)))
    (l_f:K.lookup f_f=some ⟨oc_f,od_f,.func (PySem.W.fnOf "open_seat" "Picture.open_seat" (xz s_f) (xu s_f) (xi s_f) .none kv_f dc_f pm_f an_f cd_f ct_f),sl_f⟩)
    (c_f:PySem.W.codeIn K cd_f "Picture.open_seat"=true)
    (k_f:PySem.W.keepIn K (.ref f_f)=true)
    (i_f:PySem.W.isFn K (.ref f_f)=true)
    (a_i:PySem.W.findIn K (.ref C_k) "shut_seat"=some (some (.ref f_i)))
    (l_i:K.lookup f_i=some ⟨oc_i,od_i,.func (PySem.W.fnOf "shut_seat" "Picture.shut_seat" (xz s_i) (xu s_i) (xi s_i) .none kv_i dc_i pm_i an_i cd_i ct_i),sl_i⟩)
    (c_i:PySem.W.codeIn K cd_i "Picture.shut_seat"=true)
    (k_i:PySem.W.keepIn K (.ref f_i)=true)
    (i_i:PySem.W.isFn K (.ref f_i)=true)
    (a_g:PySem.W.findIn K (.ref C_k) "points"=some (some (.ref f_g)))
    (l_g:K.lookup f_g=some ⟨oc_g,od_g,.func (PySem.W.fnOf "points" "Picture.points" (xz s_g) (xu s_g) (xi s_g) .none kv_g dc_g pm_g an_g cd_g ct_g),sl_g⟩)
    (c_g:PySem.W.codeIn K cd_g "Picture.points"=true)
    (k_g:PySem.W.keepIn K (.ref f_g)=true)
    (i_g:PySem.W.isFn K (.ref f_g)=true)
    (a_m:PySem.W.findIn K (.ref C_k) "seats"=some (some (.ref f_m)))
    (l_m:K.lookup f_m=some ⟨oc_m,od_m,.func (PySem.W.fnOf "seats" "Picture.seats" (xz s_m) (xu s_m) (xi s_m) .none kv_m dc_m pm_m an_m cd_m ct_m),sl_m⟩)
    (c_m:PySem.W.codeIn K cd_m "Picture.seats"=true)
    (k_m:PySem.W.keepIn K (.ref f_m)=true)
    (i_m:PySem.W.isFn K (.ref f_m)=true)
    (a_s:PySem.W.findIn K (.ref C_k) "may"=some (some (.ref f_s)))
    (l_s:K.lookup f_s=some ⟨oc_s,od_s,.func (PySem.W.fnOf "may" "Picture.may" (xz s_s) (xu s_s) (xi s_s) .none kv_s dc_s pm_s an_s cd_s ct_s),sl_s⟩)
    (c_s:PySem.W.codeIn K cd_s "Picture.may"=true)
    (k_s:PySem.W.keepIn K (.ref f_s)=true)
    (i_s:PySem.W.isFn K (.ref f_s)=true)
    (a_h:PySem.W.findIn K (.ref C_k) "seats_for"=some (some (.ref f_h)))
    (l_h:K.lookup f_h=some ⟨oc_h,od_h,.func (PySem.W.fnOf "seats_for" "Picture.seats_for" (xz s_h) (xu s_h) (xi s_h) .none kv_h dc_h pm_h an_h cd_h ct_h),sl_h⟩)
    (c_h:PySem.W.codeIn K cd_h "Picture.seats_for"=true)
    (k_h:PySem.W.keepIn K (.ref f_h)=true)
    (i_h:PySem.W.isFn K (.ref f_h)=true)
    (a_b:PySem.W.findIn K (.ref C_k) "check_name"=some (some (.ref f_b)))
    (l_b:K.lookup f_b=some ⟨oc_b,od_b,.func (PySem.W.fnOf "check_name" "Picture.check_name" (xz s_b) (xu s_b) (xi s_b) .none kv_b dc_b pm_b an_b cd_b ct_b),sl_b⟩)
    (c_b:PySem.W.codeIn K cd_b "Picture.check_name"=true)
    (k_b:PySem.W.keepIn K (.ref f_b)=true)
    (i_b:PySem.W.isFn K (.ref f_b)=true)
    (a_e:PySem.W.findIn K (.ref C_k) "check_cell"=some (some (.ref f_e)))
    (l_e:K.lookup f_e=some ⟨oc_e,od_e,.func (PySem.W.fnOf "check_cell" "Picture.check_cell" (xz s_e) (xu s_e) (xi s_e) .none kv_e dc_e pm_e an_e cd_e ct_e),sl_e⟩)
    (c_e:PySem.W.codeIn K cd_e "Picture.check_cell"=true)
    (k_e:PySem.W.keepIn K (.ref f_e)=true)
    (i_e:PySem.W.isFn K (.ref f_e)=true)
    (a_a:PySem.W.findIn K (.ref C_k) "check_lines"=some (some (.ref f_a)))
    (l_a:K.lookup f_a=some ⟨oc_a,od_a,.func (PySem.W.fnOf "check_lines" "Picture.check_lines" (xz s_a) (xu s_a) (xi s_a) .none kv_a dc_a pm_a an_a cd_a ct_a),sl_a⟩)
    (c_a:PySem.W.codeIn K cd_a "Picture.check_lines"=true)
    (k_a:PySem.W.keepIn K (.ref f_a)=true)
    (i_a:PySem.W.isFn K (.ref f_a)=true)
    (a_d:PySem.W.findIn K (.ref C_k) "check_seat"=some (some (.ref f_d)))
    (l_d:K.lookup f_d=some ⟨oc_d,od_d,.func (PySem.W.fnOf "check_seat" "Picture.check_seat" (xz s_d) (xu s_d) (xi s_d) .none kv_d dc_d pm_d an_d cd_d ct_d),sl_d⟩)
    (c_d:PySem.W.codeIn K cd_d "Picture.check_seat"=true)
    (k_d:PySem.W.keepIn K (.ref f_d)=true)
    (i_d:PySem.W.isFn K (.ref f_d)=true)
    (a_o:PySem.W.nsIn K mainGlobals "_law_cell_at"=some (some (.ref f_o)))
    (l_o:K.lookup f_o=some ⟨oc_o,od_o,.func (PySem.W.fnOf "_law_cell_at" "_law_cell_at" (xz s_o) (xu s_o) (xi s_o) .none kv_o dc_o pm_o an_o cd_o ct_o),sl_o⟩)
    (c_o:PySem.W.codeIn K cd_o "_law_cell_at"=true)
    (k_o:PySem.W.keepIn K (.ref f_o)=true)
    (i_o:PySem.W.isFn K (.ref f_o)=true)
    (a_ab:PySem.W.nsIn K mainGlobals "_law_mix"=some (some (.ref f_ab)))
    (l_ab:K.lookup f_ab=some ⟨oc_ab,od_ab,.func (PySem.W.fnOf "_law_mix" "_law_mix" (xz s_ab) (xu s_ab) (xi s_ab) .none kv_ab dc_ab pm_ab an_ab cd_ab ct_ab),sl_ab⟩)
    (c_ab:PySem.W.codeIn K cd_ab "_law_mix"=true)
    (k_ab:PySem.W.keepIn K (.ref f_ab)=true)
    (i_ab:PySem.W.isFn K (.ref f_ab)=true)
    (a_ad:PySem.W.nsIn K mainGlobals "_law_frame"=some (some (.ref f_ad)))
    (l_ad:K.lookup f_ad=some ⟨oc_ad,od_ad,.func (PySem.W.fnOf "_law_frame" "_law_frame" (xz s_ad) (xu s_ad) (xi s_ad) .none kv_ad dc_ad pm_ad an_ad cd_ad ct_ad),sl_ad⟩)
    (c_ad:PySem.W.codeIn K cd_ad "_law_frame"=true)
    (k_ad:PySem.W.keepIn K (.ref f_ad)=true)
    (i_ad:PySem.W.isFn K (.ref f_ad)=true)
    (a_aa:PySem.W.nsIn K mainGlobals "_law_seats"=some (some (.ref f_aa)))
    (l_aa:K.lookup f_aa=some ⟨oc_aa,od_aa,.func (PySem.W.fnOf "_law_seats" "_law_seats" (xz s_aa) (xu s_aa) (xi s_aa) .none kv_aa dc_aa pm_aa an_aa cd_aa ct_aa),sl_aa⟩)
    (c_aa:PySem.W.codeIn K cd_aa "_law_seats"=true)
    (k_aa:PySem.W.keepIn K (.ref f_aa)=true)
    (i_aa:PySem.W.isFn K (.ref f_aa)=true)
    (a_r:PySem.W.nsIn K mainGlobals "_law_numbers"=some (some (.ref f_r)))
    (l_r:K.lookup f_r=some ⟨oc_r,od_r,.func (PySem.W.fnOf "_law_numbers" "_law_numbers" (xz s_r) (xu s_r) (xi s_r) .none kv_r dc_r pm_r an_r cd_r ct_r),sl_r⟩)
    (c_r:PySem.W.codeIn K cd_r "_law_numbers"=true)
    (k_r:PySem.W.keepIn K (.ref f_r)=true)
    (i_r:PySem.W.isFn K (.ref f_r)=true)
    (a_y:PySem.W.nsIn K mainGlobals "_law_point"=some (some (.ref f_y)))
    (l_y:K.lookup f_y=some ⟨oc_y,od_y,.func (PySem.W.fnOf "_law_point" "_law_point" (xz s_y) (xu s_y) (xi s_y) .none kv_y dc_y pm_y an_y cd_y ct_y),sl_y⟩)
    (c_y:PySem.W.codeIn K cd_y "_law_point"=true)
    (k_y:PySem.W.keepIn K (.ref f_y)=true)
    (i_y:PySem.W.isFn K (.ref f_y)=true)
    (a_w:PySem.W.nsIn K mainGlobals "_law_points"=some (some (.ref f_w)))
    (l_w:K.lookup f_w=some ⟨oc_w,od_w,.func (PySem.W.fnOf "_law_points" "_law_points" (xz s_w) (xu s_w) (xi s_w) .none kv_w dc_w pm_w an_w cd_w ct_w),sl_w⟩)
    (c_w:PySem.W.codeIn K cd_w "_law_points"=true)
    (k_w:PySem.W.keepIn K (.ref f_w)=true)
    (i_w:PySem.W.isFn K (.ref f_w)=true)
    (a_al:PySem.W.nsIn K mainGlobals "_law_put"=some (some (.ref f_al)))
    (l_al:K.lookup f_al=some ⟨oc_al,od_al,.func (PySem.W.fnOf "_law_put" "_law_put" (xz s_al) (xu s_al) (xi s_al) .none kv_al dc_al pm_al an_al cd_al ct_al),sl_al⟩)
    (c_al:PySem.W.codeIn K cd_al "_law_put"=true)
    (k_al:PySem.W.keepIn K (.ref f_al)=true)
    (i_al:PySem.W.isFn K (.ref f_al)=true)
    (a_t:PySem.W.nsIn K mainGlobals "_law_picture"=some (some (.ref f_t)))
    (l_t:K.lookup f_t=some ⟨oc_t,od_t,.func (PySem.W.fnOf "_law_picture" "_law_picture" (xz s_t) (xu s_t) (xi s_t) .none kv_t dc_t pm_t an_t cd_t ct_t),sl_t⟩)
    (c_t:PySem.W.codeIn K cd_t "_law_picture"=true)
    (k_t:PySem.W.keepIn K (.ref f_t)=true)
    (i_t:PySem.W.isFn K (.ref f_t)=true)
    (a_af:PySem.W.nsIn K mainGlobals "_law_free"=some (some (.ref f_af)))
    (l_af:K.lookup f_af=some ⟨oc_af,od_af,.func (PySem.W.fnOf "_law_free" "_law_free" (xz s_af) (xu s_af) (xi s_af) .none kv_af dc_af pm_af an_af cd_af ct_af),sl_af⟩)
    (c_af:PySem.W.codeIn K cd_af "_law_free"=true)
    (k_af:PySem.W.keepIn K (.ref f_af)=true)
    (i_af:PySem.W.isFn K (.ref f_af)=true)
    (a_z:PySem.W.nsIn K mainGlobals "_law_comes"=some (some (.ref f_z)))
    (l_z:K.lookup f_z=some ⟨oc_z,od_z,.func (PySem.W.fnOf "_law_comes" "_law_comes" (xz s_z) (xu s_z) (xi s_z) .none kv_z dc_z pm_z an_z cd_z ct_z),sl_z⟩)
    (c_z:PySem.W.codeIn K cd_z "_law_comes"=true)
    (k_z:PySem.W.keepIn K (.ref f_z)=true)
    (i_z:PySem.W.isFn K (.ref f_z)=true)
    (a_ae:PySem.W.nsIn K mainGlobals "_law_moves"=some (some (.ref f_ae)))
    (l_ae:K.lookup f_ae=some ⟨oc_ae,od_ae,.func (PySem.W.fnOf "_law_moves" "_law_moves" (xz s_ae) (xu s_ae) (xi s_ae) .none kv_ae dc_ae pm_ae an_ae cd_ae ct_ae),sl_ae⟩)
    (c_ae:PySem.W.codeIn K cd_ae "_law_moves"=true)
    (k_ae:PySem.W.keepIn K (.ref f_ae)=true)
    (i_ae:PySem.W.isFn K (.ref f_ae)=true)
    (a_ai:PySem.W.nsIn K mainGlobals "_law_deed"=some (some (.ref f_ai)))
    (l_ai:K.lookup f_ai=some ⟨oc_ai,od_ai,.func (PySem.W.fnOf "_law_deed" "_law_deed" (xz s_ai) (xu s_ai) (xi s_ai) .none kv_ai dc_ai pm_ai an_ai cd_ai ct_ai),sl_ai⟩)
    (c_ai:PySem.W.codeIn K cd_ai "_law_deed"=true)
    (k_ai:PySem.W.keepIn K (.ref f_ai)=true)
    (i_ai:PySem.W.isFn K (.ref f_ai)=true)
    (a_n:PySem.W.nsIn K mainGlobals "_law_one_more"=some (some (.ref f_n)))
    (l_n:K.lookup f_n=some ⟨oc_n,od_n,.func (PySem.W.fnOf "_law_one_more" "_law_one_more" (xz s_n) (xu s_n) (xi s_n) .none kv_n dc_n pm_n an_n cd_n ct_n),sl_n⟩)
    (c_n:PySem.W.codeIn K cd_n "_law_one_more"=true)
    (k_n:PySem.W.keepIn K (.ref f_n)=true)
    (i_n:PySem.W.isFn K (.ref f_n)=true)
    (a_ag:PySem.W.nsIn K mainGlobals "_law_stays"=some (some (.ref f_ag)))
    (l_ag:K.lookup f_ag=some ⟨oc_ag,od_ag,.func (PySem.W.fnOf "_law_stays" "_law_stays" (xz s_ag) (xu s_ag) (xi s_ag) .none kv_ag dc_ag pm_ag an_ag cd_ag ct_ag),sl_ag⟩)
    (c_ag:PySem.W.codeIn K cd_ag "_law_stays"=true)
    (k_ag:PySem.W.keepIn K (.ref f_ag)=true)
    (i_ag:PySem.W.isFn K (.ref f_ag)=true)
    (a_law:PySem.W.nsIn K mainGlobals "law"=some (some (.ref f_law)))
    (l_law:K.lookup f_law=some ⟨oc_law,od_law,.func (PySem.W.fnOf "law" "law" (xz xci) (xu xci) (xi xci) .none kv_law dc_law pm_law an_law cd_law ct_law),sl_law⟩)
    (c_law:PySem.W.codeIn K cd_law "law"=true)
    (k_law:PySem.W.keepIn K (.ref f_law)=true)
    (i_law:PySem.W.isFn K (.ref f_law)=true)
    (kc_ak:PySem.W.keepIn K (.ref C_ak)=true)
    (pg_ak:PySem.W.plainGet K C_ak Str.empty=true)
    (hd_ak:PySem.W.hasDictIn K C_ak=true)
    (po_ak:PySem.W.plainOver K C_ak=true)
    (sa_ak:PySem.W.findIn K (.ref C_ak) "__setattr__"=some (some (.builtin "object.__setattr__")))
    (mk_ak:PySem.W.makesIn K C_ak=true)
    (ca_ak:PySem.W.findIn K (.ref C_ak) "__class__"=some (some (.builtin "object.__class__")))
    (mo_ak:PySem.W.mroIn K C_ak (.type "object")=some true)
    (kc_as:PySem.W.keepIn K (.ref C_as)=true)
    (pg_as:PySem.W.plainGet K C_as Str.empty=true)
    (hd_as:PySem.W.hasDictIn K C_as=true)
    (po_as:PySem.W.plainOver K C_as=true)
    (sa_as:PySem.W.findIn K (.ref C_as) "__setattr__"=some (some (.builtin "object.__setattr__")))
    (mk_as:PySem.W.makesIn K C_as=true)
    (ca_as:PySem.W.findIn K (.ref C_as) "__class__"=some (some (.builtin "object.__class__")))
    (mo_as:PySem.W.mroIn K C_as (.type "object")=some true)
    (kc_am:PySem.W.keepIn K (.ref C_am)=true)
    (pg_am:PySem.W.plainGet K C_am Str.empty=true)
    (hd_am:PySem.W.hasDictIn K C_am=true)
    (po_am:PySem.W.plainOver K C_am=true)
    (sa_am:PySem.W.findIn K (.ref C_am) "__setattr__"=some (some (.builtin "object.__setattr__")))
    (mk_am:PySem.W.makesIn K C_am=true)
    (ca_am:PySem.W.findIn K (.ref C_am) "__class__"=some (some (.builtin "object.__class__")))
    (mo_am:PySem.W.mroIn K C_am (.type "object")=some true)
    (a_LeftSide_init:PySem.W.findIn K (.ref C_am) "__init__"=some (some (.ref f_ac)))
    (kc_aj:PySem.W.keepIn K (.ref C_aj)=true)
    (pg_aj:PySem.W.plainGet K C_aj Str.empty=true)
    (hd_aj:PySem.W.hasDictIn K C_aj=true)
    (po_aj:PySem.W.plainOver K C_aj=true)
    (sa_aj:PySem.W.findIn K (.ref C_aj) "__setattr__"=some (some (.builtin "object.__setattr__")))
    (mk_aj:PySem.W.makesIn K C_aj=true)
    (ca_aj:PySem.W.findIn K (.ref C_aj) "__class__"=some (some (.builtin "object.__class__")))
    (mo_aj:PySem.W.mroIn K C_aj (.type "object")=some true)
    (a_RightSide_init:PySem.W.findIn K (.ref C_aj) "__init__"=some (some (.ref f_ac)))
    (kc_k:PySem.W.keepIn K (.ref C_k)=true)
    (pg_k:PySem.W.plainGet K C_k Str.empty=true)
    (hd_k:PySem.W.hasDictIn K C_k=true)
    (po_k:PySem.W.plainOver K C_k=true)
    (sa_k:PySem.W.findIn K (.ref C_k) "__setattr__"=some (some (.builtin "object.__setattr__")))
    (mk_k:PySem.W.makesIn K C_k=true)
    (ca_k:PySem.W.findIn K (.ref C_k) "__class__"=some (some (.builtin "object.__class__")))
    (mo_k:PySem.W.mroIn K C_k (.type "object")=some true)
    (cg:PySem.W.specialIn K (.builtin "object.__class__") "__get__"=some (some (.builtin "getset_descriptor.__get__")))
    (ct:PySem.W.takesIn K (.builtin "object.__class__")=some true)
    (n_aq:PySem.W.findIn K (.ref C_k) "placed"=some none)
    (n_ar:PySem.W.findIn K (.ref C_k) "height"=some none)
    (n_aw:PySem.W.findIn K (.ref C_k) "width"=some none)
    (n_at:PySem.W.findIn K (.ref C_k) "opened"=some none)
    (n_au:PySem.W.findIn K (.ref C_ak) "holder_of"=some none)
    (n_av:PySem.W.findIn K (.ref C_ak) "seat_of"=some none)
    (n_a2:PySem.W.findIn K (.ref C_as) "width"=some none)
    (n_a0:PySem.W.findIn K (.ref C_am) "width"=some none)
    (n_ay:PySem.W.findIn K (.ref C_aj) "width"=some none)
    (n_bool:PySem.W.nsIn K mainGlobals "bool"=some none)
    (n_dict:PySem.W.nsIn K mainGlobals "dict"=some none)
    (n_enumerate:PySem.W.nsIn K mainGlobals "enumerate"=some none)
    (n_int:PySem.W.nsIn K mainGlobals "int"=some none)
    (n_isinstance:PySem.W.nsIn K mainGlobals "isinstance"=some none)
    (n_len:PySem.W.nsIn K mainGlobals "len"=some none)
    (n_list:PySem.W.nsIn K mainGlobals "list"=some none)
    (n_min:PySem.W.nsIn K mainGlobals "min"=some none)
    (n_range:PySem.W.nsIn K mainGlobals "range"=some none)
    (n_reversed:PySem.W.nsIn K mainGlobals "reversed"=some none)
    (n_sorted:PySem.W.nsIn K mainGlobals "sorted"=some none)
    (n_str:PySem.W.nsIn K mainGlobals "str"=some none)
    (v_a1:PySem.W.nsIn K mainGlobals "MOST_ROWS"=some (some (.int 16 tkc_a1)))
    (v_ax:PySem.W.nsIn K mainGlobals "MOST_COLUMNS"=some (some (.int 30 tkc_ax)))
    (v_az:PySem.W.nsIn K mainGlobals "MOST_POINTS"=some (some (.int 12 tkc_az)))
    (g_ao:PySem.W.nsIn K mainGlobals "MIRRORED_SIDES"=some (some (.ref D_ao)))
    (l_ao:K.lookup D_ao=some ⟨.type "dict",none,.dict #[⟨hashStr w "left",.str "left" ta0_ao,.str "right" tb0_ao⟩,⟨hashStr w "right",.str "right" ta1_ao,.str "left" tb1_ao⟩,⟨hashStr w "both",.str "both" ta2_ao,.str "both" tb2_ao⟩] ep_ao,#[]⟩)
    (ns_ao:(D_ao == sysModules)=false)
   :∃ t,Txt w K mg t :=
  ⟨⟨f_u,_,f_j,_,f_c,_,f_crowds,_,f_ah,_,f_kept,_,f_ac,_,f_ap,_,f_x,_,f_an,_,f_v,_,f_l,_,T_l,f_p,_,f_q,_,f_f,_,f_i,_,f_g,_,f_m,_,f_s,_,f_h,_,f_b,_,f_e,_,f_a,_,f_d,_,f_o,_,f_ab,_,f_ad,_,f_aa,_,f_r,_,f_y,_,f_w,_,f_al,_,f_t,_,f_af,_,f_z,_,f_ae,_,f_ai,_,f_n,_,f_ag,_,f_law,_,C_ak,C_as,C_am,C_aj,C_k,D_ao⟩,{
    g_ak:=PySem.W.mg_of X G g_ak
    g_as:=PySem.W.mg_of X G g_as
    g_am:=PySem.W.mg_of X G g_am
    g_aj:=PySem.W.mg_of X G g_aj
    g_k:=PySem.W.mg_of X G g_k
    F_u:=xp (st:=s_u) l_u c_u k_u
    b_u:=(xp (st:=s_u) l_u c_u k_u).binds (ps:=["self"]) fun _ _ _ _ _ _ us hl=>match us,hl with | [_],_=>rfl
    F_j:=xp (st:=s_j) l_j c_j k_j
    b_j:=(xp (st:=s_j) l_j c_j k_j).binds (ps:=["self", "asked_by", "free_seat"]) fun _ _ _ _ _ _ us hl=>match us,hl with | [_,_,_],_=>rfl
    F_c:=xp (st:=s_c) l_c c_c k_c
    b_c:=(xp (st:=s_c) l_c c_c k_c).binds (ps:=["self", "name", "rooms"]) fun _ _ _ _ _ _ us hl=>match us,hl with | [_,_,_],_=>rfl
    g_crowds:=PySem.W.mg_of X G a_crowds
    F_crowds:=xp (st:=xb2) l_crowds c_crowds k_crowds
    b_crowds:=(xp (st:=xb2) l_crowds c_crowds k_crowds).binds (ps:=["picture", "names"]) fun _ _ _ _ _ _ us hl=>match us,hl with | [_,_],_=>rfl
    g_ah:=PySem.W.mg_of X G a_ah
    F_ah:=xp (st:=s_ah) l_ah c_ah k_ah
    b_ah:=(xp (st:=s_ah) l_ah c_ah k_ah).binds (ps:=["picture"]) fun _ _ _ _ _ _ us hl=>match us,hl with | [_],_=>rfl
    g_kept:=PySem.W.mg_of X G a_kept
    F_kept:=xp (st:=xcn) l_kept c_kept k_kept
    b_kept:=(xp (st:=xcn) l_kept c_kept k_kept).binds (ps:=["picture"]) fun _ _ _ _ _ _ us hl=>match us,hl with | [_],_=>rfl
    F_ac:=xp (st:=s_ac) l_ac c_ac k_ac
    b_ac:=(xp (st:=s_ac) l_ac c_ac k_ac).binds (ps:=["self", "width"]) fun _ _ _ _ _ _ us hl=>match us,hl with | [_,_],_=>rfl
    g_ap:=PySem.W.mg_of X G a_ap
    F_ap:=xp (st:=s_ap) l_ap c_ap k_ap
    b_ap:=(xp (st:=s_ap) l_ap c_ap k_ap).binds (ps:=["word", "width"]) fun _ _ _ _ _ _ us hl=>match us,hl with | [_,_],_=>rfl
    g_x:=PySem.W.mg_of X G a_x
    F_x:=xp (st:=s_x) l_x c_x k_x
    b_x:=(xp (st:=s_x) l_x c_x k_x).binds (ps:=["thing", "low", "high"]) fun _ _ _ _ _ _ us hl=>match us,hl with | [_,_,_],_=>rfl
    g_an:=PySem.W.mg_of X G a_an
    F_an:=xp (st:=s_an) l_an c_an k_an
    b_an:=(xp (st:=s_an) l_an c_an k_an).binds (ps:=["thing"]) fun _ _ _ _ _ _ us hl=>match us,hl with | [_],_=>rfl
    F_v:=xp (st:=s_v) l_v c_v k_v
    b_v:=(xp (st:=s_v) l_v c_v k_v).binds (ps:=["self", "width", "height"]) fun _ _ _ _ _ _ us hl=>match us,hl with | [_,_,_],_=>rfl
    F_l:=(xf2 (st:=s_l) l_l c_l k_l)
    b_a3:=⟨_,.cons (⟨_,rfl⟩) (.cons (⟨_,rfl⟩) (.cons (rfl) (.nil))),(xf2 (st:=s_l) l_l c_l k_l).binds t_l rfl 4 rfl fun _ _ _ _ _ _ us hl=>match us,hl with | [_,_,_,_],_=>⟨_,rfl,rfl⟩⟩
    b_l:=(xf2 (st:=s_l) l_l c_l k_l).binds t_l rfl 7 rfl fun _ _ _ _ _ _ us hl=>match us,hl with | [_,_,_,_,_,_,_],_=>⟨_,rfl,rfl⟩
    F_p:=xp (st:=s_p) l_p c_p k_p
    b_p:=(xp (st:=s_p) l_p c_p k_p).binds (ps:=["self", "name"]) fun _ _ _ _ _ _ us hl=>match us,hl with | [_,_],_=>rfl
    F_q:=xp (st:=s_q) l_q c_q k_q
    b_q:=(xp (st:=s_q) l_q c_q k_q).binds (ps:=["self", "name", "x", "y"]) fun _ _ _ _ _ _ us hl=>match us,hl with | [_,_,_,_],_=>rfl
    F_f:=xp (st:=s_f) l_f c_f k_f
    b_f:=(xp (st:=s_f) l_f c_f k_f).binds (ps:=["self", "side", "row"]) fun _ _ _ _ _ _ us hl=>match us,hl with | [_,_,_],_=>rfl
    F_i:=xp (st:=s_i) l_i c_i k_i
    b_i:=(xp (st:=s_i) l_i c_i k_i).binds (ps:=["self", "side", "row"]) fun _ _ _ _ _ _ us hl=>match us,hl with | [_,_,_],_=>rfl
    F_g:=xp (st:=s_g) l_g c_g k_g
    b_g:=(xp (st:=s_g) l_g c_g k_g).binds (ps:=["self"]) fun _ _ _ _ _ _ us hl=>match us,hl with | [_],_=>rfl
    F_m:=xp (st:=s_m) l_m c_m k_m
    b_m:=(xp (st:=s_m) l_m c_m k_m).binds (ps:=["self"]) fun _ _ _ _ _ _ us hl=>match us,hl with | [_],_=>rfl
    F_s:=xp (st:=s_s) l_s c_s k_s
    b_s:=(xp (st:=s_s) l_s c_s k_s).binds (ps:=["self", "name", "side", "row"]) fun _ _ _ _ _ _ us hl=>match us,hl with | [_,_,_,_],_=>rfl
    F_h:=xp (st:=s_h) l_h c_h k_h
    b_h:=(xp (st:=s_h) l_h c_h k_h).binds (ps:=["self", "name"]) fun _ _ _ _ _ _ us hl=>match us,hl with | [_,_],_=>rfl
    F_b:=xp (st:=s_b) l_b c_b k_b
    b_b:=(xp (st:=s_b) l_b c_b k_b).binds (ps:=["self", "name"]) fun _ _ _ _ _ _ us hl=>match us,hl with | [_,_],_=>rfl
    F_e:=xp (st:=s_e) l_e c_e k_e
    b_e:=(xp (st:=s_e) l_e c_e k_e).binds (ps:=["self", "x", "y"]) fun _ _ _ _ _ _ us hl=>match us,hl with | [_,_,_],_=>rfl
    F_a:=xp (st:=s_a) l_a c_a k_a
    b_a:=(xp (st:=s_a) l_a c_a k_a).binds (ps:=["self", "name", "x", "y"]) fun _ _ _ _ _ _ us hl=>match us,hl with | [_,_,_,_],_=>rfl
    F_d:=xp (st:=s_d) l_d c_d k_d
    b_d:=(xp (st:=s_d) l_d c_d k_d).binds (ps:=["self", "side", "row"]) fun _ _ _ _ _ _ us hl=>match us,hl with | [_,_,_],_=>rfl
    g_o:=PySem.W.mg_of X G a_o
    F_o:=xp (st:=s_o) l_o c_o k_o
    b_o:=(xp (st:=s_o) l_o c_o k_o).binds (ps:=["_law_script", "_law_k"]) fun _ _ _ _ _ _ us hl=>match us,hl with | [_,_],_=>rfl
    g_ab:=PySem.W.mg_of X G a_ab
    F_ab:=xp (st:=s_ab) l_ab c_ab k_ab
    b_ab:=(xp (st:=s_ab) l_ab c_ab k_ab).binds (ps:=["_law_cell", "_law_k"]) fun _ _ _ _ _ _ us hl=>match us,hl with | [_,_],_=>rfl
    g_ad:=PySem.W.mg_of X G a_ad
    F_ad:=xp (st:=s_ad) l_ad c_ad k_ad
    b_ad:=(xp (st:=s_ad) l_ad c_ad k_ad).binds (ps:=["_law_script"]) fun _ _ _ _ _ _ us hl=>match us,hl with | [_],_=>rfl
    g_aa:=PySem.W.mg_of X G a_aa
    F_aa:=xp (st:=s_aa) l_aa c_aa k_aa
    b_aa:=(xp (st:=s_aa) l_aa c_aa k_aa).binds (ps:=["_law_script", "_law_height"]) fun _ _ _ _ _ _ us hl=>match us,hl with | [_,_],_=>rfl
    g_r:=PySem.W.mg_of X G a_r
    F_r:=xp (st:=s_r) l_r c_r k_r
    b_r:=(xp (st:=s_r) l_r c_r k_r).binds (ps:=["_law_cell", "_law_digits", "_law_bases"]) fun _ _ _ _ _ _ us hl=>match us,hl with | [_,_,_],_=>rfl
    g_y:=PySem.W.mg_of X G a_y
    F_y:=xp (st:=s_y) l_y c_y k_y
    b_y:=(xp (st:=s_y) l_y c_y k_y).binds (ps:=["_law_numbers_here", "_law_name", "_law_x", "_law_y", "_law_height"]) fun _ _ _ _ _ _ us hl=>match us,hl with | [_,_,_,_,_],_=>rfl
    g_w:=PySem.W.mg_of X G a_w
    F_w:=xp (st:=s_w) l_w c_w k_w
    b_w:=(xp (st:=s_w) l_w c_w k_w).binds (ps:=["_law_cells", "_law_digits", "_law_width", "_law_height"]) fun _ _ _ _ _ _ us hl=>match us,hl with | [_,_,_,_],_=>rfl
    g_al:=PySem.W.mg_of X G a_al
    F_al:=xp (st:=s_al) l_al c_al k_al
    b_al:=(xp (st:=s_al) l_al c_al k_al).binds (ps:=["_law_picture_here", "_law_point_here"]) fun _ _ _ _ _ _ us hl=>match us,hl with | [_,_],_=>rfl
    g_t:=PySem.W.mg_of X G a_t
    F_t:=xp (st:=s_t) l_t c_t k_t
    b_t:=(xp (st:=s_t) l_t c_t k_t).binds (ps:=["_law_width", "_law_height", "_law_points_here", "_law_seats_here"]) fun _ _ _ _ _ _ us hl=>match us,hl with | [_,_,_,_],_=>rfl
    g_af:=PySem.W.mg_of X G a_af
    F_af:=xp (st:=s_af) l_af c_af k_af
    b_af:=(xp (st:=s_af) l_af c_af k_af).binds (ps:=["_law_most", "_law_had", "_law_cell"]) fun _ _ _ _ _ _ us hl=>match us,hl with | [_,_,_],_=>rfl
    g_z:=PySem.W.mg_of X G a_z
    F_z:=xp (st:=s_z) l_z c_z k_z
    b_z:=(xp (st:=s_z) l_z c_z k_z).binds (ps:=["_law_picture_here", "_law_numbers_here"]) fun _ _ _ _ _ _ us hl=>match us,hl with | [_,_],_=>rfl
    g_ae:=PySem.W.mg_of X G a_ae
    F_ae:=xp (st:=s_ae) l_ae c_ae k_ae
    b_ae:=(xp (st:=s_ae) l_ae c_ae k_ae).binds (ps:=["_law_picture_here", "_law_numbers_here", "_law_name"]) fun _ _ _ _ _ _ us hl=>match us,hl with | [_,_,_],_=>rfl
    g_ai:=PySem.W.mg_of X G a_ai
    F_ai:=xp (st:=s_ai) l_ai c_ai k_ai
    b_ai:=(xp (st:=s_ai) l_ai c_ai k_ai).binds (ps:=["_law_picture_here", "_law_numbers_here"]) fun _ _ _ _ _ _ us hl=>match us,hl with | [_,_],_=>rfl
    g_n:=PySem.W.mg_of X G a_n
    F_n:=xp (st:=s_n) l_n c_n k_n
    b_n:=(xp (st:=s_n) l_n c_n k_n).binds (ps:=["_law_old", "_law_new"]) fun _ _ _ _ _ _ us hl=>match us,hl with | [_,_],_=>rfl
    g_ag:=PySem.W.mg_of X G a_ag
    F_ag:=xp (st:=s_ag) l_ag c_ag k_ag
    b_ag:=(xp (st:=s_ag) l_ag c_ag k_ag).binds (ps:=["_law_word", "_law_name", "_law_old", "_law_new"]) fun _ _ _ _ _ _ us hl=>match us,hl with | [_,_,_,_],_=>rfl
    g_law:=PySem.W.mg_of X G a_law
    F_law:=xp (st:=xci) l_law c_law k_law
    b_law:=(xp (st:=xci) l_law c_law k_law).binds (ps:=["_law_script"]) fun _ _ _ _ _ _ us hl=>match us,hl with | [_],_=>rfl
    c_ak:=⟨pg_ak,hd_ak,po_ak,sa_ak⟩
    ca_ak:=ca_ak
    mo_ak:=mo_ak
    k_ak:=⟨mk_ak,a_u,i_u,kc_ak⟩
    m_j:=⟨a_j,i_j,k_j⟩
    m_c:=⟨a_c,i_c,k_c⟩
    c_as:=⟨pg_as,hd_as,po_as,sa_as⟩
    ca_as:=ca_as
    mo_as:=mo_as
    k_as:=⟨mk_as,a_ac,i_ac,kc_as⟩
    c_am:=⟨pg_am,hd_am,po_am,sa_am⟩
    ca_am:=ca_am
    mo_am:=mo_am
    k_am:=⟨mk_am,a_LeftSide_init,i_ac,kc_am⟩
    c_aj:=⟨pg_aj,hd_aj,po_aj,sa_aj⟩
    ca_aj:=ca_aj
    mo_aj:=mo_aj
    k_aj:=⟨mk_aj,a_RightSide_init,i_ac,kc_aj⟩
    c_k:=⟨pg_k,hd_k,po_k,sa_k⟩
    ca_k:=ca_k
    mo_k:=mo_k
    k_k:=⟨mk_k,a_v,i_v,kc_k⟩
    m_l:=⟨a_l,i_l,k_l⟩
    m_p:=⟨a_p,i_p,k_p⟩
    m_q:=⟨a_q,i_q,k_q⟩
    m_f:=⟨a_f,i_f,k_f⟩
    m_i:=⟨a_i,i_i,k_i⟩
    m_g:=⟨a_g,i_g,k_g⟩
    m_m:=⟨a_m,i_m,k_m⟩
    m_s:=⟨a_s,i_s,k_s⟩
    m_h:=⟨a_h,i_h,k_h⟩
    m_b:=⟨a_b,i_b,k_b⟩
    m_e:=⟨a_e,i_e,k_e⟩
    m_a:=⟨a_a,i_a,k_a⟩
    m_d:=⟨a_d,i_d,k_d⟩
    cg:=cg
    ct:=ct
    n_aq:=n_aq
    n_ar:=n_ar
    n_aw:=n_aw
    n_at:=n_at
    n_au:=n_au
    n_av:=n_av
    n_a2:=n_a2
    n_a0:=n_a0
    n_ay:=n_ay
    n_bool:=PySem.W.mg_none_of X G n_bool
    n_dict:=PySem.W.mg_none_of X G n_dict
    n_enumerate:=PySem.W.mg_none_of X G n_enumerate
    n_int:=PySem.W.mg_none_of X G n_int
    n_isinstance:=PySem.W.mg_none_of X G n_isinstance
    n_len:=PySem.W.mg_none_of X G n_len
    n_list:=PySem.W.mg_none_of X G n_list
    n_min:=PySem.W.mg_none_of X G n_min
    n_range:=PySem.W.mg_none_of X G n_range
    n_reversed:=PySem.W.mg_none_of X G n_reversed
    n_sorted:=PySem.W.mg_none_of X G n_sorted
    n_str:=PySem.W.mg_none_of X G n_str
    v_a1:=⟨_,PySem.W.mg_of X G v_a1⟩
    v_ax:=⟨_,PySem.W.mg_of X G v_ax⟩
    v_az:=⟨_,PySem.W.mg_of X G v_az⟩
    g_ao:=PySem.W.mg_of X G g_ao
    D_ao:=⟨ns_ao,_,_,l_ao,.cons rfl ⟨_,rfl⟩ ⟨_,rfl⟩ (.cons rfl ⟨_,rfl⟩ ⟨_,rfl⟩ (.cons rfl ⟨_,rfl⟩ ⟨_,rfl⟩ (.nil))),by decide⟩ }⟩
theorem sc_u:x5 ["self"] ["self"] (xi s_u):=⟨rfl,rfl,rfl,by decide +kernel,rfl,by decide +kernel,by decide +kernel⟩
theorem sc_j:x5 ["self", "asked_by", "free_seat", "seat", "name", "left_behind"] ["self", "asked_by", "free_seat"] (xi s_j):=⟨rfl,rfl,rfl,by decide +kernel,rfl,by decide +kernel,by decide +kernel⟩
theorem sc_c:x5 ["self", "name", "rooms", "crowd", "asked_by", "number", "asker", "seat"] ["self", "name", "rooms"] (xi s_c):=⟨rfl,rfl,rfl,by decide +kernel,rfl,by decide +kernel,by decide +kernel⟩
theorem xcd:x5 ["picture", "names", "rooms", "seating", "found", "name", "crowd"] ["picture", "names"] (xi xb2):=⟨rfl,rfl,rfl,by decide +kernel,rfl,by decide +kernel,by decide +kernel⟩
theorem sc_ah:x5 ["picture", "names"] ["picture"] (xi s_ah):=⟨rfl,rfl,rfl,by decide +kernel,rfl,by decide +kernel,by decide +kernel⟩
theorem xim:x5 ["picture", "out"] ["picture"] (xi xcn):=⟨rfl,rfl,rfl,by decide +kernel,rfl,by decide +kernel,by decide +kernel⟩
theorem sc_ac:x5 ["self", "width"] ["self", "width"] (xi s_ac):=⟨rfl,rfl,rfl,by decide +kernel,rfl,by decide +kernel,by decide +kernel⟩
theorem sc_ap:x5 ["word", "width"] ["word", "width"] (xi s_ap):=⟨rfl,rfl,rfl,by decide +kernel,rfl,by decide +kernel,by decide +kernel⟩
theorem sc_x:x5 ["thing", "low", "high"] ["thing", "low", "high"] (xi s_x):=⟨rfl,rfl,rfl,by decide +kernel,rfl,by decide +kernel,by decide +kernel⟩
theorem sc_an:x5 ["thing"] ["thing"] (xi s_an):=⟨rfl,rfl,rfl,by decide +kernel,rfl,by decide +kernel,by decide +kernel⟩
theorem sc_v:x5 ["self", "width", "height"] ["self", "width", "height"] (xi s_v):=⟨rfl,rfl,rfl,by decide +kernel,rfl,by decide +kernel,by decide +kernel⟩
theorem sc_l:x5 ["self", "name", "x", "y", "sides", "low", "high", "highest"] ["self", "name", "x", "y", "sides", "low", "high"] (xi s_l):=⟨rfl,rfl,rfl,by decide +kernel,rfl,by decide +kernel,by decide +kernel⟩
theorem sc_p:x5 ["self", "name"] ["self", "name"] (xi s_p):=⟨rfl,rfl,rfl,by decide +kernel,rfl,by decide +kernel,by decide +kernel⟩
theorem sc_q:x5 ["self", "name", "x", "y"] ["self", "name", "x", "y"] (xi s_q):=⟨rfl,rfl,rfl,by decide +kernel,rfl,by decide +kernel,by decide +kernel⟩
theorem sc_f:x5 ["self", "side", "row"] ["self", "side", "row"] (xi s_f):=⟨rfl,rfl,rfl,by decide +kernel,rfl,by decide +kernel,by decide +kernel⟩
theorem sc_i:x5 ["self", "side", "row"] ["self", "side", "row"] (xi s_i):=⟨rfl,rfl,rfl,by decide +kernel,rfl,by decide +kernel,by decide +kernel⟩
theorem sc_g:x5 ["self"] ["self"] (xi s_g):=⟨rfl,rfl,rfl,by decide +kernel,rfl,by decide +kernel,by decide +kernel⟩
theorem sc_m:x5 ["self"] ["self"] (xi s_m):=⟨rfl,rfl,rfl,by decide +kernel,rfl,by decide +kernel,by decide +kernel⟩
theorem sc_s:x5 ["self", "name", "side", "row", "x", "y", "sides", "low", "high"] ["self", "name", "side", "row"] (xi s_s):=⟨rfl,rfl,rfl,by decide +kernel,rfl,by decide +kernel,by decide +kernel⟩
theorem sc_h:x5 ["self", "name"] ["self", "name"] (xi s_h):=⟨rfl,rfl,rfl,by decide +kernel,rfl,by decide +kernel,by decide +kernel⟩
theorem sc_b:x5 ["self", "name"] ["self", "name"] (xi s_b):=⟨rfl,rfl,rfl,by decide +kernel,rfl,by decide +kernel,by decide +kernel⟩
theorem sc_e:x5 ["self", "x", "y"] ["self", "x", "y"] (xi s_e):=⟨rfl,rfl,rfl,by decide +kernel,rfl,by decide +kernel,by decide +kernel⟩
theorem sc_a:x5 ["self", "name", "x", "y", "others", "other"] ["self", "name", "x", "y"] (xi s_a):=⟨rfl,rfl,rfl,by decide +kernel,rfl,by decide +kernel,by decide +kernel⟩
theorem sc_d:x5 ["self", "side", "row"] ["self", "side", "row"] (xi s_d):=⟨rfl,rfl,rfl,by decide +kernel,rfl,by decide +kernel,by decide +kernel⟩
theorem sc_o:x5 ["_law_script", "_law_k"] ["_law_script", "_law_k"] (xi s_o):=⟨rfl,rfl,rfl,by decide +kernel,rfl,by decide +kernel,by decide +kernel⟩
theorem sc_ab:x5 ["_law_cell", "_law_k", "_law_number"] ["_law_cell", "_law_k"] (xi s_ab):=⟨rfl,rfl,rfl,by decide +kernel,rfl,by decide +kernel,by decide +kernel⟩
theorem sc_ad:x5 ["_law_script", "_law_cell", "_law_width", "_law_height"] ["_law_script"] (xi s_ad):=⟨rfl,rfl,rfl,by decide +kernel,rfl,by decide +kernel,by decide +kernel⟩
theorem sc_aa:x5 ["_law_script", "_law_height", "_law_cell", "_law_digits", "_law_thick", "_law_seats_here", "_law_k", "_law_side", "_law_row"] ["_law_script", "_law_height"] (xi s_aa):=⟨rfl,rfl,rfl,by decide +kernel,rfl,by decide +kernel,by decide +kernel⟩
theorem sc_r:x5 ["_law_cell", "_law_digits", "_law_bases", "_law_numbers_here", "_law_k", "_law_base"] ["_law_cell", "_law_digits", "_law_bases"] (xi s_r):=⟨rfl,rfl,rfl,by decide +kernel,rfl,by decide +kernel,by decide +kernel⟩
theorem sc_y:x5 ["_law_numbers_here", "_law_name", "_law_x", "_law_y", "_law_height", "_law_sides", "_law_low", "_law_high", "_law_way"] ["_law_numbers_here", "_law_name", "_law_x", "_law_y", "_law_height"] (xi s_y):=⟨rfl,rfl,rfl,by decide +kernel,rfl,by decide +kernel,by decide +kernel⟩
theorem sc_w:x5 ["_law_cells", "_law_digits", "_law_width", "_law_height", "_law_columns", "_law_rows", "_law_letters", "_law_points_here", "_law_cell", "_law_numbers_here", "_law_x", "_law_y", "_law_name"] ["_law_cells", "_law_digits", "_law_width", "_law_height"] (xi s_w):=⟨rfl,rfl,rfl,by decide +kernel,rfl,by decide +kernel,by decide +kernel⟩
theorem sc_al:x5 ["_law_picture_here", "_law_point_here", "_law_name", "_law_x", "_law_y", "_law_sides", "_law_low", "_law_high"] ["_law_picture_here", "_law_point_here"] (xi s_al):=⟨rfl,rfl,rfl,by decide +kernel,rfl,by decide +kernel,by decide +kernel⟩
theorem sc_t:x5 ["_law_width", "_law_height", "_law_points_here", "_law_seats_here", "_law_picture_here", "_law_side", "_law_row", "_law_point_here"] ["_law_width", "_law_height", "_law_points_here", "_law_seats_here"] (xi s_t):=⟨rfl,rfl,rfl,by decide +kernel,rfl,by decide +kernel,by decide +kernel⟩
theorem sc_af:x5 ["_law_most", "_law_had", "_law_cell", "_law_some"] ["_law_most", "_law_had", "_law_cell"] (xi s_af):=⟨rfl,rfl,rfl,by decide +kernel,rfl,by decide +kernel,by decide +kernel⟩
theorem sc_z:x5 ["_law_picture_here", "_law_numbers_here", "_law_points_here", "_law_x", "_law_y", "_law_had", "_law_letters", "_law_name"] ["_law_picture_here", "_law_numbers_here"] (xi s_z):=⟨rfl,rfl,rfl,by decide +kernel,rfl,by decide +kernel,by decide +kernel⟩
theorem sc_ae:x5 ["_law_picture_here", "_law_numbers_here", "_law_name", "_law_points_here", "_law_x", "_law_y"] ["_law_picture_here", "_law_numbers_here", "_law_name"] (xi s_ae):=⟨rfl,rfl,rfl,by decide +kernel,rfl,by decide +kernel,by decide +kernel⟩
theorem sc_ai:x5 ["_law_picture_here", "_law_numbers_here", "_law_names", "_law_way", "_law_side", "_law_row", "_law_name"] ["_law_picture_here", "_law_numbers_here"] (xi s_ai):=⟨rfl,rfl,rfl,by decide +kernel,rfl,by decide +kernel,by decide +kernel⟩
theorem sc_n:x5 ["_law_old", "_law_new", "_law_fresh", "_law_gone"] ["_law_old", "_law_new"] (xi s_n):=⟨rfl,rfl,rfl,by decide +kernel,rfl,by decide +kernel,by decide +kernel⟩
theorem sc_ag:x5 ["_law_word", "_law_name", "_law_old", "_law_new", "_law_others"] ["_law_word", "_law_name", "_law_old", "_law_new"] (xi s_ag):=⟨rfl,rfl,rfl,by decide +kernel,rfl,by decide +kernel,by decide +kernel⟩
theorem xbr:x5 ["_law_script", "_law_width", "_law_height", "_law_digits", "_law_points_here", "_law_picture_here", "_law_old", "_law_k", "_law_cell", "_law_word", "_law_name", "_law_new", "_law_names", "_law_gone"] ["_law_script"] (xi xci):=⟨rfl,rfl,rfl,by decide +kernel,rfl,by decide +kernel,by decide +kernel⟩
end S35
set_option maxRecDepth 100000
set_option maxHeartbeats 4000000
namespace S35
open PySem L2 XL PyProof.Rows
theorem xcq {K:PySem.W.Frag} {v:Value}:PySem.W.kitOne K v v=some true:=if_pos (by simp)
theorem xo {H H':Hp} {p:Addr} {o:HO} (s:Same H H') (hp:H' p=none):Same H (L2.upd H' p o):=fun b u z=>by
 have z':=s b u z
 rw [xh (xf z' hp)]
 exact z'
theorem xl6 {H:Hp} {x dx:Addr} {a b c:HO} (hx:H x=none) (hd:H dx=none):Same H (upd (upd (upd H dx a) x b) x c):=fun y o e=>by
 rw [xh (xf e hx),xh (xf e hx),xh (xf e hd)]
 exact e
def x4 (b:Bool):Str:=if b then "left" else "right"
def xob (t:Adr) (H:Hp) (p:Addr) (b:Bool) (w:Int):Prop:=∃ dx,H p=some (.ins (if b then t.C_am else t.C_aj) dx [("width",.int w)])
def xop (K:PySem.W.Frag):Sp:=fun vs H Q _=>∃ (p C dx:Addr) (n:Int),vs=[.ref p,.int n]∧H p=some (.ins C dx [])∧Cls K C∧xc9 K C "width"∧Q .non (upd H p (.ins C dx [("width",.int n)]))
def xla (t:Adr):Sp:=fun vs H Q _=>∃ (b:Bool) (n:Int),vs=[.str (x4 b),.int n]∧∀ p H',H p=none→xob t H' p b n→Same H H'→Q (.ref p) H'
section
variable {P:Program} {w:World} {K:PySem.W.Frag} {mg:Str→Option Value} {base:Heap} {t:Adr}
theorem ok_ac (T:Txt w K mg t):FnOk true P w K mg base (CXo P w) 1 t.f_ac t.d_ac ["self", "width"] (xop K):=by
 refine T.F_ac.okn (k:=0) sc_ac (fun vs H Q E h=>?_) (fun cdv A outer s H vs Q E hr h=>?_)
 ·obtain ⟨p,C,dx,n,rfl,_⟩:=h
  rfl
 ·obtain ⟨p,C,dx,n,rfl,h⟩:=h
  refine ⟨_,xn (xc6 (pv 0) (pv 1) rfl),?_⟩
  obtain ⟨hp,c,na,q⟩:=h
  exact ⟨_,rfl,_,rfl,p,C,dx,[],rfl,hp,c,na,(by show 0 < 1000; decide),q⟩
theorem ok_ap (T:Txt w K mg t):FnOk true P w K mg base (CXo P w) 3 t.f_ap t.d_ap ["word", "width"] (xla t):=by
 refine T.F_ap.okn (k:=2) sc_ap (fun vs H Q E h=>?_) (fun cdv A outer s H vs Q E hr h=>?_)
 ·obtain ⟨b,n,rfl,_⟩:=h
  rfl
 ·obtain ⟨b,n,rfl,h⟩:=h
  refine ⟨_,xb (xag (xbe (xav xcu rfl T.n_isinstance boot_isinstance (xa (pv 0) (xa (xdr (v:=.ty "str") rfl T.n_str boot_str rfl) (xj))))) (xb (xag (xw xa5 (pv 0) (xaq) (x6 _)) (xn (xaa (xf4 T.k_am (ok_ac T) (hr.mono (by decide)) rfl T.g_am T.b_ac .nil xm (xa (pv 1) (xj))))) (x9))
   (xn (xag (xw xa5 (pv 0) (xaq) (x6 _)) (xn (xaa (xf4 T.k_aj (ok_ac T) (hr.mono (by decide)) rfl T.g_aj T.b_ac .nil xm (xa (pv 1) (xj))))) (x9)))) (x9))
   (xn (xba)),?_⟩
  cases b with
  | true =>
   refine ⟨_,rfl,_,_,rfl,.inl ⟨_,_,true,.str _,rfl,xcq,true,rfl,iteT ?_⟩⟩
   refine ⟨_,rfl,rfl,_,rfl,?_⟩
   refine ifP (by decide +kernel) ?_
   exact ⟨_,rfl,fun x dx hx hdx ne=>⟨x,t.C_am,dx,n,rfl,xg,T.c_am,T.n_a0,rfl,h x _ hx ⟨dx,xg⟩ (xl6 hx hdx)⟩⟩
  | false =>
   refine ⟨_,rfl,_,_,rfl,.inl ⟨_,_,true,.str _,rfl,xcq,true,rfl,iteT ?_⟩⟩
   refine ⟨_,rfl,rfl,_,rfl,?_⟩
   refine ifN (by decide +kernel) ?_
   refine ⟨_,rfl,rfl,_,rfl,?_⟩
   refine ifP (by decide +kernel) ?_
   exact ⟨_,rfl,fun x dx hx hdx ne=>⟨x,t.C_aj,dx,n,rfl,xg,T.c_aj,T.n_ay,rfl,h x _ hx ⟨dx,xg⟩ (xl6 hx hdx)⟩⟩
end
def isNm (x:Str):Bool:=decide (x.length=1) && (!decide (x.cps.toList < [97]) && !decide ([122] < x.cps.toList))
def xpq:Sp:=fun vs H Q _=>∃ (i lo hi:Int),vs=[.int i,.int lo,.int hi]∧lo≤i∧i≤hi∧Q (.bl true) H
def xox:Sp:=fun vs H Q _=>∃ (x:Str),vs=[.str x]∧isNm x=true∧Q (.bl true) H
theorem xpo:("a":Str).cps.toList=[97]:=by decide +kernel
theorem xo3:("z":Str).cps.toList=[122]:=by decide +kernel
section
variable {P:Program} {w:World} {K:PySem.W.Frag} {mg:Str→Option Value} {base:Heap} {t:Adr}
theorem ok_x (T:Txt w K mg t):FnOk true P w K mg base (CXo P w) 1 t.f_x t.d_x ["thing", "low", "high"] (xpq):=by
 refine T.F_x.okn (k:=0) sc_x (fun vs H Q E h=>?_) (fun cdv A outer s H vs Q E hr h=>?_)
 ·obtain ⟨i,lo,hi,rfl,_⟩:=h
  rfl
 ·obtain ⟨i,lo,hi,rfl,h⟩:=h
  refine ⟨_,xn (xaa (xcs (xav xcu rfl T.n_isinstance boot_isinstance (xa (pv 0) (xa (xdr (v:=.ty "int") rfl T.n_int boot_int rfl) (xj)))) (xcs (xoo (xav xcu rfl T.n_isinstance boot_isinstance (xa (pv 0) (xa (xdr (v:=.ty "bool") rfl T.n_bool boot_bool rfl) (xj))))) (xd4 (xe9 xgr xgr (pv 1) (pv 0) (pv 2)))))),?_⟩
  obtain ⟨c1,c2,q⟩:=h
  refine ⟨_,rfl,_,_,rfl,.inl ⟨_,_,true,.int i,rfl,xcq,true,rfl,iteT ?_⟩⟩
  refine ⟨_,rfl,_,_,rfl,.inl ⟨_,_,false,.int i,rfl,(by rfl),false,rfl,true,rfl,iteT ?_⟩⟩
  refine ⟨_,rfl,_,rfl,_,_,rfl,rfl,_,rfl,ite2 (fun c=>?_) (fun c=>?_)⟩
  ·refine ⟨_,rfl,_,_,rfl,rfl,?_⟩
   show Q (.bl (decide (i≤hi))) H
   rw [decide_eq_true c2]
   exact q
  ·exact absurd (decide_eq_true c1) c
theorem ok_an (T:Txt w K mg t):FnOk true P w K mg base (CXo P w) 1 t.f_an t.d_an ["thing"] (xox):=by
 refine T.F_an.okn (k:=0) sc_an (fun vs H Q E h=>?_) (fun cdv A outer s H vs Q E hr h=>?_)
 ·obtain ⟨x,rfl,_⟩:=h
  rfl
 ·obtain ⟨x,rfl,h⟩:=h
  refine ⟨_,xn (xaa (xcs (xav xcu rfl T.n_isinstance boot_isinstance (xa (pv 0) (xa (xdr (v:=.ty "str") rfl T.n_str boot_str rfl) (xj)))) (xcs (xbw xa5 (xav xhs rfl T.n_len boot_len (xa (pv 0) (xj))) (xk) (x6 _)) (xd4 (xe9 xgc xgc (xaq) (pv 0) (xaq)))))),?_⟩
  obtain ⟨hn,q⟩:=h
  unfold isNm at hn
  simp only [Bool.and_eq_true,decide_eq_true_eq,Bool.not_eq_true',decide_eq_false_iff_not] at hn
  obtain ⟨l1,n1,n2⟩:=hn
  refine ⟨_,rfl,_,_,rfl,.inl ⟨_,_,true,.str x,rfl,xcq,true,rfl,iteT ?_⟩⟩
  refine ⟨_,rfl,_,rfl,(by rw [l1]; decide),rfl,_,rfl,ite2 (fun c=>?_) (fun c=>?_)⟩
  ·refine ⟨_,rfl,_,_,rfl,rfl,_,rfl,ite2 (fun d=>?_) (fun d=>?_)⟩
   ·refine ⟨_,_,rfl,rfl,?_⟩
    rw [xo3,decide_eq_false n2]
    exact q
   ·rw [xpo,decide_eq_false n1] at d
    exact absurd rfl d
  ·exact absurd (decide_eq_true (by rw [l1]; rfl)) c
end
section
end
end S35
set_option maxRecDepth 100000
set_option maxHeartbeats 4000000
namespace S35
open PySem L2 XL PyProof.Rows
structure Pt where
 nm:Str
 x:Int
 y:Int
 sd:Str
 lo:Int
 hi:Int
def ptV (p:Pt):List V:=[.int p.x,.int p.y,.str p.sd,.int p.lo,.int p.hi]
inductive Pl (H:Hp):List Pt→List (Key × V)→Prop
 | nil:Pl H [] []
 | cons {p:Pt} {q:Addr} {ps:List Pt} {kvs:List (Key × V)} (h:H q=some (.tup (ptV p))) (r:Pl H ps kvs):Pl H (p :: ps) ((.inr p.nm,.ref q) :: kvs)
inductive PtsL (H:Hp):List Pt→List Addr→Prop
 | nil:PtsL H [] []
 | cons {p:Pt} {q:Addr} {ps:List Pt} {qs:List Addr} (h:H q=some (.tup (.str p.nm :: ptV p))) (r:PtsL H ps qs):PtsL H (p :: ps) (q :: qs)
theorem xpf {σ:L2.St} {H:Hp} {A B:Hp→Prop} (h:A H):xeq σ H (fun b H4=>if b=true then A H4 else B H4):=by
 show if true=true then A H else B H
 rw [if_pos rfl]
 exact h
def Tups (H H':Hp):Prop:=∀ b xs,H b=some (.tup xs)→H' b=some (.tup xs)
theorem Pl.keep {H H':Hp} (s:Tups H H') {ps:List Pt} {kvs:List (Key × V)} (h:Pl H ps kvs):Pl H' ps kvs:=by
 induction h with
 | nil=>exact .nil
 | cons h _ ih=>exact .cons (s _ _ h) ih
theorem PtsL.keep {H H':Hp} (s:Tups H H') {ps:List Pt} {qs:List Addr} (h:PtsL H ps qs):PtsL H' ps qs:=by
 induction h with
 | nil=>exact .nil
 | cons h _ ih=>exact .cons (s _ _ h) ih
theorem Pl.len {H:Hp} {ps:List Pt} {kvs:List (Key × V)} (h:Pl H ps kvs):kvs.length=ps.length:=by
 induction h with
 | nil=>rfl
 | cons _ _ ih=>simp [ih]
theorem PtsL.len {H:Hp} {ps:List Pt} {qs:List Addr} (h:PtsL H ps qs):qs.length=ps.length:=by
 induction h with
 | nil=>rfl
 | cons _ _ ih=>simp [ih]
theorem Pl.find {H:Hp} {ps:List Pt} {kvs:List (Key × V)} (h:Pl H ps kvs) {nm:Str} {pt:Pt} (e:ps.find? (fun p=>decide (p.nm=nm))=some pt):∃ q,valV kvs (.inr nm)=some (.ref q)∧H q=some (.tup (ptV pt)):=by
 induction h with
 | nil=>simp at e
 | @cons p q ps kvs h _ ih =>
  by_cases c:p.nm=nm
  ·rw [List.find?_cons_of_pos (by simpa using c)] at e
   cases e
   exact ⟨q,xbd (by rw [c]),h⟩
  ·rw [List.find?_cons_of_neg (by simpa using c)] at e
   obtain ⟨q',h1,h2⟩:=ih e
   exact ⟨q',by rw [xa9 (fun z=>c (Sum.inr.inj z))]; exact h1,h2⟩
theorem Pl.no {H:Hp} {ps:List Pt} {kvs:List (Key × V)} (h:Pl H ps kvs) {nm:Str} (e:∀ p ∈ ps,p.nm≠nm):valV kvs (.inr nm)=none:=by
 induction h with
 | nil=>rfl
 | @cons p q ps kvs h _ ih =>
  rw [xa9 (fun z=>e p List.mem_cons_self (Sum.inr.inj z))]
  exact ih fun p' hp=>e p' (List.mem_cons_of_mem _ hp)
theorem Pl.get {H:Hp} {ps:List Pt} {kvs:List (Key × V)} (h:Pl H ps kvs) {i:Nat} {k:Key} {x:V} (e:kvs[i]?=some (k,x)):∃ p q,ps[i]?=some p∧k=.inr p.nm∧x=.ref q∧H q=some (.tup (ptV p)):=by
 induction h generalizing i with
 | nil=>simp at e
 | @cons p q ps kvs h _ ih =>
  cases i with
  | zero =>
   simp at e
   exact ⟨p,q,rfl,e.1.symm,e.2.symm,h⟩
  | succ j=>exact ih (by simpa using e)
theorem PtsL.get {H:Hp} {ps:List Pt} {qs:List Addr} (h:PtsL H ps qs) {i:Nat} {q:Addr} (e:qs[i]?=some q):∃ p,ps[i]?=some p∧H q=some (.tup (.str p.nm :: ptV p)):=by
 induction h generalizing i with
 | nil=>simp at e
 | @cons p q' ps qs h _ ih =>
  cases i with
  | zero =>
   simp at e
   subst e
   exact ⟨p,rfl,h⟩
  | succ j=>exact ih (by simpa using e)
theorem Pl.snoc {H:Hp} {ps:List Pt} {kvs:List (Key × V)} (h:Pl H ps kvs) {p:Pt} {q:Addr} (e:H q=some (.tup (ptV p))):Pl H (ps ++ [p]) (kvs ++ [(.inr p.nm,.ref q)]):=by
 induction h with
 | nil=>exact .cons e .nil
 | cons h _ ih=>exact .cons h ih
theorem PtsL.snoc {H:Hp} {ps:List Pt} {qs:List Addr} (h:PtsL H ps qs) {p:Pt} {q:Addr} (e:H q=some (.tup (.str p.nm :: ptV p))):PtsL H (ps ++ [p]) (qs ++ [q]):=by
 induction h with
 | nil=>exact .cons e .nil
 | cons h _ ih=>exact .cons h ih
abbrev picF (w h:Int) (dp do_:Addr):List (Str × V):=[("width",.int w),("height",.int h),("placed",.ref dp),("opened",.ref do_)]
structure Pic (t:Adr) (H:Hp) (a dp do_:Addr) (w h:Int) (ps:List Pt):Prop where
 ins:∃ dx,H a=some (.ins t.C_k dx (picF w h dp do_))
 pl:∃ kvs,H dp=some (.dK kvs)∧Pl H ps kvs
 w1:1≤w
 w2:w≤30
 h1:1≤h
 h2:h≤16
 len:ps.length≤12
theorem Same.tups {H H':Hp} (s:Same H H'):Tups H H':=fun b xs e=>s b _ e
theorem Pic.same {t:Adr} {H H':Hp} {a dp do_:Addr} {w h:Int} {ps:List Pt} (s:Same H H') (p:Pic t H a dp do_ w h ps):Pic t H' a dp do_ w h ps :=
 ⟨let ⟨dx,e⟩:=p.ins; ⟨dx,s _ _ e⟩,let ⟨kvs,e,q⟩:=p.pl; ⟨kvs,s _ _ e,q.keep (Same.tups s)⟩,p.w1,p.w2,p.h1,p.h2,p.len⟩
theorem xax {w h:Int} {dp do_:Addr} {m:Str} (e:((["width", "height", "placed", "opened"]:List Str).all fun k=>!(m == k))=true):(picF w h dp do_).lookup m=none:=by
 simp only [List.all_cons,List.all_nil,Bool.and_eq_true,Bool.not_eq_true'] at e
 obtain ⟨e1,e2,e3,e4,_⟩:=e
 unfold picF
 rw [List.lookup_cons,e1]
 show List.lookup m [("height",V.int h),("placed",V.ref dp),("opened",V.ref do_)]=none
 rw [List.lookup_cons,e2]
 show List.lookup m [("placed",V.ref dp),("opened",V.ref do_)]=none
 rw [List.lookup_cons,e3]
 show List.lookup m [("opened",V.ref do_)]=none
 rw [List.lookup_cons,e4]
 rfl
theorem lkW {w h:Int} {dp do_:Addr}:(picF w h dp do_).lookup ("width":Str)=some (.int w):=by
 unfold picF
 rw [List.lookup_cons,show (("width":Str) == "width")=true from by decide +kernel]
theorem lkH {w h:Int} {dp do_:Addr}:(picF w h dp do_).lookup ("height":Str)=some (.int h):=by
 unfold picF
 rw [List.lookup_cons,show (("height":Str) == "width")=false from by decide +kernel]
 show List.lookup ("height":Str) [("height",V.int h),("placed",V.ref dp),("opened",V.ref do_)]=_
 rw [List.lookup_cons,show (("height":Str) == "height")=true from by decide +kernel]
theorem lkP {w h:Int} {dp do_:Addr}:(picF w h dp do_).lookup ("placed":Str)=some (.ref dp):=by
 unfold picF
 rw [List.lookup_cons,show (("placed":Str) == "width")=false from by decide +kernel]
 show List.lookup ("placed":Str) [("height",V.int h),("placed",V.ref dp),("opened",V.ref do_)]=_
 rw [List.lookup_cons,show (("placed":Str) == "height")=false from by decide +kernel]
 show List.lookup ("placed":Str) [("placed",V.ref dp),("opened",V.ref do_)]=_
 rw [List.lookup_cons,show (("placed":Str) == "placed")=true from by decide +kernel]
def xmp (t:Adr):Sp:=fun vs H Q _=>∃ (p dx:Addr) (w h:Int),vs=[.ref p,.int w,.int h]∧H p=some (.ins t.C_k dx [])∧1≤w∧w≤30∧1≤h∧h≤16 ∧
 ∀ H' dp do_,H dp=none→H do_=none→(∀ b u,b≠p→H b=some u→H' b=some u)→Pic t H' p dp do_ w h []→H' do_=some (.dT [])→Q .non H'
def spCN (t:Adr):Sp:=fun vs H Q _=>∃ (a dp do_:Addr) (pw ph:Int) (ps:List Pt) (nm:Str) (pt:Pt),vs=[.ref a,.str nm]∧Pic t H a dp do_ pw ph ps∧isNm nm=true∧ps.find? (fun p=>decide (p.nm=nm))=some pt∧Q .non H
def spCC (t:Adr):Sp:=fun vs H Q _=>∃ (a dp do_:Addr) (pw ph:Int) (ps:List Pt) (x y:Int),vs=[.ref a,.int x,.int y]∧Pic t H a dp do_ pw ph ps∧1≤x∧x≤pw∧1≤y∧y≤ph∧Q .non H
def xpm (t:Adr):Sp:=fun vs H Q _=>∃ (a dp do_:Addr) (pw ph:Int) (ps:List Pt),vs=[.ref a]∧Pic t H a dp do_ pw ph ps∧∀ H' l qs,Same H H'→H' l=some (.lst (qs.map V.ref))→PtsL H' ps qs→Q (.ref l) H'
def spCL (t:Adr):Sp:=fun vs H Q _=>∃ (a dp do_:Addr) (pw ph:Int) (ps:List Pt) (nm:Str) (x y:Int),vs=[.ref a,.str nm,.int x,.int y]∧Pic t H a dp do_ pw ph ps∧(∀ p ∈ ps,p.nm≠nm→p.x≠x∧p.y≠y)∧∀ H',Same H H'→Q .non H'
def spCS (t:Adr):Sp:=fun vs H Q _=>∃ (a dp do_:Addr) (pw ph:Int) (ps:List Pt) (b:Bool) (r:Int),vs=[.ref a,.str (x4 b),.int r]∧Pic t H a dp do_ pw ph ps∧1≤r∧r≤ph∧∀ H',Same H H'→Q .non H'
def xl1 (t:Adr):Sp:=fun vs H Q _=>∃ (a dp do_:Addr) (pw ph:Int) (ps:List Pt) (nm:Str) (x y:Int) (sd:Str) (lo hi:Int) (hv:V),vs=[.ref a,.str nm,.int x,.int y,.str sd,.int lo,hv]∧Pic t H a dp do_ pw ph ps ∧
 ((hv=.non∧hi=ph)∨hv=.int hi)∧isNm nm=true∧1≤x∧x≤pw∧1≤y∧y≤ph∧(sd="left"∨sd="right"∨sd="both")∧1≤lo∧lo≤hi∧hi≤ph∧(∀ p ∈ ps,p.nm≠nm∧p.x≠x∧p.y≠y)∧ps.length < 12 ∧
 ∀ H',(∀ b u,b≠dp→H b=some u→H' b=some u)→Pic t H' a dp do_ pw ph (ps ++ [⟨nm,x,y,sd,lo,hi⟩])→Q .non H'
section
variable {P:Program} {w:World} {K:PySem.W.Frag} {mg:Str→Option Value} {base:Heap} {t:Adr}
theorem ok_v (T:Txt w K mg t):FnOk true P w K mg base (CXo P w) 2 t.f_v t.d_v ["self", "width", "height"] (xmp t):=by
 refine T.F_v.okn (k:=1) sc_v (fun vs H Q E h=>?_) (fun cdv A outer s H vs Q E hr h=>?_)
 ·obtain ⟨p,dx,pw,ph,rfl,_⟩:=h
  rfl
 ·obtain ⟨p,dx,pw,ph,rfl,h⟩:=h
  refine ⟨_,xb (xag (PW.pt (xcl (xbu (xbe (xv (ok_x T) (hr.mono (by decide)) rfl T.g_x T.F_x.kp T.b_x .nil xm (xa (pv 1) (xa (xk) (xa (xel (v:=.int 30) rfl T.v_ax.choose_spec ⟨_,rfl⟩) (xj))))))) (xb6 (xbu (xbe (xv (ok_x T) (hr.mono (by decide)) rfl T.g_x T.F_x.kp T.b_x .nil xm (xa (pv 2) (xa (xk) (xa (xel (v:=.int 16) rfl T.v_a1.choose_spec ⟨_,rfl⟩) (xj)))))))))) (xn (xba)) (x9))
   (xb (xc6 (pv 0) (pv 1) rfl)
   (xb (xc6 (pv 0) (pv 2) rfl)
   (xb (xc6 (pv 0) (xhc) rfl)
   (xn (xc6 (pv 0) (xe7) rfl))))),?_⟩
  obtain ⟨hp,w1,w2,h1,h2,q⟩:=h
  refine ⟨_,rfl,pw,1,30,rfl,w1,w2,true,rfl,iteF ⟨_,rfl,ph,1,16,rfl,h1,h2,true,rfl,iteF ?_⟩⟩
  refine ⟨_,rfl,_,rfl,p,_,dx,_,rfl,hp,T.c_k,T.n_aw,(by show 0 < 1000; decide),?_⟩
  refine ⟨_,rfl,_,rfl,p,_,dx,_,rfl,xg,T.c_k,T.n_ar,(by show 1 < 1000; decide),?_⟩
  rw [xfs]
  refine fun dp hdp=>?_
  have n1:p≠dp:=xf xg hdp
  refine ⟨_,rfl,p,_,dx,_,rfl,(by rw [xh n1]; exact xg),T.c_k,T.n_aq,(by show 2 < 1000; decide),fun do_ hdo=>?_⟩
  have n2:p≠do_:=xf xg hdo
  have n3:dp≠do_:=xf (by rw [xh (Ne.symm n1)]; exact xg) hdo
  refine ⟨_,rfl,p,_,dx,_,rfl,(by rw [xh n2]; exact xg),T.c_k,T.n_at,(by show 3 < 1000; decide),?_⟩
  rw [xh (Ne.symm n1)] at hdp
  have hdo':H do_=none:=by
   have z:=hdo
   rw [xh (Ne.symm n2),xh (Ne.symm n3),xh (Ne.symm n2)] at z
   exact z
  refine q _ dp do_ hdp hdo' (fun b u nb e=>?_) ⟨⟨dx,xg⟩,⟨[],?_,.nil⟩,w1,w2,h1,h2,Nat.zero_le _⟩ ?_
  ·have c1:b≠dp:=xf e hdp
   have c2:b≠do_:=fun z=>by
    subst z
    rw [xh nb,xh c1,xh nb] at hdo
    rw [e] at hdo
    cases hdo
   rw [xh nb,xh c2,xh nb,xh c1,xh nb]
   exact e
  ·rw [xh (Ne.symm n1),xh n3,xh (Ne.symm n1)]
   exact xg
  ·rw [xh (Ne.symm n2)]
   exact xg
theorem ok_b (T:Txt w K mg t):FnOk true P w K mg base (CXo P w) 2 t.f_b t.d_b ["self", "name"] (spCN t):=by
 refine T.F_b.okn (k:=1) sc_b (fun vs H Q E h=>?_) (fun cdv A outer s H vs Q E hr h=>?_)
 ·obtain ⟨a,dp,do_,pw,ph,ps,nm,pt,rfl,_⟩:=h
  rfl
 ·obtain ⟨a,dp,do_,pw,ph,ps,nm,pt,rfl,h⟩:=h
  refine ⟨_,xn (xag (PW.pt (xcl (xbu (xbe (xv (ok_an T) (hr.mono (by decide)) rfl T.g_an T.F_an.kp T.b_an .nil xm (xa (pv 1) (xj))))) (xb6 (xdd (xdf (xbg hr) (pv 1) (xah (pv 0) rfl)))))) (xn (xba)) (x9)),?_⟩
  obtain ⟨pic,hn,hf,q⟩:=h
  obtain ⟨⟨dx,hp⟩,⟨kvs,hk,pl⟩,_⟩:=id pic
  obtain ⟨q0,e,_⟩:=pl.find hf
  exact ⟨_,rfl,nm,rfl,hn,true,rfl,iteF ⟨_,rfl,_,rfl,a,_,dx,_,_,rfl,hp,T.c_k,T.n_aq,lkP,dp,some (.ref q0),rfl,(by rw [← e]; exact DGet.k (k:=.inr nm) hk),false,rfl,iteF q⟩⟩
theorem ok_e (T:Txt w K mg t):FnOk true P w K mg base (CXo P w) 2 t.f_e t.d_e ["self", "x", "y"] (spCC t):=by
 refine T.F_e.okn (k:=1) sc_e (fun vs H Q E h=>?_) (fun cdv A outer s H vs Q E hr h=>?_)
 ·obtain ⟨a,dp,do_,pw,ph,ps,x,y,rfl,_⟩:=h
  rfl
 ·obtain ⟨a,dp,do_,pw,ph,ps,x,y,rfl,h⟩:=h
  refine ⟨_,xn (xag (PW.pt (xcl (xbu (xbe (xv (ok_x T) (hr.mono (by decide)) rfl T.g_x T.F_x.kp T.b_x .nil xm (xa (pv 1) (xa (xk) (xa (xah (pv 0) rfl) (xj))))))) (xb6 (xbu (xbe (xv (ok_x T) (hr.mono (by decide)) rfl T.g_x T.F_x.kp T.b_x .nil xm (xa (pv 2) (xa (xk) (xa (xah (pv 0) rfl) (xj)))))))))) (xn (xba)) (x9)),?_⟩
  obtain ⟨pic,x1,x2,y1,y2,q⟩:=h
  obtain ⟨⟨dx,hp⟩,_,_⟩:=id pic
  exact ⟨_,rfl,_,rfl,a,_,dx,_,_,rfl,hp,T.c_k,T.n_aw,lkW,x,1,pw,rfl,x1,x2,true,rfl,iteF ⟨_,rfl,_,rfl,a,_,dx,_,_,rfl,hp,T.c_k,T.n_ar,lkH,y,1,ph,rfl,y1,y2,true,rfl,iteF q⟩⟩
theorem ok_g (T:Txt w K mg t):FnOk true P w K mg base (CXo P w) 1 t.f_g t.d_g ["self"] (xpm t):=by
 refine T.F_g.okn (k:=0) sc_g (fun vs H Q E h=>?_) (fun cdv A outer s H vs Q E hr h=>?_)
 ·obtain ⟨a,dp,do_,pw,ph,ps,rfl,_⟩:=h
  rfl
 ·obtain ⟨a,dp,do_,pw,ph,ps,rfl,h⟩:=h
  refine ⟨_,xn (xaa (xm8 (xbb rfl (xat (zs:=["name", "rest"]) (ys:=[]) (fr:=[]) (N0:=["self"]) (sc0:=xi s_g) (by decide +kernel) rfl rfl rfl) (xlw (xah (pv 0) rfl)) (fun _ _ _ _ _ ow nd=>(xby rfl (xad (xr (i:=0) nd rfl (Or.inl (ow _ (by simp))) (Or.inr (ow _ (by simp)))) (xad (xr (i:=1) nd rfl (Or.inl (ow _ (by simp))) (Or.inr (ow _ (by simp)))) (xbq))):PG _ _ (gTup K 2 _))) (xfy (xcc (by decide) (xcc (by decide) (xez)))) (fun _ _ _ _ _=>xbk) (fun _ _ _ _ _=>x0 (r:=xl3 K) xh6 (xay (xa (pv 0) (xj))) (pv 1))))),?_⟩
  obtain ⟨pic,q⟩:=h
  obtain ⟨⟨dx,hp⟩,⟨kvs,hk,pl⟩,_⟩:=id pic
  refine ⟨_,rfl,a,_,dx,_,_,rfl,hp,T.c_k,T.n_aq,lkP,dp,kvs,rfl,hk,fun ob nf l hl=>?_⟩
  have nl:l≠dp:=fun z=>by
   rw [z,xg] at hl
   cases hl
  have hl0:H l=none:=by rwa [xh nl] at hl
  refine xdx kvs.length (fun i xs H2=>∃ qs:List Addr,xs=qs.map V.ref∧qs.length≤i∧H2 dp=some (.frz ob (.dK kvs))∧(∀ b u,b≠dp→H b=some u→H2 b=some u)∧H2 l=some (.lst xs)∧PtsL H2 (ps.take i) qs) ?_ ?_ ?_ ?_
  ·refine ⟨[],rfl,Nat.le_refl _,?_,fun b u nb e=>?_,xg,by simpa using PtsL.nil⟩
   ·rw [xh (Ne.symm nl)]
    exact xg
   ·rw [xh (xf e hl0),xh nb]
    exact e
  ·rintro i xs H2 lt ⟨qs,_,_,hd,_⟩
   exact ⟨hd,lt⟩
  ·rintro i xs H2 v H3 lt ⟨qs,rfl,ql,hd,sm,hl2,pts⟩ ⟨p,k,x,hx,rfl,hpn,rfl⟩ N hN
   obtain ⟨pt,q0,hpt,rfl,rfl,hq0⟩:=pl.get hx
   have e0:H2 q0=some (.tup (ptV pt)):=sm _ _ (xak hq0 hk (fun z=>nomatch z)) hq0
   refine ⟨p,_,rfl,SqT.of xg,rfl,_,_,rfl,_,_,rfl,rfl,?_⟩
   refine xpf ?_
   have n0:q0≠p:=xf e0 hpn
   refine ⟨_,rfl,(by show 1≤sizeLine; decide),fun p1 h1=>⟨_,rfl,p1,q0,_,ptV pt,rfl,rfl,SqT.of xg,SqT.of ?_,(by simp),(by show 1 + 5≤sizeLine; decide),(fun z=>nomatch z),fun _ p2 h2=>?_⟩⟩
   ·rw [xh (xf (by rw [xh n0]; exact e0) h1),xh n0]
    exact e0
   have up:∀ b u,H2 b=some u→(upd (upd (upd H2 p (.tup [.str pt.nm,.ref q0])) p1 (.tup [.str pt.nm])) p2 (.tup ([.str pt.nm] ++ ptV pt))) b=some u:=fun b u e=>by
    have c1:b≠p:=xf e hpn
    have e1:upd H2 p (.tup [.str pt.nm,.ref q0]) b=some u:=by rw [xh c1]; exact e
    have c2:b≠p1:=xf e1 h1
    have e2:upd (upd H2 p (.tup [.str pt.nm,.ref q0])) p1 (.tup [.str pt.nm]) b=some u:=by rw [xh c2]; exact e1
    rw [xh (xf e2 h2)]
    exact e2
   have c3:l≠p2:=xf (show upd (upd H2 p (.tup [.str pt.nm,.ref q0])) p1 (.tup [.str pt.nm]) l=some (.lst (qs.map V.ref)) from by
    have c1:l≠p:=xf hl2 hpn
    have e1:upd H2 p (.tup [.str pt.nm,.ref q0]) l=some (.lst (qs.map V.ref)):=by rw [xh c1]; exact hl2
    rw [xh (xf e1 h1)]
    exact e1) h2
   have tk:ps.take (i + 1)=ps.take i ++ [pt]:=by
    rw [List.take_add_one,hpt]
    rfl
   have ll:qs.length < sizeLine:=Nat.lt_trans (by have:=pl.len; have:=pic.len; omega:qs.length < 13) (by decide)
   refine ⟨up _ _ hl2,by rw [List.length_map]; exact ll,hN _ _ ⟨qs ++ [p2],by simp,by simp; omega,?_,fun b u nb e=>?_,xg,?_⟩⟩
   ·rw [xh (Ne.symm nl)]
    exact up _ _ hd
   ·have e2:=up _ _ (sm b u nb e)
    rw [xh (xf e hl0)]
    exact e2
   ·rw [tk]
    refine PtsL.snoc (PtsL.keep (fun b xs e=>?_) pts) ?_
    ·have e2:=up _ _ e
     rw [xh (xak e2 (up _ _ hl2) (fun z=>nomatch z))]
     exact e2
    ·rw [xh (Ne.symm c3)]
     exact xg
  ·rintro xs H2 ⟨qs,rfl,_,hd,sm,hl2,pts⟩
   refine ⟨⟨hd,Nat.le_refl _⟩,dp,ob,_,hd,nf,q _ l qs (fun b u e=>?_) ?_ (PtsL.keep (fun b xs e=>?_) (by rw [pl.len,List.take_length] at pts; exact pts))⟩
   ·by_cases c:b=dp
    ·subst c
     rw [hk] at e
     cases e
     exact xg
    ·rw [xh c]
     exact sm b u c e
   ·rw [xh nl]
    exact hl2
   ·rw [xh (xak e hd (fun z=>nomatch z))]
    exact e
theorem ok_a (T:Txt w K mg t):FnOk true P w K mg base (CXo P w) 2 t.f_a t.d_a ["self", "name", "x", "y"] (spCL t):=by
 refine T.F_a.okn (k:=1) sc_a (fun vs H Q E h=>?_) (fun cdv A outer s H vs Q E hr h=>?_)
 ·obtain ⟨a,dp,do_,pw,ph,ps,nm,x,y,rfl,_⟩:=h
  rfl
 ·obtain ⟨a,dp,do_,pw,ph,ps,nm,x,y,rfl,h⟩:=h
  refine ⟨_,xb (xbn rfl (xat (zs:=["other"]) (ys:=["name"]) (fr:=[1]) (N0:=["self", "name", "x", "y", "others", "other"]) (sc0:=xi s_a) (by decide +kernel) rfl rfl rfl) (xal (xbs (pv 0) T.c_k T.m_g (ok_g T) (hr.mono (by decide)) T.b_g .nil xm)) (fun _ _ _ _ _ ow nd=>xr (i:=0) nd rfl (Or.inl (ow _ (by simp))) (Or.inr (ow _ (by simp)))) (xar (by decide)) (fun _ _ _ _ _=>xbp (xw xit (xan (r:=rIxT K) xbl (pv 0) (xk) (fun _ _=>rfl)) (pv 1) (x6 _))) (fun _ _ _ _ _=>pv 0) (j:=4) rfl (Or.inl rfl))
   (xb (xb0 PassesOwn.never rfl (xal (pv 4)) (xr (i:=5) sc_a.nd rfl (Or.inl rfl)) (xn (xag (xw xa5 (xan xbl (pv 5) (xk) (fun _ _=>rfl)) (pv 2) (x6 _)) (xn (xba)) (x9))))
   (xn (xb0 PassesOwn.never rfl (xal (pv 4)) (xr (i:=5) sc_a.nd rfl (Or.inl rfl)) (xn (xag (xw xa5 (xan xbl (pv 5) (xk) (fun _ _=>rfl)) (pv 3) (x6 _)) (xn (xba)) (x9)))))),?_⟩
  obtain ⟨pic,no,q⟩:=h
  obtain ⟨⟨dx,hp⟩,⟨kvs,hk,pl⟩,_⟩:=id pic
  refine ⟨_,rfl,a,dx,_,rfl,hp,xax (by decide +kernel),a,dp,do_,pw,ph,ps,rfl,pic,fun H1 l1 qs s1 hl1 pt1=>⟨l1,rfl,⟨_,SqL.of hl1⟩,fun l hl=>?_⟩⟩
  refine xdx qs.length (fun i xs H2=>∃ os:List Addr,xs=os.map V.ref∧os.length≤i∧Same H1 H2∧H2 l=some (.lst xs)∧∀ o ∈ os,∃ p ∈ ps,p.nm≠nm∧H1 o=some (.tup (.str p.nm :: ptV p))) ?_ ?_ ?_ ?_
  ·exact ⟨[],rfl,Nat.le_refl _,xo (Same.refl _) hl,xg,fun o z=>nomatch z⟩
  ·rintro i xs H2 lt ⟨os,_,_,s2,_⟩
   exact ⟨_,.ref qs[i],SqL.of (s2 _ _ hl1),by simp [lt]⟩
  ·rintro i xs H2 v H3 lt ⟨os,rfl,ol,s2,hl2,hos⟩ ⟨rfl,hv⟩ N hN
   have hv':=hv _ (SqL.of (s2 _ _ hl1))
   rw [List.getElem?_map] at hv'
   obtain ⟨o,ho,rfl⟩:=Option.map_eq_some_iff.mp hv'
   obtain ⟨p,hpp,ep⟩:=pt1.get ho
   refine ⟨_,rfl,o,_,0,_,rfl,rfl,SqT.of (s2 _ _ ep),rfl,_,rfl,rfl,_,rfl,ite2 (fun c=>?_) (fun c=>?_)⟩
   ·have cn:p.nm≠nm:=fun z=>by
     rw [z] at c
     simp at c
    refine ⟨_,rfl,hl2,(by rw [List.length_map]; exact Nat.lt_trans (by have:=pt1.len; have:=pic.len; omega:os.length < 13) (by decide)),hN _ _ ⟨os ++ [o],by simp,by simp; omega,?_,xg,?_⟩⟩
    ·intro b u e
     by_cases cb:b=l
     ·subst cb
      rw [e] at hl
      cases hl
     ·rw [xh cb]
      exact s2 b u e
    ·intro o' ho'
     rcases List.mem_append.mp ho' with z | z
     ·exact hos o' z
     ·have:=List.mem_singleton.mp z
      subst this
      exact ⟨p,List.mem_of_getElem? hpp,cn,ep⟩
   ·exact hN _ _ ⟨os,rfl,by omega,s2,hl2,hos⟩
  ·rintro xs H2 ⟨os,rfl,ol,s2,hl2,hos⟩
   refine ⟨⟨_,SqL.of (s2 _ _ hl1),by simp⟩,?_⟩
   have loop:∀ (o:Addr),o ∈ os→∃ p ∈ ps,p.nm≠nm∧H2 o=some (.tup (.str p.nm :: ptV p)):=fun o ho=>by
    obtain ⟨p,h1,h2,h3⟩:=hos o ho
    exact ⟨p,h1,h2,s2 _ _ h3⟩
   refine ⟨_,rfl,l,rfl,⟨_,SqL.of hl2⟩,xcp (xs:=os.map V.ref) (Pv:=fun i σ H3=>∃ v5:Option V,σ=[some (.ref a),some (.str nm),some (.int x),some (.int y),some (.ref l),v5]∧H2=H3) ⟨_,rfl,rfl⟩ (fun _ _ _ _ ⟨_,_,z⟩=>by rw [← z]; exact SqL.of hl2) ?_ ?_⟩
   ·rintro i v σ _ hv ⟨v5,rfl,rfl⟩
    rw [List.getElem?_map] at hv
    obtain ⟨o,ho,rfl⟩:=Option.map_eq_some_iff.mp hv
    obtain ⟨p,m1,m2,m3⟩:=loop o (List.mem_of_getElem? ho)
    refine ⟨_,rfl,o,_,1,_,rfl,rfl,SqT.of m3,rfl,_,rfl,rfl,_,rfl,ifN (decide_eq_false fun z=>(no p m1 m2).1 (V.int.inj z)) ⟨_,rfl,rfl⟩⟩
   ·rintro σ _ ⟨v5,rfl,rfl⟩
    refine ⟨_,rfl,l,rfl,⟨_,SqL.of hl2⟩,xcp (xs:=os.map V.ref) (Pv:=fun i σ H3=>∃ v5:Option V,σ=[some (.ref a),some (.str nm),some (.int x),some (.int y),some (.ref l),v5]∧H2=H3) ⟨_,rfl,rfl⟩ (fun _ _ _ _ ⟨_,_,z⟩=>by rw [← z]; exact SqL.of hl2) ?_ ?_⟩
    ·rintro i v σ _ hv ⟨v5,rfl,rfl⟩
     rw [List.getElem?_map] at hv
     obtain ⟨o,ho,rfl⟩:=Option.map_eq_some_iff.mp hv
     obtain ⟨p,m1,m2,m3⟩:=loop o (List.mem_of_getElem? ho)
     refine ⟨_,rfl,o,_,2,_,rfl,rfl,SqT.of m3,rfl,_,rfl,rfl,_,rfl,ifN (decide_eq_false fun z=>(no p m1 m2).2 (V.int.inj z)) ⟨_,rfl,rfl⟩⟩
    ·rintro σ _ ⟨v5,rfl,rfl⟩
     exact q _ (s1.trans s2)
theorem ok_d (T:Txt w K mg t):FnOk true P w K mg base (CXo P w) 4 t.f_d t.d_d ["self", "side", "row"] (spCS t):=by
 refine T.F_d.okn (k:=3) sc_d (fun vs H Q E h=>?_) (fun cdv A outer s H vs Q E hr h=>?_)
 ·obtain ⟨a,dp,do_,pw,ph,ps,b,r,rfl,_⟩:=h
  rfl
 ·obtain ⟨a,dp,do_,pw,ph,ps,b,r,rfl,h⟩:=h
  refine ⟨_,xb (xaf (xv (ok_ap T) (hr.mono (by decide)) rfl T.g_ap T.F_ap.kp T.b_ap .nil xm (xa (pv 1) (xa (xah (pv 0) rfl) (xj)))))
   (xn (xag (xbu (xbe (xv (ok_x T) (hr.mono (by decide)) rfl T.g_x T.F_x.kp T.b_x .nil xm (xa (pv 2) (xa (xk) (xa (xah (pv 0) rfl) (xj))))))) (xn (xba)) (x9))),?_⟩
  obtain ⟨pic,r1,r2,q⟩:=h
  obtain ⟨⟨dx,hp⟩,_,_⟩:=id pic
  refine ⟨_,rfl,_,rfl,a,_,dx,_,_,rfl,hp,T.c_k,T.n_aw,lkW,b,pw,rfl,fun p H1 hp1 sd1 s1=>?_⟩
  exact ⟨_,rfl,_,rfl,a,_,dx,_,_,rfl,(s1 _ _ hp),T.c_k,T.n_ar,lkH,r,1,ph,rfl,r1,r2,true,rfl,iteF (q H1 s1)⟩
theorem ok_l (T:Txt w K mg t):FnOk true P w K mg base (CXo P w) 3 t.f_l t.d_l ["self", "name", "x", "y", "sides", "low", "high"] (xl1 t):=by
 refine T.F_l.okn (k:=2) sc_l (fun vs H Q E h=>?_) (fun cdv A outer s H vs Q E hr h=>?_)
 ·obtain ⟨a,dp,do_,pw,ph,ps,nm,x,y,sd,lo,hi,hv,rfl,_⟩:=h
  rfl
 ·obtain ⟨a,dp,do_,pw,ph,ps,nm,x,y,sd,lo,hi,hv,rfl,h⟩:=h
  refine ⟨_,xb (xt (i:=7) sc_l.nd rfl (Or.inl rfl) (xle (xw xol (pv 6) (xj3) (x6 _)) (xah (pv 0) rfl) (pv 6)))
   (xb (xag (xbu (xbe (xv (ok_an T) (hr.mono (by decide)) rfl T.g_an T.F_an.kp T.b_an .nil xm (xa (pv 1) (xj))))) (xn (xba)) (x9))
   (xb (xaf (xaw (pv 0) T.c_k T.m_e (ok_e T) (hr.mono (by decide)) T.b_e .nil xm (xa (pv 2) (xa (pv 3) (xj)))))
   (xb (xag (PW.pt (xcl (xbu (xbe (xav xcu rfl T.n_isinstance boot_isinstance (xa (pv 4) (xa (xdr (v:=.ty "str") rfl T.n_str boot_str rfl) (xj)))))) (xb6 (xdd (xku (pv 4) rfl T.g_ao T.D_ao))))) (xn (xba)) (x9))
   (xb (xag (PW.pt (xcl (xbu (xbe (xv (ok_x T) (hr.mono (by decide)) rfl T.g_x T.F_x.kp T.b_x .nil xm (xa (pv 5) (xa (xk) (xa (xah (pv 0) rfl) (xj))))))) (xb6 (xbu (xbe (xv (ok_x T) (hr.mono (by decide)) rfl T.g_x T.F_x.kp T.b_x .nil xm (xa (pv 7) (xa (pv 5) (xa (xah (pv 0) rfl) (xj)))))))))) (xn (xba)) (x9))
   (xb (xag (xdd (xhl (xbg hr) (pv 1) (xah (pv 0) rfl))) (xn (xba)) (x9))
   (xb (xag (xw xoz (xav xj4 rfl T.n_len boot_len (xa (xah (pv 0) rfl) (xj))) (xel (v:=.int 12) rfl T.v_az.choose_spec ⟨_,rfl⟩) (x6 _)) (xn (xba)) (x9))
   (xb (xaf (xaw (pv 0) T.c_k T.m_a (ok_a T) (hr.mono (by decide)) T.b_a .nil xm (xa (pv 1) (xa (pv 2) (xa (pv 3) (xj))))))
   (xn (xc4 (xbg hr) (xah (pv 0) rfl) (pv 1) (xay (xa (pv 2) (xa (pv 3) (xa (pv 4) (xa (pv 5) (xa (pv 7) (xj))))))) rfl))))))))),?_⟩
  obtain ⟨pic,hhv,hn,x1,x2,y1,y2,hsd,l1,l2,l3,no,len,q⟩:=h
  obtain ⟨⟨dx,hp⟩,⟨kvs,hk,pl⟩,_⟩:=id pic
  have hsd':(valV ([(Sum.inr "left",V.str "right"),(Sum.inr "right",V.str "left"),(Sum.inr "both",V.str "both")]:List (Key × V)) (Sum.inr sd)).isSome=true:=by
   rcases hsd with rfl | rfl | rfl <;> decide +kernel
  rcases hhv with ⟨rfl,e⟩ | rfl
  ·obtain rfl:=e.symm
   refine ⟨_,rfl,rfl,_,rfl,ifP (by rfl) ⟨_,rfl,a,_,dx,_,_,rfl,hp,T.c_k,T.n_ar,lkH,?_⟩⟩
   refine ⟨_,rfl,nm,rfl,hn,true,rfl,iteF ?_⟩
   refine ⟨_,rfl,a,dx,_,rfl,hp,xax (by decide +kernel),_,rfl,_,rfl,a,dp,do_,pw,ph,ps,x,y,rfl,pic,x1,x2,y1,y2,?_⟩
   refine ⟨_,rfl,_,_,rfl,.inl ⟨_,_,true,.str _,rfl,xcq,true,rfl,iteF ⟨_,rfl,.inr sd,rfl,false,(by rw [hsd']; rfl),iteF ?_⟩⟩⟩
   refine ⟨_,rfl,_,rfl,a,_,dx,_,_,rfl,hp,T.c_k,T.n_ar,lkH,lo,1,ph,rfl,l1,(by omega),true,rfl,iteF ⟨_,rfl,_,rfl,_,rfl,a,_,dx,_,_,rfl,hp,T.c_k,T.n_ar,lkH,ph,lo,ph,rfl,(by omega),(by omega),true,rfl,iteF ?_⟩⟩
   refine ⟨_,rfl,_,rfl,a,_,dx,_,_,rfl,hp,T.c_k,T.n_aq,lkP,dp,none,rfl,(by rw [← pl.no (nm:=nm) (fun p hp=>(no p hp).1)]; exact DGet.k (k:=.inr nm) hk),false,rfl,iteF ?_⟩
   refine ⟨_,rfl,a,_,dx,_,_,rfl,hp,T.c_k,T.n_aq,lkP,dp,kvs,rfl,hk,_,_,rfl,rfl,_,rfl,ifN (decide_eq_false (by have:=pl.len; omega)) ?_⟩
   refine ⟨_,rfl,a,dx,_,rfl,hp,xax (by decide +kernel),_,rfl,_,rfl,_,rfl,a,dp,do_,pw,ph,ps,nm,x,y,rfl,pic,fun p hp _=>(no p hp).2,fun H1 s1=>?_⟩
   refine ⟨_,rfl,_,rfl,_,rfl,_,rfl,_,rfl,(by show 5≤sizeLine; decide),fun q1 hq1=>?_⟩
   have hp1:upd H1 q1 (.tup [.int x,.int y,.str sd,.int lo,.int ph]) a=some (.ins t.C_k dx (picF pw ph dp do_)):=by rw [xh (xf (s1 _ _ hp) hq1)]; exact s1 _ _ hp
   have hk1:upd H1 q1 (.tup [.int x,.int y,.str sd,.int lo,.int ph]) dp=some (.dK kvs):=by rw [xh (xf (s1 _ _ hk) hq1)]; exact s1 _ _ hk
   refine ⟨_,rfl,a,_,dx,_,_,rfl,hp1,T.c_k,T.n_aq,lkP,_,rfl,dp,_,rfl,DPut.k (k:=.inr nm) hk1 (Nat.lt_trans (by have:=pl.len; omega:kvs.length < 12) (by decide)),?_⟩
   rw [xe5 (.ref q1) (pl.no (nm:=nm) (fun p hp=>(no p hp).1))]
   have nq:q1≠dp:=fun z=>by
    subst z
    rw [s1 _ _ hk] at hq1
    cases hq1
   refine q _ (fun b u nb e=>?_) ⟨⟨dx,?_⟩,⟨_,xg,Pl.snoc (p:=⟨nm,x,y,sd,lo,ph⟩) (pl.keep (fun b xs e=>?_)) ?_⟩,pic.w1,pic.w2,pic.h1,pic.h2,(by rw [List.length_append]; exact len)⟩
   ·rw [xh nb,xh (xf (s1 _ _ e) hq1)]
    exact s1 _ _ e
   ·rw [xh (xak hp1 hk1 (fun z=>nomatch z))]
    exact hp1
   ·have e':=s1 _ _ e
    rw [xh (xak e' (s1 _ _ hk) (fun z=>nomatch z)),xh (xf e' hq1)]
    exact e'
   ·rw [xh nq]
    exact xg
  ·refine ⟨_,rfl,rfl,_,rfl,ifN (by rfl) ⟨_,rfl,?_⟩⟩
   refine ⟨_,rfl,nm,rfl,hn,true,rfl,iteF ?_⟩
   refine ⟨_,rfl,a,dx,_,rfl,hp,xax (by decide +kernel),_,rfl,_,rfl,a,dp,do_,pw,ph,ps,x,y,rfl,pic,x1,x2,y1,y2,?_⟩
   refine ⟨_,rfl,_,_,rfl,.inl ⟨_,_,true,.str _,rfl,xcq,true,rfl,iteF ⟨_,rfl,.inr sd,rfl,false,(by rw [hsd']; rfl),iteF ?_⟩⟩⟩
   refine ⟨_,rfl,_,rfl,a,_,dx,_,_,rfl,hp,T.c_k,T.n_ar,lkH,lo,1,ph,rfl,l1,(by omega),true,rfl,iteF ⟨_,rfl,_,rfl,_,rfl,a,_,dx,_,_,rfl,hp,T.c_k,T.n_ar,lkH,hi,lo,ph,rfl,(by omega),(by omega),true,rfl,iteF ?_⟩⟩
   refine ⟨_,rfl,_,rfl,a,_,dx,_,_,rfl,hp,T.c_k,T.n_aq,lkP,dp,none,rfl,(by rw [← pl.no (nm:=nm) (fun p hp=>(no p hp).1)]; exact DGet.k (k:=.inr nm) hk),false,rfl,iteF ?_⟩
   refine ⟨_,rfl,a,_,dx,_,_,rfl,hp,T.c_k,T.n_aq,lkP,dp,kvs,rfl,hk,_,_,rfl,rfl,_,rfl,ifN (decide_eq_false (by have:=pl.len; omega)) ?_⟩
   refine ⟨_,rfl,a,dx,_,rfl,hp,xax (by decide +kernel),_,rfl,_,rfl,_,rfl,a,dp,do_,pw,ph,ps,nm,x,y,rfl,pic,fun p hp _=>(no p hp).2,fun H1 s1=>?_⟩
   refine ⟨_,rfl,_,rfl,_,rfl,_,rfl,_,rfl,(by show 5≤sizeLine; decide),fun q1 hq1=>?_⟩
   have hp1:upd H1 q1 (.tup [.int x,.int y,.str sd,.int lo,.int hi]) a=some (.ins t.C_k dx (picF pw ph dp do_)):=by rw [xh (xf (s1 _ _ hp) hq1)]; exact s1 _ _ hp
   have hk1:upd H1 q1 (.tup [.int x,.int y,.str sd,.int lo,.int hi]) dp=some (.dK kvs):=by rw [xh (xf (s1 _ _ hk) hq1)]; exact s1 _ _ hk
   refine ⟨_,rfl,a,_,dx,_,_,rfl,hp1,T.c_k,T.n_aq,lkP,_,rfl,dp,_,rfl,DPut.k (k:=.inr nm) hk1 (Nat.lt_trans (by have:=pl.len; omega:kvs.length < 12) (by decide)),?_⟩
   rw [xe5 (.ref q1) (pl.no (nm:=nm) (fun p hp=>(no p hp).1))]
   have nq:q1≠dp:=fun z=>by
    subst z
    rw [s1 _ _ hk] at hq1
    cases hq1
   refine q _ (fun b u nb e=>?_) ⟨⟨dx,?_⟩,⟨_,xg,Pl.snoc (p:=⟨nm,x,y,sd,lo,hi⟩) (pl.keep (fun b xs e=>?_)) ?_⟩,pic.w1,pic.w2,pic.h1,pic.h2,(by rw [List.length_append]; exact len)⟩
   ·rw [xh nb,xh (xf (s1 _ _ e) hq1)]
    exact s1 _ _ e
   ·rw [xh (xak hp1 hk1 (fun z=>nomatch z))]
    exact hp1
   ·have e':=s1 _ _ e
    rw [xh (xak e' (s1 _ _ hk) (fun z=>nomatch z)),xh (xf e' hq1)]
    exact e'
   ·rw [xh nq]
    exact xg
end
end S35
set_option maxRecDepth 100000
set_option maxHeartbeats 4000000
namespace S35
open PySem L2 XL PyProof.Rows
theorem lkO {w h:Int} {dp do_:Addr}:(picF w h dp do_).lookup ("opened":Str)=some (.ref do_):=by
 unfold picF
 rw [List.lookup_cons,show (("opened":Str) == "width")=false from by decide +kernel]
 show List.lookup ("opened":Str) [("height",V.int h),("placed",V.ref dp),("opened",V.ref do_)]=_
 rw [List.lookup_cons,show (("opened":Str) == "height")=false from by decide +kernel]
 show List.lookup ("opened":Str) [("placed",V.ref dp),("opened",V.ref do_)]=_
 rw [List.lookup_cons,show (("opened":Str) == "placed")=false from by decide +kernel]
 show List.lookup ("opened":Str) [("opened",V.ref do_)]=_
 rw [List.lookup_cons,show (("opened":Str) == "opened")=true from by decide +kernel]
abbrev Seat:=Bool × Int
def xae (s:Seat):List Key:=[.inr (x4 s.1),.inl s.2]
def xbt (s:Seat):List V:=[.str (x4 s.1),.int s.2]
theorem xef {a b:Bool} (h:x4 a=x4 b):a=b:=by
 cases a <;> cases b <;> first | rfl | exact absurd h (by decide +kernel)
theorem xee {s t:Seat} (h:xae s=xae t):s=t:=by
 simp only [xae,List.cons.injEq,Sum.inr.injEq,Sum.inl.injEq] at h
 exact Prod.ext (xef h.1) h.2.1
def Sts (H:Hp) (do_:Addr) (ss:List Seat):Prop:=∃ kvs:List (List Key × V),H do_=some (.dT kvs)∧kvs.map (·.1)=ss.map xae∧ss.Nodup∧ss.length≤32
theorem Sts.same {H H':Hp} {do_:Addr} {ss:List Seat} (s:Same H H') (h:Sts H do_ ss):Sts H' do_ ss:=let ⟨k,e,r⟩:=h; ⟨k,s _ _ e,r⟩
theorem xkj {kvs:List (List Key × V)} {ss:List Seat} (e:kvs.map (·.1)=ss.map xae) {s:Seat} (h:s ∉ ss):valV kvs (xae s)=none:=by
 cases z:valV kvs (xae s) with
 | none=>rfl
 | some v =>
  obtain ⟨i,hi⟩:=xfw z
  have m:xae s ∈ kvs.map (·.1):=List.mem_map.mpr ⟨_,List.mem_of_getElem? hi,rfl⟩
  rw [e] at m
  obtain ⟨t,ht,et⟩:=List.mem_map.mp m
  exact absurd ht (by rw [xee et]; exact h)
theorem xip {kvs:List (List Key × V)} {ss:List Seat} (e:kvs.map (·.1)=ss.map xae) {s:Seat} (h:s ∈ ss):∃ v,valV kvs (xae s)=some v:=by
 cases z:valV kvs (xae s) with
 | some v=>exact ⟨v,rfl⟩
 | none =>
  have m:xae s ∈ kvs.map (·.1):=by rw [e]; exact List.mem_map.mpr ⟨s,h,rfl⟩
  obtain ⟨p,hp,ep⟩:=List.mem_map.mp m
  have a:=xca (xae s) kvs
  rw [z] at a
  have:(kvs.any fun kv=>decide (kv.1=xae s))=true:=List.any_eq_true.mpr ⟨p,hp,by simpa using ep⟩
  rw [this] at a
  cases a
inductive xap (H:Hp):List Seat→List Addr→Prop
 | nil:xap H [] []
 | cons {s:Seat} {q:Addr} {ss:List Seat} {qs:List Addr} (h:H q=some (.tup (xbt s))) (r:xap H ss qs):xap H (s :: ss) (q :: qs)
theorem xap.keep {H H':Hp} (k:Tups H H') {ss:List Seat} {qs:List Addr} (h:xap H ss qs):xap H' ss qs:=by
 induction h with
 | nil=>exact .nil
 | cons h _ ih=>exact .cons (k _ _ h) ih
theorem xap.len {H:Hp} {ss:List Seat} {qs:List Addr} (h:xap H ss qs):qs.length=ss.length:=by
 induction h with
 | nil=>rfl
 | cons _ _ ih=>simp [ih]
def xa1 (s t:Seat):Prop:=(s.1=true∧t.1=false)∨(s.1=t.1∧s.2 < t.2)
theorem xlf {s t:Seat} (h:lexK (xae s) (xae t)=true):xa1 s t:=by
 obtain ⟨a,i⟩:=s
 obtain ⟨b,j⟩:=t
 unfold xae at h
 unfold lexK at h
 by_cases e:x4 a=x4 b
 ·rw [if_pos (by rw [e])] at h
  unfold lexK at h
  by_cases e2:i=j
  ·rw [if_pos (by rw [e2])] at h
   unfold lexK at h
   cases h
  ·rw [if_neg (fun z=>e2 (Sum.inl.inj z))] at h
   exact .inr ⟨xef e,of_decide_eq_true h⟩
 ·rw [if_neg (fun z=>e (Sum.inr.inj z))] at h
  cases a <;> cases b
  ·exact absurd rfl e
  ·exact absurd h (by show ¬ xcm (.inr (x4 false)) (.inr (x4 true))=true; decide +kernel)
  ·exact .inl ⟨rfl,rfl⟩
  ·exact absurd rfl e
def unK:List Key→Seat
 | [.inr s,.inl r]=>(decide (s="left"),r)
 | _=>(true,0)
theorem xhh (s:Seat):unK (xae s)=s:=by
 obtain ⟨b,r⟩:=s
 cases b
 ·show (decide (("right":Str)="left"),r)=_
  rw [decide_eq_false (by decide +kernel)]
 ·show (decide (("left":Str)="left"),r)=_
  rw [decide_eq_true rfl]
theorem xks {kvs:List (List Key × V)} {ss:List Seat} (e:kvs.map (·.1)=ss.map xae) {s:Seat}:(xbo kvs (xae s)).map (·.1)=(ss.filter fun t=>decide (t≠s)).map xae:=by
 have h1:(xbo kvs (xae s)).map (·.1)=(kvs.map (·.1)).filter fun k=>decide (k≠xae s):=by
  unfold xbo
  rw [List.filter_map]
  rfl
 rw [h1,e,List.filter_map]
 congr 1
 refine List.filter_congr fun t _=>?_
 show decide (xae t≠xae s)=decide (t≠s)
 by_cases c:t=s
 ·subst c
  simp
 ·have c':xae t≠xae s:=fun z=>c (xee z)
  simp [c,c']
def xnz (t:Adr):Sp:=fun vs H Q _=>∃ (a dp do_:Addr) (pw ph:Int) (ps:List Pt) (ss:List Seat) (b:Bool) (r:Int),vs=[.ref a,.str (x4 b),.int r]∧Pic t H a dp do_ pw ph ps∧Sts H do_ ss∧1≤r∧r≤ph∧(b,r) ∉ ss∧ss.length < 32 ∧
 ∀ H',(∀ c u,c≠do_→H c=some u→H' c=some u)→Pic t H' a dp do_ pw ph ps→Sts H' do_ (ss ++ [(b,r)])→Q .non H'
def xn6 (t:Adr):Sp:=fun vs H Q _=>∃ (a dp do_:Addr) (pw ph:Int) (ps:List Pt) (ss:List Seat) (b:Bool) (r:Int),vs=[.ref a,.str (x4 b),.int r]∧Pic t H a dp do_ pw ph ps∧Sts H do_ ss∧1≤r∧r≤ph∧(b,r) ∈ ss ∧
 ∀ H',(∀ c u,c≠do_→H c=some u→H' c=some u)→Pic t H' a dp do_ pw ph ps→Sts H' do_ (ss.filter fun s=>decide (s≠(b,r)))→Q .non H'
def xme (t:Adr):Sp:=fun vs H Q _=>∃ (a dp do_:Addr) (pw ph:Int) (ps:List Pt) (ss:List Seat),vs=[.ref a]∧Pic t H a dp do_ pw ph ps∧Sts H do_ ss ∧
 ∀ (l:Addr) (ss':List Seat) (qs:List Addr),H l=none→xap H ss' qs→ss'.Perm ss→ss'.Pairwise xa1→Q (.ref l) (upd H l (.lst (qs.map V.ref)))
theorem Pic.but {t:Adr} {H H':Hp} {a dp do_:Addr} {w h:Int} {ps:List Pt} {kvs:List (List Key × V)} (e:H do_=some (.dT kvs)) (s:∀ c u,c≠do_→H c=some u→H' c=some u) (p:Pic t H a dp do_ w h ps):Pic t H' a dp do_ w h ps :=
 ⟨let ⟨dx,x⟩:=p.ins; ⟨dx,s _ _ (xak x e (fun z=>nomatch z)) x⟩,let ⟨k,x,q⟩:=p.pl; ⟨k,s _ _ (xak x e (fun z=>nomatch z)) x,q.keep fun b xs x=>s _ _ (xak x e (fun z=>nomatch z)) x⟩,p.w1,p.w2,p.h1,p.h2,p.len⟩
section
variable {P:Program} {w:World} {K:PySem.W.Frag} {mg:Str→Option Value} {base:Heap} {t:Adr}
theorem ok_f (T:Txt w K mg t):FnOk true P w K mg base (CXo P w) 5 t.f_f t.d_f ["self", "side", "row"] (xnz t):=by
 refine T.F_f.okn (k:=4) sc_f (fun vs H Q E h=>?_) (fun cdv A outer s H vs Q E hr h=>?_)
 ·obtain ⟨a,dp,do_,pw,ph,ps,ss,b,r,rfl,_⟩:=h
  rfl
 ·obtain ⟨a,dp,do_,pw,ph,ps,ss,b,r,rfl,h⟩:=h
  refine ⟨_,xb (xaf (xaw (pv 0) T.c_k T.m_d (ok_d T) (hr.mono (by decide)) T.b_d .nil xm (xa (pv 1) (xa (pv 2) (xj)))))
   (xb (xag (xdd (xhl (xbg hr) (xay (xa (pv 1) (xa (pv 2) (xj)))) (xah (pv 0) rfl))) (xn (xba)) (x9))
   (xn (xc4 (xbg hr) (xah (pv 0) rfl) (xay (xa (pv 1) (xa (pv 2) (xj)))) (xi6) rfl))),?_⟩
  obtain ⟨pic,st,r1,r2,no,len,q⟩:=h
  obtain ⟨⟨dx,hp⟩,_,_⟩:=id pic
  obtain ⟨kvs,hk,ek,nd,l32⟩:=id st
  refine ⟨_,rfl,a,dx,_,rfl,hp,xax (by decide +kernel),_,rfl,_,rfl,a,dp,do_,pw,ph,ps,b,r,rfl,pic,r1,r2,fun H1 s1=>?_⟩
  refine ⟨_,rfl,_,rfl,(by show 2≤sizeLine; decide),fun q1 hq1=>?_⟩
  have s2:Same H1 (upd H1 q1 (.tup [.str (x4 b),.int r])):=xo (Same.refl _) hq1
  have g2:upd H1 q1 (.tup [.str (x4 b),.int r]) q1=some (.tup [.str (x4 b),.int r]):=xg
  revert s2 g2
  generalize upd H1 q1 (.tup [.str (x4 b),.int r])=H2
  intro s2 g2
  have hk2:=s2 _ _ (s1 _ _ hk)
  have hp2:=s2 _ _ (s1 _ _ hp)
  have n0:valV kvs (xae (b,r))=none:=xkj ek no
  refine ⟨_,rfl,a,_,dx,_,_,rfl,hp2,T.c_k,T.n_at,lkO,do_,none,rfl,(by rw [← n0]; exact DGet.t (k:=xae (b,r)) hk2 g2),false,rfl,iteF ?_⟩
  refine ⟨_,rfl,a,_,dx,_,_,rfl,hp2,T.c_k,T.n_at,lkO,_,rfl,_,rfl,(by show 2≤sizeLine; decide),fun q3 hq3=>?_⟩
  have s3:Same H2 (upd H2 q3 (.tup [.str (x4 b),.int r])):=xo (Same.refl _) hq3
  have g3:upd H2 q3 (.tup [.str (x4 b),.int r]) q3=some (.tup [.str (x4 b),.int r]):=xg
  revert s3 g3
  generalize upd H2 q3 (.tup [.str (x4 b),.int r])=H3
  intro s3 g3
  have kl:kvs.length=ss.length:=by
   have:=congrArg List.length ek
   simpa using this
  refine ⟨do_,_,rfl,DPut.t (k:=xae (b,r)) (s3 _ _ hk2) g3 (Nat.lt_trans (by omega:kvs.length < 33) (by decide)),?_⟩
  have bt:∀ c u,c≠do_→H c=some u→upd H3 do_ (.dT (putK kvs (xae (b,r)) (.bl true))) c=some u:=fun c u nc e=>by
   rw [xh nc]
   exact s3 _ _ (s2 _ _ (s1 _ _ e))
  refine q _ bt (Pic.but hk bt pic) ⟨_,xg,?_,?_,?_⟩
  ·rw [xe5 _ n0,List.map_append,List.map_append,ek]
   rfl
  ·rw [List.nodup_append]
   exact ⟨nd,by simp,fun x hx y hy=>by rw [List.mem_singleton.mp hy]; exact fun e=>no (e ▸ hx)⟩
  ·rw [List.length_append]
   show ss.length + 1≤32
   omega
theorem ok_i (T:Txt w K mg t):FnOk true P w K mg base (CXo P w) 5 t.f_i t.d_i ["self", "side", "row"] (xn6 t):=by
 refine T.F_i.okn (k:=4) sc_i (fun vs H Q E h=>?_) (fun cdv A outer s H vs Q E hr h=>?_)
 ·obtain ⟨a,dp,do_,pw,ph,ps,ss,b,r,rfl,_⟩:=h
  rfl
 ·obtain ⟨a,dp,do_,pw,ph,ps,ss,b,r,rfl,h⟩:=h
  refine ⟨_,xb (xaf (xaw (pv 0) T.c_k T.m_d (ok_d T) (hr.mono (by decide)) T.b_d .nil xm (xa (pv 1) (xa (pv 2) (xj)))))
   (xb (xag (xdd (xdf (xbg hr) (xay (xa (pv 1) (xa (pv 2) (xj)))) (xah (pv 0) rfl))) (xn (xba)) (x9))
   (xn (xaf (xlq (xbg hr) (xah (pv 0) rfl) (xay (xa (pv 1) (xa (pv 2) (xj)))) ⟨rfl,rfl,rfl,rfl⟩)))),?_⟩
  obtain ⟨pic,st,r1,r2,yes,q⟩:=h
  obtain ⟨⟨dx,hp⟩,_,_⟩:=id pic
  obtain ⟨kvs,hk,ek,nd,l32⟩:=id st
  obtain ⟨v,hv⟩:=xip ek yes
  refine ⟨_,rfl,a,dx,_,rfl,hp,xax (by decide +kernel),_,rfl,_,rfl,a,dp,do_,pw,ph,ps,b,r,rfl,pic,r1,r2,fun H1 s1=>?_⟩
  refine ⟨_,rfl,_,rfl,(by show 2≤sizeLine; decide),fun q1 hq1=>?_⟩
  have s2:Same H1 (upd H1 q1 (.tup [.str (x4 b),.int r])):=xo (Same.refl _) hq1
  have g2:upd H1 q1 (.tup [.str (x4 b),.int r]) q1=some (.tup [.str (x4 b),.int r]):=xg
  revert s2 g2
  generalize upd H1 q1 (.tup [.str (x4 b),.int r])=H2
  intro s2 g2
  have hk2:=s2 _ _ (s1 _ _ hk)
  have hp2:=s2 _ _ (s1 _ _ hp)
  refine ⟨_,rfl,a,_,dx,_,_,rfl,hp2,T.c_k,T.n_at,lkO,do_,some v,rfl,(by rw [← hv]; exact DGet.t (k:=xae (b,r)) hk2 g2),false,rfl,iteF ?_⟩
  refine ⟨_,rfl,a,_,dx,_,_,rfl,hp2,T.c_k,T.n_at,lkO,do_,rfl,.inr ⟨_,.inl hk2⟩,_,rfl,_,rfl,(by show 2≤sizeLine; decide),fun q3 hq3=>?_⟩
  have s3:Same H2 (upd H2 q3 (.tup [.str (x4 b),.int r])):=xo (Same.refl _) hq3
  have g3:upd H2 q3 (.tup [.str (x4 b),.int r]) q3=some (.tup [.str (x4 b),.int r]):=xg
  revert s3 g3
  generalize upd H2 q3 (.tup [.str (x4 b),.int r])=H3
  intro s3 g3
  refine ⟨kvs,xae (b,r),q3,v,s3 _ _ hk2,rfl,g3,hv,?_⟩
  have bt:∀ c u,c≠do_→H c=some u→upd H3 do_ (.dT (xbo kvs (xae (b,r)))) c=some u:=fun c u nc e=>by
   rw [xh nc]
   exact s3 _ _ (s2 _ _ (s1 _ _ e))
  refine q _ bt (Pic.but hk bt pic) ⟨_,xg,?_,nd.filter _,Nat.le_trans (List.length_filter_le _ _) l32⟩
  exact xks ek
theorem ok_m (T:Txt w K mg t):FnOk true P w K mg base (CXo P w) 1 t.f_m t.d_m ["self"] (xme t):=by
 refine T.F_m.okn (k:=0) sc_m (fun vs H Q E h=>?_) (fun cdv A outer s H vs Q E hr h=>?_)
 ·obtain ⟨a,dp,do_,pw,ph,ps,ss,rfl,_⟩:=h
  rfl
 ·obtain ⟨a,dp,do_,pw,ph,ps,ss,rfl,h⟩:=h
  refine ⟨_,xn (xaa (xav (xgz rfl) rfl T.n_sorted PyProof.Rows.Boot.«sorted» (xa (xah (pv 0) rfl) (xj)))),?_⟩
  obtain ⟨pic,st,q⟩:=h
  obtain ⟨⟨dx,hp⟩,_,_⟩:=id pic
  obtain ⟨kvs,hk,ek,nd,l32⟩:=id st
  have kl:kvs.length=ss.length:=by
   have:=congrArg List.length ek
   simpa using this
  refine ⟨_,rfl,a,_,dx,_,_,rfl,hp,T.c_k,T.n_at,lkO,do_,kvs,[false,true],rfl,hk,by omega,fun p hp'=>?_,by decide,fun l ts fr tm pm pw'=>?_⟩
  ·have m:p.1 ∈ kvs.map (·.1):=List.mem_map.mpr ⟨p,hp',rfl⟩
   rw [ek] at m
   obtain ⟨s,_,e⟩:=List.mem_map.mp m
   rw [← e]
   rfl
  rw [ek] at pm
  have back:∀ t ∈ ts,xae (unK t.1)=t.1:=fun t ht=>by
   obtain ⟨s,_,e⟩:=List.mem_map.mp (pm.mem_iff.mp (List.mem_map.mpr ⟨t,ht,rfl⟩))
   rw [← e,xhh]
  have z:=q l ((ts.map (·.1)).map unK) (ts.map (·.2)) fr ?_ ?_ ?_
  ·rw [List.map_map] at z
   exact z
  ·clear pm pw'
   induction ts with
   | nil=>exact .nil
   | cons t ts ih =>
    refine .cons ?_ (ih (fun x hx=>tm x (List.mem_cons_of_mem _ hx)) fun x hx=>back x (List.mem_cons_of_mem _ hx))
    have e:=tm t List.mem_cons_self
    rw [← back t List.mem_cons_self] at e
    exact e
  ·have z2:=pm.map unK
   have e2:(ss.map xae).map unK=ss:=by
    rw [List.map_map,show (unK ∘ xae)=id from funext xhh]
    exact List.map_id _
   rw [e2] at z2
   exact z2
  ·rw [List.pairwise_map] at pw'
   rw [List.map_map,List.pairwise_map]
   refine pw'.imp_of_mem fun {x y} hx hy hxy=>xlf ?_
   show lexK (xae (unK x.1)) (xae (unK y.1))=true
   rw [back x hx,back y hy]
   exact hxy
end
end S35
set_option maxRecDepth 100000
set_option maxHeartbeats 4000000
namespace S35
open PySem L2 XL PyProof.Rows
def SsOk (h:Int) (ss:List Seat):Prop:=ss.Nodup∧ss.length≤32∧∀ s ∈ ss,1≤s.2∧s.2≤h
theorem xap.get {H:Hp} {ss:List Seat} {qs:List Addr} (h:xap H ss qs) {i:Nat} {q:Addr} (e:qs[i]?=some q):∃ s,ss[i]?=some s∧H q=some (.tup (xbt s)):=by
 induction h generalizing i with
 | nil=>simp at e
 | @cons s q' ss qs h _ ih =>
  cases i with
  | zero =>
   simp at e
   subst e
   exact ⟨s,rfl,h⟩
  | succ j=>exact ih (by simpa using e)
theorem nd_map {α β:Type} {f:α→β} (inj:∀ a b,f a=f b→a=b) {l:List α} (h:l.Nodup):(l.map f).Nodup:=by
 rw [List.nodup_iff_pairwise_ne,List.pairwise_map]
 exact h.imp fun hne e=>hne (inj _ _ e)
theorem xap.snoc {H:Hp} {ss:List Seat} {qs:List Addr} (h:xap H ss qs) {s:Seat} {q:Addr} (e:H q=some (.tup (xbt s))):xap H (ss ++ [s]) (qs ++ [q]):=by
 induction h with
 | nil=>exact .cons e .nil
 | cons h _ ih=>exact .cons h ih
theorem xdl {α:Type} {R:α→α→Prop} (as:∀ a b,R a b→¬ R b a):∀ {l l':List α},l.Perm l'→l.Pairwise R→l'.Pairwise R→l=l'
 | [],l',p,_,_=>(List.Perm.nil_eq p)
 | a :: t,[],p,_,_=>absurd p.symm (by intro z; exact absurd (List.Perm.nil_eq z) (by simp))
 | a :: t,b :: t',p,h,h'=>by
  have h1:=List.pairwise_cons.mp h
  have h2:=List.pairwise_cons.mp h'
  by_cases e:a=b
  ·subst e
   rw [xdl as ((List.perm_cons a).mp p) h1.2 h2.2]
  ·have ma:a ∈ t':=by
    have:=p.mem_iff.mp (List.mem_cons_self (a:=a) (l:=t))
    rcases List.mem_cons.mp this with z | z
    ·exact absurd z e
    ·exact z
   have mb:b ∈ t:=by
    have:=p.mem_iff.mpr (List.mem_cons_self (a:=b) (l:=t'))
    rcases List.mem_cons.mp this with z | z
    ·exact absurd z.symm e
    ·exact z
   exact absurd (h2.1 a ma) (as _ _ (h1.1 b mb))
theorem xec (a b:Seat) (h:xa1 a b):¬ xa1 b a:=by
 rintro (⟨x,y⟩ | ⟨x,y⟩) <;> rcases h with ⟨z,w⟩ | ⟨z,w⟩
 ·rw [x] at w; cases w
 ·rw [x,y] at z; cases z
 ·rw [z,w] at x; cases x
 ·omega
def xdi (s:Seat):DV:=.tup [.str (x4 s.1),.int s.2]
theorem xkd {s t:Seat}:xdi s=xdi t ↔ s=t:=by
 constructor
 ·intro h
  unfold xdi at h
  simp only [DV.tup.injEq,List.cons.injEq,DV.str.injEq,DV.int.injEq,and_true] at h
  exact Prod.ext (xef h.1) h.2
 ·intro h
  rw [h]
theorem xlv (s t:Seat):dEq (xdi s) (xdi t)=decide (s=t):=xf5 rfl rfl xkd
theorem xil {K:PySem.W.Frag} {H:Hp} {q:Addr} {s:Seat} (h:H q=some (.tup (xbt s))):Dv K H 1 (.ref q) (xdi s):=by
 refine .tup (SqT.of h) rfl fun j x d h1 h2=>?_
 match j,h1,h2 with
 | 0,h1,h2=>cases h1; cases h2; exact .str
 | 1,h1,h2=>cases h1; cases h2; exact .int
 | j + 2,h1,h2=>simp [xbt] at h1
theorem xap.dv {K:PySem.W.Frag} {H:Hp} {ss:List Seat} {qs:List Addr} (h:xap H ss qs) {l:Addr} (e:H l=some (.lst (qs.map V.ref))):Dv K H 2 (.ref l) (.lst (ss.map xdi)):=by
 refine .lst (SqL.of e) (by rw [List.length_map,List.length_map,h.len]) fun j x d h1 h2=>?_
 rw [List.getElem?_map] at h1 h2
 obtain ⟨q,hq,rfl⟩:=Option.map_eq_some_iff.mp h1
 obtain ⟨p,hp,rfl⟩:=Option.map_eq_some_iff.mp h2
 obtain ⟨p',hp',e'⟩:=h.get hq
 rw [hp] at hp'
 cases hp'
 exact xil e'
theorem xap.pick {H:Hp}:∀ {ss:List Seat} {ys:List V},ys.length=ss.length→(∀ (j:Nat) (y:V) (s:Seat),ys[j]?=some y→ss[j]?=some s→∃ q,y=.ref q∧H q=some (.tup (xbt s)))→∃ rs:List Addr,ys=rs.map V.ref∧xap H ss rs
 | [],[],_,_=>⟨[],rfl,.nil⟩
 | [],_ :: _,h,_=>by cases h
 | _ :: _,[],h,_=>by cases h
 | s :: ss,y :: ys,h,k=>by
  obtain ⟨q,e,hq⟩:=k 0 y s rfl rfl
  obtain ⟨rs,e2,r⟩:=xap.pick (ss:=ss) (ys:=ys) (by simpa using h) fun j y s h1 h2=>k (j + 1) y s (by simpa using h1) (by simpa using h2)
  exact ⟨q :: rs,by rw [e,e2]; rfl,.cons hq r⟩
section
variable {P:Program} {w:World} {K:PySem.W.Frag} {mg:Str→Option Value} {base:Heap} {t:Adr}
end
structure PtOk (w h:Int) (p:Pt):Prop where
 nm:isNm p.nm=true
 x1:1≤p.x
 x2:p.x≤w
 y1:1≤p.y
 y2:p.y≤h
 sd:p.sd="left"∨p.sd="right"∨p.sd="both"
 l1:1≤p.lo
 l2:p.lo≤p.hi
 l3:p.hi≤h
structure xb8 (w h:Int) (ps:List Pt):Prop where
 ok:∀ p ∈ ps,PtOk w h p
 nn:(ps.map (·.nm)).Nodup
 nx:(ps.map (·.x)).Nodup
 ny:(ps.map (·.y)).Nodup
 le:ps.length≤12
theorem xeg {α β:Type} (f:α→β) {ps:List α} (nd:(ps.map f).Nodup) {i:Nat} (hi:i < ps.length):∀ p ∈ ps.take i,f p≠f ps[i]:=fun p hp e=>by
 have z:=nd
 rw [← List.take_append_drop i ps,List.drop_eq_getElem_cons hi,List.map_append,List.map_cons,List.nodup_append] at z
 exact z.2.2 _ (List.mem_map.mpr ⟨p,hp,rfl⟩) _ List.mem_cons_self e
theorem xf1 {ps:List Pt} (nd:(ps.map (·.nm)).Nodup) {p:Pt} (hp:p ∈ ps):ps.find? (fun q=>decide (q.nm=p.nm))=some p:=by
 induction ps with
 | nil=>simp at hp
 | cons a ps ih =>
  rw [List.map_cons,List.nodup_cons] at nd
  rcases List.mem_cons.mp hp with z | z
  ·subst z
   rw [List.find?_cons_of_pos (by simp)]
  ·have ne:¬ a.nm=p.nm:=fun y=>nd.1 (y ▸ List.mem_map.mpr ⟨p,z,rfl⟩)
   rw [List.find?_cons_of_neg (by simpa using ne)]
   exact ih nd.2 z
section
variable {P:Program} {w:World} {K:PySem.W.Frag} {mg:Str→Option Value} {base:Heap} {t:Adr}
end
def xch (p:Pt) (s:Seat):Bool:=(decide (p.sd="both") || decide (p.sd=x4 s.1)) && (decide (p.lo≤s.2) && decide (s.2≤p.hi))
theorem xji (sd w:Str):inV (.str sd) [.str "both",.str w]=(decide (sd="both") || decide (sd=w)):=by
 have e:∀ a b:Str,(a == b)=decide (b=a):=fun a b=>by
  rw [Bool.eq_iff_iff,beq_iff_eq,decide_eq_true_iff]
  exact eq_comm
 show ((("both":Str) == sd) || ((w == sd) || false))=_
 rw [Bool.or_false,e,e]
def xd6 (s2:List Seat) (p:Pt) (i:Nat):Bool:=match s2[i]? with | some s=>xch p s | none=>false
theorem xd3 {s2:List Seat} {p:Pt} {s:Seat} {i:Nat} (h:s2[i]?=some s):xd6 s2 p i=xch p s:=by
 unfold xd6
 rw [h]
def xn1 (t:Adr):Sp:=fun vs H Q _=>∃ (a dp do_:Addr) (pw ph:Int) (ps:List Pt) (ss:List Seat) (pt:Pt) (b:Bool) (i:Int),vs=[.ref a,.str pt.nm,.str (x4 b),.int i]∧Pic t H a dp do_ pw ph ps∧Sts H do_ ss∧isNm pt.nm=true∧ps.find? (fun p=>decide (p.nm=pt.nm))=some pt∧1≤i∧i≤ph∧∀ H',Same H H'→Q (.bl (decide ((b,i) ∈ ss) && xch pt (b,i))) H'
def xnq (t:Adr):Sp:=fun vs H Q _=>∃ (a dp do_:Addr) (pw ph:Int) (ps:List Pt) (ss:List Seat) (pt:Pt),vs=[.ref a,.str pt.nm]∧Pic t H a dp do_ pw ph ps∧Sts H do_ ss∧SsOk ph ss∧isNm pt.nm=true∧ps.find? (fun p=>decide (p.nm=pt.nm))=some pt ∧
 ∀ (H':Hp) (l:Addr) (srt:List Seat) (rs:List Addr),Same H H'→H l=none→srt.Perm ss→srt.Pairwise xa1→H' l=some (.lst (rs.map V.ref))→xap H' (srt.filter (xch pt)) rs→Q (.ref l) H'
section
variable {P:Program} {w:World} {K:PySem.W.Frag} {mg:Str→Option Value} {base:Heap} {t:Adr}
theorem ok_s (T:Txt w K mg t):FnOk true P w K mg base (CXo P w) 5 t.f_s t.d_s ["self", "name", "side", "row"] (xn1 t):=by
 refine T.F_s.okn (k:=4) sc_s (fun vs H Q E h=>?_) (fun cdv A outer s H vs Q E hr h=>?_)
 ·obtain ⟨a,dp,do_,pw,ph,ps,ss,pt,b,i,rfl,_⟩:=h
  rfl
 ·obtain ⟨a,dp,do_,pw,ph,ps,ss,pt,b,i,rfl,h⟩:=h
  refine ⟨_,xb (xaf (xaw (pv 0) T.c_k T.m_b (ok_b T) (hr.mono (by decide)) T.b_b .nil xm (xa (pv 1) (xj))))
   (xb (xaf (xaw (pv 0) T.c_k T.m_d (ok_d T) (hr.mono (by decide)) T.b_d .nil xm (xa (pv 2) (xa (pv 3) (xj)))))
   (xb (xfi (xdn (xbg hr) (xah (pv 0) rfl) (pv 1) (fun _ _=>rfl)) (xby rfl (xad (xr (i:=4) sc_s.nd rfl (Or.inl rfl)) (xad (xr (i:=5) sc_s.nd rfl (Or.inl rfl)) (xad (xr (i:=6) sc_s.nd rfl (Or.inl rfl)) (xad (xr (i:=7) sc_s.nd rfl (Or.inl rfl)) (xad (xr (i:=8) sc_s.nd rfl (Or.inl rfl)) (xbq))))))))
   (xn (xaa (xcs (xn4 (xhl (xbg hr) (xay (xa (pv 2) (xa (pv 3) (xj)))) (xah (pv 0) rfl))) (xcs (xbw xjg (pv 6) (xay (xa (xaq) (xa (pv 2) (xj)))) (by rfl)) (xd4 (xe9 xgr xgr (pv 7) (pv 3) (pv 8))))))))),?_⟩
  obtain ⟨pic,st,hn,hf,i1,i2,q⟩:=h
  obtain ⟨⟨dx0,hp⟩,⟨kvs,hk,pl⟩,_⟩:=id pic
  refine ⟨_,rfl,a,dx0,_,rfl,hp,xax (by decide +kernel),_,rfl,a,dp,do_,pw,ph,ps,pt.nm,pt,rfl,pic,hn,hf,?_⟩
  refine ⟨_,rfl,a,dx0,_,rfl,hp,xax (by decide +kernel),_,rfl,_,rfl,a,dp,do_,pw,ph,ps,b,i,rfl,pic,i1,i2,fun H1 s1=>?_⟩
  obtain ⟨q0,e0,hq0⟩:=pl.find hf
  have hp1:=s1 _ _ hp
  have hk1:=s1 _ _ hk
  refine ⟨_,rfl,a,_,_,_,_,rfl,hp1,T.c_k,T.n_aq,lkP,_,rfl,dp,.ref q0,rfl,(by rw [← e0]; exact DGet.k (k:=.inr pt.nm) hk1),q0,_,rfl,SqT.of (s1 _ _ hq0),rfl,_,_,rfl,_,_,rfl,_,_,rfl,_,_,rfl,_,_,rfl,rfl,?_⟩
  refine ⟨_,rfl,_,rfl,(by show 2≤sizeLine; decide),fun q1 hq1=>?_⟩
  have s2:Same H1 (upd H1 q1 (.tup [.str (x4 b),.int i])):=xo (Same.refl _) hq1
  have g2:upd H1 q1 (.tup [.str (x4 b),.int i]) q1=some (.tup [.str (x4 b),.int i]):=xg
  revert s2 g2
  generalize upd H1 q1 (.tup [.str (x4 b),.int i])=H2
  intro s2 g2
  have hp2:=s2 _ _ hp1
  have s02:=s1.trans s2
  obtain ⟨ko,hko,ek,nd,l32⟩:=id st
  have hko2:=s02 _ _ hko
  have qq:=q
  by_cases cin:(b,i) ∈ ss
  ·obtain ⟨v,hv⟩:=xip ek cin
   refine ⟨_,rfl,a,_,_,_,_,rfl,hp2,T.c_k,T.n_at,lkO,do_,some v,rfl,(by rw [← hv]; exact DGet.t (k:=xae (b,i)) hko2 g2),true,rfl,iteT ?_⟩
   refine ⟨_,rfl,_,rfl,(by show 2≤sizeLine; decide),fun q3 hq3=>?_⟩
   have s3:Same H2 (upd H2 q3 (.tup [.str "both",.str (x4 b)])):=xo (Same.refl _) hq3
   have g3:upd H2 q3 (.tup [.str "both",.str (x4 b)]) q3=some (.tup [.str "both",.str (x4 b)]):=xg
   revert s3 g3
   generalize upd H2 q3 (.tup [.str "both",.str (x4 b)])=H3
   intro s3 g3
   have z:=qq H3 (s02.trans s3)
   rw [decide_eq_true cin,Bool.true_and] at z
   unfold xch at z
   refine ⟨q3,_,rfl,.inr (SqT.of g3),rfl,rfl,_,rfl,ite2 (fun c=>?_) (fun c=>?_)⟩
   ·rw [if_neg (by decide),xji] at c
    dsimp only at z
    rw [c,Bool.true_and] at z
    refine ⟨_,rfl,_,rfl,_,_,rfl,rfl,_,rfl,ite2 (fun c2=>?_) (fun c2=>?_)⟩
    ·rw [c2,Bool.true_and] at z
     exact ⟨_,rfl,_,_,rfl,rfl,z⟩
    ·rw [Bool.eq_false_iff.mpr c2,Bool.false_and] at z
     exact z
   ·rw [if_neg (by decide),xji] at c
    dsimp only at z
    rw [Bool.eq_false_iff.mpr c,Bool.false_and] at z
    exact z
  ·have n0:valV ko (xae (b,i))=none:=xkj ek cin
   have z:=qq H2 s02
   rw [decide_eq_false cin,Bool.false_and] at z
   exact ⟨_,rfl,a,_,_,_,_,rfl,hp2,T.c_k,T.n_at,lkO,do_,none,rfl,(by rw [← n0]; exact DGet.t (k:=xae (b,i)) hko2 g2),false,rfl,iteF z⟩
theorem ok_h (T:Txt w K mg t):FnOk true P w K mg base (CXo P w) 6 t.f_h t.d_h ["self", "name"] (xnq t):=by
 refine T.F_h.okn (k:=5) sc_h (fun vs H Q E h=>?_) (fun cdv A outer s H vs Q E hr h=>?_)
 ·obtain ⟨a,dp,do_,pw,ph,ps,ss,pt,rfl,_⟩:=h
  rfl
 ·obtain ⟨a,dp,do_,pw,ph,ps,ss,pt,rfl,h⟩:=h
  refine ⟨_,xb (xaf (xaw (pv 0) T.c_k T.m_b (ok_b T) (hr.mono (by decide)) T.b_b .nil xm (xa (pv 1) (xj))))
   (xn (xaa (xbb rfl (xat (zs:=["side", "row"]) (ys:=["name", "self"]) (fr:=[1,0]) (N0:=["self", "name"]) (sc0:=xi s_h) (by decide +kernel) rfl rfl rfl) (xal (xbs (pv 0) T.c_k T.m_m (ok_m T) (hr.mono (by decide)) T.b_m .nil xm)) (fun _ _ _ _ _ ow nd=>(xby rfl (xad (xr (i:=0) nd rfl (Or.inl (ow _ (by simp))) (Or.inr (ow _ (by simp)))) (xad (xr (i:=1) nd rfl (Or.inl (ow _ (by simp))) (Or.inr (ow _ (by simp)))) (xbq))):PG _ _ (gTup K 2 _))) (xfy (xcc (by decide) (xcc (by decide) (xez)))) (fun _ _ _ _ _=>xbp (xbe (xaw (pv 3) T.c_k T.m_s (ok_s T) (hr.mono (by decide)) T.b_s .nil xm (xa (pv 2) (xa (pv 0) (xa (pv 1) (xj))))))) (fun _ _ _ _ _=>xay (xa (pv 0) (xa (pv 1) (xj))))))),?_⟩
  obtain ⟨pic,st,sok,hn,hf,q⟩:=h
  obtain ⟨⟨dx0,hp⟩,_,_⟩:=id pic
  refine ⟨_,rfl,a,dx0,_,rfl,hp,xax (by decide +kernel),_,rfl,a,dp,do_,pw,ph,ps,pt.nm,pt,rfl,pic,hn,hf,?_⟩
  refine ⟨_,rfl,a,dx0,_,rfl,hp,xax (by decide +kernel),a,dp,do_,pw,ph,ps,ss,rfl,pic,st,fun l1 srt qs1 fr1 sl1 pm1 pw1=>?_⟩
  have s1:Same H (upd H l1 (.lst (qs1.map V.ref))):=xo (Same.refl _) fr1
  have g1:upd H l1 (.lst (qs1.map V.ref)) l1=some (.lst (qs1.map V.ref)):=xg
  revert s1 g1
  generalize upd H l1 (.lst (qs1.map V.ref))=H1
  intro s1 g1
  have sl1':=sl1.keep (Same.tups s1)
  have ql:=sl1.len
  have sl32:srt.length≤32:=by rw [pm1.length_eq]; exact sok.2.1
  refine ⟨l1,rfl,⟨_,SqL.of g1⟩,fun l2 hl2=>?_⟩
  refine xbi (SqL.of g1) (by rw [List.length_map]; exact Nat.lt_trans (by omega:qs1.length < 33) (by decide)) hl2 (xd6 srt pt) (fun i y H=>∃ s q,srt[i]?=some s∧y=.ref q∧H q=some (.tup (xbt s))) (fun i y H H' tp ⟨s,q,e1,e2,e3⟩=>⟨s,q,e1,e2,tp _ _ e3⟩) (fun i x H4 hx s4 N M hN hM=>?_) (fun ys H4 s4 el4 ly f4=>?_)
  ·rw [List.getElem?_map] at hx
   obtain ⟨o,ho,rfl⟩:=Option.map_eq_some_iff.mp hx
   obtain ⟨s0,hs0,ep⟩:=sl1'.get ho
   have s04:=s1.trans s4
   have min:s0 ∈ ss:=pm1.mem_iff.mp (List.mem_of_getElem? hs0)
   obtain ⟨sr1,sr2⟩:=sok.2.2 s0 min
   refine ⟨o,_,rfl,SqT.of (s4 _ _ ep),rfl,_,_,rfl,_,_,rfl,rfl,?_⟩
   refine ⟨_,rfl,a,dx0,_,rfl,s04 _ _ hp,xax (by decide +kernel),_,rfl,_,rfl,_,rfl,a,dp,do_,pw,ph,ps,ss,pt,s0.1,s0.2,rfl,Pic.same s04 pic,st.same s04,hn,hf,sr1,sr2,fun H5 s5=>?_⟩
   ·refine ⟨_,rfl,ite2 (fun c=>?_) (fun c=>?_)⟩
    ·rw [decide_eq_true (show (s0.1,s0.2) ∈ ss from min),Bool.true_and] at c
     refine ⟨_,rfl,_,rfl,(by show 2≤sizeLine; decide),fun q6 hq6=>?_⟩
     exact hN _ _ (s5.trans (xo (Same.refl _) hq6)) (by rw [xd3 hs0]; exact c) ⟨s0,q6,hs0,rfl,xg⟩
    ·rw [decide_eq_true (show (s0.1,s0.2) ∈ ss from min),Bool.true_and] at c
     exact hM _ s5 (by rw [xd3 hs0]; exact Bool.eq_false_iff.mpr c)
  ·have fi:=xf0 (xch pt) (as:=srt) (p:=xd6 srt pt) (fun i s hs=>xd3 hs)
   rw [List.length_map,ql] at ly f4
   obtain ⟨rs4,e4,sts4⟩:=xap.pick (H:=H4) (ss:=srt.filter (xch pt)) (ys:=ys) (by rw [ly,fi.1]) (fun j y s hy hs=>by
    have hj:j < ((List.range srt.length).filter (xd6 srt pt)).length:=by
     rw [← ly]
     exact (List.getElem?_eq_some_iff.mp hy).1
    obtain ⟨s',q',h1,h2,h3⟩:=f4 j y _ hy (List.getElem?_eq_getElem hj)
    rw [fi.2 j _ (List.getElem?_eq_getElem hj),hs] at h1
    cases h1
    exact ⟨q',h2,h3⟩)
   subst e4
   exact q H4 l2 srt rs4 (s1.trans s4) (s1.free hl2) pm1 pw1 el4 sts4
end
def scD:V→DV
 | .int i=>.int i
 | .bl b=>.bl b
 | .str s=>.str s
 | _=>.non
def scV:V→Bool
 | .int _=>true
 | .bl _=>true
 | .str _=>true
 | .non=>true
 | _=>false
theorem xoy {K:PySem.W.Frag} {H:Hp} {v:V} (h:scV v=true):Dv K H 0 v (scD v):=by
 cases v with
 | int i=>exact .int
 | bl b=>exact .bl
 | str s=>exact .str
 | non=>exact .non
 | _=>cases h
theorem xdm {K:PySem.W.Frag} {H:Hp} {xs:List V} (f:xs.all scV=true) (j:Nat) (x:V) (d:DV) (h1:xs[j]?=some x) (h2:(xs.map scD)[j]?=some d):Dv K H 0 x d:=by
 rw [List.getElem?_map,h1] at h2
 cases h2
 exact xoy (List.all_eq_true.mp f x (List.mem_of_getElem? h1))
structure Dr (t:Adr) (H:Hp) (a dp do_:Addr) (w h:Nat) (ps:List Pt) (ss srt:List Seat):Prop where
 pic:Pic t H a dp do_ (w:Int) (h:Int) ps
 sts:Sts H do_ ss
 ok:SsOk (h:Int) ss
 pm:srt.Perm ss
 lt:srt.Pairwise xa1
 nm:∀ p ∈ ps,isNm p.nm=true
theorem Dr.same {t:Adr} {H H':Hp} {a dp do_:Addr} {w h:Nat} {ps:List Pt} {ss srt:List Seat} (d:Dr t H a dp do_ w h ps ss srt) (s:Same H H'):Dr t H' a dp do_ w h ps ss srt:=⟨Pic.same s d.pic,d.sts.same s,d.ok,d.pm,d.lt,d.nm⟩
section
variable {P:Program} {w:World} {K:PySem.W.Frag} {mg:Str→Option Value} {base:Heap} {t:Adr}
end
end S35
set_option maxRecDepth 100000
set_option maxHeartbeats 4000000
namespace S35
open PySem L2 XL PyProof.Rows
theorem xj6 {x d:Int} (h:0 < d) (h2:d≤4294967296):-(2 ^ 64) < x % d∧x % d < 2 ^ 64:=by
 have a:=Int.emod_nonneg x (show d≠0 by omega)
 have b:=Int.emod_lt_of_pos x h
 exact ⟨by omega,by omega⟩
theorem xb5 (x:Int) {d:Int} (h:0 < d):0≤x % d∧x % d < d:=⟨Int.emod_nonneg _ (by omega),Int.emod_lt_of_pos _ h⟩
def xnr (K:PySem.W.Frag):Sp:=fun vs H Q _=>∃ (a:Addr) (ns:List Int) (k:Int),vs=[.ref a,.int k]∧SqL K H a (ns.map V.int)∧0≤k∧k < 2 ^ 62∧∀ c:Int,Q (.int c) H
def xo5:Sp:=fun vs H Q _=>∃ c k:Int,vs=[.int c,.int k]∧∀ m:Int,0≤m→m < 2147483587→Q (.int m) H
def xmc (K:PySem.W.Frag):Sp:=fun vs H Q _=>∃ (a:Addr) (ns:List Int),vs=[.ref a]∧SqL K H a (ns.map V.int)∧∀ (w h:Nat) H' p,1≤w→w≤30→1≤h→h≤16→Same H H'→H' p=some (.tup [.int (w:Int),.int (h:Int)])→Q (.ref p) H'
def xk3 (K:PySem.W.Frag):Sp:=fun vs H Q _=>∃ (a:Addr) (ns:List Int) (h:Nat),vs=[.ref a,.int (h:Int)]∧SqL K H a (ns.map V.int)∧h≤16∧∀ (ss:List Seat) (qs:List Addr) H' l,ss.length≤32→ss.Pairwise xa1→(∀ s ∈ ss,1≤s.2∧s.2≤(h:Int))→Same H H'→H l=none→H' l=some (.lst (qs.map V.ref))→xap H' ss qs→Q (.ref l) H'
theorem xdq (a m d:Int) (h:0 < d) (ha:0≤a):∃ x:Nat,a + m % d=(x:Int)∧a≤x∧(x:Int) < a + d:=by
 have z:=xb5 m h
 exact ⟨(a + m % d).toNat,by omega,by omega,by omega⟩
section
variable {P:Program} {w:World} {K:PySem.W.Frag} {mg:Str→Option Value} {base:Heap} {t:Adr}
theorem ok_o (T:Txt w K mg t):FnOk true P w K mg base (CXo P w) 1 t.f_o t.d_o ["_law_script", "_law_k"] (xnr K):=by
 refine T.F_o.okn (k:=0) sc_o (fun vs H Q E h=>?_) (fun cdv A outer s H vs Q E hr h=>?_)
 ·obtain ⟨a,ns,k,rfl,_⟩:=h
  rfl
 ·obtain ⟨a,ns,k,rfl,h⟩:=h
  refine ⟨_,xb (xag (xw xep (pv 1) (xav xa2 rfl T.n_len boot_len (xa (pv 0) (xj))) (x6 _)) (xn (xaa (xan xas (pv 0) (pv 1) (fun _ _=>rfl)))) (x9))
   (xn (xaa (xk))),?_⟩
  obtain ⟨hs,k0,k1,q⟩:=h
  refine ⟨_,rfl,_,rfl,a,_,rfl,.inl hs,_,_,rfl,rfl,_,rfl,?_⟩
  refine ite2 (fun c=>?_) (fun c=>?_)
  ·have c':k < (ns.length:Int):=by simpa using c
   obtain ⟨j,rfl⟩:=Int.eq_ofNat_of_zero_le k0
   have lt:j < ns.length:=by omega
   exact ⟨_,rfl,_,rfl,a,_,_,_,rfl,rfl,hs,xds (by rw [List.getElem?_map,List.getElem?_eq_getElem lt]; rfl),q _⟩
  ·exact q _
theorem ok_ab (T:Txt w K mg t):FnOk true P w K mg base (CXo P w) 1 t.f_ab t.d_ab ["_law_cell", "_law_k"] (xo5):=by
 refine T.F_ab.okn (k:=0) sc_ab (fun vs H Q E h=>?_) (fun cdv A outer s H vs Q E hr h=>?_)
 ·obtain ⟨c,k,rfl,_⟩:=h
  rfl
 ·obtain ⟨c,k,rfl,h⟩:=h
  refine ⟨_,xb (xt (i:=2) sc_ab.nd rfl (Or.inl rfl) (x0 xaj (x0 xea (x0 xa7 (x0 xa7 (x0 xaj (pv 0) (xk)) (x0 xea (xk) (pv 1))) (xk)) (xk)) (xk)))
   (xb (xt (i:=2) sc_ab.nd rfl (Or.inl rfl) (x0 xaj (x0 xea (pv 2) (pv 2)) (xk)))
   (xn (xaa (x0 xaj (x0 xea (pv 2) (x0 xa7 (pv 2) (xk))) (xk))))),?_⟩
  refine ⟨_,rfl,_,_,rfl,rfl,(by show (0:Int) < 2147483629; decide),_,rfl,_,_,rfl,rfl,.inl ⟨by decide,by decide⟩,_,_,rfl,rfl,_,_,rfl,rfl,_,_,rfl,rfl,.inr ⟨by decide,by decide⟩,_,_,rfl,rfl,(by show (0:Int) < 2147483647; decide),?_⟩
  refine ⟨_,rfl,_,rfl,_,_,rfl,rfl,.inl (xj6 (by decide) (by decide)),_,_,rfl,rfl,(by show (0:Int) < 2147483629; decide),?_⟩
  refine ⟨_,rfl,_,rfl,_,_,rfl,rfl,_,_,rfl,rfl,.inl (xj6 (by decide) (by decide)),_,_,rfl,rfl,(by show (0:Int) < 2147483587; decide),?_⟩
  exact h _ (xb5 _ (by decide)).1 (xb5 _ (by decide)).2
theorem ok_ad (T:Txt w K mg t):FnOk true P w K mg base (CXo P w) 2 t.f_ad t.d_ad ["_law_script"] (xmc K):=by
 refine T.F_ad.okn (k:=1) sc_ad (fun vs H Q E h=>?_) (fun cdv A outer s H vs Q E hr h=>?_)
 ·obtain ⟨sc,ns,rfl,_⟩:=h
  rfl
 ·obtain ⟨sc,ns,rfl,h⟩:=h
  refine ⟨_,xb (xt (i:=1) sc_ad.nd rfl (Or.inl rfl) (xv (ok_o T) (hr.mono (by decide)) rfl T.g_o T.F_o.kp T.b_o .nil xm (xa (pv 0) (xa (xk) (xj)))))
   (xb (xbf (xag (xw xa5 (x0 xaj (pv 1) (xk)) (xk) (x6 _)) (xn (xaa (xay (xa (x0 xa7 (xk) (x0 xaj (x0 xek (pv 1) (xk)) (xk))) (xa (x0 xa7 (xk) (x0 xaj (x0 xek (pv 1) (xk)) (xk))) (xj)))))) (x9)))
   (xb (xt (i:=2) sc_ad.nd rfl (Or.inl rfl) (x0 xa7 (xk) (x0 xaj (xv (ok_ab T) (hr.mono (by decide)) rfl T.g_ab T.F_ab.kp T.b_ab .nil xm (xa (pv 1) (xa (xk) (xj)))) (xk))))
   (xb (xt (i:=3) sc_ad.nd rfl (Or.inl rfl) (x0 xa7 (xk) (x0 xaj (xv (ok_ab T) (hr.mono (by decide)) rfl T.g_ab T.F_ab.kp T.b_ab .nil xm (xa (pv 1) (xa (xk) (xj)))) (xk))))
   (xb (xbf (xag (xw xa5 (x0 xaj (xv (ok_ab T) (hr.mono (by decide)) rfl T.g_ab T.F_ab.kp T.b_ab .nil xm (xa (pv 1) (xa (xk) (xj)))) (xk)) (xk) (x6 _)) (xb (xt (i:=2) sc_ad.nd rfl (Or.inl rfl) (x0 xa7 (xk) (x0 xaj (xv (ok_ab T) (hr.mono (by decide)) rfl T.g_ab T.F_ab.kp T.b_ab .nil xm (xa (pv 1) (xa (xk) (xj)))) (xk))))
   (xn (xt (i:=3) sc_ad.nd rfl (Or.inl rfl) (x0 xa7 (xk) (x0 xaj (xv (ok_ab T) (hr.mono (by decide)) rfl T.g_ab T.F_ab.kp T.b_ab .nil xm (xa (pv 1) (xa (xk) (xj)))) (xk)))))) (x9)))
   (xn (xaa (xay (xa (pv 2) (xa (pv 3) (xj)))))))))),?_⟩
  obtain ⟨hs,q⟩:=h
  refine ⟨_,rfl,sc,ns,0,rfl,hs,by decide,by decide,fun c=>?_⟩
  refine ⟨fun σ H1=>H=H1∧σ=[some (.ref sc),some (.int c),none,none],?_,?_⟩
  ·refine ⟨_,rfl,_,_,rfl,rfl,(by show (0:Int) < 2; decide),rfl,_,rfl,ite2 (fun y=>?_) (fun y=>⟨rfl,rfl⟩)⟩
   refine ⟨_,rfl,_,_,rfl,rfl,⟨by decide,by decide⟩,_,_,rfl,rfl,(by show (0:Int) < 30; decide),_,_,rfl,rfl,?_⟩
   obtain ⟨w1,ew,w11,w12⟩:=xdq 1 (c / 2) 30 (by decide) (by decide)
   simp only [ew]
   refine ⟨_,rfl,_,_,rfl,rfl,⟨by decide,by decide⟩,_,_,rfl,rfl,(by show (0:Int) < 16; decide),_,_,rfl,rfl,?_⟩
   obtain ⟨h1,eh,h11,h12⟩:=xdq 1 (c / 60) 16 (by decide) (by decide)
   simp only [eh]
   exact ⟨(by show 2≤sizeLine; decide),fun p hp=>q w1 h1 _ p (by omega) (by omega) (by omega) (by omega) (xo (Same.refl _) hp) xg⟩
  rintro σ _ ⟨rfl,rfl⟩
  refine ⟨_,rfl,c,1,rfl,fun m1 _ _=>⟨_,_,rfl,rfl,(by show (0:Int) < 30; decide),_,_,rfl,rfl,?_⟩⟩
  obtain ⟨w1,ew,w11,w12⟩:=xdq 1 m1 30 (by decide) (by decide)
  simp only [ew]
  refine ⟨_,rfl,c,2,rfl,fun m2 _ _=>⟨_,_,rfl,rfl,(by show (0:Int) < 16; decide),_,_,rfl,rfl,?_⟩⟩
  obtain ⟨h1,eh,h11,h12⟩:=xdq 1 m2 16 (by decide) (by decide)
  simp only [eh]
  refine ⟨fun σ H1=>H=H1∧∃ w h:Nat,1≤w∧w≤30∧1≤h∧h≤16∧σ=[some (.ref sc),some (.int c),some (.int (w:Int)),some (.int (h:Int))],?_,?_⟩
  ·refine ⟨_,rfl,c,3,rfl,fun m3 _ _=>⟨_,_,rfl,rfl,(by show (0:Int) < 2; decide),rfl,_,rfl,ite2 (fun y=>?_) (fun y=>⟨rfl,w1,h1,by omega,by omega,by omega,by omega,rfl⟩)⟩⟩
   refine ⟨_,rfl,c,1,rfl,fun m4 _ _=>⟨_,_,rfl,rfl,(by show (0:Int) < 19; decide),_,_,rfl,rfl,?_⟩⟩
   obtain ⟨w2,ew2,w21,w22⟩:=xdq 12 m4 19 (by decide) (by decide)
   simp only [ew2]
   refine ⟨_,rfl,c,2,rfl,fun m5 _ _=>⟨_,_,rfl,rfl,(by show (0:Int) < 5; decide),_,_,rfl,rfl,?_⟩⟩
   obtain ⟨h2,eh2,h21,h22⟩:=xdq 12 m5 5 (by decide) (by decide)
   simp only [eh2]
   exact ⟨rfl,w2,h2,by omega,by omega,by omega,by omega,rfl⟩
  rintro σ _ ⟨rfl,w,h,a1,a2,a3,a4,rfl⟩
  exact ⟨_,rfl,_,rfl,(by show 2≤sizeLine; decide),fun p hp=>q w h _ p a1 a2 a3 a4 (xo (Same.refl _) hp) xg⟩
theorem ok_aa (T:Txt w K mg t):FnOk true P w K mg base (CXo P w) 2 t.f_aa t.d_aa ["_law_script", "_law_height"] (xk3 K):=by
 refine T.F_aa.okn (k:=1) sc_aa (fun vs H Q E h=>?_) (fun cdv A outer s H vs Q E hr h=>?_)
 ·obtain ⟨sc,ns,ph,rfl,_⟩:=h
  rfl
 ·obtain ⟨sc,ns,ph,rfl,h⟩:=h
  refine ⟨_,xb (xt (i:=2) sc_aa.nd rfl (Or.inl rfl) (xv (ok_o T) (hr.mono (by decide)) rfl T.g_o T.F_o.kp T.b_o .nil xm (xa (pv 0) (xa (xk) (xj)))))
   (xb (xt (i:=3) sc_aa.nd rfl (Or.inl rfl) (xbw xa5 (x0 xaj (xv (ok_o T) (hr.mono (by decide)) rfl T.g_o T.F_o.kp T.b_o .nil xm (xa (pv 0) (xa (xk) (xj)))) (xk)) (xk) (x6 _)))
   (xb (xt (i:=4) sc_aa.nd rfl (Or.inl rfl) (x0 xaj (xv (ok_ab T) (hr.mono (by decide)) rfl T.g_ab T.F_ab.kp T.b_ab .nil xm (xa (pv 2) (xa (xk) (xj)))) (xk)))
   (xb (xt (i:=5) sc_aa.nd rfl (Or.inl rfl) (xbh (xj)))
   (xb (xb0 PassesOwn.never rfl (xdb rfl T.n_enumerate (xa (xbh (xa (xaq) (xa (xaq) (xj)))) (xj))) (xby rfl (xad (xr (i:=6) sc_aa.nd rfl (Or.inl rfl)) (xad (xr (i:=7) sc_aa.nd rfl (Or.inl rfl)) (xbq)))) (xn (xb0 PassesOwn.never rfl (xgh rfl T.n_range (xa (xk) (xa (x0 xa7 (pv 1) (xk)) (xj)))) (xr (i:=8) sc_aa.nd rfl (Or.inl rfl)) (xb (xbf (xag (PW.pt (xcl (PW.pt (xc8 (xbe (pv 3)) (xc3 (xw xa5 (x0 xaj (pv 2) (xk)) (xk) (x6 _))))) (xb6 (PW.pt (xc8 (xbu (xbe (pv 3))) (xc3 (xw xep (x0 xaj (xv (ok_ab T) (hr.mono (by decide)) rfl T.g_ab T.F_ab.kp T.b_ab .nil xm (xa (pv 2) (xa (x0 xa7 (x0 xea (xk) (pv 8)) (pv 6)) (xj)))) (xk)) (pv 4) (x6 _)))))))) (xn (xaf (xcy PySem.F.plainAttrs_list PySem.F.slot_list_append PySem.F.type_list_append xbz (pv 5) (xa (xay (xa (pv 7) (xa (pv 8) (xj)))) (xj))))) (x9)))
   (xn (xbf (xag (xbe (pv 3)) (xn (xt (i:=2) sc_aa.nd rfl (Or.inl rfl) (x0 xek (pv 2) (xk)))) (x9))))))))
   (xn (xaa (pv 5))))))),?_⟩
  obtain ⟨hs,h16,q⟩:=h
  refine ⟨_,rfl,sc,ns,1,rfl,hs,by decide,by decide,fun c=>?_⟩
  refine ⟨_,rfl,sc,ns,0,rfl,hs,by decide,by decide,fun c0=>⟨_,_,rfl,rfl,(by show (0:Int) < 2; decide),rfl,?_⟩⟩
  generalize (decide (V.int (c0 % 2)=V.int 1))=dg
  refine ⟨_,rfl,c,1,rfl,fun m1 _ _=>⟨_,_,rfl,rfl,(by show (0:Int) < 7; decide),?_⟩⟩
  refine ⟨(by show 0≤sizeLine; decide),fun l hl=>?_⟩
  have s1:Same H (upd H l (.lst [])):=xo (Same.refl _) hl
  have g1:upd H l (.lst []) l=some (.lst []):=xg
  revert s1 g1
  generalize upd H l (.lst [])=H1
  intro s1 g1
  refine ⟨(by show 2≤sizeLine; decide),fun le hle=>?_⟩
  have s2:Same H1 (upd H1 le (.lst [.str (Str.ofString "left"),.str (Str.ofString "right")])):=xo (Same.refl _) hle
  have g2:upd H1 le (.lst [.str (Str.ofString "left"),.str (Str.ofString "right")]) le=some (.lst [.str (Str.ofString "left"),.str (Str.ofString "right")]):=xg
  revert s2 g2
  generalize upd H1 le (.lst [.str (Str.ofString "left"),.str (Str.ofString "right")])=H2
  intro s2 g2
  refine ⟨le,_,rfl,SqL.of g2,?_⟩
  have nle:le≠l:=Ne.symm (xf g1 hle)
  have fle:=s1.free hle
  refine xe6 (xs:=[.str (Str.ofString "left"),.str (Str.ofString "right")]) (Pv:=fun k σ H5=>∃ (c:Int) (ss:List Seat) (qs:List Addr) (v5 v6 v7:Option V),σ=[some (.ref sc),some (.int (ph:Int)),some (.int c),some (.bl dg),some (.int (m1 % 7)),some (.ref l),v5,v6,v7]∧Same H H5∧H5 le=some (.lst [.str (Str.ofString "left"),.str (Str.ofString "right")])∧H5 l=some (.lst (qs.map V.ref))∧xap H5 ss qs∧ss.Pairwise xa1∧(∀ s ∈ ss,1≤s.2∧s.2≤(ph:Int))∧qs.length≤16 * k∧(k=0→ss=[])∧(k=1→∀ s ∈ ss,s.1=true)) ?_ ?_ ?_ ?_
  ·exact ⟨c,[],[],_,_,_,rfl,s1.trans s2,g2,s2 _ _ g1,.nil,.nil,fun _ z=>(nomatch z),Nat.le_refl _,fun _=>rfl,fun z=>(nomatch z)⟩
  ·rintro i σ H5 _ ⟨_,_,_,_,_,_,rfl,_,e,_⟩
   exact SqL.of e
  ·rintro k x p σ H5 hx hp ⟨c,ss,qs,v5,v6,v7,rfl,s5,e5,hl5,sl5,lt5,b5,n5,z0,z1⟩
   have k2:k < 2:=(List.getElem?_eq_some_iff.mp hx).1
   obtain ⟨b,rfl,hb⟩:∃ b,x=.str (x4 b)∧((b=true∧k=0)∨(b=false∧k=1)):=by
    match k,k2,hx with
    | 0,_,hx=>cases hx; exact ⟨true,rfl,.inl ⟨rfl,rfl⟩⟩
    | 1,_,hx=>cases hx; exact ⟨false,rfl,.inr ⟨rfl,rfl⟩⟩
   have s6:Same H5 (upd H5 p (.tup [.int (k:Int),.str (x4 b)])):=xo (Same.refl _) hp
   have g6:upd H5 p (.tup [.int (k:Int),.str (x4 b)]) p=some (.tup [.int (k:Int),.str (x4 b)]):=xg
   revert s6 g6
   generalize upd H5 p (.tup [.int (k:Int),.str (x4 b)])=H6
   intro s6 g6
   refine ⟨p,_,rfl,SqT.of g6,rfl,_,_,rfl,_,_,rfl,rfl,?_⟩
   refine ⟨_,rfl,_,_,rfl,rfl,1,(ph:Int) + 1,rfl,⟨by decide,by decide,by omega,by omega⟩,?_⟩
   refine xj8 (Pv:=fun j σ H7=>∃ (c:Int) (ss:List Seat) (qs:List Addr) (v7:Option V),σ=[some (.ref sc),some (.int (ph:Int)),some (.int c),some (.bl dg),some (.int (m1 % 7)),some (.ref l),some (.int (k:Int)),some (.str (x4 b)),v7]∧Same H H7∧H7 le=some (.lst [.str (Str.ofString "left"),.str (Str.ofString "right")])∧H7 l=some (.lst (qs.map V.ref))∧xap H7 ss qs∧ss.Pairwise xa1∧(∀ s ∈ ss,1≤s.2∧s.2≤(ph:Int))∧qs.length≤16 * k + j∧∀ s ∈ ss,(s.1=true∧(k=0→s.2≤(j:Int)))∨(k=1∧s.1=false∧s.2≤(j:Int))) ?_ ?_ ?_
   ·refine ⟨c,ss,qs,_,rfl,s5.trans s6,s6 _ _ e5,s6 _ _ hl5,sl5.keep (Same.tups s6),lt5,b5,by omega,fun s hs=>.inl ?_⟩
    rcases hb with ⟨_,rfl⟩ | ⟨_,rfl⟩
    ·rw [z0 rfl] at hs
     exact nomatch hs
    ·exact ⟨z1 rfl s hs,fun z=>(nomatch z)⟩
   ·rintro j σ H7 hj ⟨c,ss,qs,v7,rfl,s7,e7,hl7,sl7,lt7,b7,n7,z7⟩
    have jh:j < ph:=by omega
    have up:∀ s ∈ ss,(s.1=true∧(k=0→s.2≤((j + 1:Nat):Int)))∨(k=1∧s.1=false∧s.2≤((j + 1:Nat):Int)):=fun s hs=>by
     rcases z7 s hs with ⟨a,b⟩ | ⟨a,b,c⟩
     ·exact .inl ⟨a,fun z=>by have:=b z; omega⟩
     ·exact .inr ⟨a,b,by omega⟩
    refine ⟨fun σ H9=>∃ (ss:List Seat) (qs:List Addr),σ=[some (.ref sc),some (.int (ph:Int)),some (.int c),some (.bl dg),some (.int (m1 % 7)),some (.ref l),some (.int (k:Int)),some (.str (x4 b)),some (.int (1 + (j:Int)))]∧Same H H9∧H9 le=some (.lst [.str (Str.ofString "left"),.str (Str.ofString "right")])∧H9 l=some (.lst (qs.map V.ref))∧xap H9 ss qs∧ss.Pairwise xa1∧(∀ s ∈ ss,1≤s.2∧s.2≤(ph:Int))∧qs.length≤16 * k + (j + 1)∧∀ s ∈ ss,(s.1=true∧(k=0→s.2≤((j + 1:Nat):Int)))∨(k=1∧s.1=false∧s.2≤((j + 1:Nat):Int)),?_,?_⟩
    ·have no:∃ (ss':List Seat) (qs':List Addr),[some (V.ref sc),some (.int (ph:Int)),some (.int c),some (.bl dg),some (.int (m1 % 7)),some (.ref l),some (.int (k:Int)),some (.str (x4 b)),some (.int (1 + (j:Int)))]=[some (.ref sc),some (.int (ph:Int)),some (.int c),some (.bl dg),some (.int (m1 % 7)),some (.ref l),some (.int (k:Int)),some (.str (x4 b)),some (.int (1 + (j:Int)))]∧Same H H7∧H7 le=some (.lst [.str (Str.ofString "left"),.str (Str.ofString "right")])∧H7 l=some (.lst (qs'.map V.ref))∧xap H7 ss' qs'∧ss'.Pairwise xa1∧(∀ s ∈ ss',1≤s.2∧s.2≤(ph:Int))∧qs'.length≤16 * k + (j + 1)∧∀ s ∈ ss',(s.1=true∧(k=0→s.2≤((j + 1:Nat):Int)))∨(k=1∧s.1=false∧s.2≤((j + 1:Nat):Int)):=⟨ss,qs,rfl,s7,e7,hl7,sl7,lt7,b7,by omega,up⟩
     refine ⟨_,rfl,dg,rfl,?_⟩
     cases dg with
     | true =>
      refine ifP rfl ⟨_,rfl,_,_,rfl,rfl,(by show (0:Int) < 2; decide),rfl,_,rfl,ite2 (fun y=>?_) (fun y=>⟨_,rfl,true,rfl,ifN (by decide) (ifN (by decide) no)⟩)⟩
      refine ifP rfl ?_
      refine ⟨_,rfl,.inl ⟨rfl,_,SqL.of hl7⟩,_,rfl,_,rfl,(by show 2≤sizeLine; decide),fun qa hqa=>?_⟩
      have s8:Same H7 (upd H7 qa (.tup [.str (x4 b),.int (1 + (j:Int))])):=xo (Same.refl _) hqa
      have g8:upd H7 qa (.tup [.str (x4 b),.int (1 + (j:Int))]) qa=some (.tup [.str (x4 b),.int (1 + (j:Int))]):=xg
      revert s8 g8
      generalize upd H7 qa (.tup [.str (x4 b),.int (1 + (j:Int))])=H8
      intro s8 g8
      have hl8:=s8 _ _ hl7
      refine ⟨l,_,_,rfl,rfl,hl8,?_,?_⟩
      ·rw [List.length_map]
       exact Nat.lt_of_le_of_lt (by omega:_≤1000) (by decide)
      have kt:Tups H8 (upd H8 l (.lst (qs.map V.ref ++ [.ref qa]))):=fun c xs e=>by rw [xh (xak e hl8 (fun z=>nomatch z))]; exact e
      refine ⟨ss ++ [(b,1 + (j:Int))],qs ++ [qa],rfl,fun c u e=>by rw [xh (xf e hl)]; exact s8 _ _ (s7 _ _ e),by rw [xh nle]; exact s8 _ _ e7,by rw [xg,List.map_append]; rfl,((sl7.keep (Same.tups s8)).keep kt).snoc (kt _ _ g8),?_,fun s hs=>?_,by rw [List.length_append,List.length_singleton]; omega,fun s hs=>?_⟩
      ·rw [List.pairwise_append]
       refine ⟨lt7,List.pairwise_singleton _ _,fun s hs s' hs'=>?_⟩
       rw [List.mem_singleton.mp hs']
       rcases hb with ⟨rfl,rfl⟩ | ⟨rfl,rfl⟩
       ·rcases z7 s hs with ⟨a,b⟩ | ⟨a,_⟩
        ·exact .inr ⟨a,by have:=b rfl; show s.2 < 1 + (j:Int); omega⟩
        ·cases a
       ·rcases z7 s hs with ⟨a,b⟩ | ⟨_,a,b⟩
        ·exact .inl ⟨a,rfl⟩
        ·exact .inr ⟨a,by show s.2 < 1 + (j:Int); omega⟩
      ·rcases List.mem_append.mp hs with hs | hs
       ·exact b7 s hs
       ·rw [List.mem_singleton.mp hs]
        exact ⟨by show (1:Int)≤1 + (j:Int); omega,by show 1 + (j:Int)≤_; omega⟩
      ·rcases List.mem_append.mp hs with hs | hs
       ·exact up s hs
       ·rw [List.mem_singleton.mp hs]
        rcases hb with ⟨rfl,rfl⟩ | ⟨rfl,rfl⟩
        ·exact .inl ⟨rfl,fun _=>by show 1 + (j:Int)≤_; omega⟩
        ·exact .inr ⟨rfl,rfl,by show 1 + (j:Int)≤_; omega⟩
     | false =>
      refine ifN (by decide) (ifN (by decide) ⟨_,rfl,false,rfl,ifP (by decide) ⟨_,rfl,_,rfl,_,_,rfl,rfl,.inl ⟨by decide,by decide⟩,_,rfl,_,_,rfl,rfl,c,_,rfl,fun m _ _=>⟨_,_,rfl,rfl,(by show (0:Int) < 6; decide),_,rfl,_,_,rfl,rfl,_,rfl,ite2 (fun y=>?_) (fun y=>no)⟩⟩⟩)
      refine ⟨_,rfl,.inl ⟨rfl,_,SqL.of hl7⟩,_,rfl,_,rfl,(by show 2≤sizeLine; decide),fun qa hqa=>?_⟩
      have s8:Same H7 (upd H7 qa (.tup [.str (x4 b),.int (1 + (j:Int))])):=xo (Same.refl _) hqa
      have g8:upd H7 qa (.tup [.str (x4 b),.int (1 + (j:Int))]) qa=some (.tup [.str (x4 b),.int (1 + (j:Int))]):=xg
      revert s8 g8
      generalize upd H7 qa (.tup [.str (x4 b),.int (1 + (j:Int))])=H8
      intro s8 g8
      have hl8:=s8 _ _ hl7
      refine ⟨l,_,_,rfl,rfl,hl8,?_,?_⟩
      ·rw [List.length_map]
       exact Nat.lt_of_le_of_lt (by omega:_≤1000) (by decide)
      have kt:Tups H8 (upd H8 l (.lst (qs.map V.ref ++ [.ref qa]))):=fun c xs e=>by rw [xh (xak e hl8 (fun z=>nomatch z))]; exact e
      refine ⟨ss ++ [(b,1 + (j:Int))],qs ++ [qa],rfl,fun c u e=>by rw [xh (xf e hl)]; exact s8 _ _ (s7 _ _ e),by rw [xh nle]; exact s8 _ _ e7,by rw [xg,List.map_append]; rfl,((sl7.keep (Same.tups s8)).keep kt).snoc (kt _ _ g8),?_,fun s hs=>?_,by rw [List.length_append,List.length_singleton]; omega,fun s hs=>?_⟩
      ·rw [List.pairwise_append]
       refine ⟨lt7,List.pairwise_singleton _ _,fun s hs s' hs'=>?_⟩
       rw [List.mem_singleton.mp hs']
       rcases hb with ⟨rfl,rfl⟩ | ⟨rfl,rfl⟩
       ·rcases z7 s hs with ⟨a,b⟩ | ⟨a,_⟩
        ·exact .inr ⟨a,by have:=b rfl; show s.2 < 1 + (j:Int); omega⟩
        ·cases a
       ·rcases z7 s hs with ⟨a,b⟩ | ⟨_,a,b⟩
        ·exact .inl ⟨a,rfl⟩
        ·exact .inr ⟨a,by show s.2 < 1 + (j:Int); omega⟩
      ·rcases List.mem_append.mp hs with hs | hs
       ·exact b7 s hs
       ·rw [List.mem_singleton.mp hs]
        exact ⟨by show (1:Int)≤1 + (j:Int); omega,by show 1 + (j:Int)≤_; omega⟩
      ·rcases List.mem_append.mp hs with hs | hs
       ·exact up s hs
       ·rw [List.mem_singleton.mp hs]
        rcases hb with ⟨rfl,rfl⟩ | ⟨rfl,rfl⟩
        ·exact .inl ⟨rfl,fun _=>by show 1 + (j:Int)≤_; omega⟩
        ·exact .inr ⟨rfl,rfl,by show 1 + (j:Int)≤_; omega⟩
    rintro σ H9 ⟨ss9,qs9,rfl,s9',e9,hl9,sl9,lt9,b9,n9,z9⟩
    refine ⟨fun σ H10=>H9=H10∧∃ c:Int,σ=[some (.ref sc),some (.int (ph:Int)),some (.int c),some (.bl dg),some (.int (m1 % 7)),some (.ref l),some (.int (k:Int)),some (.str (x4 b)),some (.int (1 + (j:Int)))],?_,?_⟩
    ·refine ⟨_,rfl,dg,rfl,ite2 (fun y=>?_) (fun y=>⟨rfl,c,rfl⟩)⟩
     exact ⟨_,rfl,_,_,rfl,rfl,⟨by decide,by decide⟩,rfl,_,rfl⟩
    rintro σ _ ⟨rfl,c',rfl⟩
    exact ⟨c',ss9,qs9,_,rfl,s9',e9,hl9,sl9,lt9,b9,by omega,z9⟩
   ·rintro σ H7 ⟨c,ss,qs,v7,rfl,s7,e7,hl7,sl7,lt7,b7,n7,z7⟩
    refine ⟨c,ss,qs,_,_,_,rfl,s7,e7,hl7,sl7,lt7,b7,by omega,fun z=>by omega,fun z s hs=>?_⟩
    rcases z7 s hs with ⟨a,_⟩ | ⟨a,_⟩
    ·exact a
    ·omega
  ·rintro σ H5 ⟨_,ss,qs,v5,v6,v7,rfl,s5,e5,hl5,sl5,lt5,b5,n5,_⟩
   exact ⟨_,rfl,q ss qs H5 l (by have e:=sl5.len; have n6:qs.length≤16 * 2:=n5; omega) lt5 b5 s5 hl hl5 sl5⟩
end
end S35
set_option maxRecDepth 100000
set_option maxHeartbeats 4000000
namespace S35
open PySem L2 XL PyProof.Rows
def xky (K:PySem.W.Frag):Sp:=fun vs H Q _=>∃ (c:Int) (dg:Bool) (lb:Addr) (bs:List Int),vs=[.int c,.bl dg,.ref lb]∧H lb=some (.lst (bs.map V.int))∧(∀ b ∈ bs,0 < b∧b < 1000)∧bs.length≤20∧∀ H' l (ns:List Int),Same H H'→H l=none→H' l=some (.lst (ns.map V.int))→ns.length=bs.length→Q (.ref l) H'
def xmi:Sp:=fun vs H Q _=>∃ (ln:Addr) (ns:List Int) (nm:Str) (x y:Int) (h:Nat),vs=[.ref ln,.str nm,.int x,.int y,.int (h:Int)]∧H ln=some (.lst (ns.map V.int))∧7≤ns.length∧1≤h∧∀ H' q (sd:Str) (lo hi:Int),(sd="left"∨sd="right"∨sd="both")→1≤lo→lo≤hi→hi≤(h:Int)→Same H H'→H' q=some (.tup (.str nm :: ptV ⟨nm,x,y,sd,lo,hi⟩))→Q (.ref q) H'
theorem xou (c:Int):∃ sd:Str,atI [V.str (Str.ofString "both"),V.str (Str.ofString "left"),V.str (Str.ofString "right")] (c % 3)=some (.str sd)∧(sd="left"∨sd="right"∨sd="both"):=by
 have b:=xb5 c (show (0:Int) < 3 by decide)
 have:c % 3=0∨c % 3=1∨c % 3=2:=by omega
 rcases this with e | e | e
 ·exact ⟨"both",by rw [e]; rfl,.inr (.inr rfl)⟩
 ·exact ⟨"left",by rw [e]; rfl,.inl rfl⟩
 ·exact ⟨"right",by rw [e]; rfl,.inr (.inl rfl)⟩
theorem xeb {α:Type} {ls:List α} {k:Nat} {y:α} (nd:ls.Nodup) (h:ls[k]?=some y):(ls.eraseIdx k).Nodup∧y ∉ ls.eraseIdx k∧(∀ z ∈ ls.eraseIdx k,z ∈ ls)∧y ∈ ls:=by
 obtain ⟨hk,hy⟩:=List.getElem?_eq_some_iff.mp h
 have e:ls.take k ++ y :: ls.drop (k + 1)=ls:=by
  rw [← hy,List.getElem_cons_drop,List.take_append_drop]
 have e2:ls.eraseIdx k=ls.take k ++ ls.drop (k + 1):=List.eraseIdx_eq_take_drop_succ ls k
 have nd2:=nd
 rw [← e,List.nodup_append,List.nodup_cons] at nd2
 obtain ⟨n1,⟨n2,n3⟩,n4⟩:=nd2
 refine ⟨?_,?_,fun z hz=>List.mem_of_mem_eraseIdx hz,hy ▸ List.getElem_mem hk⟩
 ·rw [e2,List.nodup_append]
  exact ⟨n1,n3,fun a ha b hb=>n4 a ha b (List.mem_cons_of_mem _ hb)⟩
 ·rw [e2,List.mem_append]
  rintro (z | z)
  ·exact n4 _ z _ List.mem_cons_self rfl
  ·exact n2 z
theorem xg7 {α:Type} (m:Int) {xs:List α} (h:xs≠[]) (h2:xs.length≤1000):∃ j y,xs[j]?=some y∧-(2 ^ 63)≤m % (xs.length:Int)∧m % (xs.length:Int) < 2 ^ 63∧seqIndex? (m % (xs.length:Int)) xs.length=some j∧0 < (xs.length:Int):=by
 have l0:0 < xs.length:=List.length_pos_iff.mpr h
 have lp:(0:Int) < (xs.length:Int):=by omega
 obtain ⟨k0,k1⟩:=xb5 m lp
 obtain ⟨j,hj⟩:=Int.eq_ofNat_of_zero_le k0
 have jl:j < xs.length:=by
  have z:=k1
  rw [hj] at z
  omega
 exact ⟨j,xs[j],List.getElem?_eq_getElem jl,by omega,by omega,by rw [seqIndex_of k0 k1,hj]; rfl,lp⟩
def abcS:Str:="abcdefghijklmnopqrstuvwxyz"
theorem xkz:∀ c ∈ abcS.cps.toList,isNm ⟨#[c]⟩=true:=by decide +kernel
theorem xkm:abcS.cps.toList.Nodup:=by decide +kernel
theorem xoq:(sgnL abcS).Nodup:=by
 unfold sgnL
 exact Drw.nd_map (fun a b e=>by
  have:=congrArg (fun s:Str=>s.cps.toList) (V.str.inj e)
  exact List.head_eq_of_cons_eq this) xkm
theorem xjk (n:Nat):(rngL 1 ((n:Int) + 1)).Nodup:=by
 unfold rngL
 exact Drw.nd_map (fun a b e=>by
  have:=V.int.inj e
  omega) List.nodup_range
theorem xh9 {n:Nat} {v:V} (h:v ∈ rngL 1 ((n:Int) + 1)):∃ x:Int,v=.int x∧1≤x∧x≤n:=by
 unfold rngL at h
 obtain ⟨i,hi,rfl⟩:=List.mem_map.mp h
 rw [List.mem_range] at hi
 exact ⟨1 + (i:Int),rfl,by omega,by omega⟩
structure PI (w h:Nat) (cols rows lts:List V) (ps:List Pt) (i:Nat):Prop where
 cn:cols.Nodup
 ci:∀ v ∈ cols,∃ x:Int,v=.int x∧1≤x∧x≤w
 rn:rows.Nodup
 ri:∀ v ∈ rows,∃ x:Int,v=.int x∧1≤x∧x≤h
 ln:lts.Nodup
 li:∀ v ∈ lts,v ∈ sgnL abcS
 ll:lts.length + ps.length=26
 cl:cols.length≤100
 rl:rows.length≤100
 pl:ps.length≤i
 ok:∀ p ∈ ps,PtOk w h p
 nx:(ps.map (·.x)).Nodup
 ny:(ps.map (·.y)).Nodup
 nn:(ps.map (·.nm)).Nodup
 ox:∀ p ∈ ps,V.int p.x ∉ cols
 oy:∀ p ∈ ps,V.int p.y ∉ rows
 on:∀ p ∈ ps,V.str p.nm ∉ lts
theorem xc0 {α β:Type} {f:α→β} {l:List α} {x:α} (h:(l.map f).Nodup) (hx:∀ y ∈ l,f y≠f x):((l ++ [x]).map f).Nodup:=by
 rw [List.map_append,List.nodup_append]
 refine ⟨h,by simp,fun a ha b hb e=>?_⟩
 obtain ⟨y,hy,rfl⟩:=List.mem_map.mp ha
 have hb:b ∈ [f x]:=hb
 rw [List.mem_singleton.mp hb] at e
 exact hx y hy e
theorem PI.up {w h:Nat} {cols rows lts:List V} {ps:List Pt} {i:Nat} (g:PI w h cols rows lts ps i):PI w h cols rows lts ps (i + 1):={ g with pl:=Nat.le_succ_of_le g.pl }
theorem PtsL.snoc1 {H:Hp} {ps:List Pt} {qs:List Addr} (h:PtsL H ps qs) {p:Pt} {q:Addr} (e:H q=some (.tup (.str p.nm :: ptV p))):PtsL H (ps ++ [p]) (qs ++ [q]):=by
 induction h with
 | nil=>exact .cons e .nil
 | cons h _ ih=>exact .cons h ih
theorem PI.add {w h:Nat} {cols rows lts:List V} {ps:List Pt} {i jx jy jn:Nat} {p:Pt} (g:PI w h cols rows lts ps i) (hx:cols[jx]?=some (.int p.x)) (hy:rows[jy]?=some (.int p.y)) (hn:lts[jn]?=some (.str p.nm)) (ok:PtOk w h p):PI w h (cols.eraseIdx jx) (rows.eraseIdx jy) (lts.eraseIdx jn) (ps ++ [p]) (i + 1):=by
 obtain ⟨c1,c2,c3,c4⟩:=xeb g.cn hx
 obtain ⟨r1,r2,r3,r4⟩:=xeb g.rn hy
 obtain ⟨l1,l2,l3,l4⟩:=xeb g.ln hn
 have lj:=(List.getElem?_eq_some_iff.mp hn).1
 refine ⟨c1,fun v hv=>g.ci v (c3 v hv),r1,fun v hv=>g.ri v (r3 v hv),l1,fun v hv=>g.li v (l3 v hv),?_,?_,?_,?_,fun q hq=>?_,xc0 g.nx fun y hy e=>?_,xc0 g.ny fun y hy e=>?_,xc0 g.nn fun y hy e=>?_,fun q hq=>?_,fun q hq=>?_,fun q hq=>?_⟩
 ·rw [List.length_eraseIdx_of_lt lj,List.length_append,List.length_singleton]
  have:=g.ll
  omega
 ·exact Nat.le_trans (List.length_eraseIdx_le _ _) g.cl
 ·exact Nat.le_trans (List.length_eraseIdx_le _ _) g.rl
 ·rw [List.length_append,List.length_singleton]
  have:=g.pl
  omega
 ·rcases List.mem_append.mp hq with hq | hq
  ·exact g.ok q hq
  ·rw [List.mem_singleton.mp hq]; exact ok
 ·exact g.ox y hy (e ▸ c4)
 ·exact g.oy y hy (e ▸ r4)
 ·exact g.on y hy (e ▸ l4)
 ·rcases List.mem_append.mp hq with hq | hq
  ·exact fun z=>g.ox q hq (c3 _ z)
  ·rw [List.mem_singleton.mp hq]; exact c2
 ·rcases List.mem_append.mp hq with hq | hq
  ·exact fun z=>g.oy q hq (r3 _ z)
  ·rw [List.mem_singleton.mp hq]; exact r2
 ·rcases List.mem_append.mp hq with hq | hq
  ·exact fun z=>g.on q hq (l3 _ z)
  ·rw [List.mem_singleton.mp hq]; exact l2
def xlk (K:PySem.W.Frag):Sp:=fun vs H Q _=>∃ (lc:Addr) (ns:List Int) (dg:Bool) (w h:Nat),vs=[.ref lc,.bl dg,.int (w:Int),.int (h:Int)]∧H lc=some (.lst (ns.map V.int))∧ns.length≤12∧1≤w∧w≤30∧1≤h∧h≤16 ∧
 ∀ H' l ps qs,xb8 (w:Int) (h:Int) ps→ps.length≤ns.length→Same H H'→H l=none→H' l=some (.lst (qs.map V.ref))→PtsL H' ps qs→Q (.ref l) H'
theorem xj7 {K:PySem.W.Frag} {H:Hp} {l l2:Addr} {xs:List V} (h:H l=some (.lst xs)) (h2:H l2=some (.lst [])) (f:xs.all scV=true):∃ (n m:Nat) (d e:DV),Dv K H n (.ref l) d∧Dv K H m (.ref l2) e∧n≤9∧m≤9∧(!dEq d e)=!decide (xs=[]):=by
 refine ⟨1,1,.lst (xs.map scD),.lst [],.lst (SqL.of h) (by rw [List.length_map]) (xdm f),.lst (SqL.of h2) rfl (xdm (xs:=[]) rfl),by decide,by decide,?_⟩
 cases xs with
 | nil=>rfl
 | cons x r=>rfl
def IPt (H:Hp) (lcell lc lr ll lp:Addr) (dg:Bool) (w h:Nat) (i:Nat) (σ:L2.St) (H5:Hp):Prop:=∃ (cols rows lts:List V) (ps:List Pt) (qs:List Addr) (v7 v8 v9 v10 v11:Option V),σ=[some (.ref lcell),some (.bl dg),some (.int (w:Int)),some (.int (h:Int)),some (.ref lc),some (.ref lr),some (.ref ll),some (.ref lp),v7,v8,v9,v10,v11] ∧
 Same H H5∧H5 lc=some (.lst cols)∧H5 lr=some (.lst rows)∧H5 ll=some (.lst lts)∧H5 lp=some (.lst (qs.map V.ref))∧PtsL H5 ps qs∧PI w h cols rows lts ps i
theorem xbc {ns:List Int} {i:Nat} (h:i < ns.length):∃ n,atI (ns.map V.int) (i:Int)=some (.int n):=⟨ns[i],xds (by rw [List.getElem?_map,List.getElem?_eq_getElem h]; rfl)⟩
section
variable {P:Program} {w:World} {K:PySem.W.Frag} {mg:Str→Option Value} {base:Heap} {t:Adr}
theorem ok_r (T:Txt w K mg t):FnOk true P w K mg base (CXo P w) 2 t.f_r t.d_r ["_law_cell", "_law_digits", "_law_bases"] (xky K):=by
 refine T.F_r.okn (k:=1) sc_r (fun vs H Q E h=>?_) (fun cdv A outer s H vs Q E hr h=>?_)
 ·obtain ⟨c,dg,lb,bs,rfl,_⟩:=h
  rfl
 ·obtain ⟨c,dg,lb,bs,rfl,h⟩:=h
  refine ⟨_,xb (xt (i:=3) sc_r.nd rfl (Or.inl rfl) (xbh (xj)))
   (xb (xb0 PassesOwn.never rfl (xdb rfl T.n_enumerate (xa (pv 2) (xj))) (xby rfl (xad (xr (i:=4) sc_r.nd rfl (Or.inl rfl)) (xad (xr (i:=5) sc_r.nd rfl (Or.inl rfl)) (xbq)))) (xn (xag (xbe (pv 1)) (xb (xaf (xcy PySem.F.plainAttrs_list PySem.F.slot_list_append PySem.F.type_list_append xbz (pv 3) (xa (x0 xaj (pv 0) (pv 5)) (xj))))
   (xn (xt (i:=0) sc_r.nd rfl (Or.inl rfl) (x0 xek (pv 0) (pv 5))))) (xn (xaf (xcy PySem.F.plainAttrs_list PySem.F.slot_list_append PySem.F.type_list_append xbz (pv 3) (xa (xv (ok_ab T) (hr.mono (by decide)) rfl T.g_ab T.F_ab.kp T.b_ab .nil xm (xa (pv 0) (xa (x0 xa7 (xk) (pv 4)) (xj)))) (xj))))))))
   (xn (xaa (pv 3)))),?_⟩
  obtain ⟨hlb,bp,b20,q⟩:=h
  refine ⟨(by show 0≤sizeLine; decide),fun l hl=>?_⟩
  have s1:Same H (upd H l (.lst [])):=xo (Same.refl _) hl
  have g1:upd H l (.lst []) l=some (.lst []):=xg
  revert s1 g1
  generalize upd H l (.lst [])=H1
  intro s1 g1
  refine ⟨_,rfl,lb,_,rfl,SqL.of (s1 _ _ hlb),?_⟩
  refine xe6 (xs:=bs.map V.int) (Pv:=fun k σ H5=>∃ (c:Int) (ns:List Int) (v4 v5:Option V),σ=[some (.int c),some (.bl dg),some (.ref lb),some (.ref l),v4,v5]∧Same H H5∧H5 l=some (.lst (ns.map V.int))∧ns.length=k) ⟨c,[],_,_,rfl,s1,g1,rfl⟩ ?_ ?_ ?_
  ·rintro i σ H5 _ ⟨_,_,_,_,rfl,s5,_⟩
   exact SqL.of (s5 _ _ hlb)
  ·rintro k x p σ H5 hx hp ⟨c,ns,v4,v5,rfl,s5,e5,nl⟩
   rw [List.getElem?_map,Option.map_eq_some_iff] at hx
   obtain ⟨b,hb,rfl⟩:=hx
   have bb:=bp b (List.mem_of_getElem? hb)
   have kl:=(List.getElem?_eq_some_iff.mp hb).1
   have s6:Same H5 (upd H5 p (.tup [.int (k:Int),.int b])):=xo (Same.refl _) hp
   have g6:upd H5 p (.tup [.int (k:Int),.int b]) p=some (.tup [.int (k:Int),.int b]):=xg
   revert s6 g6
   generalize upd H5 p (.tup [.int (k:Int),.int b])=H6
   intro s6 g6
   have s06:=s5.trans s6
   have e6:=s6 _ _ e5
   have fin:∀ n:Int,∃ (c':Int) (ns':List Int),Same H (upd H6 l (.lst (ns.map V.int ++ [.int n])))∧upd H6 l (.lst (ns.map V.int ++ [.int n])) l=some (.lst (ns'.map V.int))∧ns'.length=k + 1:=fun n=>⟨c,ns ++ [n],fun a u e=>by rw [xh (xf e hl)]; exact s06 _ _ e,by rw [xg,List.map_append]; rfl,by rw [List.length_append,nl]; rfl⟩
   refine ⟨p,_,rfl,SqT.of g6,rfl,_,_,rfl,_,_,rfl,rfl,?_⟩
   refine ⟨_,rfl,dg,rfl,ite2 (fun y=>?_) (fun y=>?_)⟩
   ·refine ⟨_,rfl,.inl ⟨rfl,_,SqL.of e6⟩,_,rfl,_,rfl,_,_,rfl,rfl,bb.1,l,_,_,rfl,rfl,e6,?_,?_⟩
    ·rw [List.length_map]
     exact Nat.lt_of_le_of_lt (by omega:_≤1000) (by decide)
    obtain ⟨_,ns',f1,f2,f3⟩:=fin (c % b)
    exact ⟨_,rfl,_,rfl,_,_,rfl,rfl,⟨bb.1,by omega⟩,_,ns',_,_,rfl,f1,f2,f3⟩
   ·refine ⟨_,rfl,.inl ⟨rfl,_,SqL.of e6⟩,_,rfl,_,rfl,_,_,rfl,rfl,c,_,rfl,fun m _ _=>⟨l,_,_,rfl,rfl,e6,?_,?_⟩⟩
    ·rw [List.length_map]
     exact Nat.lt_of_le_of_lt (by omega:_≤1000) (by decide)
    obtain ⟨_,ns',f1,f2,f3⟩:=fin m
    exact ⟨c,ns',_,_,rfl,f1,f2,f3⟩
  ·rintro σ H5 ⟨c,ns,v4,v5,rfl,s5,e5,nl⟩
   rw [List.length_map] at nl
   exact ⟨_,rfl,q H5 l ns s5 hl e5 nl⟩
theorem ok_y (T:Txt w K mg t):FnOk true P w K mg base (CXo P w) 2 t.f_y t.d_y ["_law_numbers_here", "_law_name", "_law_x", "_law_y", "_law_height"] (xmi):=by
 refine T.F_y.okn (k:=1) sc_y (fun vs H Q E h=>?_) (fun cdv A outer s H vs Q E hr h=>?_)
 ·obtain ⟨ln,ns,nm,x,y,ph,rfl,_⟩:=h
  rfl
 ·obtain ⟨ln,ns,nm,x,y,ph,rfl,h⟩:=h
  refine ⟨_,xb (xt (i:=5) sc_y.nd rfl (Or.inl rfl) (xan xas (xbh (xa (xaq) (xa (xaq) (xa (xaq) (xj))))) (x0 xaj (x0 xaj (xan xas (pv 0) (xk) (fun _ _=>rfl)) (xk)) (xk)) (fun _ _=>rfl)))
   (xb (xt (i:=6) sc_y.nd rfl (Or.inl rfl) (x0 xa7 (xk) (x0 xaj (xan xas (pv 0) (xk) (fun _ _=>rfl)) (pv 4))))
   (xb (xt (i:=7) sc_y.nd rfl (Or.inl rfl) (x0 xa7 (pv 6) (x0 xaj (xan xas (pv 0) (xk) (fun _ _=>rfl)) (x0 xa7 (x0 xnm (pv 4) (pv 6)) (xk)))))
   (xb (xt (i:=8) sc_y.nd rfl (Or.inl rfl) (x0 xaj (xan xas (pv 0) (xk) (fun _ _=>rfl)) (xk)))
   (xb ((by (with_reducible refine' xbf ?m7); (case m7=>((with_reducible refine' xag ?c2 ?a3 ?b4); (case c2=>exact xw xa5 (pv 8) (xk) (x6 _)); (case a3=>((with_reducible refine' xn ?c5); (case c5=>((with_reducible refine' xaa ?e6); (case e6=>((exact xay (x8 (pv 1) (x8 (pv 2) (x8 (pv 3) (x8 (pv 5) (x8 (xk) (x8 (pv 4) (xj) rfl) rfl) rfl) rfl) rfl) rfl)))))))); (case b4=>((exact x9)))))))
   (xb (xbf (xag (xw xa5 (pv 8) (xk) (x6 _)) (xn (xt (i:=7) sc_y.nd rfl (Or.inl rfl) (xav (xkf rfl) rfl T.n_min boot_min (xa (x0 xa7 (pv 6) (xk)) (xa (pv 4) (xj)))))) (x9)))
   (xn ((by (with_reducible refine' xaa ?e1); (case e1=>((exact xay (x8 (pv 1) (x8 (pv 2) (x8 (pv 3) (x8 (pv 5) (x8 (pv 6) (x8 (pv 7) (xj) rfl) rfl) rfl) rfl) rfl) rfl)))))))))))),?_⟩
  obtain ⟨hln,n7,h1,q⟩:=h
  obtain ⟨m6,em6⟩:=xbc (ns:=ns) (i:=3) (by omega)
  obtain ⟨m7,em7⟩:=xbc (ns:=ns) (i:=4) (by omega)
  obtain ⟨m8,em8⟩:=xbc (ns:=ns) (i:=5) (by omega)
  obtain ⟨m9,em9⟩:=xbc (ns:=ns) (i:=6) (by omega)
  refine ⟨(by show 3≤sizeLine; decide),fun l0 hl0=>?_⟩
  have s1:Same H (upd H l0 (.lst [V.str (Str.ofString "both"),V.str (Str.ofString "left"),V.str (Str.ofString "right")])):=xo (Same.refl _) hl0
  have g1:upd H l0 (.lst [V.str (Str.ofString "both"),V.str (Str.ofString "left"),V.str (Str.ofString "right")]) l0=some (.lst [V.str (Str.ofString "both"),V.str (Str.ofString "left"),V.str (Str.ofString "right")]):=xg
  revert s1 g1
  generalize upd H l0 (.lst [V.str (Str.ofString "both"),V.str (Str.ofString "left"),V.str (Str.ofString "right")])=H1
  intro s1 g1
  have hln1:=s1 _ _ hln
  obtain ⟨sd,esd,osd⟩:=xou (m6 % 4)
  refine ⟨_,rfl,ln,_,3,.int m6,rfl,rfl,SqL.of hln1,em6,_,_,rfl,rfl,(by show (0:Int) < 4; decide),_,_,rfl,rfl,(by show (0:Int) < 3; decide),l0,_,_,.str sd,rfl,rfl,SqL.of g1,esd,?_⟩
  refine ⟨_,rfl,ln,_,4,.int m7,rfl,rfl,SqL.of hln1,em7,_,rfl,_,_,rfl,rfl,(by show (0:Int) < (ph:Int); omega),_,_,rfl,rfl,?_⟩
  have b7:=xb5 m7 (show (0:Int) < (ph:Int) by omega)
  have p8:(0:Int) < (ph:Int) - (1 + m7 % (ph:Int)) + 1:=by omega
  refine ⟨_,rfl,_,rfl,ln,_,5,.int m8,rfl,rfl,SqL.of hln1,em8,_,rfl,_,rfl,_,_,rfl,rfl,_,_,rfl,rfl,_,_,rfl,rfl,p8,_,_,rfl,rfl,?_⟩
  have b8:=xb5 m8 p8
  refine ⟨_,rfl,ln,_,6,.int m9,rfl,rfl,SqL.of hln1,em9,_,_,rfl,rfl,(by show (0:Int) < 3; decide),?_⟩
  refine ⟨fun σ H5=>H1=H5∧σ=[some (.ref ln),some (.str nm),some (.int x),some (.int y),some (.int (ph:Int)),some (.str sd),some (.int (1 + m7 % (ph:Int))),some (.int (1 + m7 % (ph:Int) + m8 % ((ph:Int) - (1 + m7 % (ph:Int)) + 1))),some (.int (m9 % 3))],?_,?_⟩
  ·refine ⟨_,rfl,rfl,_,rfl,ite2 (fun y=>?_) (fun y=>⟨rfl,rfl⟩)⟩
   exact ⟨_,rfl,_,rfl,_,rfl,_,rfl,_,rfl,(by show 6≤sizeLine; decide),fun p hp=>q _ p sd 1 (ph:Int) osd (by omega) (by omega) (by omega) (s1.trans (xo (Same.refl _) hp)) xg⟩
  rintro σ _ ⟨rfl,rfl⟩
  refine ⟨fun σ H5=>H1=H5∧∃ hi:Int,1 + m7 % (ph:Int)≤hi∧hi≤(ph:Int)∧σ=[some (.ref ln),some (.str nm),some (.int x),some (.int y),some (.int (ph:Int)),some (.str sd),some (.int (1 + m7 % (ph:Int))),some (.int hi),some (.int (m9 % 3))],?_,?_⟩
  ·refine ⟨_,rfl,rfl,_,rfl,ite2 (fun y=>?_) (fun y=>⟨rfl,_,by omega,by omega,rfl⟩)⟩
   refine ⟨_,rfl,_,_,rfl,rfl,_,rfl,_,_,rfl,rfl,_,?_,?_,rfl⟩
   ·split <;> omega
   ·split <;> omega
  rintro σ _ ⟨rfl,hi,a1,a2,rfl⟩
  exact ⟨_,rfl,_,rfl,_,rfl,_,rfl,_,rfl,_,rfl,(by show 6≤sizeLine; decide),fun p hp=>q _ p sd _ hi osd (by omega) a1 a2 (s1.trans (xo (Same.refl _) hp)) xg⟩
theorem ok_w (T:Txt w K mg t):FnOk true P w K mg base (CXo P w) 3 t.f_w t.d_w ["_law_cells", "_law_digits", "_law_width", "_law_height"] (xlk K):=by
 refine T.F_w.okn (k:=2) sc_w (fun vs H Q E h=>?_) (fun cdv A outer s H vs Q E hr h=>?_)
 ·obtain ⟨lcell,ns,dg,w',h',rfl,_⟩:=h
  rfl
 ·obtain ⟨lcell,ns,dg,w',h',rfl,h⟩:=h
  refine ⟨_,xb (xt (i:=4) sc_w.nd rfl (Or.inl rfl) (xcf (xd1 rfl) rfl T.n_list boot_list (xa (xcf xew rfl T.n_range boot_range (xa (xk) (xa (x0 xa7 (pv 2) (xk)) (xj)))) (xj))))
   (xb (xt (i:=5) sc_w.nd rfl (Or.inl rfl) (xcf (xd1 rfl) rfl T.n_list boot_list (xa (xcf xew rfl T.n_range boot_range (xa (xk) (xa (x0 xa7 (pv 3) (xk)) (xj)))) (xj))))
   (xb (xt (i:=6) sc_w.nd rfl (Or.inl rfl) (xcf (xgo rfl) rfl T.n_list boot_list (xa (xaq) (xj))))
   (xb (xt (i:=7) sc_w.nd rfl (Or.inl rfl) (xbh (xj)))
   (xb (xb0 PassesOwn.never rfl (xal (pv 0)) (xr (i:=8) sc_w.nd rfl (Or.inl rfl)) (xn ((by (with_reducible refine' xbf ?m26); (case m26=>((with_reducible refine' xag ?c8 ?a9 ?b10); (case c8=>exact PW.pt (xc8 (xw (xfj (xa0 hr)) (pv 4) (xbh (xj)) (x6 _)) (xc3 (xw (xfj (xa0 hr)) (pv 5) (xbh (xj)) (x6 _))))); (case a9=>((with_reducible refine' xb ?a11 ?b12); (case a11=>((with_reducible refine' xt (i:=9) ?n13 ?i14 ?x15 ?e16 ?s17 ?f18); (case n13=>exact sc_w.nd); (case i14=>rfl); (case x15=>exact Or.inl rfl); (case f18=>exact Or.inl rfl); (case e16=>((exact xv (ok_r T) (hr.mono (by decide)) rfl T.g_r T.F_r.kp T.b_r .nil xm (xa (pv 8) (xa (pv 1) (xa (xbh (x8 (xk) (x8 (xk) (x8 (xk) (x8 (xk) (x8 (xk) (x8 (xk) (x8 (xk) (xj) rfl) rfl) rfl) rfl) rfl) rfl) rfl)) (xj))))))); (case s17=>rfl))); (case b12=>((with_reducible refine' xb ?a19 ?b20); (case a19=>((exact xt (i:=10) sc_w.nd rfl (Or.inl rfl) (xcy PySem.F.plainAttrs_list PySem.F.slot_list_pop PySem.F.type_list_pop xe2 (pv 4) (xa (x0 xaj (xan xas (pv 9) (xk) (fun _ _=>rfl)) (xav xa2 rfl T.n_len boot_len (xa (pv 4) (xj)))) (xj)))))); (case b20=>((with_reducible refine' xb ?a21 ?b22); (case a21=>((exact xt (i:=11) sc_w.nd rfl (Or.inl rfl) (xcy PySem.F.plainAttrs_list PySem.F.slot_list_pop PySem.F.type_list_pop xe2 (pv 5) (xa (x0 xaj (xan xas (pv 9) (xk) (fun _ _=>rfl)) (xav xa2 rfl T.n_len boot_len (xa (pv 5) (xj)))) (xj)))))); (case b22=>((with_reducible refine' xb ?a23 ?b24); (case a23=>((exact xt (i:=12) sc_w.nd rfl (Or.inl rfl) (xcy PySem.F.plainAttrs_list PySem.F.slot_list_pop PySem.F.type_list_pop xe2 (pv 6) (xa (x0 xaj (xan xas (pv 9) (xk) (fun _ _=>rfl)) (xav xa2 rfl T.n_len boot_len (xa (pv 6) (xj)))) (xj)))))); (case b24=>((with_reducible refine' xn ?c25); (case c25=>((exact xaf (xcy PySem.F.plainAttrs_list PySem.F.slot_list_append PySem.F.type_list_append xbz (pv 7) (xa (xv (ok_y T) (hr.mono (by decide)) rfl T.g_y T.F_y.kp T.b_y .nil xm (xa (pv 9) (xa (pv 12) (xa (pv 10) (xa (pv 11) (xa (pv 3) (xj))))))) (xj)))))))))))))))); (case b10=>((exact x9)))))))))
   (xn (xaa (pv 7))))))),?_⟩
  obtain ⟨hc,n12,w1,w2,h1,h2,q⟩:=h
  refine ⟨_,rfl,_,_,rfl,rfl,1,(w':Int) + 1,rfl,fun pr hpr=>?_⟩
  have s1:Same H (upd H pr (.rng 1 ((w':Int) + 1))):=xo (Same.refl _) hpr
  have g1:upd H pr (.rng 1 ((w':Int) + 1)) pr=some (.rng 1 ((w':Int) + 1)):=xg
  revert s1 g1
  generalize upd H pr (.rng 1 ((w':Int) + 1))=H1
  intro s1 g1
  refine ⟨pr,_,_,rfl,g1,⟨by decide,by decide,by omega,by omega⟩,by omega,fun lc hlc=>?_⟩
  have s2:Same H1 (upd H1 lc (.lst (rngL 1 ((w':Int) + 1)))):=xo (Same.refl _) hlc
  have g2:upd H1 lc (.lst (rngL 1 ((w':Int) + 1))) lc=some (.lst (rngL 1 ((w':Int) + 1))):=xg
  revert s2 g2
  generalize upd H1 lc (.lst (rngL 1 ((w':Int) + 1)))=H2
  intro s2 g2
  refine ⟨_,rfl,_,_,rfl,rfl,1,(h':Int) + 1,rfl,fun pr2 hpr2=>?_⟩
  have s3:Same H2 (upd H2 pr2 (.rng 1 ((h':Int) + 1))):=xo (Same.refl _) hpr2
  have g3:upd H2 pr2 (.rng 1 ((h':Int) + 1)) pr2=some (.rng 1 ((h':Int) + 1)):=xg
  revert s3 g3
  generalize upd H2 pr2 (.rng 1 ((h':Int) + 1))=H3
  intro s3 g3
  refine ⟨pr2,_,_,rfl,g3,⟨by decide,by decide,by omega,by omega⟩,by omega,fun lr hlr=>?_⟩
  have s4:Same H3 (upd H3 lr (.lst (rngL 1 ((h':Int) + 1)))):=xo (Same.refl _) hlr
  have g4:upd H3 lr (.lst (rngL 1 ((h':Int) + 1))) lr=some (.lst (rngL 1 ((h':Int) + 1))):=xg
  revert s4 g4
  generalize upd H3 lr (.lst (rngL 1 ((h':Int) + 1)))=H4
  intro s4 g4
  refine ⟨abcS,rfl,by decide +kernel,fun ll hll=>?_⟩
  have s5:Same H4 (upd H4 ll (.lst (sgnL abcS))):=xo (Same.refl _) hll
  have g5:upd H4 ll (.lst (sgnL abcS)) ll=some (.lst (sgnL abcS)):=xg
  revert s5 g5
  generalize upd H4 ll (.lst (sgnL abcS))=H5
  intro s5 g5
  refine ⟨(by show 0≤sizeLine; decide),fun lp hlp=>?_⟩
  have s6:Same H5 (upd H5 lp (.lst [])):=xo (Same.refl _) hlp
  have g6:upd H5 lp (.lst []) lp=some (.lst []):=xg
  revert s6 g6
  generalize upd H5 lp (.lst [])=H6
  intro s6 g6
  have s06:=(((s1.trans s2).trans s3).trans s4).trans (s5.trans s6)
  have f2:=s1.free hlc
  have f4:=((s1.trans s2).trans s3).free hlr
  have f5:=(((s1.trans s2).trans s3).trans s4).free hll
  have f6:=((((s1.trans s2).trans s3).trans s4).trans s5).free hlp
  have e2:=s6 _ _ (s5 _ _ (s4 _ _ (s3 _ _ g2)))
  have e4:=s6 _ _ (s5 _ _ g4)
  have e5:=s6 _ _ g5
  have n24:lc≠lr:=xf (s3 _ _ g2) hlr
  have n25:lc≠ll:=xf (s4 _ _ (s3 _ _ g2)) hll
  have n26:lc≠lp:=xf (s5 _ _ (s4 _ _ (s3 _ _ g2))) hlp
  have n45:lr≠ll:=xf g4 hll
  have n46:lr≠lp:=xf (s5 _ _ g4) hlp
  have n56:ll≠lp:=xf g5 hlp
  refine ⟨_,rfl,lcell,rfl,⟨_,SqL.of (s06 _ _ hc)⟩,?_⟩
  refine xcp (xs:=ns.map V.int) (Pv:=IPt H lcell lc lr ll lp dg w' h') ⟨_,_,_,[],[],_,_,_,_,_,rfl,s06,e2,e4,e5,g6,.nil,⟨xjk _,fun v hv=>xh9 hv,xjk _,fun v hv=>xh9 hv,xoq,fun v hv=>hv,(by decide +kernel),?_,?_,Nat.le_refl _,fun _ z=>(nomatch z),.nil,.nil,.nil,fun _ z=>(nomatch z),fun _ z=>(nomatch z),fun _ z=>(nomatch z)⟩⟩ ?_ ?_ ?_
  ·unfold rngL
   rw [List.length_map,List.length_range]
   omega
  ·unfold rngL
   rw [List.length_map,List.length_range]
   omega
  ·rintro i σ H7 _ ⟨_,_,_,_,_,_,_,_,_,_,rfl,s7,_⟩
   exact SqL.of (s7 _ _ hc)
  ·rintro i x σ H7 hx ⟨cols,rows,lts,ps,qs,v7,v8,v9,v10,v11,rfl,s7,e7c,e7r,e7l,e7p,pl7,pi⟩
   rw [List.getElem?_map,Option.map_eq_some_iff] at hx
   obtain ⟨c,hc',rfl⟩:=hx
   have i12:i < 12:=by have:=(List.getElem?_eq_some_iff.mp hc').1; omega
   refine ⟨_,?_,fun _ _ z=>z⟩
   have sc1:cols.all scV=true:=List.all_eq_true.mpr fun v hv=>by
    obtain ⟨x,rfl,_⟩:=pi.ci v hv
    rfl
   have sc2:rows.all scV=true:=List.all_eq_true.mpr fun v hv=>by
    obtain ⟨x,rfl,_⟩:=pi.ri v hv
    rfl
   refine ⟨_,rfl,(by show 0≤sizeLine; decide),fun z1 hz1=>?_⟩
   have s8:Same H7 (upd H7 z1 (.lst [])):=xo (Same.refl _) hz1
   have g8:upd H7 z1 (.lst []) z1=some (.lst []):=xg
   revert s8 g8
   generalize upd H7 z1 (.lst [])=H8
   intro s8 g8
   obtain ⟨n,m,d,e,d1,d2,n9,m9,ev⟩:=xj7 (K:=K) (s8 _ _ e7c) g8 sc1
   refine ⟨n,m,d,e,d1,d2,n9,m9,_,rfl,?_⟩
   rw [ev]
   refine ite2 (fun y1=>?_) (fun y1=>⟨cols,rows,lts,ps,qs,_,_,_,_,_,rfl,s7.trans s8,s8 _ _ e7c,s8 _ _ e7r,s8 _ _ e7l,s8 _ _ e7p,pl7.keep (Same.tups s8),pi.up⟩)
   refine ⟨_,rfl,(by show 0≤sizeLine; decide),fun z2 hz2=>?_⟩
   have s9:Same H8 (upd H8 z2 (.lst [])):=xo (Same.refl _) hz2
   have g9:upd H8 z2 (.lst []) z2=some (.lst []):=xg
   revert s9 g9
   generalize upd H8 z2 (.lst [])=H9
   intro s9 g9
   have s79:=s8.trans s9
   obtain ⟨n',m',d',e',d1',d2',n9',m9',ev'⟩:=xj7 (K:=K) (s79 _ _ e7r) g9 sc2
   refine ⟨n',m',d',e',d1',d2',n9',m9',_,rfl,?_⟩
   rw [ev']
   refine ite2 (fun y2=>?_) (fun y2=>⟨cols,rows,lts,ps,qs,_,_,_,_,_,rfl,s7.trans s79,s79 _ _ e7c,s79 _ _ e7r,s79 _ _ e7l,s79 _ _ e7p,pl7.keep (Same.tups s79),pi.up⟩)
   have cne:cols≠[]:=fun z=>by rw [z] at y1; exact absurd y1 (by decide)
   have rne:rows≠[]:=fun z=>by rw [z] at y2; exact absurd y2 (by decide)
   have lne:lts≠[]:=fun z=>by
    have l0:lts.length=0:=by rw [z]; rfl
    have:=pi.ll
    have:=pi.pl
    omega
   refine ⟨_,rfl,_,rfl,(by show 7≤sizeLine; decide),fun lb hlb=>?_⟩
   have s30:Same H9 (upd H9 lb (.lst [.int 30,.int 16,.int 26,.int 4,.int 16,.int 16,.int 3])):=xo (Same.refl _) hlb
   have g30:upd H9 lb (.lst [.int 30,.int 16,.int 26,.int 4,.int 16,.int 16,.int 3]) lb=some (.lst [.int 30,.int 16,.int 26,.int 4,.int 16,.int 16,.int 3]):=xg
   revert s30 g30
   generalize upd H9 lb (.lst [.int 30,.int 16,.int 26,.int 4,.int 16,.int 16,.int 3])=H30
   intro s30 g30
   refine ⟨c,dg,lb,[30,16,26,4,16,16,3],rfl,g30,(by decide),by decide,fun H31 lnn nms s31 flnn e31 nl31=>?_⟩
   have s79:=s79.trans (s30.trans s31)
   have nl7:nms.length=7:=nl31
   obtain ⟨m3,em3⟩:=xbc (ns:=nms) (i:=0) (by omega)
   obtain ⟨m4,em4⟩:=xbc (ns:=nms) (i:=1) (by omega)
   obtain ⟨m5,em5⟩:=xbc (ns:=nms) (i:=2) (by omega)
   have e9c:=s79 _ _ e7c
   have e9r:=s79 _ _ e7r
   have e9l:=s79 _ _ e7l
   have e9p:=s79 _ _ e7p
   have p9:=pl7.keep (Same.tups s79)
   have s09:=s7.trans s79
   have nnc:lnn≠lc:=fun z=>by rw [z,s30 _ _ (s9 _ _ (s8 _ _ e7c))] at flnn; cases flnn
   have nnr:lnn≠lr:=fun z=>by rw [z,s30 _ _ (s9 _ _ (s8 _ _ e7r))] at flnn; cases flnn
   have nnl:lnn≠ll:=fun z=>by rw [z,s30 _ _ (s9 _ _ (s8 _ _ e7l))] at flnn; cases flnn
   refine ⟨_,rfl,.inl ⟨rfl,_,SqL.of e9c⟩,_,rfl,lnn,_,0,.int m3,rfl,rfl,SqL.of e31,em3,?_⟩
   obtain ⟨jx,vx,gx,a1,a2,a3,a4⟩:=xg7 m3 cne (Nat.le_trans pi.cl (by decide))
   obtain ⟨x,rfl,x1,x2⟩:=pi.ci vx (List.mem_of_getElem? gx)
   refine ⟨_,rfl,lc,_,rfl,.inl (SqL.of e9c),_,_,rfl,rfl,a4,lc,_,_,jx,_,rfl,rfl,e9c,a1,a2,a3,gx,?_⟩
   have k10:∀ c u,c≠lc→H31 c=some u→upd H31 lc (.lst (cols.eraseIdx jx)) c=some u:=fun c u nc e=>by rw [xh nc]; exact e
   have g10:upd H31 lc (.lst (cols.eraseIdx jx)) lc=some (.lst (cols.eraseIdx jx)):=xg
   revert k10 g10
   generalize upd H31 lc (.lst (cols.eraseIdx jx))=H10
   intro k10 g10
   have e10r:=k10 _ _ (Ne.symm n24) e9r
   refine ⟨_,rfl,.inl ⟨rfl,_,SqL.of e10r⟩,_,rfl,lnn,_,1,.int m4,rfl,rfl,SqL.of (k10 _ _ nnc e31),em4,?_⟩
   obtain ⟨jy,vy,gy,b1,b2,b3,b4⟩:=xg7 m4 rne (Nat.le_trans pi.rl (by decide))
   obtain ⟨y,rfl,y3,y4⟩:=pi.ri vy (List.mem_of_getElem? gy)
   refine ⟨_,rfl,lr,_,rfl,.inl (SqL.of e10r),_,_,rfl,rfl,b4,lr,_,_,jy,_,rfl,rfl,e10r,b1,b2,b3,gy,?_⟩
   have k11:∀ c u,c≠lr→H10 c=some u→upd H10 lr (.lst (rows.eraseIdx jy)) c=some u:=fun c u nc e=>by rw [xh nc]; exact e
   have g11:upd H10 lr (.lst (rows.eraseIdx jy)) lr=some (.lst (rows.eraseIdx jy)):=xg
   revert k11 g11
   generalize upd H10 lr (.lst (rows.eraseIdx jy))=H11
   intro k11 g11
   have e11l:=k11 _ _ (Ne.symm n45) (k10 _ _ (Ne.symm n25) e9l)
   have e11c:=k11 _ _ n24 g10
   refine ⟨_,rfl,.inl ⟨rfl,_,SqL.of e11l⟩,_,rfl,lnn,_,2,.int m5,rfl,rfl,SqL.of (k11 _ _ nnr (k10 _ _ nnc e31)),em5,?_⟩
   obtain ⟨jn,vn,gn,c1,c2,c3,c4⟩:=xg7 m5 lne (by have:=pi.ll; omega)
   obtain ⟨cc,hcc,rfl⟩:=List.mem_map.mp (pi.li vn (List.mem_of_getElem? gn))
   have inm:=xkz cc hcc
   refine ⟨_,rfl,ll,_,rfl,.inl (SqL.of e11l),_,_,rfl,rfl,c4,ll,_,_,jn,_,rfl,rfl,e11l,c1,c2,c3,gn,?_⟩
   have k12:∀ c u,c≠ll→H11 c=some u→upd H11 ll (.lst (lts.eraseIdx jn)) c=some u:=fun c u nc e=>by rw [xh nc]; exact e
   have g12:upd H11 ll (.lst (lts.eraseIdx jn)) ll=some (.lst (lts.eraseIdx jn)):=xg
   revert k12 g12
   generalize upd H11 ll (.lst (lts.eraseIdx jn))=H12
   intro k12 g12
   have e12c:=k12 _ _ n25 e11c
   have e12r:=k12 _ _ n45 g11
   have e12p:=k12 _ _ (Ne.symm n56) (k11 _ _ (Ne.symm n46) (k10 _ _ (Ne.symm n26) e9p))
   have s012:Same H H12:=fun c u e=>k12 _ _ (xf e f5) (k11 _ _ (xf e f4) (k10 _ _ (xf e f2) (s09 _ _ e)))
   have t912:Tups H31 H12:=fun c xs e=>k12 _ _ (xak e (s79 _ _ e7l) (fun z=>nomatch z)) (k11 _ _ (xak e e9r (fun z=>nomatch z)) (k10 _ _ (xak e e9c (fun z=>nomatch z)) e))
   refine ⟨_,rfl,.inl ⟨rfl,_,SqL.of e12p⟩,_,rfl,_,rfl,_,rfl,_,rfl,_,rfl,lnn,nms,⟨#[cc]⟩,x,y,h',rfl,k12 _ _ nnl (k11 _ _ nnr (k10 _ _ nnc e31)),by omega,h1,fun H13 qa sd lo hi osd o1 o2 o3 s13 hqa=>?_⟩
   have e13p:=s13 _ _ e12p
   refine ⟨lp,_,_,rfl,rfl,e13p,?_,?_⟩
   ·rw [List.length_map,pl7.len]
    exact Nat.lt_of_le_of_lt (by have:=pi.pl; omega:_≤1000) (by decide)
   have kt:Tups H13 (upd H13 lp (.lst (qs.map V.ref ++ [.ref qa]))):=fun c xs e=>by rw [xh (xak e e13p (fun z=>nomatch z))]; exact e
   refine ⟨_,_,_,ps ++ [⟨⟨#[cc]⟩,x,y,sd,lo,hi⟩],qs ++ [qa],_,_,_,_,_,rfl,fun c u e=>by rw [xh (xf e f6)]; exact s13 _ _ (s012 _ _ e),by rw [xh n26]; exact s13 _ _ e12c,by rw [xh n46]; exact s13 _ _ e12r,by rw [xh n56]; exact s13 _ _ g12,by rw [xg,List.map_append]; rfl,PtsL.snoc1 (((p9.keep t912).keep (Same.tups s13)).keep kt) (kt _ _ hqa),pi.add (p:=⟨⟨#[cc]⟩,x,y,sd,lo,hi⟩) gx gy gn ⟨inm,x1,x2,y3,y4,osd,o1,o2,o3⟩⟩
  ·rintro σ H7 ⟨cols,rows,lts,ps,qs,v7,v8,v9,v10,v11,rfl,s7,e7c,e7r,e7l,e7p,pl7,pi⟩
   have:=pi.pl
   rw [List.length_map] at this
   exact ⟨_,rfl,q H7 lp ps qs ⟨pi.ok,pi.nn,pi.nx,pi.ny,by omega⟩ (by omega) s7 f6 e7p pl7⟩
end
end S35
set_option maxRecDepth 100000
set_option maxHeartbeats 4000000
namespace S35
open PySem L2 XL PyProof.Rows
def xn9 (t:Adr):Sp:=fun vs H Q _=>∃ (a q dp do_:Addr) (pw ph:Int) (ps:List Pt) (p:Pt),vs=[.ref a,.ref q]∧Pic t H a dp do_ pw ph ps∧H q=some (.tup (.str p.nm :: ptV p))∧PtOk pw ph p∧(∀ z ∈ ps,z.nm≠p.nm∧z.x≠p.x∧z.y≠p.y)∧ps.length < 12 ∧
 ∀ H',(∀ b u,b≠dp→H b=some u→H' b=some u)→Pic t H' a dp do_ pw ph (ps ++ [p])→Q .non H'
def xn2 (t:Adr):Sp:=fun vs H Q _=>∃ (lp ls:Addr) (w h:Nat) (ps:List Pt) (ss:List Seat) (qs rs:List Addr),vs=[.int (w:Int),.int (h:Int),.ref lp,.ref ls]∧1≤w∧w≤30∧1≤h∧h≤16∧H lp=some (.lst (qs.map V.ref))∧PtsL H ps qs∧xb8 (w:Int) (h:Int) ps∧H ls=some (.lst (rs.map V.ref))∧xap H ss rs∧SsOk (h:Int) ss∧ss.Pairwise xa1 ∧
 ∀ H' a dp do_,Same H H'→Dr t H' a dp do_ w h ps ss.reverse ss→Q (.ref a) H'
theorem xb8.at_ {w h:Int} {ps:List Pt} (o:xb8 w h ps) {i:Nat} {p:Pt} (e:ps[i]?=some p):PtOk w h p∧(∀ q ∈ ps.take i,q.nm≠p.nm∧q.x≠p.x∧q.y≠p.y)∧i < 12:=by
 obtain ⟨hi,rfl⟩:=List.getElem?_eq_some_iff.mp e
 refine ⟨o.ok _ (List.getElem_mem hi),fun q hq=>⟨xeg (·.nm) o.nn hi q hq,xeg (·.x) o.nx hi q hq,xeg (·.y) o.ny hi q hq⟩,by have:=o.le; omega⟩
theorem xdc {ss:List Seat} (h:ss.Pairwise xa1):ss.Nodup:=h.imp fun {a b} z e=>by
 subst e
 exact xec _ _ z z
theorem xow {α:Type} {l:List α} {i:Nat} (h:i < l.length) {x:α} (e:l[l.length - 1 - i]?=some x):l.reverse[i]?=some x:=by
 rw [List.getElem?_reverse h]
 exact e
def xb3 (b:Bool) (h:Nat):List Seat:=(List.range h).map fun (i:Nat)=>(b,1 + (i:Int))
section
variable {P:Program} {w:World} {K:PySem.W.Frag} {mg:Str→Option Value} {base:Heap} {t:Adr}
theorem ok_al (T:Txt w K mg t):FnOk true P w K mg base (CXo P w) 4 t.f_al t.d_al ["_law_picture_here", "_law_point_here"] (xn9 t):=by
 refine T.F_al.okn (k:=3) sc_al (fun vs H Q E h=>?_) (fun cdv A outer s H vs Q E hr h=>?_)
 ·obtain ⟨a,q,dp,do_,pw,ph,ps,p,rfl,_⟩:=h
  rfl
 ·obtain ⟨a,q,dp,do_,pw,ph,ps,p,rfl,h⟩:=h
  refine ⟨_,xb (xfi (pv 1) (xby rfl (xad (xr (i:=2) sc_al.nd rfl (Or.inl rfl)) (xad (xr (i:=3) sc_al.nd rfl (Or.inl rfl)) (xad (xr (i:=4) sc_al.nd rfl (Or.inl rfl)) (xad (xr (i:=5) sc_al.nd rfl (Or.inl rfl)) (xad (xr (i:=6) sc_al.nd rfl (Or.inl rfl)) (xad (xr (i:=7) sc_al.nd rfl (Or.inl rfl)) (xbq)))))))))
   (xn (xag (PW.pt (xc8 (xw xa5 (pv 5) (xaq) (x6 _)) (xc8 (xw xa5 (pv 6) (xk) (x6 _)) (xc3 (xw xa5 (pv 7) (xah (pv 0) rfl) (x6 _)))))) (xn (xaf (xaw (pv 0) T.c_k T.m_l (ok_l T) (hr.mono (by decide)) T.b_a3.choose_spec.2 T.b_a3.choose_spec.1 xm (xa (pv 2) (xa (pv 3) (xa (pv 4) (xj))))))) (xn (xaf (xaw (pv 0) T.c_k T.m_l (ok_l T) (hr.mono (by decide)) T.b_l .nil xm (x8 (pv 2) (x8 (pv 3) (x8 (pv 4) (x8 (pv 5) (x8 (pv 6) (x8 (pv 7) (xj) rfl) rfl) rfl) rfl) rfl) rfl)))))),?_⟩
  obtain ⟨pic,hq,ok,un,l12,hQ⟩:=h
  obtain ⟨⟨dx,hpi⟩,_⟩:=id pic
  obtain ⟨nm,x,y,sd,lo,hi⟩:=p
  refine ⟨_,rfl,q,_,rfl,SqT.of hq,rfl,_,_,rfl,_,_,rfl,_,_,rfl,_,_,rfl,_,_,rfl,_,_,rfl,rfl,?_⟩
  have B:∀ (hv:V) (sd':Str) (lo':Int),sd'=sd→lo'=lo→((hv=.non∧hi=ph)∨hv=.int hi)→xl1 t [.ref a,.str nm,.int x,.int y,.str sd',.int lo',hv] H (fun _ H'=>Q .non H') (fun _ _ _=>False):=fun hv sd' lo' e1 e2 e3=>by
   subst e1 e2
   exact ⟨a,dp,do_,pw,ph,ps,nm,x,y,sd',lo',hi,hv,rfl,pic,e3,ok.nm,ok.x1,ok.x2,ok.y1,ok.y2,ok.sd,ok.l1,ok.l2,ok.l3,un,l12,hQ⟩
  have C:∀ Q':V→Hp→Prop,(∀ v H',Q .non H'→Q' v H')→True:=fun _ _=>trivial
  refine ⟨_,rfl,rfl,_,rfl,ite2 (fun y1=>⟨_,rfl,rfl,_,rfl,ite2 (fun y2=>⟨_,rfl,_,rfl,a,_,_,_,_,rfl,hpi,T.c_k,T.n_ar,lkH,rfl,_,rfl,ite2 (fun y3=>?_) (fun y3=>?_)⟩) (fun y2=>?_)⟩) (fun y1=>?_)⟩
  ·have e1:sd=Str.ofString "both":=V.str.inj (of_decide_eq_true y1)
   have e2:lo=1:=V.int.inj (of_decide_eq_true y2)
   have e3:hi=ph:=V.int.inj (of_decide_eq_true y3)
   refine ⟨_,rfl,a,dx,_,rfl,hpi,xax (by decide +kernel),_,rfl,_,rfl,_,rfl,?_⟩
   exact ⟨a,dp,do_,pw,ph,ps,nm,x,y, "both",1,hi,.non,rfl,pic,.inl ⟨rfl,e3⟩,ok.nm,ok.x1,ok.x2,ok.y1,ok.y2,.inr (.inr rfl),by decide,e2 ▸ ok.l2,ok.l3,un,l12,fun H' k pc=>hQ H' k (by rw [e1,e2]; exact pc)⟩
  all_goals
   refine ⟨_,rfl,a,dx,_,rfl,hpi,xax (by decide +kernel),_,rfl,_,rfl,_,rfl,_,rfl,_,rfl,_,rfl,?_⟩
   exact ⟨a,dp,do_,pw,ph,ps,nm,x,y,sd,lo,hi,.int hi,rfl,pic,.inr rfl,ok.nm,ok.x1,ok.x2,ok.y1,ok.y2,ok.sd,ok.l1,ok.l2,ok.l3,un,l12,hQ⟩
theorem ok_t (T:Txt w K mg t):FnOk true P w K mg base (CXo P w) 6 t.f_t t.d_t ["_law_width", "_law_height", "_law_points_here", "_law_seats_here"] (xn2 t):=by
 refine T.F_t.okn (k:=5) sc_t (fun vs H Q E h=>?_) (fun cdv A outer s H vs Q E hr h=>?_)
 ·obtain ⟨lp,ls,w',h',ps,ss,qs,rs,rfl,_⟩:=h
  rfl
 ·obtain ⟨lp,ls,w',h',ps,ss,qs,rs,rfl,h⟩:=h
  refine ⟨_,xb (xt (i:=4) sc_t.nd rfl (Or.inl rfl) (xf4 T.k_k (ok_v T) (hr.mono (by decide)) rfl T.g_k T.b_v .nil xm (xa (pv 0) (xa (pv 1) (xj)))))
   (xb (xb0 PassesOwn.never rfl (xh2 rfl T.n_reversed (xa (pv 3) (xj))) (xby rfl (xad (xr (i:=5) sc_t.nd rfl (Or.inl rfl)) (xad (xr (i:=6) sc_t.nd rfl (Or.inl rfl)) (xbq)))) (xn (xaf (xaw (pv 4) T.c_k T.m_f (ok_f T) (hr.mono (by decide)) T.b_f .nil xm (xa (pv 5) (xa (pv 6) (xj)))))))
   (xb (xb0 PassesOwn.never rfl (xal (pv 2)) (xr (i:=7) sc_t.nd rfl (Or.inl rfl)) (xn (xaf (xv (ok_al T) (hr.mono (by decide)) rfl T.g_al T.F_al.kp T.b_al .nil xm (xa (pv 4) (xa (pv 7) (xj)))))))
   (xn (xaa (pv 4))))),?_⟩
  obtain ⟨w1,w2,h1,h2,hlp,ptl,pok,hls,stl,sok,slt,q⟩:=h
  have sll:=stl.len
  have pll:=ptl.len
  have nd:=xdc slt
  refine ⟨_,rfl,_,rfl,fun a dx ha hdx ne=>?_⟩
  refine ⟨a,dx,w',h',rfl,xg,by omega,by omega,by omega,by omega,fun H5 dp do_ hdp hdo k5 pic5 hdt=>⟨rfl,?_⟩⟩
  have up:∀ b,upd (upd H dx (.own a)) a (.ins t.C_k dx []) b=none→H b=none:=fun b z=>by
   cases e:H b with
   | none=>rfl
   | some u=>rw [xh (xf e ha),xh (xf e hdx),e] at z; cases z
  have s5:Same H H5:=fun b u e=>k5 b u (xf e ha) (by rw [xh (xf e ha),xh (xf e hdx)]; exact e)
  have fdp:=up _ hdp
  have fdo:=up _ hdo
  have st5:Sts H5 do_ []:=⟨[],hdt,rfl,List.nodup_nil,by decide⟩
  have rnd:(ss.reverse.map id).Nodup:=by
   rw [List.map_id]
   exact (List.reverse_perm ss).nodup_iff.mpr nd
  refine ⟨_,rfl,ls,_,rfl,SqL.of (s5 _ _ hls),?_⟩
  refine xmx (xs:=rs.map V.ref) (Pv:=fun i σ H6=>∃ (v5 v6 v7:Option V),σ=[some (.int (w':Int)),some (.int (h':Int)),some (.ref lp),some (.ref ls),some (.ref a),v5,v6,v7]∧Same H H6∧Pic t H6 a dp do_ w' h' []∧Sts H6 do_ (ss.reverse.take i)) ⟨_,_,_,rfl,s5,pic5,st5⟩ ?_ ?_ ?_
  ·rintro i σ H6 _ ⟨_,_,_,rfl,s6,_⟩
   exact SqL.of (s6 _ _ hls)
  ·rintro i x σ H6 hi hx ⟨v5,v6,v7,rfl,s6,pic6,st6⟩
   rw [List.length_map] at hi hx
   rw [List.getElem?_map,Option.map_eq_some_iff] at hx
   obtain ⟨qa,hqa,rfl⟩:=hx
   obtain ⟨⟨b,r⟩,hs,hsq⟩:=stl.get hqa
   rw [sll] at hs hi
   have hr:=xow hi hs
   have mem:=List.mem_of_getElem? hs
   obtain ⟨⟨dx6,hp6⟩,_⟩:=id pic6
   obtain ⟨ko,hko,_⟩:=id st6
   have hil:i < ss.reverse.length:=by rw [List.length_reverse]; exact hi
   have nin:(b,r) ∉ ss.reverse.take i:=fun z=>by
    have:=xeg id rnd hil (b,r) z
    rw [(List.getElem?_eq_some_iff.mp hr).2] at this
    exact this rfl
   have l32:=sok.2.1
   refine ⟨qa,_,rfl,SqT.of (s6 _ _ hsq),rfl,_,_,rfl,_,_,rfl,rfl,?_⟩
   refine ⟨_,rfl,a,dx6,_,rfl,hp6,xax (by decide +kernel),_,rfl,_,rfl,a,dp,do_,w',h',[],ss.reverse.take i,b,r,rfl,pic6,st6,(sok.2.2 _ mem).1,(sok.2.2 _ mem).2,nin,by rw [List.length_take]; omega,fun H7 k7 pc7 st7=>⟨_,_,_,rfl,fun c u e=>k7 _ _ (xf e fdo) (s6 _ _ e),pc7,?_⟩⟩
   rw [List.take_add_one,hr]
   exact st7
  ·rintro σ H6 ⟨v5,v6,v7,rfl,s6,pic6,st6⟩
   rw [List.length_map,sll,List.take_of_length_le (by rw [List.length_reverse]; exact Nat.le_refl _)] at st6
   refine ⟨_,rfl,lp,rfl,⟨_,SqL.of (s6 _ _ hlp)⟩,?_⟩
   refine xcp (xs:=qs.map V.ref) (Pv:=fun i σ H7=>∃ (v5 v6 v7:Option V),σ=[some (.int (w':Int)),some (.int (h':Int)),some (.ref lp),some (.ref ls),some (.ref a),v5,v6,v7]∧Same H H7∧Pic t H7 a dp do_ w' h' (ps.take i)∧Sts H7 do_ ss.reverse) ⟨_,_,_,rfl,s6,pic6,st6⟩ ?_ ?_ ?_
   ·rintro i σ H7 _ ⟨_,_,_,rfl,s7,_⟩
    exact SqL.of (s7 _ _ hlp)
   ·rintro i x σ H7 hx ⟨v5,v6,v7,rfl,s7,pic7,st7⟩
    rw [List.getElem?_map,Option.map_eq_some_iff] at hx
    obtain ⟨qa,hqa,rfl⟩:=hx
    obtain ⟨p,hp,hpq⟩:=ptl.get hqa
    obtain ⟨o1,o2,o3⟩:=pok.at_ hp
    obtain ⟨ko,hko,kr⟩:=id st7
    obtain ⟨_,⟨kp,hkp,_⟩,_⟩:=id pic7
    refine ⟨_,rfl,_,rfl,a,qa,dp,do_,w',h',ps.take i,p,rfl,pic7,s7 _ _ hpq,o1,o2,by rw [List.length_take]; omega,fun H8 k8 pc8=>⟨_,_,_,rfl,fun c u e=>k8 _ _ (xf e fdp) (s7 _ _ e),?_,ko,k8 _ _ (xak hko hkp (fun z=>nomatch z)) hko,kr⟩⟩
    rw [List.take_add_one,hp]
    exact pc8
   ·rintro σ H7 ⟨v5,v6,v7,rfl,s7,pic7,st7⟩
    rw [List.length_map,pll,List.take_of_length_le (Nat.le_refl _)] at pic7
    exact ⟨_,rfl,q H7 a dp do_ s7 ⟨pic7,st7,⟨(List.reverse_perm ss).nodup_iff.mpr nd,by rw [List.length_reverse]; exact sok.2.1,fun s hs=>sok.2.2 s (List.mem_reverse.mp hs)⟩,(List.reverse_perm ss).symm,slt,fun p hp=>(pok.ok p hp).nm⟩⟩
end
end S35
set_option maxRecDepth 100000
set_option maxHeartbeats 4000000
namespace S35
open PySem L2 XL PyProof.Rows
abbrev seF (d1 d2:Addr):List (Str × V):=[("seat_of",.ref d1),("holder_of",.ref d2)]
theorem lkSo {d1 d2:Addr}:(seF d1 d2).lookup ("seat_of":Str)=some (.ref d1):=by
 unfold seF
 rw [List.lookup_cons,show (("seat_of":Str) == "seat_of")=true from by decide +kernel]
theorem lkHo {d1 d2:Addr}:(seF d1 d2).lookup ("holder_of":Str)=some (.ref d2):=by
 unfold seF
 rw [List.lookup_cons,show (("holder_of":Str) == "seat_of")=false from by decide +kernel]
 show List.lookup ("holder_of":Str) [("holder_of",V.ref d2)]=_
 rw [List.lookup_cons,show (("holder_of":Str) == "holder_of")=true from by decide +kernel]
theorem xkw {d1 d2:Addr} {m:Str} (e:((["seat_of", "holder_of"]:List Str).all fun k=>!(m == k))=true):(seF d1 d2).lookup m=none:=by
 simp only [List.all_cons,List.all_nil,Bool.and_eq_true,Bool.not_eq_true'] at e
 obtain ⟨e1,e2,_⟩:=e
 unfold seF
 rw [List.lookup_cons,e1]
 show List.lookup m [("holder_of",V.ref d2)]=none
 rw [List.lookup_cons,e2]
 rfl
def SoD (H:Hp) (d:Addr) (n:Nat) (so:Str→Option Seat):Prop:=∃ kvs:List (Key × V),H d=some (.dK kvs)∧kvs.length≤n∧∀ nm,(so nm=none→valV kvs (.inr nm)=none)∧∀ s,so nm=some s→∃ q,valV kvs (.inr nm)=some (.ref q)∧H q=some (.tup (xbt s))
def HoD (H:Hp) (d:Addr) (n:Nat) (ho:Seat→Option Str):Prop:=∃ kvs:List (List Key × V),H d=some (.dT kvs)∧kvs.length≤n∧∀ s,valV kvs (xae s)=(ho s).map V.str
theorem SoD.keep {H H':Hp} {d:Addr} {n:Nat} {so:Str→Option Seat} (s:SoD H d n so) (tp:Tups H H') (h:∀ u,H d=some u→H' d=some u):SoD H' d n so:=by
 obtain ⟨kvs,e,l,f⟩:=s
 exact ⟨kvs,h _ e,l,fun nm=>⟨(f nm).1,fun s hs=>let ⟨q,a,b⟩:=(f nm).2 s hs; ⟨q,a,tp _ _ b⟩⟩⟩
theorem HoD.keep {H H':Hp} {d:Addr} {n:Nat} {ho:Seat→Option Str} (s:HoD H d n ho) (h:∀ u,H d=some u→H' d=some u):HoD H' d n ho:=by
 obtain ⟨kvs,e,r⟩:=s
 exact ⟨kvs,h _ e,r⟩
theorem HoD.le {H:Hp} {d:Addr} {n k:Nat} {ho:Seat→Option Str} (s:HoD H d n ho) (h:n≤k):HoD H d k ho:=by
 obtain ⟨kvs,e,l,r⟩:=s
 exact ⟨kvs,e,by omega,r⟩
theorem SoD.le {H:Hp} {d:Addr} {n k:Nat} {so:Str→Option Seat} (s:SoD H d n so) (h:n≤k):SoD H d k so:=by
 obtain ⟨kvs,e,l,r⟩:=s
 exact ⟨kvs,e,by omega,r⟩
theorem HoD.get {H:Hp} {d:Addr} {n:Nat} {ho:Seat→Option Str} (s:HoD H d n ho) {b:Addr} {c:Seat} (eb:H b=some (.tup (xbt c))):DGet H d (.ref b) ((ho c).map V.str):=by
 obtain ⟨kvs,e,l,f⟩:=s
 rw [← f c]
 exact DGet.t (k:=xae c) e eb
theorem HoD.put {H:Hp} {d:Addr} {n:Nat} {ho:Seat→Option Str} (s:HoD H d n ho) (hn:n < 1000) {b:Addr} {c:Seat} (eb:H b=some (.tup (xbt c))) (x:Str) :
    ∃ H',DPut H d (.ref b) (.str x) H'∧HoD H' d (n + 1) (Kp.upd1 ho c x)∧(∀ a u,a≠d→H a=some u→H' a=some u)∧Tups H H'∧∀ a,H a=none→H' a=none:=by
  obtain ⟨kvs,e,l,f⟩:=s
  refine ⟨_,DPut.t (k:=xae c) e eb (Nat.lt_of_le_of_lt (by omega:_≤1000) (by decide)),⟨_,xg,?_,fun z=>?_⟩,fun a u na ea=>by rw [xh na]; exact ea,fun a xs ea=>by rw [xh (xak ea e (fun z=>nomatch z))]; exact ea,fun a ea=>by rw [xh (fun z=>by rw [z,e] at ea; cases ea)]; exact ea⟩
  · have:=xbm kvs (xae c) (.str x)
    omega
  · rw [xdz]
    unfold Kp.upd1
    by_cases zc:z=c
    · rw [if_pos (by rw [zc]),if_pos zc]
      rfl
    · rw [if_neg (fun y=>zc (xee y)),if_neg zc]
      exact f z
theorem SoD.put {H:Hp} {d:Addr} {n:Nat} {so:Str→Option Seat} (s:SoD H d n so) (hn:n < 1000) {b:Addr} {c:Seat} (eb:H b=some (.tup (xbt c))) (x:Str) :
    ∃ H',DPut H d (.str x) (.ref b) H'∧SoD H' d (n + 1) (Kp.upd1 so x c)∧(∀ a u,a≠d→H a=some u→H' a=some u)∧Tups H H'∧∀ a,H a=none→H' a=none:=by
  obtain ⟨kvs,e,l,f⟩:=s
  have tp:Tups H (upd H d (.dK (putK kvs (.inr x) (.ref b)))):=fun a xs ea=>by rw [xh (xak ea e (fun z=>nomatch z))]; exact ea
  refine ⟨_,DPut.k (k:=.inr x) e (Nat.lt_of_le_of_lt (by omega:_≤1000) (by decide)),⟨_,xg,?_,fun z=>?_⟩,fun a u na ea=>by rw [xh na]; exact ea,tp,fun a ea=>by rw [xh (fun z=>by rw [z,e] at ea; cases ea)]; exact ea⟩
  · have:=xbm kvs (.inr x) (.ref b)
    omega
  · rw [xdz]
    unfold Kp.upd1
    by_cases zc:z=x
    · subst zc
      rw [if_pos rfl,if_pos rfl]
      exact ⟨fun y=>(nomatch y),fun s hs=>⟨b,rfl,by cases hs; exact tp _ _ eb⟩⟩
    · rw [if_neg (fun y=>zc (Sum.inr.inj y)),if_neg zc]
      exact ⟨(f z).1,fun s hs=>let ⟨q,a1,a2⟩:=(f z).2 s hs; ⟨q,a1,tp _ _ a2⟩⟩
theorem SoD.get {H:Hp} {d:Addr} {n:Nat} {so:Str→Option Seat} (s:SoD H d n so) (x:Str):(so x=none∧DGet H d (.str x) none)∨∃ c q,so x=some c∧DGet H d (.str x) (some (.ref q))∧H q=some (.tup (xbt c)):=by
 obtain ⟨kvs,e,l,f⟩:=s
 have g:=DGet.k (k:=.inr x) e
 cases z:so x with
 | none =>
  rw [(f x).1 z] at g
  exact .inl ⟨rfl,g⟩
 | some c =>
  obtain ⟨q,e1,e2⟩:=(f x).2 c z
  rw [e1] at g
  exact .inr ⟨c,q,rfl,g,e2⟩
structure Sg (t:Adr) (H:Hp) (p d1 d2:Addr) (n:Nat) (so:Str→Option Seat) (ho:Seat→Option Str):Prop where
 ins:∃ dx,H p=some (.ins t.C_ak dx (seF d1 d2))
 so:SoD H d1 n so
 ho:HoD H d2 n ho
theorem Sg.keep {t:Adr} {H H':Hp} {p d1 d2:Addr} {n:Nat} {so:Str→Option Seat} {ho:Seat→Option Str} (g:Sg t H p d1 d2 n so ho) {d:Addr} (h1:p≠d) (h2:d1≠d) (h3:d2≠d) (tp:Tups H H') (k:∀ b u,b≠d→H b=some u→H' b=some u):Sg t H' p d1 d2 n so ho :=
 ⟨let ⟨dx,e⟩:=g.ins; ⟨dx,k _ _ h1 e⟩,g.so.keep tp (fun u e=>k _ _ h2 e),g.ho.keep (fun u e=>k _ _ h3 e)⟩
theorem Sg.same {t:Adr} {H H':Hp} {p d1 d2:Addr} {n:Nat} {so:Str→Option Seat} {ho:Seat→Option Str} (g:Sg t H p d1 d2 n so ho) (s:Same H H'):Sg t H' p d1 d2 n so ho :=
 ⟨let ⟨dx,e⟩:=g.ins; ⟨dx,s _ _ e⟩,g.so.keep (Same.tups s) (fun u e=>s _ _ e),g.ho.keep (fun u e=>s _ _ e)⟩
theorem Sg.le {t:Adr} {H:Hp} {p d1 d2:Addr} {n k:Nat} {so:Str→Option Seat} {ho:Seat→Option Str} (g:Sg t H p d1 d2 n so ho) (h:n≤k):Sg t H p d1 d2 k so ho:=⟨g.ins,g.so.le h,g.ho.le h⟩
def KB (H H':Hp) (d1 d2:Addr):Prop:=∀ b u,b≠d1→b≠d2→H b=some u→H' b=some u
def xll (t:Adr):Sp:=fun vs H Q _=>∃ (p dx:Addr),vs=[.ref p]∧H p=some (.ins t.C_ak dx [])∧∀ H' d1 d2,H d1=none→H d2=none→(∀ b u,b≠p→H b=some u→H' b=some u)→Sg t H' p d1 d2 0 (fun _=>none) (fun _=>none)→Q .non H'
structure xl0 (room:Str→List Seat) (so:Str→Option Seat) (asked:Seat→Option Str) (rk:Str→Nat) (name:Str):Prop where
 rm:∀ s a,asked s=some a→s ∈ room a
 no:∀ s a,asked s=some a→so a=none→a=name
 up:∀ s a,asked s=some a→∀ s1,so a=some s1→∃ a1,asked s1=some a1∧rk a1 < rk a
 le:∀ s a,asked s=some a→rk a≤20
def xnl (t:Adr):Sp:=fun vs H Q _=>∃ (p d1 d2 d3 q:Addr) (n m:Nat) (room:Str→List Seat) (so:Str→Option Seat) (ho asked:Seat→Option Str) (rk:Str→Nat) (name a:Str) (s:Seat),vs=[.ref p,.ref d3,.ref q]∧H q=some (.tup (xbt s))∧Sg t H p d1 d2 n so ho∧HoD H d3 m asked∧d3≠d2∧n≤600∧Kp.Mt room so ho∧ho s=none∧asked s=some a∧xl0 room so asked rk name ∧
 ∀ H' so' ho',KB H H' d1 d2→(∀ b,H b=none→H' b=none)→Sg t H' p d1 d2 (n + 30) so' ho'→Kp.Mt room so' ho'→(∀ z,(so' z).isSome=(decide (z=name) || (so z).isSome))→Kp.Rch (Kp.kstep room so ho) (.hand so ho asked s) (.fin so' ho')→Q .non H'
section
variable {P:Program} {w:World} {K:PySem.W.Frag} {mg:Str→Option Value} {base:Heap} {t:Adr}
theorem ok_u (T:Txt w K mg t):FnOk true P w K mg base (CXo P w) 1 t.f_u t.d_u ["self"] (xll t):=by
 refine T.F_u.okn (k:=0) sc_u (fun vs H Q E h=>?_) (fun cdv A outer s H vs Q E hr h=>?_)
 ·obtain ⟨p,dx,rfl,_⟩:=h
  rfl
 ·obtain ⟨p,dx,rfl,h⟩:=h
  refine ⟨_,xb (xc6 (pv 0) (xhc) rfl)
   (xn (xc6 (pv 0) (xe7) rfl)),?_⟩
  obtain ⟨hp,q⟩:=h
  refine fun d1 hd1=>?_
  have n1:p≠d1:=xf hp hd1
  refine ⟨_,rfl,p,_,dx,_,rfl,(by rw [xh n1]; exact hp),T.c_ak,T.n_av,(by show 0 < 1000; decide),fun d2 hd2=>?_⟩
  have n2:p≠d2:=xf xg hd2
  have n3:d1≠d2:=xf (by rw [xh (Ne.symm n1)]; exact xg) hd2
  refine ⟨_,rfl,p,_,dx,_,rfl,(by rw [xh n2]; exact xg),T.c_ak,T.n_au,(by show 1 < 1000; decide),?_⟩
  have hd2':H d2=none:=by
   have z:=hd2
   rw [xh (Ne.symm n2),xh (Ne.symm n3)] at z
   exact z
  refine q _ d1 d2 hd1 hd2' (fun b u nb e=>?_) ⟨⟨dx,xg⟩,⟨[],?_,Nat.le_refl _,fun nm=>⟨fun _=>rfl,fun s z=>(nomatch z)⟩⟩,⟨[],?_,Nat.le_refl _,fun s=>rfl⟩⟩
  ·rw [xh nb,xh (xf e hd2'),xh nb,xh (xf e hd1)]
   exact e
  ·rw [xh (Ne.symm n1),xh n3,xh (Ne.symm n1)]
   exact xg
  ·rw [xh (Ne.symm n2)]
   exact xg
theorem ok_j (T:Txt w K mg t):FnOk true P w K mg base (CXo P w) 1 t.f_j t.d_j ["self", "asked_by", "free_seat"] (xnl t):=by
 refine T.F_j.okn (k:=0) sc_j (fun vs H Q E h=>?_) (fun cdv A outer s H vs Q E hr h=>?_)
 ·obtain ⟨p,d1,d2,d3,q0,n,m,room,so,ho,asked,rk,name,a0,s0,rfl,_⟩:=h
  rfl
 ·obtain ⟨p,d1,d2,d3,q0,n,m,room,so,ho,asked,rk,name,a0,s0,rfl,h⟩:=h
  refine ⟨_,xb (xt (i:=3) sc_j.nd rfl (Or.inl rfl) (pv 2))
   (xn (xhm PassesOwn.never (xw xm7 (pv 3) (xj3) (x6 _)) (xb (xt (i:=4) sc_j.nd rfl (Or.inl rfl) (xdn (xbg hr) (pv 1) (pv 3) (fun _ _=>rfl)))
   (xb (xt (i:=5) sc_j.nd rfl (Or.inl rfl) (xk4 (xbg hr) (xah (pv 0) rfl) (pv 4) ⟨rfl,rfl,rfl,rfl⟩))
   (xb (xc4 (xbg hr) (xah (pv 0) rfl) (pv 4) (pv 3) rfl)
   (xb (xc4 (xbg hr) (xah (pv 0) rfl) (pv 3) (pv 4) rfl)
   (xn (xt (i:=3) sc_j.nd rfl (Or.inl rfl) (pv 5))))))))),?_⟩
  obtain ⟨hq0,sg,had,n32,n600,mt,hs0,as0,ch,q⟩:=h
  refine ⟨_,rfl,?_⟩
  refine ⟨fun k σ H1=>∃ v3 v4 v5,σ=[some (.ref p),some (.ref d3),some (.ref q0),some v3,v4,v5]∧KB H H1 d1 d2∧(∀ b,H b=none→H1 b=none)∧((v3=.non∧k=0∧∃ so' ho',Sg t H1 p d1 d2 (n + 30) so' ho'∧Kp.Mt room so' ho'∧(∀ z,(so' z).isSome=(decide (z=name) || (so z).isSome))∧Kp.Rch (Kp.kstep room so ho) (.hand so ho asked s0) (.fin so' ho'))∨∃ (qs:Addr) (s:Seat) (a:Str) (so1:Str→Option Seat) (ho1:Seat→Option Str) (n1:Nat),v3=.ref qs∧H1 qs=some (.tup (xbt s))∧asked s=some a∧k=rk a + 1∧Kp.Hand room (fun z=>(so z).isSome) so1 ho1 s∧(∀ b,rk b≤rk a→so1 b=so b)∧Sg t H1 p d1 d2 n1 so1 ho1∧n1 + rk a≤n + 20∧Kp.Rch (Kp.kstep room so ho) (.hand so ho asked s0) (.hand so1 ho1 asked s)),⟨rk a0 + 1,_,_,_,rfl,fun b u _ _ e=>e,fun b e=>e,.inr ⟨q0,s0,a0,so,ho,n,rfl,hq0,as0,rfl,mt.hand hs0,fun _ _=>rfl,sg,(by have:=ch.le _ _ as0; omega),.refl _⟩⟩,?_⟩
  rintro k σ H1 ⟨v3,v4,v5,rfl,kb,fr,cs⟩
  refine ⟨_,rfl,rfl,_,rfl,?_⟩
  rcases cs with ⟨rfl,rfl,so',ho',sg',mt',dm',rc'⟩ | ⟨qs,s,a,so1,ho1,n1,rfl,hqs,asd,rfl,hand,low,sg1,nb,rc1⟩
  ·exact ifN (by decide) (q H1 so' ho' kb fr sg' mt' dm' rc')
  ·refine ifP (by rw [decide_eq_false (fun z=>nomatch z)]; rfl) ⟨fun σ' H'=>∃ k',k' < rk a + 1∧∃ v3 v4 v5,σ'=[some (.ref p),some (.ref d3),some (.ref q0),some v3,v4,v5]∧KB H H' d1 d2∧(∀ b,H b=none→H' b=none)∧((v3=.non∧k'=0∧∃ so' ho',Sg t H' p d1 d2 (n + 30) so' ho'∧Kp.Mt room so' ho'∧(∀ z,(so' z).isSome=(decide (z=name) || (so z).isSome))∧Kp.Rch (Kp.kstep room so ho) (.hand so ho asked s0) (.fin so' ho'))∨∃ (qs:Addr) (s:Seat) (a:Str) (so1:Str→Option Seat) (ho1:Seat→Option Str) (n1:Nat),v3=.ref qs∧H' qs=some (.tup (xbt s))∧asked s=some a∧k'=rk a + 1∧Kp.Hand room (fun z=>(so z).isSome) so1 ho1 s∧(∀ b,rk b≤rk a→so1 b=so b)∧Sg t H' p d1 d2 n1 so1 ho1∧n1 + rk a≤n + 20∧Kp.Rch (Kp.kstep room so ho) (.hand so ho asked s0) (.hand so1 ho1 asked s)),fun σ' H' z=>z,?_⟩
   obtain ⟨dx1,hp1⟩:=sg1.ins
   obtain ⟨ka,hka,_⟩:=id had
   obtain ⟨k1,hk1,_⟩:=id sg1.so
   obtain ⟨k2,hk2,_⟩:=id sg1.ho
   obtain ⟨k10,hk10,_⟩:=id sg.so
   obtain ⟨k20,hk20,_⟩:=id sg.ho
   have n31:d3≠d1:=xak hka hk10 (fun z=>nomatch z)
   have n12:d1≠d2:=xak hk1 hk2 (fun z=>nomatch z)
   have had1:=had.keep (H':=H1) (fun u e=>kb _ _ n31 n32 e)
   have gt:=had1.get hqs
   rw [asd] at gt
   refine ⟨_,rfl,_,rfl,d3,.str a,rfl,gt,?_⟩
   have lowa:=low a (Nat.le_refl _)
   have rma:=ch.rm _ _ asd
   have np1:p≠d1:=xak hp1 hk1 (fun z=>nomatch z)
   have np2:p≠d2:=xak hp1 hk2 (fun z=>nomatch z)
   -- the two puts
   obtain ⟨H2,dp2,so2,kk2,tp2,fr2⟩:=sg1.so.put (by omega) hqs a
   have hp2:=kk2 _ _ np1 hp1
   have hqs2:=tp2 _ _ hqs
   have ho2:=sg1.ho.keep (H':=H2) (fun u e=>kk2 _ _ (Ne.symm n12) e)
   obtain ⟨H3,dp3,ho3,kk3,tp3,fr3⟩:=ho2.put (by omega) hqs2 a
   have so3:=so2.keep tp3 (fun u e=>kk3 _ _ n12 e)
   have hp3:=kk3 _ _ np2 hp2
   have kb3:KB H H3 d1 d2:=fun b u b1 b2 e=>kk3 _ _ b2 (kk2 _ _ b1 (kb _ _ b1 b2 e))
   have fr03:∀ b,H b=none→H3 b=none:=fun b e=>fr3 _ (fr2 _ (fr _ e))
   have sg3:Sg t H3 p d1 d2 (n1 + 1) (Kp.upd1 so1 a s) (Kp.upd1 ho1 s a):=⟨⟨dx1,hp3⟩,so3,ho3⟩
   rcases sg1.so.get a with ⟨e0,g0⟩ | ⟨s1,q1,e1,g1,hq1⟩
   ·refine ⟨_,rfl,p,_,dx1,_,_,rfl,hp1,T.c_ak,T.n_av,lkSo,d1,rfl,.inl ⟨k1,.inl hk1⟩,_,rfl,none,g0,?_⟩
    refine ⟨_,rfl,_,rfl,p,_,dx1,_,_,rfl,hp1,T.c_ak,T.n_av,lkSo,_,rfl,d1,H2,rfl,dp2,?_⟩
    refine ⟨_,rfl,_,rfl,p,_,dx1,_,_,rfl,hp2,T.c_ak,T.n_au,lkHo,_,rfl,d2,H3,rfl,dp3,?_⟩
    have an:a=name:=ch.no _ _ asd (by rw [← lowa]; exact e0)
    obtain ⟨mt3,dm3⟩:=hand.last rma e0
    exact ⟨_,rfl,0,by omega,_,_,_,rfl,kb3,fr03,.inl ⟨rfl,rfl,_,_,sg3.le (by omega),mt3,(fun z=>by rw [dm3 z,an]),.step rc1 (Kp.k_fin asd e0)⟩⟩
   ·refine ⟨_,rfl,p,_,dx1,_,_,rfl,hp1,T.c_ak,T.n_av,lkSo,d1,rfl,.inl ⟨k1,.inl hk1⟩,_,rfl,some (.ref q1),g1,?_⟩
    refine ⟨_,rfl,_,rfl,p,_,dx1,_,_,rfl,hp1,T.c_ak,T.n_av,lkSo,_,rfl,d1,H2,rfl,dp2,?_⟩
    refine ⟨_,rfl,_,rfl,p,_,dx1,_,_,rfl,hp2,T.c_ak,T.n_au,lkHo,_,rfl,d2,H3,rfl,dp3,?_⟩
    obtain ⟨a1,as1,lt⟩:=ch.up _ _ asd s1 (by rw [← lowa]; exact e1)
    refine ⟨_,rfl,rk a1 + 1,by omega,_,_,_,rfl,kb3,fr03,.inr ⟨q1,s1,a1,_,_,n1 + 1,rfl,tp3 _ _ (tp2 _ _ hq1),as1,rfl,hand.step rma e1,fun b hb=>?_,sg3,by omega,.step rc1 (Kp.k_hand asd e1)⟩⟩
    have nba:b≠a:=fun z=>by rw [z] at hb; omega
    show Kp.upd1 so1 a s b=so b
    unfold Kp.upd1
    rw [if_neg nba]
    exact low b (by omega)
end
end S35
set_option maxRecDepth 100000
set_option maxHeartbeats 4000000
namespace S35
open PySem L2 XL PyProof.Rows
structure Bf (room:Str→List Seat) (ho:Seat→Option Str) (name:Str) (crowd:List Str) (al:List Seat) (asked:Seat→Option Str):Prop where
 cr:crowd.length=al.length + 1
 c0:crowd[0]?=some name
 hd:∀ (j:Nat) (s:Seat),al[j]?=some s→∃ h,crowd[j + 1]?=some h∧ho s=some h
 nd:al.Nodup
 no:∀ s,s ∉ al→asked s=none
 ak:∀ (j:Nat) (s:Seat),al[j]?=some s→∃ k a,k≤j∧crowd[k]?=some a∧asked s=some a∧s ∈ room a
theorem xpj {α:Type} {l:List α} (nd:l.Nodup) {i j:Nat} (hi:i < l.length) (hj:j < l.length) (e:l[i]=l[j]):i=j:=by
 rcases Nat.lt_trichotomy i j with h | h | h
 ·exact absurd e (List.pairwise_iff_getElem.mp nd i j hi hj h)
 ·exact h
 ·exact absurd e.symm (List.pairwise_iff_getElem.mp nd j i hj hi h)
section
variable {room:Str→List Seat} {so:Str→Option Seat} {ho asked:Seat→Option Str} {name:Str} {crowd:List Str} {al:List Seat}
theorem Bf.start:Bf room ho name [name] [] (fun _=>none):=⟨rfl,rfl,fun j s e=>by simp at e,List.nodup_nil,fun _ _=>rfl,fun j s e=>by simp at e⟩
theorem Bf.at_ (b:Bf room ho name crowd al asked) (mt:Kp.Mt room so ho) {k:Nat} {a:Str} (e:crowd[k]?=some a):(k=0∧a=name)∨∃ j s,k=j + 1∧al[j]?=some s∧so a=some s:=by
 cases k with
 | zero =>
  left
  rw [b.c0] at e
  exact ⟨rfl,(Option.some.inj e).symm⟩
 | succ j =>
  right
  have lt:j < al.length:=by
   have:=(List.getElem?_eq_some_iff.mp e).1
   have:=b.cr
   omega
  obtain ⟨h,e1,e2⟩:=b.hd j _ (List.getElem?_eq_getElem lt)
  rw [e] at e1
  cases e1
  exact ⟨j,_,rfl,List.getElem?_eq_getElem lt,(mt.iff _ _).mpr e2⟩
theorem Bf.inj (b:Bf room ho name crowd al asked) (mt:Kp.Mt room so ho) (sn:so name=none) {k l:Nat} {a:Str} (e:crowd[k]?=some a) (e':crowd[l]?=some a):k=l:=by
 rcases b.at_ mt e with ⟨rfl,rfl⟩ | ⟨j,s,rfl,h1,h2⟩ <;> rcases b.at_ mt e' with ⟨rfl,h⟩ | ⟨j',s',rfl,h1',h2'⟩
 ·rfl
 ·rw [sn] at h2'
  cases h2'
 ·rw [h,sn] at h2
  cases h2
 ·rw [h2] at h2'
  cases h2'
  obtain ⟨x,hx⟩:=List.getElem?_eq_some_iff.mp h1
  obtain ⟨y,hy⟩:=List.getElem?_eq_some_iff.mp h1'
  have:=(xpj b.nd x y (by rw [hx,hy]))
  omega
theorem Bf.nodup (b:Bf room ho name crowd al asked) (mt:Kp.Mt room so ho) (sn:so name=none):crowd.Nodup:=by
 refine List.pairwise_iff_getElem.mpr fun i j hi hj lt e=>?_
 have:=b.inj mt sn (List.getElem?_eq_getElem hi) (by rw [e]; exact List.getElem?_eq_getElem hj)
 omega
theorem Bf.add (b:Bf room ho name crowd al asked) {i:Nat} {a h:Str} {s:Seat} (ea:crowd[i]?=some a) (ra:s ∈ room a) (ns:s ∉ al) (hh:ho s=some h):Bf room ho name (crowd ++ [h]) (al ++ [s]) (Kp.upd1 asked s a):=by
 have cr:=b.cr
 have il:=(List.getElem?_eq_some_iff.mp ea).1
 have lft:∀ {k:Nat} {x:Str},crowd[k]?=some x→(crowd ++ [h])[k]?=some x:=fun {k x} e=>by
  rw [List.getElem?_append_left (List.getElem?_eq_some_iff.mp e).1]
  exact e
 refine ⟨by rw [List.length_append,List.length_append,cr]; rfl,lft b.c0,fun j z e=>?_,?_,fun z nz=>?_,fun j z e=>?_⟩
 ·by_cases c:j < al.length
  ·rw [List.getElem?_append_left c] at e
   obtain ⟨h',e1,e2⟩:=b.hd j z e
   exact ⟨h',lft e1,e2⟩
  ·have jl:=(List.getElem?_eq_some_iff.mp e).1
   rw [List.length_append,List.length_singleton] at jl
   have:j=al.length:=by omega
   subst this
   rw [List.getElem?_append_right (Nat.le_refl _),Nat.sub_self] at e
   cases e
   refine ⟨h,?_,hh⟩
   rw [← cr,List.getElem?_append_right (Nat.le_refl _),Nat.sub_self]
   rfl
 ·rw [List.nodup_append]
  exact ⟨b.nd,by simp,fun x hx y hy e=>ns (by rw [List.mem_singleton.mp hy] at e; exact e ▸ hx)⟩
 ·unfold Kp.upd1
  rw [if_neg (fun e=>nz (by rw [e]; exact List.mem_append_right _ (List.mem_singleton.mpr rfl)))]
  exact b.no z fun y=>nz (List.mem_append_left _ y)
 ·by_cases c:j < al.length
  ·rw [List.getElem?_append_left c] at e
   obtain ⟨k,x,e1,e2,e3,e4⟩:=b.ak j z e
   refine ⟨k,x,e1,lft e2,?_,e4⟩
   unfold Kp.upd1
   rw [if_neg (fun y=>ns (by rw [← y]; exact List.mem_of_getElem? e))]
   exact e3
  ·have jl:=(List.getElem?_eq_some_iff.mp e).1
   rw [List.length_append,List.length_singleton] at jl
   have:j=al.length:=by omega
   subst this
   rw [List.getElem?_append_right (Nat.le_refl _),Nat.sub_self] at e
   cases e
   refine ⟨i,a,by omega,lft ea,?_,ra⟩
   unfold Kp.upd1
   rw [if_pos rfl]
theorem Bf.chain (b:Bf room ho name crowd al asked) (mt:Kp.Mt room so ho) (sn:so name=none) (c20:crowd.length≤20) {i:Nat} {a:Str} {s:Seat} (ea:crowd[i]?=some a) (ra:s ∈ room a) (ns:s ∉ al):xl0 room so (Kp.upd1 asked s a) (fun z=>crowd.idxOf z) name:=by
 have ix:∀ {k:Nat} {x:Str},crowd[k]?=some x→crowd.idxOf x=k:=fun {k x} e=>by
  have m:=List.mem_of_getElem? e
  have lt:=List.idxOf_lt_length_of_mem m
  refine b.inj mt sn (a:=x) ?_ e
  rw [List.getElem?_eq_getElem lt,List.getElem_idxOf]
 have key:∀ s' a',Kp.upd1 asked s a s'=some a'→s' ∈ room a'∧∃ k,crowd[k]?=some a':=fun s' a' e=>by
  unfold Kp.upd1 at e
  split at e
  ·rename_i h
   cases e
   rw [h]
   exact ⟨ra,i,ea⟩
  ·by_cases h:s' ∈ al
   ·obtain ⟨j,hj,ej⟩:=List.getElem_of_mem h
    obtain ⟨k,x,e1,e2,e3,e4⟩:=b.ak j s' (by rw [List.getElem?_eq_getElem hj,ej])
    rw [e] at e3
    cases e3
    exact ⟨e4,k,e2⟩
   ·rw [b.no s' h] at e
    cases e
 refine ⟨fun s' a' e=>(key s' a' e).1,fun s' a' e z=>?_,fun s' a' e s1 z=>?_,fun s' a' e=>?_⟩
 ·obtain ⟨_,k,ek⟩:=key s' a' e
  rcases b.at_ mt ek with ⟨_,h⟩ | ⟨j,s2,_,_,h⟩
  ·exact h
  ·rw [z] at h
   cases h
 ·obtain ⟨_,k,ek⟩:=key s' a' e
  rcases b.at_ mt ek with ⟨_,h⟩ | ⟨j,s2,rfl,hj,h⟩
  ·rw [h,sn] at z
   cases z
  ·rw [z] at h
   cases h
   obtain ⟨k2,a2,e1,e2,e3,_⟩:=b.ak j s1 hj
   refine ⟨a2,?_,?_⟩
   ·unfold Kp.upd1
    rw [if_neg (fun y=>ns (by rw [← y]; exact List.mem_of_getElem? hj))]
    exact e3
   ·show crowd.idxOf a2 < crowd.idxOf a'
    rw [ix e2,ix ek]
    omega
 ·obtain ⟨_,k,ek⟩:=key s' a' e
  show crowd.idxOf a'≤20
  rw [ix ek]
  have:=(List.getElem?_eq_some_iff.mp ek).1
  omega
theorem Bf.done (b:Bf room ho name crowd al asked) (mt:Kp.Mt room so ho) (sn:so name=none) (all:∀ (k:Nat) (a:Str),crowd[k]?=some a→∀ s ∈ room a,s ∈ al):∃ hs,crowd=name :: hs∧Kp.Crowd room so name hs:=by
 have nd:=b.nodup mt sn
 cases crowd with
 | nil =>
  have:=b.c0
  simp at this
 | cons x hs =>
  have e0:=b.c0
  rw [List.getElem?_cons_zero] at e0
  cases e0
  refine ⟨hs,rfl,nd,fun h hh=>?_,fun c hc s hs'=>?_⟩
  ·obtain ⟨j,hj,ej⟩:=List.getElem_of_mem hh
   have e:(name :: hs)[j + 1]?=some h:=by
    rw [List.getElem?_cons_succ,List.getElem?_eq_getElem hj,ej]
   rcases b.at_ mt e with ⟨z,_⟩ | ⟨_,s,_,_,z⟩
   ·omega
   ·rw [z]
    rfl
  ·obtain ⟨k,hk,ek⟩:=List.getElem_of_mem hc
   have sal:=all k c (by rw [List.getElem?_eq_getElem hk,ek]) s hs'
   obtain ⟨j,hj,ej⟩:=List.getElem_of_mem sal
   obtain ⟨h,e1,e2⟩:=b.hd j s (by rw [List.getElem?_eq_getElem hj,ej])
   rw [List.getElem?_cons_succ] at e1
   exact ⟨h,List.mem_of_getElem? e1,(mt.iff _ _).mpr e2⟩
end
def RmD (H:Hp) (d:Addr) (names:List Str) (room:Str→List Seat):Prop:=∃ kvs:List (Key × V),H d=some (.dK kvs)∧∀ nm ∈ names,∃ l rs,valV kvs (.inr nm)=some (.ref l)∧H l=some (.lst (rs.map V.ref))∧xap H (room nm) rs
def xm2 (t:Adr):Sp:=fun vs H Q _=>∃ (p d1 d2 rm:Addr) (n:Nat) (room:Str→List Seat) (so:Str→Option Seat) (ho:Seat→Option Str) (names:List Str) (name:Str),vs=[.ref p,.str name,.ref rm]∧Sg t H p d1 d2 n so ho∧n≤600∧Kp.Mt room so ho∧so name=none∧RmD H rm names room∧rm≠d1∧(∀ z,(so z).isSome→z ∈ names)∧name ∈ names∧names.length≤12∧(∀ z,(room z).length≤32) ∧
 (∀ H' l so' ho',KB H H' d1 d2→H l=none→H' l=some (.lst [])→Sg t H' p d1 d2 (n + 30) so' ho'→Kp.Mt room so' ho'→(∀ z,(so' z).isSome=(decide (z=name) || (so z).isSome))→Kp.Rch (Kp.kstep room so ho) (.ask [name] (fun _=>none) 0 0) (.fin so' ho')→Q (.ref l) H') ∧
 ∀ H' l hs,Same H H'→H l=none→H' l=some (.lst ((name :: hs).map V.str))→Kp.Crowd room so name hs→Kp.Rch (Kp.kstep room so ho) (.ask [name] (fun _=>none) 0 0) (.out (name :: hs))→Q (.ref l) H'
def ICr (t:Adr) (H:Hp) (p d1 d2 rm lc da:Addr) (n:Nat) (room:Str→List Seat) (so:Str→Option Seat) (ho:Seat→Option Str) (name:Str) (i j:Nat) (crowd:List Str) (al:List Seat) (asked:Seat→Option Str) (H1:Hp):Prop :=
 Same H H1∧H1 lc=some (.lst (crowd.map V.str))∧HoD H1 da al.length asked∧Bf room ho name crowd al asked∧(∀ (k:Nat) (a:Str),k < i→crowd[k]?=some a→∀ s ∈ room a,s ∈ al)∧Kp.Rch (Kp.kstep room so ho) (.ask [name] (fun _=>none) 0 0) (.ask crowd asked i j)
section
variable {P:Program} {w:World} {K:PySem.W.Frag} {mg:Str→Option Value} {base:Heap} {t:Adr}
theorem ok_c (T:Txt w K mg t):FnOk true P w K mg base (CXo P w) 2 t.f_c t.d_c ["self", "name", "rooms"] (xm2 t):=by
 refine T.F_c.okn (k:=1) sc_c (fun vs H Q E h=>?_) (fun cdv A outer s H vs Q E hr h=>?_)
 ·obtain ⟨p,d1,d2,rm,n,room,so,ho,names,name,rfl,_⟩:=h
  rfl
 ·obtain ⟨p,d1,d2,rm,n,room,so,ho,names,name,rfl,h⟩:=h
  refine ⟨_,xb (xt (i:=3) sc_c.nd rfl (Or.inl rfl) (xbh (xa (pv 1) (xj))))
   (xb (xt (i:=4) sc_c.nd rfl (Or.inl rfl) (xe7))
   (xb (xt (i:=5) sc_c.nd rfl (Or.inl rfl) (xk))
   (xb (xhm PassesOwn.never (xw xep (pv 5) (xav xa2 rfl T.n_len boot_len (xa (pv 3) (xj))) (x6 _)) (xb (xt (i:=6) sc_c.nd rfl (Or.inl rfl) (xan xas (pv 3) (pv 5) (fun _ _=>rfl)))
   (xb (xb0 PassesOwn.never rfl (xal (xdn (xbg hr) (pv 2) (pv 6) (fun _ _=>rfl))) (xr (i:=7) sc_c.nd rfl (Or.inl rfl)) (xn (xag (xdd (xdf (xbg hr) (pv 7) (pv 4))) (xb (xc4 (xbg hr) (pv 4) (pv 7) (pv 6) rfl)
   (xb (xag (xdd (xdf (xbg hr) (pv 7) (xah (pv 0) rfl))) (xb (xaf (xaw (pv 0) T.c_ak T.m_j (ok_j T) (hr.mono (by decide)) T.b_j .nil xm (xa (pv 4) (xa (pv 7) (xj)))))
   (xn (xaa (xbh (xj))))) (x9))
   (xn (xaf (xcy PySem.F.plainAttrs_list PySem.F.slot_list_append PySem.F.type_list_append xbz (pv 3) (xa (xdn (xbg hr) (xah (pv 0) rfl) (pv 7) (fun _ _=>rfl)) (xj))))))) (x9))))
   (xn (xoe (i:=5) sc_c.nd rfl (Or.inl rfl) (xk) xmn)))))
   (xn (xaa (pv 3)))))),?_⟩
  obtain ⟨sg,n600,mt,sn,rmd,nrm,dom,nin,n12,r32,qA,qB⟩:=h
  refine ⟨_,rfl,(by show 1≤sizeLine; decide),fun lc hlc=>?_⟩
  have s1:Same H (upd H lc (.lst [.str name])):=xo (Same.refl _) hlc
  have g1:upd H lc (.lst [.str name]) lc=some (.lst [.str name]):=xg
  revert s1 g1
  generalize upd H lc (.lst [.str name])=H1
  intro s1 g1
  refine fun da hda=>?_
  have s2:Same H1 (upd H1 da (.dT [])):=xo (Same.refl _) hda
  have g2:upd H1 da (.dT []) da=some (.dT []):=xg
  revert s2 g2
  generalize upd H1 da (.dT [])=H2
  intro s2 g2
  have fda:=s1.free hda
  have s02:=s1.trans s2
  have ncd:lc≠da:=xf g1 hda
  have cl12:∀ {crowd:List Str} {al:List Seat} {asked:Seat→Option Str},Bf room ho name crowd al asked→crowd.length≤12:=fun {crowd al asked} b=>by
   refine Nat.le_trans ((b.nodup mt sn).length_le_of_subset (l₂:=names) fun x hx=>?_) n12
   obtain ⟨k,hk,ek⟩:=List.getElem_of_mem hx
   rcases b.at_ mt (show crowd[k]?=some x by rw [List.getElem?_eq_getElem hk,ek]) with ⟨_,e⟩ | ⟨j,s,_,_,e⟩
   ·rw [e]
    exact nin
   ·exact dom x (by rw [e]; rfl)
  refine ⟨fun m σ H3=>∃ (i:Nat) (crowd:List Str) (al:List Seat) (asked:Seat→Option Str) (v6 v7:Option V),m + i=13∧i≤crowd.length∧σ=[some (.ref p),some (.str name),some (.ref rm),some (.ref lc),some (.ref da),some (.int (i:Int)),v6,v7]∧ICr t H p d1 d2 rm lc da n room so ho name i 0 crowd al asked H3,⟨13,0,[name],[],fun _=>none,_,_,rfl,Nat.zero_le _,rfl,s02,s2 _ _ g1,⟨[],g2,Nat.le_refl _,fun _=>rfl⟩,.start,(fun k a z=>by omega),.refl _⟩,?_⟩
  rintro m σ H3 ⟨i,crowd,al,asked,v6,v7,mi,il,rfl,s3,hlc3,had3,bf,cov,rc3⟩
  have c12:=cl12 bf
  refine ⟨_,rfl,_,rfl,lc,_,rfl,.inl (SqL.of hlc3),_,_,rfl,rfl,_,rfl,ite2 (fun y=>?_) (fun y=>?_)⟩
  ·have ic:i < crowd.length:=by
    have z:=of_decide_eq_true y
    rw [List.length_map] at z
    omega
   refine ⟨fun σ' H'=>∃ m',m' < m∧∃ (i:Nat) (crowd:List Str) (al:List Seat) (asked:Seat→Option Str) (v6 v7:Option V),m' + i=13∧i≤crowd.length∧σ'=[some (.ref p),some (.str name),some (.ref rm),some (.ref lc),some (.ref da),some (.int (i:Int)),v6,v7]∧ICr t H p d1 d2 rm lc da n room so ho name i 0 crowd al asked H',fun σ' H' z=>z,?_⟩
   obtain ⟨a,ea⟩:∃ a,crowd[i]?=some a:=⟨_,List.getElem?_eq_getElem ic⟩
   refine ⟨_,rfl,_,rfl,lc,_,_,.str a,rfl,rfl,SqL.of hlc3,xds (by rw [List.getElem?_map,ea]; rfl),?_⟩
   have ain:a ∈ names:=by
    rcases bf.at_ mt ea with ⟨_,e⟩ | ⟨j,s,_,_,e⟩
    ·rw [e]
     exact nin
    ·exact dom a (by rw [e]; rfl)
   obtain ⟨kr,hkr,fr⟩:=id rmd
   obtain ⟨lr,rs,er,hlr,slr⟩:=fr a ain
   have gr:=DGet.k (k:=.inr a) (s3 _ _ hkr)
   rw [er] at gr
   refine ⟨_,rfl,_,rfl,rm,.ref lr,rfl,gr,lr,rfl,⟨_,SqL.of (s3 _ _ hlr)⟩,?_⟩
   have rll:=slr.len
   refine xcp (xs:=rs.map V.ref) (Pv:=fun j σ H4=>∃ (crowd:List Str) (al:List Seat) (asked:Seat→Option Str) (v7:Option V),crowd[i]?=some a∧(∀ s ∈ (room a).take j,s ∈ al)∧σ=[some (.ref p),some (.str name),some (.ref rm),some (.ref lc),some (.ref da),some (.int (i:Int)),some (.str a),v7]∧ICr t H p d1 d2 rm lc da n room so ho name i j crowd al asked H4) ⟨crowd,al,asked,_,ea,(fun s hs=>by rw [List.take_zero] at hs; exact nomatch hs),rfl,s3,hlc3,had3,bf,cov,rc3⟩ ?_ ?_ ?_
   ·rintro j σ H4 _ ⟨_,_,_,_,_,_,rfl,s4,_⟩
    exact SqL.of (s4 _ _ hlr)
   ·rintro j x σ H4 hx ⟨crowd,al,asked,v7,ea,tk,rfl,s4,hlc4,had4,bf,cov,rc4⟩
    rw [List.getElem?_map,Option.map_eq_some_iff] at hx
    obtain ⟨qs,hqs,rfl⟩:=hx
    obtain ⟨s,hs,hsq⟩:=slr.get hqs
    have hsq4:=s4 _ _ hsq
    have ra:s ∈ room a:=List.mem_of_getElem? hs
    have c12:=cl12 bf
    have cr:=bf.cr
    have tk1:∀ al':List Seat,(∀ z ∈ al,z ∈ al')→s ∈ al'→∀ z ∈ (room a).take (j + 1),z ∈ al':=fun al' h1 h2 z hz=>by
     rw [List.take_add_one,hs] at hz
     rcases List.mem_append.mp hz with hz | hz
     ·exact h1 _ (tk z hz)
     ·have hz:z ∈ [s]:=hz
      rw [List.mem_singleton.mp hz]
      exact h2
    refine ⟨_,rfl,_,rfl,da,_,rfl,had4.get hsq4,_,rfl,ite2 (fun y=>?_) (fun y=>?_)⟩
    ·have ns:s ∉ al:=fun z=>by
      obtain ⟨k,hk,ek⟩:=List.getElem_of_mem z
      obtain ⟨_,x,_,_,e3,_⟩:=bf.ak k s (by rw [List.getElem?_eq_getElem hk,ek])
      rw [e3] at y
      exact absurd y (by simp)
     obtain ⟨H5,dp5,had5,k5,tp5,fr5⟩:=had4.put (by omega) hsq4 a
     refine ⟨_,rfl,_,rfl,_,rfl,da,H5,rfl,dp5,?_⟩
     have sg4:=sg.same s4
     obtain ⟨dx4,hp4⟩:=sg4.ins
     obtain ⟨kq1,hkq1,_⟩:=id sg.so
     obtain ⟨kq2,hkq2,_⟩:=id sg.ho
     obtain ⟨dxp,hpp⟩:=sg.ins
     have sg5:Sg t H5 p d1 d2 n so ho:=sg4.keep (d:=da) (xf hpp fda) (xf hkq1 fda) (xf hkq2 fda) tp5 k5
     have hp5:=k5 _ _ (xf hpp fda) hp4
     have hsq5:=tp5 _ _ hsq4
     have hlc5:=k5 _ _ ncd hlc4
     have s5:Same H H5:=fun c u e=>k5 _ _ (xf e fda) (s4 _ _ e)
     refine ⟨_,rfl,_,rfl,p,_,dx4,_,_,rfl,hp5,T.c_ak,T.n_au,lkHo,d2,_,rfl,sg5.ho.get hsq5,_,rfl,ite2 (fun y2=>?_) (fun y2=>?_)⟩
     ·have hn:ho s=none:=by
       cases e:ho s with
       | none=>rfl
       | some h =>
        rw [e] at y2
        exact absurd y2 (by simp)
      refine ⟨_,rfl,p,dx4,_,rfl,hp5,xkw (by decide +kernel),_,rfl,_,rfl,p,d1,d2,da,qs,n,_,room,so,ho,_,_,name,a,s,rfl,hsq5,sg5,had5,Ne.symm (xf hkq2 fda),n600,mt,hn,by unfold Kp.upd1; rw [if_pos rfl],bf.chain mt sn (by omega) ea ra ns,fun H6 so' ho' kb6 fr6 sg6 mt6 dm6 rc6=>?_⟩
      refine ⟨(by show 0≤sizeLine; decide),fun l hl=>?_⟩
      have kb:KB H H6 d1 d2:=fun b u b1 b2 e=>kb6 _ _ b1 b2 (s5 _ _ e)
      have hl0:H l=none:=by
       cases e:H l with
       | none=>rfl
       | some u =>
        by_cases e1:l=d1
        ·obtain ⟨kz,hkz,_⟩:=sg6.so
         rw [← e1,hl] at hkz
         cases hkz
        ·by_cases e2:l=d2
         ·obtain ⟨kz,hkz,_⟩:=sg6.ho
          rw [← e2,hl] at hkz
          cases hkz
         ·rw [kb _ _ e1 e2 e] at hl
          cases hl
      exact qA _ l so' ho' (fun b u b1 b2 e=>by rw [xh (xf e hl0)]; exact kb _ _ b1 b2 e) hl0 xg (sg6.same (xo (Same.refl _) hl)) mt6 dm6 ((Kp.Rch.step rc4 (Kp.k_free ea hs (bf.no s ns) hn)).trans rc6)
     ·obtain ⟨h,eh⟩:∃ h,ho s=some h:=by
       cases e:ho s with
       | none =>
        rw [e] at y2
        exact absurd rfl y2
       | some h=>exact ⟨h,rfl⟩
      have gh:=sg5.ho.get hsq5
      rw [eh] at gh
      refine ⟨_,rfl,.inl ⟨rfl,_,SqL.of hlc5⟩,_,rfl,p,_,dx4,_,_,rfl,hp5,T.c_ak,T.n_au,lkHo,_,rfl,d2,.str h,rfl,gh,lc,_,_,rfl,rfl,hlc5,?_,?_⟩
      ·rw [List.length_map]
       exact Nat.lt_of_le_of_lt (by omega:_≤1000) (by decide)
      have kl:∀ c u,c≠lc→H5 c=some u→upd H5 lc (.lst (crowd.map V.str ++ [.str h])) c=some u:=fun c u nc e=>by rw [xh nc]; exact e
      refine ⟨crowd ++ [h],al ++ [s],_,_,?_,tk1 _ (fun z hz=>List.mem_append_left _ hz) (List.mem_append_right _ (List.mem_singleton.mpr rfl)),rfl,fun c u e=>kl _ _ (xf e hlc) (s5 _ _ e),by rw [xg,List.map_append]; rfl,?_,bf.add ea ra ns eh,fun k b hk eb z hz=>?_,.step rc4 (Kp.k_grow ea hs (bf.no s ns) eh)⟩
      ·rw [List.getElem?_append_left (List.getElem?_eq_some_iff.mp ea).1]
       exact ea
      ·rw [List.length_append,List.length_singleton]
       exact had5.keep (fun u e=>kl _ _ (Ne.symm ncd) e)
      ·have hkl:k < crowd.length:=by
        have:=(List.getElem?_eq_some_iff.mp ea).1
        omega
       rw [List.getElem?_append_left hkl] at eb
       exact List.mem_append_left _ (cov k b hk eb z hz)
    ·have sin:s ∈ al:=by
      by_cases z:s ∈ al
      ·exact z
      ·rw [bf.no s z] at y
       exact absurd rfl y
     obtain ⟨kk,hkk,ekk⟩:=List.getElem_of_mem sin
     obtain ⟨_,xx,_,_,e3,_⟩:=bf.ak kk s (by rw [List.getElem?_eq_getElem hkk,ekk])
     exact ⟨crowd,al,asked,_,ea,tk1 al (fun z hz=>hz) sin,rfl,s4,hlc4,had4,bf,cov,.step rc4 (Kp.k_old ea hs e3)⟩
   ·rintro σ H4 ⟨crowd,al,asked,v7,ea,tk,rfl,s4,hlc4,had4,bf,cov,rc4⟩
    rw [List.length_map,rll] at rc4
    rw [List.length_map,rll,List.take_of_length_le (Nat.le_refl _)] at tk
    have ic:=(List.getElem?_eq_some_iff.mp ea).1
    refine ⟨_,rfl,_,_,rfl,rfl,m - 1,by omega,i + 1,crowd,al,asked,_,_,by omega,by omega,rfl,s4,hlc4,had4,bf,fun k b hk eb z hz=>?_,.step rc4 (Kp.k_next ea (List.getElem?_eq_none (Nat.le_refl _)))⟩
    by_cases c:k=i
    ·subst c
     rw [ea] at eb
     cases eb
     exact tk z hz
    ·exact cov k b (by omega) eb z hz
  ·have ic:i=crowd.length:=by
    by_cases z:i < crowd.length
    ·exact absurd (decide_eq_true (by rw [List.length_map]; omega)) y
    ·omega
   obtain ⟨hs,ec,cw⟩:=bf.done mt sn fun k a e z hz=>cov k a (by have:=(List.getElem?_eq_some_iff.mp e).1; omega) e z hz
   refine ⟨_,rfl,qB H3 lc hs s3 hlc (by rw [← ec]; exact hlc3) cw ?_⟩
   rw [← ec]
   exact .step rc3 (Kp.k_end (List.getElem?_eq_none (by omega)))
end
end S35
set_option maxRecDepth 100000
set_option maxHeartbeats 4000000
namespace S35
open PySem L2 XL PyProof.Rows
inductive Run (room:Str→List Seat):List Str→(Str→Option Seat)→(Seat→Option Str)→List (Str × List Str)→Prop
 | nil:Run room [] (fun _=>none) (fun _=>none) []
 | inn {ns:List Str} {so so':Str→Option Seat} {ho ho':Seat→Option Str} {cs:List (Str × List Str)} {nm:Str} (r:Run room ns so ho cs) (mt:Kp.Mt room so' ho') (dm:∀ z,(so' z).isSome=(decide (z=nm) || (so z).isSome)) (rc:Kp.Rch (Kp.kstep room so ho) (.ask [nm] (fun _=>none) 0 0) (.fin so' ho')):Run room (ns ++ [nm]) so' ho' cs
 | out {ns:List Str} {so:Str→Option Seat} {ho:Seat→Option Str} {cs:List (Str × List Str)} {nm:Str} {hs:List Str} (r:Run room ns so ho cs) (c:Kp.Crowd room so nm hs) (rc:Kp.Rch (Kp.kstep room so ho) (.ask [nm] (fun _=>none) 0 0) (.out (nm :: hs))):Run room (ns ++ [nm]) so ho (cs ++ [(nm,hs)])
theorem Run.mt {room:Str→List Seat} {ns:List Str} {so:Str→Option Seat} {ho:Seat→Option Str} {cs:List (Str × List Str)} (r:Run room ns so ho cs):Kp.Mt room so ho:=by
 induction r with
 | nil=>exact ⟨fun n s=>⟨fun z=>(nomatch z),fun z=>(nomatch z)⟩,fun n s z=>(nomatch z)⟩
 | inn _ mt _ _ _=>exact mt
 | out _ _ _ ih=>exact ih
theorem Run.outs {room:Str→List Seat} {ns:List Str} {so:Str→Option Seat} {ho:Seat→Option Str} {cs:List (Str × List Str)} (r:Run room ns so ho cs):(∀ z ∈ cs.map (·.1),z ∈ ns)∧cs.length≤ns.length:=by
 induction r with
 | nil=>exact ⟨fun _ z=>(nomatch z),Nat.le_refl _⟩
 | inn _ _ _ _ ih=>exact ⟨fun z hz=>List.mem_append_left _ (ih.1 z hz),by rw [List.length_append]; have:=ih.2; omega⟩
 | out _ _ _ ih =>
  refine ⟨fun z hz=>?_,by rw [List.length_append,List.length_append]; have:=ih.2; simp; omega⟩
  rw [List.map_append] at hz
  rcases List.mem_append.mp hz with hz | hz
  ·exact List.mem_append_left _ (ih.1 z hz)
  ·exact List.mem_append_right _ hz
theorem Run.dom {room:Str→List Seat} {ns:List Str} {so:Str→Option Seat} {ho:Seat→Option Str} {cs:List (Str × List Str)} (r:Run room ns so ho cs) (nd:ns.Nodup):∀ z,(so z).isSome=(decide (z ∈ ns) && !decide (z ∈ cs.map (·.1))):=by
 induction r with
 | nil=>intro z; rfl
 | @inn ns so so' ho ho' cs nm r mt dm rc ih =>
  intro z
  rw [List.nodup_append] at nd
  rw [dm z,ih nd.1 z]
  by_cases e:z=nm
  ·subst e
   have h1:z ∉ ns:=fun h=>nd.2.2 z h z (List.mem_singleton.mpr rfl) rfl
   have h2:z ∉ cs.map (·.1):=fun h=>h1 (r.outs.1 z h)
   simp [h2]
  ·simp [e]
 | @out ns so ho cs nm hs r c rc ih =>
  intro z
  rw [List.nodup_append] at nd
  rw [ih nd.1 z]
  by_cases e:z=nm
  ·subst e
   have h1:z ∉ ns:=fun h=>nd.2.2 z h z (List.mem_singleton.mpr rfl) rfl
   simp [h1]
  ·rw [List.map_append]
   have e1:decide (z ∈ ns ++ [nm])=decide (z ∈ ns):=by simp [e]
   have e2:decide (z ∈ cs.map (·.1) ++ [(nm,hs)].map (·.1))=decide (z ∈ cs.map (·.1)):=by
    rw [decide_eq_decide,List.mem_append]
    exact ⟨fun h=>h.elim id fun h=>absurd (List.mem_singleton.mp h) e,.inl⟩
   rw [e1,e2]
theorem Run.det {room:Str→List Seat} {l:List Str} {so:Str→Option Seat} {ho:Seat→Option Str} {cs:List (Str × List Str)} (r:Run room l so ho cs):∀ {so2:Str→Option Seat} {ho2:Seat→Option Str} {cs2:List (Str × List Str)},Run room l so2 ho2 cs2→so=so2∧ho=ho2∧cs=cs2:=by
 have inv:∀ {l:List Str} {so:Str→Option Seat} {ho:Seat→Option Str} {cs:List (Str × List Str)},Run room l so ho cs→(l=[]∧so=(fun _=>none)∧ho=(fun _=>none)∧cs=[])∨(∃ ns nm so0 ho0,l=ns ++ [nm]∧Run room ns so0 ho0 cs∧Kp.Rch (Kp.kstep room so0 ho0) (.ask [nm] (fun _=>none) 0 0) (.fin so ho))∨∃ ns nm hs cs0,l=ns ++ [nm]∧Run room ns so ho cs0∧Kp.Rch (Kp.kstep room so ho) (.ask [nm] (fun _=>none) 0 0) (.out (nm :: hs))∧cs=cs0 ++ [(nm,hs)]:=fun r=>by
  cases r with
  | nil=>exact .inl ⟨rfl,rfl,rfl,rfl⟩
  | inn r mt dm rc=>exact .inr (.inl ⟨_,_,_,_,rfl,r,rc⟩)
  | out r c rc=>exact .inr (.inr ⟨_,_,_,_,rfl,r,rc,rfl⟩)
 induction r with
 | nil =>
  intro so2 ho2 cs2 r2
  rcases inv r2 with ⟨_,rfl,rfl,rfl⟩ | ⟨ns,nm,_,_,e,_⟩ | ⟨ns,nm,_,_,e,_⟩
  ·exact ⟨rfl,rfl,rfl⟩
  ·exact absurd e.symm (by simp)
  ·exact absurd e.symm (by simp)
 | @inn ns so so' ho ho' cs nm r mt dm rc ih =>
  intro so2 ho2 cs2 r2
  rcases inv r2 with ⟨e,_⟩ | ⟨ns2,nm2,so0,ho0,e,r0,rc0⟩ | ⟨ns2,nm2,hs,cs0,e,r0,rc0,_⟩
  ·exact absurd e (by simp)
  ·obtain ⟨rfl,e2⟩:=List.append_inj' e rfl
   cases e2
   obtain ⟨rfl,rfl,rfl⟩:=ih r0
   have z:=rc.det rfl rc0 rfl
   injection z with z1 z2
   exact ⟨z1,z2,rfl⟩
  ·obtain ⟨rfl,e2⟩:=List.append_inj' e rfl
   cases e2
   obtain ⟨rfl,rfl,rfl⟩:=ih r0
   have z:=rc.det rfl rc0 rfl
   cases z
 | @out ns so ho cs nm hs r c rc ih =>
  intro so2 ho2 cs2 r2
  rcases inv r2 with ⟨e,_⟩ | ⟨ns2,nm2,so0,ho0,e,r0,rc0⟩ | ⟨ns2,nm2,hs2,cs0,e,r0,rc0,rfl⟩
  ·exact absurd e (by simp)
  ·obtain ⟨rfl,e2⟩:=List.append_inj' e rfl
   cases e2
   obtain ⟨rfl,rfl,rfl⟩:=ih r0
   have z:=rc.det rfl rc0 rfl
   cases z
  ·obtain ⟨rfl,e2⟩:=List.append_inj' e rfl
   cases e2
   obtain ⟨rfl,rfl,rfl⟩:=ih r0
   have z:=rc.det rfl rc0 rfl
   injection z with z1
   injection z1 with _ z2
   exact ⟨rfl,rfl,by rw [z2]⟩
def xa3 (ns:List Str) (cs:List (Str × List Str)):List Str:=ns.filter fun z=>!decide (z ∈ cs.map (·.1))
theorem Run.gone {room:Str→List Seat} {ns:List Str} {so:Str→Option Seat} {ho:Seat→Option Str} {cs:List (Str × List Str)} (r:Run room ns so ho cs) (nd:ns.Nodup):cs.map (·.1)=ns.filter fun z=>!decide (z ∈ xa3 ns cs):=by
 have f1:(fun z=>!decide (z ∈ xa3 ns cs))=fun z=>!(decide (z ∈ ns) && !decide (z ∈ cs.map (·.1))):=by
  funext z
  congr 1
  rw [Bool.eq_iff_iff]
  unfold xa3
  simp [List.mem_filter]
 rw [f1]
 clear f1
 induction r with
 | nil=>rfl
 | @inn ns so so' ho ho' cs nm r mt dm rc ih =>
  rw [List.nodup_append] at nd
  have h1:nm ∉ ns:=fun h=>nd.2.2 nm h nm (List.mem_singleton.mpr rfl) rfl
  have h2:nm ∉ cs.map (·.1):=fun h=>h1 (r.outs.1 nm h)
  rw [List.filter_append,List.filter_cons_of_neg (by simp [h2]),List.filter_nil,List.append_nil]
  refine (ih nd.1).trans (List.filter_congr fun z hz=>?_)
  simp [hz]
 | @out ns so ho cs nm hs r c rc ih =>
  rw [List.nodup_append] at nd
  have h1:nm ∉ ns:=fun h=>nd.2.2 nm h nm (List.mem_singleton.mpr rfl) rfl
  rw [List.filter_append,List.filter_cons_of_pos (by simp),List.filter_nil,List.map_append]
  congr 1
  refine (ih nd.1).trans (List.filter_congr fun z hz=>?_)
  have:z≠nm:=fun e=>h1 (e ▸ hz)
  simp [hz,this]
def xao (ps:List Pt) (srt:List Seat) (nm:Str):List Seat:=match ps.find? (fun p=>decide (p.nm=nm)) with
 | some p=>srt.filter (xch p)
 | none=>[]
theorem xiz {ps:List Pt} {srt:List Seat} (h:srt.length≤32) (nm:Str):(xao ps srt nm).length≤32:=by
 unfold xao
 split
 ·exact Nat.le_trans (List.length_filter_le _ _) h
 ·exact Nat.zero_le _
inductive CrL (H:Hp):List (Str × List Str)→List Addr→Prop
 | nil:CrL H [] []
 | cons {c:Str × List Str} {q:Addr} {cs:List (Str × List Str)} {qs:List Addr} (h:H q=some (.lst ((c.1 :: c.2).map V.str))) (r:CrL H cs qs):CrL H (c :: cs) (q :: qs)
theorem CrL.len {H:Hp} {cs:List (Str × List Str)} {qs:List Addr} (h:CrL H cs qs):qs.length=cs.length:=by
 induction h with
 | nil=>rfl
 | cons _ _ ih=>simp [ih]
theorem CrL.snoc {H:Hp} {cs:List (Str × List Str)} {qs:List Addr} (h:CrL H cs qs) {c:Str × List Str} {q:Addr} (e:H q=some (.lst ((c.1 :: c.2).map V.str))):CrL H (cs ++ [c]) (qs ++ [q]):=by
 induction h with
 | nil=>exact .cons e .nil
 | cons h _ ih=>exact .cons h ih
theorem CrL.get {H:Hp} {cs:List (Str × List Str)} {qs:List Addr} (h:CrL H cs qs) {i:Nat} {q:Addr} (e:qs[i]?=some q):∃ c,cs[i]?=some c∧H q=some (.lst ((c.1 :: c.2).map V.str)):=by
 induction h generalizing i with
 | nil=>simp at e
 | @cons c q' cs qs h _ ih =>
  cases i with
  | zero =>
   simp at e
   subst e
   exact ⟨c,rfl,h⟩
  | succ j=>exact ih (by simpa using e)
theorem CrL.keep {H H':Hp} {cs:List (Str × List Str)} {qs:List Addr} (h:CrL H cs qs) (k:∀ q ∈ qs,∀ u,H q=some u→H' q=some u):CrL H' cs qs:=by
 induction h with
 | nil=>exact .nil
 | cons h r ih=>exact .cons (k _ (List.mem_cons_self ..) _ h) (ih fun q hq=>k q (List.mem_cons_of_mem _ hq))
def xk8 (t:Adr):Sp:=fun vs H Q _=>∃ (a ln dp do_:Addr) (w h:Nat) (ps:List Pt) (ss srt:List Seat) (names:List Str),vs=[.ref a,.ref ln]∧Dr t H a dp do_ w h ps ss srt∧H ln=some (.lst (names.map V.str))∧(∀ nm ∈ names,∃ p ∈ ps,p.nm=nm)∧names.Nodup∧names.length≤12 ∧
 ∀ H' l qs cs so ho,Same H H'→H l=none→H' l=some (.lst (qs.map V.ref))→CrL H' cs qs→(∀ q ∈ qs,H q=none)→Run (xao ps srt) names so ho cs→Q (.ref l) H'
theorem xmu {ps:List Pt} {nm:Str} (h:∃ p ∈ ps,p.nm=nm):∃ p,ps.find? (fun z=>decide (z.nm=nm))=some p∧p ∈ ps∧p.nm=nm:=by
 cases e:ps.find? (fun z=>decide (z.nm=nm)) with
 | none =>
  obtain ⟨p,hp,en⟩:=h
  exact absurd (decide_eq_true en) (List.find?_eq_none.mp e p hp)
 | some p=>exact ⟨p,rfl,List.mem_of_find?_eq_some e,of_decide_eq_true (List.find?_some (p:=fun z:Pt=>decide (z.nm=nm)) e)⟩
def FRm (l2:Addr) (ps:List Pt) (srt:List Seat) (names:List Str) (i:Nat) (ys:List V) (H:Hp):Prop:=∃ L:List (Addr × Addr × Str × List Addr),ys=L.map (fun x=>V.ref x.1)∧L.length=i∧L.map (fun x=>x.2.2.1)=names.take i∧∀ x ∈ L,x.2.1≠l2∧x.1≠l2∧H x.1=some (.tup [.str x.2.2.1,.ref x.2.1])∧H x.2.1=some (.lst (x.2.2.2.map V.ref))∧xap H (xao ps srt x.2.2.1) x.2.2.2
theorem xig {d:Addr}:∀ (L:List (Str × Addr)) {H:Hp} {kvs:List (Key × V)},H d=some (.dK kvs)→kvs.length + L.length≤1000 →
    ∃ H2 kvs2,xer d H (L.map fun x=>(V.str x.1,V.ref x.2)) H2∧H2 d=some (.dK kvs2)∧(∀ b u,b≠d→H b=some u→H2 b=some u)∧((L.map (·.1)).Nodup→∀ x ∈ L,valV kvs2 (.inr x.1)=some (.ref x.2))∧∀ k,(∀ x ∈ L,k≠.inr x.1)→valV kvs2 k=valV kvs k
  | [],H,kvs,e,_=>⟨H,kvs,.nil,e,fun _ _ _ e=>e,fun _ _ z=>(nomatch z),fun _ _=>rfl⟩
  | x :: L,H,kvs,e,hn=>by
    rw [List.length_cons] at hn
    have lp:=xbm kvs (.inr x.1) (.ref x.2)
    obtain ⟨H2,kvs2,dps,e2,k2,v2,o2⟩:=xig L (H:=upd H d (.dK (putK kvs (.inr x.1) (.ref x.2)))) xg (by omega)
    refine ⟨H2,kvs2,.cons (DPut.k (k:=.inr x.1) e (Nat.lt_of_le_of_lt (by omega:_≤1000) (by decide))) dps,e2,fun b u nb eb=>k2 _ _ nb (by rw [xh nb]; exact eb),fun nd y hy=>?_,fun k hk=>?_⟩
    · rw [List.map_cons,List.nodup_cons] at nd
      rcases List.mem_cons.mp hy with rfl | hy
      · rw [o2 _ (fun z hz e=>nd.1 (by rw [Sum.inr.inj e]; exact List.mem_map.mpr ⟨z,hz,rfl⟩)),xdz,if_pos rfl]
      · exact v2 nd.2 y hy
    · rw [o2 k fun y hy=>hk y (List.mem_cons_of_mem _ hy),xdz,if_neg (hk x (List.mem_cons_self ..))]
section
variable {P:Program} {w:World} {K:PySem.W.Frag} {mg:Str→Option Value} {base:Heap} {t:Adr}
theorem xjo (T:Txt w K mg t):FnOk true P w K mg base (CXo P w) 7 t.f_crowds t.d_crowds ["picture", "names"] (xk8 t):=by
 refine T.F_crowds.okn (k:=6) xcd (fun vs H Q E h=>?_) (fun cdv A outer s H vs Q E hr h=>?_)
 ·obtain ⟨a,ln,dp,do_,w',h',ps,ss,srt,names,rfl,_⟩:=h
  rfl
 ·obtain ⟨a,ln,dp,do_,w',h',ps,ss,srt,names,rfl,h⟩:=h
  refine ⟨_,xb (xt (i:=2) xcd.nd rfl (Or.inl rfl) (xcf (xh4 rfl (xni hr)) rfl T.n_dict boot_dict (xa (xbb rfl (xat (zs:=["name"]) (ys:=["picture"]) (fr:=[0]) (N0:=["picture", "names", "rooms", "seating", "found", "name", "crowd"]) (sc0:=xi xb2) (by decide +kernel) rfl rfl rfl) (xal (pv 1)) (fun _ _ _ _ _ ow nd=>xr (i:=0) nd rfl (Or.inl (ow _ (by simp))) (Or.inr (ow _ (by simp)))) (xar (by decide)) (fun _ _ _ _ _=>xbk) (fun _ _ _ _ _=>xay (xa (pv 0) (xa (xaw (pv 1) T.c_k T.m_h (ok_h T) (hr.mono (by decide)) T.b_h .nil xm (xa (pv 0) (xj))) (xj))))) (xj))))
   (xb (xt (i:=3) xcd.nd rfl (Or.inl rfl) (xlc T.k_ak (ok_u T) (hr.mono (by decide)) rfl T.g_ak T.b_u .nil xm))
   (xb (xt (i:=4) xcd.nd rfl (Or.inl rfl) (xbh (xj)))
   (xb (xb0 PassesOwn.never rfl (xal (pv 1)) (xr (i:=5) xcd.nd rfl (Or.inl rfl)) (xb (xt (i:=6) xcd.nd rfl (Or.inl rfl) (xaw (pv 3) T.c_ak T.m_c (ok_c T) (hr.mono (by decide)) T.b_c .nil xm (xa (pv 5) (xa (pv 2) (xj)))))
   (xn (xag (xln (pv 6) (fun _=>rfl)) (xn (xaf (xcy PySem.F.plainAttrs_list PySem.F.slot_list_append PySem.F.type_list_append xbz (pv 4) (xa (pv 6) (xj))))) (x9)))))
   (xn (xaa (pv 4)))))),?_⟩
  obtain ⟨dr,hln,nps,nnd,n12,q⟩:=h
  have s32:srt.length≤32:=by rw [dr.pm.length_eq]; exact dr.ok.2.1
  refine ⟨_,rfl,ln,rfl,⟨_,SqL.of hln⟩,fun l2 hl2=>?_⟩
  refine xfk (SqL.of hln) (by rw [List.length_map]; exact Nat.lt_of_le_of_lt (by omega:_≤1000) (by decide)) hl2 (FRm l2 ps srt names) (fun _ _=>⟨[],rfl,rfl,rfl,fun _ z=>(nomatch z)⟩) ?_ (fun i x ys H3 hx s3 el3 f3 N hN=>?_) (fun ys H3 s3 el3 ly3 f3=>?_)
  ·rintro i ys zs H3 H4 hz4 k4 ⟨L,e1,e2,e3,e4⟩
   refine ⟨L,e1,e2,e3,fun x hx=>?_⟩
   obtain ⟨a1,a2,a3,a4,a5⟩:=e4 x hx
   exact ⟨a1,a2,k4 _ _ a2 a3,k4 _ _ a1 a4,a5.keep (fun b xs e=>k4 _ _ (xak e hz4 (fun z=>nomatch z)) e)⟩
  ·rw [List.getElem?_map,Option.map_eq_some_iff] at hx
   obtain ⟨nm,hnm,rfl⟩:=hx
   obtain ⟨pt,hf,hpm,epn⟩:=xmu (nps nm (List.mem_of_getElem? hnm))
   subst epn
   have dr3:=dr.same s3
   obtain ⟨⟨dx3,hp3⟩,_⟩:=id dr3.pic
   refine ⟨_,rfl,_,rfl,a,dx3,_,rfl,hp3,xax (by decide +kernel),_,rfl,a,dp,do_,w',h',ps,ss,pt,rfl,dr3.pic,dr3.sts,dr.ok,dr.nm _ hpm,hf,fun H4 l4 srt' rs4 s4 fl4 pm4 lt4 e4 sl4=>?_⟩
   obtain rfl:srt'=srt:=xdl xec (pm4.trans dr.pm.symm) lt4 dr.lt
   refine ⟨(by show 2≤sizeLine; decide),fun u hu=>?_⟩
   have s5:Same H4 (upd H4 u (.tup [.str pt.nm,.ref l4])):=xo (Same.refl _) hu
   have g5:upd H4 u (.tup [.str pt.nm,.ref l4]) u=some (.tup [.str pt.nm,.ref l4]):=xg
   revert s5 g5
   generalize upd H4 u (.tup [.str pt.nm,.ref l4])=H5
   intro s5 g5
   have e34:∀ c u,H3 c=some u→H5 c=some u:=fun c u e=>s5 _ _ (s4 _ _ e)
   refine hN _ _ (s4.trans s5) ?_
   obtain ⟨L,e1,e2,e3,e6⟩:=f3
   refine ⟨L ++ [(u,l4,pt.nm,rs4)],by rw [e1,List.map_append]; rfl,by rw [List.length_append,e2]; rfl,?_,fun x hx=>?_⟩
   ·rw [List.map_append,e3,List.take_add_one,hnm]
    rfl
   ·rcases List.mem_append.mp hx with hx | hx
    ·obtain ⟨a1,a2,a3,a4,a5⟩:=e6 x hx
     exact ⟨a1,a2,e34 _ _ a3,e34 _ _ a4,a5.keep (fun b xs e=>e34 _ _ e)⟩
    ·rw [List.mem_singleton.mp hx]
     refine ⟨Ne.symm (xf el3 fl4),Ne.symm (xf (s4 _ _ el3) hu),g5,s5 _ _ e4,?_⟩
     have er:xao ps srt' pt.nm=srt'.filter (xch pt):=by
      unfold xao
      rw [hf]
     show xap H5 (xao ps srt' pt.nm) rs4
     rw [er]
     exact sl4.keep (Same.tups s5)
  rw [List.length_map] at f3
  obtain ⟨L,rfl,e2,e3,e4⟩:=f3
  rw [List.take_of_length_le (Nat.le_refl _)] at e3
  refine ⟨l2,L.map fun x=>(x.1,V.str x.2.2.1,V.ref x.2.1),rfl,(by rw [List.map_map]; exact el3),?_,fun d hd=>?_⟩
  ·intro p hp
   obtain ⟨x,hx,rfl⟩:=List.mem_map.mp hp
   exact (e4 x hx).2.2.1
  have fd:H d=none:=s3.free hd
  obtain ⟨H6,kvs6,dps,e6d,k6,v6,_⟩:=xig (d:=d) (L.map fun x=>(x.2.2.1,x.2.1)) (H:=upd H3 d (.dK [])) xg (by rw [List.length_map]; simp; omega)
  refine ⟨.dK [],H6,.inl rfl,?_,?_⟩
  ·rw [List.map_map] at dps ⊢
   exact dps
  have k36:∀ b u,H3 b=some u→H6 b=some u:=fun b u e=>k6 _ _ (xf e hd) (by rw [xh (xf e hd)]; exact e)
  have s06:Same H H6:=fun b u e=>k36 _ _ (s3 _ _ e)
  have rmd:RmD H6 d names (xao ps srt):=⟨kvs6,e6d,fun nm hnm=>by
   rw [← e3] at hnm
   obtain ⟨x,hx,rfl⟩:=List.mem_map.mp hnm
   obtain ⟨a1,a2,a3,a4,a5⟩:=e4 x hx
   refine ⟨x.2.1,x.2.2.2,v6 ?_ (x.2.2.1,x.2.1) (List.mem_map.mpr ⟨x,hx,rfl⟩),k36 _ _ a4,a5.keep (fun b xs e=>k36 _ _ e)⟩
   rw [List.map_map]
   exact e3 ▸ nnd⟩
  refine fun p dx hp hdx ne=>?_
  refine ⟨p,dx,rfl,xg,fun H8 d1 d2 hd1 hd2 k8 sg8=>⟨rfl,?_⟩⟩
  have up:∀ b,upd (upd H6 dx (.own p)) p (.ins t.C_ak dx []) b=none→H6 b=none:=fun b z=>by
   cases e:H6 b with
   | none=>rfl
   | some u=>rw [xh (xf e hp),xh (xf e hdx),e] at z; cases z
  have s68:Same H6 H8:=fun b u e=>k8 b u (xf e hp) (by rw [xh (xf e hp),xh (xf e hdx)]; exact e)
  have fd1:=up _ hd1
  have fd2:=up _ hd2
  refine ⟨(by show 0≤sizeLine; decide),fun lf hlf=>?_⟩
  have s9:Same H8 (upd H8 lf (.lst [])):=xo (Same.refl _) hlf
  have g9:upd H8 lf (.lst []) lf=some (.lst []):=xg
  revert s9 g9
  generalize upd H8 lf (.lst [])=H9
  intro s9 g9
  have s69:=s68.trans s9
  have s09:=s06.trans s69
  have nd1:d≠d1:=xf e6d fd1
  have nd2:d≠d2:=xf e6d fd2
  have sg9:=sg8.same s9
  obtain ⟨kz1,hkz1,_⟩:=id sg8.so
  obtain ⟨kz2,hkz2,_⟩:=id sg8.ho
  obtain ⟨dxz,hpz⟩:=id sg8.ins
  have nf1:lf≠d1:=Ne.symm (xf hkz1 hlf)
  have nf2:lf≠d2:=Ne.symm (xf hkz2 hlf)
  have nfp:lf≠p:=Ne.symm (xf hpz hlf)
  have flf:H6 lf=none:=s68.free hlf
  have room32:=xiz (ps:=ps) s32
  refine ⟨_,rfl,ln,rfl,⟨_,SqL.of (s09 _ _ hln)⟩,?_⟩
  refine xcp (xs:=names.map V.str) (Pv:=fun i σ H10=>∃ (v5 v6:Option V) (qs:List Addr) (cs:List (Str × List Str)) (so:Str→Option Seat) (ho:Seat→Option Str),σ=[some (.ref a),some (.ref ln),some (.ref d),some (.ref p),some (.ref lf),v5,v6]∧Same H6 H10∧H10 lf=some (.lst (qs.map V.ref))∧CrL H10 cs qs∧(∀ q ∈ qs,H6 q=none∧q≠d1∧q≠d2∧q≠p∧q≠lf)∧cs.length≤i∧Sg t H10 p d1 d2 (30 * i) so ho∧Run (xao ps srt) (names.take i) so ho cs) ⟨_,_,[],[],_,_,rfl,s69,g9,.nil,fun _ z=>(nomatch z),Nat.le_refl _,sg9,.nil⟩ ?_ ?_ ?_
  ·rintro i σ H10 _ ⟨_,_,_,_,_,_,rfl,s10,_⟩
   exact SqL.of (s10 _ _ (s06 _ _ hln))
  ·rintro i x σ H10 hx ⟨v5,v6,qs,cs,so,ho,rfl,s10,e10,cr10,fq,ci,sg10,run⟩
   rw [List.getElem?_map,Option.map_eq_some_iff] at hx
   obtain ⟨nm,hnm,rfl⟩:=hx
   have il:=(List.getElem?_eq_some_iff.mp hnm).1
   obtain ⟨dx10,hp10⟩:=sg10.ins
   have tk1:names.take (i + 1)=names.take i ++ [nm]:=by
    rw [List.take_add_one,hnm]
    rfl
   have tnd:(names.take (i + 1)).Nodup:=(List.take_sublist _ _).nodup nnd
   have dm:=run.dom ((List.take_sublist _ _).nodup nnd)
   have nni:nm ∉ names.take i:=fun z=>by
    rw [tk1,List.nodup_append] at tnd
    exact tnd.2.2 nm z nm (List.mem_singleton.mpr rfl) rfl
   have sn:so nm=none:=by
    have z:=dm nm
    rw [decide_eq_false nni,Bool.false_and] at z
    cases e:so nm with
    | none=>rfl
    | some s=>rw [e] at z; cases z
   have rmd10:RmD H10 d names (xao ps srt):=by
    obtain ⟨kv,e,f⟩:=id rmd
    exact ⟨kv,s10 _ _ e,fun z hz=>let ⟨l,rs,b1,b2,b3⟩:=f z hz; ⟨l,rs,b1,s10 _ _ b2,b3.keep (Same.tups s10)⟩⟩
   obtain ⟨kw1,hkw1,_⟩:=id sg10.so
   obtain ⟨kw2,hkw2,_⟩:=id sg10.ho
   refine ⟨_,rfl,p,dx10,_,rfl,hp10,xkw (by decide +kernel),_,rfl,_,rfl,p,d1,d2,d,30 * i,xao ps srt,so,ho,names,nm,rfl,sg10,by omega,run.mt,sn,rmd10,nd1,fun z hz=>?_,List.mem_of_getElem? hnm,n12,room32,?_,?_⟩
   ·rw [dm z,Bool.and_eq_true] at hz
    exact List.mem_of_mem_take (of_decide_eq_true hz.1)
   ·intro H11 l11 so' ho' kb fl11 e11 sg11 mt11 dm11 rc11
    refine ⟨_,rfl,_,.inl ⟨_,SqL.of e11,rfl⟩,ifN (by decide) ?_⟩
    have k11:∀ b u,H6 b=some u→H11 b=some u:=fun b u e=>kb _ _ (xf e fd1) (xf e fd2) (s10 _ _ e)
    refine ⟨_,_,qs,cs,so',ho',rfl,k11,kb _ _ nf1 nf2 e10,cr10.keep (fun z hz u e=>kb _ _ (fq z hz).2.1 (fq z hz).2.2.1 e),fq,by omega,sg11.le (by omega),?_⟩
    rw [tk1]
    exact .inn run mt11 dm11 rc11
   ·intro H11 l11 hs s11 fl11 e11 cw rc11
    refine ⟨_,rfl,_,.inl ⟨_,SqL.of e11,rfl⟩,ifP (by rfl) ?_⟩
    have e11f:=s11 _ _ e10
    refine ⟨_,rfl,.inl ⟨rfl,_,SqL.of e11f⟩,_,rfl,lf,_,_,rfl,rfl,e11f,?_,?_⟩
    ·rw [List.length_map,cr10.len]
     exact Nat.lt_of_le_of_lt (by omega:_≤1000) (by decide)
    have nl:l11≠lf:=Ne.symm (xf e10 fl11)
    have kl:∀ c u,c≠lf→H11 c=some u→upd H11 lf (.lst (qs.map V.ref ++ [.ref l11])) c=some u:=fun c u nc e=>by rw [xh nc]; exact e
    have tl:Tups H11 (upd H11 lf (.lst (qs.map V.ref ++ [.ref l11]))):=fun c xs e=>kl _ _ (xak e e11f (fun z=>nomatch z)) e
    refine ⟨_,_,qs ++ [l11],cs ++ [(nm,hs)],so,ho,rfl,fun c u e=>kl _ _ (xf e flf) (s11 _ _ (s10 _ _ e)),by rw [xg,List.map_append]; rfl,((cr10.keep (fun z hz u e=>s11 _ _ e)).keep (fun z hz u e=>kl _ _ (fq z hz).2.2.2.2 e)).snoc (kl _ _ nl e11),fun z hz=>?_,by rw [List.length_append,List.length_singleton]; omega,((sg10.same s11).keep (d:=lf) (Ne.symm nfp) (Ne.symm nf1) (Ne.symm nf2) tl kl).le (by omega),?_⟩
    ·rcases List.mem_append.mp hz with hz | hz
     ·exact fq z hz
     ·rw [List.mem_singleton.mp hz]
      exact ⟨s10.free fl11,Ne.symm (xf hkw1 fl11),Ne.symm (xf hkw2 fl11),Ne.symm (xf hp10 fl11),nl⟩
    ·rw [tk1]
     exact .out run cw rc11
  ·rintro σ H10 ⟨v5,v6,qs,cs,so,ho,rfl,s10,e10,cr10,fq,ci,sg10,run⟩
   rw [List.length_map,List.take_of_length_le (Nat.le_refl _)] at run
   exact ⟨_,rfl,q H10 lf qs cs so ho (s06.trans s10) (s06.free flf) e10 cr10 (fun z hz=>s06.free (fq z hz).1) run⟩
end
def xq (ps:List Pt):List Str:=ps.map (·.nm)
inductive OutL (H:Hp):List (Str × List Str)→List Addr→Prop
 | nil:OutL H [] []
 | cons {c:Str × List Str} {q l:Addr} {cs:List (Str × List Str)} {qs:List Addr} (h:H q=some (.tup [.str c.1,.ref l])) (hl:H l=some (.lst (c.2.map V.str))) (r:OutL H cs qs):OutL H (c :: cs) (q :: qs)
theorem OutL.len {H:Hp} {cs:List (Str × List Str)} {qs:List Addr} (h:OutL H cs qs):qs.length=cs.length:=by
 induction h with
 | nil=>rfl
 | cons _ _ _ ih=>simp [ih]
theorem OutL.get {H:Hp} {cs:List (Str × List Str)} {qs:List Addr} (h:OutL H cs qs) {i:Nat} {q:Addr} (e:qs[i]?=some q):∃ c l,cs[i]?=some c∧H q=some (.tup [.str c.1,.ref l])∧H l=some (.lst (c.2.map V.str)):=by
 induction h generalizing i with
 | nil=>simp at e
 | @cons c q' l cs qs h hl _ ih =>
  cases i with
  | zero =>
   simp at e
   subst e
   exact ⟨c,l,rfl,h,hl⟩
  | succ j=>exact ih (by simpa using e)
def FOu (H0:Hp) (l2:Addr) (cs:List (Str × List Str)) (i:Nat) (ys:List V) (H:Hp):Prop:=∃ L:List (Addr × Addr × Str × List Str),ys=L.map (fun x=>V.ref x.1)∧L.length=i∧L.map (fun x=>x.2.2)=cs.take i∧∀ x ∈ L,x.2.1≠l2∧x.1≠l2∧H x.1=some (.tup [.str x.2.2.1,.ref x.2.1])∧H x.2.1=some (.lst (x.2.2.2.map V.str))∧H0 x.2.1=none
def OutF (H0 H:Hp) (l:Addr) (cs:List (Str × List Str)) (qs:List Addr):Prop:=∃ L:List (Addr × Addr × Str × List Str),qs=L.map (fun x=>x.1)∧cs=L.map (fun x=>x.2.2)∧∀ x ∈ L,H0 x.2.1=none∧x.2.1≠l∧H x.1=some (.tup [.str x.2.2.1,.ref x.2.1])∧H x.2.1=some (.lst (x.2.2.2.map V.str))
theorem xjh {H:Hp}:∀ (L:List (Addr × Addr × Str × List Str)),(∀ x ∈ L,H x.1=some (.tup [.str x.2.2.1,.ref x.2.1])∧H x.2.1=some (.lst (x.2.2.2.map V.str)))→OutL H (L.map fun x=>x.2.2) (L.map fun x=>x.1)
 | [],_=>.nil
 | x :: L,h=>.cons (h x (List.mem_cons_self ..)).1 (h x (List.mem_cons_self ..)).2 (xjh L fun y hy=>h y (List.mem_cons_of_mem _ hy))
def xn0 (t:Adr):Sp:=fun vs H Q _=>∃ (a dp do_:Addr) (w h:Nat) (ps:List Pt) (ss srt:List Seat),vs=[.ref a]∧Dr t H a dp do_ w h ps ss srt∧(xq ps).Nodup ∧
 ∀ H' l qs cs so ho,Same H H'→H l=none→H' l=some (.lst (qs.map V.ref))→OutL H' cs qs→Run (xao ps srt) (xq ps) so ho cs→OutF H H' l cs qs→Q (.ref l) H'
def xoi (t:Adr):Sp:=fun vs H Q _=>∃ (a dp do_:Addr) (w h:Nat) (ps:List Pt) (ss srt:List Seat),vs=[.ref a]∧Dr t H a dp do_ w h ps ss srt∧(xq ps).Nodup ∧
 ∀ H' l cs so ho,Same H H'→H l=none→H' l=some (.lst ((xa3 (xq ps) cs).map V.str))→Run (xao ps srt) (xq ps) so ho cs→Q (.ref l) H'
theorem xo1 {α:V} {xs:List V}:cutV (α :: xs) (some 1) none=xs:=by
 unfold cutV
 simp [HT.sIx]
theorem xjt {a b:Str}:dEq (.str a) (.str b)=decide (a=b):=xf5 rfl rfl ⟨fun h=>DV.str.inj h,fun h=>by rw [h]⟩
section
variable {P:Program} {w:World} {K:PySem.W.Frag} {mg:Str→Option Value} {base:Heap} {t:Adr}
theorem ok_ah (T:Txt w K mg t):FnOk true P w K mg base (CXo P w) 8 t.f_ah t.d_ah ["picture"] (xn0 t):=by
 refine T.F_ah.okn (k:=7) sc_ah (fun vs H Q E h=>?_) (fun cdv A outer s H vs Q E hr h=>?_)
 ·obtain ⟨a,dp,do_,w',h',ps,ss,srt,rfl,_⟩:=h
  rfl
 ·obtain ⟨a,dp,do_,w',h',ps,ss,srt,rfl,h⟩:=h
  refine ⟨_,xb (xbn rfl (xat (zs:=["point"]) (ys:=[]) (fr:=[]) (N0:=["picture", "names"]) (sc0:=xi s_ah) (by decide +kernel) rfl rfl rfl) (xal (xbs (pv 0) T.c_k T.m_g (ok_g T) (hr.mono (by decide)) T.b_g .nil xm)) (fun _ _ _ _ _ ow nd=>xr (i:=0) nd rfl (Or.inl (ow _ (by simp))) (Or.inr (ow _ (by simp)))) (xar (by decide)) (fun _ _ _ _ _=>xbk) (fun _ _ _ _ _=>xan (r:=rIxT K) xbl (pv 0) (xk) (fun _ _=>rfl)) (j:=1) rfl (Or.inl rfl))
   (xn (xaa (xbb rfl (xat (zs:=["crowd"]) (ys:=[]) (fr:=[]) (N0:=["picture", "names"]) (sc0:=xi s_ah) (by decide +kernel) rfl rfl rfl) (xal (xv (xjo T) (hr.mono (by decide)) rfl T.g_crowds T.F_crowds.kp T.b_crowds .nil xm (xa (pv 0) (xa (pv 1) (xj))))) (fun _ _ _ _ _ ow nd=>xr (i:=0) nd rfl (Or.inl (ow _ (by simp))) (Or.inr (ow _ (by simp)))) (xar (by decide)) (fun _ _ _ _ _=>xbk) (fun _ _ _ _ _=>xay (xa (xan (r:=rIxL K) xas (pv 0) (xk) (fun _ _=>rfl)) (xa (xcb (r:=rSlL K) xc5 (pv 0) (xb4 (xk)) xdu) (xj))))))),?_⟩
  obtain ⟨dr,nnd,q⟩:=h
  have p12:=dr.pic.len
  obtain ⟨⟨dx,hpi⟩,_⟩:=id dr.pic
  refine ⟨_,rfl,a,dx,_,rfl,hpi,xax (by decide +kernel),a,dp,do_,w',h',ps,rfl,dr.pic,fun H1 l1 ds s1 e1 pt1=>?_⟩
  have dll:=pt1.len
  refine ⟨l1,rfl,⟨_,SqL.of e1⟩,fun l2 hl2=>?_⟩
  refine xbj (SqL.of e1) (by rw [List.length_map]; exact Nat.lt_of_le_of_lt (by omega:_≤1000) (by decide)) hl2 (fun i y _=>∃ p,ps[i]?=some p∧y=.str p.nm) (fun _ _ _ _ _ z=>z) (fun i x H2 hx s2 N hN=>?_) (fun ys H2 s2 e2 ly fy=>?_)
  ·rw [List.getElem?_map,Option.map_eq_some_iff] at hx
   obtain ⟨qa,hqa,rfl⟩:=hx
   obtain ⟨p,hp,hpq⟩:=pt1.get hqa
   exact ⟨_,rfl,qa,_,0,.str p.nm,rfl,rfl,SqT.of (s2 _ _ hpq),rfl,hN _ _ (Same.refl _) ⟨p,hp,rfl⟩⟩
  have ey:ys=(xq ps).map V.str:=by
   refine xbx (by rw [ly,List.length_map,dll]; unfold xq; rw [List.length_map]) fun i y b hy hb=>?_
   obtain ⟨p,hp,rfl⟩:=fy i y hy
   unfold xq at hb
   rw [List.getElem?_map,hp] at hb
   cases hb
   rfl
  rw [ey] at e2
  have s02:=s1.trans s2
  refine ⟨_,rfl,_,rfl,a,l2,dp,do_,w',h',ps,ss,srt,xq ps,rfl,dr.same s02,e2,fun nm hnm=>?_,nnd,by unfold xq; rw [List.length_map]; exact p12,fun H3 l3 qs cs so ho s3 fl3 e3 cr3 fq3 run=>?_⟩
  ·obtain ⟨p,hp,e⟩:=List.mem_map.mp hnm
   exact ⟨p,hp,e⟩
  have ol:=run.outs.2
  have nl:(xq ps).length=ps.length:=by unfold xq; rw [List.length_map]
  have qcl:=cr3.len
  have s03:=s02.trans s3
  refine ⟨l3,rfl,⟨_,SqL.of e3⟩,fun l4 hl4=>?_⟩
  refine xfk (SqL.of e3) (by rw [List.length_map]; exact Nat.lt_of_le_of_lt (by omega:_≤1000) (by decide)) hl4 (FOu H l4 cs) (fun _ _=>⟨[],rfl,rfl,rfl,fun _ z=>(nomatch z)⟩) ?_ (fun i x ys H5 hx s5 el5 f5 N hN=>?_) (fun ys H5 s5 el5 ly5 f5=>?_)
  ·rintro i ys zs H5 H6 hz k6 ⟨L,b1,b2,b3,b4⟩
   refine ⟨L,b1,b2,b3,fun x hx=>?_⟩
   obtain ⟨a1,a2,a3,a4,a5⟩:=b4 x hx
   exact ⟨a1,a2,k6 _ _ a2 a3,k6 _ _ a1 a4,a5⟩
  ·rw [List.getElem?_map,Option.map_eq_some_iff] at hx
   obtain ⟨qa,hqa,rfl⟩:=hx
   obtain ⟨c,hc,hcq⟩:=cr3.get hqa
   have hcq5:=s5 _ _ hcq
   refine ⟨_,rfl,qa,_,0,.str c.1,rfl,rfl,SqL.of hcq5,xds (j:=0) rfl,_,rfl,1,rfl,qa,_,rfl,SqL.of hcq5,fun lh hlh=>?_⟩
   rw [List.map_cons,xo1]
   have s6:Same H5 (upd H5 lh (.lst (c.2.map V.str))):=xo (Same.refl _) hlh
   have g6:upd H5 lh (.lst (c.2.map V.str)) lh=some (.lst (c.2.map V.str)):=xg
   revert s6 g6
   generalize upd H5 lh (.lst (c.2.map V.str))=H6
   intro s6 g6
   refine ⟨(by show 2≤sizeLine; decide),fun u hu=>?_⟩
   have s7:Same H6 (upd H6 u (.tup [.str c.1,.ref lh])):=xo (Same.refl _) hu
   have g7:upd H6 u (.tup [.str c.1,.ref lh]) u=some (.tup [.str c.1,.ref lh]):=xg
   revert s7 g7
   generalize upd H6 u (.tup [.str c.1,.ref lh])=H7
   intro s7 g7
   refine hN _ _ (s6.trans s7) ?_
   obtain ⟨L,b1,b2,b3,b4⟩:=f5
   refine ⟨L ++ [(u,lh,c)],by rw [b1,List.map_append]; rfl,by rw [List.length_append,b2]; rfl,?_,fun x hx=>?_⟩
   ·rw [List.map_append,b3,List.take_add_one,hc]
    rfl
   ·rcases List.mem_append.mp hx with hx | hx
    ·obtain ⟨a1,a2,a3,a4,a5⟩:=b4 x hx
     exact ⟨a1,a2,s7 _ _ (s6 _ _ a3),s7 _ _ (s6 _ _ a4),a5⟩
    ·rw [List.mem_singleton.mp hx]
     exact ⟨Ne.symm (xf el5 hlh),Ne.symm (xf (s6 _ _ el5) hu),g7,s7 _ _ g6,(s03.trans s5).free hlh⟩
  rw [List.length_map] at f5
  obtain ⟨L,rfl,b2,b3,b4⟩:=f5
  rw [qcl,List.take_of_length_le (Nat.le_refl _)] at b3
  have ol5:=xjh L fun x hx=>⟨(b4 x hx).2.2.1,(b4 x hx).2.2.2.1⟩
  rw [b3] at ol5
  exact q H5 l4 (L.map fun x=>x.1) cs so ho (s03.trans s5) (s03.free hl4) (by rw [el5,List.map_map]; rfl) ol5 run ⟨L,rfl,b3.symm,fun x hx=>⟨(b4 x hx).2.2.2.2,(b4 x hx).1,(b4 x hx).2.2.1,(b4 x hx).2.2.2.1⟩⟩
theorem xft (T:Txt w K mg t):FnOk true P w K mg base (CXo P w) 9 t.f_kept t.d_kept ["picture"] (xoi t):=by
 refine T.F_kept.okn (k:=8) xim (fun vs H Q E h=>?_) (fun cdv A outer s H vs Q E hr h=>?_)
 ·obtain ⟨a,dp,do_,w',h',ps,ss,srt,rfl,_⟩:=h
  rfl
 ·obtain ⟨a,dp,do_,w',h',ps,ss,srt,rfl,h⟩:=h
  refine ⟨_,xb (xt (i:=1) xim.nd rfl (Or.inr rfl) (xbb rfl (xat (zs:=["name", "holders"]) (ys:=[]) (fr:=[]) (N0:=["picture", "out"]) (sc0:=xi xcn) (by decide +kernel) rfl rfl rfl) (xal (xv (ok_ah T) (hr.mono (by decide)) rfl T.g_ah T.F_ah.kp T.b_ah .nil xm (xa (pv 0) (xj)))) (fun _ _ _ _ _ ow nd=>(xby rfl (xad (xr (i:=0) nd rfl (Or.inl (ow _ (by simp))) (Or.inr (ow _ (by simp)))) (xad (xr (i:=1) nd rfl (Or.inl (ow _ (by simp))) (Or.inr (ow _ (by simp)))) (xbq))):PG _ _ (gTup K 2 _))) (xfy (xcc (by decide) (xcc (by decide) (xez)))) (fun _ _ _ _ _=>xbk) (fun _ _ _ _ _=>pv 0)))
   (xn (xaa (xbb rfl (xat (zs:=["point"]) (ys:=["out"]) (fr:=[1]) (N0:=["picture", "out"]) (sc0:=xi xcn) (by decide +kernel) rfl rfl rfl) (xal (xbs (pv 0) T.c_k T.m_g (ok_g T) (hr.mono (by decide)) T.b_g .nil xm)) (fun _ _ _ _ _ ow nd=>xr (i:=0) nd rfl (Or.inl (ow _ (by simp))) (Or.inr (ow _ (by simp)))) (xar (by decide)) (fun _ _ _ _ _=>xbp (xw (r:=rInV K true) (xcg (xa0 hr)) (xan (r:=rIxT K) xbl (pv 0) (xk) (fun _ _=>rfl)) (pv 1) (by rfl))) (fun _ _ _ _ _=>xan (r:=rIxT K) xbl (pv 0) (xk) (fun _ _=>rfl))))),?_⟩
  obtain ⟨dr,nnd,q⟩:=h
  have p12:=dr.pic.len
  refine ⟨_,rfl,a,dp,do_,w',h',ps,ss,srt,rfl,dr,nnd,fun H1 l1 qs cs so ho s1 fl1 e1 ol1 run _=>?_⟩
  have ol:=run.outs.2
  have nl:(xq ps).length=ps.length:=by unfold xq; rw [List.length_map]
  have qcl:=ol1.len
  refine ⟨l1,rfl,⟨_,SqL.of e1⟩,fun l2 hl2=>?_⟩
  refine xbj (SqL.of e1) (by rw [List.length_map]; exact Nat.lt_of_le_of_lt (by omega:_≤1000) (by decide)) hl2 (fun i y _=>∃ c,cs[i]?=some c∧y=.str c.1) (fun _ _ _ _ _ z=>z) (fun i x H2 hx s2 N hN=>?_) (fun ys H2 s2 e2 ly fy=>?_)
  ·rw [List.getElem?_map,Option.map_eq_some_iff] at hx
   obtain ⟨qa,hqa,rfl⟩:=hx
   obtain ⟨c,lh,hc,hcq,_⟩:=ol1.get hqa
   exact ⟨qa,_,rfl,SqT.of (s2 _ _ hcq),rfl,_,_,rfl,_,_,rfl,rfl,_,rfl,hN _ _ (Same.refl _) ⟨c,hc,rfl⟩⟩
  have ey:ys=(cs.map (·.1)).map V.str:=by
   refine xbx (by rw [ly,List.length_map,List.length_map,qcl]) fun i y b hy hb=>?_
   obtain ⟨c,hc,rfl⟩:=fy i y hy
   rw [List.getElem?_map,hc] at hb
   cases hb
   rfl
  rw [ey] at e2
  have s02:=s1.trans s2
  have dr2:=dr.same s02
  obtain ⟨⟨dx,hpi⟩,_⟩:=id dr2.pic
  refine ⟨_,rfl,a,dx,_,rfl,hpi,xax (by decide +kernel),a,dp,do_,w',h',ps,rfl,dr2.pic,fun H3 l3 ds s3 e3 pt3=>?_⟩
  have dll:=pt3.len
  have e23:=s3 _ _ e2
  have s03:=s02.trans s3
  refine ⟨l3,rfl,⟨_,SqL.of e3⟩,fun l4 hl4=>?_⟩
  have odv:∀ {H5:Hp},Same H3 H5→Dv K H5 1 (.ref l2) (.lst ((cs.map (·.1)).map DV.str)):=fun {H5} s5=>.lst (SqL.of (s5 _ _ e23)) (by simp) fun j x d h1 h2=>by
   rw [List.getElem?_map,Option.map_eq_some_iff] at h1 h2
   obtain ⟨z,hz,rfl⟩:=h1
   obtain ⟨z',hz',rfl⟩:=h2
   rw [hz] at hz'
   cases hz'
   exact .str
  have oin:∀ nm:Str,(((cs.map (·.1)).map DV.str).any fun z=>dEq z (.str nm))=decide (nm ∈ cs.map (·.1)):=fun nm=>by
   rw [Bool.eq_iff_iff,List.any_eq_true,decide_eq_true_iff]
   constructor
   ·rintro ⟨d,hd,e⟩
    obtain ⟨z,hz,rfl⟩:=List.mem_map.mp hd
    rw [xjt] at e
    rw [← of_decide_eq_true e]
    exact hz
   ·intro hm
    exact ⟨_,List.mem_map.mpr ⟨_,hm,rfl⟩,xa6 _⟩
  refine xbi (SqL.of e3) (by rw [List.length_map]; exact Nat.lt_of_le_of_lt (by omega:_≤1000) (by decide)) hl4 (fun i=>((ps[i]?).map fun p=>!decide (p.nm ∈ cs.map (·.1))).getD false) (fun i y _=>∃ p,ps[i]?=some p∧y=.str p.nm) (fun _ _ _ _ _ z=>z) (fun i x H5 hx s5 N M hN hM=>?_) (fun ys H5 s5 e5 ly fy=>?_)
  ·rw [List.getElem?_map,Option.map_eq_some_iff] at hx
   obtain ⟨qa,hqa,rfl⟩:=hx
   obtain ⟨p,hp,hpq⟩:=pt3.get hqa
   have hpq5:=s5 _ _ hpq
   refine ⟨_,rfl,qa,_,0,.str p.nm,rfl,rfl,SqT.of hpq5,rfl,_,rfl,0,1,.str p.nm,_,.str,odv s5,by decide,by decide,_,rfl,ite2 (fun y=>?_) (fun y=>?_)⟩
   ·rw [if_pos rfl,oin] at y
    exact ⟨_,rfl,qa,_,0,.str p.nm,rfl,rfl,SqT.of hpq5,rfl,hN _ _ (Same.refl _) (by rw [hp]; exact y) ⟨p,hp,rfl⟩⟩
   ·rw [if_pos rfl,oin] at y
    exact hM _ (Same.refl _) (by rw [hp]; exact Bool.eq_false_iff.mpr y)
  have fi:=xf0 (fun p:Pt=>!decide (p.nm ∈ cs.map (·.1))) (as:=ps) (p:=fun i=>((ps[i]?).map fun p=>!decide (p.nm ∈ cs.map (·.1))).getD false) (fun i p hp=>by rw [hp]; rfl)
  rw [List.length_map,dll] at ly fy
  have ek:xa3 (xq ps) cs=(ps.filter fun p=>!decide (p.nm ∈ cs.map (·.1))).map (·.nm):=by
   unfold xa3 xq
   rw [List.filter_map]
   rfl
  have ey2:ys=(xa3 (xq ps) cs).map V.str:=by
   rw [ek]
   refine xbx (by rw [ly,List.length_map,fi.1]) fun i y b hy hb=>?_
   have hj:i < ((List.range ps.length).filter fun i=>((ps[i]?).map fun p=>!decide (p.nm ∈ cs.map (·.1))).getD false).length:=by
    rw [← ly]
    exact (List.getElem?_eq_some_iff.mp hy).1
   obtain ⟨p,hp,rfl⟩:=fy i y _ hy (List.getElem?_eq_getElem hj)
   rw [fi.2 i _ (List.getElem?_eq_getElem hj)] at hp
   rw [List.getElem?_map,hp] at hb
   cases hb
   rfl
  rw [ey2] at e5
  exact q H5 l4 cs so ho (s03.trans s5) (s03.free hl4) e5 run
end
end S35
set_option maxRecDepth 100000
set_option maxHeartbeats 4000000
namespace S35
open PySem L2 XL PyProof.Rows
theorem Pl.drop {H:Hp} {ps:List Pt} {kvs:List (Key × V)} (h:Pl H ps kvs) (nm:Str):Pl H (ps.filter fun p=>decide (p.nm≠nm)) (xbo kvs (.inr nm)):=by
 induction h with
 | nil=>exact .nil
 | @cons p q ps kvs h r ih =>
  unfold xbo at ih ⊢
  by_cases c:p.nm=nm
  ·rw [List.filter_cons_of_neg (by simp [c]),List.filter_cons_of_neg (by simp [c])]
   exact ih
  ·have c':¬ (Sum.inr p.nm:Key)=Sum.inr nm:=fun z=>c (Sum.inr.inj z)
   rw [List.filter_cons_of_pos (by simpa using c),List.filter_cons_of_pos (by simpa using c')]
   exact .cons h ih
def xnv (t:Adr):Sp:=fun vs H Q _=>∃ (a dp do_:Addr) (pw ph:Int) (ps:List Pt) (nm:Str) (pt:Pt),vs=[.ref a,.str nm]∧Pic t H a dp do_ pw ph ps∧isNm nm=true∧ps.find? (fun p=>decide (p.nm=nm))=some pt ∧
 ∀ H',(∀ b u,b≠dp→H b=some u→H' b=some u)→Pic t H' a dp do_ pw ph (ps.filter fun p=>decide (p.nm≠nm))→Q .non H'
section
variable {P:Program} {w:World} {K:PySem.W.Frag} {mg:Str→Option Value} {base:Heap} {t:Adr}
theorem ok_p (T:Txt w K mg t):FnOk true P w K mg base (CXo P w) 4 t.f_p t.d_p ["self", "name"] (xnv t):=by
 refine T.F_p.okn (k:=3) sc_p (fun vs H Q E h=>?_) (fun cdv A outer s H vs Q E hr h=>?_)
 ·obtain ⟨a,dp,do_,pw,ph,ps,nm,pt,rfl,_⟩:=h
  rfl
 ·obtain ⟨a,dp,do_,pw,ph,ps,nm,pt,rfl,h⟩:=h
  refine ⟨_,xb (xaf (xaw (pv 0) T.c_k T.m_b (ok_b T) (hr.mono (by decide)) T.b_b .nil xm (xa (pv 1) (xj))))
   (xn (xaf (xlb (xah (pv 0) rfl) (pv 1) ⟨rfl,rfl,rfl,rfl⟩))),?_⟩
  obtain ⟨pic,hn,hf,q⟩:=h
  obtain ⟨⟨dx,hp⟩,⟨kvs,hk,pl⟩,w1,w2,h1,h2,le⟩:=id pic
  obtain ⟨q0,e,hq0⟩:=pl.find hf
  refine ⟨_,rfl,a,dx,_,rfl,hp,xax (by decide +kernel),_,rfl,a,dp,do_,pw,ph,ps,nm,pt,rfl,pic,hn,hf,?_⟩
  refine ⟨_,rfl,a,_,dx,_,_,rfl,hp,T.c_k,T.n_aq,lkP,dp,rfl,.inl ⟨_,.inl hk⟩,_,rfl,kvs,.inr nm,.ref q0,hk,rfl,e,?_⟩
  have bt:∀ b u,b≠dp→H b=some u→upd H dp (.dK (xbo kvs (.inr nm))) b=some u:=fun b u nb e=>by
   rw [xh nb]
   exact e
  refine q _ bt ⟨⟨dx,bt _ _ (xak hp hk (fun z=>nomatch z)) hp⟩,⟨_,xg,(pl.drop nm).keep fun b xs e=>bt _ _ (xak e hk (fun z=>nomatch z)) e⟩,w1,w2,h1,h2,Nat.le_trans (List.length_filter_le _ _) le⟩
end
def mvP (nm:Str) (x y:Int) (p:Pt):Pt:=if p.nm=nm then { p with x:=x,y:=y } else p
theorem Pl.mv {H H':Hp} {nm:Str} {x y:Int} {q1:Addr} {ps:List Pt} {kvs:List (Key × V)} (h:Pl H ps kvs) (tp:Tups H H') (hq:∀ p ∈ ps,p.nm=nm→H' q1=some (.tup (ptV { p with x:=x,y:=y }))):Pl H' (ps.map (mvP nm x y)) (kvs.map fun kv=>if kv.1=.inr nm then (kv.1,.ref q1) else kv):=by
 induction h with
 | nil=>exact .nil
 | @cons p q ps kvs h r ih =>
  have ih':=ih fun p' hp'=>hq p' (List.mem_cons_of_mem _ hp')
  rw [List.map_cons,List.map_cons]
  by_cases c:p.nm=nm
  ·rw [if_pos (by rw [c]),show mvP nm x y p={ p with x:=x,y:=y } from if_pos c]
   exact .cons (hq p List.mem_cons_self c) ih'
  ·rw [if_neg (fun z=>c (Sum.inr.inj z)),show mvP nm x y p=p from if_neg c]
   exact .cons (tp _ _ h) ih'
theorem xon {ps:List Pt} (nd:(ps.map (·.nm)).Nodup) {p q:Pt} (hp:p ∈ ps) (hq:q ∈ ps) (e:p.nm=q.nm):p=q:=by
 induction ps with
 | nil=>exact (nomatch hp)
 | cons a ps ih =>
  rw [List.map_cons,List.nodup_cons] at nd
  rcases List.mem_cons.mp hp with z | z <;> rcases List.mem_cons.mp hq with z2 | z2
  ·rw [z,z2]
  ·exact absurd (List.mem_map.mpr ⟨q,z2,by rw [← e,z]⟩) nd.1
  ·exact absurd (List.mem_map.mpr ⟨p,z,by rw [e,z2]⟩) nd.1
  ·exact ih nd.2 z z2
def xom (t:Adr):Sp:=fun vs H Q _=>∃ (a dp do_:Addr) (pw ph:Int) (ps:List Pt) (pt:Pt) (i j:Int),vs=[.ref a,.str pt.nm,.int i,.int j]∧Pic t H a dp do_ pw ph ps∧(ps.map (·.nm)).Nodup∧isNm pt.nm=true∧ps.find? (fun p=>decide (p.nm=pt.nm))=some pt∧1≤i∧i≤pw∧1≤j∧j≤ph∧(∀ p ∈ ps,p.nm≠pt.nm→p.x≠i∧p.y≠j) ∧
 ∀ H',(∀ b u,b≠dp→H b=some u→H' b=some u)→Pic t H' a dp do_ pw ph (ps.map (mvP pt.nm i j))→Q .non H'
section
variable {P:Program} {w:World} {K:PySem.W.Frag} {mg:Str→Option Value} {base:Heap} {t:Adr}
theorem ok_q (T:Txt w K mg t):FnOk true P w K mg base (CXo P w) 4 t.f_q t.d_q ["self", "name", "x", "y"] (xom t):=by
 refine T.F_q.okn (k:=3) sc_q (fun vs H Q E h=>?_) (fun cdv A outer s H vs Q E hr h=>?_)
 ·obtain ⟨a,dp,do_,pw,ph,ps,pt,i,j,rfl,_⟩:=h
  rfl
 ·obtain ⟨a,dp,do_,pw,ph,ps,pt,i,j,rfl,h⟩:=h
  refine ⟨_,xb (xaf (xaw (pv 0) T.c_k T.m_b (ok_b T) (hr.mono (by decide)) T.b_b .nil xm (xa (pv 1) (xj))))
   (xb (xaf (xaw (pv 0) T.c_k T.m_e (ok_e T) (hr.mono (by decide)) T.b_e .nil xm (xa (pv 2) (xa (pv 3) (xj)))))
   (xb (xaf (xaw (pv 0) T.c_k T.m_a (ok_a T) (hr.mono (by decide)) T.b_a .nil xm (xa (pv 1) (xa (pv 2) (xa (pv 3) (xj))))))
   (xn (xc4 (xbg hr) (xah (pv 0) rfl) (pv 1) (x0 xh6 (xay (xa (pv 2) (xa (pv 3) (xj)))) (xcb xnt (xdn (xbg hr) (xah (pv 0) rfl) (pv 1) (fun _ _=>rfl)) (xb4 (xk)) xdu)) rfl)))),?_⟩
  obtain ⟨pic,nd,hn,hf,i1,i2,j1,j2,un,q⟩:=h
  obtain ⟨⟨dx0,hp⟩,⟨kvs,hk,pl⟩,w1,w2,h1,h2,le⟩:=id pic
  have hpt:=List.mem_of_find?_eq_some hf
  refine ⟨_,rfl,a,dx0,_,rfl,hp,xax (by decide +kernel),_,rfl,a,dp,do_,pw,ph,ps,pt.nm,pt,rfl,pic,hn,hf,?_⟩
  refine ⟨_,rfl,a,dx0,_,rfl,hp,xax (by decide +kernel),_,rfl,_,rfl,a,dp,do_,pw,ph,ps,i,j,rfl,pic,i1,i2,j1,j2,?_⟩
  refine ⟨_,rfl,a,dx0,_,rfl,hp,xax (by decide +kernel),_,rfl,_,rfl,_,rfl,a,dp,do_,pw,ph,ps,pt.nm,i,j,rfl,pic,un,fun H1 s1=>?_⟩
  obtain ⟨q0,e0,hq0⟩:=pl.find hf
  have hp1:=s1 _ _ hp
  have hk1:=s1 _ _ hk
  refine ⟨_,rfl,_,rfl,(by show 2≤sizeLine; decide),fun q1 hq1=>?_⟩
  have s2:Same H1 (upd H1 q1 (.tup [.int i,.int j])):=xo (Same.refl _) hq1
  have g2:upd H1 q1 (.tup [.int i,.int j]) q1=some (.tup [.int i,.int j]):=xg
  revert s2 g2
  generalize upd H1 q1 (.tup [.int i,.int j])=H2
  intro s2 g2
  have hp2:=s2 _ _ hp1
  have hk2:=s2 _ _ hk1
  have hq2:=s2 _ _ (s1 _ _ hq0)
  refine ⟨_,rfl,a,_,_,_,_,rfl,hp2,T.c_k,T.n_aq,lkP,_,rfl,dp,.ref q0,rfl,(by rw [← e0]; exact DGet.k (k:=.inr pt.nm) hk2),2,rfl,q0,ptV pt,rfl,SqT.of hq2,(fun z=>absurd z.1 (by show ¬ ((2:Nat)=0); decide)),fun q3 hq3=>?_⟩
  have s3:Same H2 (upd H2 q3 (.tup [.str pt.sd,.int pt.lo,.int pt.hi])):=xo (Same.refl _) hq3
  have g3:upd H2 q3 (.tup [.str pt.sd,.int pt.lo,.int pt.hi]) q3=some (.tup [.str pt.sd,.int pt.lo,.int pt.hi]):=xg
  refine ⟨q1,q3,_,[.str pt.sd,.int pt.lo,.int pt.hi],rfl,rfl,SqT.of (s3 _ _ g2),SqT.of g3,(by simp),(by show 2 + 3≤sizeLine; decide),(fun z=>nomatch z),fun _ q4 hq4=>?_⟩
  have s4:=s3.trans (xo (o:=.tup (ptV { pt with x:=i,y:=j })) (Same.refl _) hq4)
  have g4:upd (upd H2 q3 (.tup [.str pt.sd,.int pt.lo,.int pt.hi])) q4 (.tup (ptV { pt with x:=i,y:=j })) q4=some (.tup (ptV { pt with x:=i,y:=j })):=xg
  change _ at g4
  have hp4:=s4 _ _ hp2
  have hk4:=s4 _ _ hk2
  refine ⟨_,rfl,a,_,_,_,_,rfl,hp4,T.c_k,T.n_aq,lkP,_,rfl,dp,_,rfl,DPut.k (k:=.inr pt.nm) hk4 (Nat.lt_trans (by have:=pl.len; omega:kvs.length < 13) (by decide)),?_⟩
  have ek:putK kvs (.inr pt.nm) (.ref q4)=kvs.map fun kv=>if kv.1=.inr pt.nm then (kv.1,.ref q4) else kv:=by
   unfold putK
   rw [xca,e0]
   rfl
  rw [ek]
  have s04:=s1.trans (s2.trans s4)
  have bt:∀ b u,b≠dp→H b=some u→upd (upd (upd H2 q3 (.tup [.str pt.sd,.int pt.lo,.int pt.hi])) q4 (.tup (ptV { pt with x:=i,y:=j }))) dp (.dK (kvs.map fun kv=>if kv.1=.inr pt.nm then (kv.1,.ref q4) else kv)) b=some u:=fun b u nb e=>by
   rw [xh nb]
   exact s04 _ _ e
  refine q _ bt ⟨⟨dx0,bt _ _ (xak hp hk (fun z=>nomatch z)) hp⟩,⟨_,xg,pl.mv (fun b xs e=>bt _ _ (xak e hk (fun z=>nomatch z)) e) fun p hp' ep=>?_⟩,w1,w2,h1,h2,by rw [List.length_map]; exact le⟩
  rw [xon nd hp' hpt ep,xh (Ne.symm (xf (s3 _ _ hk2) hq4))]
  exact g4
end
end S35
set_option maxRecDepth 100000
set_option maxHeartbeats 4000000
namespace S35
open PySem L2 XL PyProof.Rows
theorem xaz {K:PySem.W.Frag} {H:Hp} {l:Addr} {nms:List Str} (e:H l=some (.lst (nms.map V.str))):Dv K H 1 (.ref l) (.lst (nms.map DV.str)):=.lst (SqL.of e) (by rw [List.length_map,List.length_map]) fun j x d h1 h2=>by
 rw [List.getElem?_map,Option.map_eq_some_iff] at h1 h2
 obtain ⟨z,hz,rfl⟩:=h1
 obtain ⟨z',hz',rfl⟩:=h2
 rw [hz] at hz'
 cases hz'
 exact .str
theorem xbv (nms:List Str) (nm:Str):((nms.map DV.str).any fun z=>dEq z (.str nm))=decide (nm ∈ nms):=by
 rw [Bool.eq_iff_iff,List.any_eq_true,decide_eq_true_iff]
 constructor
 ·rintro ⟨d,hd,e⟩
  obtain ⟨z,hz,rfl⟩:=List.mem_map.mp hd
  rw [xjt] at e
  rw [← of_decide_eq_true e]
  exact hz
 ·intro hm
  exact ⟨_,List.mem_map.mpr ⟨_,hm,rfl⟩,xa6 _⟩
section
variable {P:Program} {w:World} {K:PySem.W.Frag} {mg:Str→Option Value} {base:Heap} {t:Adr}
end
def okP (room:Str→List Seat) (ss:List Seat) (keep:List Str) (nm:Str):Bool:=(Kp.subs keep.reverse).all fun S=>decide (S.length + 1≤ss.countP (Kp.tog room (nm :: S)))
def xdv (room:Str→List Seat) (ss:List Seat) (keep:List Str) (nm:Str):List Str:=if okP room ss keep nm then keep ++ [nm] else keep
def xdt (room:Str→List Seat) (ss:List Seat) (ns:List Str):List Str:=ns.foldl (xdv room ss) []
theorem xd5 (room:Str→List Seat) (ss:List Seat) (ns:List Str) (nm:Str):xdt room ss (ns ++ [nm])=xdv room ss (xdt room ss ns) nm:=by
 unfold xdt
 rw [List.foldl_append]
 rfl
theorem Run.keeps {room:Str→List Seat} {ss:List Seat} (snd:ss.Nodup) (hr:∀ n s,s ∈ room n→s ∈ ss) {ns:List Str} {so:Str→Option Seat} {ho:Seat→Option Str} {cs:List (Str × List Str)} (r:Run room ns so ho cs) (nd:ns.Nodup):xa3 ns cs=xdt room ss ns:=by
 induction r with
 | nil=>rfl
 | @inn ns so so' ho ho' cs nm r mt dm rc ih =>
  rw [List.nodup_append] at nd
  have h1:nm ∉ ns:=fun h=>nd.2.2 nm h nm (List.mem_singleton.mpr rfl) rfl
  have h2:nm ∉ cs.map (·.1):=fun h=>h1 (r.outs.1 nm h)
  have e1:xa3 (ns ++ [nm]) cs=xa3 ns cs ++ [nm]:=by
   unfold xa3
   rw [List.filter_append,List.filter_cons_of_pos (by rw [decide_eq_false h2]; rfl),List.filter_nil]
  rw [e1,xd5,← ih nd.1]
  unfold xdv
  rw [if_pos]
  unfold okP
  rw [List.all_eq_true]
  intro S hS
  have knd:(xa3 ns cs).reverse.Nodup:=(List.reverse_perm _).nodup_iff.mpr (List.Pairwise.filter _ nd.1)
  have sm:=(Kp.subs_mem hS).1
  have snd':=Kp.subs_nd knd hS
  refine decide_eq_true (Kp.hall mt hr (T:=nm :: S) (List.nodup_cons.mpr ⟨fun z=>?_,snd'⟩) fun a ha=>?_)
  ·have:=List.mem_reverse.mp (sm nm z)
   exact h1 (List.mem_filter.mp this).1
  ·rw [dm a]
   rcases List.mem_cons.mp ha with rfl | ha
   ·simp
   ·have k:=List.mem_filter.mp (List.mem_reverse.mp (sm a ha))
    rw [r.dom nd.1 a,decide_eq_true k.1,k.2]
    simp
 | @out ns so ho cs nm hs r c rc ih =>
  rw [List.nodup_append] at nd
  have h1:nm ∉ ns:=fun h=>nd.2.2 nm h nm (List.mem_singleton.mpr rfl) rfl
  have e1:xa3 (ns ++ [nm]) (cs ++ [(nm,hs)])=xa3 ns cs:=by
   unfold xa3
   rw [List.filter_append,List.filter_cons_of_neg (by simp),List.filter_nil,List.append_nil]
   refine List.filter_congr fun z hz=>?_
   have:z≠nm:=fun e=>h1 (e ▸ hz)
   simp [this]
  rw [e1,xd5,← ih nd.1]
  unfold xdv
  rw [if_neg]
  intro ok
  unfold okP at ok
  rw [List.all_eq_true] at ok
  obtain ⟨S,hS,pS⟩:=Kp.subs_all (l:=(xa3 ns cs).reverse) (List.nodup_cons.mp c.nd).2 (fun a ha=>by
   have k:=c.has a ha
   rw [r.dom nd.1 a,Bool.and_eq_true] at k
   exact List.mem_reverse.mpr (List.mem_filter.mpr ⟨of_decide_eq_true k.1,k.2⟩))
  have k:=of_decide_eq_true (ok S hS)
  have ec:ss.countP (Kp.tog room (nm :: S))=ss.countP (Kp.tog room (nm :: hs)):=by
   congr 1
   funext s
   exact Kp.tog_perm (pS.cons nm) s
  rw [ec,c.count r.mt snd hr,pS.length_eq] at k
  omega
theorem xhg {ps:List Pt} (nd:(ps.map (·.nm)).Nodup) {p:Pt} (h:p ∈ ps):ps.find? (fun z=>decide (z.nm=p.nm))=some p:=by
 induction ps with
 | nil=>exact nomatch h
 | cons x r ih =>
  rw [List.map_cons,List.nodup_cons] at nd
  rcases List.mem_cons.mp h with rfl | h
  ·rw [List.find?_cons_of_pos (by simp)]
  ·rw [List.find?_cons_of_neg,ih nd.2 h]
   intro e
   exact nd.1 (List.mem_map.mpr ⟨p,h,(of_decide_eq_true e).symm⟩)
section
variable {P:Program} {w:World} {K:PySem.W.Frag} {mg:Str→Option Value} {base:Heap} {t:Adr}
end
theorem xfu {ps:List Pt} {ss:List Seat} (n:Str) (s:Seat) (h:s ∈ xao ps ss n):s ∈ ss:=by
 unfold xao at h
 split at h
 ·exact (List.mem_filter.mp h).1
 ·exact nomatch h
theorem xmj {h:Nat} {s:Seat} (o:1≤s.2∧s.2≤(h:Int)):s ∈ xb3 true h ++ xb3 false h:=by
 obtain ⟨b,r⟩:=s
 have o1:1≤r:=o.1
 have o2:r≤h:=o.2
 have z:∀ b,(b,r) ∈ xb3 b h:=fun b=>List.mem_map.mpr ⟨(r - 1).toNat,List.mem_range.mpr (by omega),by rw [show 1 + ((r - 1).toNat:Int)=r by omega]⟩
 cases b
 ·exact List.mem_append_right _ (z false)
 ·exact List.mem_append_left _ (z true)
section
variable {P:Program} {w:World} {K:PySem.W.Frag} {mg:Str→Option Value} {base:Heap} {t:Adr}
end
end S35
set_option maxRecDepth 100000
set_option maxHeartbeats 4000000
namespace S35
open PySem L2 XL PyProof.Rows
theorem xkb {h:Nat} {ss:List Seat} (sok:SsOk (h:Int) ss) (h2:h≤16) {s:Seat} (o:1≤s.2∧s.2≤(h:Int)) (ns:s ∉ ss):ss.length < 32:=by
 have nd:(s :: ss).Nodup:=List.nodup_cons.mpr ⟨ns,sok.1⟩
 have l:=nd.length_le_of_subset (l₂:=xb3 true h ++ xb3 false h) fun z hz=>xmj (by
  rcases List.mem_cons.mp hz with rfl | hz
  ·exact o
  ·exact sok.2.2 z hz)
 have e:(xb3 true h ++ xb3 false h).length=h + h:=by
  unfold xb3
  rw [List.length_append,List.length_map,List.length_map,List.length_range]
 rw [List.length_cons] at l
 omega
theorem xjp {ps:List Pt} (nm:Str) (x y:Int):xq (ps.map (mvP nm x y))=xq ps:=by
 unfold xq
 rw [List.map_map]
 congr 1
 funext p
 show (mvP nm x y p).nm=p.nm
 unfold mvP
 split <;> rfl
theorem xmf {ps:List Pt} (ss:List Seat) (nm:Str) (x y:Int):xao (ps.map (mvP nm x y)) ss=xao ps ss:=by
 funext n
 unfold xao
 have e:(ps.map (mvP nm x y)).find? (fun p=>decide (p.nm=n))=(ps.find? fun p=>decide (p.nm=n)).map (mvP nm x y):=by
  rw [List.find?_map]
  congr 2
  funext p
  show decide ((mvP nm x y p).nm=n)=_
  unfold mvP
  split <;> rfl
 rw [e]
 cases ps.find? (fun p=>decide (p.nm=n)) with
 | none=>rfl
 | some p =>
  show ss.filter (xch (mvP nm x y p))=ss.filter (xch p)
  congr 1
  funext s
  unfold mvP
  split <;> rfl
theorem xih {K:PySem.W.Frag} {H:Hp} {l:Addr} {zs:List Int} (e:H l=some (.lst (zs.map V.int))):Dv K H 1 (.ref l) (.lst (zs.map DV.int)):=.lst (SqL.of e) (by simp) fun j x d h1 h2=>by
 rw [List.getElem?_map,Option.map_eq_some_iff] at h1 h2
 obtain ⟨z,hz,rfl⟩:=h1
 obtain ⟨z',hz',rfl⟩:=h2
 rw [hz] at hz'
 cases hz'
 exact .int
theorem xie (zs:List Int) (x:Int):((zs.map DV.int).any fun z=>dEq z (.int x))=decide (x ∈ zs):=by
 rw [Bool.eq_iff_iff,List.any_eq_true,decide_eq_true_iff]
 constructor
 ·rintro ⟨d,hd,e⟩
  obtain ⟨z,hz,rfl⟩:=List.mem_map.mp hd
  rw [xf5 (d:=.int z) (e:=.int x) (x:=z) (y:=x) rfl rfl (by simp)] at e
  rw [← of_decide_eq_true e]
  exact hz
 ·intro hm
  exact ⟨_,List.mem_map.mpr ⟨_,hm,rfl⟩,xa6 _⟩
theorem xis {α:Type} (m:Int) {xs:List α} (h:xs≠[]):∃ (j:Nat) (y:α),xs[j]?=some y∧0≤m % (xs.length:Int)∧m % (xs.length:Int) < xs.length∧atI xs (m % (xs.length:Int))=some y∧0 < (xs.length:Int):=by
 have l0:0 < xs.length:=List.length_pos_iff.mpr h
 have lp:(0:Int) < (xs.length:Int):=by omega
 obtain ⟨k0,k1⟩:=xb5 m lp
 obtain ⟨j,hj⟩:=Int.eq_ofNat_of_zero_le k0
 have jl:j < xs.length:=by
  have z:=k1
  rw [hj] at z
  omega
 exact ⟨j,xs[j],List.getElem?_eq_getElem jl,k0,k1,by rw [hj]; exact xds (List.getElem?_eq_getElem jl),lp⟩
theorem xdp {nms:List Str} {f:Str→Bool} {ys:List V} (ly:ys.length=((List.range nms.length).filter fun i=>((nms[i]?).map f).getD false).length) (fy:∀ (j:Nat) (y:V) (i:Nat),ys[j]?=some y→((List.range nms.length).filter fun i=>((nms[i]?).map f).getD false)[j]?=some i→∃ z,nms[i]?=some z∧y=.str z):ys=(nms.filter f).map V.str:=by
 have fi:=xf0 f (as:=nms) (p:=fun i=>((nms[i]?).map f).getD false) (fun i p hp=>by rw [hp]; rfl)
 refine xbx (by rw [ly,fi.1]) fun i y b hy hb=>?_
 have hj:i < ((List.range nms.length).filter fun i=>((nms[i]?).map f).getD false).length:=by
  rw [← ly]
  exact (List.getElem?_eq_some_iff.mp hy).1
 obtain ⟨z,hz,rfl⟩:=fy i y _ hy (List.getElem?_eq_getElem hj)
 rw [fi.2 i _ (List.getElem?_eq_getElem hj),hb] at hz
 cases hz
 rfl
theorem xk0 {had:List Int} {m:Nat} {ys:List V} (ly:ys.length=((List.range m).filter fun (i:Nat)=>!decide ((1 + (i:Int)) ∈ had)).length) (fy:∀ (j:Nat) (y:V) (i:Nat),ys[j]?=some y→((List.range m).filter fun (i:Nat)=>!decide ((1 + (i:Int)) ∈ had))[j]?=some i→y=.int (1 + (i:Int))):∃ zs:List Int,ys=zs.map V.int∧zs.length≤m∧∀ z ∈ zs,1≤z∧z≤m∧z ∉ had:=by
 refine ⟨((List.range m).filter fun (i:Nat)=>!decide ((1 + (i:Int)) ∈ had)).map fun (i:Nat)=>1 + (i:Int),?_,?_,fun z hz=>?_⟩
 ·rw [List.map_map]
  refine xbx ly fun j y i hy hi=>?_
  rw [fy j y i hy hi]
  rfl
 ·rw [List.length_map]
  exact Nat.le_trans (List.length_filter_le _ _) (by rw [List.length_range]; exact Nat.le_refl _)
 ·obtain ⟨i,hi,rfl⟩:=List.mem_map.mp hz
  have k:=List.mem_filter.mp hi
  have k1:=List.mem_range.mp k.1
  have k2:=k.2
  simp only [Bool.not_eq_true',decide_eq_false_iff_not] at k2
  exact ⟨by omega,by omega,k2⟩
def xnx (K:PySem.W.Frag):Sp:=fun vs H Q _=>∃ (m:Nat) (lh:Addr) (had:List Int) (c:Int),vs=[.int (m:Int),.ref lh,.int c]∧m≤30∧H lh=some (.lst (had.map V.int))∧∀ H' (r:Int),Same H H'→(r=0∨(1≤r∧r≤m∧r ∉ had))→Q (.int r) H'
inductive Deed (ps:List Pt) (ss:List Seat):Str→Str→List Pt→List Seat→Prop
 | none:Deed ps ss "none" "" ps ss
 | comes {p:Pt} (h:∀ z ∈ ps,z.nm≠p.nm):Deed ps ss "comes" p.nm (ps ++ [p]) ss
 | moves {nm:Str} {x y:Int}:Deed ps ss "moves" nm (ps.map (mvP nm x y)) ss
 | goes {nm:Str}:Deed ps ss "goes" nm (ps.filter fun p=>decide (p.nm≠nm)) ss
 | opened {t:Seat} {ss':List Seat} (h:t ∉ ss) (h':ss'.Perm (t :: ss)):Deed ps ss "open" "" ps ss'
 | shut {t:Seat} {ss':List Seat} (h:t ∉ ss') (h':ss.Perm (t :: ss')):Deed ps ss "shut" "" ps ss'
def xd0 (t:Adr) (H H':Hp) (a dp do_:Addr) (w h:Nat) (pp:List Pt) (st' ss':List Seat):Prop:=(∀ b u,b≠dp→b≠do_→H b=some u→H' b=some u)∧Dr t H' a dp do_ w h pp st' ss'∧xb8 (w:Int) (h:Int) pp
def xfb (t:Adr) (k:Nat) (m:Addr→Addr→Str→List V) (ns0:List Pt→Str→Prop):Sp:=fun vs H Q _=>∃ (a ln dp do_:Addr) (w h:Nat) (ps:List Pt) (st ss:List Seat) (ns:List Int) (nm:Str),vs=m a ln nm∧Dr t H a dp do_ w h ps st ss∧xb8 (w:Int) (h:Int) ps∧H ln=some (.lst (ns.map V.int))∧k≤ns.length∧ns0 ps nm ∧
 ∀ H' q wd nm' pp st' ss',xd0 t H H' a dp do_ w h pp st' ss'→H' q=some (.tup [.str wd,.str nm'])→Deed ps ss wd nm' pp ss'→Q (.ref q) H'
def xif (t:Adr):Sp:=xfb t 7 (fun a ln _=>[.ref a,.ref ln]) (fun _ _=>True)
def xmy (t:Adr):Sp:=xfb t 2 (fun a ln nm=>[.ref a,.ref ln,.str nm]) (fun ps nm=>∃ p ∈ ps,p.nm=nm)
def xms (t:Adr):Sp:=xfb t 11 (fun a ln _=>[.ref a,.ref ln]) (fun _ _=>True)
theorem xd0.same {t:Adr} {H H':Hp} {a dp do_:Addr} {w h:Nat} {ps:List Pt} {st ss:List Seat} (s:Same H H') (dr:Dr t H a dp do_ w h ps st ss) (pok:xb8 (w:Int) (h:Int) ps):xd0 t H H' a dp do_ w h ps st ss:=⟨fun b u _ _ e=>s _ _ e,dr.same s,pok⟩
theorem xgk {β:Type} {f:Pt→β} {ps:List Pt} {nm:Str} {v:β} (nd:(ps.map f).Nodup) (nn:(ps.map (·.nm)).Nodup) (nv:v ∉ ps.map f):(ps.map fun p=>if p.nm=nm then v else f p).Nodup:=by
 induction ps with
 | nil=>exact List.nodup_nil
 | cons p r ih =>
  rw [List.map_cons,List.nodup_cons] at nd nn
  rw [List.map_cons,List.mem_cons,not_or] at nv
  rw [List.map_cons,List.nodup_cons]
  refine ⟨fun z=>?_,ih nd.2 nn.2 nv.2⟩
  obtain ⟨p',hp',e⟩:=List.mem_map.mp z
  by_cases c:p.nm=nm
  ·have c':¬ p'.nm=nm:=fun w=>nn.1 (List.mem_map.mpr ⟨p',hp',w.trans c.symm⟩)
   rw [if_pos c,if_neg c'] at e
   exact nv.2 (List.mem_map.mpr ⟨p',hp',e⟩)
  ·rw [if_neg c] at e
   split at e
   ·exact nv.1 e
   ·exact nd.1 (List.mem_map.mpr ⟨p',hp',e⟩)
theorem xpe {w h:Nat} {ps:List Pt} (pok:xb8 (w:Int) (h:Int) ps) {p:Pt} (pin:p ∈ ps) {x y:Int} (ox:1≤x∧x≤(w:Int)∧x ∉ ps.map (·.x)) (oy:1≤y∧y≤(h:Int)∧y ∉ ps.map (·.y)):xb8 (w:Int) (h:Int) (ps.map (mvP p.nm x y)):=by
 refine ⟨fun z hz=>?_,?_,?_,?_,by rw [List.length_map]; exact pok.le⟩
 ·obtain ⟨z0,h0,rfl⟩:=List.mem_map.mp hz
  have o:=pok.ok z0 h0
  unfold mvP
  split
  ·exact ⟨o.nm,ox.1,ox.2.1,oy.1,oy.2.1,o.sd,o.l1,o.l2,o.l3⟩
  ·exact o
 ·have e:(ps.map (mvP p.nm x y)).map (·.nm)=ps.map (·.nm):=xjp p.nm x y
  rw [e]
  exact pok.nn
 ·have e:(ps.map (mvP p.nm x y)).map (·.x)=ps.map fun z=>if z.nm=p.nm then x else z.x:=by
   rw [List.map_map]
   congr 1
   funext z
   show (mvP p.nm x y z).x=_
   unfold mvP
   split <;> rfl
  rw [e]
  exact xgk pok.nx pok.nn ox.2.2
 ·have e:(ps.map (mvP p.nm x y)).map (·.y)=ps.map fun z=>if z.nm=p.nm then y else z.y:=by
   rw [List.map_map]
   congr 1
   funext z
   show (mvP p.nm x y z).y=_
   unfold mvP
   split <;> rfl
  rw [e]
  exact xgk pok.ny pok.nn oy.2.2
section
variable {P:Program} {w:World} {K:PySem.W.Frag} {mg:Str→Option Value} {base:Heap} {t:Adr}
theorem ok_af (T:Txt w K mg t):FnOk true P w K mg base (CXo P w) 1 t.f_af t.d_af ["_law_most", "_law_had", "_law_cell"] (xnx K):=by
 refine T.F_af.okn (k:=0) sc_af (fun vs H Q E h=>?_) (fun cdv A outer s H vs Q E hr h=>?_)
 ·obtain ⟨m,lh,had,c,rfl,_⟩:=h
  rfl
 ·obtain ⟨m,lh,had,c,rfl,h⟩:=h
  refine ⟨_,xb (xbn rfl (xat (zs:=["_law_number"]) (ys:=["_law_had"]) (fr:=[1]) (N0:=["_law_most", "_law_had", "_law_cell", "_law_some"]) (sc0:=xi s_af) (by decide +kernel) rfl rfl rfl) (xgh rfl T.n_range (xa (xk) (xa (x0 xa7 (pv 0) (xk)) (xj)))) (fun _ _ _ _ _ ow nd=>xr (i:=0) nd rfl (Or.inl (ow _ (by simp))) (Or.inr (ow _ (by simp)))) (xar (by decide)) (fun _ _ _ _ _=>xbp (xw (r:=rInV K true) (xcg (xa0 hr)) (pv 0) (pv 1) (by rfl))) (fun _ _ _ _ _=>pv 0) (j:=3) rfl (Or.inl rfl))
   (xb (xag (xw (xda (xa0 hr)) (pv 3) (xbh (xj)) (x6 _)) (xn (xaa (xk))) (x9))
   (xn (xaa (xan xas (pv 3) (x0 xaj (pv 2) (xav xa2 rfl T.n_len boot_len (xa (pv 3) (xj)))) (fun _ _=>rfl))))),?_⟩
  obtain ⟨m30,hlh,q⟩:=h
  refine ⟨_,rfl,_,_,rfl,rfl,1,(m:Int) + 1,rfl,⟨by decide,by decide,by omega,by omega⟩,fun l1 hl1=>?_⟩
  have ww:((m:Int) + 1 - 1).toNat=m:=by omega
  refine xh0 (Nat.lt_of_le_of_lt (by omega:_≤1000) (by decide)) hl1 (fun i=>!decide ((1 + (i:Int)) ∈ had)) (fun i y _=>y=.int (1 + (i:Int))) (fun _ _ _ _ _ z=>z) (fun i H2 hi s2 N M hN hM=>?_) (fun ys H2 s2 e2 ly fy=>?_)
  ·refine ⟨_,rfl,_,rfl,0,1,.int (1 + (i:Int)),_,.int,xih (s2 _ _ hlh),by decide,by decide,_,rfl,ite2 (fun y=>?_) (fun y=>?_)⟩
   ·rw [if_pos rfl,xie] at y
    exact ⟨_,rfl,hN _ _ (Same.refl _) y rfl⟩
   ·rw [if_pos rfl,xie] at y
    exact hM _ (Same.refl _) (Bool.eq_false_iff.mpr y)
  rw [ww] at ly fy
  obtain ⟨xs,rfl,xl,xok⟩:=xk0 ly fy
  refine ⟨_,rfl,(by show 0≤sizeLine; decide),fun y1 hy1=>?_⟩
  have s3:Same H2 (upd H2 y1 (.lst [])):=xo (Same.refl _) hy1
  have g3:upd H2 y1 (.lst []) y1=some (.lst []):=xg
  revert s3 g3
  generalize upd H2 y1 (.lst [])=H3
  intro s3 g3
  have s03:=s2.trans s3
  refine ⟨1,1,_,.lst [],xih (s3 _ _ e2),.lst (SqL.of g3) rfl (xdm (xs:=[]) rfl),by decide,by decide,_,rfl,ite2 (fun y=>q _ 0 s03 (.inl rfl)) (fun y=>?_)⟩
  have xne:xs≠[]:=fun z=>by rw [z] at y; exact y rfl
  obtain ⟨j,v,gj,a1,a2,a3,a4⟩:=xis c (xs:=xs.map V.int) (fun z=>xne (List.map_eq_nil_iff.mp z))
  rw [List.getElem?_map,Option.map_eq_some_iff] at gj
  obtain ⟨z,hz,rfl⟩:=gj
  exact ⟨_,rfl,_,rfl,_,rfl,l1,_,rfl,.inl (SqL.of (s3 _ _ e2)),_,_,rfl,rfl,a4,l1,_,_,.int z,rfl,rfl,SqL.of (s3 _ _ e2),a3,q _ z s03 (.inr (xok z (List.mem_of_getElem? hz)))⟩
theorem ok_ae (T:Txt w K mg t):FnOk true P w K mg base (CXo P w) 5 t.f_ae t.d_ae ["_law_picture_here", "_law_numbers_here", "_law_name"] (xmy t):=by
 refine T.F_ae.okn (k:=4) sc_ae (fun vs H Q E h=>?_) (fun cdv A outer s H vs Q E hr h=>?_)
 ·obtain ⟨a,ln,dp,do_,w',h',ps,st,ss,ns,nm,rfl,_⟩:=h
  rfl
 ·obtain ⟨a,ln,dp,do_,w',h',ps,st,ss,ns,nm,rfl,h⟩:=h
  refine ⟨_,xb (xt (i:=3) sc_ae.nd rfl (Or.inl rfl) (xbs (pv 0) T.c_k T.m_g (ok_g T) (hr.mono (by decide)) T.b_g .nil xm))
   (xb (xt (i:=4) sc_ae.nd rfl (Or.inl rfl) (xv (ok_af T) (hr.mono (by decide)) rfl T.g_af T.F_af.kp T.b_af .nil xm (xa (xah (pv 0) rfl) (xa (xbb rfl (xat (zs:=["_law_point_here"]) (ys:=[]) (fr:=[]) (N0:=["_law_picture_here", "_law_numbers_here", "_law_name", "_law_points_here", "_law_x", "_law_y"]) (sc0:=xi s_ae) (by decide +kernel) rfl rfl rfl) (xal (pv 3)) (fun _ _ _ _ _ ow nd=>xr (i:=0) nd rfl (Or.inl (ow _ (by simp))) (Or.inr (ow _ (by simp)))) (xar (by decide)) (fun _ _ _ _ _=>xbk) (fun _ _ _ _ _=>xan (r:=rIxT K) xbl (pv 0) (xk) (fun _ _=>rfl))) (xa (xan xas (pv 1) (xk) (fun _ _=>rfl)) (xj))))))
   (xb (xt (i:=5) sc_ae.nd rfl (Or.inl rfl) (xv (ok_af T) (hr.mono (by decide)) rfl T.g_af T.F_af.kp T.b_af .nil xm (xa (xah (pv 0) rfl) (xa (xbb rfl (xat (zs:=["_law_point_here"]) (ys:=[]) (fr:=[]) (N0:=["_law_picture_here", "_law_numbers_here", "_law_name", "_law_points_here", "_law_x", "_law_y"]) (sc0:=xi s_ae) (by decide +kernel) rfl rfl rfl) (xal (pv 3)) (fun _ _ _ _ _ ow nd=>xr (i:=0) nd rfl (Or.inl (ow _ (by simp))) (Or.inr (ow _ (by simp)))) (xar (by decide)) (fun _ _ _ _ _=>xbk) (fun _ _ _ _ _=>xan (r:=rIxT K) xbl (pv 0) (xk) (fun _ _=>rfl))) (xa (xan xas (pv 1) (xk) (fun _ _=>rfl)) (xj))))))
   (xb (xag (PW.pt (xcl (xw xa5 (pv 4) (xk) (x6 _)) (xb6 (xw xa5 (pv 5) (xk) (x6 _))))) (xn (xaa (xay (xa (xaq) (xa (xaq) (xj)))))) (x9))
   (xb (xaf (xaw (pv 0) T.c_k T.m_q (ok_q T) (hr.mono (by decide)) T.b_q .nil xm (xa (pv 2) (xa (pv 4) (xa (pv 5) (xj))))))
   (xn (xaa (xay (xa (xaq) (xa (pv 2) (xj)))))))))),?_⟩
  obtain ⟨dr,pok,hln,n2,⟨p,pin,epn⟩,q⟩:=h
  subst epn
  have p12:=pok.le
  obtain ⟨⟨dx,hpi⟩,⟨kp,hkp,_⟩,w1,w2,h1,h2,_⟩:=id dr.pic
  obtain ⟨n0,en0⟩:=xbc (ns:=ns) (i:=0) (by omega)
  obtain ⟨n1,en1⟩:=xbc (ns:=ns) (i:=1) (by omega)
  refine ⟨_,rfl,a,dx,_,rfl,hpi,xax (by decide +kernel),a,dp,do_,w',h',ps,rfl,dr.pic,fun H1 lp qs s1 e1 pt1=>?_⟩
  have pll:=pt1.len
  have hpi1:=s1 _ _ hpi
  refine ⟨_,rfl,a,_,_,_,_,rfl,hpi1,T.c_k,T.n_aw,lkW,_,rfl,lp,rfl,⟨_,SqL.of e1⟩,fun l2 hl2=>?_⟩
  refine xbj (SqL.of e1) (by rw [List.length_map]; exact Nat.lt_of_le_of_lt (by omega:_≤1000) (by decide)) hl2 (fun i y _=>∃ p,ps[i]?=some p∧y=.int p.x) (fun _ _ _ _ _ z=>z) (fun i x H2 hx s2 N hN=>?_) (fun ys H2 s2 e2 ly fy=>?_)
  ·rw [List.getElem?_map,Option.map_eq_some_iff] at hx
   obtain ⟨qa,hqa,rfl⟩:=hx
   obtain ⟨p,hp,hpq⟩:=pt1.get hqa
   exact ⟨_,rfl,qa,_,1,.int p.x,rfl,rfl,SqT.of (s2 _ _ hpq),rfl,hN _ _ (Same.refl _) ⟨p,hp,rfl⟩⟩
  have ey:ys=(ps.map (·.x)).map V.int:=by
   refine xbx (by rw [ly,List.length_map,List.length_map,pll]) fun i y b hy hb=>?_
   obtain ⟨p,hp,rfl⟩:=fy i y hy
   rw [List.getElem?_map,hp] at hb
   cases hb
   rfl
  rw [ey] at e2
  have s02:=s1.trans s2
  refine ⟨_,rfl,ln,_,0,.int n0,rfl,rfl,SqL.of (s02 _ _ hln),en0,w',l2,ps.map (·.x),n0,rfl,by omega,e2,fun H3 x s3 ox=>?_⟩
  have s03:=s02.trans s3
  have hpi3:=s03 _ _ hpi
  have e3:=s3 _ _ (s2 _ _ e1)
  have pt3:=(pt1.keep (Same.tups s2)).keep (Same.tups s3)
  refine ⟨_,rfl,a,_,_,_,_,rfl,hpi3,T.c_k,T.n_ar,lkH,_,rfl,lp,rfl,⟨_,SqL.of e3⟩,fun l4 hl4=>?_⟩
  refine xbj (SqL.of e3) (by rw [List.length_map]; exact Nat.lt_of_le_of_lt (by omega:_≤1000) (by decide)) hl4 (fun i y _=>∃ p,ps[i]?=some p∧y=.int p.y) (fun _ _ _ _ _ z=>z) (fun i x H4 hx s4 N hN=>?_) (fun ys4 H4 s4 e4 ly4 fy4=>?_)
  ·rw [List.getElem?_map,Option.map_eq_some_iff] at hx
   obtain ⟨qa,hqa,rfl⟩:=hx
   obtain ⟨p,hp,hpq⟩:=pt3.get hqa
   exact ⟨_,rfl,qa,_,2,.int p.y,rfl,rfl,SqT.of (s4 _ _ hpq),rfl,hN _ _ (Same.refl _) ⟨p,hp,rfl⟩⟩
  have ey4:ys4=(ps.map (·.y)).map V.int:=by
   refine xbx (by rw [ly4,List.length_map,List.length_map,pll]) fun i y b hy hb=>?_
   obtain ⟨p,hp,rfl⟩:=fy4 i y hy
   rw [List.getElem?_map,hp] at hb
   cases hb
   rfl
  rw [ey4] at e4
  have s04:=s03.trans s4
  refine ⟨_,rfl,ln,_,1,.int n1,rfl,rfl,SqL.of (s04 _ _ hln),en1,h',l4,ps.map (·.y),n1,rfl,by omega,e4,fun H5 y s5 oy=>?_⟩
  have s05:=s04.trans s5
  have none:∀ H6 q6,Same H5 H6→H6 q6=some (.tup [.str (Str.ofString "none"),.str (Str.ofString "")])→Q (.ref q6) H6:=fun H6 q6 s6 e6=>q H6 q6 _ _ ps st ss (xd0.same (s05.trans s6) dr pok) e6 .none
  refine ⟨_,rfl,rfl,_,rfl,ite2 (fun c1=>?_) (fun c1=>?_)⟩
  ·exact ⟨(by show 2≤sizeLine; decide),fun q6 hq6=>none _ q6 (xo (Same.refl _) hq6) xg⟩
  have ox:=ox.resolve_left fun z=>c1 (decide_eq_true (by rw [z]))
  refine ⟨_,rfl,rfl,_,rfl,ite2 (fun c2=>?_) (fun c2=>?_)⟩
  ·exact ⟨(by show 2≤sizeLine; decide),fun q6 hq6=>none _ q6 (xo (Same.refl _) hq6) xg⟩
  have oy:=oy.resolve_left fun z=>c2 (decide_eq_true (by rw [z]))
  have dr5:=dr.same s05
  have po:=pok.ok p pin
  refine ⟨_,rfl,a,dx,_,rfl,s05 _ _ hpi,xax (by decide +kernel),_,rfl,_,rfl,_,rfl,a,dp,do_,w',h',ps,p,x,y,rfl,dr5.pic,pok.nn,po.nm,xhg pok.nn pin,ox.1,ox.2.1,oy.1,oy.2.1,fun p' hp' _=>⟨fun e=>ox.2.2 (List.mem_map.mpr ⟨p',hp',e⟩),fun e=>oy.2.2 (List.mem_map.mpr ⟨p',hp',e⟩)⟩,fun H6 k6 pc6=>?_⟩
  obtain ⟨ko,hko,kr⟩:=id dr5.sts
  have ndo:do_≠dp:=xak hko (s05 _ _ hkp) (fun z=>nomatch z)
  have dr6:Dr t H6 a dp do_ w' h' (ps.map (mvP p.nm x y)) st ss:=⟨pc6,⟨ko,k6 _ _ ndo hko,kr⟩,dr.ok,dr.pm,dr.lt,fun p' hp'=>by
   obtain ⟨p0,hp0,rfl⟩:=List.mem_map.mp hp'
   unfold mvP
   split
   ·exact dr.nm p0 hp0
   ·exact dr.nm p0 hp0⟩
  refine ⟨_,rfl,(by show 2≤sizeLine; decide),fun q7 hq7=>?_⟩
  have s7:Same H6 (upd H6 q7 (.tup [.str (Str.ofString "moves"),.str p.nm])):=xo (Same.refl _) hq7
  have g7:upd H6 q7 (.tup [.str (Str.ofString "moves"),.str p.nm]) q7=some (.tup [.str (Str.ofString "moves"),.str p.nm]):=xg
  revert s7 g7
  generalize upd H6 q7 (.tup [.str (Str.ofString "moves"),.str p.nm])=H7
  intro s7 g7
  exact q H7 q7 _ _ _ st ss ⟨fun b u n1 n2 e=>s7 _ _ (k6 _ _ n1 (s05 _ _ e)),dr6.same s7,xpe pok pin ox oy⟩ g7 .moves
end
end S35
set_option maxRecDepth 100000
set_option maxHeartbeats 4000000
namespace S35
open PySem L2 XL PyProof.Rows
section
variable {n:Nat} {g:TG} {σ:L2.St} {fr:List Nat} {tc:TT} {te:TE} {l:Addr} {H1:Hp} {Q:VK}
theorem xjv {x:Str} (hlen:x.cps.toList.length < sizeLine) (hl:H1 l=none) (p:Nat→Bool) (F:Nat→V→Hp→Prop) (stab:∀ i y H H',Tp H H'→F i y H→F i y H')
    (step:∀ (i:Nat) c (H2:Hp),x.cps.toList[i]?=some c→Same H1 H2→∀ (N:V→Hp→Prop) (M:Hp→Prop),(∀ y H',Same H2 H'→p i=true→F i y H'→N y H')→(∀ H',Same H2 H'→p i=false→M H')→g (sgn c) (blk0 σ fr n) H2 fun σ' H3=>tc σ' H3 fun b H4=>if b=true then te σ' H4 N else M H4)
    (fin:∀ ys H2,Same H1 H2→H2 l=some (.lst ys)→ys.length=((List.range x.cps.toList.length).filter p).length→(∀ (j:Nat) (y:V) (i:Nat),ys[j]?=some y→((List.range x.cps.toList.length).filter p)[j]?=some i→F i y H2)→Q (.ref l) H2):xdk (Its x) n g σ fr tc te l H1 Q:=by
  refine xf6 x.cps.toList.length hlen hl (fun i=>sgn (x.cps.toList.getD i 0)) (fun i H lt s=>lt) (fun i H v H' lt s y=>?_) (fun H s=>Nat.le_refl _) p F stab (fun i H2 lt s N M h1 h2=>?_) fin
  · obtain ⟨e,c,hc,rfl⟩:=y
    refine ⟨e,?_⟩
    show sgn c=sgn (x.cps.toList.getD i 0)
    congr 1
    rw [List.getD_eq_getElem?_getD,hc]
    rfl
  · have e:x.cps.toList[i]?=some (x.cps.toList.getD i 0):=by
      rw [List.getD_eq_getElem?_getD,List.getElem?_eq_getElem lt]
      rfl
    exact step i _ H2 e s N M h1 h2
end
theorem xi7 (ns:List Int) (h:4≤ns.length):cutV (ns.map V.int) (some 4) none=(ns.drop 4).map V.int:=by
 unfold cutV
 simp only [HT.sIx,List.length_map]
 rw [if_neg (by decide),List.take_of_length_le (by rw [List.length_drop,List.length_map]; omega),List.map_drop]
 congr 1
 have:min (4:Int).toNat ns.length=4:=by
  rw [Nat.min_def]
  split
  ·rfl
  ·rename_i c
   exact absurd (show (4:Int).toNat≤ns.length from h) c
 exact this
section
variable {P:Program} {w:World} {K:PySem.W.Frag} {mg:Str→Option Value} {base:Heap} {t:Adr}
theorem ok_z (T:Txt w K mg t):FnOk true P w K mg base (CXo P w) 5 t.f_z t.d_z ["_law_picture_here", "_law_numbers_here"] (xif t):=by
 refine T.F_z.okn (k:=4) sc_z (fun vs H Q E h=>?_) (fun cdv A outer s H vs Q E hr h=>?_)
 ·obtain ⟨a,ln,dp,do_,w',h',ps,st,ss,ns,nm0,rfl,_⟩:=h
  rfl
 ·obtain ⟨a,ln,dp,do_,w',h',ps,st,ss,ns,nm0,rfl,h⟩:=h
  refine ⟨_,xb (xt (i:=2) sc_z.nd rfl (Or.inl rfl) (xbs (pv 0) T.c_k T.m_g (ok_g T) (hr.mono (by decide)) T.b_g .nil xm))
   (xb (xt (i:=3) sc_z.nd rfl (Or.inl rfl) (xv (ok_af T) (hr.mono (by decide)) rfl T.g_af T.F_af.kp T.b_af .nil xm (xa (xah (pv 0) rfl) (xa (xbb rfl (xat (zs:=["_law_point_here"]) (ys:=[]) (fr:=[]) (N0:=["_law_picture_here", "_law_numbers_here", "_law_points_here", "_law_x", "_law_y", "_law_had", "_law_letters", "_law_name"]) (sc0:=xi s_z) (by decide +kernel) rfl rfl rfl) (xal (pv 2)) (fun _ _ _ _ _ ow nd=>xr (i:=0) nd rfl (Or.inl (ow _ (by simp))) (Or.inr (ow _ (by simp)))) (xar (by decide)) (fun _ _ _ _ _=>xbk) (fun _ _ _ _ _=>xan (r:=rIxT K) xbl (pv 0) (xk) (fun _ _=>rfl))) (xa (xan xas (pv 1) (xk) (fun _ _=>rfl)) (xj))))))
   (xb (xt (i:=4) sc_z.nd rfl (Or.inl rfl) (xv (ok_af T) (hr.mono (by decide)) rfl T.g_af T.F_af.kp T.b_af .nil xm (xa (xah (pv 0) rfl) (xa (xbb rfl (xat (zs:=["_law_point_here"]) (ys:=[]) (fr:=[]) (N0:=["_law_picture_here", "_law_numbers_here", "_law_points_here", "_law_x", "_law_y", "_law_had", "_law_letters", "_law_name"]) (sc0:=xi s_z) (by decide +kernel) rfl rfl rfl) (xal (pv 2)) (fun _ _ _ _ _ ow nd=>xr (i:=0) nd rfl (Or.inl (ow _ (by simp))) (Or.inr (ow _ (by simp)))) (xar (by decide)) (fun _ _ _ _ _=>xbk) (fun _ _ _ _ _=>xan (r:=rIxT K) xbl (pv 0) (xk) (fun _ _=>rfl))) (xa (xan xas (pv 1) (xk) (fun _ _=>rfl)) (xj))))))
   (xb (xt (i:=5) sc_z.nd rfl (Or.inr rfl) (xbb rfl (xat (zs:=["_law_point_here"]) (ys:=[]) (fr:=[]) (N0:=["_law_picture_here", "_law_numbers_here", "_law_points_here", "_law_x", "_law_y", "_law_had", "_law_letters", "_law_name"]) (sc0:=xi s_z) (by decide +kernel) rfl rfl rfl) (xal (pv 2)) (fun _ _ _ _ _ ow nd=>xr (i:=0) nd rfl (Or.inl (ow _ (by simp))) (Or.inr (ow _ (by simp)))) (xar (by decide)) (fun _ _ _ _ _=>xbk) (fun _ _ _ _ _=>xan (r:=rIxT K) xbl (pv 0) (xk) (fun _ _=>rfl))))
   (xb (xbn rfl (xat (zs:=["_law_sign"]) (ys:=["_law_had"]) (fr:=[5]) (N0:=["_law_picture_here", "_law_numbers_here", "_law_points_here", "_law_x", "_law_y", "_law_had", "_law_letters", "_law_name"]) (sc0:=xi s_z) (by decide +kernel) rfl rfl rfl) (xnj (xaq)) (fun _ _ _ _ _ ow nd=>xr (i:=0) nd rfl (Or.inl (ow _ (by simp))) (Or.inr (ow _ (by simp)))) (xar (by decide)) (fun _ _ _ _ _=>xbp (xw (r:=rInV K true) (xcg (xa0 hr)) (pv 0) (pv 1) (by rfl))) (fun _ _ _ _ _=>pv 0) (j:=6) rfl (Or.inl rfl))
   (xb (xt (i:=7) sc_z.nd rfl (Or.inl rfl) (xan xas (pv 6) (x0 xaj (xan xas (pv 1) (xk) (fun _ _=>rfl)) (xav xa2 rfl T.n_len boot_len (xa (pv 6) (xj)))) (fun _ _=>rfl)))
   (xb (xag (PW.pt (xcl (xw xa5 (pv 3) (xk) (x6 _)) (xcl (xw xa5 (pv 4) (xk) (x6 _)) (xb6 (xw xpt (xav xa2 rfl T.n_len boot_len (xa (pv 2) (xj))) (xk) (x6 _)))))) (xn (xaa (xay (xa (xaq) (xa (xaq) (xj)))))) (x9))
   (xb (xaf (xv (ok_al T) (hr.mono (by decide)) rfl T.g_al T.F_al.kp T.b_al .nil xm (xa (pv 0) (xa (xv (ok_y T) (hr.mono (by decide)) rfl T.g_y T.F_y.kp T.b_y .nil xm (xa (pv 1) (xa (pv 7) (xa (pv 3) (xa (pv 4) (xa (xah (pv 0) rfl) (xj))))))) (xj)))))
   (xn (xaa (xay (xa (xaq) (xa (pv 7) (xj))))))))))))),?_⟩
  obtain ⟨dr,pok,hln,n7,_,q⟩:=h
  have p12:=pok.le
  obtain ⟨⟨dx,hpi⟩,⟨kp,hkp,_⟩,w1,w2,h1,h2,_⟩:=id dr.pic
  obtain ⟨n0,en0⟩:=xbc (ns:=ns) (i:=0) (by omega)
  obtain ⟨n1,en1⟩:=xbc (ns:=ns) (i:=1) (by omega)
  obtain ⟨n2,en2⟩:=xbc (ns:=ns) (i:=2) (by omega)
  refine ⟨_,rfl,a,dx,_,rfl,hpi,xax (by decide +kernel),a,dp,do_,w',h',ps,rfl,dr.pic,fun H1 lp qs s1 e1 pt1=>?_⟩
  have pll:=pt1.len
  have hpi1:=s1 _ _ hpi
  refine ⟨_,rfl,a,_,_,_,_,rfl,hpi1,T.c_k,T.n_aw,lkW,_,rfl,lp,rfl,⟨_,SqL.of e1⟩,fun l2 hl2=>?_⟩
  refine xbj (SqL.of e1) (by rw [List.length_map]; exact Nat.lt_of_le_of_lt (by omega:_≤1000) (by decide)) hl2 (fun i y _=>∃ p,ps[i]?=some p∧y=.int p.x) (fun _ _ _ _ _ z=>z) (fun i x H2 hx s2 N hN=>?_) (fun ys H2 s2 e2 ly fy=>?_)
  ·rw [List.getElem?_map,Option.map_eq_some_iff] at hx
   obtain ⟨qa,hqa,rfl⟩:=hx
   obtain ⟨p,hp,hpq⟩:=pt1.get hqa
   exact ⟨_,rfl,qa,_,1,.int p.x,rfl,rfl,SqT.of (s2 _ _ hpq),rfl,hN _ _ (Same.refl _) ⟨p,hp,rfl⟩⟩
  have ey:ys=(ps.map (·.x)).map V.int:=by
   refine xbx (by rw [ly,List.length_map,List.length_map,pll]) fun i y b hy hb=>?_
   obtain ⟨p,hp,rfl⟩:=fy i y hy
   rw [List.getElem?_map,hp] at hb
   cases hb
   rfl
  rw [ey] at e2
  have s02:=s1.trans s2
  refine ⟨_,rfl,ln,_,0,.int n0,rfl,rfl,SqL.of (s02 _ _ hln),en0,w',l2,ps.map (·.x),n0,rfl,by omega,e2,fun H3 x s3 ox=>?_⟩
  have s03:=s02.trans s3
  have hpi3:=s03 _ _ hpi
  have e3:=s3 _ _ (s2 _ _ e1)
  have pt3:=(pt1.keep (Same.tups s2)).keep (Same.tups s3)
  refine ⟨_,rfl,a,_,_,_,_,rfl,hpi3,T.c_k,T.n_ar,lkH,_,rfl,lp,rfl,⟨_,SqL.of e3⟩,fun l4 hl4=>?_⟩
  refine xbj (SqL.of e3) (by rw [List.length_map]; exact Nat.lt_of_le_of_lt (by omega:_≤1000) (by decide)) hl4 (fun i y _=>∃ p,ps[i]?=some p∧y=.int p.y) (fun _ _ _ _ _ z=>z) (fun i x H4 hx s4 N hN=>?_) (fun ys4 H4 s4 e4 ly4 fy4=>?_)
  ·rw [List.getElem?_map,Option.map_eq_some_iff] at hx
   obtain ⟨qa,hqa,rfl⟩:=hx
   obtain ⟨p,hp,hpq⟩:=pt3.get hqa
   exact ⟨_,rfl,qa,_,2,.int p.y,rfl,rfl,SqT.of (s4 _ _ hpq),rfl,hN _ _ (Same.refl _) ⟨p,hp,rfl⟩⟩
  have ey4:ys4=(ps.map (·.y)).map V.int:=by
   refine xbx (by rw [ly4,List.length_map,List.length_map,pll]) fun i y b hy hb=>?_
   obtain ⟨p,hp,rfl⟩:=fy4 i y hy
   rw [List.getElem?_map,hp] at hb
   cases hb
   rfl
  rw [ey4] at e4
  have s04:=s03.trans s4
  refine ⟨_,rfl,ln,_,1,.int n1,rfl,rfl,SqL.of (s04 _ _ hln),en1,h',l4,ps.map (·.y),n1,rfl,by omega,e4,fun H5 y s5 oy=>?_⟩
  have s05:=s04.trans s5
  have e5:=s5 _ _ (s4 _ _ e3)
  have pt5:=(pt3.keep (Same.tups s4)).keep (Same.tups s5)
  refine ⟨_,rfl,lp,rfl,⟨_,SqL.of e5⟩,fun l6 hl6=>?_⟩
  refine xbj (SqL.of e5) (by rw [List.length_map]; exact Nat.lt_of_le_of_lt (by omega:_≤1000) (by decide)) hl6 (fun i y _=>∃ p,ps[i]?=some p∧y=.str p.nm) (fun _ _ _ _ _ z=>z) (fun i x H6 hx s6 N hN=>?_) (fun ys6 H6 s6 e6 ly6 fy6=>?_)
  ·rw [List.getElem?_map,Option.map_eq_some_iff] at hx
   obtain ⟨qa,hqa,rfl⟩:=hx
   obtain ⟨p,hp,hpq⟩:=pt5.get hqa
   exact ⟨_,rfl,qa,_,0,.str p.nm,rfl,rfl,SqT.of (s6 _ _ hpq),rfl,hN _ _ (Same.refl _) ⟨p,hp,rfl⟩⟩
  have nn:(xq ps).length=ps.length:=by unfold xq; rw [List.length_map]
  have ey6:ys6=(xq ps).map V.str:=by
   refine xbx (by rw [ly6,List.length_map,pll]; exact nn.symm) fun i y b hy hb=>?_
   obtain ⟨p,hp,rfl⟩:=fy6 i y hy
   unfold xq at hb
   rw [List.getElem?_map,hp] at hb
   cases hb
   rfl
  rw [ey6] at e6
  refine ⟨abcS,rfl,by decide +kernel,fun l7 hl7=>?_⟩
  refine xjv (by decide +kernel) hl7 (fun i=>((abcS.cps.toList[i]?).map fun c=>!decide ((⟨#[c]⟩:Str) ∈ xq ps)).getD false) (fun i y _=>∃ c,abcS.cps.toList[i]?=some c∧y=.str ⟨#[c]⟩∧(⟨#[c]⟩:Str) ∉ xq ps) (fun _ _ _ _ _ z=>z) (fun i c H7 hc s7 N M hN hM=>?_) (fun ys7 H7 s7 e7 ly7 fy7=>?_)
  ·refine ⟨_,rfl,_,rfl,0,1,.str ⟨#[c]⟩,_,.str,xaz (s7 _ _ e6),by decide,by decide,_,rfl,ite2 (fun y=>?_) (fun y=>?_)⟩
   ·rw [if_pos rfl,xbv] at y
    exact ⟨_,rfl,hN _ _ (Same.refl _) (by rw [hc]; exact y) ⟨c,hc,rfl,by simpa using y⟩⟩
   ·rw [if_pos rfl,xbv] at y
    exact hM _ (Same.refl _) (by rw [hc]; exact Bool.eq_false_iff.mpr y)
  have yne:ys7≠[]:=fun z=>by
   have l0:((List.range abcS.cps.toList.length).filter fun i=>((abcS.cps.toList[i]?).map fun c=>!decide ((⟨#[c]⟩:Str) ∈ xq ps)).getD false).length=0:=by rw [← ly7,z]; rfl
   have sub:∀ s ∈ abcS.cps.toList.map (fun c=>(⟨#[c]⟩:Str)),s ∈ xq ps:=fun s hs=>by
    obtain ⟨c,hc,rfl⟩:=List.mem_map.mp hs
    obtain ⟨i,hi,ei⟩:=List.getElem_of_mem hc
    refine Classical.byContradiction fun no=>?_
    have m:i ∈ (List.range abcS.cps.toList.length).filter fun i=>((abcS.cps.toList[i]?).map fun c=>!decide ((⟨#[c]⟩:Str) ∈ xq ps)).getD false:=by
     rw [List.mem_filter,List.mem_range]
     refine ⟨hi,?_⟩
     rw [List.getElem?_eq_getElem hi,ei]
     simp [no]
    rw [List.length_eq_zero_iff.mp l0] at m
    exact nomatch m
   have nd:(abcS.cps.toList.map (fun c=>(⟨#[c]⟩:Str))).Nodup:=Drw.nd_map (fun a b e=>by
    have:=congrArg (fun s:Str=>s.cps.toList) e
    exact List.head_eq_of_cons_eq this) xkm
   have:=nd.length_le_of_subset (l₂:=xq ps) fun s hs=>sub s hs
   have l26:(abcS.cps.toList.map (fun c=>(⟨#[c]⟩:Str))).length=26:=by decide +kernel
   omega
  have s57:=s6.trans s7
  have s07:=s05.trans s57
  obtain ⟨j,v,gj,a1,a2,a3,a4⟩:=xis n2 (xs:=ys7) yne
  have jl:=(List.getElem?_eq_some_iff.mp gj).1
  obtain ⟨c,hc,rfl,nin⟩:=fy7 j v _ gj (List.getElem?_eq_getElem (by rw [← ly7]; exact jl))
  have inm:=xkz c (List.mem_of_getElem? hc)
  refine ⟨_,rfl,_,rfl,ln,_,2,.int n2,rfl,rfl,SqL.of (s07 _ _ hln),en2,_,rfl,l7,_,rfl,.inl (SqL.of e7),_,_,rfl,rfl,a4,l7,_,_,.str ⟨#[c]⟩,rfl,rfl,SqL.of e7,a3,?_⟩
  have none:∀ H8 q8,Same H7 H8→H8 q8=some (.tup [.str (Str.ofString "none"),.str (Str.ofString "")])→Q (.ref q8) H8:=fun H8 q8 s8 e8=>q H8 q8 _ _ ps st ss (xd0.same (s07.trans s8) dr pok) e8 .none
  refine ⟨_,rfl,rfl,_,rfl,ite2 (fun c1=>?_) (fun c1=>?_)⟩
  ·exact ⟨(by show 2≤sizeLine; decide),fun q6 hq6=>none _ q6 (xo (Same.refl _) hq6) xg⟩
  have ox:=ox.resolve_left fun z=>c1 (decide_eq_true (by rw [z]))
  refine ⟨_,rfl,rfl,_,rfl,ite2 (fun c2=>?_) (fun c2=>?_)⟩
  ·exact ⟨(by show 2≤sizeLine; decide),fun q6 hq6=>none _ q6 (xo (Same.refl _) hq6) xg⟩
  have oy:=oy.resolve_left fun z=>c2 (decide_eq_true (by rw [z]))
  refine ⟨_,rfl,lp,_,rfl,.inl (SqL.of (s57 _ _ e5)),_,_,rfl,rfl,_,rfl,ite2 (fun c3=>?_) (fun c3=>?_)⟩
  ·exact ⟨(by show 2≤sizeLine; decide),fun q6 hq6=>none _ q6 (xo (Same.refl _) hq6) xg⟩
  have p11:ps.length < 12:=by
   by_cases z:ps.length < 12
   ·exact z
   ·exact absurd (decide_eq_true (by rw [List.length_map,pll]; omega)) c3
  have hpi7:=s07 _ _ hpi
  refine ⟨_,rfl,_,rfl,_,rfl,_,rfl,_,rfl,_,rfl,a,_,_,_,_,rfl,hpi7,T.c_k,T.n_ar,lkH,ln,ns,⟨#[c]⟩,x,y,h',rfl,s07 _ _ hln,n7,by omega,fun H8 qp sd lo hi osd o1 o2 o3 s8 hqp=>?_⟩
  have s08:=s07.trans s8
  have dr8:=dr.same s08
  have pk:PtOk (w':Int) (h':Int) ⟨⟨#[c]⟩,x,y,sd,lo,hi⟩:=⟨inm,ox.1,ox.2.1,oy.1,oy.2.1,osd,o1,o2,o3⟩
  have un:∀ z ∈ ps,z.nm≠(⟨#[c]⟩:Str)∧z.x≠x∧z.y≠y:=fun z hz=>⟨fun e=>nin (List.mem_map.mpr ⟨z,hz,e⟩),fun e=>ox.2.2 (List.mem_map.mpr ⟨z,hz,e⟩),fun e=>oy.2.2 (List.mem_map.mpr ⟨z,hz,e⟩)⟩
  refine ⟨a,qp,dp,do_,w',h',ps,⟨⟨#[c]⟩,x,y,sd,lo,hi⟩,rfl,dr8.pic,hqp,pk,un,p11,fun H9 k9 pc9=>?_⟩
  obtain ⟨ko,hko,kr⟩:=id dr8.sts
  have ndo:do_≠dp:=xak hko (s08 _ _ hkp) (fun z=>nomatch z)
  have dr9:Dr t H9 a dp do_ w' h' (ps ++ [⟨⟨#[c]⟩,x,y,sd,lo,hi⟩]) st ss:=⟨pc9,⟨ko,k9 _ _ ndo hko,kr⟩,dr.ok,dr.pm,dr.lt,fun p' hp'=>by
   rcases List.mem_append.mp hp' with z | z
   ·exact dr.nm p' z
   ·rw [List.mem_singleton.mp z]
    exact inm⟩
  refine ⟨_,rfl,(by show 2≤sizeLine; decide),fun q10 hq10=>?_⟩
  have s10:Same H9 (upd H9 q10 (.tup [.str (Str.ofString "comes"),.str ⟨#[c]⟩])):=xo (Same.refl _) hq10
  have g10:upd H9 q10 (.tup [.str (Str.ofString "comes"),.str ⟨#[c]⟩]) q10=some (.tup [.str (Str.ofString "comes"),.str ⟨#[c]⟩]):=xg
  revert s10 g10
  generalize upd H9 q10 (.tup [.str (Str.ofString "comes"),.str ⟨#[c]⟩])=H10
  intro s10 g10
  refine q H10 q10 _ _ _ st ss ⟨fun b u m1 m2 e=>s10 _ _ (k9 _ _ m1 (s08 _ _ e)),dr9.same s10,?_⟩ g10 (Deed.comes (p:=⟨⟨#[c]⟩,x,y,sd,lo,hi⟩) fun z hz=>(un z hz).1)
  refine ⟨fun p' hp'=>?_,xc0 pok.nn fun z hz=>(un z hz).1,xc0 pok.nx fun z hz=>(un z hz).2.1,xc0 pok.ny fun z hz=>(un z hz).2.2,by rw [List.length_append,List.length_singleton]; omega⟩
  rcases List.mem_append.mp hp' with z | z
  ·exact pok.ok p' z
  ·rw [List.mem_singleton.mp z]
   exact pk
end
end S35
set_option maxRecDepth 100000
set_option maxHeartbeats 4000000
namespace S35
open PySem L2 XL PyProof.Rows
theorem xjn {a b c:Seat} (h:xa1 a b) (k:xa1 b c):xa1 a c:=by
 unfold xa1 at *
 rcases h with ⟨h1,h2⟩ | ⟨h1,h2⟩ <;> rcases k with ⟨k1,k2⟩ | ⟨k1,k2⟩
 ·exact .inl ⟨h1,k2⟩
 ·exact .inl ⟨h1,by rw [← k1]; exact h2⟩
 ·exact .inl ⟨by rw [h1]; exact k1,k2⟩
 ·exact .inr ⟨h1.trans k1,by omega⟩
theorem xi3 {a b:Seat} (h:a≠b):xa1 a b∨xa1 b a:=by
 obtain ⟨a1,a2⟩:=a
 obtain ⟨b1,b2⟩:=b
 unfold xa1
 cases a1 <;> cases b1
 ·have:a2≠b2:=fun e=>h (by rw [e])
  rcases Int.lt_or_gt_of_ne this with z | z
  ·exact .inl (.inr ⟨rfl,z⟩)
  ·exact .inr (.inr ⟨rfl,z⟩)
 ·exact .inr (.inl ⟨rfl,rfl⟩)
 ·exact .inl (.inl ⟨rfl,rfl⟩)
 ·have:a2≠b2:=fun e=>h (by rw [e])
  rcases Int.lt_or_gt_of_ne this with z | z
  ·exact .inl (.inr ⟨rfl,z⟩)
  ·exact .inr (.inr ⟨rfl,z⟩)
theorem lrAt (b:Int):∃ sb:Bool,atI [V.str (Str.ofString "left"),V.str (Str.ofString "right")] (b % 2)=some (.str (x4 sb)):=by
 have m:=xb5 b (show (0:Int) < 2 by decide)
 have:b % 2=0∨b % 2=1:=by omega
 rcases this with e | e
 ·exact ⟨true,by rw [e]; rfl⟩
 ·exact ⟨false,by rw [e]; rfl⟩
theorem xk9 (l:List Seat) (s:Seat):(l.filter fun z=>z != s).Perm (l.filter fun z=>decide (z≠s)):=by
 have e:(fun z:Seat=>z != s)=fun z=>decide (z≠s):=by
  funext z
  by_cases c:z=s
  ·subst c
   simp
  ·simp [c,bne_iff_ne]
 rw [e]
theorem xfr:∀ {ss:List Seat} {x:Seat},ss.Pairwise xa1→x ∉ ss→∃ srt:List Seat,srt.Perm (x :: ss)∧srt.Pairwise xa1
 | [],x,_,_=>⟨[x],List.Perm.refl _,List.pairwise_singleton _ _⟩
 | y :: r,x,h,nx=>by
  rw [List.pairwise_cons] at h
  rw [List.mem_cons,not_or] at nx
  by_cases c:xa1 x y
  ·refine ⟨x :: y :: r,List.Perm.refl _,List.pairwise_cons.mpr ⟨fun z hz=>?_,List.pairwise_cons.mpr h⟩⟩
   rcases List.mem_cons.mp hz with rfl | hz
   ·exact c
   ·exact xjn c (h.1 z hz)
  ·obtain ⟨srt,pm,lt⟩:=xfr h.2 nx.2
   refine ⟨y :: srt,(pm.cons y).trans (List.Perm.swap _ _ _),List.pairwise_cons.mpr ⟨fun z hz=>?_,lt⟩⟩
   rcases List.mem_cons.mp (pm.mem_iff.mp hz) with rfl | hz
   ·exact (xi3 nx.1).resolve_left c
   ·exact h.1 z hz
theorem xm0 {w h:Nat} {ps:List Pt} (pok:xb8 (w:Int) (h:Int) ps) (nm:Str):xb8 (w:Int) (h:Int) (ps.filter fun p=>decide (p.nm≠nm)):=by
 have sub:(ps.filter fun p=>decide (p.nm≠nm)).Sublist ps:=List.filter_sublist
 exact ⟨fun p hp=>pok.ok p (List.mem_filter.mp hp).1,(sub.map _).nodup pok.nn,(sub.map _).nodup pok.nx,(sub.map _).nodup pok.ny,Nat.le_trans (List.length_filter_le _ _) pok.le⟩
section
variable {P:Program} {w:World} {K:PySem.W.Frag} {mg:Str→Option Value} {base:Heap} {t:Adr}
theorem ok_ai (T:Txt w K mg t):FnOk true P w K mg base (CXo P w) 6 t.f_ai t.d_ai ["_law_picture_here", "_law_numbers_here"] (xms t):=by
 refine T.F_ai.okn (k:=5) sc_ai (fun vs H Q E h=>?_) (fun cdv A outer s H vs Q E hr h=>?_)
 ·obtain ⟨a,ln,dp,do_,w',h',ps,st,ss,ns,nm0,rfl,_⟩:=h
  rfl
 ·obtain ⟨a,ln,dp,do_,w',h',ps,st,ss,ns,nm0,rfl,h⟩:=h
  refine ⟨_,xb (xbn rfl (xat (zs:=["_law_point_here"]) (ys:=[]) (fr:=[]) (N0:=["_law_picture_here", "_law_numbers_here", "_law_names", "_law_way", "_law_side", "_law_row", "_law_name"]) (sc0:=xi s_ai) (by decide +kernel) rfl rfl rfl) (xal (xbs (pv 0) T.c_k T.m_g (ok_g T) (hr.mono (by decide)) T.b_g .nil xm)) (fun _ _ _ _ _ ow nd=>xr (i:=0) nd rfl (Or.inl (ow _ (by simp))) (Or.inr (ow _ (by simp)))) (xar (by decide)) (fun _ _ _ _ _=>xbk) (fun _ _ _ _ _=>xan (r:=rIxT K) xbl (pv 0) (xk) (fun _ _=>rfl)) (j:=2) rfl (Or.inl rfl))
   (xb (xt (i:=3) sc_ai.nd rfl (Or.inl rfl) (x0 xaj (xan xas (pv 1) (xk) (fun _ _=>rfl)) (xk)))
   (xb (xbf (xag (xw xep (pv 3) (xk) (x6 _)) (xb (xt (i:=4) sc_ai.nd rfl (Or.inl rfl) (xan xas (xbh (xa (xaq) (xa (xaq) (xj)))) (x0 xaj (xan xas (pv 1) (xk) (fun _ _=>rfl)) (xk)) (fun _ _=>rfl)))
   (xb (xt (i:=5) sc_ai.nd rfl (Or.inl rfl) (x0 xa7 (xk) (x0 xaj (xan xas (pv 1) (xk) (fun _ _=>rfl)) (xah (pv 0) rfl))))
   (xb (xbf (xag (xw (xg6 (xa0 hr)) (xay (xa (pv 4) (xa (pv 5) (xj)))) (xbs (pv 0) T.c_k T.m_m (ok_m T) (hr.mono (by decide)) T.b_m .nil xm) (by rfl)) (xb (xaf (xaw (pv 0) T.c_k T.m_i (ok_i T) (hr.mono (by decide)) T.b_i .nil xm (xa (pv 4) (xa (pv 5) (xj)))))
   (xn (xaa (xay (xa (xaq) (xa (xaq) (xj))))))) (x9)))
   (xb (xaf (xaw (pv 0) T.c_k T.m_f (ok_f T) (hr.mono (by decide)) T.b_f .nil xm (xa (pv 4) (xa (pv 5) (xj)))))
   (xn (xaa (xay (xa (xaq) (xa (xaq) (xj)))))))))) (x9)))
   (xb (xbf (xag (PW.pt (xcl (xw xep (pv 3) (xk) (x6 _)) (xb6 (xw (xda (xa0 hr)) (pv 2) (xbh (xj)) (x6 _))))) (xn (xaa (xv (ok_z T) (hr.mono (by decide)) rfl T.g_z T.F_z.kp T.b_z .nil xm (xa (pv 0) (xa (xcb xc5 (pv 1) (xb4 (xk)) xdu) (xj)))))) (x9)))
   (xb (xt (i:=6) sc_ai.nd rfl (Or.inl rfl) (xan xas (pv 2) (x0 xaj (xan xas (pv 1) (xk) (fun _ _=>rfl)) (xav xa2 rfl T.n_len boot_len (xa (pv 2) (xj)))) (fun _ _=>rfl)))
   (xb (xbf (xag (xw xa5 (pv 3) (xk) (x6 _)) (xn (xaa (xv (ok_ae T) (hr.mono (by decide)) rfl T.g_ae T.F_ae.kp T.b_ae .nil xm (xa (pv 0) (xa (xcb xc5 (pv 1) (xb4 (xk)) xdu) (xa (pv 6) (xj))))))) (x9)))
   (xb (xaf (xaw (pv 0) T.c_k T.m_p (ok_p T) (hr.mono (by decide)) T.b_p .nil xm (xa (pv 6) (xj))))
   (xn (xaa (xay (xa (xaq) (xa (pv 6) (xj)))))))))))),?_⟩
  obtain ⟨dr,pok,hln,n11,_,q⟩:=h
  have p12:=pok.le
  obtain ⟨⟨dx,hpi⟩,⟨kp,hkp,_⟩,w1,w2,h1,h2,_⟩:=id dr.pic
  obtain ⟨n0,en0⟩:=xbc (ns:=ns) (i:=0) (by omega)
  obtain ⟨n1,en1⟩:=xbc (ns:=ns) (i:=1) (by omega)
  obtain ⟨n2,en2⟩:=xbc (ns:=ns) (i:=2) (by omega)
  obtain ⟨n3,en3⟩:=xbc (ns:=ns) (i:=3) (by omega)
  refine ⟨_,rfl,a,dx,_,rfl,hpi,xax (by decide +kernel),a,dp,do_,w',h',ps,rfl,dr.pic,fun H1 lp qs s1 e1 pt1=>?_⟩
  have pll:=pt1.len
  refine ⟨lp,rfl,⟨_,SqL.of e1⟩,fun l2 hl2=>?_⟩
  refine xbj (SqL.of e1) (by rw [List.length_map]; exact Nat.lt_of_le_of_lt (by omega:_≤1000) (by decide)) hl2 (fun i y _=>∃ p,ps[i]?=some p∧y=.str p.nm) (fun _ _ _ _ _ z=>z) (fun i x H2 hx s2 N hN=>?_) (fun ys H2 s2 e2 ly fy=>?_)
  ·rw [List.getElem?_map,Option.map_eq_some_iff] at hx
   obtain ⟨qa,hqa,rfl⟩:=hx
   obtain ⟨p,hp,hpq⟩:=pt1.get hqa
   exact ⟨_,rfl,qa,_,0,.str p.nm,rfl,rfl,SqT.of (s2 _ _ hpq),rfl,hN _ _ (Same.refl _) ⟨p,hp,rfl⟩⟩
  have nn:(xq ps).length=ps.length:=by unfold xq; rw [List.length_map]
  have ey:ys=(xq ps).map V.str:=by
   refine xbx (by rw [ly,List.length_map,pll]; exact nn.symm) fun i y b hy hb=>?_
   obtain ⟨p,hp,rfl⟩:=fy i y hy
   unfold xq at hb
   rw [List.getElem?_map,hp] at hb
   cases hb
   rfl
  rw [ey] at e2
  have s02:=s1.trans s2
  have hln2:=s02 _ _ hln
  refine ⟨_,rfl,ln,_,0,.int n0,rfl,rfl,SqL.of hln2,en0,_,_,rfl,rfl,(by show (0:Int) < 6; decide),?_⟩
  refine ⟨fun σ H3=>H2=H3∧σ=[some (.ref a),some (.ref ln),some (.ref l2),some (.int (n0 % 6)),none,none,none],?_,?_⟩
  ·refine ⟨_,rfl,_,_,rfl,rfl,_,rfl,ite2 (fun c1=>?_) (fun c1=>⟨rfl,rfl⟩)⟩
   refine ⟨(by show 2≤sizeLine; decide),fun l3 hl3=>?_⟩
   have s3:Same H2 (upd H2 l3 (.lst [V.str (Str.ofString "left"),V.str (Str.ofString "right")])):=xo (Same.refl _) hl3
   have g3:upd H2 l3 (.lst [V.str (Str.ofString "left"),V.str (Str.ofString "right")]) l3=some (.lst [V.str (Str.ofString "left"),V.str (Str.ofString "right")]):=xg
   revert s3 g3
   generalize upd H2 l3 (.lst [V.str (Str.ofString "left"),V.str (Str.ofString "right")])=H3
   intro s3 g3
   have hln3:=s3 _ _ hln2
   have s03:=s02.trans s3
   obtain ⟨b,eb⟩:=lrAt n1
   refine ⟨_,rfl,ln,_,1,.int n1,rfl,rfl,SqL.of hln3,en1,_,_,rfl,rfl,(by show (0:Int) < 2; decide),l3,_,_,.str (x4 b),rfl,rfl,SqL.of g3,eb,?_⟩
   have hpi3:=s03 _ _ hpi
   refine ⟨_,rfl,ln,_,2,.int n2,rfl,rfl,SqL.of hln3,en2,_,rfl,a,_,_,_,_,rfl,hpi3,T.c_k,T.n_ar,lkH,_,_,rfl,rfl,(by show (0:Int) < (h':Int); omega),_,_,rfl,rfl,?_⟩
   have rb:=xb5 n2 (show (0:Int) < (h':Int) by omega)
   have ro:(1:Int)≤1 + n2 % (h':Int)∧1 + n2 % (h':Int)≤(h':Int):=by omega
   let r:Int:=1 + n2 % (h':Int)
   replace ro:(1:Int)≤r∧r≤(h':Int):=ro
   have dr3:=dr.same s03
   refine ⟨fun σ H4=>Same H3 H4∧(b,r) ∉ ss∧σ=[some (.ref a),some (.ref ln),some (.ref l2),some (.int (n0 % 6)),some (.str (x4 b)),some (.int r),none],?_,?_⟩
   ·refine ⟨_,rfl,_,rfl,(by show 2≤sizeLine; decide),fun kq hkq=>?_⟩
    have s4:Same H3 (upd H3 kq (.tup [.str (x4 b),.int r])):=xo (Same.refl _) hkq
    have g4:upd H3 kq (.tup [.str (x4 b),.int r]) kq=some (.tup [.str (x4 b),.int r]):=xg
    revert s4 g4
    generalize upd H3 kq (.tup [.str (x4 b),.int r])=H4
    intro s4 g4
    have dr4:=dr3.same s4
    have hpi4:=s4 _ _ hpi3
    refine ⟨_,rfl,a,dx,_,rfl,hpi4,xax (by decide +kernel),a,dp,do_,w',h',ps,st,rfl,dr4.pic,dr4.sts,fun l5 ss5 us hl5 sl4 pm' lt'=>?_⟩
    obtain rfl:ss5=ss:=xdl xec (pm'.trans dr.pm.symm) lt' dr.lt
    have s5:Same H4 (upd H4 l5 (.lst (us.map V.ref))):=xo (Same.refl _) hl5
    have g5:upd H4 l5 (.lst (us.map V.ref)) l5=some (.lst (us.map V.ref)):=xg
    revert s5 g5
    generalize upd H4 l5 (.lst (us.map V.ref))=H5
    intro s5 g5
    have s45:=s4.trans s5
    refine ⟨1,2,xdi (b,r),_,xil (s5 _ _ g4),(sl4.keep (Same.tups s5)).dv g5,by decide,by decide,_,rfl,ite2 (fun y=>?_) (fun y=>?_)⟩
    ·have min:(b,r) ∈ ss5:=by
      have y2:=y
      rw [if_neg (by decide),List.any_eq_true] at y2
      obtain ⟨d,hd,e⟩:=y2
      obtain ⟨s,hs,rfl⟩:=List.mem_map.mp hd
      rw [xlv] at e
      rw [← of_decide_eq_true e]
      exact hs
     have dr5:=dr3.same s45
     refine ⟨_,rfl,a,dx,_,rfl,s45 _ _ hpi3,xax (by decide +kernel),_,rfl,_,rfl,a,dp,do_,w',h',ps,st,b,r,rfl,dr5.pic,dr5.sts,ro.1,ro.2,dr.pm.mem_iff.mp min,fun H6 k6 pc6 st6=>?_⟩
     refine ⟨(by show 2≤sizeLine; decide),fun q7 hq7=>?_⟩
     have s7:Same H6 (upd H6 q7 (.tup [.str (Str.ofString "shut"),.str (Str.ofString "")])):=xo (Same.refl _) hq7
     have g7:upd H6 q7 (.tup [.str (Str.ofString "shut"),.str (Str.ofString "")]) q7=some (.tup [.str (Str.ofString "shut"),.str (Str.ofString "")]):=xg
     revert s7 g7
     generalize upd H6 q7 (.tup [.str (Str.ofString "shut"),.str (Str.ofString "")])=H7
     intro s7 g7
     have pm6:(ss5.filter fun s=>decide (s≠(b,r))).Perm (st.filter fun s=>decide (s≠(b,r))):=dr.pm.filter _
     have dr6:Dr t H6 a dp do_ w' h' ps (st.filter fun s=>decide (s≠(b,r))) (ss5.filter fun s=>decide (s≠(b,r))):=⟨pc6,st6,⟨List.Pairwise.filter _ dr.ok.1,Nat.le_trans (List.length_filter_le _ _) dr.ok.2.1,fun s hs=>dr.ok.2.2 s (List.mem_filter.mp hs).1⟩,pm6,dr.lt.filter _,dr.nm⟩
     have nd:=xdc dr.lt
     refine q H7 q7 _ _ ps _ _ ⟨fun c u m1 m2 e=>s7 _ _ (k6 _ _ m2 (s45 _ _ (s03 _ _ e))),dr6.same s7,pok⟩ g7 (Deed.shut (t:=(b,r)) (fun z=>by simpa using (List.mem_filter.mp z).2) ?_)
     exact (List.perm_cons_erase min).trans (List.Perm.cons _ (by rw [List.Nodup.erase_eq_filter nd]; exact xk9 _ _))
    ·exact ⟨s45,fun z=>y (by
      rw [if_neg (by decide),List.any_eq_true]
      exact ⟨_,List.mem_map.mpr ⟨_,z,rfl⟩,xa6 _⟩),rfl⟩
   rintro σ H4 ⟨s4,nin,rfl⟩
   have dr4:=dr3.same s4
   have nst:(b,r) ∉ st:=fun z=>nin (dr.pm.mem_iff.mpr z)
   refine ⟨_,rfl,a,dx,_,rfl,s4 _ _ hpi3,xax (by decide +kernel),_,rfl,_,rfl,a,dp,do_,w',h',ps,st,b,r,rfl,dr4.pic,dr4.sts,ro.1,ro.2,nst,xkb dr.ok (by omega) (s:=(b,r)) ro nst,fun H6 k6 pc6 st6=>?_⟩
   have l32:=xkb dr.ok (by omega) (s:=(b,r)) ro nst
   refine ⟨(by show 2≤sizeLine; decide),fun q7 hq7=>?_⟩
   have s7:Same H6 (upd H6 q7 (.tup [.str (Str.ofString "open"),.str (Str.ofString "")])):=xo (Same.refl _) hq7
   have g7:upd H6 q7 (.tup [.str (Str.ofString "open"),.str (Str.ofString "")]) q7=some (.tup [.str (Str.ofString "open"),.str (Str.ofString "")]):=xg
   revert s7 g7
   generalize upd H6 q7 (.tup [.str (Str.ofString "open"),.str (Str.ofString "")])=H7
   intro s7 g7
   obtain ⟨srt,pm,lt⟩:=xfr dr.lt nin
   have pm2:srt.Perm (st ++ [(b,r)]):=pm.trans ((dr.pm.cons _).trans (List.perm_append_singleton _ _).symm)
   have dr6:Dr t H6 a dp do_ w' h' ps (st ++ [(b,r)]) srt:=⟨pc6,st6,⟨by rw [List.nodup_append]; exact ⟨dr.ok.1,by simp,fun x hx y hy e=>nst (by rw [List.mem_singleton.mp hy] at e; exact e ▸ hx)⟩,by rw [List.length_append,List.length_singleton]; omega,fun s hs=>by
    rcases List.mem_append.mp hs with hs | hs
    ·exact dr.ok.2.2 s hs
    ·rw [List.mem_singleton.mp hs]
     exact ro⟩,pm2,lt,dr.nm⟩
   exact q H7 q7 _ _ ps _ _ ⟨fun c u m1 m2 e=>s7 _ _ (k6 _ _ m2 (s4 _ _ (s03 _ _ e))),dr6.same s7,pok⟩ g7 (Deed.opened nin pm)
  rintro σ _ ⟨rfl,rfl⟩
  have dr2:=dr.same s02
  have aft:∀ {H':Hp} {pp:List Pt} {st' ss':List Seat},xd0 t H2 H' a dp do_ w' h' pp st' ss'→xd0 t H H' a dp do_ w' h' pp st' ss':=fun {H' pp st' ss'} z=>⟨fun b u m1 m2 e=>z.1 b u m1 m2 (s02 _ _ e),z.2⟩
  have comes:∀ H3,Same H2 H3→∀ l3,H3 l3=none→xif t [.ref a,.ref l3] (upd H3 l3 (.lst ((ns.drop 4).map V.int))) Q (fun _ _ _=>False):=fun H3 s3 l3 hl3=>by
   have s4:Same H2 (upd H3 l3 (.lst ((ns.drop 4).map V.int))):=s3.trans (xo (Same.refl _) hl3)
   exact ⟨a,l3,dp,do_,w',h',ps,st,ss,ns.drop 4, "",rfl,dr2.same s4,pok,xg,by rw [List.length_drop]; omega,trivial,fun H' q' wd nm' pp st' ss' z e d=>q H' q' wd nm' pp st' ss' (aft ⟨fun b u m1 m2 e=>z.1 b u m1 m2 (s4 _ _ e),z.2⟩) e d⟩
  refine ⟨fun σ H3=>Same H2 H3∧xq ps≠[]∧σ=[some (.ref a),some (.ref ln),some (.ref l2),some (.int (n0 % 6)),none,none,none],?_,?_⟩
  ·refine ⟨_,rfl,_,_,rfl,rfl,_,rfl,ite2 (fun c1=>?_) (fun c1=>?_)⟩
   ·refine ⟨_,rfl,_,rfl,4,rfl,ln,_,rfl,SqL.of hln2,fun l3 hl3=>?_⟩
    rw [xi7 ns (by omega)]
    exact comes H2 (Same.refl _) l3 hl3
   ·refine ⟨_,rfl,(by show 0≤sizeLine; decide),fun y1 hy1=>?_⟩
    have s3:Same H2 (upd H2 y1 (.lst [])):=xo (Same.refl _) hy1
    have g3:upd H2 y1 (.lst []) y1=some (.lst []):=xg
    revert s3 g3
    generalize upd H2 y1 (.lst [])=H3
    intro s3 g3
    refine ⟨1,1,_,.lst [],xaz (s3 _ _ e2),.lst (SqL.of g3) rfl (xdm (xs:=[]) rfl),by decide,by decide,_,rfl,ite2 (fun c2=>?_) (fun c2=>⟨s3,fun z=>by rw [z] at c2; exact c2 rfl,rfl⟩)⟩
    refine ⟨_,rfl,_,rfl,4,rfl,ln,_,rfl,SqL.of (s3 _ _ hln2),fun l4 hl4=>?_⟩
    rw [xi7 ns (by omega)]
    exact comes H3 s3 l4 hl4
  rintro σ H3 ⟨s3,nne,rfl⟩
  have hln3:=s3 _ _ hln2
  have e3:=s3 _ _ e2
  obtain ⟨j,v,gj,a1,a2,a3,a4⟩:=xis n3 (xs:=(xq ps).map V.str) (fun z=>nne (List.map_eq_nil_iff.mp z))
  rw [List.getElem?_map,Option.map_eq_some_iff] at gj
  obtain ⟨nm,hnm,rfl⟩:=gj
  obtain ⟨p,pin,epn⟩:=List.mem_map.mp (List.mem_of_getElem? hnm)
  have epn:p.nm=nm:=epn
  subst epn
  refine ⟨_,rfl,_,rfl,ln,_,3,.int n3,rfl,rfl,SqL.of hln3,en3,_,rfl,l2,_,rfl,.inl (SqL.of e3),_,_,rfl,rfl,a4,l2,_,_,.str p.nm,rfl,rfl,SqL.of e3,a3,?_⟩
  refine ⟨fun σ H4=>H3=H4∧σ=[some (.ref a),some (.ref ln),some (.ref l2),some (.int (n0 % 6)),none,none,some (.str p.nm)],?_,?_⟩
  ·refine ⟨_,rfl,rfl,_,rfl,ite2 (fun c1=>?_) (fun c1=>⟨rfl,rfl⟩)⟩
   refine ⟨_,rfl,_,rfl,4,rfl,ln,_,rfl,SqL.of hln3,fun l4 hl4=>?_⟩
   rw [xi7 ns (by omega)]
   have s4:Same H3 (upd H3 l4 (.lst ((ns.drop 4).map V.int))):=xo (Same.refl _) hl4
   have g4:upd H3 l4 (.lst ((ns.drop 4).map V.int)) l4=some (.lst ((ns.drop 4).map V.int)):=xg
   revert s4 g4
   generalize upd H3 l4 (.lst ((ns.drop 4).map V.int))=H4
   intro s4 g4
   have s24:=s3.trans s4
   exact ⟨_,rfl,a,l4,dp,do_,w',h',ps,st,ss,ns.drop 4,p.nm,rfl,dr2.same s24,pok,g4,by rw [List.length_drop]; omega,⟨p,pin,rfl⟩,fun H' q' wd nm' pp st' ss' z e d=>q H' q' wd nm' pp st' ss' (aft ⟨fun b u m1 m2 e=>z.1 b u m1 m2 (s24 _ _ e),z.2⟩) e d⟩
  rintro σ _ ⟨rfl,rfl⟩
  have s03:=s02.trans s3
  have dr3:=dr2.same s3
  refine ⟨_,rfl,a,dx,_,rfl,s03 _ _ hpi,xax (by decide +kernel),_,rfl,a,dp,do_,w',h',ps,p.nm,p,rfl,dr3.pic,(pok.ok p pin).nm,xhg pok.nn pin,fun H4 k4 pc4=>?_⟩
  obtain ⟨ko,hko,kr⟩:=id dr3.sts
  have ndo:do_≠dp:=xak hko (s03 _ _ hkp) (fun z=>nomatch z)
  refine ⟨_,rfl,(by show 2≤sizeLine; decide),fun q5 hq5=>?_⟩
  have s5:Same H4 (upd H4 q5 (.tup [.str (Str.ofString "goes"),.str p.nm])):=xo (Same.refl _) hq5
  have g5:upd H4 q5 (.tup [.str (Str.ofString "goes"),.str p.nm]) q5=some (.tup [.str (Str.ofString "goes"),.str p.nm]):=xg
  revert s5 g5
  generalize upd H4 q5 (.tup [.str (Str.ofString "goes"),.str p.nm])=H5
  intro s5 g5
  have dr4:Dr t H4 a dp do_ w' h' (ps.filter fun z=>decide (z.nm≠p.nm)) st ss:=⟨pc4,⟨ko,k4 _ _ ndo hko,kr⟩,dr.ok,dr.pm,dr.lt,fun z hz=>dr.nm z (List.mem_filter.mp hz).1⟩
  exact q H5 q5 _ _ _ st ss ⟨fun b u m1 m2 e=>s5 _ _ (k4 _ _ m1 (s03 _ _ e)),dr4.same s5,xm0 pok p.nm⟩ g5 .goes
end
end S35
set_option maxRecDepth 100000
set_option maxHeartbeats 4000000
namespace S35
open PySem L2 XL PyProof.Rows
def xc2 (old new:List Str):Prop:=(∀ x ∈ old,x ∈ new)∧(new.filter fun z=>!decide (z ∈ old)).length < 2
inductive Stay (old new:List Str):Str→Str→Prop
 | comes {nm:Str} (h:(new.filter fun z=>decide (z≠nm))=old) (h':new.take old.length=old):Stay old new "comes" nm
 | opened {nm:Str} (h:xc2 old new):Stay old new "open" nm
 | shut {nm:Str} (h:xc2 new old):Stay old new "shut" nm
 | goes {nm:Str} (h:nm ∈ old) (h':xc2 (old.filter fun z=>decide (z≠nm)) new):Stay old new "goes" nm
 | gone {nm:Str} (h:nm ∉ old) (h':old=new):Stay old new "goes" nm
 | moves {nm:Str} (h:old=new):Stay old new "moves" nm
 | none {nm:Str} (h:old=new):Stay old new "none" nm
def xkr:Sp:=fun vs H Q _=>∃ (lo ln:Addr) (old new:List Str),vs=[.ref lo,.ref ln]∧H lo=some (.lst (old.map V.str))∧H ln=some (.lst (new.map V.str))∧old.length≤26∧new.length≤26∧xc2 old new∧∀ H',Same H H'→Q (.bl true) H'
def xmb:Sp:=fun vs H Q _=>∃ (lo ln:Addr) (old new:List Str) (wd nm:Str),vs=[.str wd,.str nm,.ref lo,.ref ln]∧H lo=some (.lst (old.map V.str))∧H ln=some (.lst (new.map V.str))∧old.length≤26∧new.length≤26∧Stay old new wd nm∧∀ H',Same H H'→Q (.bl true) H'
theorem xn7 {a b:Str} (h:a≠b):decide (V.str a=V.str b)=false:=decide_eq_false fun z=>h (by injection z)
theorem xio (a b:Str):(!decide (V.str a=V.str b))=decide (a≠b):=by
 by_cases c:a=b
 ·simp [c]
 ·rw [xn7 c,decide_eq_true c]
  rfl
theorem xma {xs:List Str} {n:Nat}:cutV (xs.map V.str) none (some (n:Int))=(xs.take n).map V.str:=by
 unfold cutV
 rw [HT.sIx_none,HT.sIx_nat,List.drop_zero,Nat.sub_zero,List.length_map,← List.map_take]
 congr 1
 rcases Nat.le_total n xs.length with c | c
 ·rw [Nat.min_eq_left c]
 ·rw [Nat.min_eq_right c,List.take_of_length_le c,List.take_of_length_le (Nat.le_refl _)]
section
variable {P:Program} {w:World} {K:PySem.W.Frag} {mg:Str→Option Value} {base:Heap} {t:Adr}
theorem ok_n (T:Txt w K mg t):FnOk true P w K mg base (CXo P w) 1 t.f_n t.d_n ["_law_old", "_law_new"] (xkr):=by
 refine T.F_n.okn (k:=0) sc_n (fun vs H Q E h=>?_) (fun cdv A outer s H vs Q E hr h=>?_)
 ·obtain ⟨lo,ln,old,new,rfl,_⟩:=h
  rfl
 ·obtain ⟨lo,ln,old,new,rfl,h⟩:=h
  refine ⟨_,xb (xbn rfl (xat (zs:=["_law_name"]) (ys:=["_law_old"]) (fr:=[0]) (N0:=["_law_old", "_law_new", "_law_fresh", "_law_gone"]) (sc0:=xi s_n) (by decide +kernel) rfl rfl rfl) (xal (pv 1)) (fun _ _ _ _ _ ow nd=>xr (i:=0) nd rfl (Or.inl (ow _ (by simp))) (Or.inr (ow _ (by simp)))) (xar (by decide)) (fun _ _ _ _ _=>xbp (xw (r:=rInV K true) (xcg (xa0 hr)) (pv 0) (pv 1) (by rfl))) (fun _ _ _ _ _=>pv 0) (j:=2) rfl (Or.inl rfl))
   (xb (xbn rfl (xat (zs:=["_law_name"]) (ys:=["_law_new"]) (fr:=[1]) (N0:=["_law_old", "_law_new", "_law_fresh", "_law_gone"]) (sc0:=xi s_n) (by decide +kernel) rfl rfl rfl) (xal (pv 0)) (fun _ _ _ _ _ ow nd=>xr (i:=0) nd rfl (Or.inl (ow _ (by simp))) (Or.inr (ow _ (by simp)))) (xar (by decide)) (fun _ _ _ _ _=>xbp (xw (r:=rInV K true) (xcg (xa0 hr)) (pv 0) (pv 1) (by rfl))) (fun _ _ _ _ _=>pv 0) (j:=3) rfl (Or.inl rfl))
   (xn (xaa (xcs (xbw (xda (xa0 hr)) (pv 3) (xbh (xj)) (x6 _)) (xd4 (xbw xep (xav xa2 rfl T.n_len boot_len (xa (pv 2) (xj))) (xk) (x6 _))))))),?_⟩
  obtain ⟨hlo,hln,o26,n26,⟨sub,two⟩,q⟩:=h
  refine ⟨_,rfl,ln,rfl,⟨_,SqL.of hln⟩,fun l1 hl1=>?_⟩
  refine xbi (SqL.of hln) (by rw [List.length_map]; exact Nat.lt_of_le_of_lt (by omega:_≤1000) (by decide)) hl1 (fun i=>((new[i]?).map fun z=>!decide (z ∈ old)).getD false) (fun i y _=>∃ z,new[i]?=some z∧y=.str z) (fun _ _ _ _ _ z=>z) (fun i x H2 hx s2 N M hN hM=>?_) (fun ys H2 s2 e2 ly fy=>?_)
  ·rw [List.getElem?_map,Option.map_eq_some_iff] at hx
   obtain ⟨z,hz,rfl⟩:=hx
   refine ⟨_,rfl,_,rfl,0,1,.str z,_,.str,xaz (s2 _ _ hlo),by decide,by decide,_,rfl,ite2 (fun y=>?_) (fun y=>?_)⟩
   ·rw [if_pos rfl,xbv] at y
    exact ⟨_,rfl,hN _ _ (Same.refl _) (by rw [hz]; exact y) ⟨z,hz,rfl⟩⟩
   ·rw [if_pos rfl,xbv] at y
    exact hM _ (Same.refl _) (by rw [hz]; exact Bool.eq_false_iff.mpr y)
  rw [List.length_map] at ly fy
  rw [xdp ly fy] at e2
  have hlo2:=s2 _ _ hlo
  have hln2:=s2 _ _ hln
  refine ⟨_,rfl,lo,rfl,⟨_,SqL.of hlo2⟩,fun l3 hl3=>?_⟩
  refine xbi (SqL.of hlo2) (by rw [List.length_map]; exact Nat.lt_of_le_of_lt (by omega:_≤1000) (by decide)) hl3 (fun i=>((old[i]?).map fun z=>!decide (z ∈ new)).getD false) (fun i y _=>∃ z,old[i]?=some z∧y=.str z) (fun _ _ _ _ _ z=>z) (fun i x H3 hx s3 N M hN hM=>?_) (fun ys3 H3 s3 e3 ly3 fy3=>?_)
  ·rw [List.getElem?_map,Option.map_eq_some_iff] at hx
   obtain ⟨z,hz,rfl⟩:=hx
   refine ⟨_,rfl,_,rfl,0,1,.str z,_,.str,xaz (s3 _ _ hln2),by decide,by decide,_,rfl,ite2 (fun y=>?_) (fun y=>?_)⟩
   ·rw [if_pos rfl,xbv] at y
    exact ⟨_,rfl,hN _ _ (Same.refl _) (by rw [hz]; exact y) ⟨z,hz,rfl⟩⟩
   ·rw [if_pos rfl,xbv] at y
    exact hM _ (Same.refl _) (by rw [hz]; exact Bool.eq_false_iff.mpr y)
  rw [List.length_map] at ly3 fy3
  have e0:(old.filter fun z=>!decide (z ∈ new))=[]:=List.filter_eq_nil_iff.mpr fun z hz=>by rw [decide_eq_true (sub z hz)]; decide
  rw [xdp ly3 fy3,e0] at e3
  refine ⟨_,rfl,(by show 0≤sizeLine; decide),fun y1 hy1=>?_⟩
  have s4:Same H3 (upd H3 y1 (.lst [])):=xo (Same.refl _) hy1
  have g4:upd H3 y1 (.lst []) y1=some (.lst []):=xg
  revert s4 g4
  generalize upd H3 y1 (.lst [])=H4
  intro s4 g4
  refine ⟨1,1,.lst [],.lst [],.lst (SqL.of (s4 _ _ e3)) rfl (xdm (xs:=[]) rfl),.lst (SqL.of g4) rfl (xdm (xs:=[]) rfl),by decide,by decide,?_⟩
  refine ⟨_,rfl,ifP (by rw [xa6]) ?_⟩
  refine ⟨_,rfl,l1,_,rfl,.inl (SqL.of (s4 _ _ (s3 _ _ e2))),_,_,rfl,rfl,?_⟩
  have r:decide ((((new.filter fun z=>!decide (z ∈ old)).map V.str).length:Int) < 2)=true:=decide_eq_true (by rw [List.length_map]; omega)
  show Q (.bl _) _
  rw [r]
  exact q _ ((s2.trans s3).trans s4)
theorem ok_ag (T:Txt w K mg t):FnOk true P w K mg base (CXo P w) 2 t.f_ag t.d_ag ["_law_word", "_law_name", "_law_old", "_law_new"] (xmb):=by
 refine T.F_ag.okn (k:=1) sc_ag (fun vs H Q E h=>?_) (fun cdv A outer s H vs Q E hr h=>?_)
 ·obtain ⟨lo,ln,old,new,wd,nm,rfl,_⟩:=h
  rfl
 ·obtain ⟨lo,ln,old,new,wd,nm,rfl,h⟩:=h
  refine ⟨_,xb (xbn rfl (xat (zs:=["_law_one"]) (ys:=["_law_name"]) (fr:=[1]) (N0:=["_law_word", "_law_name", "_law_old", "_law_new", "_law_others"]) (sc0:=xi s_ag) (by decide +kernel) rfl rfl rfl) (xal (pv 3)) (fun _ _ _ _ _ ow nd=>xr (i:=0) nd rfl (Or.inl (ow _ (by simp))) (Or.inr (ow _ (by simp)))) (xar (by decide)) (fun _ _ _ _ _=>xbp (xw xit (pv 0) (pv 1) (x6 _))) (fun _ _ _ _ _=>pv 0) (j:=4) rfl (Or.inl rfl))
   (xb (xbf (xag (xw xa5 (pv 0) (xaq) (x6 _)) (xn (xaa (xcs (xbw (xda (xa0 hr)) (pv 4) (pv 2) (x6 _)) (xd4 (xbw (xda (xa0 hr)) (xcb xc5 (pv 3) xdu (xb4 (xav xa2 rfl T.n_len boot_len (xa (pv 2) (xj))))) (pv 2) (x6 _)))))) (x9)))
   (xb (xbf (xag (xw xa5 (pv 0) (xaq) (x6 _)) (xn (xaa (xv (ok_n T) (hr.mono (by decide)) rfl T.g_n T.F_n.kp T.b_n .nil xm (xa (pv 2) (xa (pv 3) (xj)))))) (x9)))
   (xb (xbf (xag (xw xa5 (pv 0) (xaq) (x6 _)) (xn (xaa (xv (ok_n T) (hr.mono (by decide)) rfl T.g_n T.F_n.kp T.b_n .nil xm (xa (pv 3) (xa (pv 2) (xj)))))) (x9)))
   (xb (xbf (xag (PW.pt (xc8 (xw xa5 (pv 0) (xaq) (x6 _)) (xc3 (xw (xg6 (xa0 hr)) (pv 1) (pv 2) (by rfl))))) (xn (xaa (xv (ok_n T) (hr.mono (by decide)) rfl T.g_n T.F_n.kp T.b_n .nil xm (xa (xbb rfl (xat (zs:=["_law_one"]) (ys:=["_law_name"]) (fr:=[1]) (N0:=["_law_word", "_law_name", "_law_old", "_law_new", "_law_others"]) (sc0:=xi s_ag) (by decide +kernel) rfl rfl rfl) (xal (pv 2)) (fun _ _ _ _ _ ow nd=>xr (i:=0) nd rfl (Or.inl (ow _ (by simp))) (Or.inr (ow _ (by simp)))) (xar (by decide)) (fun _ _ _ _ _=>xbp (xw xit (pv 0) (pv 1) (x6 _))) (fun _ _ _ _ _=>pv 0)) (xa (pv 3) (xj)))))) (x9)))
   (xn (xaa (xbw (xda (xa0 hr)) (pv 2) (pv 3) (x6 _)))))))),?_⟩
  obtain ⟨hlo,hln,o26,n26,st,q⟩:=h
  refine ⟨_,rfl,ln,rfl,⟨_,SqL.of hln⟩,fun l1 hl1=>?_⟩
  refine xbi (SqL.of hln) (by rw [List.length_map]; exact Nat.lt_of_le_of_lt (by omega:_≤1000) (by decide)) hl1 (fun i=>((new[i]?).map fun z=>decide (z≠nm)).getD false) (fun i y _=>∃ z,new[i]?=some z∧y=.str z) (fun _ _ _ _ _ z=>z) (fun i x H2 hx s2 N M hN hM=>?_) (fun ys H2 s2 e2 ly fy=>?_)
  ·rw [List.getElem?_map,Option.map_eq_some_iff] at hx
   obtain ⟨z,hz,rfl⟩:=hx
   have nes:=xio z nm
   refine ⟨_,rfl,_,rfl,rfl,_,rfl,ite2 (fun y=>?_) (fun y=>?_)⟩
   ·exact ⟨_,rfl,hN _ _ (Same.refl _) (by rw [hz]; exact nes.symm.trans y) ⟨z,hz,rfl⟩⟩
   ·exact hM _ (Same.refl _) (by rw [hz]; exact nes.symm.trans (Bool.eq_false_iff.mpr y))
  rw [List.length_map] at ly fy
  rw [xdp ly fy] at e2
  have hlo2:=s2 _ _ hlo
  have hln2:=s2 _ _ hln
  cases st with
  | comes h h' =>
   refine ⟨fun _ _=>False,⟨_,rfl,rfl,_,rfl,ifP (by decide +kernel) ?_⟩,fun _ _ z=>z.elim⟩
   rw [h] at e2
   refine ⟨_,rfl,_,rfl,1,1,_,_,xaz e2,xaz hlo2,by decide,by decide,_,rfl,ifP (by rw [xa6]) ?_⟩
   refine ⟨_,rfl,_,rfl,lo,_,rfl,.inl (SqL.of hlo2),_,rfl,ln,_,rfl,SqL.of hln2,fun l3 hl3=>?_⟩
   rw [List.length_map,xma,h']
   have s3:Same H2 (upd H2 l3 (.lst (old.map V.str))):=xo (Same.refl _) hl3
   have g3:upd H2 l3 (.lst (old.map V.str)) l3=some (.lst (old.map V.str)):=xg
   revert s3 g3
   generalize upd H2 l3 (.lst (old.map V.str))=H3
   intro s3 g3
   refine ⟨_,rfl,1,1,_,_,xaz g3,xaz (s3 _ _ hlo2),by decide,by decide,?_⟩
   rw [xa6]
   exact q _ (s2.trans s3)
  | opened h =>
   refine ⟨fun σ H3=>H2=H3∧σ=[some (.str (Str.ofString "open")),some (.str nm),some (.ref lo),some (.ref ln),some (.ref l1)],⟨_,rfl,rfl,_,rfl,ifN (by decide +kernel) ⟨rfl,rfl⟩⟩,?_⟩
   rintro σ _ ⟨rfl,rfl⟩
   refine ⟨fun _ _=>False,⟨_,rfl,rfl,_,rfl,ifP (by decide +kernel) ?_⟩,fun _ _ z=>z.elim⟩
   exact ⟨_,rfl,_,rfl,lo,ln,old,new,rfl,hlo2,hln2,o26,n26,h,fun H' s'=>q _ (s2.trans s')⟩
  | shut h =>
   refine ⟨fun σ H3=>H2=H3∧σ=[some (.str (Str.ofString "shut")),some (.str nm),some (.ref lo),some (.ref ln),some (.ref l1)],⟨_,rfl,rfl,_,rfl,ifN (by decide +kernel) ⟨rfl,rfl⟩⟩,?_⟩
   rintro σ _ ⟨rfl,rfl⟩
   refine ⟨fun σ H3=>H2=H3∧σ=[some (.str (Str.ofString "shut")),some (.str nm),some (.ref lo),some (.ref ln),some (.ref l1)],⟨_,rfl,rfl,_,rfl,ifN (by decide +kernel) ⟨rfl,rfl⟩⟩,?_⟩
   rintro σ _ ⟨rfl,rfl⟩
   refine ⟨fun _ _=>False,⟨_,rfl,rfl,_,rfl,ifP (by decide +kernel) ?_⟩,fun _ _ z=>z.elim⟩
   exact ⟨_,rfl,_,rfl,ln,lo,new,old,rfl,hln2,hlo2,n26,o26,h,fun H' s'=>q _ (s2.trans s')⟩
  | goes h h' =>
   refine ⟨fun σ H3=>H2=H3∧σ=[some (.str (Str.ofString "goes")),some (.str nm),some (.ref lo),some (.ref ln),some (.ref l1)],⟨_,rfl,rfl,_,rfl,ifN (by decide +kernel) ⟨rfl,rfl⟩⟩,?_⟩
   rintro σ _ ⟨rfl,rfl⟩
   refine ⟨fun σ H3=>H2=H3∧σ=[some (.str (Str.ofString "goes")),some (.str nm),some (.ref lo),some (.ref ln),some (.ref l1)],⟨_,rfl,rfl,_,rfl,ifN (by decide +kernel) ⟨rfl,rfl⟩⟩,?_⟩
   rintro σ _ ⟨rfl,rfl⟩
   refine ⟨fun σ H3=>H2=H3∧σ=[some (.str (Str.ofString "goes")),some (.str nm),some (.ref lo),some (.ref ln),some (.ref l1)],⟨_,rfl,rfl,_,rfl,ifN (by decide +kernel) ⟨rfl,rfl⟩⟩,?_⟩
   rintro σ _ ⟨rfl,rfl⟩
   refine ⟨fun _ _=>False,⟨_,rfl,rfl,_,rfl,ifP (by decide +kernel) ?_⟩,fun _ _ z=>z.elim⟩
   refine ⟨_,rfl,_,rfl,0,1,.str nm,_,.str,xaz hlo2,by decide,by decide,_,rfl,ifP (by rw [if_neg (by decide),xbv,decide_eq_true h]) ?_⟩
   refine ⟨_,rfl,lo,rfl,⟨_,SqL.of hlo2⟩,fun l5 hl5=>?_⟩
   refine xbi (SqL.of hlo2) (by rw [List.length_map]; exact Nat.lt_of_le_of_lt (by omega:_≤1000) (by decide)) hl5 (fun i=>((old[i]?).map fun z=>decide (z≠nm)).getD false) (fun i y _=>∃ z,old[i]?=some z∧y=.str z) (fun _ _ _ _ _ z=>z) (fun i x H3 hx s3 N M hN hM=>?_) (fun ys3 H3 s3 e3 ly3 fy3=>?_)
   ·rw [List.getElem?_map,Option.map_eq_some_iff] at hx
    obtain ⟨z,hz,rfl⟩:=hx
    have nes:=xio z nm
    refine ⟨_,rfl,_,rfl,rfl,_,rfl,ite2 (fun y=>?_) (fun y=>?_)⟩
    ·exact ⟨_,rfl,hN _ _ (Same.refl _) (by rw [hz]; exact nes.symm.trans y) ⟨z,hz,rfl⟩⟩
    ·exact hM _ (Same.refl _) (by rw [hz]; exact nes.symm.trans (Bool.eq_false_iff.mpr y))
   rw [List.length_map] at ly3 fy3
   rw [xdp ly3 fy3] at e3
   exact ⟨_,rfl,l5,ln,_,new,rfl,e3,s3 _ _ hln2,Nat.le_trans (List.length_filter_le _ _) o26,n26,h',fun H' s'=>q _ ((s2.trans s3).trans s')⟩
  | gone h h' =>
   refine ⟨fun σ H3=>H2=H3∧σ=[some (.str (Str.ofString "goes")),some (.str nm),some (.ref lo),some (.ref ln),some (.ref l1)],⟨_,rfl,rfl,_,rfl,ifN (by decide +kernel) ⟨rfl,rfl⟩⟩,?_⟩
   rintro σ _ ⟨rfl,rfl⟩
   refine ⟨fun σ H3=>H2=H3∧σ=[some (.str (Str.ofString "goes")),some (.str nm),some (.ref lo),some (.ref ln),some (.ref l1)],⟨_,rfl,rfl,_,rfl,ifN (by decide +kernel) ⟨rfl,rfl⟩⟩,?_⟩
   rintro σ _ ⟨rfl,rfl⟩
   refine ⟨fun σ H3=>H2=H3∧σ=[some (.str (Str.ofString "goes")),some (.str nm),some (.ref lo),some (.ref ln),some (.ref l1)],⟨_,rfl,rfl,_,rfl,ifN (by decide +kernel) ⟨rfl,rfl⟩⟩,?_⟩
   rintro σ _ ⟨rfl,rfl⟩
   refine ⟨fun σ H3=>H2=H3∧σ=[some (.str (Str.ofString "goes")),some (.str nm),some (.ref lo),some (.ref ln),some (.ref l1)],⟨_,rfl,rfl,_,rfl,ifP (by decide +kernel) ⟨_,rfl,_,rfl,0,1,.str nm,_,.str,xaz hlo2,by decide,by decide,_,rfl,ifN (by rw [if_neg (by decide),xbv,decide_eq_false h]) ⟨rfl,rfl⟩⟩⟩,?_⟩
   rintro σ _ ⟨rfl,rfl⟩
   refine ⟨_,rfl,_,rfl,1,1,_,_,xaz hlo2,xaz hln2,by decide,by decide,?_⟩
   rw [h',xa6]
   exact q _ s2
  | moves h =>
   refine ⟨fun σ H3=>H2=H3∧σ=[some (.str (Str.ofString "moves")),some (.str nm),some (.ref lo),some (.ref ln),some (.ref l1)],⟨_,rfl,rfl,_,rfl,ifN (by decide +kernel) ⟨rfl,rfl⟩⟩,?_⟩
   rintro σ _ ⟨rfl,rfl⟩
   refine ⟨fun σ H3=>H2=H3∧σ=[some (.str (Str.ofString "moves")),some (.str nm),some (.ref lo),some (.ref ln),some (.ref l1)],⟨_,rfl,rfl,_,rfl,ifN (by decide +kernel) ⟨rfl,rfl⟩⟩,?_⟩
   rintro σ _ ⟨rfl,rfl⟩
   refine ⟨fun σ H3=>H2=H3∧σ=[some (.str (Str.ofString "moves")),some (.str nm),some (.ref lo),some (.ref ln),some (.ref l1)],⟨_,rfl,rfl,_,rfl,ifN (by decide +kernel) ⟨rfl,rfl⟩⟩,?_⟩
   rintro σ _ ⟨rfl,rfl⟩
   refine ⟨fun σ H3=>H2=H3∧σ=[some (.str (Str.ofString "moves")),some (.str nm),some (.ref lo),some (.ref ln),some (.ref l1)],⟨_,rfl,rfl,_,rfl,ifN (by decide +kernel) ⟨rfl,rfl⟩⟩,?_⟩
   rintro σ _ ⟨rfl,rfl⟩
   refine ⟨_,rfl,_,rfl,1,1,_,_,xaz hlo2,xaz hln2,by decide,by decide,?_⟩
   rw [h,xa6]
   exact q _ s2
  | none h =>
   refine ⟨fun σ H3=>H2=H3∧σ=[some (.str (Str.ofString "none")),some (.str nm),some (.ref lo),some (.ref ln),some (.ref l1)],⟨_,rfl,rfl,_,rfl,ifN (by decide +kernel) ⟨rfl,rfl⟩⟩,?_⟩
   rintro σ _ ⟨rfl,rfl⟩
   refine ⟨fun σ H3=>H2=H3∧σ=[some (.str (Str.ofString "none")),some (.str nm),some (.ref lo),some (.ref ln),some (.ref l1)],⟨_,rfl,rfl,_,rfl,ifN (by decide +kernel) ⟨rfl,rfl⟩⟩,?_⟩
   rintro σ _ ⟨rfl,rfl⟩
   refine ⟨fun σ H3=>H2=H3∧σ=[some (.str (Str.ofString "none")),some (.str nm),some (.ref lo),some (.ref ln),some (.ref l1)],⟨_,rfl,rfl,_,rfl,ifN (by decide +kernel) ⟨rfl,rfl⟩⟩,?_⟩
   rintro σ _ ⟨rfl,rfl⟩
   refine ⟨fun σ H3=>H2=H3∧σ=[some (.str (Str.ofString "none")),some (.str nm),some (.ref lo),some (.ref ln),some (.ref l1)],⟨_,rfl,rfl,_,rfl,ifN (by decide +kernel) ⟨rfl,rfl⟩⟩,?_⟩
   rintro σ _ ⟨rfl,rfl⟩
   refine ⟨_,rfl,_,rfl,1,1,_,_,xaz hlo2,xaz hln2,by decide,by decide,?_⟩
   rw [h,xa6]
   exact q _ s2
end
end S35
set_option maxRecDepth 100000
set_option maxHeartbeats 4000000
namespace S35
open PySem L2 XL PyProof.Rows
theorem xev {N N':List Str→Nat}:∀ {ns:List Str},(∀ S:List Str,(∀ x ∈ S,x ∈ ns)→N S=N' S)→Kp.keepN N ns=Kp.keepN N' ns:=by
 intro ns
 refine Kp.snoc_ind (P:=fun ns=>(∀ S:List Str,(∀ x ∈ S,x ∈ ns)→N S=N' S)→Kp.keepN N ns=Kp.keepN N' ns) (fun _=>rfl) (fun l a ih h=>?_) ns
 rw [Kp.keepN_snoc,Kp.keepN_snoc,ih fun S hS=>h S fun x hx=>List.mem_append_left _ (hS x hx)]
 have ks:=Kp.keepN_sub (N:=N') l
 generalize Kp.keepN N' l=K at *
 have:Kp.okN N K a=Kp.okN N' K a:=by
  unfold Kp.okN
  rw [Bool.eq_iff_iff,List.all_eq_true,List.all_eq_true]
  have e:∀ S ∈ Kp.subs K.reverse,N (a :: S)=N' (a :: S):=fun S hS=>h _ fun x hx=>by
   rcases List.mem_cons.mp hx with rfl | hx
   ·exact List.mem_append_right _ (List.mem_singleton.mpr rfl)
   ·exact List.mem_append_left _ (ks x (List.mem_reverse.mp ((Kp.subs_mem hS).1 x hx)))
  constructor
  ·intro k S hS
   rw [← e S hS]
   exact k S hS
  ·intro k S hS
   rw [e S hS]
   exact k S hS
 unfold Kp.stepN
 rw [this]
theorem xcx {room:Str→List Seat} {T:List Str} {s:Seat}:Kp.tog room T s=true ↔ ∃ n ∈ T,s ∈ room n:=by
 unfold Kp.tog
 rw [List.any_eq_true]
 simp only [decide_eq_true_iff]
abbrev rkOf (ps:List Pt) (ss:List Seat):List Str→Nat:=fun S=>ss.countP (Kp.tog (xao ps ss) S)
theorem xe0 (ps:List Pt) (ss:List Seat):xdt (xao ps ss) ss (xq ps)=Kp.keepN (rkOf ps ss) (xq ps):=rfl
theorem xl7 {ps pp:List Pt} {ss:List Seat} {S:List Str} (h:∀ n ∈ S,ps.find? (fun p=>decide (p.nm=n))=pp.find? fun p=>decide (p.nm=n)):rkOf ps ss S=rkOf pp ss S:=by
 refine List.countP_congr fun s hs=>?_
 have e:∀ n ∈ S,xao ps ss n=xao pp ss n:=fun n hn=>by
  unfold xao
  rw [h n hn]
 unfold Kp.tog
 rw [List.any_eq_true,List.any_eq_true]
 constructor
 ·rintro ⟨n,hn,k⟩
  exact ⟨n,hn,by rw [← e n hn]; exact k⟩
 ·rintro ⟨n,hn,k⟩
  exact ⟨n,hn,by rw [e n hn]; exact k⟩
theorem xly {K L es:List Str} {N:List Str→Nat} (ld:L.Nodup) (sub:∀ x ∈ K,x ∈ L) (mo:Kp.More N K L es):xc2 K L:=by
 refine ⟨sub,?_⟩
 have:=List.Nodup.length_le_of_subset (List.Pairwise.filter _ ld:(L.filter fun z=>!decide (z ∈ K)).Nodup) (l₂:=es) fun x hx=>by
  have k:=List.mem_filter.mp hx
  exact (mo.cov x k.1).resolve_left fun z=>by
   have k2:=k.2
   rw [decide_eq_true z] at k2
   exact nomatch k2
 have:=mo.le
 omega
theorem xg3 {ps:List Pt} {ss ss':List Seat} {n:Str} {s:Seat} (h:s ∈ ss) (h':s ∈ ss'):s ∈ xao ps ss n ↔ s ∈ xao ps ss' n:=by
 unfold xao
 split
 ·rw [List.mem_filter,List.mem_filter]
  exact ⟨fun z=>⟨h',z.2⟩,fun z=>⟨h,z.2⟩⟩
 ·exact Iff.rfl
theorem xg2 {ps:List Pt} {ss ss':List Seat} {t:Seat} (nd:(xq ps).Nodup) (pm:ss'.Perm (t :: ss)):xc2 (Kp.keepN (rkOf ps ss) (xq ps)) (Kp.keepN (rkOf ps ss') (xq ps)):=by
 have e:∀ S,rkOf ps ss' S=rkOf ps ss S + (if Kp.tog (xao ps ss') S t=true then 1 else 0):=fun S=>by
  show ss'.countP _=ss.countP _ + _
  rw [pm.countP_eq,List.countP_cons]
  congr 1
  refine List.countP_congr fun s hs=>?_
  have hs':s ∈ ss':=pm.mem_iff.mpr (List.mem_cons_of_mem _ hs)
  rw [xcx,xcx]
  constructor
  ·rintro ⟨n,hn,k⟩
   exact ⟨n,hn,(xg3 hs hs').mpr k⟩
  ·rintro ⟨n,hn,k⟩
   exact ⟨n,hn,(xg3 hs hs').mp k⟩
 obtain ⟨sub,es,mo⟩:=Kp.seat_more (N:=rkOf ps ss) (N':=rkOf ps ss') (T:=fun S=>if Kp.tog (xao ps ss') S t=true then 1 else 0) (Kp.rk_tog _ _) (Kp.rk_tog _ _) e (fun S=>by
  show (if _ then 1 else 0)≤1
  split <;> omega) (fun {S R} h=>by
  show (if _ then 1 else 0)≤(if _ then 1 else 0)
  by_cases c:Kp.tog (xao ps ss') S t=true
  ·obtain ⟨n,hn,k⟩:=xcx.mp c
   rw [if_pos c,if_pos (xcx.mpr ⟨n,h n hn,k⟩)]
   exact Nat.le_refl _
  ·rw [if_neg c]
   exact Nat.zero_le _) nd
 exact xly (Kp.keepN_nd nd) sub mo
theorem Deed.stay {ps pp:List Pt} {ss ss':List Seat} {wd nm:Str} (nd:(xq ps).Nodup) (d:Deed ps ss wd nm pp ss'):Stay (Kp.keepN (rkOf ps ss) (xq ps)) (Kp.keepN (rkOf pp ss') (xq pp)) wd nm:=by
 cases d with
 | none=>exact .none rfl
 | @comes p h =>
  have np:p.nm ∉ xq ps:=fun z=>by
   obtain ⟨p',hp',e⟩:=List.mem_map.mp z
   exact h p' hp' e
  have en:xq (ps ++ [p])=xq ps ++ [p.nm]:=by
   unfold xq
   rw [List.map_append]
   rfl
  have ek:Kp.keepN (rkOf (ps ++ [p]) ss) (xq ps)=Kp.keepN (rkOf ps ss) (xq ps):=xev fun S hS=>xl7 fun n hn=>by
   rw [List.find?_append]
   obtain ⟨p',hp',e⟩:=List.mem_map.mp (hS n hn)
   have e:p'.nm=n:=e
   subst e
   rw [xf1 nd hp']
   rfl
  rw [en,Kp.keepN_snoc,ek]
  have nk:p.nm ∉ Kp.keepN (rkOf ps ss) (xq ps):=fun z=>np (Kp.keepN_sub _ _ z)
  generalize Kp.keepN (rkOf ps ss) (xq ps)=K at *
  have fk:(K.filter fun z=>decide (z≠p.nm))=K:=List.filter_eq_self.mpr fun z hz=>decide_eq_true fun e=>nk (e ▸ hz)
  unfold Kp.stepN
  split
  ·refine .comes ?_ (List.take_left' rfl)
   rw [List.filter_append,fk,List.filter_cons_of_neg (by simp),List.filter_nil,List.append_nil]
  ·exact .comes fk (List.take_of_length_le (Nat.le_refl _))
 | moves =>
  refine .moves ?_
  rw [show xq (ps.map (mvP nm _ _))=xq ps from xjp nm _ _]
  congr 1
  funext S
  unfold rkOf
  rw [xmf]
 | goes =>
  have en:xq (ps.filter fun p=>decide (p.nm≠nm))=(xq ps).filter fun z=>decide (z≠nm):=by
   unfold xq
   rw [List.filter_map]
   rfl
  have ek:Kp.keepN (rkOf (ps.filter fun p=>decide (p.nm≠nm)) ss) ((xq ps).filter fun z=>decide (z≠nm))=Kp.keepN (rkOf ps ss) ((xq ps).filter fun z=>decide (z≠nm)):=xev fun S hS=>xl7 fun n hn=>by
   have k:=List.mem_filter.mp (hS n hn)
   obtain ⟨p',hp',e⟩:=List.mem_map.mp k.1
   have e:p'.nm=n:=e
   subst e
   have nd2:(xq (ps.filter fun p=>decide (p.nm≠nm))).Nodup:=by
    rw [en]
    exact List.Pairwise.filter _ nd
   rw [xf1 nd hp',xf1 nd2 (List.mem_filter.mpr ⟨hp',k.2⟩)]
  rw [en,ek]
  obtain ⟨p1,p2⟩:=Kp.point_less (Kp.rk_tog (xao ps ss) ss) nm nd
  by_cases c:nm ∈ Kp.keepN (rkOf ps ss) (xq ps)
  ·obtain ⟨sub,es,mo⟩:=p2 c
   refine .goes c ⟨fun x hx=>?_,?_⟩
   ·have k:=List.mem_filter.mp hx
    exact sub x k.1 (of_decide_eq_true k.2)
   ·have ld:(Kp.keepN (rkOf ps ss) ((xq ps).filter fun z=>decide (z≠nm))).Nodup:=Kp.keepN_nd (List.Pairwise.filter _ nd)
    have lin:=Kp.keepN_sub (N:=rkOf ps ss) ((xq ps).filter fun z=>decide (z≠nm))
    have:=List.Nodup.length_le_of_subset (List.Pairwise.filter _ ld:((Kp.keepN (rkOf ps ss) ((xq ps).filter fun z=>decide (z≠nm))).filter fun z=>!decide (z ∈ (Kp.keepN (rkOf ps ss) (xq ps)).filter fun z=>decide (z≠nm))).Nodup) (l₂:=es) fun x hx=>by
     have k:=List.mem_filter.mp hx
     refine (mo.cov x k.1).resolve_left fun z=>?_
     have k2:=k.2
     rw [decide_eq_true (List.mem_filter.mpr ⟨z,(List.mem_filter.mp (lin x k.1)).2⟩)] at k2
     exact nomatch k2
    have:=mo.le
    omega
  ·exact .gone c (p1 c).symm
 | opened h h'=>exact .opened (xg2 nd h')
 | shut h h'=>exact .shut (xg2 nd h')
section
variable {P:Program} {w:World} {K:PySem.W.Frag} {mg:Str→Option Value} {base:Heap} {t:Adr}
end
end S35
set_option maxRecDepth 100000
set_option maxHeartbeats 4000000
namespace S35
open PySem L2 XL PyProof.Rows
theorem xj2 (a b:Nat) (ns:List Int):∃ ms:List Int,cutV (ns.map V.int) (some (a:Int)) (some (b:Int))=ms.map V.int∧ms.length≤b - a:=by
 refine ⟨(ns.drop (min a ns.length)).take (min b ns.length - min a ns.length),?_,?_⟩
 ·unfold cutV
  rw [HT.sIx_nat,HT.sIx_nat,List.length_map,List.map_take,List.map_drop]
 ·rw [List.length_take]
  omega
def xgs (K:PySem.W.Frag):Sp:=fun vs H Q _=>∃ (a:Addr) (ns:List Int),vs=[.ref a]∧SqL K H a (ns.map V.int)∧ns.length≤63∧∀ H',Q (.bl true) H'
theorem xlh {ns:List Str} {cs:List (Str × List Str)}:(ns.filter fun z=>decide (z ∈ xa3 ns cs))=xa3 ns cs:=by
 refine List.filter_congr fun z hz=>?_
 rw [Bool.eq_iff_iff,decide_eq_true_iff]
 exact ⟨fun k=>(List.mem_filter.mp k).2,fun k=>List.mem_filter.mpr ⟨hz,k⟩⟩
section
variable {P:Program} {w:World} {K:PySem.W.Frag} {mg:Str→Option Value} {base:Heap} {t:Adr}
theorem xos (T:Txt w K mg t):FnOk true P w K mg base (CXo P w) 11 t.f_law t.d_law ["_law_script"] (xgs K):=by
 refine T.F_law.okn (k:=10) xbr (fun vs H Q E h=>?_) (fun cdv A outer s H vs Q E hr h=>?_)
 ·obtain ⟨sc,ns,rfl,_⟩:=h
  rfl
 ·obtain ⟨sc,ns,rfl,h⟩:=h
  refine ⟨_,xb (xfi (xv (ok_ad T) (hr.mono (by decide)) rfl T.g_ad T.F_ad.kp T.b_ad .nil xm (xa (pv 0) (xj))) (xby rfl (xad (xr (i:=1) xbr.nd rfl (Or.inl rfl)) (xad (xr (i:=2) xbr.nd rfl (Or.inl rfl)) (xbq)))))
   (xb (xt (i:=3) xbr.nd rfl (Or.inl rfl) (xbw xa5 (x0 xaj (xv (ok_o T) (hr.mono (by decide)) rfl T.g_o T.F_o.kp T.b_o .nil xm (xa (pv 0) (xa (xk) (xj)))) (xk)) (xk) (x6 _)))
   (xb (xt (i:=4) xbr.nd rfl (Or.inl rfl) (xv (ok_w T) (hr.mono (by decide)) rfl T.g_w T.F_w.kp T.b_w .nil xm (xa (xcb xc5 (pv 0) (xb4 (xk)) (xb4 (xk))) (xa (pv 3) (xa (pv 1) (xa (pv 2) (xj)))))))
   (xb (xt (i:=5) xbr.nd rfl (Or.inl rfl) (xv (ok_t T) (hr.mono (by decide)) rfl T.g_t T.F_t.kp T.b_t .nil xm (xa (pv 1) (xa (pv 2) (xa (pv 4) (xa (xv (ok_aa T) (hr.mono (by decide)) rfl T.g_aa T.F_aa.kp T.b_aa .nil xm (xa (pv 0) (xa (pv 2) (xj)))) (xj)))))))
   (xb (xt (i:=6) xbr.nd rfl (Or.inl rfl) (xv (xft T) (hr.mono (by decide)) rfl T.g_kept T.F_kept.kp T.b_kept .nil xm (xa (pv 5) (xj))))
   (xb (xb0 PassesOwn.never rfl (xdb rfl T.n_enumerate (xa (xcb xc5 (pv 0) (xb4 (xk)) (xb4 (xk))) (xj))) (xby rfl (xad (xr (i:=7) xbr.nd rfl (Or.inl rfl)) (xad (xr (i:=8) xbr.nd rfl (Or.inl rfl)) (xbq)))) (xb ((by (with_reducible refine' xfi ?e27 ?g28 ?s29 ?w30 ?h31); (case e27=>exact xv (ok_ai T) (hr.mono (by decide)) rfl T.g_ai T.F_ai.kp T.b_ai .nil xm (xa (pv 5) (xa (xv (ok_r T) (hr.mono (by decide)) rfl T.g_r T.F_r.kp T.b_r .nil xm (xa (pv 8) (xa (pv 3) (xa (xbh (x8 (xk) (x8 (xk) (x8 (xk) (x8 (xk) (x8 (xk) (x8 (xk) (x8 (xk) (x8 (xk) (x8 (xk) (x8 (xk) (x8 (xk) (xj) rfl) rfl) rfl) rfl) rfl) rfl) rfl) rfl) rfl) rfl) rfl)) (xj))))) (xj)))); (case g28=>exact xby rfl (xad (xr (i:=9) xbr.nd rfl (Or.inl rfl)) (xad (xr (i:=10) xbr.nd rfl (Or.inl rfl)) (xbq)))); (case s29=>rfl); (case w30=>rfl); (case h31=>rfl)))
   (xb (xt (i:=11) xbr.nd rfl (Or.inr rfl) (xv (xft T) (hr.mono (by decide)) rfl T.g_kept T.F_kept.kp T.b_kept .nil xm (xa (pv 5) (xj))))
   (xb (xbn rfl (xat (zs:=["_law_point_here"]) (ys:=[]) (fr:=[]) (N0:=["_law_script", "_law_width", "_law_height", "_law_digits", "_law_points_here", "_law_picture_here", "_law_old", "_law_k", "_law_cell", "_law_word", "_law_name", "_law_new", "_law_names", "_law_gone"]) (sc0:=xi xci) (by decide +kernel) rfl rfl rfl) (xal (xbs (pv 5) T.c_k T.m_g (ok_g T) (hr.mono (by decide)) T.b_g .nil xm)) (fun _ _ _ _ _ ow nd=>xr (i:=0) nd rfl (Or.inl (ow _ (by simp))) (Or.inr (ow _ (by simp)))) (xar (by decide)) (fun _ _ _ _ _=>xbk) (fun _ _ _ _ _=>xan (r:=rIxT K) xbl (pv 0) (xk) (fun _ _=>rfl)) (j:=12) rfl (Or.inl rfl))
   (xb (xbf (xag (PW.pt (xcl (xbu (xbe (xv (ok_ag T) (hr.mono (by decide)) rfl T.g_ag T.F_ag.kp T.b_ag .nil xm (xa (pv 9) (xa (pv 10) (xa (pv 6) (xa (pv 11) (xj)))))))) (xb6 (xw (xfj (xa0 hr)) (xbb rfl (xat (zs:=["_law_one"]) (ys:=["_law_new"]) (fr:=[11]) (N0:=["_law_script", "_law_width", "_law_height", "_law_digits", "_law_points_here", "_law_picture_here", "_law_old", "_law_k", "_law_cell", "_law_word", "_law_name", "_law_new", "_law_names", "_law_gone"]) (sc0:=xi xci) (by decide +kernel) rfl rfl rfl) (xal (pv 12)) (fun _ _ _ _ _ ow nd=>xr (i:=0) nd rfl (Or.inl (ow _ (by simp))) (Or.inr (ow _ (by simp)))) (xar (by decide)) (fun _ _ _ _ _=>xbp (xw (r:=rInV K false) (xg6 (xa0 hr)) (pv 0) (pv 1) (by rfl))) (fun _ _ _ _ _=>pv 0)) (pv 11) (x6 _))))) (xn (xaa (xi6))) (x9)))
   (xb (xbn rfl (xat (zs:=["_law_one"]) (ys:=["_law_new"]) (fr:=[11]) (N0:=["_law_script", "_law_width", "_law_height", "_law_digits", "_law_points_here", "_law_picture_here", "_law_old", "_law_k", "_law_cell", "_law_word", "_law_name", "_law_new", "_law_names", "_law_gone"]) (sc0:=xi xci) (by decide +kernel) rfl rfl rfl) (xal (pv 12)) (fun _ _ _ _ _ ow nd=>xr (i:=0) nd rfl (Or.inl (ow _ (by simp))) (Or.inr (ow _ (by simp)))) (xar (by decide)) (fun _ _ _ _ _=>xbp (xw (r:=rInV K true) (xcg (xa0 hr)) (pv 0) (pv 1) (by rfl))) (fun _ _ _ _ _=>pv 0) (j:=13) rfl (Or.inl rfl))
   (xb (xbf (xag (PW.pt (xc8 (xw xa5 (x0 xaj (pv 7) (xk)) (xk) (x6 _)) (xc3 (xw (xfj (xa0 hr)) (xbb rfl (xat (zs:=["_law_row"]) (ys:=[]) (fr:=[]) (N0:=["_law_script", "_law_width", "_law_height", "_law_digits", "_law_points_here", "_law_picture_here", "_law_old", "_law_k", "_law_cell", "_law_word", "_law_name", "_law_new", "_law_names", "_law_gone"]) (sc0:=xi xci) (by decide +kernel) rfl rfl rfl) (xal (xv (ok_ah T) (hr.mono (by decide)) rfl T.g_ah T.F_ah.kp T.b_ah .nil xm (xa (pv 5) (xj)))) (fun _ _ _ _ _ ow nd=>xr (i:=0) nd rfl (Or.inl (ow _ (by simp))) (Or.inr (ow _ (by simp)))) (xar (by decide)) (fun _ _ _ _ _=>xbk) (fun _ _ _ _ _=>xan (r:=rIxT K) xbl (pv 0) (xk) (fun _ _=>rfl))) (pv 13) (x6 _))))) (xn (xaa (xi6))) (x9)))
   (xn (xt (i:=6) xbr.nd rfl (Or.inl rfl) (pv 11))))))))))
   (xn (xaa (xbw (xda (xa0 hr)) (xv (xft T) (hr.mono (by decide)) rfl T.g_kept T.F_kept.kp T.b_kept .nil xm (xa (pv 5) (xj))) (pv 6) (x6 _))))))))),?_⟩
  obtain ⟨hs,nl,q⟩:=h
  refine ⟨_,rfl,sc,ns,rfl,hs,fun w' h' H1 p1 w1 w2 h1 h2 s1 g1=>⟨p1,_,rfl,SqT.of g1,rfl,_,_,rfl,_,_,rfl,rfl,?_⟩⟩
  refine ⟨_,rfl,sc,ns,0,rfl,Same.seqL s1 hs,by decide,by decide,fun c0=>⟨_,_,rfl,rfl,(by show (0:Int) < 2; decide),rfl,?_⟩⟩
  generalize (decide (V.int (c0 % 2)=V.int 1))=dg
  obtain ⟨ms,ems,m8⟩:=xj2 2 10 ns
  refine ⟨_,rfl,2,rfl,10,rfl,sc,_,rfl,Same.seqL s1 hs,fun lc hlc=>?_⟩
  rw [show cutV (ns.map V.int) (some 2) (some 10)=ms.map V.int from ems]
  have s3:Same H1 (upd H1 lc (.lst (ms.map V.int))):=xo (Same.refl _) hlc
  have g3:upd H1 lc (.lst (ms.map V.int)) lc=some (.lst (ms.map V.int)):=xg
  revert s3 g3
  generalize upd H1 lc (.lst (ms.map V.int))=H3
  intro s3 g3
  refine ⟨_,rfl,_,rfl,_,rfl,lc,ms,dg,w',h',rfl,g3,by omega,w1,w2,h1,h2,fun H4 lp ps qs pok pl9 s4 flp e4 pt4=>?_⟩
  have s04:=s1.trans (s3.trans s4)
  refine ⟨_,rfl,_,rfl,_,rfl,_,rfl,_,rfl,sc,ns,h',rfl,Same.seqL s04 hs,h2,fun ss rs H2 ls l32 slt sb s2 fls e2 sl2=>?_⟩
  have s02:=s04.trans s2
  have sok:SsOk (h':Int) ss:=⟨xdc slt,l32,sb⟩
  refine ⟨lp,ls,w',h',ps,ss,qs,rs,rfl,w1,w2,h1,h2,s2 _ _ e4,pt4.keep (Same.tups s2),pok,e2,sl2,sok,slt,fun H5 a dp do_ s5 dr5=>?_⟩
  have s05:=s02.trans s5
  refine ⟨_,rfl,a,dp,do_,w',h',ps,_,ss,rfl,dr5,pok.nn,fun H6 lk cs so ho s6 flk e6 run=>?_⟩
  have s06:=s05.trans s6
  have dr6:=dr5.same s6
  rw [run.keeps sok.1 xfu pok.nn,xe0] at e6
  obtain ⟨mm,emm,m48⟩:=xj2 10 58 ns
  refine ⟨_,rfl,10,rfl,58,rfl,sc,_,rfl,Same.seqL s06 hs,fun lm hlm=>?_⟩
  rw [show cutV (ns.map V.int) (some 10) (some 58)=mm.map V.int from emm]
  have s7:Same H6 (upd H6 lm (.lst (mm.map V.int))):=xo (Same.refl _) hlm
  have g7:upd H6 lm (.lst (mm.map V.int)) lm=some (.lst (mm.map V.int)):=xg
  revert s7 g7
  generalize upd H6 lm (.lst (mm.map V.int))=H7
  intro s7 g7
  have dr7:=dr6.same s7
  have e7:=s7 _ _ e6
  obtain ⟨_,⟨kp0,hkp0,_⟩,_⟩:=id dr6.pic
  obtain ⟨ko0,hko0,_⟩:=id dr6.sts
  have nlm:lm≠dp∧lm≠do_:=⟨Ne.symm (xf hkp0 hlm),Ne.symm (xf hko0 hlm)⟩
  refine ⟨lm,_,rfl,SqL.of g7,?_⟩
  refine xe6 (xs:=mm.map V.int) (Pv:=fun i σ H8=>∃ (v7 v8 v9 v10 v11 v12 v13:Option V) (lo:Addr) (pp:List Pt) (st ss:List Seat),σ=[some (.ref sc),some (.int (w':Int)),some (.int (h':Int)),some (.bl dg),some (.ref lp),some (.ref a),some (.ref lo),v7,v8,v9,v10,v11,v12,v13]∧(∀ b u,b≠dp→b≠do_→H7 b=some u→H8 b=some u)∧Dr t H8 a dp do_ w' h' pp st ss∧xb8 (w':Int) (h':Int) pp∧H8 lo=some (.lst ((Kp.keepN (rkOf pp ss) (xq pp)).map V.str))) ⟨_,_,_,_,_,_,_,lk,ps,_,ss,rfl,fun _ _ _ _ e=>e,dr7,pok,e7⟩ ?_ ?_ ?_
  ·rintro i σ H8 _ ⟨_,_,_,_,_,_,_,_,_,_,_,rfl,k8,_⟩
   exact SqL.of (k8 _ _ nlm.1 nlm.2 g7)
  ·rintro i x p σ H8 hx hp ⟨v7,v8,v9,v10,v11,v12,v13,lo,pp,st,ss,rfl,k8,dr8,pok8,e8⟩
   rw [List.getElem?_map,Option.map_eq_some_iff] at hx
   obtain ⟨cc,hcc,rfl⟩:=hx
   have s9:Same H8 (upd H8 p (.tup [.int (i:Int),.int cc])):=xo (Same.refl _) hp
   have g9:upd H8 p (.tup [.int (i:Int),.int cc]) p=some (.tup [.int (i:Int),.int cc]):=xg
   revert s9 g9
   generalize upd H8 p (.tup [.int (i:Int),.int cc])=H9
   intro s9 g9
   refine ⟨p,_,rfl,SqT.of g9,rfl,_,_,rfl,_,_,rfl,rfl,?_⟩
   refine ⟨_,rfl,_,rfl,_,rfl,(by show 11≤sizeLine; decide),fun lb hlb=>?_⟩
   have s10:Same H9 (upd H9 lb (.lst [V.int 6,V.int 2,V.int 16,V.int 12,V.int 30,V.int 16,V.int 26,V.int 4,V.int 16,V.int 16,V.int 3])):=xo (Same.refl _) hlb
   have g10:upd H9 lb (.lst [V.int 6,V.int 2,V.int 16,V.int 12,V.int 30,V.int 16,V.int 26,V.int 4,V.int 16,V.int 16,V.int 3]) lb=some (.lst [V.int 6,V.int 2,V.int 16,V.int 12,V.int 30,V.int 16,V.int 26,V.int 4,V.int 16,V.int 16,V.int 3]):=xg
   revert s10 g10
   generalize upd H9 lb (.lst [V.int 6,V.int 2,V.int 16,V.int 12,V.int 30,V.int 16,V.int 26,V.int 4,V.int 16,V.int 16,V.int 3])=H10
   intro s10 g10
   refine ⟨cc,dg,lb,[6,2,16,12,30,16,26,4,16,16,3],rfl,g10,by decide,by decide,fun H11 ln nums s11 fln e11 nl11=>?_⟩
   have s811:=(s9.trans s10).trans s11
   have dr11:=dr8.same s811
   refine ⟨a,ln,dp,do_,w',h',pp,st,ss,nums, "",rfl,dr11,pok8,e11,by rw [nl11]; decide,trivial,fun H12 q12 wd nm pq st' ss' aft e12 deed=>?_⟩
   refine ⟨q12,_,rfl,SqT.of e12,rfl,_,_,rfl,_,_,rfl,rfl,?_⟩
   obtain ⟨k12,dr12,pok12⟩:=aft
   obtain ⟨_,⟨kp1,hkp1,_⟩,_⟩:=id dr8.pic
   obtain ⟨ko1,hko1,_⟩:=id dr8.sts
   have nlo:lo≠dp∧lo≠do_:=⟨xak e8 hkp1 (fun z=>nomatch z),xak e8 hko1 (fun z=>nomatch z)⟩
   have e12o:=k12 _ _ nlo.1 nlo.2 (s811 _ _ e8)
   have k812:∀ b u,b≠dp→b≠do_→H7 b=some u→H12 b=some u:=fun b u m1 m2 e=>k12 _ _ m1 m2 (s811 _ _ (k8 _ _ m1 m2 e))
   have stay:=deed.stay pok8.nn
   have nd12:(xq pq).Nodup:=pok12.nn
   have snd:ss'.Nodup:=xdc dr12.lt
   refine ⟨_,rfl,a,dp,do_,w',h',pq,st',ss',rfl,dr12,nd12,fun H13 lw cs so ho s13 flw e13 run=>?_⟩
   have rk:=run.keeps snd xfu nd12
   rw [xe0] at rk
   rw [← rk] at stay
   have dr13:=dr12.same s13
   have p12:=pok12.le
   have o12:=pok8.le
   have nn:(xq pq).length=pq.length:=by unfold xq; rw [List.length_map]
   have nn8:(xq pp).length=pp.length:=by unfold xq; rw [List.length_map]
   obtain ⟨⟨dx,hpi⟩,_⟩:=id dr13.pic
   refine ⟨_,rfl,a,dx,_,rfl,hpi,xax (by decide +kernel),a,dp,do_,w',h',pq,rfl,dr13.pic,fun H14 lq qs s14 e14 pt14=>?_⟩
   have pll:=pt14.len
   refine ⟨lq,rfl,⟨_,SqL.of e14⟩,fun l2 hl2=>?_⟩
   refine xbj (SqL.of e14) (by rw [List.length_map]; exact Nat.lt_of_le_of_lt (by omega:_≤1000) (by decide)) hl2 (fun i y _=>∃ p,pq[i]?=some p∧y=.str p.nm) (fun _ _ _ _ _ z=>z) (fun i x H2 hx s2 N hN=>?_) (fun ys H15 s15 e15 ly fy=>?_)
   ·rw [List.getElem?_map,Option.map_eq_some_iff] at hx
    obtain ⟨qa,hqa,rfl⟩:=hx
    obtain ⟨p,hp,hpq⟩:=pt14.get hqa
    exact ⟨_,rfl,qa,_,0,.str p.nm,rfl,rfl,SqT.of (s2 _ _ hpq),rfl,hN _ _ (Same.refl _) ⟨p,hp,rfl⟩⟩
   have ey:ys=(xq pq).map V.str:=by
    refine xbx (by rw [ly,List.length_map,pll]; exact nn.symm) fun i y b hy hb=>?_
    obtain ⟨p,hp,rfl⟩:=fy i y hy
    unfold xq at hb
    rw [List.getElem?_map,hp] at hb
    cases hb
    rfl
   rw [ey] at e15
   have s1315:=s14.trans s15
   have s1215:=s13.trans s1315
   have e15w:=s1315 _ _ e13
   have kl:(xa3 (xq pq) cs).length≤12:=Nat.le_trans (List.length_filter_le _ _) (by omega)
   have ol:(Kp.keepN (rkOf pp ss) (xq pp)).length≤12:=Nat.le_trans (List.Nodup.length_le_of_subset (Kp.keepN_nd pok8.nn) fun x hx=>Kp.keepN_sub _ x hx) (by omega)
   refine ⟨fun σ H16=>Same H15 H16∧σ=[some (.ref sc),some (.int (w':Int)),some (.int (h':Int)),some (.bl dg),some (.ref lp),some (.ref a),some (.ref lo),some (.int (i:Int)),some (.int cc),some (.str wd),some (.str nm),some (.ref lw),some (.ref l2),v13],?_,?_⟩
   ·refine ⟨_,rfl,_,rfl,_,rfl,_,rfl,lo,lw,_,xa3 (xq pq) cs,wd,nm,rfl,s1215 _ _ e12o,e15w,by omega,by omega,stay,fun H16 s16=>?_⟩
    have e16:=s16 _ _ e15
    have e16w:=s16 _ _ e15w
    refine ⟨_,rfl,ifN (by decide) ?_⟩
    refine ⟨_,rfl,l2,rfl,⟨_,SqL.of e16⟩,fun l3 hl3=>?_⟩
    refine xbi (SqL.of e16) (by rw [List.length_map]; exact Nat.lt_of_le_of_lt (by omega:_≤1000) (by decide)) hl3 (fun i=>(((xq pq)[i]?).map fun z=>decide (z ∈ xa3 (xq pq) cs)).getD false) (fun i y _=>∃ z,(xq pq)[i]?=some z∧y=.str z) (fun _ _ _ _ _ z=>z) (fun i x H2 hx s2 N M hN hM=>?_) (fun ys3 H17 s17 e17 ly3 fy3=>?_)
    ·rw [List.getElem?_map,Option.map_eq_some_iff] at hx
     obtain ⟨z,hz,rfl⟩:=hx
     refine ⟨_,rfl,_,rfl,0,1,.str z,_,.str,xaz (s2 _ _ e16w),by decide,by decide,_,rfl,ite2 (fun y=>?_) (fun y=>?_)⟩
     ·rw [if_neg (by decide),xbv] at y
      exact ⟨_,rfl,hN _ _ (Same.refl _) (by rw [hz]; exact y) ⟨z,hz,rfl⟩⟩
     ·rw [if_neg (by decide),xbv] at y
      exact hM _ (Same.refl _) (by rw [hz]; exact Bool.eq_false_iff.mpr y)
    rw [List.length_map] at ly3 fy3
    rw [xdp ly3 fy3,xlh] at e17
    exact ⟨_,rfl,1,1,_,_,xaz e17,xaz (s17 _ _ e16w),by decide,by decide,_,rfl,ifN (by rw [xa6]; decide) ⟨s16.trans s17,rfl⟩⟩
   rintro σ H16 ⟨s16,rfl⟩
   have e16:=s16 _ _ e15
   have e16w:=s16 _ _ e15w
   refine ⟨_,rfl,l2,rfl,⟨_,SqL.of e16⟩,fun l3 hl3=>?_⟩
   refine xbi (SqL.of e16) (by rw [List.length_map]; exact Nat.lt_of_le_of_lt (by omega:_≤1000) (by decide)) hl3 (fun i=>(((xq pq)[i]?).map fun z=>!decide (z ∈ xa3 (xq pq) cs)).getD false) (fun i y _=>∃ z,(xq pq)[i]?=some z∧y=.str z) (fun _ _ _ _ _ z=>z) (fun i x H2 hx s2 N M hN hM=>?_) (fun ys3 H17 s17 e17 ly3 fy3=>?_)
   ·rw [List.getElem?_map,Option.map_eq_some_iff] at hx
    obtain ⟨z,hz,rfl⟩:=hx
    refine ⟨_,rfl,_,rfl,0,1,.str z,_,.str,xaz (s2 _ _ e16w),by decide,by decide,_,rfl,ite2 (fun y=>?_) (fun y=>?_)⟩
    ·rw [if_pos rfl,xbv] at y
     exact ⟨_,rfl,hN _ _ (Same.refl _) (by rw [hz]; exact y) ⟨z,hz,rfl⟩⟩
    ·rw [if_pos rfl,xbv] at y
     exact hM _ (Same.refl _) (by rw [hz]; exact Bool.eq_false_iff.mpr y)
   rw [List.length_map] at ly3 fy3
   rw [xdp ly3 fy3,← run.gone nd12] at e17
   have s1217:=(s1215.trans s16).trans s17
   refine ⟨fun σ H18=>Same H17 H18∧σ=[some (.ref sc),some (.int (w':Int)),some (.int (h':Int)),some (.bl dg),some (.ref lp),some (.ref a),some (.ref lo),some (.int (i:Int)),some (.int cc),some (.str wd),some (.str nm),some (.ref lw),some (.ref l2),some (.ref l3)],?_,?_⟩
   ·refine ⟨_,rfl,_,_,rfl,rfl,(by show (0:Int) < 4; decide),rfl,_,rfl,ite2 (fun y=>?_) (fun y=>⟨Same.refl _,rfl⟩)⟩
    refine ⟨_,rfl,a,dp,do_,w',h',pq,st',ss',rfl,dr12.same s1217,nd12,fun H18 l4 os cs2 so2 ho2 s18 fl4 e18 ol18 run2 _=>?_⟩
    obtain ⟨_,_,rfl⟩:=run.det run2
    have col:=run.outs.2
    have olen:=ol18.len
    refine ⟨l4,rfl,⟨_,SqL.of e18⟩,fun l5 hl5=>?_⟩
    refine xbj (SqL.of e18) (by rw [List.length_map]; exact Nat.lt_of_le_of_lt (by omega:_≤1000) (by decide)) hl5 (fun i y _=>∃ c,cs[i]?=some c∧y=.str c.1) (fun _ _ _ _ _ z=>z) (fun i x H2 hx s2 N hN=>?_) (fun ys5 H19 s19 e19 ly5 fy5=>?_)
    ·rw [List.getElem?_map,Option.map_eq_some_iff] at hx
     obtain ⟨qa,hqa,rfl⟩:=hx
     obtain ⟨c,lh,hc,hcq,_⟩:=ol18.get hqa
     exact ⟨_,rfl,qa,_,0,.str c.1,rfl,rfl,SqT.of (s2 _ _ hcq),rfl,hN _ _ (Same.refl _) ⟨c,hc,rfl⟩⟩
    have ey5:ys5=(cs.map (·.1)).map V.str:=by
     refine xbx (by rw [ly5,List.length_map,List.length_map,olen]) fun i y b hy hb=>?_
     obtain ⟨c,hc,rfl⟩:=fy5 i y hy
     rw [List.getElem?_map,hc] at hb
     cases hb
     rfl
    rw [ey5] at e19
    have s1719:=s18.trans s19
    exact ⟨_,rfl,1,1,_,_,xaz e19,xaz (s1719 _ _ e17),by decide,by decide,_,rfl,ifN (by rw [xa6]; decide) ⟨s1719,rfl⟩⟩
   rintro σ H18 ⟨s18,rfl⟩
   have s1218:=s1217.trans s18
   have e18w:=s18 _ _ (s17 _ _ e16w)
   rw [rk] at e18w
   exact ⟨_,rfl,_,_,_,_,_,_,_,lw,pq,st',ss',rfl,fun b u m1 m2 e=>s1218 _ _ (k812 b u m1 m2 e),dr12.same s1218,pok12,e18w⟩
  rintro σ H8 ⟨v7,v8,v9,v10,v11,v12,v13,lo,pp,st,ss,rfl,k8,dr8,pok8,e8⟩
  refine ⟨_,rfl,a,dp,do_,w',h',pp,st,ss,rfl,dr8,pok8.nn,fun H9 l9 cs so ho s9 fl9 e9 run=>?_⟩
  rw [run.keeps (xdc dr8.lt) xfu pok8.nn,xe0] at e9
  refine ⟨_,rfl,1,1,_,_,xaz e9,xaz (s9 _ _ e8),by decide,by decide,?_⟩
  rw [xa6]
  exact q _
end
end S35
namespace PySem.W.Fast
def tw16359581071080076723:=0
def tw6321691869310931480:=0
def tw827176224060213188:=0
def tw4320111671499445873:=0
def tw3379211777906167709:=0
def tw17602760445307787192:=0
def tw6619801271731148115:=0
def tw3641310647773209134:=0
def tw12766054403875197852:=0
def tw13109419416132788487:=0
def tw668735604213887075:=0
def tw17942068270031860692:=0
def tw17319006573762524624:=0
def tw13604616912084151495:=0
def tw15398271142907002458:=0
def tw10485956164877709718:=0
def tw5986785152119616814:=0
def tw10117081081006639739:=0
def tw16274035226164191392:=0
def tw15817632660716358553:=0
def tw1887933018805012896:=0
def tw533783792480774856:=0
def tw9928936121753375845:=0
def tw11521352484858298387:=0
def tw2134683935943801599:=0
def tw443430562489484506:=0
def tw13968883548577929164:=0
def tw581862742307438075:=0
def tw8246059514735944085:=0
def tw4937523989533027756:=0
def tw17323812393820517458:=0
def tw9581594071508107041:=0
def tw14748770069587274674:=0
def tw8210323121505649126:=0
def tw9025035558573951294:=0
def tw573877730238894365:=0
def tw3949703433305044130:=0
def tw7258699929360289324:=0
def tw9832020490764348662:=0
def tw1098405288156060335:=0
def tw813114007790115036:=0
def tw6915813051341480220:=0
def tw12756427283623960664:=0
def tw15467639412189205997:=0
def tw17483218888668178909:=0
def tw17839043320895460144:=0
def tw11818144537428861253:=0
def tw860236935712518552:=0
def tw4832176615500904783:=0
def tw17335734524923082074:=0
def tw7639556623865594062:=0
def tw16530511282333361342:=0
def tw11093231998911075728:=0
def tw2814661879779773870:=0
def tw17702878633200863308:=0
def tw4186191959791495772:=0
def tw6504446607249991527:=0
def tw17851029492472545623:=0
def tw1096750538834752281:=0
def tw487933554805345943:=0
def tw2211455593092753125:=0
def tw9606124797947300298:=0
def tw11975427516210145107:=0
def tw6939713733032514395:=0
def tw6271260019918510617:=0
def tw5798923302720638612:=0
def tw3365336020663560033:=0
def tw12018860259198595289:=0
def tw17346779793779029768:=0
def tw2092798044893115778:=0
def tw13339754333685195945:=0
def tw15830260872351188345:=0
def tw11883021636186750257:=0
def tw7304663975641694848:=0
def tw1877202101004967213:=0
def tw17292747313394422258:=0
def tw3150892195477987627:=0
def tw1797051669687255748:=0
def tw3712421644424747715:=0
def tw11702688843555409439:=0
def tw561127478995921235:=0
def tw10737218732146837960:=0
def tw6228135225755366840:=0
def tw11428625759409109971:=0
def tw6021642811313504453:=0
def tw16989896182401487976:=0
def tw15509482907962856691:=0
def tw17102767820587311978:=0
def tw3277912185524389147:=0
def tw8761760216365409360:=0
def tw1543187288795712995:=0
def tw9476352989535741493:=0
def tw10371035478403853418:=0
def tw1321287968343846897:=0
def tw7265156360811127390:=0
def tw2536445792127284757:=0
def tw4167262693606562329:=0
def tw3505718692416750788:=0
def tw6609944848288991454:=0
def tw823695423014587472:=0
def tw10847913271343578753:=0
def tw1143008292793483314:=0
def tw15517168868963947487:=0
def tw17394957026473920753:=0
def tw8675061626778168238:=0
def tw4161343047557340728:=0
def tw13899217716093282260:=0
def tw8584280061690371159:=0
def tw14718788453220558212:=0
def tw4255749531065834576:=0
def tw9233914544516015036:=0
def tw6961379287544981054:=0
def tw13119951825843803036:=0
def tw2516934889777536626:=0
def tw13263449708397888481:=0
def tw6134859820578077363:=0
def tw13877794335133812913:=0
def tw8367696483049112092:=0
def tw16481632740495170450:=0
def tw6104496566432482393:=0
def tw178713580342490795:=0
def tw12915770011096344679:=0
def tw15935094082404211203:=0
def tw13536635748131159869:=0
def tw5830766427656514253:=0
def tw284336433862611148:=0
def tw2432878467307173940:=0
def tw7511734312086318564:=0
def tw12803797905652119331:=0
def tw12315410851754428959:=0
def tw3327919535844103301:=0
def tw10761444744903588037:=0
def tw11251816202516370455:=0
def tw2185700223659885260:=0
def tw9815620841078979485:=0
def tw12441792677220641863:=0
def tw18335285046676258056:=0
def tw1072484418529483445:=0
def tw149505875797596967:=0
def tw16278971833854324034:=0
def tw8737478747538540638:=0
def tw17986726929493604337:=0
def tw14030752615331844381:=0
def tw9402366562760168400:=0
def tw601577152852932115:=0
def tw506771749843058830:=0
def tw18197477183716954122:=0
def tw6850607949329057037:=0
def tw12643427373076801816:=0
def tw15111798239358679982:=0
def tw8791634163864348688:=0
def tw4449520628302797105:=0
def tw16160704602283351459:=0
def tw17413346954194086161:=0
def tw823081054661007278:=0
def tw484389756333377489:=0
def tw6587462533038417240:=0
def tw17259095211563590415:=0
def tw9035965791735174643:=0
def tw14952894693390481113:=0
def tw5778457753192806123:=0
def tw16870789744411683870:=0
def tw15255466379316577431:=0
def tw12686878813421949381:=0
def tw12416703941756720573:=0
def tw346306372469734428:=0
def tw2588863538918961086:=0
def tw10668660526643113871:=0
def tw5602434835144092731:=0
def tw12669625689251481250:=0
def tw2056424402207074298:=0
def tw14962166030896909346:=0
def tw1943864500281823694:=0
def tw14280558595337783751:=0
def tw5980695132712694931:=0
def tw15623697901483486720:=0
def tw7489332702301253281:=0
def tw13781403459620680855:=0
def tw2921754617884506957:=0
def tw17721627024250654708:=0
def tw5463645970351352242:=0
def tw2527843016513525505:=0
def tw1770758348525942868:=0
def tw4835865170238491900:=0
def tw6698724131391600592:=0
def tw14744085210003509628:=0
def tw18013895991629250193:=0
def tw453503079690535077:=0
def tw1420075196655506578:=0
def tw12914067663884215853:=0
def tw11677334346357517577:=0
def tw13244353422151030782:=0
def tw16435499669826762759:=0
def tw2216852447107221618:=0
def tw15629585469759948219:=0
def tw14974214658985493850:=0
def tw7762347038945571944:=0
def tw9276718630428335246:=0
def tw12536299037543975843:=0
def tw13127902956020216117:=0
def tw2472595208821257539:=0
def tw10223104571561257048:=0
def tw11126849214110343410:=0
def tw7070763883169675090:=0
def tw13949256684811221112:=0
def tw6289585553088793907:=0
def tw9194131475789711927:=0
def tw17140580763548222990:=0
def tw9776905789927390897:=0
def tw10801692238600535240:=0
def tw17567428488364002800:=0
def tw12142409195197937321:=0
def tw7157300946524432186:=0
def tw8627138819827724067:=0
def tw4551041295076341065:=0
def tw757447439131300614:=0
def tw1324172366081567384:=0
def tw5150175099676699013:=0
def tw14075391176026951290:=0
def tw13819589599277533234:=0
def tw14659280568314579006:=0
def tw8464800071455780580:=0
def tw16977364753597499697:=0
def tw17302490621049209017:=0
def tw13885660116950070694:=0
def tw12633541107679189757:=0
def tw10942175945425712844:=0
def tw6397564533042925566:=0
def tw12858677222529994164:=0
def tw15878910661236604129:=0
def tw17856883180574715299:=0
def tw16831944197714835573:=0
def tw6332482509137037265:=0
def tw7902291435772510139:=0
def tw14562365167150891383:=0
def tw12811676547378717803:=0
def tw17113574624503986565:=0
def tw13983402732900859105:=0
def tw17477269294781432576:=0
def tw7666816538472238796:=0
def tw10371929400954052298:=0
def tw10413486790332948602:=0
def tw16153659010608140163:=0
def tw18243401844592522064:=0
def tw9691215880873090664:=0
def tw14765868827784093834:=0
def tw7339722626588186870:=0
def tw7015305835832353125:=0
def tw12853337219386009888:=0
def tw14563023846785738520:=0
def tw15373652193144161136:=0
def tw6131939120075169053:=0
def tw11343470050423396712:=0
def tw13029029489563640897:=0
def tw14739976445603345654:=0
def tw253274474333428335:=0
def tw11984189647945897210:=0
def tw6366674212560867884:=0
def tw4615862161682763360:=0
def tw2967461259388039061:=0
def tw7296946522155064775:=0
def tw761798322994487925:=0
def tw15136598932541332892:=0
def tw14872865560467602341:=0
def tw2134139347050483492:=0
def tw17546474245541790730:=0
def tw16327613690164880012:=0
def tw18445280464655349390:=0
def tw12252651445785480144:=0
def tw12718108386920099280:=0
def tw8676391081583570521:=0
def tw14829232837898273657:=0
def tw2090893338147647038:=0
def tw810989829517962136:=0
def tw17924452706359850049:=0
def tw9070609656801364761:=0
def tw2482717530094904978:=0
def tw12408752322133001120:=0
def tw14521613791531386816:=0
def tw12947849792172311507:=0
def tw13301343183850179357:=0
def tw16855378334854260939:=0
def tw17164450759994880378:=0
def tw15248762181768488281:=0
def tw7162704772708748556:=0
def tw12480813495255683851:=0
def tw5978378346968808765:=0
def tw3419272220241038562:=0
def tw7210819440574786439:=0
def tw9864105060272954394:=0
def tw2007758441180557273:=0
def tw16425980806129288380:=0
def tw17762866100075389461:=0
def tw12377526273995926081:=0
def tw15729946658965682527:=0
def tw770065432394666470:=0
def tw16776331669024514646:=0
def tw1850758704721293608:=0
def tw13659246848790594921:=0
def tw3002860702941030983:=0
def tw2939493061646824602:=0
def tw7166540451293713142:=0
def tw9790066050493230523:=0
def tw8716606342809872465:=0
def tw13940433772364359384:=0
def tw2110890017169239601:=0
def tw7348956441689332832:=0
def tw12344074087334756067:=0
def tw11746219887633599836:=0
def tw8231741653481795139:=0
def tw10206825834074017794:=0
def tw15417330521519892396:=0
def tw9453276240698845780:=0
def tw6447457035110661782:=0
def tw11044231236187433653:=0
def tw7050795645505668419:=0
def tw10065748481302743072:=0
def tw3071771416708451619:=0
def tw16952375012908213864:=0
def tw10281849762280612713:=0
def tw2167224638445867286:=0
def tw1307611579828964785:=0
def tw14171918508365644637:=0
def tw4402606405911431857:=0
def tw3441175224557426904:=0
def tw14996310235477950492:=0
def tw10014341965625686511:=0
def tw707747243972714720:=0
def tw5644115720180478006:=0
def tw6980069279479715889:=0
def tw18101367666449884182:=0
def tw13547743775187888685:=0
def tw17087788865562497944:=0
def tw1963193302943776738:=0
def tw9308921631379751941:=0
def tw11491593364248550749:=0
def tw16149285055063631334:=0
def tw13675342036269862940:=0
def tw4972668445024985684:=0
def tw8924295345184664507:=0
def tw2479975808129930330:=0
def tw17067007667503019708:=0
def tw384675789930902868:=0
def tw4108367074823468312:=0
def tw17714250895830037895:=0
def tw13556692890178658306:=0
def tw9035072553735887351:=0
def tw10603632246360648680:=0
def tw5541147339789389443:=0
def tw13162612961122714107:=0
def tw17151854286106488324:=0
def tw6821511982536721199:=0
def tw16295238093965295004:=0
def tw5157257350953002986:=0
def tw3380433826589327260:=0
def tw2296969992158371350:=0
def tw8884988643057397569:=0
def tw475701144197283850:=0
def tw12845931573519927975:=0
def tw3057278668457961052:=0
def tw5507384574123404402:=0
def tw12700412819491606699:=0
def tw12726233547877315614:=0
def tw2922930032144950806:=0
def tw2994440423521580684:=0
def tw12993288895079954729:=0
def tw10800138360274521664:=0
def tw14353015352308783451:=0
def tw12535704572273902283:=0
def tw8817821497541342420:=0
def tw12854440483788556314:=0
def tw7483607216699309889:=0
def tw16430434516771349849:=0
def tw7420961892862690828:=0
def tw13388894194510621844:=0
def tw11921936217199842874:=0
def tw9835558575591417525:=0
def tw3559764473222327471:=0
def tw13233613751117443121:=0
def tw3969633061456800774:=0
def tw2879285503642937191:=0
def tw15730959807509499208:=0
def tw11706558087506009109:=0
def tw9715537219560371920:=0
def tw681083577372193200:=0
def tw8647785407172925632:=0
def tw4611440802998968017:=0
def tw10049906410544744808:=0
def tw15286363668292117375:=0
def tw12572150437247919527:=0
def tw7459511135026153122:=0
def tw104416533610264688:=0
def tw9580073717141596118:=0
def tw14422123869994457172:=0
def tw5553121473985139637:=0
def tw15219818025999949758:=0
def tw4890389887113912356:=0
def tw12882375217664784803:=0
def tw17726761256203418630:=0
def tw363048961943016327:=0
def tw3920219652302727907:=0
def tw18140986756424587142:=0
def tw725152325637673583:=0
def tw1114936009861716981:=0
def tw10558212228506826607:=0
def tw12547102875787312113:=0
def tw5952668284772017135:=0
def tw7053540935454392813:=0
def tw10610022383977806423:=0
def tw7805081302914874543:=0
def tw14777134015470812094:=0
def tw9187526576565590551:=0
def tw14690984254588538079:=0
def tw7132329628986175367:=0
def tw12733475199330418979:=0
def tw3714384458549718110:=0
def tw6574324795034817526:=0
def tw14306103815269399369:=0
def tw9545063321705566145:=0
def tw16822904400058216829:=0
def tw7696455849019491358:=0
def tw4529523995649280919:=0
def tw12908924699973132540:=0
def tw4304080468545484140:=0
def tw6038995635362797012:=0
def tw7599448721788769670:=0
def tw9955496840582248370:=0
def tw13789175657971538949:=0
def tw8426701927153658877:=0
def tw9735200221268618841:=0
def tw3840385901676461948:=0
def tw13372850525259383931:=0
def tw17745765807014612676:=0
def tw14522384275511215350:=0
def tw1553885174477870990:=0
def tw8421672913128889564:=0
def tw18367609034476845557:=0
def tw17689928701566239665:=0
def tw5812110354859682203:=0
def tw7165854784584540233:=0
def tw10420552979264208726:=0
def tw10759606902698982197:=0
def tw678510695706591886:=0
def tw9748835838643917142:=0
def tw10420292810524019380:=0
def tw2298400863219687598:=0
def tw17496236006942523570:=0
def tw12738412179553722372:=0
def tw5624071663595713144:=0
def tw9998868275247459077:=0
def tw1440613565359093321:=0
def tw13217180614572764759:=0
def tw9397538607800656669:=0
def tw3157253888336164450:=0
def tw17462863881786556555:=0
def tw4077631498651113069:=0
def tw13566123226541256770:=0
def tw13251759507939226648:=0
def tw862197341702879970:=0
def tw12355280298920043258:=0
def tw15459773832698043340:=0
def tw16822229022923415265:=0
def tw15543030278476731650:=0
def tw11951899119131261130:=0
def tw8366788465890010067:=0
def tw12131696370968805585:=0
def tw1363200020593217084:=0
def tw1779546089893650558:=0
def tw3680120945677403465:=0
def tw10234206403153089703:=0
def tw16246010437174955056:=0
def tw17828054357621246407:=0
def tw14927025698461716686:=0
def tw15780964952920084408:=0
def tw8318318417886052335:=0
def tw8312862111096923542:=0
def tw17935420077789222659:=0
def tw3723613406992177465:=0
def tw5684996216990779176:=0
def tw2771224671931109827:=0
def tw6336897876122903225:=0
def tw12283802445912373681:=0
def tw11574542388407161632:=0
def tw18149882257044770861:=0
def tw4327836973044343289:=0
def tw12010195837407749846:=0
def tw4806933622631981482:=0
def tw10828730853890916914:=0
def tw605410108337507200:=0
def tw1444049696717115138:=0
def tw8452910738801150741:=0
def tw5060031859503073597:=0
def tw4854124324807489477:=0
def tw7351478293248654651:=0
def tw1045955547296804506:=0
def tw5544382052372305700:=0
def tw2850314124529911730:=0
def tw11463431078860525086:=0
def tw4648742531083308002:=0
def tw3458705481577905322:=0
def tw14958707886755802665:=0
def tw12446314315064608897:=0
def tw14350031844634715701:=0
def tw2867070996074860342:=0
def tw17295036578488439868:=0
def tw14359842594063486174:=0
def tw10996687539851954124:=0
def tw2161199937652238502:=0
def tw2647764440726769927:=0
def tw13466656996032791036:=0
def tw3690598888410326557:=0
def tw9076003374475734319:=0
def tw15081196509415015307:=0
def tw8081291014828901157:=0
def tw11215501631183490160:=0
def tw1324816642979708908:=0
def tw7551005757564116027:=0
def tw17948052880755028498:=0
def tw5503964868236810658:=0
def tw13776438200742752871:=0
def tw6634650516622583811:=0
def tw13944514763118712210:=0
def tw2316242692695681352:=0
def tw13027991260976787433:=0
def tw2680788874250706783:=0
def tw14590173265825713494:=0
def tw2408236351066304844:=0
def tw1587780612180723875:=0
def tw533143943188612716:=0
def tw11947927929780574684:=0
def tw1215832153430357506:=0
def tw12087546536636873678:=0
def tw9536903766463518030:=0
def tw893137545818814432:=0
def tw11244759297721885585:=0
def tw11935131689481689110:=0
def tw5383387425199012628:=0
def tw18393097373899432008:=0
def tw9091692655140158956:=0
def tw4732035925456623818:=0
def tw4190843470839741783:=0
def tw13192524948865161777:=0
def tw41178272571508617:=0
def tw12073177583986511697:=0
def tw18065961959403217367:=0
def tw18177729826135092217:=0
def tw5868717485563566532:=0
def tw7305253891639265801:=0
def tw10744676127199201119:=0
def tw2701921379501396961:=0
def tw1675149194083633215:=0
def tw13422417883490636086:=0
def tw10586574087923060759:=0
def tw6336783913209453733:=0
def tw3840847158005838055:=0
def tw16685311808228411568:=0
def tw1062532189554787891:=0
def tw14640495735498208360:=0
def tw2630280308662951286:=0
def tw14872939245925305471:=0
def tw477401167487196471:=0
def tw3822673587502673587:=0
def tw4293642026949933479:=0
def tw6911483736632753061:=0
def tw269734245260368278:=0
def tw2923674873805688252:=0
def tw12135927800694861661:=0
def tw5174247217378457925:=0
def tw10502706538745858054:=0
def tw8585258985524933611:=0
def tw11896719452323718617:=0
def tw3931603535714266570:=0
def tw11977349217442357367:=0
def tw17257008162310841019:=0
def tw18281857384811308095:=0
def tw8237535861623853918:=0
def tw13365795505742386127:=0
def tw14963154048181397034:=0
def tw4507967625959685314:=0
def tw13403625013711734068:=0
def tw17314620361812335027:=0
def tw13309197567846243579:=0
def tw9004973095734039167:=0
def tw7856600284970215243:=0
def tw16005085713926091552:=0
def tw3768430987486467270:=0
def tw10419572165678246685:=0
def tw15931862734165768592:=0
def tw18020297874675201190:=0
def tw5100182736118841114:=0
def tw7707524899003368104:=0
def tw14106919314365791164:=0
def tw1319750949592340046:=0
def tw4410827173284056986:=0
def tw16314479846042959372:=0
def tw16742553381643329789:=0
def tw13174633081689889627:=0
def tw8052688671113308802:=0
def tw1430510208655409755:=0
def tw12920115653153041321:=0
def tw716552445444482351:=0
def tw1909891407806508175:=0
def tw14274133869646997973:=0
def tw9548491582359377681:=0
def tw14998024085930125644:=0
def tw13060612234096771664:=0
def tw186462899778198138:=0
def tw9242183320729102804:=0
def tw5462957706507091793:=0
def tw18174960884847017144:=0
def tw4014529022104175873:=0
def tw8724367240641017420:=0
def tw1304170530397327285:=0
def tw10455730682832217976:=0
def tw5367081843908187912:=0
def tw5158206838607858883:=0
def tw2069108459101518926:=0
def tw15363722049100009419:=0
def tw11122604280889337941:=0
def tw7548755999340199977:=0
def tw10152531965948205623:=0
def tw9396756275378422645:=0
def tw10503184248793240081:=0
def tw15945683204692208872:=0
def tw744440199676743155:=0
def tw526240860850059574:=0
def tw12529876166451345180:=0
def tw18072389797813870651:=0
def tw3126809022153120714:=0
def tw1515952648451128356:=0
def tw9946182569716804844:=0
def tw15543376170492736215:=0
def tw375163364901366407:=0
def tw4198308233510727235:=0
def tw5666322155317305823:=0
def tw13576763734577682132:=0
def tw18050971425271470686:=0
def tw849037936874414555:=0
def tw14439502633847096737:=0
def tw9238034769357600217:=0
def tw17364425546049674097:=0
def tw8983515398753184667:=0
def tw10793926332631498211:=0
def tw13542510789859293575:=0
def tw7331552084958340101:=0
def tw240156010056092552:=0
def tw12689688206076179019:=0
def tw10257494545291751486:=0
def tw4082894112657009498:=0
def tw8485778330974567690:=0
def tw14434839453059468969:=0
def tw8616959551774388425:=0
def tw6126785344515048244:=0
def tw1430504650364990118:=0
def tw4155670768326158958:=0
def tw12223287295608992570:=0
def tw18323365321267274593:=0
def tw11341869533822170783:=0
def tw11170362101663403855:=0
def tw12889245858541905608:=0
def tw18312064084419387711:=0
def tw12039183352711625419:=0
def tw18065632217911349049:=0
def tw8396534800528336058:=0
def tw3623680006265147536:=0
def tw2249681393742835366:=0
def tw15289712782431636860:=0
def tw12424569312497166661:=0
def tw4668352545346365673:=0
def tw7725290781703410217:=0
def tw2285048528410557947:=0
def tw2721603218329923632:=0
def tw2145697055210555240:=0
def tw3726424878968003952:=0
def tw1792289871587152779:=0
def tw6340126022436331778:=0
def tw16830215293449854926:=0
def tw5175136560486474233:=0
def tw13341873166391873167:=0
def tw6834582614137599095:=0
def tw5353398266829122415:=0
def tw11813458322280807240:=0
def tw5441610569561703729:=0
def tw3202575464995309256:=0
def tw14136232926772593192:=0
def tw9340425858450399133:=0
def tw17352146879005212845:=0
def tw8158796266699318396:=0
def tw11598332507004722135:=0
def tw10861583986991352558:=0
def tw15177595863796443086:=0
def tw17176423157808810368:=0
def tw9103468805080171424:=0
def tw2239678615055368322:=0
def tw11330056585091414441:=0
def tw6063291422424444591:=0
def tw7251357464833798285:=0
def tw15685147763062659655:=0
def tw15782284010709633309:=0
def tw9139789985114490067:=0
def tw1480362538308684218:=0
def tw5670721913020848339:=0
def tw10124696205941928215:=0
def tw8088024768006985302:=0
def tw2270276583652830311:=0
def tw1681321874414335622:=0
def tw16050324824983293922:=0
def tw18298762632567925495:=0
def tw12271947065043057073:=0
def tw17905175551445230666:=0
def tw4975891705956023642:=0
def tw14561799165397763211:=0
def tw9907575236194533349:=0
def tw12371086992728604672:=0
def tw5166895795892150737:=0
def tw4784001642476449707:=0
def tw10637163627138000674:=0
def tw9683019257418109817:=0
def tw5463827054013937138:=0
def tw3959674646140305880:=0
def tw13210736859415305243:=0
def tw15033237268938649390:=0
def tw14774882102180039138:=0
def tw15936868191170932764:=0
def tw6644502916716825467:=0
def tw6892216016841032103:=0
def tw13909351932067584791:=0
def tw15145863669119977908:=0
def tw1980834785984548817:=0
def tw16821245295660444932:=0
def tw4801451810040234382:=0
def tw1503883171307912241:=0
def tw10312954604338758644:=0
def tw9112627672351081426:=0
def tw824242562438393199:=0
def tw8515832203317705901:=0
def tw7664242344245889823:=0
def tw6439161984030725010:=0
def tw2183990520767994091:=0
def tw1528674453771477217:=0
def tw15027760312183335326:=0
def tw2139407416929950091:=0
def tw1489561178974045707:=0
end PySem.W.Fast
namespace S35
open PySem L2 XL
theorem walk {l:PySem.W.OpenLaw} {q:Program} {loose:List Str} {XP:(Str→Option Value)→Heap→Prop} {YP:World→Heap→Prop} {d:DefRec} {K:Params→PySem.W.Frag} (hn:l.most=some 63) (hdf:d.params.defaults=[])
    (hY:∀ (w:World) (h:Heap),YP w h→(K w.params).In h)
    (F:∀ (w:World) (mg:Str→Option Value) (fa:Addr) (h:Heap),(K w.params).In h→h.Ns mainGlobals mg→mg d.name=some (.ref fa) →
      ∃ fd:FuncData,(∀ (s:Shared) (u:Value),BindsTo s fd ⟨[u],[]⟩ [("_law_script",u)])∧∀ base:Heap,(K w.params).In base→base.Ns mainGlobals mg→FnOk true l.prog w (K w.params) mg base (CXo l.prog w) 11 fa fd ["_law_script"] (xgs (K w.params))) :
    PySem.W.WalkO q loose XP YP l.row.toRowW d [] (fun f vs=>PySem.call f vs) :=
  L2.walk_of (q0:=true) (n:=63) (k:=11) (x:="_law_script") (CX:=fun w=>CXo l.prog w) (sp:=fun w=>xgs (K w.params)) hn (by decide) hdf ⟨fun _=>rfl,by decide,by decide⟩ hY F (fun _ _ a ns hl _ hS=>⟨a,ns,rfl,hS,hl,fun _=>rfl⟩)
    fun w H s e s' z=>by obtain ⟨_,_,_,_,_,_,_,_,_,_,_,_,_,_,q⟩:=z; exact q
theorem all_mk {l:PySem.W.OpenLaw} {w:World} {K:PySem.W.Frag} {h:Heap} {mg:Str→Option Value} {fa:Addr} (hfa:mg "law"=some (.ref fa)) (TT:∃ t,Txt w K mg t) :
    ∃ fd:FuncData,(∀ (s:Shared) (v:Value),BindsTo s fd ⟨[v],[]⟩ [("_law_script",v)])∧∀ base:Heap,K.In base→base.Ns mainGlobals mg→FnOk true l.prog w K mg base (CXo l.prog w) 11 fa fd ["_law_script"] (xgs K):=by
  obtain ⟨t,T⟩:=TT
  have e:=hfa.symm.trans T.g_law
  cases e
  refine ⟨t.d_law,fun s v=>?_,fun base _ _=>xos T⟩
  obtain ⟨oc,od,kV,doc,pm,an,cdv,ct,osl,e,lk,hcd⟩:=T.F_law.ex
  rw [e]
  exact .of_eq rfl
end S35
open PySem PySem.W PyProof.Rows
set_option maxRecDepth 100000 in
set_option maxHeartbeats 0 in
theorem PySem.Challenge.cw_rimnotes_k35_whole_who_stays_kept_holds : PySem.Challenge.rw_rimnotes_k35_whole_who_stays_kept.Holds := by
 w_on; o_law; k_head; (case hw=>w_witness2)
 k_fill
 refine S35.walk (l:=PySem.Challenge.rw_rimnotes_k35_whole_who_stays_kept) rfl rfl (fun w h Y=>PySem.W.kIn_of Y) ?F
 case F =>
  intro w mg fa h KX G hmg
  refine S35.all_mk (h:=h) hmg ?TT
  refine' S35.txt_mk (w:=w) KX G ?g_ak ?g_as ?g_am ?g_aj ?g_k ?a_u ?l_u ?c_u ?k_u ?i_u ?a_j ?l_j ?c_j ?k_j ?i_j ?a_c ?l_c ?c_c ?k_c ?i_c ?a_crowds ?l_crowds ?c_crowds ?k_crowds ?i_crowds ?a_ah ?l_ah ?c_ah ?k_ah ?i_ah ?a_kept ?l_kept ?c_kept ?k_kept ?i_kept ?a_ac ?l_ac ?c_ac ?k_ac ?i_ac ?a_ap ?l_ap ?c_ap ?k_ap ?i_ap ?a_x ?l_x ?c_x ?k_x ?i_x ?a_an ?l_an ?c_an ?k_an ?i_an ?a_v ?l_v ?c_v ?k_v ?i_v ?a_l ?l_l ?c_l ?k_l ?i_l ?t_l ?a_p ?l_p ?c_p ?k_p ?i_p ?a_q ?l_q ?c_q ?k_q ?i_q ?a_f ?l_f ?c_f ?k_f ?i_f ?a_i ?l_i ?c_i ?k_i ?i_i ?a_g ?l_g ?c_g ?k_g ?i_g ?a_m ?l_m ?c_m ?k_m ?i_m ?a_s ?l_s ?c_s ?k_s ?i_s ?a_h ?l_h ?c_h ?k_h ?i_h ?a_b ?l_b ?c_b ?k_b ?i_b ?a_e ?l_e ?c_e ?k_e ?i_e ?a_a ?l_a ?c_a ?k_a ?i_a ?a_d ?l_d ?c_d ?k_d ?i_d ?a_o ?l_o ?c_o ?k_o ?i_o ?a_ab ?l_ab ?c_ab ?k_ab ?i_ab ?a_ad ?l_ad ?c_ad ?k_ad ?i_ad ?a_aa ?l_aa ?c_aa ?k_aa ?i_aa ?a_r ?l_r ?c_r ?k_r ?i_r ?a_y ?l_y ?c_y ?k_y ?i_y ?a_w ?l_w ?c_w ?k_w ?i_w ?a_al ?l_al ?c_al ?k_al ?i_al ?a_t ?l_t ?c_t ?k_t ?i_t ?a_af ?l_af ?c_af ?k_af ?i_af ?a_z ?l_z ?c_z ?k_z ?i_z ?a_ae ?l_ae ?c_ae ?k_ae ?i_ae ?a_ai ?l_ai ?c_ai ?k_ai ?i_ai ?a_n ?l_n ?c_n ?k_n ?i_n ?a_ag ?l_ag ?c_ag ?k_ag ?i_ag ?a_law ?l_law ?c_law ?k_law ?i_law ?kc_ak ?pg_ak ?hd_ak ?po_ak ?sa_ak ?mk_ak ?ca_ak ?mo_ak ?kc_as ?pg_as ?hd_as ?po_as ?sa_as ?mk_as ?ca_as ?mo_as ?kc_am ?pg_am ?hd_am ?po_am ?sa_am ?mk_am ?ca_am ?mo_am ?a_LeftSide_init ?kc_aj ?pg_aj ?hd_aj ?po_aj ?sa_aj ?mk_aj ?ca_aj ?mo_aj ?a_RightSide_init ?kc_k ?pg_k ?hd_k ?po_k ?sa_k ?mk_k ?ca_k ?mo_k ?cg ?ct ?n_aq ?n_ar ?n_aw ?n_at ?n_au ?n_av ?n_a2 ?n_a0 ?n_ay ?n_bool ?n_dict ?n_enumerate ?n_int ?n_isinstance ?n_len ?n_list ?n_min ?n_range ?n_reversed ?n_sorted ?n_str ?v_a1 ?v_ax ?v_az ?g_ao ?l_ao ?ns_ao
  (case g_ak=>k_is)
  (case g_as=>k_is)
  (case g_am=>k_is)
  (case g_aj=>k_is)
  (case g_k=>k_is)
  (case a_u=>k_is)
  (case l_u=>k_is)
  (case c_u=>k_is)
  (case k_u=>k_is)
  (case i_u=>k_is)
  (case a_j=>k_is)
  (case l_j=>k_is)
  (case c_j=>k_is)
  (case k_j=>k_is)
  (case i_j=>k_is)
  (case a_c=>k_is)
  (case l_c=>k_is)
  (case c_c=>k_is)
  (case k_c=>k_is)
  (case i_c=>k_is)
  (case a_crowds=>k_is)
  (case l_crowds=>k_is)
  (case c_crowds=>k_is)
  (case k_crowds=>k_is)
  (case i_crowds=>k_is)
  (case a_ah=>k_is)
  (case l_ah=>k_is)
  (case c_ah=>k_is)
  (case k_ah=>k_is)
  (case i_ah=>k_is)
  (case a_kept=>k_is)
  (case l_kept=>k_is)
  (case c_kept=>k_is)
  (case k_kept=>k_is)
  (case i_kept=>k_is)
  (case a_ac=>k_is)
  (case l_ac=>k_is)
  (case c_ac=>k_is)
  (case k_ac=>k_is)
  (case i_ac=>k_is)
  (case a_ap=>k_is)
  (case l_ap=>k_is)
  (case c_ap=>k_is)
  (case k_ap=>k_is)
  (case i_ap=>k_is)
  (case a_x=>k_is)
  (case l_x=>k_is)
  (case c_x=>k_is)
  (case k_x=>k_is)
  (case i_x=>k_is)
  (case a_an=>k_is)
  (case l_an=>k_is)
  (case c_an=>k_is)
  (case k_an=>k_is)
  (case i_an=>k_is)
  (case a_v=>k_is)
  (case l_v=>k_is)
  (case c_v=>k_is)
  (case k_v=>k_is)
  (case i_v=>k_is)
  (case a_l=>k_is)
  (case l_l=>k_is)
  (case c_l=>k_is)
  (case k_l=>k_is)
  (case i_l=>k_is)
  (case t_l=>k_is)
  (case a_p=>k_is)
  (case l_p=>k_is)
  (case c_p=>k_is)
  (case k_p=>k_is)
  (case i_p=>k_is)
  (case a_q=>k_is)
  (case l_q=>k_is)
  (case c_q=>k_is)
  (case k_q=>k_is)
  (case i_q=>k_is)
  (case a_f=>k_is)
  (case l_f=>k_is)
  (case c_f=>k_is)
  (case k_f=>k_is)
  (case i_f=>k_is)
  (case a_i=>k_is)
  (case l_i=>k_is)
  (case c_i=>k_is)
  (case k_i=>k_is)
  (case i_i=>k_is)
  (case a_g=>k_is)
  (case l_g=>k_is)
  (case c_g=>k_is)
  (case k_g=>k_is)
  (case i_g=>k_is)
  (case a_m=>k_is)
  (case l_m=>k_is)
  (case c_m=>k_is)
  (case k_m=>k_is)
  (case i_m=>k_is)
  (case a_s=>k_is)
  (case l_s=>k_is)
  (case c_s=>k_is)
  (case k_s=>k_is)
  (case i_s=>k_is)
  (case a_h=>k_is)
  (case l_h=>k_is)
  (case c_h=>k_is)
  (case k_h=>k_is)
  (case i_h=>k_is)
  (case a_b=>k_is)
  (case l_b=>k_is)
  (case c_b=>k_is)
  (case k_b=>k_is)
  (case i_b=>k_is)
  (case a_e=>k_is)
  (case l_e=>k_is)
  (case c_e=>k_is)
  (case k_e=>k_is)
  (case i_e=>k_is)
  (case a_a=>k_is)
  (case l_a=>k_is)
  (case c_a=>k_is)
  (case k_a=>k_is)
  (case i_a=>k_is)
  (case a_d=>k_is)
  (case l_d=>k_is)
  (case c_d=>k_is)
  (case k_d=>k_is)
  (case i_d=>k_is)
  (case a_o=>k_is)
  (case l_o=>k_is)
  (case c_o=>k_is)
  (case k_o=>k_is)
  (case i_o=>k_is)
  (case a_ab=>k_is)
  (case l_ab=>k_is)
  (case c_ab=>k_is)
  (case k_ab=>k_is)
  (case i_ab=>k_is)
  (case a_ad=>k_is)
  (case l_ad=>k_is)
  (case c_ad=>k_is)
  (case k_ad=>k_is)
  (case i_ad=>k_is)
  (case a_aa=>k_is)
  (case l_aa=>k_is)
  (case c_aa=>k_is)
  (case k_aa=>k_is)
  (case i_aa=>k_is)
  (case a_r=>k_is)
  (case l_r=>k_is)
  (case c_r=>k_is)
  (case k_r=>k_is)
  (case i_r=>k_is)
  (case a_y=>k_is)
  (case l_y=>k_is)
  (case c_y=>k_is)
  (case k_y=>k_is)
  (case i_y=>k_is)
  (case a_w=>k_is)
  (case l_w=>k_is)
  (case c_w=>k_is)
  (case k_w=>k_is)
  (case i_w=>k_is)
  (case a_al=>k_is)
  (case l_al=>k_is)
  (case c_al=>k_is)
  (case k_al=>k_is)
  (case i_al=>k_is)
  (case a_t=>k_is)
  (case l_t=>k_is)
  (case c_t=>k_is)
  (case k_t=>k_is)
  (case i_t=>k_is)
  (case a_af=>k_is)
  (case l_af=>k_is)
  (case c_af=>k_is)
  (case k_af=>k_is)
  (case i_af=>k_is)
  (case a_z=>k_is)
  (case l_z=>k_is)
  (case c_z=>k_is)
  (case k_z=>k_is)
  (case i_z=>k_is)
  (case a_ae=>k_is)
  (case l_ae=>k_is)
  (case c_ae=>k_is)
  (case k_ae=>k_is)
  (case i_ae=>k_is)
  (case a_ai=>k_is)
  (case l_ai=>k_is)
  (case c_ai=>k_is)
  (case k_ai=>k_is)
  (case i_ai=>k_is)
  (case a_n=>k_is)
  (case l_n=>k_is)
  (case c_n=>k_is)
  (case k_n=>k_is)
  (case i_n=>k_is)
  (case a_ag=>k_is)
  (case l_ag=>k_is)
  (case c_ag=>k_is)
  (case k_ag=>k_is)
  (case i_ag=>k_is)
  (case a_law=>k_is)
  (case l_law=>k_is)
  (case c_law=>k_is)
  (case k_law=>k_is)
  (case i_law=>k_is)
  (case kc_ak=>k_is)
  (case pg_ak=>k_is)
  (case hd_ak=>k_is)
  (case po_ak=>k_is)
  (case sa_ak=>k_is)
  (case mk_ak=>first | k_is | kernel_rfl)
  (case ca_ak=>k_is)
  (case mo_ak=>k_is)
  (case kc_as=>k_is)
  (case pg_as=>k_is)
  (case hd_as=>k_is)
  (case po_as=>k_is)
  (case sa_as=>k_is)
  (case mk_as=>first | k_is | kernel_rfl)
  (case ca_as=>k_is)
  (case mo_as=>k_is)
  (case kc_am=>k_is)
  (case pg_am=>k_is)
  (case hd_am=>k_is)
  (case po_am=>k_is)
  (case sa_am=>k_is)
  (case mk_am=>first | k_is | kernel_rfl)
  (case ca_am=>k_is)
  (case mo_am=>k_is)
  (case a_LeftSide_init=>k_is)
  (case kc_aj=>k_is)
  (case pg_aj=>k_is)
  (case hd_aj=>k_is)
  (case po_aj=>k_is)
  (case sa_aj=>k_is)
  (case mk_aj=>first | k_is | kernel_rfl)
  (case ca_aj=>k_is)
  (case mo_aj=>k_is)
  (case a_RightSide_init=>k_is)
  (case kc_k=>k_is)
  (case pg_k=>k_is)
  (case hd_k=>k_is)
  (case po_k=>k_is)
  (case sa_k=>k_is)
  (case mk_k=>first | k_is | kernel_rfl)
  (case ca_k=>k_is)
  (case mo_k=>k_is)
  (case cg=>k_is)
  (case ct=>k_is)
  (case n_aq=>k_is)
  (case n_ar=>k_is)
  (case n_aw=>k_is)
  (case n_at=>k_is)
  (case n_au=>k_is)
  (case n_av=>k_is)
  (case n_a2=>k_is)
  (case n_a0=>k_is)
  (case n_ay=>k_is)
  (case n_bool=>k_is)
  (case n_dict=>k_is)
  (case n_enumerate=>k_is)
  (case n_int=>k_is)
  (case n_isinstance=>k_is)
  (case n_len=>k_is)
  (case n_list=>k_is)
  (case n_min=>k_is)
  (case n_range=>k_is)
  (case n_reversed=>k_is)
  (case n_sorted=>k_is)
  (case n_str=>k_is)
  (case v_a1=>k_is)
  (case v_ax=>k_is)
  (case v_az=>k_is)
  (case g_ao=>k_is)
  (case l_ao=>first | k_is | kernel_rfl)
  (case ns_ao=>kernel_rfl)
