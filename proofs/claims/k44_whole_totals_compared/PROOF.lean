import PyProof.Rows.All
import Wide.All
import OpenK.AllK
import Wide.FinOn
import Lean
import PyProof.EqAt
import PyProof.EqKinds
import PyProof.TupleCall
import PyProof.StationsW
import PyProof.ExcClass2
import PyProof.RulesAs
import PyProof.ExcBaseAll.ValueError
import OpenK.KDescr
import OpenK.KWalk
import PyProof.ExcAttrAll.ValueError
import PyProof.Comp
import PyProof.ListRange
import PyProof.DictItems
import KE.KPairComp
import KE.KDictOf
import PyProof.AttrMissHeap
import PyProof.Rows.Range3
import KE.KRevIter
import PyProof.ZipIter
import OpenK.KEqL
import PyProof.AutoListH
import PyProof.EnumMake
import PyProof.WalksEnum
import PyProof.NeKinds
import PyProof.MaxThree
import KE.KSortTup
import PyProof.StrLawsIn
import PyProof.DictValues
import PyProof.DictIter
import PyProof.Draws
import PyProof.DictWalks
import PyProof.ListNew
import PyProof.ListStr
import KE.KIntText
import PyProof.Rows.FStr
import PyProof.MeetsStr
import PyProof.Rows.CallKwBuiltin
import PyProof.Rows.StrNews
import PyProof.Rows.StrNews2
import PyProof.StrLawsChain
import PyProof.StrLawsFirst
import PyProof.StrLawsTight
import PyProof.DictUpdate
import PyProof.Rows.SetFrom
import PyProof.DictStraight
import PyProof.SetRoads
import PySem.SetOps
import KE.KDictList
import PyProof.TupleKey
import PySem.Challenge.RW_rimnotes_k44_whole_totals_compared
set_option maxRecDepth 100000
set_option maxHeartbeats 4000000
set_option Elab.async false
set_option linter.all false
namespace L2
open PySem PySem.Spec PyProof.Rows
variable {q0:Bool}
abbrev Key:=Sum Int Str
def xer:Key->Value->Bool
 | .inl k,v=>Value.isInt k v
 | .inr x,v=>Value.isStrOf x v
def keyH (w:World):Key->Int
 | .inl k=>hashInt k
 | .inr x=>hashStr w x
theorem xbc:∀{k:Key}{v:Value},xer k v=true->(∃ i t,k=Sum.inl i/\v=Value.int i t)\/(∃ x t,k=Sum.inr x/\v=Value.str x t)
 | .inl i,v,h=>by
  obtain⟨t,e⟩:=Value.isInt_shape (k:=i) (v:=v) h
  exact .inl ⟨i,t,rfl,e⟩
 | .inr x,v,h=>by
  obtain⟨t,e⟩:=Value.isStrOf_shape (x:=x) (v:=v) h
  exact .inr ⟨x,t,rfl,e⟩
theorem xla (i:Int) (t:Tok):xer (.inl i) (.int i t)=true:=by simp[xer,Value.isInt]
theorem xls (x:Str) (t:Tok):xer (.inr x) (.str x t)=true:=by simp[xer,Value.isStrOf]
theorem xqf (a b:Int):decide ((Sum.inl a:Key)=Sum.inl b)=(a == b):=by
 by_cases e:a=b
 .subst e; simp
 .have h:¬ (Sum.inl a:Key)=Sum.inl b:=fun q=>e (Sum.inl.inj q)
  rw[decide_eq_false h]
  exact (beq_eq_false_iff_ne.mpr e).symm
theorem xqv (a b:Str):decide ((Sum.inr a:Key)=Sum.inr b)=decide (a=b):=by
 by_cases e:a=b
 .subst e; simp
 .have h:¬ (Sum.inr a:Key)=Sum.inr b:=fun q=>e (Sum.inr.inj q)
  rw[decide_eq_false h,decide_eq_false e]
theorem xp5 (a:Int) (b:Str):decide ((Sum.inl a:Key)=Sum.inr b)=false:=decide_eq_false (fun q=>nomatch q)
theorem xqk (a:Str) (b:Int):decide ((Sum.inr a:Key)=Sum.inl b)=false:=decide_eq_false (fun q=>nomatch q)
def xan (prog:Program) (w:World):PySem.KeyKind prog w Key where
 is:=xer
 hash:=keyH w
 inj:=fun v a b ha hb=>by
  rcases xbc ha with⟨i,t,rfl,rfl⟩|⟨x,t,rfl,rfl⟩
  .rcases xbc hb with⟨j,u,rfl,e⟩|⟨y,u,rfl,e⟩
   .injection e with e1 _; rw[e1]
   .exact nomatch e
  .rcases xbc hb with⟨j,u,rfl,e⟩|⟨y,u,rfl,e⟩
   .exact nomatch e
   .injection e with e1 _; rw[e1]
 byValue:=fun k v h=>by
  rcases xbc h with⟨i,t,rfl,rfl⟩|⟨x,t,rfl,rfl⟩<;>rfl
 pyHash:=fun hv h=>by
  rcases xbc hv with⟨i,t,rfl,rfl⟩|⟨x,t,rfl,rfl⟩
  .exact wpAny_pyHash_int h
  .exact wpAny_pyHash_str h
 eqBool:=fun hu hv h=>by
  rcases xbc hu with⟨i,t,rfl,rfl⟩|⟨x,t,rfl,rfl⟩
  .rcases xbc hv with⟨j,u,rfl,rfl⟩|⟨y,u,rfl,rfl⟩
   .rw [xqf] at h; exact wpAny_eqBool_int h
   .rw [xp5] at h; exact SeqAt.EqAt.int_str i t y u _ _ _ _ h
  .rcases xbc hv with⟨j,u,rfl,rfl⟩|⟨y,u,rfl,rfl⟩
   .rw [xqk] at h; exact SeqAt.EqAt.str_int x t j u _ _ _ _ h
   .rw [xqv] at h; exact wpAny_eqBool_str h
 «strs»:=fun k x t v h=>by
  rcases xbc h with⟨i,u,rfl,e⟩|⟨y,u,rfl,e⟩
  .exact nomatch e
  .injection e with e1 _
   subst e1
   cases v<;>rfl
theorem xja (prog:Program) (w:World) (i:Int) (t:Tok):(xan prog w).is (.inl i) (.int i t)=true:=xla i t
theorem xi9 (prog:Program) (w:World) (x:Str) (t:Tok):(xan prog w).is (.inr x) (.str x t)=true:=xls x t
inductive V where
 | non|bl (b:Bool)|int (i:Int)|str (x:Str)|byt (b:Array UInt8)|flt (b:UInt64)|ref (a:Addr)|ty (n:String)
 deriving DecidableEq
def RelV:V->Value->Prop
 | .non,u=>u=Value.none
 | .bl b,u=>u=Value.bool b
 | .int i,u=>∃ t,u=Value.int i t
 | .str x,u=>∃ t,u=Value.str x t
 | .byt b,u=>∃ t,u=Value.bytes b t
 | .flt b,u=>∃ t,u=Value.float b t
 | .ref a,u=>u=Value.ref a
 | .ty n,u=>u=Value.type n
abbrev Vals:List V->List Value->Prop:=Paired RelV
theorem Vals.length {xs:List V}{us:List Value} (r:Vals xs us):xs.length=us.length:=Paired.length r
theorem Vals.get:∀{xs:List V}{us:List Value}{i:Nat}{x:V},Vals xs us->xs[i]?=some x->∃ u,us[i]?=some u/\RelV x u
 | _,_,_,_,.nil,e=>by simp at e
 | _,_,0,_,.cons r _,e=>by simp at e; subst e; exact⟨_,rfl,r⟩
 | _,_,i+1,x,.cons _ t,e=>by
  obtain⟨u,h1,h2⟩:=Vals.get (i:=i) (x:=x) t (by simpa using e)
  exact⟨u,by simpa using h1,h2⟩
theorem Vals.append:∀{xs ys:List V}{us ws:List Value},Vals xs us->Vals ys ws->Vals (xs++ys) (us++ws)
 | _,_,_,_,.nil,s=>s
 | _,_,_,_,.cons r t,s=>.cons r (Vals.append t s)
theorem Vals.take:∀{xs:List V}{us:List Value} (n:Nat),Vals xs us->Vals (xs.take n) (us.take n)
 | _,_,0,_=>.nil
 | _,_,_+1,.nil=>.nil
 | _,_,n+1,.cons r t=>.cons r (Vals.take n t)
theorem Vals.drop:∀{xs:List V}{us:List Value} (n:Nat),Vals xs us->Vals (xs.drop n) (us.drop n)
 | _,_,0,r=>r
 | _,_,_+1,.nil=>.nil
 | _,_,n+1,.cons _ t=>Vals.drop n t
def RelO:Option V->Option Value->Prop
 | some v,some u=>RelV v u
 | none,none=>True
 | _,_=>False
def KV {κ:Type}:List (κ × V)->List (κ × Value)->Prop:=Paired fun (p:κ × V) (q:κ × Value)=>p.1=q.1/\RelV p.2 q.2
def kV:Key->V
 | .inl i=>.int i
 | .inr x=>.str x
inductive HO where
 /-- a list -/
 | lst (xs:List V)
 /-- a tuple (never changes) -/
 | tup (xs:List V)
 /-- a dict whose keys are ints and texts; one whose keys are tuples of ints and texts (the empty one is both) -/
 | dK (kvs:List (Key × V))|dT (kvs:List (List Key × V))
 /-- a set of ints: its members,its size -/
 | set (S:Int->Bool) (n:Nat)
 /-- an instance of the class at C,its dict at dx,its attributes -/
 | ins (C dx:Addr) (fs:List (Str × V))
 /-- the dict of the instance at x -/
 | own (x:Addr)
 /-- the dict of an exception -/
 | xd (fs:List (Str × V))
 /-- a bound method,f of x -/
 | met (f x:Addr)
 /-- a range object lo,lo+1,.. below hi -/
 | rng (lo hi:Int)
 /-- a thing that is known to the object (the script; a dict while a loop walks it): read,never written while it is so -/
 | frz (o:Obj) (u:HO)
 /-- a code object's table -/
 | tbl (ps:Array Value)
 /-- any other thing,by what is true of its one object (a def of one's own: SetO a S n:=HO.ext fun h=>..) -/
 | ext (φ:Heap->Prop)
abbrev Hp:=Addr->Option HO
def upd (H:Hp) (a:Addr) (o:HO):Hp:=fun b=>if b=a then some o else H b
theorem xg {H:Hp}{a:Addr}{o:HO}:upd H a o a=some o:=by unfold upd; rw[if_pos rfl]
theorem xf {H:Hp}{a b:Addr}{o:HO} (h:b≠a):upd H a o b=H b:=by unfold upd; rw[if_neg h]
theorem xgy {H:Hp}{a:Addr}{o u:HO}:upd (upd H a o) a u=upd H a u:=by
 funext b; unfold upd; split<;>rfl
theorem xp {H:Hp}{a b:Addr}{o u:HO} (h:H a=some o) (h':H b=some u) (d:o≠u):a≠b:=by
 intro e; subst e; rw[h] at h'; exact d (Option.some.inj h')
theorem xb {H:Hp}{a b:Addr}{o:HO} (h:H a=some o) (h':H b=none):a≠b:=by
 intro e; subst e; rw[h] at h'; cases h'
section
variable (P:Program) (w:World)
def xaw (H:Hp) (h:Heap) (a:Addr):HO->Prop
  | .lst xs=>xs.length<=sizeLine/\∃(its:List Value) (n:Nat),Vals xs its/\h.get? a=some { cls:=.type "list",data:=.seq its.toArray n }
  | .tup xs=>xs.length<=sizeLine/\∃ its:List Value,Vals xs its/\IsTup h a its.toArray
  | .dK kvs=>kvs.length<=sizeLine/\(a == sysModules)=false/\∃ vs,KV kvs vs/\h.DictOf (xan P w) a vs
  | .dT kvs=>kvs.length<=sizeLine/\(a == sysModules)=false/\∃ xs:List (List Key × Addr × Value),
      Paired (fun (p:List Key × V) (q:List Key × Addr × Value)=>p.1=q.1/\H q.2.1=some (.tup (p.1.map kV))/\RelV p.2 q.2.2) kvs xs /\
      ∃ o es ep,h.get? a=some o/\o.ExactDict/\o.data=.dict es ep/\es.toList=xs.map (entryOfKey (tupleKind (xan P w)))/\(xs.map (·.1)).Nodup
  | .set S n=>h.SetOf (intKind P w) a S n
  | .ins C dx fs=>H dx=some (.own a)/\fs.length<=1000/\dx≠a/\h.get? a=some (PySem.W.instObj C dx) /\
      ∃ mA,h.Ns1 dx mA/\(∀ f,RelO (fs.lookup f) (mA f))/\PySem.Within mA (fs.map (·.1))
  | .own _=>∃ o,h.get? a=some o
  | .xd fs=>∃ mA,h.Ns1 a mA/\∀ f,RelO (fs.lookup f) (mA f)
  | .rng lo hi=>∃ t u v,h.get? a=some { cls:=.type "range",data:=.fields #[.int lo t,.int hi u,.int 1 v] }
  | .frz o u=>h.get? a=some o/\xaw H h a u
  | .tbl ps=>h.get? a=some { cls:=.none,data:=.fields ps }
  | .met f x=>h.get? a=some (PySem.W.methodObj (.ref f) (.ref x))
  | .ext φ=>φ h/\(∃ o,h.get? a=some o)/\∀ h1 h2:Heap,φ h1->(∀ o,h1.get? a=some o->h2.get? a=some o)->φ h2
def HOk (H:Hp) (h:Heap):Prop:=∀ a o,H a=some o->xaw P w H h a o
end
section
variable {P:Program}{w:World}{H H':Hp}{h h':Heap}{a:Addr}{o:HO}
theorem xaw.lt (x:xaw P w H h a o):a<h.objs.size:=by
 cases o with
 | lst xs=>obtain⟨_,_,_,_,e⟩:=x; exact Heap.lt_size e
 | tup xs=>obtain⟨_,_,_,p⟩:=x; exact p.lt
 | dK kvs=>obtain⟨_,_,_,_,o,_,_,e,_⟩:=x; exact Heap.lt_size e
 | dT kvs=>obtain⟨_,_,_,_,o,_,_,e,_⟩:=x; exact Heap.lt_size e
 | set S n=>obtain⟨o,_,_,_,e,_⟩:=x; exact Heap.lt_size e
 | ins C dx fs=>obtain⟨_,_,_,e,_⟩:=x; exact Heap.lt_size e
 | own y=>obtain⟨_,e⟩:=x; exact Heap.lt_size e
 | xd fs=>obtain⟨_,⟨_,_,_,e,_⟩,_⟩:=x; exact Heap.lt_size e
 | rng lo hi=>obtain⟨_,_,_,e⟩:=x; exact Heap.lt_size e
 | frz ob u=>obtain⟨e,_⟩:=x; exact Heap.lt_size e
 | tbl ps=>exact Heap.lt_size (show h.get? a=some _ from x)
 | met f y=>exact Heap.lt_size (show h.get? a=some _ from x)
 | ext φ=>obtain⟨_,⟨_,e⟩,_⟩:=x; exact Heap.lt_size e
theorem Paired.mapP {α β:Type}{F G:α->β->Prop}:∀{l₁:List α}{l₂:List β},Paired F l₁ l₂->(∀ a b,F a b->G a b)->Paired G l₁ l₂
 | _,_,.nil,_=>.nil
 | _,_,.cons r t,f=>.cons (f _ _ r) (Paired.mapP t f)
theorem xaw.stay (x:xaw P w H h a o) (k:∀ b u,(b=a\/H b=some (.own a))->h.get? b=some u->h'.get? b=some u)
    (ho:∀ b,H b=some (.own a)->H' b=some (.own a)) (ht:∀ b xs,H b=some (.tup xs)->H' b=some (.tup xs)):xaw P w H' h' a o:=by
  induction o with
  | lst xs=>obtain⟨z,its,n,r,e⟩:=x; exact⟨z,its,n,r,k _ _ (.inl rfl) e⟩
  | tup xs=>obtain⟨z,its,r,ob,e,c⟩:=x; exact⟨z,its,r,ob,k _ _ (.inl rfl) e,c⟩
  | dK kvs=>obtain⟨z,y,vs,r,ob,es,ep,e,c⟩:=x; exact⟨z,y,vs,r,ob,es,ep,k _ _ (.inl rfl) e,c⟩
  | dT kvs =>
    obtain⟨z,y,xs,r,ob,es,ep,e,c⟩:=x
    exact⟨z,y,xs,Paired.mapP r fun p q z=>⟨z.1,ht _ _ z.2.1,z.2.2⟩,ob,es,ep,k _ _ (.inl rfl) e,c⟩
  | set S n=>obtain⟨ob,es,ep,t,e,c⟩:=x; exact⟨ob,es,ep,t,k _ _ (.inl rfl) e,c⟩
  | ins C dx fs =>
    obtain⟨d,z,ne,e,mA,⟨od,es,ep,e2,c⟩,r⟩:=x
    exact⟨ho _ d,z,ne,k _ _ (.inl rfl) e,mA,⟨od,es,ep,k _ _ (.inr d) e2,c⟩,r⟩
  | own y=>obtain⟨ob,e⟩:=x; exact⟨ob,k _ _ (.inl rfl) e⟩
  | xd fs=>obtain⟨mA,⟨od,es,ep,e,c⟩,r⟩:=x; exact⟨mA,⟨od,es,ep,k _ _ (.inl rfl) e,c⟩,r⟩
  | rng lo hi=>obtain⟨t,u,v,e⟩:=x; exact⟨t,u,v,k _ _ (.inl rfl) e⟩
  | frz ob u ih=>obtain⟨e,q⟩:=x; exact⟨k _ _ (.inl rfl) e,ih q⟩
  | tbl ps =>
    have e:h.get? a=some { cls:=.none,data:=.fields ps }:=x
    show h'.get? a=some { cls:=.none,data:=.fields ps }
    exact k a _ (.inl rfl) e
  | met f y =>
    have e:h.get? a=some (PySem.W.methodObj (.ref f) (.ref y)):=x
    show h'.get? a=some (PySem.W.methodObj (.ref f) (.ref y))
    exact k a _ (.inl rfl) e
  | ext φ=>obtain⟨p,⟨o,e⟩,st⟩:=x; exact⟨st _ _ p fun o q=>k _ _ (.inl rfl) q,⟨o,k _ _ (.inl rfl) e⟩,st⟩
theorem HOk.lt (x:HOk P w H h) (e:H a=some o):a<h.objs.size:=(x a o e).lt
theorem HOk.fresh (x:HOk P w H h) (e:h.objs.size<=a):H a=none:=by
 cases q:H a with
 | none=>rfl
 | some u=>exact absurd (Nat.lt_of_lt_of_le (x.lt q) e) (Nat.lt_irrefl _)
theorem HOk.kept (x:HOk P w H h) (k:∀ b u,h.get? b=some u->h'.get? b=some u):HOk P w H h':=fun a o e =>
 (x a o e).stay (fun b u _ q=>k b u q) (fun _ q=>q) fun _ _ q=>q
theorem HOk.laid (x:HOk P w H h) (k:∀ b u,h.get? b=some u->h'.get? b=some u) (hp:h.objs.size<=a) (new:xaw P w (upd H a o) h' a o):HOk P w (upd H a o) h':=fun b u e=>by
 have hn:=x.fresh hp
 by_cases hb:b=a
 .subst hb; rw[xg] at e; cases e; exact new
 .rw [xf hb] at e
  exact (x b u e).stay (fun c v _ q=>k c v q) (fun c q=>by rw[xf (xb q hn)]; exact q) fun c xs q=>by rw[xf (xb q hn)]; exact q
end
def Rd (H:Hp) (a:Addr) (u:HO):Prop:=H a=some u\/∃ o,H a=some (.frz o u)
theorem Rd.ok {P:Program}{w:World}{H:Hp}{h:Heap}{a:Addr}{u:HO} (r:Rd H a u) (x:HOk P w H h):xaw P w H h a u:=by
 rcases r with r|⟨o,r⟩
 .exact x a u r
 .obtain ⟨_,q⟩:=x a _ r
  exact q
def Mut:Option HO->Prop
 | some (.lst _)=>True
 | some (.dK _)=>True
 | some (.dT _)=>True
 | some (.set _ _)=>True
 | some (.ins _ _ _)=>True
 | some (.ext _)=>True
 | _=>False
section
variable {P:Program}{w:World}{H:Hp}{h h':Heap}{x e:Addr}{o':HO}
theorem HOk.write (ok:HOk P w H h) (mu:Mut (H x)) (he:e=x\/H e=some (.own x)) (k:∀ b u,b≠e->h.get? b=some u->h'.get? b=some u) (heo:∃ u,h'.get? e=some u)
    (new:xaw P w (upd H x o') h' x o'):HOk P w (upd H x o') h':=fun b u q=>by
  have nown:∀ c y,H c=some (.own y)->c≠x:=fun c y r z=>by subst z; rw[r] at mu; exact mu
  have ntup:∀ c xs,H c=some (.tup xs)->c≠x:=fun c xs r z=>by subst z; rw[r] at mu; exact mu
  by_cases hb:b=x
  . subst hb; rw[xg] at q; cases q; exact new
  . rw[xf hb] at q
    by_cases hbe:b=e
    . have q':H b=some (.own x):=by
        rcases he with z|z
        . exact absurd (hbe.trans z) hb
        . rw[hbe]; exact z
      rw[q] at q'; cases q'
      obtain⟨v,hv⟩:=heo
      exact⟨v,by rw[hbe]; exact hv⟩
    . refine (ok b u q).stay (fun c v hc r=>k c v ?_ r) (fun c r=>by rw[xf (nown c b r)]; exact r) fun c xs r=>by rw[xf (ntup c xs r)]; exact r
      rcases hc with rfl|hc
      . exact hbe
      . rintro rfl
        rcases he with z|z
        . exact nown c b hc z
        . rw[hc] at z; cases z; exact hb rfl
end
structure Un (fs ex:List Addr) (H H':Hp) (h h':Heap):Prop where
 keep:∀ b o,h.get? b=some o->H b=none->b∉fs->b∉ex->h'.get? b=some o
 slot:∀ b o,h.get? b=some o->H b=none->b∈fs->b∉ex->∃ sl,h'.get? b=some { o with slots:=sl }
 free:∀ b o,h.get? b=some o->H b=none->b∉ex->H' b=none
 there:∀ b o,h.get? b=some o->b∉ex->∃ o',h'.get? b=some o'
 tups:∀ b xs,H b=some (.tup xs)->H' b=some (.tup xs)
 frzs:∀ b o u,H b=some (.frz o u)->H' b=some (.frz o u)
 tbls:∀ b ps,H b=some (.tbl ps)->∃ more,H' b=some (.tbl (ps++more))
section
variable {fs fs' ex ex':List Addr}{H H1 H2:Hp}{h h1 h2 h':Heap}{a x e:Addr}{o:HO}
theorem Un.any (u:Un fs ex H H1 h h1) {b:Addr}{ob:Obj} (q:h.get? b=some ob) (n:H b=none) (hx:b∉ex):∃ sl,h1.get? b=some { ob with slots:=sl }:=by
 by_cases hb:b∈fs
 .exact u.slot b ob q n hb hx
 .exact ⟨ob.slots,u.keep b ob q n hb hx⟩
theorem Un.kept (k:∀ b u,h.get? b=some u->h'.get? b=some u):Un fs ex H H h h' :=
 ⟨fun b ob q _ _ _=>k b ob q,fun b ob q _ _ _=>⟨ob.slots,k b ob q⟩,fun _ _ _ n _=>n,fun b ob q _=>⟨ob,k b ob q⟩,fun _ _ q=>q,fun _ _ _ q=>q,fun _ ps q=>⟨#[],by rw[q]; simp⟩⟩
theorem Un.refl:Un fs ex H H h h:=Un.kept fun _ _ q=>q
theorem Un.laid (k:∀ b u,h.get? b=some u->h'.get? b=some u) (hp:h.objs.size<=a) (hn:H a=none):Un fs ex H (upd H a o) h h' where
 keep:=fun b u q _ _ _=>k b u q
 slot:=fun b u q _ _ _=>⟨u.slots,k b u q⟩
 free:=fun b u q n _=>by rw[xf (Nat.ne_of_lt (Nat.lt_of_lt_of_le (Heap.lt_size q) hp))]; exact n
 there:=fun b u q _=>⟨u,k b u q⟩
 tups:=fun b xs q=>by rw[xf (xb q hn)]; exact q
 frzs:=fun b u xs q=>by rw[xf (xb q hn)]; exact q
 tbls:=fun b ps q=>⟨#[],by rw[xf (xb q hn),q]; simp⟩
theorem Un.write (mu:Mut (H x)) (he:e=x\/H e=some (.own x)) (k:∀ b u,b≠e->h.get? b=some u->h'.get? b=some u) (heo:∃ u,h'.get? e=some u):Un fs ex H (upd H x o) h h':=by
 have hx:∀ b,H b=none->b≠x:=fun b n z=>by subst z; rw[n] at mu; exact mu
 have hb:∀ b,H b=none->b≠e:=fun b n z=>by
  subst z
  rcases he with r|r
  .exact hx b n r
  .rw [n] at r; cases r
 have hm:∀ b u,H b=some u->¬ Mut (some u)->b≠x:=fun b u q nm z=>by subst z; rw[q] at mu; exact nm mu
 refine⟨fun b u q n _ _=>k b u (hb b n) q,fun b u q n _ _=>⟨u.slots,k b u (hb b n) q⟩,fun b u q n _=>by rw[xf (hx b n)]; exact n,fun b u q _=>?_,
  fun b xs q=>by rw[xf (hm b _ q fun z=>z)]; exact q,fun b u xs q=>by rw[xf (hm b _ q fun z=>z)]; exact q,fun b ps q=>⟨#[],by rw[xf (hm b _ q fun z=>z),q]; simp⟩⟩
 by_cases hbe:b=e
 .subst hbe; exact heo
 .exact ⟨u,k b u hbe q⟩
end
def trk (h:Heap) (H:Hp):List Addr:=(List.range h.objs.size).filter fun a=>(H a).isSome
def hidT (h:Heap) (H:Hp):Heap:=PySem.W.hideAll h (trk h H)
theorem xk4 (h:Heap) (H:Hp):(hidT h H).objs.size=h.objs.size:=PySem.W.hideAll_size _ _
theorem xmt {h:Heap}{H:Hp}{b:Addr}{o:Obj} (e:h.get? b=some o) (n:H b=none):(hidT h H).get? b=some o :=
 PySem.W.hideAll_get _ e fun hm=>by
  have q:(H b).isSome=true:=(List.mem_filter.mp hm).2
  rw[n] at q; simp at q
theorem xow {h:Heap}{H:Hp}{b:Addr}{o:Obj} (e:(hidT h H).get? b=some o):h.get? b=some o/\H b=none:=by
 have e':h.get? b=some o:=PySem.W.of_hideAll (trk h H) e
 refine⟨e',?_⟩
 cases q:H b with
 | none=>rfl
 | some x =>
  have hm:b∈trk h H:=List.mem_filter.mpr ⟨List.mem_range.mpr (Heap.lt_size e'),by simp[q]⟩
  have z:(hidT h H).get? b=none:=PySem.W.hideAll_none (trk h H) hm
  rw[z] at e; cases e
def xov (g h:Heap) (L:Addr):List (Addr × Obj):=(List.range h.objs.size).filterMap fun a=>if a=L\/(g.get? a).isSome=true then none else (h.get? a).map fun o=>(a,o)
def rest (g h:Heap) (L d:Addr):List (Addr × Obj):=(xov g h L).filter fun p=>decide (p.1≠d)
structure Mod (K:PySem.W.Frag) (mg:Str->Option Value) (base:Heap):Prop where
 kin:K.In base
 glob:base.Ns mainGlobals mg
 blt:∃ mb,base.Ns builtinsNs mb/\∀ x:Str,x≠"__name__"->mb x=bootBuiltins x
 nolimit:base.NoLimit
structure Cx where
 prog:Program
 w:World
 K:PySem.W.Frag
 mg:Str->Option Value
 base:Heap
 A:Around
 N:List Str
 s₀:Shared
 H₀:Hp
 env:Env
 outer:List Env
 stack:List Env
 ex:List Addr
 fn:Str->Bool
 calm:Bool
 pn:List (Addr × Obj)
 xe:Value->Shared->Prop
def frs (l:List Env):List Addr:=l.filterMap (·.frame)
abbrev Cx.fs (X:Cx):List Addr:=frs X.outer
def Vis (sc:Scope) (x:Str):Prop:=sc.names.lookup x=some .local\/sc.names.lookup x=some .cell\/sc.names.lookup x=some .free
def Loc (sc:Scope) (x:Str):Prop:=sc.names.lookup x=some .local\/sc.names.lookup x=some .cell
def Look (env:Env) (h:Heap) (m:Str->Option Value) (x:Str) (u:Value):Prop :=
 (env.kindOf x=some .local/\m x=some u)\/((env.kindOf x=some .cell\/env.kindOf x=some .free)/\∃ c,env.cells.lookup x=some c/\h.IsCell c (some u))
structure Cx.Ok (X:Cx):Prop where
 mod:Mod X.K X.mg X.base
 kind:X.env.scope.kind=.function
 glob:X.env.globals=mainGlobals
 blt:X.env.builtins=builtinsNs
 above:X.s₀.heap.objs.size<=X.env.locals
 inj:∀ x y c,X.env.cells.lookup x=some c->X.env.cells.lookup y=some c->x=y
 has:∀ x,(X.env.kindOf x=some .cell\/X.env.kindOf x=some .free)->∃ c,X.env.cells.lookup x=some c
 cab:∀ x c,X.fn x=true->X.env.cells.lookup x=some c->X.s₀.heap.objs.size<=c
 hd:X.calm=true->X.A.handled=none
 frames:X.A.frames=some X.stack
 stk:X.stack=X.outer\/(X.stack=X.env::X.outer/\X.env.frame=some X.env.locals)
 exf:∀ b∈X.ex,b≠X.env.locals/\∀ x c,X.env.cells.lookup x=some c->c≠b
 bs:∀ b o,X.base.get? b=some o->X.s₀.heap.get? b=some o/\X.H₀ b=none
 bsz:X.base.objs.size<=X.s₀.heap.objs.size
 noex:∀ b o,X.base.get? b=some o->b∉X.ex
 exfs:∀ b∈X.ex,b∉X.fs
 funs:X.s₀.heap.FunFrames X.base X.outer
 frf:∀ b∈X.fs,X.H₀ b=none
structure Inv (X:Cx) (pins:List (Addr × Obj)) (σ:List (Option V)) (H:Hp) (s:Shared):Prop where
 ok:X.Ok
 os:s.os=X.s₀.os
 bare:AllBare s.gens
 base:Un X.fs X.ex X.H₀ H X.s₀.heap s.heap
 loc:∃ m,s.heap.Ns X.env.locals m/\∀(i:Nat) (x:Str) (v:V),X.N[i]?=some x->σ[i]?=some (some v)->Vis X.env.scope x->∃ u,RelV v u/\Look X.env s.heap m x u
 cell:∀ x c,X.env.cells.lookup x=some c->∃ v,s.heap.IsCell c v
 free:H X.env.locals=none
 freeC:∀ x c,X.env.cells.lookup x=some c->H c=none
 pin:∀ p∈X.pn++pins,s.heap.get? p.1=some p.2/\H p.1=none/\p.1≠X.env.locals/\p.1∉X.fs/\∀ v,p.2.data≠.cell v
 hok:HOk X.prog X.w H s.heap
 len:σ.length=X.N.length
section
variable {X:Cx}{pins:List (Addr × Obj)}{σ:List (Option V)}{H H':Hp}{s:Shared}{h':Heap}
theorem Cx.Ok.nofr (ok:X.Ok) {b:Addr}{o:Obj} (e:X.base.get? b=some o):b∉X.fs:=fun hb=>by
 have:=(ok.funs.mem hb).1
 rw[e] at this; cases this
theorem Inv.bs (I:Inv X pins σ H s):∀ b o,X.base.get? b=some o->s.heap.get? b=some o/\H b=none:=fun b o e =>
 ⟨I.base.keep b o (I.ok.bs b o e).1 (I.ok.bs b o e).2 (I.ok.nofr e) (I.ok.noex b o e),I.base.free b o (I.ok.bs b o e).1 (I.ok.bs b o e).2 (I.ok.noex b o e)⟩
theorem Inv.bk (I:Inv X pins σ H s):∀ b o,X.base.get? b=some o->s.heap.get? b=some o:=fun b o e=>(I.bs b o e).1
theorem Inv.mod (I:Inv X pins σ H s):Mod X.K X.mg X.base:=I.ok.mod
theorem Inv.kIn (I:Inv X pins σ H s):X.K.In s.heap:=I.ok.mod.kin.keeps I.bk
theorem Inv.fr (I:Inv X pins σ H s):∃ m,Fr X.base X.env.locals s.heap m :=
 let ⟨m,hn,_⟩:=I.loc
 ⟨m,hn,I.bk,Nat.le_trans I.ok.bsz I.ok.above⟩
theorem Inv.lt (I:Inv X pins σ H s):X.env.locals<s.heap.objs.size:=let ⟨_,hn,_⟩:=I.loc; hn.lt
theorem Inv.sz (I:Inv X pins σ H s):X.s₀.heap.objs.size<=s.heap.objs.size:=Nat.le_trans I.ok.above (Nat.le_of_lt I.lt)
theorem Inv.nofs (I:Inv X pins σ H s) {a:Addr} (h:s.heap.objs.size<=a):a∉X.fs:=fun hb=>by
 obtain⟨_,o,ho,_⟩:=I.ok.funs.mem hb
 exact absurd (Nat.lt_of_lt_of_le (Heap.lt_size ho) (Nat.le_trans I.sz h)) (Nat.lt_irrefl _)
theorem Inv.cne (I:Inv X pins σ H s):∀ x c,X.env.cells.lookup x=some c->c≠X.env.locals:=fun x c e z=>by
 obtain⟨v,o,ho,hd⟩:=I.cell x c e
 obtain⟨m,⟨o',es,ep,ho',hd',_⟩,_⟩:=I.loc
 rw[z,ho'] at ho; cases ho; rw[hd'] at hd; cases hd
theorem Inv.funs (I:Inv X pins σ H s):s.heap.FunFrames X.base X.outer:=by
 have all:∀(l:List Env),(∀ b∈frs l,b∈X.fs)->X.s₀.heap.FunFrames X.base l->s.heap.FunFrames X.base l:=by
  intro l
  induction l with
  | nil=>intro _ _; trivial
  | cons env r ih =>
   intro hs hl
   obtain⟨hk,⟨L,o,hf,hn,ho,hd⟩,hr⟩:=hl
   have hL:L∈X.fs:=hs L (by unfold frs; rw[List.filterMap_cons,hf]; exact List.mem_cons_self)
   obtain⟨sl,e⟩:=I.base.slot L o ho (I.ok.frf L hL) hL fun z=>I.ok.exfs L z hL
   exact⟨hk,⟨L,_,hf,hn,e,hd⟩,ih (fun b hb=>hs b (by unfold frs; rw[List.filterMap_cons,hf]; exact List.mem_cons_of_mem _ hb)) hr⟩
 exact all X.outer (fun _ hb=>hb) I.ok.funs
theorem Inv.stack (I:Inv X pins σ H s):s.heap.FunFrames X.base X.stack:=by
 rcases I.ok.stk with e|⟨e,hf⟩
 .rw [e]; exact I.funs
 .rw [e]
  obtain⟨m,hn,_⟩:=I.loc
  refine .cons (by rw[I.ok.kind]; decide) hf hn ?_ I.funs
  exact Heap.get?_none_of_le (Nat.le_trans I.ok.bsz I.ok.above)
theorem Inv.stkSub (I:Inv X pins σ H s):∀ b∈frs X.stack,b∈X.env.locals::X.fs:=fun b hb=>by
 rcases I.ok.stk with e|⟨e,hf⟩
 .rw [e] at hb; exact List.mem_cons_of_mem _ hb
 .rw [e] at hb
  unfold frs at hb
  rw[List.filterMap_cons,hf] at hb
  exact hb
theorem Inv.stkFree (I:Inv X pins σ H s):∀ b∈frs X.stack,H b=none:=fun b hb=>by
 rcases List.mem_cons.mp (I.stkSub b hb) with e|hb
 .rw [e]; exact I.free
 .obtain ⟨_,o,ho,_⟩:=I.ok.funs.mem hb
  exact I.base.free b o ho (I.ok.frf b hb) fun z=>I.ok.exfs b z hb
theorem Inv.step {g':Array GenState}{t':Nat}{d':Drawn}{ch:List Addr} (I:Inv X pins σ H s)
    (hch:∀ b∈ch,(b∈X.ex\/X.s₀.heap.objs.size<=b)/\b≠X.env.locals/\(∀ x c,X.env.cells.lookup x=some c->c≠b)/\∀ p∈X.pn++pins,p.1≠b)
    (keep:∀ b o,b≠X.env.locals->b∉X.fs->b∉ch->s.heap.get? b=some o->H b=none->h'.get? b=some o)
    (slot:∀ b o,b≠X.env.locals->b∈X.fs->b∉ch->s.heap.get? b=some o->H b=none->∃ sl,h'.get? b=some { o with slots:=sl }) (free:∀ b o,b∉ch->s.heap.get? b=some o->H b=none->H' b=none)
    (there:∀ b o,b∉ch->s.heap.get? b=some o->∃ o',h'.get? b=some o')
    (tups:∀ b xs,H b=some (.tup xs)->H' b=some (.tup xs)) (frzs:∀ b o u,H b=some (.frz o u)->H' b=some (.frz o u)) (tbls:∀ b ps,H b=some (.tbl ps)->∃ more,H' b=some (.tbl (ps++more)))
    (ns:∀ m,s.heap.Ns X.env.locals m->h'.Ns X.env.locals m) (hok:HOk X.prog X.w H' h') (hg:AllBare g') :
    Inv X pins σ H' { s with heap:=h',gens:=g',drawn:=d',toks:=t' }:=by
  have neL:∀ b o,X.s₀.heap.get? b=some o->b≠X.env.locals:=fun b o e=>Nat.ne_of_lt (Nat.lt_of_lt_of_le (Heap.lt_size e) I.ok.above)
  have neC:∀ b o,X.s₀.heap.get? b=some o->b∉X.ex->b∉ch:=fun b o e hx hb=>by
    rcases (hch b hb).1 with z|z
    . exact hx z
    . exact absurd (Nat.lt_of_lt_of_le (Heap.lt_size e) z) (Nat.lt_irrefl _)
  have cellK:∀ x c,X.env.cells.lookup x=some c->∀ v,s.heap.IsCell c v->h'.IsCell c v:=fun x c e v ⟨o,ho,hd⟩=>by
    have nch:c∉ch:=fun z=>(hch c z).2.2.1 x c e rfl
    by_cases hc:c∈X.fs
    . obtain⟨sl,q⟩:=slot c o (I.cne x c e) hc nch ho (I.freeC x c e)
      exact⟨_,q,hd⟩
    . exact⟨o,keep c o (I.cne x c e) hc nch ho (I.freeC x c e),hd⟩
  refine⟨I.ok,I.os,hg,⟨fun b o e n hb hx=>?_,fun b o e n hb hx=>?_,fun b o e n hx=>?_,fun b o e hx=>?_,fun b xs e=>tups b xs (I.base.tups b xs e),fun b o xs e=>frzs b o xs (I.base.frzs b o xs e),fun b ps e=>?_⟩,?_,fun x c e=>?_,?_,fun x c e=>?_,fun p hp=>?_,hok,I.len⟩
  . exact keep b o (neL b o e) hb (neC b o e hx) (I.base.keep b o e n hb hx) (I.base.free b o e n hx)
  . obtain⟨sl,e1⟩:=I.base.slot b o e n hb hx
    obtain⟨sl',e2⟩:=slot b _ (neL b o e) hb (neC b o e hx) e1 (I.base.free b o e n hx)
    exact⟨sl',e2⟩
  . obtain⟨o',e1⟩:=I.base.there b o e hx
    exact free b o' (neC b o e hx) e1 (I.base.free b o e n hx)
  . obtain⟨o',e1⟩:=I.base.there b o e hx
    exact there b o' (neC b o e hx) e1
  . obtain⟨m1,e1⟩:=I.base.tbls b ps e
    obtain⟨m2,e2⟩:=tbls b _ e1
    exact⟨m1++m2,by rw[e2,Array.append_assoc]⟩
  . obtain⟨m,hn,hl⟩:=I.loc
    refine⟨m,ns m hn,fun i x v e1 e2 e3=>?_⟩
    obtain⟨u,r,l⟩:=hl i x v e1 e2 e3
    refine⟨u,r,?_⟩
    rcases l with l|⟨k,c,e,z⟩
    . exact .inl l
    . exact .inr ⟨k,c,e,cellK x c e _ z⟩
  . obtain⟨v,z⟩:=I.cell x c e
    exact⟨v,cellK x c e v z⟩
  . obtain⟨m,⟨o,_,_,ho,_⟩,_⟩:=I.loc
    exact free _ o (fun z=>(hch _ z).2.1 rfl) ho I.free
  . obtain⟨v,o,ho,hd⟩:=I.cell x c e
    exact free c o (fun z=>(hch c z).2.2.1 x c e rfl) ho (I.freeC x c e)
  . obtain⟨e,n,ne,nf,d⟩:=I.pin p hp
    have nch:p.1∉ch:=fun z=>(hch p.1 z).2.2.2 p hp rfl
    exact⟨keep p.1 p.2 ne nf nch e n,free p.1 p.2 nch e n,ne,nf,d⟩
theorem Inv.un {t':Nat} (I:Inv X pins σ H s) (u:Un X.fs [] H H' s.heap h') (hok:HOk X.prog X.w H' h'):Inv X pins σ H' { s with heap:=h',toks:=t' }:=by
 obtain⟨m,⟨o,es,ep,ho,r⟩,_⟩:=id I.loc
 obtain⟨sl,hL⟩:=u.any ho I.free (by simp)
 exact I.step (g':=s.gens) (d':=s.drawn) (ch:=[]) (fun _ z=>nomatch z) (fun b o _ hb _ e n=>u.keep b o e n hb (by simp)) (fun b o _ hb _ e n=>u.slot b o e n hb (by simp)) (fun b o _ e n=>u.free b o e n (by simp)) (fun b o _ e=>u.there b o e (by simp)) u.tups u.frzs u.tbls (fun m' hm=>by
  obtain⟨o',es',ep',ho',r'⟩:=hm
  rw[ho] at ho'; cases ho'
  exact⟨_,es',ep',hL,r'⟩) hok I.bare
theorem Inv.call {g':Array GenState}{t':Nat}{d':Drawn}{ch:List Addr} (I:Inv X pins σ H s) (u:Un (frs X.stack) ch H H' s.heap h') (hok:HOk X.prog X.w H' h') (hg:AllBare g')
    (hch:∀ b∈ch,(b∈X.ex\/X.s₀.heap.objs.size<=b)/\b≠X.env.locals/\(∀ x c,X.env.cells.lookup x=some c->c≠b)/\∀ p∈X.pn++pins,p.1≠b) :
    Inv X pins σ H' { s with heap:=h',gens:=g',drawn:=d',toks:=t' }:=by
  obtain⟨m,⟨o,es,ep,ho,r⟩,_⟩:=id I.loc
  obtain⟨sl,hL⟩:=u.any ho I.free fun z=>(hch _ z).2.1 rfl
  exact I.step (ch:=ch) hch (fun b o hL hb hc e n=>u.keep b o e n (fun z=>(List.mem_cons.mp (I.stkSub b z)).elim hL hb) hc) (fun b o _ _ hc e n=>u.any e n hc) (fun b o hc e n=>u.free b o e n hc) (fun b o hc e=>u.there b o e hc) u.tups u.frzs u.tbls (fun m' hm=>by
    obtain⟨o',es',ep',ho',r'⟩:=hm
    rw[ho] at ho'; cases ho'
    exact⟨_,es',ep',hL,r'⟩) hok hg
theorem Inv.turned {t':Nat}{it:Addr} (I:Inv X pins σ H s) (k:∀ b o,b≠it->s.heap.get? b=some o->h'.get? b=some o) (hn:H it=none) (hL:it≠X.env.locals)
    (h1:it∈X.ex\/X.s₀.heap.objs.size<=it) (h2:∀ x c,X.env.cells.lookup x=some c->c≠it) (h3:∀ p∈X.pn++pins,p.1≠it):Inv X pins σ H { s with heap:=h',toks:=t' }:=by
  have nit:∀ b u,H b=some u->b≠it:=fun b u e z=>by rw[z,hn] at e; cases e
  refine I.step (g':=s.gens) (d':=s.drawn) (ch:=[it]) (fun b hb=>?_) (fun b o _ _ hc e _=>k b o (fun z=>hc (by simp[z])) e) (fun b o _ _ hc e _=>⟨o.slots,k b o (fun z=>hc (by simp[z])) e⟩) (fun _ _ _ _ n=>n)
    (fun b o hc e=>⟨o,k b o (fun z=>hc (by simp[z])) e⟩) (fun _ _ e=>e) (fun _ _ _ e=>e) (fun b ps e=>⟨#[],by rw[e]; simp⟩) (fun m hm=>?_) (fun b u e=>?_) I.bare
  . have e:b=it:=by simpa using hb
    subst e
    exact⟨h1,hL,h2,h3⟩
  . obtain⟨o,es,ep,ho,r⟩:=hm
    exact⟨o,es,ep,k _ o (Ne.symm hL) ho,r⟩
  . refine (I.hok b u e).stay (fun c v hc q=>k c v ?_ q) (fun _ q=>q) fun _ _ q=>q
    rcases hc with z|z
    . rw[z]; exact nit b u e
    . exact nit c _ z
theorem Inv.tok (I:Inv X pins σ H s) (t:Nat):Inv X pins σ H { s with toks:=t }:=I.un (h':=s.heap) (t':=t) Un.refl I.hok
theorem Inv.kept {t':Nat} (I:Inv X pins σ H s) (k:∀ b u,s.heap.get? b=some u->h'.get? b=some u):Inv X pins σ H { s with heap:=h',toks:=t' }:=I.un (Un.kept k) (I.hok.kept k)
theorem Inv.laid {a:Addr}{o:HO}{t':Nat} (I:Inv X pins σ H s) (k:∀ b u,s.heap.get? b=some u->h'.get? b=some u) (hp:s.heap.objs.size<=a) (new:xaw X.prog X.w (upd H a o) h' a o) :
    Inv X pins σ (upd H a o) { s with heap:=h',toks:=t' }:=I.un (Un.laid k hp (I.hok.fresh hp)) (I.hok.laid k hp new)
theorem Inv.write {x e:Addr}{o:HO}{t':Nat} (I:Inv X pins σ H s) (mu:Mut (H x)) (he:e=x\/H e=some (.own x)) (k:∀ b u,b≠e->s.heap.get? b=some u->h'.get? b=some u) (heo:∃ u,h'.get? e=some u)
    (new:xaw X.prog X.w (upd H x o) h' x o):Inv X pins σ (upd H x o) { s with heap:=h',toks:=t' }:=I.un (Un.write mu he k heo) (I.hok.write mu he k heo new)
theorem Inv.weak {σ':List (Option V)} (I:Inv X pins σ H s) (hl:σ'.length=σ.length) (w:∀(i:Nat) v,σ'[i]?=some (some v)->σ[i]?=some (some v)):Inv X pins σ' H s :=
 ⟨I.ok,I.os,I.bare,I.base,let ⟨m,hn,hl'⟩:=I.loc; ⟨m,hn,fun i x v e1 e2 e3=>hl' i x v e1 (w i v e2) e3⟩,I.cell,I.free,I.freeC,I.pin,I.hok,hl.trans I.len⟩
theorem Inv.pins_of {pins':List (Addr × Obj)} (I:Inv X pins σ H s) (h:∀ p∈pins',s.heap.get? p.1=some p.2/\H p.1=none/\p.1≠X.env.locals/\p.1∉X.fs/\∀ v,p.2.data≠.cell v):Inv X pins' σ H s :=
 ⟨I.ok,I.os,I.bare,I.base,I.loc,I.cell,I.free,I.freeC,fun p hp=>(List.mem_append.mp hp).elim (fun z=>I.pin p (List.mem_append_left _ z)) (h p),I.hok,I.len⟩
theorem xid {N:List Str} (hN:N.Nodup) {i j:Nat}{x:Str} (a:N[i]?=some x) (b:N[j]?=some x):i=j:=by
 obtain⟨h1,e1⟩:=List.getElem?_eq_some_iff.mp a
 obtain⟨h2,e2⟩:=List.getElem?_eq_some_iff.mp b
 exact (List.getElem_inj hN).mp (e1.trans e2.symm)
theorem xg3 {M:Model}{A:Around}{E:Value->Shared->Prop}{i:Nat}{x:Str}{v:V}{u:Value}{Q:Unit->Shared->Prop} (I:Inv X pins σ H s) (hN:X.N.Nodup) (hi:X.N[i]?=some x) (hx:Loc X.env.scope x) (r:RelV v u)
    (h:∀ s',Inv X pins (σ.set i (some v)) H s'->(∃ a,Heap.SameBut a s.heap s'.heap/\(a=X.env.locals\/X.env.cells.lookup x=some a))->Q () s') (hf:X.fn x=true\/X.env.scope.names.lookup x=some .local:=by first|exact .inl rfl|exact .inr rfl|assumption):wpAny M A (storeName X.env x u) Q E s:=by
  obtain⟨m,hn,hl⟩:=id I.loc
  have hcls:(X.env.scope.kind == .class||(X.env.scope.kind == .module&&X.env.locals != X.env.globals))=false:=by rw[I.ok.kind]; rfl
  have hiσ:i<σ.length:=by rw[I.len]; exact (List.getElem?_eq_some_iff.mp hi).1
  have cne:=I.cne
  have tracked:∀{a:Addr}{h':Heap},(∃ o,s.heap.get? a=some o/\H a=none)->Heap.SameBut a s.heap h'->HOk X.prog X.w H h':=fun {a h'} ha hs b ob e=>by
    obtain⟨_,_,hfree⟩:=ha
    refine (I.hok b ob e).stay (fun c w' hc q=>(hs.2 c ?_).trans q) (fun _ q=>q) fun _ _ q=>q
    rintro rfl
    rcases hc with rfl|hc
    . rw[hfree] at e; cases e
    . rw[hfree] at hc; cases hc
  rcases hx with hk|hk
  . refine wpAny_storeName_local hk hn (fun h' hn' hs=>?_) hcls
    obtain⟨oL,_,_,hoL,_⟩:=id hn
    refine h _ ⟨I.ok,I.os,I.bare,⟨fun b o e n hb hx=>?_,fun b o e n hb hx=>?_,I.base.free,fun b o e hx=>?_,I.base.tups,I.base.frzs,I.base.tbls⟩,⟨_,hn',fun j y v' e1 e2 e3=>?_⟩,fun y c e=>?_,I.free,I.freeC,fun p hp=>?_,tracked ⟨oL,hoL,I.free⟩ hs,by simpa using I.len⟩ ⟨_,hs,.inl rfl⟩
    . exact (hs.2 b (Nat.ne_of_lt (Nat.lt_of_lt_of_le (Heap.lt_size e) I.ok.above))).trans (I.base.keep b o e n hb hx)
    . obtain⟨sl,e1⟩:=I.base.slot b o e n hb hx
      exact⟨sl,(hs.2 b (Nat.ne_of_lt (Nat.lt_of_lt_of_le (Heap.lt_size e) I.ok.above))).trans e1⟩
    . obtain⟨o',e1⟩:=I.base.there b o e hx
      exact⟨o',(hs.2 b (Nat.ne_of_lt (Nat.lt_of_lt_of_le (Heap.lt_size e) I.ok.above))).trans e1⟩
    . by_cases hj:j=i
      . subst hj
        rw[hi] at e1; cases e1
        rw[List.getElem?_set_self hiσ] at e2
        cases e2
        exact⟨u,r,.inl ⟨hk,by simp⟩⟩
      . rw[List.getElem?_set_ne (Ne.symm hj)] at e2
        obtain⟨u',r',q⟩:=hl j y v' e1 e2 e3
        refine⟨u',r',?_⟩
        rcases q with⟨k,e⟩|⟨k,c,e,z⟩
        . refine .inl ⟨k,?_⟩
          have:y≠x:=fun e=>hj (xid hN e1 (e▸hi))
          simp[this,e]
        . exact .inr ⟨k,c,e,z.sameBut hs (cne y c e)⟩
    . obtain⟨w',z⟩:=I.cell y c e
      exact⟨w',z.sameBut hs (cne y c e)⟩
    . obtain⟨e,n,ne,nf,d⟩:=I.pin p hp
      exact⟨(hs.2 p.1 ne).trans e,n,ne,nf,d⟩
  . have hfn:X.fn x=true:=by
      rcases hf with z|z
      . exact z
      . rw[z] at hk; cases hk
    obtain⟨c,hc⟩:=I.ok.has x (.inl hk)
    obtain⟨w',z⟩:=I.cell x c hc
    refine wpAny_storeName_cell I.ok.kind hk hc z (fun h' hc' hs=>?_)
    obtain⟨oc,hoc,hocd⟩:=id z
    refine h { s with heap:=h' } ⟨I.ok,I.os,I.bare,⟨fun b o e n hb hx=>?_,fun b o e n hb hx=>?_,I.base.free,fun b o e hx=>?_,I.base.tups,I.base.frzs,I.base.tbls⟩,⟨m,hn.sameBut hs (Ne.symm (cne x c hc)),fun j y v' e1 e2 e3=>?_⟩,fun y c' e=>?_,I.free,I.freeC,fun p hp=>?_,tracked ⟨oc,hoc,I.freeC x c hc⟩ hs,by simpa using I.len⟩ ⟨c,hs,.inr hc⟩
    . exact (hs.2 b (Nat.ne_of_lt (Nat.lt_of_lt_of_le (Heap.lt_size e) (I.ok.cab x c hfn hc)))).trans (I.base.keep b o e n hb hx)
    . obtain⟨sl,e1⟩:=I.base.slot b o e n hb hx
      exact⟨sl,(hs.2 b (Nat.ne_of_lt (Nat.lt_of_lt_of_le (Heap.lt_size e) (I.ok.cab x c hfn hc)))).trans e1⟩
    . obtain⟨o',e1⟩:=I.base.there b o e hx
      exact⟨o',(hs.2 b (Nat.ne_of_lt (Nat.lt_of_lt_of_le (Heap.lt_size e) (I.ok.cab x c hfn hc)))).trans e1⟩
    . by_cases hj:j=i
      . subst hj
        rw[hi] at e1; cases e1
        rw[List.getElem?_set_self hiσ] at e2
        cases e2
        exact⟨u,r,.inr ⟨.inl hk,c,hc,hc'⟩⟩
      . rw[List.getElem?_set_ne (Ne.symm hj)] at e2
        obtain⟨u',r',q⟩:=hl j y v' e1 e2 e3
        refine⟨u',r',?_⟩
        rcases q with q|⟨k,c',e,z'⟩
        . exact .inl q
        . refine .inr ⟨k,c',e,z'.sameBut hs ?_⟩
          rintro rfl
          exact hj (xid hN e1 (I.ok.inj _ _ _ e hc▸hi))
    . by_cases hcc:c'=c
      . subst hcc; exact⟨_,hc'⟩
      . obtain⟨w2,z2⟩:=I.cell y c' e
        exact⟨w2,z2.sameBut hs hcc⟩
    . obtain⟨e,n,ne,nf,d⟩:=I.pin p hp
      refine⟨(hs.2 p.1 ?_).trans e,n,ne,nf,d⟩
      intro q
      rw[q,hoc] at e
      have q':oc=p.2:=Option.some.inj e
      exact d w' (by rw[<- q']; exact hocd)
theorem xfs {M:Model}{A:Around}{E:Value->Shared->Prop}{i:Nat}{x:Str}{v:V}{u:Value}{Q:Unit->Shared->Prop} (I:Inv X pins σ H s) (hN:X.N.Nodup) (hi:X.N[i]?=some x) (hx:Loc X.env.scope x) (r:RelV v u)
    (h:∀ s',Inv X pins (σ.set i (some v)) H s'->Q () s') (hf:X.fn x=true\/X.env.scope.names.lookup x=some .local:=by first|exact .inl rfl|exact .inr rfl|assumption):wpAny M A (storeName X.env x u) Q E s :=
  xg3 I hN hi hx r (fun s' I' _=>h s' I') hf
theorem Inv.call' {s':Shared}{ch:List Addr} (I:Inv X pins σ H s) (ho:s'.os=s.os) (u:Un (frs X.stack) ch H H' s.heap s'.heap) (hok:HOk X.prog X.w H' s'.heap) (hg:AllBare s'.gens)
    (hch:∀ b∈ch,(b∈X.ex\/X.s₀.heap.objs.size<=b)/\b≠X.env.locals/\(∀ x c,X.env.cells.lookup x=some c->c≠b)/\∀ p∈X.pn++pins,p.1≠b):Inv X pins σ H' s':=by
  obtain⟨h',g',d',t',o'⟩:=s'
  have e:o'=s.os:=ho
  subst e
  exact I.call (g':=g') (t':=t') (d':=d') u hok hg hch
end
abbrev XK:=Addr->Addr->Hp->Prop
abbrev St:=List (Option V)
abbrev VK:=V->Hp->Prop
abbrev TE:=St->Hp->VK->Prop
abbrev TT:=St->Hp->(Bool->Hp->Prop)->Prop
abbrev TA:=St->Hp->(List V->Hp->Prop)->Prop
structure Ends where
 nx:St->Hp->Prop
 rt:VK
 bk:St->Hp->Prop:=fun _ _=>False
 ct:St->Hp->Prop:=fun _ _=>False
abbrev TS:=Ends->St->Hp->Prop
def EP (X:Cx) (pins:List (Addr × Obj)) (σ:St) (Q:VK) (u:Value) (s':Shared):Prop:=∃ v H',Inv X pins σ H' s'/\RelV v u/\Q v H'
def TP (X:Cx) (pins:List (Addr × Obj)) (σ:St) (Q:Bool->Hp->Prop) (b:Bool) (s':Shared):Prop:=∃ H',Inv X pins σ H' s'/\Q b H'
def AP (X:Cx) (pins:List (Addr × Obj)) (σ:St) (Q:List V->Hp->Prop) (us:List Value) (s':Shared):Prop:=∃ vs H',Inv X pins σ H' s'/\Vals vs us/\Q vs H'
def SP (X:Cx) (pins:List (Addr × Obj)) (D:Ends) (f:Flow) (s':Shared):Prop :=
 match f with
 | .next=>∃ σ' H',Inv X pins σ' H' s'/\D.nx σ' H'
 | .brk=>∃ σ' H',Inv X pins σ' H' s'/\D.bk σ' H'
 | .cont=>∃ σ' H',Inv X pins σ' H' s'/\D.ct σ' H'
 | .ret u=>∃ v σ' H',Inv X pins σ' H' s'/\RelV v u/\D.rt v H'
def PE (X:Cx) (e:Expr) (t:TE):Prop :=
 ∀(pins:List (Addr × Obj)) (s:Shared) (σ:St) (H:Hp) (Q:VK),Inv X pins σ H s->t σ H Q->wpAny (model X.prog X.w) X.A (eval e X.env) (EP X pins σ Q) X.xe s
def PT (X:Cx) (e:Expr) (t:TT):Prop :=
 ∀(pins:List (Addr × Obj)) (s:Shared) (σ:St) (H:Hp) (Q:Bool->Hp->Prop),Inv X pins σ H s->t σ H Q->wpAny (model X.prog X.w) X.A (isTrue e X.env (eval e X.env)) (TP X pins σ Q) X.xe s
def PW (X:Cx) (e:Expr) (t:TT):Prop :=
 ∀(whole:Sem Value) (pins:List (Addr × Obj)) (s:Shared) (σ:St) (H:Hp) (Q:Bool->Hp->Prop),Inv X pins σ H s->t σ H Q->wpAny (model X.prog X.w) X.A (isTrue e X.env whole) (TP X pins σ Q) X.xe s
theorem PW.pt {X:Cx}{e:Expr}{t:TT} (h:PW X e t):PT X e t:=h _
def PA (X:Cx) (es:List Expr) (t:TA):Prop :=
 ∀(pos:Pos) (pins:List (Addr × Obj)) (s:Shared) (σ:St) (H:Hp) (Q:List V->Hp->Prop),Inv X pins σ H s->t σ H Q->wpAny (model X.prog X.w) X.A (spliced (backTo pos (starEach es X.env))) (AP X pins σ Q) X.xe s
def PS (X:Cx) (st:Stmt) (t:TS):Prop :=
 ∀(pins:List (Addr × Obj)) (s:Shared) (σ:St) (H:Hp) (D:Ends),Inv X pins σ H s->t D σ H->wpAny (model X.prog X.w) X.A (exec st X.env) (SP X pins D) X.xe s
def PSs (X:Cx) (st:List Stmt) (t:TS):Prop :=
 ∀(pins:List (Addr × Obj)) (s:Shared) (σ:St) (H:Hp) (D:Ends),Inv X pins σ H s->t D σ H->wpAny (model X.prog X.w) X.A (execs st X.env) (SP X pins D) X.xe s
theorem thn {α:Type}{t:Sem α}{Q Q':α->Shared->Prop}{M:Model}{A:Around}{E:Value->Shared->Prop}{s:Shared} (h:wpAny M A t Q E s) (hQ:∀ a s,Q a s->Q' a s):wpAny M A t Q' E s:=wpAny_mono h hQ fun _ _ x=>x
section
variable {X:Cx}
theorem bin {a b:Expr}{ta tb:TE} (ha:PE X a ta) (hb:PE X b tb) {pins:List (Addr × Obj)}{s:Shared}{σ:St}{H:Hp}{R:V->V->Hp->Prop} (I:Inv X pins σ H s) (h:ta σ H fun x H1=>tb σ H1 fun y H2=>R x y H2)
    {α:Type}{Q:α->Shared->Prop}{f:Value->Value->Sem α}
    (hf:∀ v u s2 x y H2,Inv X pins σ H2 s2->RelV x v->RelV y u->R x y H2->wpAny (model X.prog X.w) X.A (f v u) Q X.xe s2) :
    wpAny (model X.prog X.w) X.A (eval a X.env) (fun v s₁=>wpAny (model X.prog X.w) X.A (eval b X.env) (fun u s₂=>wpAny (model X.prog X.w) X.A (f v u) Q X.xe s₂) X.xe s₁) X.xe s:=by
  refine thn (ha pins s σ H _ I h) fun v s1 ⟨x,H1,I1,r1,q1⟩=>?_
  refine thn (hb pins s1 σ H1 _ I1 q1) fun u s2 ⟨y,H2,I2,r2,q2⟩=>?_
  exact hf v u s2 x y H2 I2 r1 r2 q2
def tVar (i:Nat):TE:=fun σ H Q=>∃ v,σ[i]?=some (some v)/\Q v H
def tC (v:V):TE:=fun _ H Q=>Q v H
theorem xqd {i:Nat}{x:Str}{pos:Pos} (hN:X.N[i]?=some x) (hv:Vis X.env.scope x) (hd:(x == ("__debug__":Str))=false:=by decide) (hcd:(x == ("__classdict__":Str))=false:=by decide):PE X (.Name x pos) (tVar i):=by
 intro pins s σ H Q I h
 obtain⟨v,e,h⟩:=h
 obtain⟨m,hn,hl⟩:=I.loc
 obtain⟨u,r,l⟩:=hl i x v hN e hv
 have fin:EP X pins σ Q u s:=⟨v,H,I,r,h⟩
 rcases l with⟨hk,hm⟩|⟨hk,c,hc,hcell⟩
 .exact wpAny_Name (wpAny_loadName_local I.ok.kind hk hn hm fin) hd
 .rcases hk with hk|hk
  .exact wpAny_Name (wpAny_loadName_cell I.ok.kind hk hc hcell fin) hd
  .exact wpAny_Name (wpAny_loadName_free I.ok.kind hk hc hcell fin hcd) hd
theorem xm {i j pos}:PE X (.Constant (.int i) j pos) (tC (.int i)):=fun _ _ _ H _ I h=>wpAny_Constant_int ⟨.int i,H,I.tok _,⟨_,rfl⟩,h⟩
theorem xem {b j pos}:PE X (.Constant (.bool b) j pos) (tC (.bl b)):=fun _ _ _ H _ I h=>Constant_bool ⟨.bl b,H,I,rfl,h⟩
theorem xcj {j pos}:PE X (.Constant .none j pos) (tC .non):=fun _ _ _ H _ I h=>Constant_none ⟨.non,H,I,rfl,h⟩
theorem xbm {x j pos}:PE X (.Constant (.str x) j pos) (tC (.str x)):=fun _ _ _ H _ I h=>Calls.Constant_str ⟨.str x,H,I.tok _,⟨_,rfl⟩,h⟩
def Gl (X:Cx) (x:Str):Prop:=X.env.kindOf x=some .globalImplicit
theorem xfi {E:Value->Shared->Prop}{pins:List (Addr × Obj)}{s:Shared}{σ:St}{H:Hp}{x:Str}{u:Value}{pos:Pos}{Q:Value->Shared->Prop} (I:Inv X pins σ H s) (hg:Gl X x) (hm:X.mg x=some u) (h:Q u s)
    (hd:(x == ("__debug__":Str))=false:=by decide):wpAny (model X.prog X.w) X.A (eval (.Name x pos) X.env) Q E s :=
  Calls.Name_function_global I.ok.kind hg (Calls.loadGlobal_global (by rw[I.ok.glob]; exact I.mod.glob.keeps I.bk) hm h) hd
theorem xc8 {E:Value->Shared->Prop}{pins:List (Addr × Obj)}{s:Shared}{σ:St}{H:Hp}{x:Str}{u:Value}{pos:Pos}{Q:Value->Shared->Prop} (I:Inv X pins σ H s) (hg:Gl X x) (hm:X.mg x=none) (hv:bootBuiltins x=some u) (h:Q u s)
    (hn:x≠"__name__":=by decide) (hd:(x == ("__debug__":Str))=false:=by decide):wpAny (model X.prog X.w) X.A (eval (.Name x pos) X.env) Q E s:=by
  obtain⟨mb,h1,h2⟩:=I.mod.blt
  exact Calls.Name_function_global I.ok.kind hg (Calls.loadGlobal_builtin (by rw[I.ok.glob]; exact I.mod.glob.keeps I.bk) hm (by rw[I.ok.blt]; exact h1.keeps I.bk) ((h2 x hn).trans hv) h) hd
theorem xea {x:Str}{v:V}{u:Value}{pos:Pos} (hg:Gl X x) (hm:X.mg x=some u) (r:RelV v u) (hd:(x == ("__debug__":Str))=false:=by decide):PE X (.Name x pos) (tC v) :=
 fun _ _ _ H _ I h=>xfi I hg hm ⟨v,H,I,r,h⟩ hd
theorem xeg {x:Str}{v:V}{u:Value}{pos:Pos} (hg:Gl X x) (hm:X.mg x=none) (hv:bootBuiltins x=some u) (r:RelV v u) (hn:x≠"__name__":=by decide) (hd:(x == ("__debug__":Str))=false:=by decide):PE X (.Name x pos) (tC v) :=
 fun _ _ _ H _ I h=>xc8 I hg hm hv ⟨v,H,I,r,h⟩ hn hd
variable {a b:Expr}{ta tb:TE}{pos:Pos}
def PC (X:Cx) (op:CmpOp) (a b:Expr) (t:TE):Prop :=
 ∀(pins:List (Addr × Obj)) (s:Shared) (σ:St) (H:Hp) (Q:VK),Inv X pins σ H s->t σ H Q ->
  wpAny (model X.prog X.w) X.A (eval a X.env) (fun v s₁=>wpAny (model X.prog X.w) X.A (eval b X.env) (fun u s₂=>wpAny (model X.prog X.w) X.A (compareOp op v u) (EP X pins σ Q) X.xe s₂) X.xe s₁) X.xe s
theorem xiq (b:Expr) {op:CmpOp} (h:op≠.In) (h2:op≠.NotIn):behindInMarks op b=false:=by
 have e1:(op == CmpOp.In)=false:=by cases op<;>first|rfl|exact absurd rfl h
 have e2:(op == CmpOp.NotIn)=false:=by cases op<;>first|rfl|exact absurd rfl h2
 cases b<;>simp[behindInMarks,e1,e2]
def tB (t:TE):TT:=fun σ H Q=>t σ H fun x H1=>∃ c,x=.bl c/\Q c H1
theorem xpr {op:CmpOp}{t:TE} (h:PC X op a b t) (h1:behindInMarks op b=false:=by first|exact xiq _ (by decide) (by decide)|rfl):PE X (.Compare a [op] [b] pos) t:=fun pins s σ H Q I hw=>wpAny_Compare1 (h pins s σ H Q I hw) h1
theorem xcz {op:CmpOp}{t:TE} (h:PC X op a b t) (h1:behindInMarks op b=false:=by first|exact xiq _ (by decide) (by decide)|rfl):PT X (.Compare a [op] [b] pos) (tB t):=by
 intro pins s σ H Q I hw
 refine wpAny_isTrue_Compare1 (thn (h pins s σ H _ I hw) fun v s1 h1=>thn h1 fun u s2 h2=>thn h2 fun c s3 ⟨x,H1,I1,r1,q1⟩=>?_) h1
 obtain⟨d,rfl,q⟩:=q1
 cases r1
 exact wpAny_truthy_bool ⟨H1,I1,q⟩
theorem xb2 {e:Expr}{t:TE} (h:PE X e t) (he:∀ whole,isTrue e X.env whole=(do let v <- whole; standAt e.pos; holding [v] (truthy v)):=by intro _; rfl):PT X e (tB t):=by
 intro pins s σ H Q I hw
 refine isTrue_plain (thn (h pins s σ H _ I hw) fun v s1 ⟨x,H1,I1,r1,q1⟩=>?_) (he _)
 obtain⟨d,rfl,q⟩:=q1
 cases r1
 exact wpAny_truthy_bool ⟨H1,I1,q⟩
variable {tA tB':TT}{rest:List Expr}
def tAnd (t u:TT):TT:=fun σ H Q=>t σ H fun c H1=>if c=true then u σ H1 Q else Q false H1
def tOr (t u:TT):TT:=fun σ H Q=>t σ H fun c H1=>if c=true then Q true H1 else u σ H1 Q
def tNot (t:TT):TT:=fun σ H Q=>t σ H fun c H1=>Q (!c) H1
theorem xjp (ha:PT X a tA):PW X (.BoolOp .And [a] pos) tA:=by
 intro wh pins s σ H Q I h
 refine isTrue_and (thn (ha pins s σ H Q I h) fun c s1 e=>?_)
 cases c with
 | true=>exact isTrue_and_nil e
 | false=>exact e
theorem xcu (ha:PT X a tA):PW X (.BoolOp .Or [a] pos) tA:=by
 intro wh pins s σ H Q I h
 refine isTrue_or (thn (ha pins s σ H Q I h) fun c s1 e=>?_)
 cases c with
 | false=>exact isTrue_or_nil e
 | true=>exact e
theorem xmd (ha:PT X a tA) (hb:PW X (.BoolOp .And (b::rest) pos) tB'):PW X (.BoolOp .And (a::b::rest) pos) (tAnd tA tB'):=by
 intro wh pins s σ H Q I h
 refine isTrue_and (thn (ha pins s σ H _ I h) fun c s1 ⟨H1,I1,q1⟩=>?_)
 cases c with
 | true=>exact hb wh pins s1 σ H1 Q I1 q1
 | false=>exact⟨H1,I1,q1⟩
theorem xdk (ha:PT X a tA) (hb:PW X (.BoolOp .Or (b::rest) pos) tB'):PW X (.BoolOp .Or (a::b::rest) pos) (tOr tA tB'):=by
 intro wh pins s σ H Q I h
 refine isTrue_or (thn (ha pins s σ H _ I h) fun c s1 ⟨H1,I1,q1⟩=>?_)
 cases c with
 | true=>exact⟨H1,I1,q1⟩
 | false=>exact hb wh pins s1 σ H1 Q I1 q1
theorem xck (ha:PT X a tA):PT X (.UnaryOp .Not a pos) (tNot tA):=by
 intro pins s σ H Q I h
 exact isTrue_not (ha pins s σ H (fun c H1=>Q (!c) H1) I h)
def xrf (ta tb:TE):TE:=fun σ H Q=>ta σ H fun x H1=>∃ c,x=.bl c/\if c=true then tb σ H1 Q else Q (.bl false) H1
def xr4 (ta:TE):TE:=fun σ H Q=>ta σ H fun x H1=>∃ c,x=.bl c/\Q (.bl (!c)) H1
theorem xip {op}{t:TE} (h:PE X a t):PE X (.BoolOp op [a] pos) t:=fun pins s σ H Q I hw=>BoolOp_one (h pins s σ H Q I hw)
theorem xec (ha:PE X a ta) (hb:PE X (.BoolOp .And (b::rest) pos) tb):PE X (.BoolOp .And (a::b::rest) pos) (xrf ta tb):=by
 intro pins s σ H Q I h
 refine BoolOp_and (thn (ha pins s σ H _ I h) fun v s1 ⟨x,H1,I1,r1,q1⟩=>?_)
 obtain⟨c,rfl,q1⟩:=q1
 cases r1
 refine wpAny_truthy_bool ?_
 cases c with
 | true=>exact hb pins s1 σ H1 Q I1 q1
 | false=>exact⟨.bl false,H1,I1,rfl,q1⟩
theorem xpm (ha:PE X a ta):PE X (.UnaryOp .Not a pos) (xr4 ta):=by
 intro pins s σ H Q I h
 refine UnaryOp_ (thn (ha pins s σ H _ I h) fun v s1 ⟨x,H1,I1,r1,q1⟩=>?_)
 obtain⟨c,rfl,q1⟩:=q1
 cases r1
 exact not_of (wpAny_truthy_bool ⟨.bl (!c),H1,I1,rfl,q1⟩)
def tIf (t:TT) (ta tb:TE):TE:=fun σ H Q=>t σ H fun c H1=>if c=true then ta σ H1 Q else tb σ H1 Q
theorem xij {c:Expr} (hc:PT X c tA) (ha:PE X a ta) (hb:PE X b tb):PE X (.IfExp c a b pos) (tIf tA ta tb):=by
 intro pins s σ H Q I h
 refine wpAny_IfExp (thn (hc pins s σ H _ I h) fun d s1 ⟨H1,I1,q1⟩=>?_)
 cases d with
 | true=>exact ha pins s1 σ H1 Q I1 q1
 | false=>exact hb pins s1 σ H1 Q I1 q1
end
def SqL (K:PySem.W.Frag) (H:Hp) (a:Addr) (xs:List V):Prop :=
 Rd H a (.lst xs) \/
  ∃(o:Obj) (its:Array Value) (n:Nat),K.lookup a=some o/\o.cls=.type "list"/\o.dict=none/\o.data=.seq its n/\its.size<=sizeLine/\Vals xs its.toList
def SqT (K:PySem.W.Frag) (H:Hp) (a:Addr) (xs:List V):Prop :=
 Rd H a (.tup xs) \/
  ∃(o:Obj) (its:Array Value) (n:Nat),K.lookup a=some o/\o.cls=.type "tuple"/\o.data=.seq its n/\its.size<=sizeLine/\Vals xs its.toList
def absV:Value->Option V
 | .none=>some .non
 | .bool b=>some (.bl b)
 | .int i _=>some (.int i)
 | .str x _=>some (.str x)
 | .bytes b _=>some (.byt b)
 | .float b _=>some (.flt b)
 | .ref a=>some (.ref a)
 | .type n=>some (.ty n)
 | _=>none
theorem RelV.abs {x:V}{u:Value} (r:RelV x u):absV u=some x:=by
 cases x with
 | non=>cases r; rfl
 | bl _=>cases r; rfl
 | int _=>obtain⟨t,rfl⟩:=r; rfl
 | str _=>obtain⟨t,rfl⟩:=r; rfl
 | byt _=>obtain⟨t,rfl⟩:=r; rfl
 | flt _=>obtain⟨t,rfl⟩:=r; rfl
 | ref _=>cases r; rfl
 | ty _=>cases r; rfl
theorem RelV.inj {x y:V}{u:Value} (r:RelV x u) (q:RelV y u):x=y:=Option.some.inj (r.abs.symm.trans q.abs)
theorem Vals.inj:∀{xs ys:List V}{us:List Value},Vals xs us->Vals ys us->xs=ys
 | _,_,_,.nil,.nil=>rfl
 | _,_,_,.cons r t,.cons r' t'=>by rw[r.inj r',Vals.inj t t']
section
variable {X:Cx}{pins:List (Addr × Obj)}{σ:St}{H:Hp}{s:Shared}{a:Addr}{xs ys:List V}
theorem SqL.of {K:PySem.W.Frag} (h:H a=some (.lst xs)):SqL K H a xs:=.inl (.inl h)
theorem SqT.of {K:PySem.W.Frag} (h:H a=some (.tup xs)):SqT K H a xs:=.inl (.inl h)
theorem Inv.list (I:Inv X pins σ H s) (h:SqL X.K H a xs):∃ its:List Value,Vals xs its/\PlainL s.heap a its.toArray/\xs.length<=sizeLine:=by
 rcases h with h|⟨o,its,n,hk,hc,hd,hs,hz,r⟩
 .obtain ⟨z,its,n,r,e⟩:=h.ok I.hok
  exact⟨its,r,⟨_,n,e,rfl,rfl,rfl⟩,z⟩
 .refine ⟨its.toList,r,⟨o,n,I.kIn a o hk,hc,hd,by simpa using hs⟩,?_⟩
  have e:=r.length
  simp only[Array.length_toList] at e
  omega
theorem Inv.tuple (I:Inv X pins σ H s) (h:SqT X.K H a xs):∃ its:List Value,Vals xs its/\IsTup s.heap a its.toArray/\xs.length<=sizeLine:=by
 rcases h with h|⟨o,its,n,hk,hc,hs,hz,r⟩
 .obtain ⟨z,its,r,p⟩:=h.ok I.hok
  exact⟨its,r,p,z⟩
 .refine ⟨its.toList,r,⟨o,I.kIn a o hk,hc,n,by simpa using hs⟩,?_⟩
  have e:=r.length
  simp only[Array.length_toList] at e
  omega
theorem Inv.list_inj (I:Inv X pins σ H s) (h:SqL X.K H a xs) (h':SqL X.K H a ys):xs=ys:=by
 obtain⟨its,r,⟨o,n,e,_,_,d⟩,_⟩:=I.list h
 obtain⟨its',r',⟨o',n',e',_,_,d'⟩,_⟩:=I.list h'
 rw[e] at e'; cases e'
 rw[d] at d'
 injection d' with d1 _
 have:its=its':=by simpa using congrArg Array.toList d1
 subst this
 exact r.inj r'
theorem Inv.tuple_inj (I:Inv X pins σ H s) (h:SqT X.K H a xs) (h':SqT X.K H a ys):xs=ys:=by
 obtain⟨its,r,⟨o,e,_,n,d⟩,_⟩:=I.tuple h
 obtain⟨its',r',⟨o',e',_,n',d'⟩,_⟩:=I.tuple h'
 rw[e] at e'; cases e'
 rw[d] at d'
 injection d' with d1 _
 have:its=its':=by simpa using congrArg Array.toList d1
 subst this
 exact r.inj r'
end
abbrev Cx.wish (X:Cx) (E:Value->Shared->Prop):Cx:={ X with xe:=E }
abbrev Cx.nox (X:Cx):Cx:=X.wish fun _ _=>False
theorem Cx.Ok.wish {X:Cx} (ok:X.Ok) (E:Value->Shared->Prop):(X.wish E).Ok :=
 ⟨ok.mod,ok.kind,ok.glob,ok.blt,ok.above,ok.inj,ok.has,ok.cab,ok.hd,ok.frames,ok.stk,ok.exf,ok.bs,ok.bsz,ok.noex,ok.exfs,ok.funs,ok.frf⟩
theorem Cx.Ok.unwish {X:Cx}{E:Value->Shared->Prop} (ok:(X.wish E).Ok):X.Ok :=
 ⟨ok.mod,ok.kind,ok.glob,ok.blt,ok.above,ok.inj,ok.has,ok.cab,ok.hd,ok.frames,ok.stk,ok.exf,ok.bs,ok.bsz,ok.noex,ok.exfs,ok.funs,ok.frf⟩
section
variable {X:Cx}{pins:List (Addr × Obj)}{σ:St}{H:Hp}{s:Shared}{E:Value->Shared->Prop}
theorem Inv.wish (I:Inv X pins σ H s) (E:Value->Shared->Prop):Inv (X.wish E) pins σ H s:=⟨I.ok.wish E,I.os,I.bare,I.base,I.loc,I.cell,I.free,I.freeC,I.pin,I.hok,I.len⟩
theorem Inv.unwish (I:Inv (X.wish E) pins σ H s):Inv X pins σ H s:=⟨I.ok.unwish,I.os,I.bare,I.base,I.loc,I.cell,I.free,I.freeC,I.pin,I.hok,I.len⟩
theorem SP.unwish {D:Ends}{f:Flow}{s':Shared} (h:SP (X.wish E) pins D f s'):SP X pins D f s':=by
 cases f with
 | next=>obtain⟨σ',H',I,q⟩:=h; exact⟨σ',H',I.unwish,q⟩
 | brk=>obtain⟨σ',H',I,q⟩:=h; exact⟨σ',H',I.unwish,q⟩
 | cont=>obtain⟨σ',H',I,q⟩:=h; exact⟨σ',H',I.unwish,q⟩
 | ret u=>obtain⟨v,σ',H',I,r,q⟩:=h; exact⟨v,σ',H',I.unwish,r,q⟩
theorem PSs.nox {st:List Stmt}{t:TS} (h:PSs X.nox st t):PSs X st t:=fun pins s σ H D I hw =>
 wpAny_mono (h pins s σ H D (I.wish _) hw) (fun _ _ q=>q.unwish) fun _ _ z=>False.elim z
end
section
variable {X:Cx}{st:Stmt}{rest:List Stmt}{t u:TS}{e:Expr}{te:TE}{pos:Pos}
def xrg:TS:=fun D σ H=>D.nx σ H
def tSeq (t u:TS):TS:=fun D σ H=>t { D with nx:=u D } σ H
theorem xae:PSs X [] xrg:=fun _ _ σ H _ I h=>wpAny_execs_nil ⟨σ,H,I,h⟩
theorem xh (h1:PS X st t) (h2:PSs X rest u):PSs X (st::rest) (tSeq t u):=by
 intro pins s σ H D I h
 refine wpAny_execs_cons (thn (h1 pins s σ H { D with nx:=u D } I h) fun f s1 q=>?_)
 cases f with
 | next =>
  obtain⟨σ',H',I',q⟩:=q
  exact h2 pins s1 σ' H' D I' q
 | ret v=>exact q
 | brk=>exact q
 | cont=>exact q
theorem xl (h1:PS X st t):PSs X [st] t:=by
 intro pins s σ H D I h
 refine wpAny_execs_cons (thn (h1 pins s σ H D I h) fun f s1 q=>?_)
 cases f with
 | next=>exact wpAny_execs_nil q
 | ret v=>exact q
 | brk=>exact q
 | cont=>exact q
theorem Inv.quiet {pins:List (Addr × Obj)}{σ:St}{H:Hp}{s:Shared} (I:Inv X pins σ H s):interactive X.env=false:=by simp[interactive,I.ok.kind]
def xrz (te:TE):TS:=fun D σ H=>te σ H fun _ H1=>D.nx σ H1
theorem xav (he:PE X e te) (hs:swapsWith e none pos.line X.env=pure false:=by rfl):PS X (.Expr e pos) (xrz te):=by
 intro pins s σ H D I h
 exact wpAny_Expr_any (thn (he pins s σ H _ I h) fun v s1 ⟨x,H1,I1,r1,q1⟩=>⟨σ,H1,I1,q1⟩) I.quiet hs
def tRet (te:TE):TS:=fun D σ H=>te σ H D.rt
theorem xaf (he:PE X e te):PS X (.Return (some e) pos) (tRet te):=by
 intro pins s σ H D I h
 exact wpAny_Return_some (thn (he pins s σ H _ I h) fun v s1 ⟨x,H1,I1,r1,q1⟩=>⟨x,σ,H1,I1,r1,q1⟩)
def tIfS (c:TT) (t u:TS):TS:=fun D σ H=>c σ H fun b H1=>if b=true then t D σ H1 else u D σ H1
theorem xat {c:Expr}{a b:List Stmt}{tc:TT} (hc:PT X c tc) (ha:PSs X a t) (hb:PSs X b u):PS X (.If c a b pos) (tIfS tc t u):=by
 intro pins s σ H D I h
 refine wpAny_If (thn (hc pins s σ H _ I h) fun d s1 ⟨H1,I1,q1⟩=>?_)
 cases d with
 | true=>exact ha pins s1 σ H1 D I1 q1
 | false=>exact hb pins s1 σ H1 D I1 q1
def xpp:TS:=fun _ _ _=>False
theorem xba:PS X st xpp:=fun _ _ _ _ _ _ h=>h.elim
end
abbrev TG:=V->St->Hp->(St->Hp->Prop)->Prop
abbrev TGs:=List V->St->Hp->(St->Hp->Prop)->Prop
def PG (X:Cx) (target:Expr) (t:TG):Prop :=
 ∀(pins:List (Addr × Obj)) (s:Shared) (σ:St) (H:Hp) (v:V) (u:Value) (Q:St->Hp->Prop),Inv X pins σ H s->RelV v u->t v σ H Q ->
  wpAny (model X.prog X.w) X.A (assign target X.env u) (fun _ s'=>∃ σ' H',Inv X pins σ' H' s'/\Q σ' H') X.xe s
def PGs (X:Cx) (ts:List Expr) (t:TGs):Prop :=
 ∀(pins:List (Addr × Obj)) (s:Shared) (σ:St) (H:Hp) (vs:List V) (us:List Value) (Q:St->Hp->Prop),Inv X pins σ H s->Vals vs us->t vs σ H Q ->
  wpAny (model X.prog X.w) X.A (assignInOrder ((assignEach ts X.env).map (·.2)) us) (fun _ s'=>∃ σ' H',Inv X pins σ' H' s'/\Q σ' H') X.xe s
abbrev TIp:=V->V->Hp->VK->Prop
def PIp (X:Cx) (op:Operator) (t:TIp):Prop :=
 ∀(pins:List (Addr × Obj)) (s:Shared) (σ:St) (H:Hp) (x y:V) (v u:Value) (Q:VK),Inv X pins σ H s->RelV x v->RelV y u->t x y H Q ->
  wpAny (model X.prog X.w) X.A (inplaceOp op v u) (EP X pins σ Q) X.xe s
section
variable {X:Cx}{pos:Pos}
def xc6 (i:Nat):TG:=fun v σ H Q=>Q (σ.set i (some v)) H
theorem xn {i:Nat}{x:Str} (hN:X.N.Nodup) (hi:X.N[i]?=some x) (hx:Loc X.env.scope x) (hf:X.fn x=true\/X.env.scope.names.lookup x=some .local:=by first|exact .inl rfl|exact .inr rfl|assumption):PG X (.Name x pos) (xc6 i):=by
 intro pins s σ H v u Q I r h
 exact wpAny_assign_Name (xfs I hN hi hx r (fun s' I'=>⟨_,H,I',h⟩) hf)
def gNil:TGs:=fun vs σ H Q=>vs=[]/\Q σ H
def xkn (t:TG) (u:TGs):TGs:=fun vs σ H Q=>∃ v r,vs=v::r/\t v σ H fun σ' H'=>u r σ' H' Q
theorem xa2:PGs X [] gNil:=by
 intro pins s σ H vs us Q I r h
 obtain⟨e,h⟩:=h
 subst e
 cases r
 exact assignInOrder_nil ⟨σ,H,I,h⟩
theorem xt {e:Expr}{es:List Expr}{t:TG}{u:TGs} (h1:PG X e t) (h2:PGs X es u)
    (hs:(assignEach (e::es) X.env).map (·.2)=assign e X.env::(assignEach es X.env).map (·.2):=by rfl):PGs X (e::es) (xkn t u):=by
  intro pins s σ H vs us Q I r h
  obtain⟨v,vr,e1,h⟩:=h
  subst e1
  cases r with
  | cons r rr =>
    rw[hs]
    refine assignInOrder_cons (thn (h1 pins s σ H _ _ _ I r h) fun _ s1 ⟨σ1,H1,I1,q1⟩=>?_)
    exact h2 pins s1 σ1 H1 _ _ Q I1 rr q1
def gTup (K:PySem.W.Frag) (n:Nat) (t:TGs):TG:=fun v σ H Q=>∃ a xs,v=.ref a/\SqT K H a xs/\xs.length=n/\t xs σ H Q
theorem xa8 {es:List Expr}{k:Nat}{t:TGs}{n:Nat} (hc:X.calm=true) (h:PGs X es t)
    (hn:(assignEach es X.env).length=n:=by rfl) (hst:(assignEach es X.env).findIdx? (·.1)=none:=by rfl):PG X (.Tuple es k pos) (gTup X.K n t):=by
  intro pins s σ H v u Q I r hw
  obtain⟨a,xs,e1,hq,hl,hw⟩:=hw
  subst e1
  cases r
  obtain⟨its,rv,ht,hz⟩:=I.tuple hq
  refine assign_Tuple_tuple (I.ok.hd hc) ht (by simp[hn,<- hl,rv.length]) hst fun h' hx=>?_
  have I1:Inv X pins σ H { s with heap:=h' }:=I.kept (t':=s.toks) fun b o e=>hx b o (Nat.ne_of_lt (Heap.lt_size e)) e
  exact h pins _ σ H xs _ Q I1 (by simpa using rv) hw
def tAsg (te:TE) (g:TG):TS:=fun D σ H=>te σ H fun x H1=>g x σ H1 D.nx
theorem xed {tg e:Expr}{te:TE}{g:TG} (he:PE X e te) (hg:PG X tg g) (hs:swapsWithSole [tg] e pos.line X.env=pure false:=by rfl) (hw:swappedStores [tg] e X.env=pure none:=by rfl)
    (h1:(assignEach [tg] X.env).map (·.2)=[assign tg X.env]:=by rfl):PS X (.Assign [tg] e pos) (tAsg te g):=by
  intro pins s σ H D I h
  refine wpAny_Assign_stores (thn (he pins s σ H _ I h) fun v s1 ⟨x,H1,I1,r1,q1⟩=>?_) hs hw
  rw[h1]
  exact thn (hg pins s1 σ H1 x v _ I1 r1 q1) fun _ s2 q=>q
theorem x0 {i:Nat}{x:Str}{e:Expr}{te:TE}{pos':Pos} (hN:X.N.Nodup) (hi:X.N[i]?=some x) (hx:Loc X.env.scope x) (he:PE X e te) (hs:swapsWith e (some (.Name x pos')) pos.line X.env=pure false:=by rfl) (hf:X.fn x=true\/X.env.scope.names.lookup x=some .local:=by first|exact .inl rfl|exact .inr rfl|assumption) :
    PS X (.Assign [.Name x pos'] e pos) (tAsg te (xc6 i)):=by
  intro pins s σ H D I h
  refine wpAny_Assign_Name (thn (he pins s σ H _ I h) fun v s1 ⟨y,H1,I1,r1,q1⟩=>?_) hs
  exact xfs I1 hN hi hx r1 (fun s2 I2=>⟨_,H1,I2,q1⟩) hf
def tAug (i:Nat) (te:TE) (ti:TIp):TS:=fun D σ H=>∃ x,σ[i]?=some (some x)/\te σ H fun y H1=>ti x y H1 fun z H2=>D.nx (σ.set i (some z)) H2
theorem xqm {i:Nat}{x:Str}{e:Expr}{te:TE}{op:Operator}{ti:TIp}{pos':Pos} (hN:X.N.Nodup) (hi:X.N[i]?=some x) (hx:Loc X.env.scope x) (he:PE X e te) (ho:PIp X op ti) (hf:X.fn x=true\/X.env.scope.names.lookup x=some .local:=by first|exact .inl rfl|exact .inr rfl|assumption) :
    PS X (.AugAssign (.Name x pos') op e pos) (tAug i te ti):=by
  intro pins s σ H D I h
  obtain⟨v,e1,h⟩:=h
  obtain⟨m,hn,hl⟩:=I.loc
  have vis:Vis X.env.scope x:=by rcases hx with k|k; exact .inl k; exact .inr (.inl k)
  obtain⟨u,r,l⟩:=hl i x v hi e1 vis
  refine wpAny_AugAssign_Name ?_
  have go:wpAny (model X.prog X.w) X.A (eval e X.env) (fun w s₂=>wpAny (model X.prog X.w) X.A (inplaceOp op u w) (fun r s₃=>wpAny (model X.prog X.w) X.A (storeName X.env x r) (fun _=>SP X pins D .next) X.xe s₃) X.xe s₂) X.xe s:=by
    refine thn (he pins s σ H _ I h) fun w s1 ⟨y,H1,I1,r1,q1⟩=>?_
    refine thn (ho pins s1 σ H1 v y u w _ I1 r r1 q1) fun z s2 ⟨zv,H2,I2,r2,q2⟩=>?_
    exact xfs I2 hN hi hx r2 (fun s3 I3=>⟨_,H2,I3,q2⟩) hf
  rcases l with⟨hk,hm⟩|⟨hk,c,hc,hcell⟩
  . exact wpAny_loadName_local I.ok.kind hk hn hm go
  . rcases hk with hk|hk
    . exact wpAny_loadName_cell I.ok.kind hk hc hcell go
    . rcases hx with k|k
      . have:X.env.scope.names.lookup x=some .free:=hk
        rw[k] at this; cases this
      . have:X.env.scope.names.lookup x=some .free:=hk
        rw[k] at this; cases this
end
section
variable {X:Cx}{pos:Pos}
def xqq (c:TT) (tb:TS):TS:=fun D σ H=>∃ W:Nat->St->Hp->Prop,(∃ m,W m σ H)/\∀ m σ H,W m σ H ->
 c σ H fun b H1=>if b=true then ∃ N:St->Hp->Prop,(∀ σ' H',N σ' H'->∃ m',m'<m/\W m' σ' H')/\tb { D with nx:=N,ct:=N,bk:=D.nx } σ H1 else D.nx σ H1
theorem xfy {c:Expr}{body:List Stmt}{tc:TT}{tb:TS} (hp:PassesOwn (model X.prog X.w) X.A X.env X.xe) (hc:PT X c tc) (hb:PSs X body tb):PS X (.While c body [] pos) (xqq tc tb):=by
 intro pins s σ H D I h
 obtain⟨W,⟨m0,w0⟩,turn⟩:=h
 refine wpAny_While (codeAny_whileLoop (fun n s'=>∃ σ' H',Inv X pins σ' H' s'/\W n σ' H') ?_ m0 ⟨σ,H,I,w0⟩)
 rintro n s1 ⟨σ1,H1,I1,w1⟩
 refine wpAny_passesOwn hp (thn (hc pins s1 σ1 H1 _ I1 (turn n σ1 H1 w1)) fun b s2 ⟨H2,I2,q2⟩=>?_)
 cases b with
 | true =>
  obtain⟨N,hN,q2⟩:=q2
  rw[if_pos rfl]
  refine wpAny_passesOwn hp (thn (hb pins s2 σ1 H2 _ I2 q2) fun f s3 q3=>?_)
  cases f with
  | next =>
   obtain⟨σ3,H3,I3,n3⟩:=q3
   obtain⟨m',hm,w3⟩:=hN σ3 H3 n3
   exact⟨m',hm,σ3,H3,I3,w3⟩
  | cont =>
   obtain⟨σ3,H3,I3,n3⟩:=q3
   obtain⟨m',hm,w3⟩:=hN σ3 H3 n3
   exact⟨m',hm,σ3,H3,I3,w3⟩
  | brk=>exact q3
  | ret v=>exact q3
 | false =>
  rw[if_neg Bool.false_ne_true]
  exact wpAny_execs_nil ⟨σ1,H2,I2,q2⟩
end
structure It where
 go:Nat->Hp->Prop
 yld:Nat->Hp->V->Hp->Prop
 stop:Nat->Hp->Prop
def FpOk (X:Cx) (pins:List (Addr × Obj)) (H:Hp) (b:Addr):Prop :=
 H b=none/\b≠X.env.locals/\b∉X.fs/\(b∈X.ex\/X.s₀.heap.objs.size<=b)/\(∀ x c,X.env.cells.lookup x=some c->c≠b)/\∀ p∈X.pn++pins,p.1≠b
theorem Inv.fpOk {X:Cx}{pins:List (Addr × Obj)}{σ:St}{H H':Hp}{s:Shared}{b:Addr} (I:Inv X pins σ H s) (hb:s.heap.objs.size<=b) (hn:H' b=none):FpOk X pins H' b:=by
 refine⟨hn,Nat.ne_of_gt (Nat.lt_of_lt_of_le I.lt hb),I.nofs hb,.inr (Nat.le_trans I.sz hb),fun x c e z=>?_,fun p hp z=>?_⟩
 .obtain ⟨v,q⟩:=I.cell x c e
  exact absurd (Nat.lt_of_lt_of_le q.lt (by rw[z]; exact hb)) (Nat.lt_irrefl _)
 .exact absurd (Nat.lt_of_lt_of_le (Heap.lt_size (I.pin p hp).1) (by rw[z]; exact hb)) (Nat.lt_irrefl _)
structure Turn (P:Program) (w:World) (K:PySem.W.Frag) (tg:Expr) (J:It) (fp:List Addr) (it:Addr) (tn:Nat->Heap->Prop):Prop where
 mem:it∈fp
 obj:∀ i h,tn i h->∀ b∈fp,∃ o,h.get? b=some o/\∀ v,o.data≠.cell v
 keep:∀ i h h',tn i h->(∀ b∈fp,∀ o,h.get? b=some o->h'.get? b=some o)->tn i h'
 item:∀(X:Cx),X.prog=P->X.w=w->X.K=K->X.calm=true->∀(i:Nat) (pins:List (Addr × Obj)) (s:Shared) (σ:St) (H:Hp) (E:Value->Shared->Prop),Inv X pins σ H s->(∀ b∈fp,FpOk X pins H b)->tn i s.heap->J.go i H ->
  wpAny (model P w) X.A (pyNext (.ref it)) (fun r s1=>∃ u,r=some u /\
   wpAny (model P w) X.A (letOwnedTupleGo tg (.ref it) u) (fun _ s2=>∃ x H',Inv X pins σ H' s2/\RelV x u/\J.yld i H x H'/\tn (i+1) s2.heap/\∀ b∈fp,H' b=none) E s1) E s
 done:∀(X:Cx),X.prog=P->X.w=w->X.K=K->X.calm=true->∀(i:Nat) (pins:List (Addr × Obj)) (s:Shared) (σ:St) (H:Hp) (E:Value->Shared->Prop),Inv X pins σ H s->(∀ b∈fp,FpOk X pins H b)->tn i s.heap->J.stop i H ->
  wpAny (model P w) X.A (pyNext (.ref it)) (fun r s1=>r=none/\Inv X pins σ H s1) E s
 self:∀(A:Around) (i:Nat) (s:Shared) (Q:Value->Shared->Prop) (E:Value->Shared->Prop),tn i s.heap->Q (.ref it) s->wpAny (model P w) A (pyIter (.ref it)) Q E s
abbrev TI:=St->Hp->(It->Hp->Prop)->Prop
def PIE (X:Cx) (pins:List (Addr × Obj)) (σ:St) (tg:Expr) (R:It->Hp->Prop) (itv:Value) (s2:Shared):Prop :=
 ∃(it:Addr) (fp:List Addr) (tn:Nat->Heap->Prop) (J:It) (H':Hp),itv=.ref it/\Inv X pins σ H' s2/\Turn X.prog X.w X.K tg J fp it tn/\tn 0 s2.heap/\(∀ b∈fp,FpOk X pins H' b)/\R J H'
def PI (X:Cx) (tg iter:Expr) (wi:TI):Prop :=
 ∀(pins:List (Addr × Obj)) (s:Shared) (σ:St) (H:Hp) (R:It->Hp->Prop),Inv X pins σ H s->wi σ H R ->
  wpAny (model X.prog X.w) X.A (eval iter X.env) (fun v s1=>wpAny (model X.prog X.w) X.A (pyIter v) (PIE X pins σ tg R) X.xe s1) X.xe s
theorem xkw {M:Model}{A:Around}{E:Value->Shared->Prop}{s:Shared}{tg:Expr}{it:Addr}{u:Value}{o:Obj}{n:String}{vs:Array Value}{Q:Unit->Shared->Prop} (ho:s.heap.get? it=some o) (hc:o.cls=.type n) (hd:o.data=.fields vs)
    (hn:["enumerate", "zip", "dict_itemiterator", "dict_reverseitemiterator", "odict_iterator", "itertools.zip_longest", "itertools.pairwise"].contains n=false) (hQ:Q () s):wpAny M A (letOwnedTupleGo tg (.ref it) u) Q E s:=by
  unfold letOwnedTupleGo
  cases tg<;>first
    | exact wpAny_pure hQ
    | (cases u<;>first
        | exact wpAny_pure hQ
        | (refine wpAny_bind (wpAny_load ho ?_)
           rw[hc,hd]
           show wpAny M A (if (["enumerate", "zip", "dict_itemiterator", "dict_reverseitemiterator", "odict_iterator", "itertools.zip_longest", "itertools.pairwise"].contains n&&vs[0]? == some (rawInt _))=true then _ else _) Q E s
           rw[if_neg (by intro h; rw[hn,Bool.false_and] at h; cases h)]
           exact wpAny_pure hQ))
def Itl (K:PySem.W.Frag) (a:Addr):It :=
 ⟨fun i H=>∃ xs x,SqL K H a xs/\xs[i]?=some x,fun i H x H'=>H'=H/\∀ xs,SqL K H a xs->xs[i]?=some x,fun i H=>∃ xs,SqL K H a xs/\xs.length<=i⟩
def Itr (lo:Int) (n:Nat):It:=⟨fun i _=>i<n,fun i H x H'=>H'=H/\x=.int (lo+i),fun i _=>n<=i⟩
theorem xld {P:Program}{w:World}{K:PySem.W.Frag}{tg:Expr} (a it:Addr):Turn P w K tg (Itl K a) [it] it (fun i h=>h.IsListIter it a i) where
 mem:=by simp
 obj:=fun i h st b hb=>by
  have e:b=it:=by simpa using hb
  subst e
  obtain⟨o,e,c,d⟩:=st
  exact⟨o,e,fun v z=>by rw[d] at z; cases z⟩
 keep:=fun i h h' st k=>st.at fun o e=>k it (by simp) o e
 item:=by
  intro X hP hw hK hc i pins s σ H E I hf st hg
  subst hP hw hK
  obtain⟨xs,x,hq,hx⟩:=hg
  obtain⟨its,rv,p,hz⟩:=I.list hq
  obtain⟨u,hu,ru⟩:=rv.get hx
  obtain⟨f0,f1,f2,f3,f4,f5⟩:=hf it (by simp)
  refine wpAny_pyNext_list_item st p.isList (x:=u) (by simpa using hu) fun h' st' sb=>?_
  have I1:Inv X pins σ H { s with heap:=h' }:=I.turned (t':=s.toks) (fun b o hb e=>(sb.2 b hb).trans e) f0 f1 f3 f4 f5
  obtain⟨o,e,c,d⟩:=id st'
  exact⟨u,rfl,xkw (s:={ s with heap:=h' }) e c d (by decide) ⟨x,H,I1,ru,⟨rfl,fun ys hy=>by rw[I.list_inj hy hq]; exact hx⟩,st',fun b hb=>(hf b hb).1⟩⟩
 done:=by
  intro X hP hw hK hc i pins s σ H E I hf st hg
  subst hP hw hK
  obtain⟨xs,hq,hx⟩:=hg
  obtain⟨its,rv,p,hz⟩:=I.list hq
  obtain⟨f0,f1,f2,f3,f4,f5⟩:=hf it (by simp)
  have hl:=rv.length
  exact wpAny_pyNext_list_end (I.ok.hd hc) st p.isList (by simp; omega) fun h' eb=>⟨rfl,I.turned (t':=s.toks) (fun b o hb e=>eb b o hb e) f0 f1 f3 f4 f5⟩
 self:=fun _ _ _ _ _ st h=>wpAny_pyIter_listiter st h
theorem xkt {P:Program}{w:World}{K:PySem.W.Frag}{tg:Expr} (it:Addr) (lo:Int) (n:Nat):Turn P w K tg (Itr lo n) [it] it (fun i h=>IsRangeIter h it (lo+(i:Nat)*1) ((n:Int)-(i:Nat)) 1) where
 mem:=by simp
 obj:=fun i h st b hb=>by
  have e:b=it:=by simpa using hb
  subst e
  exact⟨_,st,fun v z=>by
   have z':Data.fields _=Data.cell v:=z
   cases z'⟩
 keep:=fun i h h' st k=>k it (by simp) _ st
 item:=by
  intro X hP hw hK hc i pins s σ H E I hf st hg
  subst hP hw hK
  obtain⟨f0,f1,f2,f3,f4,f5⟩:=hf it (by simp)
  have W:=Walks.range (prog:=X.prog) (w:=X.w) (I.ok.hd hc) it lo 1 n
  refine W.item i s _ _ hg st fun v h' tk hv st' kk=>?_
  obtain⟨t,rfl⟩:=hv
  have I1:Inv X pins σ H { s with heap:=h',toks:=tk }:=I.turned (fun b o hb e=>kk b o (by simpa using hb) e) f0 f1 f3 f4 f5
  refine⟨_,rfl,xkw (s:={ s with heap:=h',toks:=tk }) (n:="range_iterator") st' rfl rfl (by decide) ⟨.int (lo+i),H,I1,⟨t,?_⟩,⟨rfl,rfl⟩,st',fun b hb=>(hf b hb).1⟩⟩
  rw[Int.mul_one]
 done:=by
  intro X hP hw hK hc i pins s σ H E I hf st hg
  subst hP hw hK
  obtain⟨f0,f1,f2,f3,f4,f5⟩:=hf it (by simp)
  exact wpAny_pyNext_range_end (I.ok.hd hc) st (by have:n<=i:=hg; omega) fun h' eb=>⟨rfl,I.turned (t':=s.toks) (fun b o hb e=>eb b o hb e) f0 f1 f3 f4 f5⟩
 self:=fun _ _ _ _ _ st h=>wpAny_pyIter_rangeiter st h
section
variable {X:Cx}{tg:Expr}
def xr2 (K:PySem.W.Frag) (tl:TE):TI:=fun σ H R=>tl σ H fun x H1=>∃ a,x=.ref a/\(∃ xs,SqL K H1 a xs)/\R (Itl K a) H1
theorem xaj {l:Expr}{tl:TE} (hl:PE X l tl):PI X tg l (xr2 X.K tl):=by
 intro pins s σ H R I h
 refine thn (hl pins s σ H _ I h) fun v s1 ⟨x,H1,I1,r1,q1⟩=>?_
 obtain⟨a,e,⟨xs,hq⟩,q⟩:=q1
 subst e
 cases r1
 obtain⟨its,rv,p,hz⟩:=I1.list hq
 refine wpAny_pyIter_list p.isList ?_
 refine⟨s1.heap.objs.size,[s1.heap.objs.size],_,_,H1,rfl,I1.kept (t':=s1.toks) fun b o e=>Heap.get?_push_of_some _ e,xld a _,⟨_,Heap.get?_push_size _ rfl,rfl,rfl⟩,fun b hb=>?_,q⟩
 have e:b=s1.heap.objs.size:=by simpa using hb
 subst e
 exact I1.fpOk (Nat.le_refl _) (I1.hok.fresh (Nat.le_refl _))
theorem xh6 {pins:List (Addr × Obj)}{σ:St}{H:Hp}{s:Shared}{R:It->Hp->Prop}{E:Value->Shared->Prop}{lo hi:Int}{t u v:Tok}{tk:Nat} (I:Inv X pins σ H s) (h1:-(2 ^ 62)<=lo) (h2:lo<2 ^ 62) (h3:-(2 ^ 62)<=hi) (h4:hi<2 ^ 62)
    (q:R (Itr lo (hi-lo).toNat) H):wpAny (model X.prog X.w) X.A (pyIter (.ref s.heap.objs.size)) (PIE X pins σ tg R) E { s with heap:=s.heap.push { cls:=.type "range",data:=.fields #[.int lo t,.int hi u,.int 1 v] },toks:=tk }:=by
  refine wpAny_pyIter_range (IsRange.new ..) (small_one h1 h2 h3 h4) ?_
  have I1:Inv X pins σ H { s with heap:=s.heap.push { cls:=.type "range",data:=.fields #[.int lo t,.int hi u,.int 1 v] },toks:=tk }:=I.kept fun b o e=>Heap.get?_push_of_some _ e
  refine⟨(s.heap.push { cls:=.type "range",data:=.fields #[.int lo t,.int hi u,.int 1 v] }).objs.size,[(s.heap.push { cls:=.type "range",data:=.fields #[.int lo t,.int hi u,.int 1 v] }).objs.size],_,_,H,rfl,
    I1.kept (t':=tk) fun b o e=>Heap.get?_push_of_some _ e,xkt _ lo (hi-lo).toNat,?_,fun b hb=>?_,q⟩
  . have e1:lo+((0:Nat):Int)*1=lo:=by simp
    have e2:(((hi-lo).toNat:Nat):Int)-((0:Nat):Int)=Builtin.Range.rangeSize lo hi 1:=by rw[rangeSize_one]; split<;>omega
    show IsRangeIter _ _ (lo+((0:Nat):Int)*1) ((((hi-lo).toNat:Nat):Int)-((0:Nat):Int)) 1
    rw[e1,e2]
    exact Heap.get?_push_size _ rfl
  . have e:b=(s.heap.push { cls:=.type "range",data:=.fields #[.int lo t,.int hi u,.int 1 v] }).objs.size:=by simpa using hb
    subst e
    exact I1.fpOk (Nat.le_refl _) (I1.hok.fresh (Nat.le_refl _))
def xrr (ta:TA):TI:=fun σ H R=>ta σ H fun vs H1=>∃ j:Int,vs=[.int j]/\-(2 ^ 62)<=j/\j<2 ^ 62/\R (Itr 0 j.toNat) H1
def xr8 (ta:TA):TI:=fun σ H R=>ta σ H fun vs H1=>∃ i j:Int,vs=[.int i,.int j]/\(-(2 ^ 62)<=i/\i<2 ^ 62/\-(2 ^ 62)<=j/\j<2 ^ 62)/\R (Itr i (j-i).toNat) H1
theorem xd0 {a:Expr}{ta:TA}{p pos:Pos} (hg:Gl X "range") (hm:X.mg "range"=none) (ha:PA X [a] ta) (hs:starEach [a] X.env=[(false,eval a X.env)]:=by rfl):PI X tg (.Call (.Name "range" p) [a] [] pos) (xrr ta):=by
 intro pins s σ H R I h
 refine Call_ (xc8 I hg hm boot_range (PyProof.Rows.callWith_type1 (thn (ha pos pins s σ H _ I h) fun us s1 ⟨vs,H1,I1,r1,q1⟩=>?_) hs rfl))
 obtain⟨j,e,q1,q2,q⟩:=q1
 subst e
 cases r1 with
 | cons r rr =>
  cases rr
  obtain⟨t,rfl⟩:=r
  exact call_range_1 (xh6 I1 (by omega) (by omega) q1 q2 (by simpa using q))
theorem xmo {a b:Expr}{ta:TA}{p pos:Pos} (hg:Gl X "range") (hm:X.mg "range"=none) (ha:PA X [a,b] ta) (hs:starEach [a,b] X.env=[(false,eval a X.env),(false,eval b X.env)]:=by rfl) (hs2:starEach [b] X.env=[(false,eval b X.env)]:=by rfl) :
    PI X tg (.Call (.Name "range" p) [a,b] [] pos) (xr8 ta):=by
  intro pins s σ H R I h
  refine Call_ (xc8 I hg hm boot_range (PyProof.Rows.callWith_type1 (thn (ha pos pins s σ H _ I h) fun us s1 ⟨vs,H1,I1,r1,q1⟩=>?_) (by rw[hs,hs2]) (by rw[hs2]; rfl)))
  obtain⟨i,j,e,⟨q1,q2,q3,q4⟩,q⟩:=q1
  subst e
  cases r1 with
  | cons r rr =>
    cases rr with
    | cons r' rr =>
      cases rr
      obtain⟨t,rfl⟩:=r
      obtain⟨t',rfl⟩:=r'
      exact call_range_2 (xh6 I1 q1 q2 q3 q4 q)
def tFor (wi:TI) (g:TG) (tb:TS):TS:=fun D σ H=>wi σ H fun J H1=>∃ W:Nat->Nat->St->Hp->Prop,(∃ m,W 0 m σ H1)/\∀ i m σ H,W i m σ H ->
 (J.stop i H/\D.nx σ H)\/(J.go i H/\∃ N:St->Hp->Prop,(∀ σ' H',N σ' H'->∃ m',m'<m/\W (i+1) m' σ' H')/\∀ x H',J.yld i H x H'->g x σ H' fun σ2 H2=>tb { D with nx:=N,ct:=N,bk:=D.nx } σ2 H2)
def xe5 (fp:List Addr) (h:Heap):List (Addr × Obj):=fp.filterMap fun b=>(h.get? b).map fun o=>(b,o)
theorem xcx {fp:List Addr}{h:Heap}{b:Addr}{o:Obj} (hb:b∈fp) (e:h.get? b=some o):(b,o)∈xe5 fp h:=List.mem_filterMap.mpr ⟨b,hb,by rw[e]; rfl⟩
theorem xlk {fp:List Addr}{h:Heap}{p:Addr × Obj} (hp:p∈xe5 fp h):p.1∈fp/\h.get? p.1=some p.2:=by
 obtain⟨b,hb,e⟩:=List.mem_filterMap.mp hp
 cases q:h.get? b with
 | none=>rw[q] at e; cases e
 | some o =>
  rw[q] at e
  have e':(b,o)=p:=Option.some.inj e
  subst e'
  exact⟨hb,q⟩
theorem Inv.pinned {pins:List (Addr × Obj)}{σ:St}{H:Hp}{s:Shared}{fp:List Addr} (I:Inv X pins σ H s) (hf:∀ b∈fp,FpOk X pins H b) (ho:∀ b∈fp,∃ o,s.heap.get? b=some o/\∀ v,o.data≠.cell v):Inv X (pins++xe5 fp s.heap) σ H s :=
 I.pins_of fun p hp=>(List.mem_append.mp hp).elim (fun z=>I.pin p (List.mem_append_right _ z)) fun z=>by
  obtain⟨hb,e⟩:=xlk z
  obtain⟨f0,f1,f2,_⟩:=hf p.1 hb
  obtain⟨o,e',d⟩:=ho p.1 hb
  rw[e] at e'; cases e'
  exact⟨e,f0,f1,f2,d⟩
theorem Inv.unpinned {pins pl:List (Addr × Obj)}{σ:St}{H:Hp}{s:Shared} (I:Inv X (pins++pl) σ H s):Inv X pins σ H s:=I.pins_of fun p hp=>I.pin p (List.mem_append_right _ (List.mem_append_left _ hp))
theorem xbe {iter:Expr}{body:List Stmt}{wi:TI}{g:TG}{tb:TS}{pos:Pos} (hp:PassesOwn (model X.prog X.w) X.A X.env X.xe) (hc:X.calm=true) (hi:PI X tg iter wi) (hg:PG X tg g) (hb:PSs X body tb)
    (hs:∀ x,foldedSetIterable iter X.env x=pure x:=by intro _; rfl):PS X (.For tg iter body [] pos) (tFor wi g tb):=by
  intro pins s σ H D I h
  refine wpAny_For (thn (hi pins s σ H _ I h) fun v s1 h1=>thn h1 fun itv s2 h2=>?_) hs
  obtain⟨it,fp,tn,J,H2,e,I2,T,st2,f2,W,⟨m0,w0⟩,turn⟩:=h2
  subst e
  -- what stays true of the iterator's objects through the loop
  have stat:∀{H':Hp},(∀ b∈fp,H' b=none)->∀ b∈fp,FpOk X pins H' b:=fun hn b hb=>⟨hn b hb,(f2 b hb).2⟩
  refine codeAny_forLoop_any (fun n s'=>∃ i σ' H',Inv X pins σ' H' s'/\tn i s'.heap/\(∀ b∈fp,H' b=none)/\W i n σ' H') ?_ m0 ⟨0,σ,H2,I2,st2,fun b hb=>(f2 b hb).1,w0⟩
  rintro n s3 ⟨i,σ3,H3,I3,st3,fr3,w3⟩
  rcases turn i n σ3 H3 w3 with⟨stop,qn⟩|⟨go,N,hN,step⟩
  . refine wpAny_passesOwn hp (thn (T.done X rfl rfl rfl hc i pins s3 σ3 H3 X.xe I3 (stat fr3) st3 stop) fun r s4 ⟨hr,I4⟩=>?_)
    subst hr
    exact wpAny_execs_nil ⟨σ3,H3,I4,qn⟩
  . refine wpAny_passesOwn hp (thn (T.item X rfl rfl rfl hc i pins s3 σ3 H3 X.xe I3 (stat fr3) st3 go) fun r s4 ⟨u,hr,h4⟩=>?_)
    subst hr
    refine wpAny_passesOwn hp (thn h4 fun _ s5 ⟨x,H5,I5,r5,y5,st5,fr5⟩=>?_)
    have I5':=I5.pinned (stat fr5) (T.obj _ _ st5)
    refine wpAny_passesOwn hp (thn (hg _ s5 σ3 H5 x u _ I5' r5 (step x H5 y5)) fun _ s6 ⟨σ6,H6,I6,q6⟩=>?_)
    refine wpAny_passesOwn hp (thn (hb _ s6 σ6 H6 _ I6 q6) fun f s7 q7=>?_)
    have again:∀{σ7:St}{H7:Hp},Inv X (pins++xe5 fp s5.heap) σ7 H7 s7->N σ7 H7->∃ m,m<n/\∃ i σ' H',Inv X pins σ' H' s7/\tn i s7.heap/\(∀ b∈fp,H' b=none)/\W i m σ' H':=fun {σ7 H7} I7 n7=>by
      obtain⟨m',hm,w7⟩:=hN σ7 H7 n7
      refine⟨m',hm,i+1,σ7,H7,I7.unpinned,T.keep _ _ _ st5 fun b hb o e=>(I7.pin (b,o) (List.mem_append_right _ (List.mem_append_right _ (xcx hb e)))).1,fun b hb=>?_,w7⟩
      obtain⟨o,e,d⟩:=T.obj _ _ st5 b hb
      exact (I7.pin (b,o) (List.mem_append_right _ (List.mem_append_right _ (xcx hb e)))).2.1
    cases f with
    | next=>obtain⟨σ7,H7,I7,n7⟩:=q7; exact again I7 n7
    | cont=>obtain⟨σ7,H7,I7,n7⟩:=q7; exact again I7 n7
    | brk=>obtain⟨σ7,H7,I7,q7⟩:=q7; exact⟨σ7,H7,I7.unpinned,q7⟩
    | ret v=>obtain⟨x7,σ7,H7,I7,r7,q7⟩:=q7; exact⟨x7,σ7,H7,I7.unpinned,r7,q7⟩
end
theorem xbg {K:PySem.W.Frag}{a:Addr}{xs:List V}{g:TG}{tb:TS}{D:Ends}{σ:St}{H:Hp} (Pv:Nat->St->Hp->Prop) (h0:Pv 0 σ H) (hl:∀ i σ H,i<=xs.length->Pv i σ H->SqL K H a xs)
    (hs:∀ i x σ H,xs[i]?=some x->Pv i σ H->g x σ H fun σ2 H2=>tb { D with nx:=Pv (i+1),ct:=Pv (i+1),bk:=D.nx } σ2 H2) (hd:∀ σ H,Pv xs.length σ H->D.nx σ H) :
    ∃ W:Nat->Nat->St->Hp->Prop,(∃ m,W 0 m σ H)/\∀ i m σ H,W i m σ H ->
      ((Itl K a).stop i H/\D.nx σ H)\/((Itl K a).go i H/\∃ N:St->Hp->Prop,(∀ σ' H',N σ' H'->∃ m',m'<m/\W (i+1) m' σ' H')/\∀ x H',(Itl K a).yld i H x H'->g x σ H' fun σ2 H2=>tb { D with nx:=N,ct:=N,bk:=D.nx } σ2 H2):=by
  refine⟨fun i m σ H=>m=xs.length-i/\i<=xs.length/\Pv i σ H,⟨xs.length,by simp,Nat.zero_le _,h0⟩,?_⟩
  rintro i m σ H ⟨rfl,hi,p⟩
  have q:=hl i σ H hi p
  by_cases hlt:i<xs.length
  . refine .inr ⟨⟨xs,xs[i],q,by simp[hlt]⟩,Pv (i+1),fun σ' H' p'=>⟨xs.length-(i+1),by omega,rfl,hlt,p'⟩,fun x H' y=>?_⟩
    obtain⟨e,y⟩:=y
    subst e
    exact hs i x σ _ (y xs q) p
  . have e:i=xs.length:=by omega
    subst e
    exact .inl ⟨⟨xs,q,Nat.le_refl _⟩,hd σ H p⟩
theorem xe0 {lo:Int}{n:Nat}{g:TG}{tb:TS}{D:Ends}{σ:St}{H:Hp} (Pv:Nat->St->Hp->Prop) (h0:Pv 0 σ H)
    (hs:∀ i σ H,i<n->Pv i σ H->g (.int (lo+i)) σ H fun σ2 H2=>tb { D with nx:=Pv (i+1),ct:=Pv (i+1),bk:=D.nx } σ2 H2) (hd:∀ σ H,Pv n σ H->D.nx σ H) :
    ∃ W:Nat->Nat->St->Hp->Prop,(∃ m,W 0 m σ H)/\∀ i m σ H,W i m σ H ->
      ((Itr lo n).stop i H/\D.nx σ H)\/((Itr lo n).go i H/\∃ N:St->Hp->Prop,(∀ σ' H',N σ' H'->∃ m',m'<m/\W (i+1) m' σ' H')/\∀ x H',(Itr lo n).yld i H x H'->g x σ H' fun σ2 H2=>tb { D with nx:=N,ct:=N,bk:=D.nx } σ2 H2):=by
  refine⟨fun i m σ H=>m=n-i/\i<=n/\Pv i σ H,⟨n,by simp,Nat.zero_le _,h0⟩,?_⟩
  rintro i m σ H ⟨rfl,hi,p⟩
  by_cases hlt:i<n
  . refine .inr ⟨hlt,Pv (i+1),fun σ' H' p'=>⟨n-(i+1),by omega,rfl,hlt,p'⟩,fun x H' y=>?_⟩
    obtain⟨e,y⟩:=y
    subst e y
    exact hs i σ _ hlt p
  . have e:i=n:=by omega
    subst e
    exact .inl ⟨Nat.le_refl _,hd σ H p⟩
abbrev R2:=V->V->Hp->VK->Prop
def OpR (X:Cx) (f:Value->Value->Sem Value) (r:R2):Prop :=
 ∀(pins:List (Addr × Obj)) (s:Shared) (σ:St) (H:Hp) (x y:V) (v u:Value) (Q:VK),Inv X pins σ H s->RelV x v->RelV y u->r x y H Q ->
  wpAny (model X.prog X.w) X.A (f v u) (EP X pins σ Q) X.xe s
def xb4 (X:Cx) (f:Value) (r:List V->Hp->VK->Prop):Prop :=
 ∀(pins:List (Addr × Obj)) (s:Shared) (σ:St) (H:Hp) (xs:List V) (us:List Value) (Q:VK),Inv X pins σ H s->Vals xs us->r xs H Q ->
  wpAny (model X.prog X.w) X.A (call f us) (EP X pins σ Q) X.xe s
def TruR (X:Cx) (r:V->Hp->(Bool->Hp->Prop)->Prop):Prop :=
 ∀(pins:List (Addr × Obj)) (s:Shared) (σ:St) (H:Hp) (x:V) (v:Value) (Q:Bool->Hp->Prop),Inv X pins σ H s->RelV x v->r x H Q ->
  wpAny (model X.prog X.w) X.A (truthy v) (TP X pins σ Q) X.xe s
def tOp (r:R2) (ta tb:TE):TE:=fun σ H Q=>ta σ H fun x H1=>tb σ H1 fun y H2=>r x y H2 Q
def rI (C:Int->Int->Prop) (g:Int->Int->V):R2:=fun x y H Q=>∃ i j,x=.int i/\y=.int j/\C i j/\Q (g i j) H
def rI0 (g:Int->Int->V):R2:=fun x y H Q=>∃ i j,x=.int i/\y=.int j/\Q (g i j) H
section
variable {X:Cx}{a b c:Expr}{ta tb tc:TE}{pos:Pos}
theorem binT (ha:PE X a ta) (hb:PE X b tb) {pins:List (Addr × Obj)}{s:Shared}{σ:St}{H:Hp}{R:V->V->Hp->Prop} (I:Inv X pins σ H s)
    (h:ta σ H fun x H1=>tb σ H1 fun y H2=>R x y H2) {Q:Value->Shared->Prop}{f:Value->Value->Sem Value}
    (hf:∀ v u s2 x y H2,Inv X pins σ H2 s2->RelV x v->RelV y u->R x y H2->wpAny (model X.prog X.w) X.A (f v u) Q X.xe s2) :
    wpAny (model X.prog X.w) X.A (eval a X.env) (fun v s₁=>wpAny (model X.prog X.w) X.A (eval b X.env) (fun u s₂=>wpAny (model X.prog X.w) X.A (f v u) Q X.xe s₂) X.xe s₁) X.xe s:=by
  refine thn (ha pins s σ H _ I h) fun v s1 ⟨x,H1,I1,r1,q1⟩=>?_
  refine thn (hb pins s1 σ H1 _ I1 q1) fun u s2 ⟨y,H2,I2,r2,q2⟩=>?_
  exact hf v u s2 x y H2 I2 r1 r2 q2
theorem xv {op:Operator}{r:R2} (ho:OpR X (binaryOp op) r) (ha:PE X a ta) (hb:PE X b tb):PE X (.BinOp a op b pos) (tOp r ta tb):=by
 intro pins s σ H Q I h
 exact wpAny_BinOp (binT ha hb I h fun v u s2 x y H2 I2 rx ry q=>ho pins s2 σ H2 x y v u Q I2 rx ry q)
theorem opI {f:Value->Value->Sem Value}{C:Int->Int->Prop}{g:Int->Int->Int}
    (rule:∀(i j:Int) (t u:Tok) (s:Shared) (Q:Value->Shared->Prop) (E:Value->Shared->Prop),C i j->Q (.int (g i j) s.toks) { s with toks:=s.toks+1 }->wpAny (model X.prog X.w) X.A (f (.int i t) (.int j u)) Q E s) :
    OpR X f (rI C fun i j=>.int (g i j)):=by
  intro pins s σ H x y v u Q I rx ry h
  obtain⟨i,j,rfl,rfl,hc,q⟩:=h
  obtain⟨t,rfl⟩:=rx
  obtain⟨t',rfl⟩:=ry
  exact rule i j t t' s _ _ hc ⟨.int (g i j),H,I.tok _,⟨_,rfl⟩,q⟩
theorem opI0 {f:Value->Value->Sem Value}{g:Int->Int->Int}
    (rule:∀(i j:Int) (t u:Tok) (s:Shared) (Q:Value->Shared->Prop) (E:Value->Shared->Prop),Q (.int (g i j) s.toks) { s with toks:=s.toks+1 }->wpAny (model X.prog X.w) X.A (f (.int i t) (.int j u)) Q E s) :
    OpR X f (rI0 fun i j=>.int (g i j)):=by
  intro pins s σ H x y v u Q I rx ry h
  obtain⟨i,j,rfl,rfl,q⟩:=h
  obtain⟨t,rfl⟩:=rx
  obtain⟨t',rfl⟩:=ry
  exact rule i j t t' s _ _ ⟨.int (g i j),H,I.tok _,⟨_,rfl⟩,q⟩
theorem opB0 {f:Value->Value->Sem Value}{g:Int->Int->Bool}
    (rule:∀(i j:Int) (t u:Tok) (s:Shared) (Q:Value->Shared->Prop) (E:Value->Shared->Prop),Q (.bool (g i j)) s->wpAny (model X.prog X.w) X.A (f (.int i t) (.int j u)) Q E s) :
    OpR X f (rI0 fun i j=>.bl (g i j)):=by
  intro pins s σ H x y v u Q I rx ry h
  obtain⟨i,j,rfl,rfl,q⟩:=h
  obtain⟨t,rfl⟩:=rx
  obtain⟨t',rfl⟩:=ry
  exact rule i j t t' s _ _ ⟨.bl (g i j),H,I,rfl,q⟩
def CDiv (i j:Int):Prop:=0<j/\j<1073741824
def CMul (i j:Int):Prop:=(-(2 ^ 64)<i/\i<2 ^ 64)\/(-(2 ^ 64)<j/\j<2 ^ 64)
theorem CMul.ok {i j:Int} (h:CMul i j):IntMulOk i j:=by
 rcases h with⟨h1,h2⟩|⟨h1,h2⟩
 .exact .of_left (intBits_le_64 h1 h2)
 .exact .of_right (intBits_le_64 h1 h2)
theorem xku (k:Nat):(0:Int)<=2 ^ k:=by
 rw[two_pow_cast]
 exact Int.natCast_nonneg _
theorem xa1:OpR X (binaryOp .Add) (rI0 fun i j=>.int (i+j)):=opI0 fun _ _ _ _ _ _ _ q=>add_int q
theorem xb6:OpR X (binaryOp .Sub) (rI0 fun i j=>.int (i-j)):=opI0 fun _ _ _ _ _ _ _ q=>sub_int q
theorem xdb:OpR X (binaryOp .Mult) (rI CMul fun i j=>.int (i*j)):=opI fun _ _ _ _ _ _ _ hc q=>mul_int q hc.ok
theorem xb1:OpR X (binaryOp .FloorDiv) (rI CDiv fun i j=>.int (i / j)):=opI fun i j _ _ _ _ _ hc q=>by
 have h1:(0:Int)<j:=hc.1
 have h2:j<1073741824:=hc.2
 exact floordiv_int (by omega) (by rw[Int.fdiv_eq_ediv_of_nonneg i (by omega)]; exact q) (.inl (PyProof.noPylong_small (by omega)))
theorem xa0:OpR X (binaryOp .Mod) (rI (fun _ j=>0<j) fun i j=>.int (i % j)):=opI fun i j _ _ _ _ _ hc q=>by
 have h1:(0:Int)<j:=hc
 exact mod_int' (by omega) (by rw[Int.fmod_eq_emod_of_nonneg i (by omega)]; exact q)
theorem xp2:OpR X (binaryOp .RShift) (rI (fun _ j=>0<=j) fun i j=>.int (i / 2 ^ j.toNat)):=opI fun i j _ _ _ _ _ hc q =>
 rshift_int hc (by rw[Int.fdiv_eq_ediv_of_nonneg i (xku _)]; exact q)
theorem xqw:OpR X (binaryOp .BitAnd) (rI0 fun i j=>.int (Builtin.bitAnd i j)):=opI0 fun _ _ _ _ _ _ _ q=>and_int q
theorem xpb:OpR X (inplaceOp .Add) (rI0 fun i j=>.int (i+j)):=opI0 fun _ _ _ _ _ _ _ q=>iadd_int q
end
def scal:V->V->Bool
 | .non,.non=>true|.non,.int _=>true|.int _,.non=>true|.non,.bl _=>true|.bl _,.non=>true|.non,.str _=>true|.str _,.non=>true
 | .int _,.int _=>true|.bl _,.bl _=>true|.str _,.str _=>true|.byt _,.byt _=>true
 | .int _,.str _=>true|.str _,.int _=>true|.bl _,.str _=>true|.str _,.bl _=>true
 | _,_=>false
def rEq:R2:=fun x y H Q=>scal x y=true/\Q (.bl (decide (x=y))) H
def rNe:R2:=fun x y H Q=>scal x y=true/\Q (.bl (!decide (x=y))) H
theorem xkb {i j:Int}:decide (V.int i=V.int j)=(i == j):=by
 rw[Bool.eq_iff_iff]
 simp
theorem xk9 {i j:Bool}:decide (V.bl i=V.bl j)=(i == j):=by
 rw[Bool.eq_iff_iff]
 simp
theorem xjy {i j:Str}:decide (V.str i=V.str j)=(i == j):=by
 rw[Bool.eq_iff_iff]
 simp
theorem xjr {i j:Array UInt8}:decide (V.byt i=V.byt j)=(i.toList == j.toList):=by
 rw[Bool.eq_iff_iff]
 cases i
 cases j
 simp
section
variable {X:Cx}{a b c:Expr}{ta tb tc:TE}{pos:Pos}
theorem xap {pins:List (Addr × Obj)}{σ:St}{H:Hp}{s:Shared}{Q:VK}{k k':Bool} (I:Inv X pins σ H s) (q:Q (.bl k) H) (e:k=k'):EP X pins σ Q (.bool k') s:=by
 subst e
 exact⟨.bl k,H,I,rfl,q⟩
theorem xcl:OpR X (compareOp .Eq) rEq:=by
 intro pins s σ H x y v u Q I rx ry h
 obtain⟨hs,q⟩:=h
 cases x with
 | non =>
  cases rx
  cases y with
  | non=>cases ry; exact PySem.EqNone.eq_none_none (xap I q (by simp))
  | bl j=>cases ry; exact PySem.EqNone.eq_none_bool (xap I q (by simp))
  | int j=>obtain⟨t',rfl⟩:=ry; exact PySem.EqNone.eq_none_int (xap I q (by simp))
  | str j=>obtain⟨t',rfl⟩:=ry; exact PySem.EqNone.eq_none_str (xap I q (by simp))
  | _=>exact absurd (show false=true from hs) Bool.false_ne_true
 | bl i =>
  cases rx
  cases y with
  | non=>cases ry; exact PySem.EqNone.eq_bool_none (xap I q (by simp))
  | bl j=>cases ry; exact eq_bool (xap I q xk9)
  | str j=>obtain⟨t',rfl⟩:=ry; exact PySem.EqMixed.eq_bool_str (xap I q (by simp))
  | _=>exact absurd (show false=true from hs) Bool.false_ne_true
 | int i =>
  obtain⟨t,rfl⟩:=rx
  cases y with
  | non=>cases ry; exact PySem.EqNone.eq_int_none (xap I q (by simp))
  | int j=>obtain⟨t',rfl⟩:=ry; exact eq_int (xap I q xkb)
  | str j=>obtain⟨t',rfl⟩:=ry; exact PySem.EqMixed.eq_int_str (xap I q (by simp))
  | _=>exact absurd (show false=true from hs) Bool.false_ne_true
 | str i =>
  obtain⟨t,rfl⟩:=rx
  cases y with
  | non=>cases ry; exact PySem.EqNone.eq_str_none (xap I q (by simp))
  | bl j=>cases ry; exact PySem.EqMixed.eq_str_bool (xap I q (by simp))
  | int j=>obtain⟨t',rfl⟩:=ry; exact PySem.EqMixed.eq_str_int (xap I q (by simp))
  | str j=>obtain⟨t',rfl⟩:=ry; exact eq_str (xap I q xjy)
  | _=>exact absurd (show false=true from hs) Bool.false_ne_true
 | byt i =>
  obtain⟨t,rfl⟩:=rx
  cases y with
  | byt j=>obtain⟨t',rfl⟩:=ry; exact PySem.W.eq_bytes (xap I q xjr)
  | _=>exact absurd (show false=true from hs) Bool.false_ne_true
 | _=>cases y<;>exact absurd (show false=true from hs) Bool.false_ne_true
theorem xf2:OpR X (compareOp .NotEq) rNe:=by
 intro pins s σ H x y v u Q I rx ry h
 obtain⟨hs,q⟩:=h
 cases x with
 | non =>
  cases rx
  cases y with
  | non=>cases ry; exact PySem.EqNone.ne_none_none (xap I q (by simp))
  | bl j=>cases ry; exact PySem.EqNone.ne_none_bool (xap I q (by simp))
  | int j=>obtain⟨t',rfl⟩:=ry; exact PySem.EqNone.ne_none_int (xap I q (by simp))
  | str j=>obtain⟨t',rfl⟩:=ry; exact PySem.EqNone.ne_none_str (xap I q (by simp))
  | _=>exact absurd (show false=true from hs) Bool.false_ne_true
 | bl i =>
  cases rx
  cases y with
  | non=>cases ry; exact PySem.EqNone.ne_bool_none (xap I q (by simp))
  | bl j=>cases ry; exact ne_bool (xap I q (congrArg not xk9))
  | str j=>obtain⟨t',rfl⟩:=ry; exact PySem.EqMixed.ne_bool_str (xap I q (by simp))
  | _=>exact absurd (show false=true from hs) Bool.false_ne_true
 | int i =>
  obtain⟨t,rfl⟩:=rx
  cases y with
  | non=>cases ry; exact PySem.EqNone.ne_int_none (xap I q (by simp))
  | int j=>obtain⟨t',rfl⟩:=ry; exact ne_int (xap I q (congrArg not xkb))
  | str j=>obtain⟨t',rfl⟩:=ry; exact PySem.EqMixed.ne_int_str (xap I q (by simp))
  | _=>exact absurd (show false=true from hs) Bool.false_ne_true
 | str i =>
  obtain⟨t,rfl⟩:=rx
  cases y with
  | non=>cases ry; exact PySem.EqNone.ne_str_none (xap I q (by simp))
  | bl j=>cases ry; exact PySem.EqMixed.ne_str_bool (xap I q (by simp))
  | int j=>obtain⟨t',rfl⟩:=ry; exact PySem.EqMixed.ne_str_int (xap I q (by simp))
  | str j=>obtain⟨t',rfl⟩:=ry; exact ne_str (xap I q (congrArg not xjy))
  | _=>exact absurd (show false=true from hs) Bool.false_ne_true
 | byt i =>
  obtain⟨t,rfl⟩:=rx
  cases y with
  | byt j=>obtain⟨t',rfl⟩:=ry; exact PySem.W.ne_bytes (xap I q (congrArg not xjr))
  | _=>exact absurd (show false=true from hs) Bool.false_ne_true
 | _=>cases y<;>exact absurd (show false=true from hs) Bool.false_ne_true
theorem xhs:OpR X (compareOp .Lt) (rI0 fun i j=>.bl (decide (i<j))):=opB0 fun _ _ _ _ _ _ _ q=>lt_int q
theorem xfe:OpR X (compareOp .LtE) (rI0 fun i j=>.bl (decide (i<=j))):=opB0 fun _ _ _ _ _ _ _ q=>le_int q
theorem xn4:OpR X (compareOp .Gt) (rI0 fun i j=>.bl (decide (j<i))):=opB0 fun _ _ _ _ _ _ _ q=>gt_int q
theorem xn9:OpR X (compareOp .GtE) (rI0 fun i j=>.bl (decide (j<=i))):=opB0 fun _ _ _ _ _ _ _ q=>ge_int q
theorem xev:OpR X (compareOp .Is) (fun x y H Q=>y=.non/\Q (.bl (decide (x=.non))) H):=by
 intro pins s σ H x y v u Q I rx ry h
 obtain⟨rfl,q⟩:=h
 cases ry
 refine is_none_gen (xap I q ?_)
 cases x<;>first
  | (cases rx; rfl)
  | (obtain⟨t,rfl⟩:=rx; rfl)
theorem xjj:OpR X (compareOp .IsNot) (fun x y H Q=>y=.non/\Q (.bl (!decide (x=.non))) H):=by
 intro pins s σ H x y v u Q I rx ry h
 obtain⟨rfl,q⟩:=h
 cases ry
 refine isnot_none_gen (xap I q ?_)
 cases x<;>first
  | (cases rx; rfl)
  | (obtain⟨t,rfl⟩:=rx; rfl)
def isObj:HO->Bool
 | .lst _=>true
 | .ins _ _ _=>true
 | _=>false
theorem xam (b:Expr) {op:CmpOp} (h:op≠.In:=by decide) (h2:op≠.NotIn:=by decide):behindInMarks op b=false:=by
 have e1:(op == CmpOp.In)=false:=by cases op<;>first|rfl|exact absurd rfl h
 have e2:(op == CmpOp.NotIn)=false:=by cases op<;>first|rfl|exact absurd rfl h2
 cases b<;>simp[behindInMarks,e1,e2]
theorem xdq {op:CmpOp}{r:R2} (ho:OpR X (compareOp op) r) (ha:PE X a ta) (hb:PE X b tb) (hm:behindInMarks op b=false):PE X (.Compare a [op] [b] pos) (tOp r ta tb):=by
 intro pins s σ H Q I h
 exact wpAny_Compare1 (binT ha hb I h fun v u s2 x y H2 I2 rx ry q=>ho pins s2 σ H2 x y v u Q I2 rx ry q) hm
def xn5 (t:TE):TT:=fun σ H Q=>t σ H fun x H'=>∃ k,x=.bl k/\Q k H'
theorem xag {op:CmpOp}{r:R2} (ho:OpR X (compareOp op) r) (ha:PE X a ta) (hb:PE X b tb) (hm:behindInMarks op b=false):PT X (.Compare a [op] [b] pos) (xn5 (tOp r ta tb)):=by
 intro pins s σ H Q I h
 refine wpAny_isTrue_Compare1 (thn (ha pins s σ H _ I h) fun v s1 ⟨x,H1,I1,r1,q1⟩=>thn (hb pins s1 σ H1 _ I1 q1) fun u s2 ⟨y,H2,I2,r2,q2⟩ =>
  thn (ho pins s2 σ H2 x y v u _ I2 r1 r2 q2) fun c s3 ⟨z,H3,I3,r3,k,e,q3⟩=>?_) hm
 subst e
 cases r3
 exact wpAny_truthy_bool ⟨H3,I3,q3⟩
def xmk (r r':R2) (ta tb tc:TE):TE:=fun σ H Q=>ta σ H fun x H1=>tb σ H1 fun y H2=>r x y H2 fun z H3=>∃ k,z=.bl k /\
 (if k=true then tc σ H3 fun w' H4=>r' y w' H4 Q else Q (.bl false) H3)
theorem xf0 {op op':CmpOp}{r r':R2} (ho:OpR X (compareOp op) r) (ho':OpR X (compareOp op') r') (ha:PE X a ta) (hb:PE X b tb) (hc:PE X c tc)
    (hm:lastMarks [op,op'] [b,c]=false:=by with_unfolding_all rfl):PE X (.Compare a [op,op'] [b,c] pos) (xmk r r' ta tb tc):=by
  intro pins s σ H Q I h
  refine Compare_chain (thn (ha pins s σ H _ I h) fun v s1 ⟨x,H1,I1,r1,q1⟩=>chain_link (thn (hb pins s1 σ H1 _ I1 q1) fun u s2 ⟨y,H2,I2,r2,q2⟩ =>
    thn (ho pins s2 σ H2 x y v u _ I2 r1 r2 q2) fun d s3 ⟨z,H3,I3,r3,k,e,q3⟩=>?_)) hm
  subst e
  cases r3
  refine wpAny_truthy_bool ?_
  cases k with
  | false=>exact ite_ff ⟨.bl false,H3,I3,rfl,q3⟩
  | true=>exact ite_tt (chain_last (thn (hc pins s3 σ H3 _ I3 q3) fun w' s4 ⟨z',H4,I4,r4,q4⟩=>ho' pins s4 σ H4 y z' u w' Q I4 r2 r4 q4))
theorem xnr {op op':CmpOp}{r r':R2} (ho:OpR X (compareOp op) r) (ho':OpR X (compareOp op') r') (ha:PE X a ta) (hb:PE X b tb) (hc:PE X c tc)
    (hm:lastMarks [op,op'] [b,c]=false:=by with_unfolding_all rfl):PT X (.Compare a [op,op'] [b,c] pos) (xn5 (xmk r r' ta tb tc)):=by
  intro pins s σ H Q I h
  refine isTrue_chain (thn (ha pins s σ H _ I h) fun v s1 ⟨x,H1,I1,r1,q1⟩=>test_link (thn (hb pins s1 σ H1 _ I1 q1) fun u s2 ⟨y,H2,I2,r2,q2⟩ =>
    thn (ho pins s2 σ H2 x y v u _ I2 r1 r2 q2) fun d s3 ⟨z,H3,I3,r3,k,e,q3⟩=>?_)) hm
  subst e
  cases r3
  refine wpAny_truthy_bool ?_
  cases k with
  | false =>
    obtain⟨k',e',q'⟩:=q3
    cases e'
    exact ite_ff ⟨H3,I3,q'⟩
  | true =>
    refine ite_tt (test_last (thn (hc pins s3 σ H3 _ I3 q3) fun w' s4 ⟨z',H4,I4,r4,q4⟩=>thn (ho' pins s4 σ H4 y z' u w' _ I4 r2 r4 q4) fun d' s5 ⟨z2,H5,I5,r5,k2,e2,q5⟩=>?_))
    subst e2
    cases r5
    exact wpAny_truthy_bool ⟨H5,I5,q5⟩
def TruV (K:PySem.W.Frag) (x:V) (H:Hp) (k:Bool):Prop :=
 match x with
 | .non=>k=false
 | .bl b=>k=b
 | .int i=>k=(i != 0)
 | .str y=>y.length<=sizeLine/\k=((y.length:Int) != 0)
 | .byt y=>y.size<=sizeLine/\k=((y.size:Int) != 0)
 | .ref p=>(∃ xs,SqL K H p xs/\k=!xs.isEmpty)\/(∃ xs,SqT K H p xs/\k=!xs.isEmpty)\/∃ kvs,H p=some (.dK kvs)/\k=!kvs.isEmpty
 | _=>False
theorem xk2 {κ:Type}{kvs:List (κ × V)}{vs:List (κ × Value)} (r:KV kvs vs):(!vs.isEmpty)=!kvs.isEmpty:=by
 cases r<;>rfl
theorem xga {xs:List V}{its:List Value} (r:Vals xs its):(!its.toArray.isEmpty)=!xs.isEmpty:=by
 cases r<;>simp
theorem xee:(sizeLine:Nat)<2 ^ 63:=by rw[sizeLine_eq]; decide
theorem xq2:TruR X (fun x H Q=>∃ k,TruV X.K x H k/\Q k H):=by
 intro pins s σ H x v Q I rx h
 obtain⟨k,e,q⟩:=h
 have hl:=xee
 have hs:sizeLine=16777216:=sizeLine_eq
 cases x with
 | non =>
  cases rx
  have e':k=false:=e
  subst e'
  exact truthy_none ⟨H,I,q⟩
 | bl b =>
  cases rx
  have e':k=b:=e
  subst e'
  exact wpAny_truthy_bool ⟨H,I,q⟩
 | int i =>
  obtain⟨t,rfl⟩:=rx
  have e':k=(i != 0):=e
  subst e'
  exact PySem.P.truthy_int ⟨H,I,q⟩
 | str y =>
  obtain⟨t,rfl⟩:=rx
  obtain⟨hy,e'⟩:y.length<=sizeLine/\k=((y.length:Int) != 0):=e
  subst e'
  exact PySem.P.truthy_str (by omega) ⟨H,I.tok _,q⟩
 | byt y =>
  obtain⟨t,rfl⟩:=rx
  obtain⟨hy,e'⟩:y.size<=sizeLine/\k=((y.size:Int) != 0):=e
  subst e'
  exact PySem.W.truthy_bytes (by omega) ⟨H,I.tok _,q⟩
 | ref p =>
  cases rx
  have e':(∃ xs,SqL X.K H p xs/\k=!xs.isEmpty)\/(∃ xs,SqT X.K H p xs/\k=!xs.isEmpty)\/∃ kvs,H p=some (.dK kvs)/\k=!kvs.isEmpty:=e
  rcases e' with⟨xs,hx,e'⟩|⟨xs,hx,e'⟩|⟨kvs,hx,e'⟩
  .subst e'
   obtain⟨its,r,pl,hz⟩:=I.list hx
   have hlen:=r.length
   exact wpAny_truthy_list pl.isList (by simp only[List.size_toArray]; omega) ⟨H,I.tok _,by rw[xga r]; exact q⟩
  .subst e'
   obtain⟨its,r,pl,hz⟩:=I.tuple hx
   have hlen:=r.length
   exact truthy_tuple pl (by simp only[List.size_toArray]; omega) ⟨H,I.tok _,by rw[xga r]; exact q⟩
  .subst e'
   obtain⟨hz,hS,vs,r,m⟩:kvs.length<=sizeLine/\(p == sysModules)=false/\∃ vs,KV kvs vs/\s.heap.DictOf (xan X.prog X.w) p vs:=I.hok p _ hx
   have hlen:kvs.length=vs.length:=Paired.length r
   exact wpAny_truthy_dict hS m (by omega) ⟨H,I.tok _,by rw[xk2 r]; exact q⟩
 | _=>exact (show False from e).elim
theorem xi6 (ha:PE X a ta) (he:∀ whole,isTrue a X.env whole=(do let v <- whole; standAt a.pos; holding [v] (truthy v))) :
    PT X a (fun σ H Q=>ta σ H fun x H'=>∃ k,TruV X.K x H' k/\Q k H'):=by
  intro pins s σ H Q I h
  exact isTrue_plain (thn (ha pins s σ H _ I h) fun v s1 ⟨x,H1,I1,r1,q1⟩=>xq2 pins s1 σ H1 x v Q I1 r1 q1) (he _)
theorem xcm {x:V}{us:List Value} (r:Vals [x] us):∃ u,us=[u]/\RelV x u:=by
 cases r with
 | cons r1 r2=>cases r2; exact⟨_,rfl,r1⟩
theorem xkk {x y:V}{us:List Value} (r:Vals [x,y] us):∃ u w',us=[u,w']/\RelV x u/\RelV y w':=by
 cases r with
 | cons r1 r2 =>
  cases r2 with
  | cons r3 r4=>cases r4; exact⟨_,_,rfl,r1,r3⟩
theorem xhz:xb4 X (.builtin "abs") (fun xs H Q=>∃ i,xs=[.int i]/\Q (.int (if i<0 then -i else i)) H):=by
 intro pins s σ H xs us Q I r h
 obtain⟨i,rfl,q⟩:=h
 obtain⟨u,rfl,t,rfl⟩:=xcm r
 exact call_abs_int fun u tk=>⟨.int (if i<0 then -i else i),H,I.tok _,⟨_,rfl⟩,q⟩
theorem xg9:xb4 X (.type "int") (fun xs H Q=>(∃ i,xs=[.int i]/\Q (.int i) H)\/∃ k,xs=[.bl k]/\Q (.int (if k then 1 else 0)) H):=by
 intro pins s σ H xs us Q I r h
 rcases h with⟨i,rfl,q⟩|⟨k,rfl,q⟩
 .obtain ⟨u,rfl,t,rfl⟩:=xcm r
  exact call_int_int ⟨.int i,H,I,⟨_,rfl⟩,q⟩
 .obtain ⟨u,rfl,r1⟩:=xcm r
  cases r1
  exact call_int_bool ⟨.int (if k then 1 else 0),H,I.tok _,⟨_,rfl⟩,q⟩
end
structure ObjM (h:Heap) (x dx C:Addr) (mA:Str->Option Value):Prop where
 obj:h.get? x=some (PySem.W.instObj C dx)
 ns:h.Ns1 dx mA
 ne:dx≠x
theorem xmr {h:Heap}{dx:Addr}{mA:Str->Option Value} (n:h.Ns1 dx mA):∃ od,h.get? dx=some od/\∀ name,PySem.W.lookIn name od=some (mA name):=by
 obtain⟨o,es,ep,ho,hd,hk,_,hm⟩:=n
 refine⟨o,ho,fun name=>?_⟩
 have e:=hm name
 unfold nsFind findBy at e
 rw[<- Array.find?_toList] at e
 unfold PySem.W.lookIn
 rw[hd]
 dsimp only
 split
 .rename_i y q
  rw[q] at e
  exact congrArg some e
 .rename_i q
  rw[q] at e
  have a:es.toList.any (·.refKey)=false:=by
   rw[List.any_eq_false]
   intro y hy
   obtain⟨z,t,hkey⟩:=hk y (Array.mem_toList_iff.mp hy)
   simp[DictEntry.refKey,hkey]
  have a':¬ es.toList.any (·.refKey)=true:=by rw[a]; exact Bool.false_ne_true
  rw[if_neg a']
  exact congrArg some e
theorem ObjM.look {h:Heap}{x dx C:Addr}{mA:Str->Option Value} (I:ObjM h x dx C mA):∃ od,PySem.W.InstAt h x (PySem.W.instObj C dx) C (some od)/\∀ name,PySem.W.lookIn name od=some (mA name) :=
 let ⟨od,ho,hl⟩:=xmr I.ns
 ⟨od,⟨I.obj,rfl,rfl,ho⟩,hl⟩
section
variable {prog:Program}{w:World}{A:Around}{E:Value->Shared->Prop}{s:Shared}{K:PySem.W.Frag}{x dx C f:Addr}{mA:Str->Option Value}{name:Str}{v:Value}
theorem xob {expr:Bool}{Q:Value->Shared->Prop} (X:K.In s.heap) (I:ObjM s.heap x dx C mA) (hg:PySem.W.plainGet K C name=true) (hh:PySem.W.hasDictIn K C=true)
    (ha:PySem.W.findIn K (.ref C) name=some none) (hv:mA name=some v) (hv':PySem.W.handedIn v=true) (h:Q v { s with toks:=s.toks+1 }) :
    wpAny (model prog w) A (getAttr (.ref x) name expr) Q E s:=by
  obtain⟨od,J,hl⟩:=I.look
  exact PySem.W.get_value X J (PySem.W.plainGet_of hg).1 (PySem.W.findObj_own hh ha rfl (by rw[hl,hv])) hv' h
theorem xmw {pl:Sem Bool}{Q:Value × List Value->Shared->Prop} (X:K.In s.heap) (I:ObjM s.heap x dx C mA) (hg:PySem.W.plainGet K C name=true)
    (hf:PySem.W.findIn K (.ref C) name=some (some (.ref f))) (ht:PySem.W.isFn K (.ref f)=true) (hv:mA name=none) (h:Q (.ref f,[.ref x]) s) :
    wpAny (model prog w) A (getMethod (.ref x) name pl) Q E s:=by
  obtain⟨od,J,hl⟩:=I.look
  exact PySem.W.method_fn X J (PySem.W.plainGet_of hg).1 (PySem.W.plainGet_of hg).2 hf (beq_iff_eq.mp ht) (by show (PySem.W.lookIn name od).map (·.isSome)=some false; rw[hl,hv]; rfl) h
theorem xo1 {ns:List Str}{Q:Unit->Shared->Prop} (X:K.In s.heap) (I:ObjM s.heap x dx C mA)
    (hs:PySem.W.findIn K (.ref C) "__setattr__"=some (some (.builtin "object.__setattr__"))) (hp:PySem.W.plainOver K C=true) (ht:PySem.W.takerIn K C name=some none) (hh:PySem.W.hasDictIn K C=true)
    (hw:PySem.Within mA ns) (hsz:ns.length<=sizeLine)
    (h:∀ h',ObjM h' x dx C (fun y=>if y=name then some v else mA y)->Heap.SameBut dx s.heap h'->Q () { s with heap:=h',toks:=s.toks+2 }) :
    wpAny (model prog w) A (setAttr (.ref x) name v) Q E s:=by
  obtain⟨od,J,hl⟩:=I.look
  refine PySem.W.set_plain X J hs (PySem.W.osa_open (s:={ s with toks:=s.toks+1 }) (r:=none) X J hp ht fun b=>?_)
  obtain⟨cd,hc,hd'⟩:=PySem.W.any_some hh
  have hx:s.heap.get? x=some ⟨.ref C,some dx,.plain,#[]⟩:=I.obj
  refine wpAny_bind (wpAny_pure (wpAny_bind (wpAny_bind (wpAny_loadPart hx (wpAny_bind (PySem.W.Looks.here (s:={ s with toks:=s.toks+1 }) (PySem.W.looks_clsIn X hc) ?_))))))
  rw[hd']
  refine wpAny_pure (a:=some dx) (wpAny_bind (wpAny_pure (wpAny_bind ?_)))
  refine wpAny_nsSet1 (s:={ s with toks:=s.toks+1 }) I.ns fun h' hn2 hs2=>?_
  obtain⟨oD,esD,epD,hoD,hdD,hcD⟩:=hn2.count (PySem.Within.cons name v hw)
  refine wpAny_bind (wpAny_lookBehind hoD (by rw[hdD]; exact pastItsLine_dict (Nat.le_trans hcD (by rw[List.length_cons]; omega))) ?_)
  exact wpAny_pure (h _ ⟨(hs2.2 _ (Ne.symm I.ne)).trans I.obj,hn2,I.ne⟩ hs2)
theorem xmx {R:Result->Shared->Prop}{vs:List Value}{kw:List (Str × Value)} (X:K.In s.heap) (hm:PySem.W.makesIn K C=true)
    (hi:PySem.W.findIn K (.ref C) "__init__"=some (some (.ref f))) (hf:PySem.W.typeIn K (.ref f)=some (.type "function"))
    (h:codeAny (model prog w) (A.under (.builtin "type.__call__" ⟨.ref C::vs,kw⟩)) (.call (.ref f) ⟨.ref (s.heap.objs.size+1)::vs,kw⟩) (PySem.W.InitBack (s.heap.objs.size+1) R)
      { s with heap:=(s.heap.push PySem.W.emptyDict).push (PySem.W.instObj C s.heap.objs.size) }) :
    codeAny (model prog w) A (.call (.ref C) ⟨vs,kw⟩) R s:=by
  obtain⟨hh,g,d,t,os⟩:=s
  exact PySem.W.make_core (PySem.W.makes_of X hm) (PySem.W.looks_findIn X hi) (fun self=>PySem.W.bind_fn X self hf) (.inl rfl) h
end
def putF (f:Str) (v:V):List (Str × V)->List (Str × V)
 | []=>[(f,v)]
 | (g,x)::r=>if g=f then (g,v)::r else (g,x)::putF f v r
theorem xfo (f g:Str) (v:V):∀ fs:List (Str × V),(putF f v fs).lookup g=if g=f then some v else fs.lookup g
 | []=>by
  show List.lookup g [(f,v)]=_
  by_cases h:g=f
  .have hb:(g == f)=true:=beq_iff_eq.mpr h
   simp only[List.lookup,hb,if_pos h]
  .have hb:(g == f)=false:=beq_eq_false_iff_ne.mpr h
   simp only[List.lookup,hb,if_neg h]
 | (k,x)::r=>by
  have ih:=xfo f g v r
  rw[show putF f v ((k,x)::r)=(if k=f then (k,v)::r else (k,x)::putF f v r) from rfl]
  by_cases hk:k=f
  .rw [if_pos hk]
   by_cases h:g=k
   .have hb:(g == k)=true:=beq_iff_eq.mpr h
    simp only[List.lookup,hb,if_pos (h.trans hk)]
   .have hb:(g == k)=false:=beq_eq_false_iff_ne.mpr h
    simp only[List.lookup,hb,if_neg (fun e:g=f=>h (e.trans hk.symm))]
  .rw [if_neg hk]
   by_cases h:g=k
   .have hb:(g == k)=true:=beq_iff_eq.mpr h
    simp only[List.lookup,hb,if_neg (fun e:g=f=>hk (h.symm.trans e))]
   .have hb:(g == k)=false:=beq_eq_false_iff_ne.mpr h
    simp only[List.lookup,hb]
    exact ih
theorem xet (f:Str) (v:V):∀ fs:List (Str × V),f∈(putF f v fs).map (·.1)/\∀ g,g∈fs.map (·.1)->g∈(putF f v fs).map (·.1)
 | []=>⟨by simp[putF],fun g h=>by simp at h⟩
 | (k,x)::r=>by
  obtain⟨i1,i2⟩:=xet f v r
  rw[show putF f v ((k,x)::r)=(if k=f then (k,v)::r else (k,x)::putF f v r) from rfl]
  by_cases hk:k=f
  .rw [if_pos hk]
   subst hk
   exact⟨by simp,fun g h=>by simpa using h⟩
  .rw [if_neg hk]
   refine⟨?_,fun g h=>?_⟩
   .rw [List.map_cons]
    exact List.mem_cons_of_mem _ i1
   .rw [List.map_cons] at h ⊢
    rcases List.mem_cons.mp h with e|e
    .exact List.mem_cons.mpr (.inl e)
    .exact List.mem_cons_of_mem _ (i2 g e)
theorem xfk (f:Str) (v:V):∀ fs:List (Str × V),(putF f v fs).length<=fs.length+1
 | []=>by simp[putF]
 | (k,x)::r=>by
  have ih:=xfk f v r
  rw[show putF f v ((k,x)::r)=(if k=f then (k,v)::r else (k,x)::putF f v r) from rfl]
  by_cases hk:k=f
  .rw [if_pos hk,List.length_cons,List.length_cons]; omega
  .rw [if_neg hk,List.length_cons,List.length_cons]; omega
theorem RelO.some_of {v:V}{o:Option Value} (r:RelO (some v) o):∃ u,o=some u/\RelV v u:=by
 cases o with
 | none=>exact (show False from r).elim
 | some u=>exact⟨u,rfl,r⟩
theorem RelO.none_of {o:Option Value} (r:RelO none o):o=none:=by
 cases o with
 | none=>rfl
 | some u=>exact (show False from r).elim
theorem xlr {v:V}{u:Value} (r:RelV v u):PySem.W.handedIn u=true:=by
 cases v with
 | non=>cases (show u=Value.none from r); rfl
 | bl b=>cases (show u=Value.bool b from r); rfl
 | int i=>obtain⟨t,e⟩:=(show ∃ t,u=Value.int i t from r); cases e; rfl
 | str x=>obtain⟨t,e⟩:=(show ∃ t,u=Value.str x t from r); cases e; rfl
 | byt b=>obtain⟨t,e⟩:=(show ∃ t,u=Value.bytes b t from r); cases e; rfl
 | flt b=>obtain⟨t,e⟩:=(show ∃ t,u=Value.float b t from r); cases e; rfl
 | ref a=>cases (show u=Value.ref a from r); rfl
 | ty n=>cases (show u=Value.type n from r); rfl
section
variable {P:Program}{w:World}{H H':Hp}{h h':Heap}{a C dx:Addr}{fs fs':List (Str × V)}
theorem xfc (hok:HOk P w H h) (e:H a=some (.ins C dx fs)):∃ mA,ObjM h a dx C mA/\(∀ f,RelO (fs.lookup f) (mA f))/\PySem.Within mA (fs.map (·.1))/\fs.length<=1000/\H dx=some (.own a):=by
 obtain⟨d,z,ne,ob,mA,n,r,q⟩:=(show xaw P w H h a (.ins C dx fs) from hok a _ e)
 exact⟨mA,⟨ob,n,ne⟩,r,q,z,d⟩
end
structure Cls (K:PySem.W.Frag) (C:Addr):Prop where
 pg:PySem.W.plainGet K C Str.empty=true
 hd:PySem.W.hasDictIn K C=true
 po:PySem.W.plainOver K C=true
 sa:PySem.W.findIn K (.ref C) "__setattr__"=some (some (.builtin "object.__setattr__"))
theorem Cls.get {K:PySem.W.Frag}{C:Addr} (c:Cls K C) (f:Str):PySem.W.plainGet K C f=true:=c.pg
def xdx (K:PySem.W.Frag) (C:Addr) (f:Str):Prop:=PySem.W.findIn K (.ref C) f=some none
theorem xdx.taker {K:PySem.W.Frag}{C:Addr}{f:Str} (n:xdx K C f):PySem.W.takerIn K C f=some none:=by
 unfold PySem.W.takerIn
 rw[show PySem.W.findIn K (.ref C) f=some none from n]
 rfl
structure Meth (K:PySem.W.Frag) (C:Addr) (m:Str) (f:Addr):Prop where
 at_:PySem.W.findIn K (.ref C) m=some (some (.ref f))
 fn:PySem.W.isFn K (.ref f)=true
 kp:PySem.W.keepIn K (.ref f)=true
section
variable {X:Cx}{pins:List (Addr × Obj)}{σ:St}{H:Hp}{s:Shared}{a C dx:Addr}{fs:List (Str × V)}{f:Str}{v:V}{A:Around}{E:Value->Shared->Prop}
theorem xki {b:Bool}{Q:Value->Shared->Prop} (I:Inv X pins σ H s) (e:H a=some (.ins C dx fs)) (c:Cls X.K C) (n:xdx X.K C f) (l:fs.lookup f=some v)
    (h:∀ u s',Inv X pins σ H s'->RelV v u->Q u s'):wpAny (model X.prog X.w) A (getAttr (.ref a) f b) Q E s:=by
  obtain⟨mA,O,r,_,_,_⟩:=xfc I.hok e
  obtain⟨u,hu,ru⟩:=RelO.some_of (v:=v) (o:=mA f) (by rw[<- l]; exact r f)
  exact xob I.kIn O (c.get f) c.hd n hu (xlr ru) (h u _ (I.tok _) ru)
theorem xgi {m:Str}{g:Addr}{pl:Sem Bool}{Q:Value × List Value->Shared->Prop} (I:Inv X pins σ H s) (e:H a=some (.ins C dx fs)) (c:Cls X.K C) (k:Meth X.K C m g) (l:fs.lookup m=none)
    (h:Q (.ref g,[.ref a]) s):wpAny (model X.prog X.w) A (getMethod (.ref a) m pl) Q E s:=by
  obtain⟨mA,O,r,_,_,_⟩:=xfc I.hok e
  have hn:mA m=none:=RelO.none_of (by rw[<- l]; exact r m)
  exact xmw I.kIn O (c.get m) k.at_ k.fn hn h
theorem xkj {y:V}{u:Value}{Q:Unit->Shared->Prop} (I:Inv X pins σ H s) (e:H a=some (.ins C dx fs)) (c:Cls X.K C) (n:xdx X.K C f) (hl:fs.length<1000) (ry:RelV y u)
    (h:∀ s',Inv X pins σ (upd H a (.ins C dx (putF f y fs))) s'->Q () s'):wpAny (model X.prog X.w) A (setAttr (.ref a) f u) Q E s:=by
  obtain⟨mA,O,r,wi,_,ho⟩:=xfc I.hok e
  have hz:(fs.map (·.1)).length<=sizeLine:=by rw[List.length_map,sizeLine_eq]; omega
  refine xo1 I.kIn O c.sa c.po n.taker c.hd wi hz fun h' O' sb=>h _ ?_
  have hd:∃ o,h'.get? dx=some o:=let ⟨o,_,_,e',_⟩:=O'.ns; ⟨o,e'⟩
  refine I.write (x:=a) (e:=dx) (by rw[e]; exact True.intro) (.inr ho) (fun b q hb z=>(sb.2 b hb).trans z) hd ?_
  refine⟨by rw[xf O.ne]; exact ho,?_,O.ne,O'.obj,_,O'.ns,fun g=>?_,fun g hg=>?_⟩
  . have:=xfk f y fs; omega
  . show RelO ((putF f y fs).lookup g) (if g=f then some u else mA g)
    rw[xfo]
    by_cases q:g=f
    . rw[if_pos q,if_pos q]; exact ry
    . rw[if_neg q,if_neg q]; exact r g
  . by_cases q:g=f
    . rw[q]; exact (xet f y fs).1
    . refine (xet f y fs).2 g (wi g fun z=>hg ?_)
      show (if g=f then some u else mA g)=none
      rw[if_neg q]; exact z
theorem Inv.made (I:Inv X pins σ H s):Inv X pins σ (upd (upd H s.heap.objs.size (.own (s.heap.objs.size+1))) (s.heap.objs.size+1) (.ins C s.heap.objs.size []))
    { s with heap:=(s.heap.push PySem.W.emptyDict).push (PySem.W.instObj C s.heap.objs.size) }:=by
  have e1:(s.heap.push PySem.W.emptyDict).get? s.heap.objs.size=some PySem.W.emptyDict:=Heap.get?_push_size s.heap rfl
  have e2:((s.heap.push PySem.W.emptyDict).push (PySem.W.instObj C s.heap.objs.size)).get? (s.heap.objs.size+1)=some (PySem.W.instObj C s.heap.objs.size):=by
    have:=Heap.get?_push_size (s.heap.push PySem.W.emptyDict) (o:=PySem.W.instObj C s.heap.objs.size) rfl
    rwa [Heap.size_push] at this
  have e3:(s.heap.push PySem.W.emptyDict).Ns s.heap.objs.size (fun _=>none):=⟨PySem.W.emptyDict,#[],_,e1,rfl,(fun e he=>absurd he (by simp)),fun _=>rfl⟩
  have I1:=I.laid (a:=s.heap.objs.size) (o:=.own (s.heap.objs.size+1)) (h':=s.heap.push PySem.W.emptyDict) (t':=s.toks) (fun b u q=>Heap.get?_push_of_some _ q) (Nat.le_refl _) ⟨_,e1⟩
  refine I1.laid (a:=s.heap.objs.size+1) (o:=.ins C s.heap.objs.size []) (t':=s.toks) (fun b u q=>Heap.get?_push_of_some _ q) (Nat.le_of_eq (Heap.size_push _ _)) ?_
  have ne:s.heap.objs.size≠s.heap.objs.size+1:=Nat.ne_of_lt (Nat.lt_succ_self _)
  refine⟨by rw[xf ne,xg],Nat.zero_le _,ne,e2,fun _=>none,(Heap.Ns1.of_empty e3).at fun o q=>Heap.get?_push_of_some _ q,fun _=>True.intro,fun y hy=>absurd rfl hy⟩
theorem xom {prog:Program}{w:World}{env:Env}{e:Expr}{f:Str}{pos:Pos}{s:Shared}{Q:Value->Shared->Prop} (hb:attributeBase e f env (eval e env)=eval e env)
    (h:wpAny (model prog w) A (eval e env) (fun o s₁=>wpAny (model prog w) A (getAttr o f true) Q E s₁) E s):wpAny (model prog w) A (eval (.Attribute e f pos) env) Q E s :=
  Attribute_any_ h (by rw[arm_eval_Attribute,hb])
end
def tFld (K:PySem.W.Frag) (ta:TE) (f:Str):TE:=fun σ H Q=>ta σ H fun x H1=>∃ a C dx fs v,x=.ref a/\H1 a=some (.ins C dx fs)/\Cls K C/\xdx K C f/\fs.lookup f=some v/\Q v H1
def sFld (K:PySem.W.Frag) (ta tv:TE) (f:Str):TS:=fun D σ H=>tv σ H fun y H1=>ta σ H1 fun x H2=>∃ a C dx fs,x=.ref a/\H2 a=some (.ins C dx fs)/\Cls K C/\xdx K C f/\fs.length<1000 /\
 D.nx σ (upd H2 a (.ins C dx (putF f y fs)))
def InOp (X:Cx) (op:Operator) (rd:V->V->Hp->VK->Prop):Prop :=
 ∀(pins:List (Addr × Obj)) (s:Shared) (σ:St) (H:Hp) (x y:V) (u v:Value) (Q:VK),Inv X pins σ H s->RelV x u->RelV y v->rd x y H Q->wpAny (model X.prog X.w) X.A (inplaceOp op u v) (EP X pins σ Q) X.xe s
section
variable {X:Cx}{o e value:Expr}{f:Str}{pos pos' tpos:Pos}{ta tv:TE}
theorem xab (he:PE X e ta) (hb:attributeBase e f X.env (eval e X.env)=eval e X.env):PE X (.Attribute e f pos) (tFld X.K ta f):=by
 intro pins s σ H Q I h
 refine xom hb (thn (he pins s σ H _ I h) fun u s1 ⟨x,H1,I1,rx,a,C,dx,fs,v,ex,ea,c,n,l,q⟩=>?_)
 subst ex
 obtain rfl:u=Value.ref a:=rx
 exact xki I1 ea c n l fun u' s2 I2 ru=>⟨v,H1,I2,ru,q⟩
theorem xb8 (ha:PE X o ta) (hv:PE X value tv) (hs:swapsWith value (some (.Attribute o f pos')) pos.line X.env=pure false):PS X (.Assign [.Attribute o f pos'] value pos) (sFld X.K ta tv f):=by
 intro pins s σ H D I h
 refine plainObj_wpAny_Assign_Attribute (thn (hv pins s σ H _ I h) fun u s1 ⟨y,H1,I1,ry,q⟩=>thn (ha pins s1 σ H1 _ I1 q) fun ov s2 ⟨x,H2,I2,rx,a,C,dx,fs,ex,ea,c,n,l,q2⟩=>?_) hs
 subst ex
 obtain rfl:ov=Value.ref a:=rx
 exact xkj I2 ea c n l ry fun s3 I3=>⟨σ,_,I3,q2⟩
def rAdd:V->V->Hp->VK->Prop:=fun x y H Q=>∃ i j,x=.int i/\y=.int j/\Q (.int (i+j)) H
def rSub:V->V->Hp->VK->Prop:=fun x y H Q=>∃ i j,x=.int i/\y=.int j/\Q (.int (i-j)) H
theorem xqo:InOp X .Add rAdd:=by
 rintro pins s σ H x y u v Q I rx ry ⟨i,j,rfl,rfl,q⟩
 obtain⟨t,rfl⟩:=(show ∃ t,u=Value.int i t from rx)
 obtain⟨t',rfl⟩:=(show ∃ t',v=Value.int j t' from ry)
 exact PyProof.Rows.iadd_int ⟨.int (i+j),H,I.tok _,⟨_,rfl⟩,q⟩
theorem xpu:InOp X .Sub rSub:=by
 rintro pins s σ H x y u v Q I rx ry ⟨i,j,rfl,rfl,q⟩
 obtain⟨t,rfl⟩:=(show ∃ t,u=Value.int i t from rx)
 obtain⟨t',rfl⟩:=(show ∃ t',v=Value.int j t' from ry)
 exact PyProof.Rows.isub_int ⟨.int (i-j),H,I.tok _,⟨_,rfl⟩,q⟩
end
section
variable {X:Cx}{pins:List (Addr × Obj)}{σ:St}{H:Hp}{s:Shared}{A:Around}{E:Value->Shared->Prop}{Q:Value->Shared->Prop}{c:Value}{b:Bool}
inductive TyOf (K:PySem.W.Frag) (H:Hp):V->Value->Prop where
  | non:TyOf K H .non (.type "NoneType")
  | bl (x:Bool):TyOf K H (.bl x) (.type "bool")
  | int (i:Int):TyOf K H (.int i) (.type "int")
  | str (x:Str):TyOf K H (.str x) (.type "str")
  | flt (x:UInt64):TyOf K H (.flt x) (.type "float")
  | lst {a:Addr}{xs:List V} (e:H a=some (.lst xs)):TyOf K H (.ref a) (.type "list")
  | frz {a:Addr}{o:Obj}{xs:List V} (e:H a=some (.frz o (.lst xs))):TyOf K H (.ref a) (.type "list")
  | tup {a:Addr}{xs:List V} (e:H a=some (.tup xs)):TyOf K H (.ref a) (.type "tuple")
  | dK {a:Addr}{kvs:List (Key × V)} (e:H a=some (.dK kvs)):TyOf K H (.ref a) (.type "dict")
  | dT {a:Addr}{kvs:List (List Key × V)} (e:H a=some (.dT kvs)):TyOf K H (.ref a) (.type "dict")
  | ins {a C dx:Addr}{fs:List (Str × V)} (e:H a=some (.ins C dx fs)) (cl:Cls K C) (ha:PySem.W.findIn K (.ref C) "__class__"=some (some (.builtin "object.__class__")))
      (hn:PySem.W.specialIn K (.builtin "object.__class__") "__get__"=some (some (.builtin "getset_descriptor.__get__"))) (htk:PySem.W.takesIn K (.builtin "object.__class__")=some true)
      (hm:PySem.W.mroIn K C (.type "object")=some true):TyOf K H (.ref a) (.ref C)
theorem xlw {x:V}{u t:Value} (I:Inv X pins σ H s) (rx:RelV x u) (ty:TyOf X.K H x t) (e:PySem.W.kitOne X.K t c=some b) (h:∀ tk,Q (.bool b) { s with toks:=tk }) :
    wpAny (model X.prog X.w) A (call (.builtin "isinstance") [u,c]) Q E s:=by
  cases ty with
  | non=>cases (show u=Value.none from rx); exact PySem.W.kia_one PySem.W.kitx_none I.kIn True.intro e (fun z=>nomatch z) h
  | bl y=>cases (show u=Value.bool y from rx); exact PySem.W.kia_one PySem.W.kitx_bool I.kIn True.intro e (fun z=>nomatch z) h
  | int i=>obtain⟨t,q⟩:=(show ∃ t,u=Value.int i t from rx); cases q; exact PySem.W.kia_one PySem.W.kitx_int I.kIn True.intro e (fun z=>nomatch z) h
  | str y=>obtain⟨t,q⟩:=(show ∃ t,u=Value.str y t from rx); cases q; exact PySem.W.kia_one PySem.W.kitx_str I.kIn True.intro e (fun z=>nomatch z) h
  | flt y=>obtain⟨t,q⟩:=(show ∃ t,u=Value.float y t from rx); cases q; exact PySem.W.kia_one PySem.W.kitx_float I.kIn True.intro e (fun z=>nomatch z) h
  | @lst a xs ea =>
    cases (show u=Value.ref a from rx)
    obtain⟨_,_,n,_,h1⟩:=(show xaw X.prog X.w H s.heap a (.lst xs) from I.hok a _ ea)
    exact PySem.W.kia_one PySem.W.kitx_list I.kIn ⟨_,h1,rfl⟩ e (fun z=>nomatch z) h
  | @frz a ob xs ea =>
    cases (show u=Value.ref a from rx)
    obtain⟨_,_,_,n,_,h1⟩:=(show xaw X.prog X.w H s.heap a (.frz ob (.lst xs)) from I.hok a _ ea)
    exact PySem.W.kia_one PySem.W.kitx_list I.kIn ⟨_,h1,rfl⟩ e (fun z=>nomatch z) h
  | @tup a xs ea =>
    cases (show u=Value.ref a from rx)
    obtain⟨_,_,_,p⟩:=(show xaw X.prog X.w H s.heap a (.tup xs) from I.hok a _ ea)
    obtain⟨o,h1,h2,_⟩:=p
    exact PySem.W.kia_one PySem.W.kitx_tuple I.kIn ⟨o,h1,h2⟩ e (fun z=>nomatch z) h
  | @dK a kvs ea =>
    cases (show u=Value.ref a from rx)
    obtain⟨_,_,vs,_,p⟩:=(show xaw X.prog X.w H s.heap a (.dK kvs) from I.hok a _ ea)
    obtain⟨o,es,ep,h1,h2,_⟩:=p
    exact PySem.W.kia_one PySem.W.kitx_dict I.kIn ⟨o,h1,h2.1⟩ e (fun z=>nomatch z) h
  | @dT a kvs ea =>
    cases (show u=Value.ref a from rx)
    obtain⟨_,_,xs,_,o,es,ep,h1,h2,_⟩:=(show xaw X.prog X.w H s.heap a (.dT kvs) from I.hok a _ ea)
    exact PySem.W.kia_one PySem.W.kitx_dict I.kIn ⟨o,h1,h2.1⟩ e (fun z=>nomatch z) h
  | @ins a C dx fs ea cl ha hn htk hm =>
    cases (show u=Value.ref a from rx)
    obtain⟨mA,O,_⟩:=xfc I.hok ea
    obtain⟨od,J,_⟩:=O.look
    exact PySem.W.kia_one (PySem.W.kitx_own (cl.get _) cl.hd ha hn htk hm) I.kIn J e (fun z=>nomatch z) h
end
structure Room (q0:Bool) (k:Nat) (A:Around):Prop where
 hd:q0=true->A.handled=none
 dp:A.depth+3*k+5<recursionLimit
 un:A.units+16*k+200<cLine
theorem Room.mono {j k:Nat}{A:Around} (r:Room q0 k A) (h:j<=k):Room q0 j A:=⟨r.hd,by have:=r.dp; omega,by have:=r.un; omega⟩
theorem Room.deeper {k:Nat}{A:Around} (r:Room q0 (k+1) A) (env:Env):Room q0 k (A.deeper env) :=
 ⟨r.hd,by have:=r.dp; show A.depth+1+3*k+5<_; omega,by have:=r.un; show A.units+3+16*k+200<_; omega⟩
theorem xkf {A:Around}{C:Addr}{us:List Value}{kw:List (Str × Value)}:(A.under (.builtin "type.__call__" ⟨.ref C::us,kw⟩)).depth=A.depth+1:=by
 first|rfl|simp[Around.under,Code.weight,Code.isCreation,Code.isGuard,Code.isCaller,Code.frames,Code.isFrame,guardIds]
theorem xkl {A:Around}{C:Addr}{us:List Value}{kw:List (Str × Value)}:(A.under (.builtin "type.__call__" ⟨.ref C::us,kw⟩)).units=A.units+1:=by
 first|rfl|simp[Around.under,Code.cUnits,Code.frames,Code.isFrame]
theorem Room.make {k:Nat}{A:Around} (r:Room q0 (k+1) A) (C:Addr) (us:List Value) (kw:List (Str × Value)):Room q0 k (A.under (.builtin "type.__call__" ⟨.ref C::us,kw⟩)) :=
 ⟨r.hd,by have:=r.dp; rw[xkf]; omega,by have:=r.un; rw[xkl]; omega⟩
theorem Room.depth {k:Nat}{A:Around} (r:Room q0 k A):A.depth<recursionLimit:=by have:=r.dp; omega
theorem Room.units {k:Nat}{A:Around} (r:Room q0 k A):A.units+64<cLine:=by have:=r.un; omega
def tNil:TA:=fun _ H Q=>Q [] H
def xnx (ta:TE) (tr:TA):TA:=fun σ H Q=>ta σ H fun x H1=>tr σ H1 fun xs H2=>Q (x::xs) H2
section
variable {X:Cx}{e:Expr}{es:List Expr}{te:TE}{t:TA}{pos:Pos}
theorem xj:PA X [] tNil:=fun _ _ _ _ H Q I h=>Calls.spliced_nil ⟨[],H,I,.nil,h⟩
theorem xa (ha:PE X e te) (hr:PA X es t) (hs:starEach (e::es) X.env=(false,eval e X.env)::starEach es X.env:=by rfl):PA X (e::es) (xnx te t):=by
 intro pos pins s σ H Q I h
 rw[hs]
 show wpAny _ _ (spliced ((false,eval e X.env)::backTo pos (starEach es X.env))) _ _ s
 refine Calls.spliced_cons (thn (ha pins s σ H _ I h) fun u s1 ⟨x,H1,I1,r1,q1⟩=>?_)
 exact thn (hr pos pins s1 σ H1 _ I1 q1) fun us s2 ⟨xs,H2,I2,r2,q2⟩=>⟨x::xs,H2,I2,.cons r1 r2,q2⟩
def tTup (t:TA):TE:=fun σ H Q=>t σ H fun xs H1=>xs.length<=sizeLine/\∀ p,H1 p=none->Q (.ref p) (upd H1 p (.tup xs))
def tLst (t:TA):TE:=fun σ H Q=>t σ H fun xs H1=>xs.length<=sizeLine/\∀ p,H1 p=none->Q (.ref p) (upd H1 p (.lst xs))
theorem xaz {x1} (h:PA X es t):PE X (.Tuple es x1 pos) (tTup t):=by
 intro pins s σ H Q I hq
 refine wpAny_Tuple_spliced (thn (h pos pins s σ H _ I hq) fun us s1 ⟨xs,H1,I1,r,z,q⟩=>⟨by rw[<- r.length]; exact z,?_⟩)
 have hf:H1 s1.heap.objs.size=none:=I1.hok.fresh (Nat.le_refl _)
 refine⟨.ref s1.heap.objs.size,upd H1 s1.heap.objs.size (.tup xs),I1.laid (t':=s1.toks) (fun b u e=>Heap.get?_push_of_some _ e) (Nat.le_refl _) ?_,rfl,q _ hf⟩
 exact⟨z,us,r,⟨_,Heap.get?_push_size _ rfl,rfl,_,rfl⟩⟩
theorem xbu (h:PA X es t):PE X (.List es pos) (tLst t):=by
 intro pins s σ H Q I hq
 refine wpAny_List_spliced (thn (h pos pins s σ H _ I hq) fun us s1 ⟨xs,H1,I1,r,z,q⟩=>⟨by rw[<- r.length]; exact z,?_⟩)
 have hf:H1 s1.heap.objs.size=none:=I1.hok.fresh (Nat.le_refl _)
 refine⟨.ref s1.heap.objs.size,upd H1 s1.heap.objs.size (.lst xs),I1.laid (t':=s1.toks) (fun b u e=>Heap.get?_push_of_some _ e) (Nat.le_refl _) ?_,rfl,q _ hf⟩
 exact⟨z,us,0,r,Heap.get?_push_size _ rfl⟩
end
abbrev Sp:=List V->Hp->VK->XK->Prop
abbrev CXT:=List Env->Hp->Shared->XK->Value->Shared->Prop
structure Env0 (P:Program) (w:World) (K:PySem.W.Frag) (mg:Str->Option Value) (base:Heap) (A:Around) (outer:List Env) (s:Shared) (H:Hp):Prop where
 frames:A.frames=some outer
 mod:Mod K mg base
 bs:∀ b o,base.get? b=some o->s.heap.get? b=some o/\H b=none
 bsz:base.objs.size<=s.heap.objs.size
 funs:s.heap.FunFrames base outer
 frf:∀ b∈frs outer,H b=none
 hok:HOk P w H s.heap
 bare:AllBare s.gens
def CE (outer:List Env) (P:Program) (w:World) (H:Hp) (s:Shared) (Q:VK) (u:Value) (s':Shared):Prop :=
 ∃ v H',s'.os=s.os/\AllBare s'.gens/\Un (frs outer) [] H H' s.heap s'.heap/\HOk P w H' s'.heap/\RelV v u/\Q v H'
def CR (CX:CXT) (outer:List Env) (P:Program) (w:World) (H:Hp) (s:Shared) (Q:VK) (E:XK) (r:Result) (s':Shared):Prop :=
 match r with
 | .ok (.ret u)=>CE outer P w H s Q u s'
 | .ok _=>False
 | .error e=>CX outer H s E e s'
structure FnOk (q0:Bool) (P:Program) (w:World) (K:PySem.W.Frag) (mg:Str->Option Value) (base:Heap) (CX:CXT) (k:Nat) (f:Addr) (fd:FuncData) (ps:List Str) (sp:Sp):Prop where
 len:∀ vs H Q E,sp vs H Q E->vs.length=ps.length
 run:∀(A:Around) (outer:List Env) (s:Shared) (H:Hp) (args:Args) (us:List Value) (vs:List V) (Q:VK) (E:XK),Room q0 k A->Env0 P w K mg base A outer s H->BindsTo s fd args (ps.zip us)->Vals vs us->sp vs H Q E ->
  codeAny (model P w) A (.call (.ref f) args) (CR CX outer P w H s Q E) s
theorem Env0.make {P:Program}{w:World}{K:PySem.W.Frag}{mg:Str->Option Value}{base:Heap}{A:Around}{outer:List Env}{s:Shared}{H:Hp} (e:Env0 P w K mg base A outer s H) (C:Addr) (us:List Value) (kw:List (Str × Value)) :
    Env0 P w K mg base (A.under (.builtin "type.__call__" ⟨.ref C::us,kw⟩)) outer s H:=⟨by first|exact e.frames|(simpa [Around.under,Code.envs,Code.isFrame,pushEnvs] using e.frames),e.mod,e.bs,e.bsz,e.funs,e.frf,e.hok,e.bare⟩
section
variable {X:Cx}{pins:List (Addr × Obj)}{σ:St}{H:Hp}{s s':Shared}
theorem Inv.env0 (I:Inv X pins σ H s):Env0 X.prog X.w X.K X.mg X.base X.A X.stack s H :=
 ⟨I.ok.frames,I.ok.mod,I.bs,Nat.le_trans I.ok.bsz I.sz,I.stack,I.stkFree,I.hok,I.bare⟩
theorem Inv.after {Q:VK}{u:Value} (I:Inv X pins σ H s) (h:CE X.stack X.prog X.w H s Q u s'):EP X pins σ Q u s':=by
 obtain⟨v,H',os,bare,un,hok,r,q⟩:=h
 obtain⟨hh,g,d,t,os'⟩:=s'
 obtain rfl:os'=s.os:=os
 exact⟨v,H',I.call (h':=hh) (g':=g) (d':=d) (t':=t) (ch:=[]) un hok bare (fun b z=>absurd z (by simp)),r,q⟩
end
def xro (sp:Sp) (dvs:List V) (E:St->XK) (t:TA):TE:=fun σ H Q=>t σ H fun vs H1=>sp (vs++dvs) H1 Q (E σ)
def xnv (C:Addr) (m:Str) (sp:Sp) (dvs:List V) (E:St->XK) (ta:TE) (t:TA):TE:=fun σ H Q=>ta σ H fun x H1=>∃ a dx fs,x=.ref a/\H1 a=some (.ins C dx fs)/\fs.lookup m=none /\
 t σ H1 fun vs H2=>sp (x::(vs++dvs)) H2 Q (E σ)
def xn6 (C:Addr) (sp:Sp) (dvs:List V) (E:St->XK) (t:TA):TE:=fun σ H Q=>t σ H fun vs H1=>∀ x dx,H1 x=none->H1 dx=none->dx≠x ->
 sp (.ref x::(vs++dvs)) (upd (upd H1 dx (.own x)) x (.ins C dx [])) (fun v H2=>v=.non/\Q (.ref x) H2) (E σ)
def xad (K:PySem.W.Frag) (fd:FuncData) (ps:List Str) (ds:List Value):Prop :=
 ∀(s:Shared) (us:List Value),K.In s.heap->(us++ds).length=ps.length->BindsTo s fd ⟨us,[]⟩ (ps.zip (us++ds))
theorem xad.all {K:PySem.W.Frag}{fd:FuncData}{ps:List Str} (h:∀ us:List Value,us.length=ps.length->bindArgs fd ⟨us,[]⟩=pure (ps.zip us)):xad K fd ps []:=fun s us _ hl=>by
 rw[List.append_nil] at hl ⊢
 exact .of_eq (h us hl)
def xda (CX:CXT) (X:Cx) (E:St->XK):Prop:=∀(pins:List (Addr × Obj)) (σ:St) (H:Hp) (s:Shared) (e:Value) (s':Shared),Inv X pins σ H s->CX X.stack H s (E σ) e s'->X.xe e s'
section
variable {X:Cx}{CX:CXT}{k:Nat}{f C:Addr}{fd:FuncData}{ps:List Str}{sp:Sp}{dvs:List V}{ds:List Value}{E:St->XK}{x m:Str}{p pos apos:Pos}{e o:Expr}{es:List Expr}{ta:TE}{t:TA}
theorem xh1 {pins:List (Addr × Obj)}{σ:St}{H:Hp}{s:Shared}{Q:VK}{us:List Value}{vs:List V} (F:FnOk q0 X.prog X.w X.K X.mg X.base CX k f fd ps sp) (hr:Room q0 k X.A) (hb:xad X.K fd ps ds) (hd:Vals dvs ds) (hx:xda CX X E)
    (I:Inv X pins σ H s) (r:Vals vs us) (h:sp (vs++dvs) H Q (E σ)):wpAny (model X.prog X.w) X.A (call (.ref f) us) (EP X pins σ Q) X.xe s:=by
  have r2:Vals (vs++dvs) (us++ds):=r.append hd
  have hl:(us++ds).length=ps.length:=by rw[<- r2.length]; exact F.len _ _ _ _ h
  refine wpAny_call (codeAny_mono (F.run X.A X.stack s H ⟨us,[]⟩ (us++ds) (vs++dvs) Q (E σ) hr I.env0 (hb s us I.kIn hl) r2 h) fun r s' hq=>?_)
  cases r with
  | error e=>exact hx pins σ H s e s' I hq
  | ok fl =>
    cases fl with
    | ret u=>exact I.after hq
    | next=>exact False.elim hq
    | brk=>exact False.elim hq
    | cont=>exact False.elim hq
theorem x8 (F:FnOk q0 X.prog X.w X.K X.mg X.base CX k f fd ps sp) (hr:Room q0 k X.A) (hg:Gl X x) (hm:X.mg x=some (.ref f)) (hk:PySem.W.keepIn X.K (.ref f)=true) (hb:xad X.K fd ps ds) (hd:Vals dvs ds) (hx:xda CX X E)
    (ha:PA X (e::es) t) (hdb:(x == ("__debug__":Str))=false:=by decide) (he:starEach (e::es) X.env=(false,eval e X.env)::starEach es X.env:=by rfl) (hpl:(backTo pos (starEach es X.env)).any (·.1)=false:=by rfl) :
    PE X (.Call (.Name x p) (e::es) [] pos) (xro sp dvs E t):=by
  intro pins s σ H Q I h
  refine wpAny_Call_Name_kw (xfi I hg hm ?_ hdb)
  refine PySem.W.callWith_K (h₀:=X.base) I.ok.mod.kin hk (thn (ha pos pins s σ H _ I h) fun us s1 ⟨vs,H1,I1,r,q⟩=>⟨I1.kIn,?_⟩) he hpl
  exact xh1 F hr hb hd hx I1 r q
theorem xak {pl:Sem Bool} (he:PE X o ta) (c:Cls X.K C) (hm:Meth X.K C m f) (F:FnOk q0 X.prog X.w X.K X.mg X.base CX k f fd ps sp) (hr:Room q0 k X.A) (hb:xad X.K fd ps ds) (hd:Vals dvs ds) (hx:xda CX X E) (ha:PA X (e::es) t)
    (hst:starEach (e::es) X.env=(false,eval e X.env)::starEach es X.env:=by rfl) (hpl:(backTo pos (starEach es X.env)).any (·.1)=false:=by rfl)
    (ht:eval (.Call (.Attribute o m apos) (e::es) [] pos) X.env=(do
      let ov <- eval o X.env
      standAt apos.atName
      let (f,first) <- holding [ov] (getMethod ov m pl)
      callWith pos f first (backTo pos (starEach (e::es) X.env)) (backToKw pos (keywordEach [] X.env))):=by rfl) :
    PE X (.Call (.Attribute o m apos) (e::es) [] pos) (xnv C m sp dvs E ta t):=by
  intro pins s σ H Q I h
  refine PySem.W.methodCall_KW (pl:=pl) (thn (he pins s σ H _ I h) fun u s1 ⟨x,H1,I1,rx,a,dx,fs,ex,ea,l,q⟩=>?_) ht
  subst ex
  obtain rfl:u=Value.ref a:=rx
  refine xgi I1 ea c hm l ?_
  refine PySem.W.callWith_K (first:=[.ref a]) (h₀:=X.base) I.ok.mod.kin hm.kp (thn (ha pos pins s1 σ H1 _ I1 q) fun us s2 ⟨vs,H2,I2,r,q2⟩=>⟨I2.kIn,?_⟩) hst hpl
  exact xh1 (us:=.ref a::us) (vs:=.ref a::vs) F hr hb hd hx I2 (.cons rfl r) q2
theorem xa3 {pl:Sem Bool} (he:PE X o ta) (c:Cls X.K C) (hm:Meth X.K C m f) (F:FnOk q0 X.prog X.w X.K X.mg X.base CX k f fd ps sp) (hr:Room q0 k X.A) (hb:xad X.K fd ps ds) (hd:Vals dvs ds) (hx:xda CX X E)
    (ht:eval (.Call (.Attribute o m apos) [] [] pos) X.env=(do
      let ov <- eval o X.env
      standAt apos.atName
      let (f,first) <- holding [ov] (getMethod ov m pl)
      callWith pos f first (backTo pos (starEach [] X.env)) (backToKw pos (keywordEach [] X.env))):=by rfl) :
    PE X (.Call (.Attribute o m apos) [] [] pos) (xnv C m sp dvs E ta tNil):=by
  intro pins s σ H Q I h
  refine PySem.W.methodCall_KW (pl:=pl) (thn (he pins s σ H _ I h) fun u s1 ⟨x,H1,I1,rx,a,dx,fs,ex,ea,l,q⟩=>?_) ht
  subst ex
  obtain rfl:u=Value.ref a:=rx
  refine xgi I1 ea c hm l ?_
  exact PySem.W.callWith_K0 (first:=[.ref a]) I1.kIn hm.kp (xh1 (us:=[.ref a]) (vs:=[.ref a]) F hr hb hd hx I1 (.cons rfl .nil) q)
structure Mk (K:PySem.W.Frag) (C f:Addr):Prop where
 makes:PySem.W.makesIn K C=true
 init:PySem.W.findIn K (.ref C) "__init__"=some (some (.ref f))
 fn:PySem.W.isFn K (.ref f)=true
 kp:PySem.W.keepIn K (.ref C)=true
theorem xhx {pins:List (Addr × Obj)}{σ:St}{H:Hp}{s:Shared}{Q:VK}{us:List Value}{vs:List V} (M:Mk X.K C f) (F:FnOk q0 X.prog X.w X.K X.mg X.base CX k f fd ps sp) (hr:Room q0 (k+1) X.A) (hb:xad X.K fd ps ds) (hd:Vals dvs ds)
    (hx:xda CX X E) (I:Inv X pins σ H s) (r:Vals vs us)
    (h:∀ x dx,H x=none->H dx=none->dx≠x->sp (.ref x::(vs++dvs)) (upd (upd H dx (.own x)) x (.ins C dx [])) (fun v H2=>v=.non/\Q (.ref x) H2) (E σ)) :
    wpAny (model X.prog X.w) X.A (call (.ref C) us) (EP X pins σ Q) X.xe s:=by
  have hq:=h (s.heap.objs.size+1) s.heap.objs.size (I.hok.fresh (Nat.le_succ _)) (I.hok.fresh (Nat.le_refl _)) (Nat.ne_of_lt (Nat.lt_succ_self _))
  have I2:=Inv.made (C:=C) I
  have r2:Vals (V.ref (s.heap.objs.size+1)::(vs++dvs)) (Value.ref (s.heap.objs.size+1)::(us++ds)):=.cons rfl (r.append hd)
  have hl:(Value.ref (s.heap.objs.size+1)::us++ds).length=ps.length:=by
    have e:=r2.length
    rw[F.len _ _ _ _ hq] at e
    exact e.symm
  refine wpAny_call (xmx (f:=f) I.kIn M.makes M.init (beq_iff_eq.mp M.fn) (codeAny_mono (F.run _ X.stack _ _ ⟨Value.ref (s.heap.objs.size+1)::us,[]⟩ (Value.ref (s.heap.objs.size+1)::(us++ds)) _ _ (E σ) (hr.make C us [])
    (I2.env0.make C us []) (hb _ (Value.ref (s.heap.objs.size+1)::us) I2.kIn hl) r2 hq) fun r s' hq'=>?_))
  cases r with
  | error e=>exact hx pins σ _ _ e s' I2 hq'
  | ok fl =>
    cases fl with
    | ret u =>
      obtain⟨v,H',I3,rv,ev,q3⟩:=I2.after hq'
      subst ev
      exact⟨rv,⟨V.ref (s.heap.objs.size+1),H',I3,rfl,q3⟩⟩
    | next=>exact False.elim hq'
    | brk=>exact False.elim hq'
    | cont=>exact False.elim hq'
theorem xeb (M:Mk X.K C f) (F:FnOk q0 X.prog X.w X.K X.mg X.base CX k f fd ps sp) (hr:Room q0 (k+1) X.A) (hg:Gl X x) (hm:X.mg x=some (.ref C)) (hb:xad X.K fd ps ds) (hd:Vals dvs ds) (hx:xda CX X E)
    (ha:PA X (e::es) t) (hdb:(x == ("__debug__":Str))=false:=by decide) (he:starEach (e::es) X.env=(false,eval e X.env)::starEach es X.env:=by rfl) (hpl:(backTo pos (starEach es X.env)).any (·.1)=false:=by rfl) :
    PE X (.Call (.Name x p) (e::es) [] pos) (xn6 C sp dvs E t):=by
  intro pins s σ H Q I h
  refine wpAny_Call_Name_kw (xfi I hg hm ?_ hdb)
  refine PySem.W.callWith_K (h₀:=X.base) I.ok.mod.kin M.kp (thn (ha pos pins s σ H _ I h) fun us s1 ⟨vs,H1,I1,r,q⟩=>⟨I1.kIn,?_⟩) he hpl
  exact xhx M F hr hb hd hx I1 r q
theorem xiz (M:Mk X.K C f) (F:FnOk q0 X.prog X.w X.K X.mg X.base CX k f fd ps sp) (hr:Room q0 (k+1) X.A) (hg:Gl X x) (hm:X.mg x=some (.ref C)) (hb:xad X.K fd ps ds) (hd:Vals dvs ds) (hx:xda CX X E)
    (hdb:(x == ("__debug__":Str))=false:=by decide):PE X (.Call (.Name x p) [] [] pos) (xn6 C sp dvs E tNil):=by
  intro pins s σ H Q I h
  refine wpAny_Call_Name_kw (xfi I hg hm ?_ hdb)
  exact PySem.W.callWith_K0 I.kIn M.kp (xhx (us:=[]) M F hr hb hd hx I .nil h)
end
structure x9 (N P:List Str) (sc:Scope):Prop where
 kind:sc.kind=.function
 co:sc.isCoroutine=false
 gen:sc.isGenerator=false
 nd:N.Nodup
 pre:N.take P.length=P
 par:∀ x∈P,sc.names.lookup x=some .local\/sc.names.lookup x=some .cell
 nofree:∀ y∈sc.names,y.2≠.free
theorem xhd {kindOf:Str->Option NameKind}{x:Str}:∀{binds:List (Str × Value)}{m:Str->Option Value},(∀ v,(x,v)∉binds)->bindL kindOf binds m x=m x
 | [],_,_=>rfl
 | (n,v)::r,m,h=>by
  unfold bindL
  rw[xhd fun w hw=>h w (List.mem_cons_of_mem _ hw)]
  split
  .have:x≠n:=by rintro rfl; exact h v List.mem_cons_self
   simp[this]
  .rfl
theorem xhh {kindOf:Str->Option NameKind}{x:Str}:∀{binds:List (Str × Value)}{m:Str->Option Value},(∀ v,(x,v)∉binds)->bindC kindOf binds m x=m x
 | [],_,_=>rfl
 | (n,v)::r,m,h=>by
  unfold bindC
  rw[xhh fun w hw=>h w (List.mem_cons_of_mem _ hw)]
  split
  .rfl
  .have:x≠n:=by rintro rfl; exact h v List.mem_cons_self
   simp[this]
theorem xg8 {kindOf:Str->Option NameKind}{x:Str}{v:Value}:∀{P:List Str}{vs:List Value}{i:Nat}{m:Str->Option Value},P.Nodup->P[i]?=some x->vs[i]?=some v->kindOf x=some .local ->
    bindL kindOf (P.zip vs) m x=some v
  | [],_,_,_,_,h,_,_=>by simp at h
  | _::_,[],_,_,_,_,h,_=>by simp at h
  | p::P,w::vs,0,m,nd,h1,h2,hk=>by
    simp at h1 h2; subst h1; subst h2
    show bindL kindOf ((p,w)::P.zip vs) m p=_
    unfold bindL
    rw[xhd fun v hv=>(List.nodup_cons.mp nd).1 (List.of_mem_zip hv).1,if_pos hk]
    simp
  | p::P,w::vs,i+1,m,nd,h1,h2,hk=>by
    show bindL kindOf ((p,w)::P.zip vs) m x=_
    unfold bindL
    exact xg8 (i:=i) (List.nodup_cons.mp nd).2 (by simpa using h1) (by simpa using h2) hk
theorem xg1 {kindOf:Str->Option NameKind}{x:Str}{v:Value}:∀{P:List Str}{vs:List Value}{i:Nat}{m:Str->Option Value},P.Nodup->P[i]?=some x->vs[i]?=some v->kindOf x≠some .local ->
    bindC kindOf (P.zip vs) m x=some v
  | [],_,_,_,_,h,_,_=>by simp at h
  | _::_,[],_,_,_,_,h,_=>by simp at h
  | p::P,w::vs,0,m,nd,h1,h2,hk=>by
    simp at h1 h2; subst h1; subst h2
    show bindC kindOf ((p,w)::P.zip vs) m p=_
    unfold bindC
    rw[xhh fun v hv=>(List.nodup_cons.mp nd).1 (List.of_mem_zip hv).1,if_neg hk]
    simp
  | p::P,w::vs,i+1,m,nd,h1,h2,hk=>by
    show bindC kindOf ((p,w)::P.zip vs) m x=_
    unfold bindC
    exact xg1 (i:=i) (List.nodup_cons.mp nd).2 (by simpa using h1) (by simpa using h2) hk
def start (N:List Str) (vs:List V):St:=vs.map some++List.replicate (N.length-vs.length) none
def cxOf (q0:Bool) (CX:CXT) (P:Program) (w:World) (K:PySem.W.Frag) (mg:Str->Option Value) (base:Heap) (N:List Str) (qual:Str) (scope:Scope) (f:Addr) (cd:Value) (A:Around) (outer:List Env) (s:Shared) (H:Hp) (E:XK):Cx where
 prog:=P
 w:=w
 K:=K
 mg:=mg
 base:=base
 A:=A.deeper (envOfC qual scope s.heap.objs.size f cd)
 N:=N
 s₀:=s
 H₀:=H
 env:=envOfC qual scope s.heap.objs.size f cd
 outer:=outer
 stack:=envOfC qual scope s.heap.objs.size f cd::outer
 ex:=[]
 calm:=q0
 fn:=fun _=>true
 pn:=[]
 xe:=fun e s'=>wpAny (model P w) (A.deeper (envOfC qual scope s.heap.objs.size f cd)) (leaving (envOfC qual scope s.heap.objs.size f cd) e) (fun _ s''=>CX outer H s E e s'') (fun e' s''=>CX outer H s E e' s'') s'
theorem xic {sc:Scope}{n:Nat}{x:Str} (h:sc.names.lookup x=some .cell):∃ c,(cellsFrom n sc.names []).lookup x=some c:=by
 have q:=PySem.W.cellsFrom_some sc.names n [] (.inl h)
 exact Option.isSome_iff_exists.mp q
theorem xlv {CX:CXT}{P:Program}{w:World}{K:PySem.W.Frag}{mg:Str->Option Value}{base:Heap}{N ps:List Str}{qual:Str}{scope:Scope}{f:Addr}{cd:Value}{A:Around}{outer:List Env}{s s1:Shared}{H:Hp}{E:XK}{us:List Value}{vs:List V}
    (S:x9 N ps scope) (hd:q0=true->A.handled=none) (e0:Env0 P w K mg base A outer s H) (hl:vs.length=ps.length) (r:Vals vs us)
    (x:InCallC s s.heap.objs.size (bindL (envOfC qual scope s.heap.objs.size f cd).kindOf (ps.zip us) fun _=>none) (cellsFrom (s.heap.objs.size+1) scope.names []) (bindC (envOfC qual scope s.heap.objs.size f cd).kindOf (ps.zip us) fun _=>none) s1) :
    Inv (cxOf q0 CX P w K mg base N qual scope f cd A outer s H E) [] (start N vs) H s1:=by
  have hpl:ps.length<=N.length:=by have:=congrArg List.length S.pre; rw[List.length_take] at this; omega
  obtain⟨h1,tk,rfl,hk⟩:=x.done
  have noA:∀ b:Addr,b∉(cxOf q0 CX P w K mg base N qual scope f cd A outer s H E).ex:=fun b z=>absurd (show b∈([]:List Addr) from z) (by simp)
  refine⟨⟨e0.mod,S.kind,rfl,rfl,Nat.le_refl _,fun y z c h1 h2=>?_,fun y hy=>?_,fun y c _ h=>?_,hd,Around.frames_deeper e0.frames,.inr ⟨rfl,rfl⟩,fun b z=>absurd z (noA b),e0.bs,e0.bsz,fun b _ _=>noA b,fun b z=>absurd z (noA b),e0.funs,e0.frf⟩,
    rfl,e0.bare,Un.kept hk,⟨_,x.toInCall.ns,fun i y v h1 h2 h3=>?_⟩,fun y c h=>⟨_,x.cell y c h⟩,e0.hok.fresh (Nat.le_refl _),fun y c h=>?_,fun p hp=>absurd (show p∈([]:List (Addr × Obj)) from hp) (by simp),e0.hok.kept hk,?_⟩
  . exact name_of_addr x.apart (PySem.mem_of_lookup h1) (PySem.mem_of_lookup h2)
  . have hy:scope.names.lookup y=some .cell\/scope.names.lookup y=some .free:=hy
    rcases hy with hy|hy
    . exact xic hy
    . exact absurd rfl (S.nofree _ (PySem.mem_of_lookup hy))
  . exact Nat.le_of_lt (x.above y c (PySem.mem_of_lookup h))
  . have hi:i<vs.length:=by
      unfold start at h2
      by_cases hi:i<vs.length
      . exact hi
      . rw[List.getElem?_append_right (by simpa using hi)] at h2
        rw[List.getElem?_replicate] at h2
        split at h2<;>cases h2
    have ha:vs[i]?=some v:=by
      unfold start at h2
      rw[List.getElem?_append_left (by simpa using hi),List.getElem?_map] at h2
      cases e:vs[i]? with
      | none=>rw[e] at h2; cases h2
      | some a=>rw[e] at h2; cases h2; rfl
    obtain⟨u,hu,rv⟩:=r.get ha
    have hp:ps[i]?=some y:=by
      rw[<- S.pre,List.getElem?_take_of_lt (by omega)]; exact h1
    have ndP:ps.Nodup:=by rw[<- S.pre]; exact S.nd.sublist (List.take_sublist _ _)
    refine⟨u,rv,?_⟩
    rcases S.par y (List.mem_of_getElem? hp) with k|k
    . exact .inl ⟨k,xg8 ndP hp hu k⟩
    . obtain⟨c,e⟩:=xic (n:=s.heap.objs.size+1) k
      refine .inr ⟨.inl k,c,e,?_⟩
      have q:=x.cell y c e
      rw[xg1 ndP hp hu (by show scope.names.lookup y≠_; rw[k]; decide)] at q
      exact q
  . exact e0.hok.fresh (Nat.le_of_lt (x.above y c (PySem.mem_of_lookup h)))
  . unfold start
    show _=N.length
    rw[List.length_append,List.length_map,List.length_replicate]
    omega
theorem xkm {CX:CXT}{P:Program}{w:World}{K:PySem.W.Frag}{mg:Str->Option Value}{base:Heap}{k:Nat}{f:Addr}{name qual:Str}{params:Arguments}{body:List Stmt}{scope:Scope}{dV kV doc pm cdv ct oc:Value}{an od:Option Addr}
    {osl:Array (Option Value)}{N ps:List Str}{sp:Sp} (lk:K.lookup f=some ⟨oc,od,.func (PySem.W.fnOf name qual params body scope dV kV doc pm an cdv ct),osl⟩) (hcd:PySem.W.codeIn K cdv qual=true) (S:x9 N ps scope)
    (len:∀ vs H Q E,sp vs H Q E->vs.length=ps.length)
    (hbody:∀(A:Around) (outer:List Env) (s:Shared) (H:Hp) (vs:List V) (Q:VK) (E:XK),Room q0 k (A.deeper (envOfC qual scope s.heap.objs.size f cdv))->sp vs H Q E ->
      ∃ t,PSs (cxOf q0 CX P w K mg base N qual scope f cdv A outer s H E) body t/\t { nx:=fun _ H'=>Q .non H',rt:=Q } (start N vs) H) :
    FnOk q0 P w K mg base CX (k+1) f (PySem.W.fnOf name qual params body scope dV kV doc pm an cdv ct) ps sp:=by
  refine⟨len,fun A outer s H args us vs Q E hr e0 hb r hsp=>?_⟩
  have hl:=len _ _ _ _ hsp
  have KX:K.In s.heap:=e0.mod.kin.keeps fun b o e=>(e0.bs b o e).1
  have lim:s.heap.NoLimit:=e0.mod.nolimit.keeps fun b o e=>(e0.bs b o e).1
  have hkind:∀ y∈ps.zip us,scope.names.lookup y.1=some .local\/(scope.names.lookup y.1=some .cell/\((cellsFrom (s.heap.objs.size+1) scope.names []).lookup y.1).isSome=true):=fun⟨n,v⟩ hy=>by
    rcases S.par n (List.of_mem_zip hy).1 with q|q
    . exact .inl q
    . exact .inr ⟨q,PySem.W.cellsFrom_some _ _ _ (.inl q)⟩
  refine codeAny_call_function hr.depth (KX _ _ lk) rfl S.co S.gen rfl (PySem.W.codeRec_of KX hcd) (hb _ _ _ _ ?_)
  refine wpAny_newFunctionEnv_cells S.kind hkind fun env he s1 x=>?_
  subst he
  refine⟨lim.keeps x.toInCall.keep,codeAny_func ?_⟩
  obtain⟨t,ht,hq⟩:=hbody A outer s H vs Q E (hr.deeper _) hsp
  have I:Inv (cxOf q0 CX P w K mg base N qual scope f cdv A outer s H E) [] (start N vs) H s1:=xlv S hr.hd e0 hl r x
  refine wpAny_mono (ht [] s1 (start N vs) H _ I hq) (fun fl s' hs=>?_) fun e s' hs=>hs
  have fin:∀{σ':St}{H':Hp}{v:V}{u:Value},Inv (cxOf q0 CX P w K mg base N qual scope f cdv A outer s H E) [] σ' H' s'->RelV v u->Q v H'->CE outer P w H s Q u s' :=
    fun {σ' H' v u} J rv q=>⟨v,H',J.os,J.bare,J.base,J.hok,rv,q⟩
  cases fl with
  | ret u =>
    obtain⟨v,σ',H',J,rv,q⟩:=hs
    exact fin J rv q
  | next =>
    obtain⟨σ',H',J,q⟩:=hs
    exact fin (v:=V.non) (u:=Value.none) J rfl q
  | brk =>
    obtain⟨_,_,_,q⟩:=hs
    exact False.elim q
  | cont =>
    obtain⟨_,_,_,q⟩:=hs
    exact False.elim q
section
variable {X:Cx}{x:Str}{p pos:Pos}{e:Expr}{es:List Expr}{t:TA}{id T:String}{r:List V->Hp->VK->Prop}
def tCB (r:List V->Hp->VK->Prop) (t:TA):TE:=fun σ H Q=>t σ H fun vs H1=>r vs H1 Q
theorem xas (hc:xb4 X (.builtin id) r) (hg:Gl X x) (hm:X.mg x=none) (hv:bootBuiltins x=some (.builtin id)) (ha:PA X (e::es) t) (hn:x≠"__name__":=by decide) (hdb:(x == ("__debug__":Str))=false:=by decide)
    (he:starEach (e::es) X.env=(false,eval e X.env)::starEach es X.env:=by rfl) (hpl:(backTo pos (starEach es X.env)).any (·.1)=false:=by rfl):PE X (.Call (.Name x p) (e::es) [] pos) (tCB r t):=by
  intro pins s σ H Q I h
  refine wpAny_Call_Name_kw (xc8 I hg hm hv ?_ hn hdb)
  exact PyProof.Rows.callWith_builtin1 (thn (ha pos pins s σ H _ I h) fun us s1 ⟨vs,H1,I1,r1,q1⟩=>hc pins s1 σ H1 vs us Q I1 r1 q1) he hpl
theorem xbv (hc:xb4 X (.type T) r) (hg:Gl X x) (hm:X.mg x=none) (hv:bootBuiltins x=some (.type T)) (ha:PA X (e::es) t) (hn:x≠"__name__":=by decide) (hdb:(x == ("__debug__":Str))=false:=by decide)
    (he:starEach (e::es) X.env=(false,eval e X.env)::starEach es X.env:=by rfl) (hpl:(backTo pos (starEach es X.env)).any (·.1)=false:=by rfl):PE X (.Call (.Name x p) (e::es) [] pos) (tCB r t):=by
  intro pins s σ H Q I h
  refine wpAny_Call_Name_kw (xc8 I hg hm hv ?_ hn hdb)
  exact PyProof.Rows.callWith_type1 (thn (ha pos pins s σ H _ I h) fun us s1 ⟨vs,H1,I1,r1,q1⟩=>hc pins s1 σ H1 vs us Q I1 r1 q1) he hpl
end
end L2
namespace HT
open PySem PyProof.Rows
section
variable {prog:Program}{w:World}{A:Around}{E:Value->Shared->Prop}{s:Shared}
theorem cat_tup {t b:Addr}{vs ws:List Value}{Q:Value->Shared->Prop} (ht:IsTup s.heap t vs.toArray) (hb:IsTup s.heap b ws.toArray) (hv:vs≠[])
    (h1:ws=[]->Q (.ref t) s) (h2:ws≠[]->Q (.ref s.heap.objs.size) { s with heap:=s.heap.push { cls:=.type "tuple",data:=.seq (vs++ws).toArray } })
    (hsz:vs.length+ws.length<=sizeLine):wpAny (model prog w) A (binaryOp .Add (.ref t) (.ref b)) Q E s:=by
  obtain⟨⟨cls,dd,data,sl⟩,ho,hc,n,hd⟩:=id ht
  obtain⟨⟨cls2,dd2,data2,sl2⟩,ho2,hc2,n2,hd2⟩:=id hb
  simp only at hc hd hc2 hd2
  subst hc hd hc2 hd2
  have e:vs.toArray++ws.toArray=(vs++ws).toArray:=by simp
  by_cases hw:ws=[]
  . exact concat_meets ⟨_,ho,rfl⟩ ⟨_,ho2,rfl⟩ noFill_tuple_add seq_tuple_add PySem.F.slot_tuple_add PySem.F.entry_tuple_add (PySem.F.args_tuple_add_2 _ _)
      (tuple_addW1 t b vs.toArray ws.toArray n n2 dd dd2 sl sl2 (by simpa using hv) (by simp[hw])) ⟨ho,ho2,h1 hw⟩
  . refine concat_meets ⟨_,ho,rfl⟩ ⟨_,ho2,rfl⟩ noFill_tuple_add seq_tuple_add PySem.F.slot_tuple_add PySem.F.entry_tuple_add (PySem.F.args_tuple_add_2 _ _)
      (tuple_addW2 t b vs.toArray ws.toArray n n2 dd dd2 sl sl2 (by simpa using hv) (by simpa using hw) (by rw[List.size_toArray,List.size_toArray]; exact hsz)) ⟨ho,ho2,?_⟩
    rw[e]
    exact h2 hw
def sIx (n d:Nat):Option Int->Nat
 | none=>d
 | some v=>if v<0 then (v+(n:Int)).toNat else min v.toNat n
theorem sIx_none (n d:Nat):sIx n d none=d:=rfl
theorem sIx_nat (n d k:Nat):sIx n d (some (k:Int))=min k n:=by
 show (if (k:Int)<0 then ((k:Int)+(n:Int)).toNat else min (k:Int).toNat n)=min k n
 rw[if_neg (by omega),Int.toNat_natCast]
theorem xq0 (n d:Nat) (hd:d<=n) (o:Option Int):sIx n d o<=n:=by
 cases o with
 | none=>exact hd
 | some v =>
  show (if v<0 then (v+(n:Int)).toNat else min v.toNat n)<=n
  by_cases hv:v<0
  .rw [if_pos hv]; omega
  .rw [if_neg hv]; exact Nat.min_le_right _ _
theorem xjk (v:Int) (n d:Nat):(if v<0 then max (v+(n:Int)) 0 else min v (n:Int))=((sIx n d (some v):Nat):Int):=by
 show (if v<0 then max (v+(n:Int)) 0 else min v (n:Int))=(((if v<0 then (v+(n:Int)).toNat else min v.toNat n):Nat):Int)
 by_cases hv:v<0
 .simp only [if_pos hv]; omega
 .simp only [if_neg hv]; omega
theorem xkp (lo hi:Option Int) (n:Nat):Builtin.Slice.sliceAdjust lo hi 1 (n:Int)=(((sIx n 0 lo:Nat):Int),((sIx n n hi:Nat):Int)):=by
 have h1:¬ ((1:Int)<0):=by omega
 unfold Builtin.Slice.sliceAdjust
 simp only[h1,if_false]
 refine Prod.ext ?_ ?_
 .cases lo with
  | none=>rfl
  | some v=>exact xjk v n 0
 .cases hi with
  | none=>rfl
  | some v=>exact xjk v n n
theorem xk3 (i j:Nat):Builtin.Slice.slicePlaces (i:Int) (j:Int) 1=j-i:=by
 unfold Builtin.Slice.slicePlaces
 have h1:(1:Int)>0:=by omega
 simp only[h1,if_true,Int.ediv_one]
 split<;>omega
theorem xgb {v:Value}{o:Option Int}{Q:Option Int->Shared->Prop} (p:IsPart v o) (h:Q o s):wpAny (model prog w) A (Builtin.Slice.slicePartIndex v) Q E s:=by
 cases p with
 | none=>exact slicePart_none h
 | int i t=>exact slicePart_int h
theorem xfr {sl:Addr}{vl vu:Value}{lo hi:Option Int}{n:Nat}{Q:Int × Int × Nat->Shared->Prop} (hs:s.heap.IsSliceOf sl vl vu .none) (pl:IsPart vl lo) (pu:IsPart vu hi)
    (h:Q (((sIx n 0 lo:Nat):Int),1,sIx n n hi-sIx n 0 lo) s):wpAny (model prog w) A (Builtin.Slice.sliceApplied (.ref sl) (pure (n:Int))) Q E s:=by
  obtain⟨os,hos,hcs,hds⟩:=id hs
  unfold Builtin.Slice.sliceApplied Builtin.Slice.sliceFields
  refine wpAny_bind (wpAny_bind (wpAny_field hos hds (x:=vl) rfl (wpAny_bind (wpAny_field hos hds (x:=vu) rfl (wpAny_bind (wpAny_field hos hds (x:=.none) rfl (wpAny_pure ?_)))))))
  refine wpAny_bind (slicePart_none ?_)
  show wpAny _ _ (if ((1:Int) == 0)=true then _ else _) _ _ s
  rw[if_neg (by decide)]
  refine wpAny_bind (xgb pl (wpAny_bind (xgb pu (wpAny_bind (wpAny_pure ?_)))))
  show wpAny _ _ (match Builtin.Slice.sliceAdjust lo hi 1 (n:Int) with|(lo,hi)=>pure (lo,(1:Int),Builtin.Slice.slicePlaces lo hi 1)) _ _ s
  rw[xkp lo hi n]
  show wpAny _ _ (pure (((sIx n 0 lo:Nat):Int),(1:Int),Builtin.Slice.slicePlaces ((sIx n 0 lo:Nat):Int) ((sIx n n hi:Nat):Int) 1)) _ _ s
  rw[xk3]
  exact wpAny_pure h
theorem xm6 (xs:Array Value) (i k:Nat):((List.range k).filterMap fun (m:Nat)=>xs[((i:Int)+(m:Int)*1).toNat]?).toArray=((xs.toList.drop i).take k).toArray:=by
 have e:(fun (m:Nat)=>xs[((i:Int)+(m:Int)*1).toNat]?)=fun m=>xs[i+m]?:=by
  funext m
  have:((i:Int)+(m:Int)*1).toNat=i+m:=by omega
  rw[this]
 rw[e]
 have:=pick_run xs i k
 rw[List.filterMap_map] at this
 have e2:((fun x=>xs[x]?)∘fun x=>i+x)=fun m=>xs[i+m]?:=rfl
 rw[e2] at this
 rw[this]
theorem getItem_tuple_cut {t sl:Addr}{items:Array Value}{vl vu:Value}{lo hi:Option Int}{Q:Value->Shared->Prop} (ht:IsTup s.heap t items) (hs:s.heap.IsSliceOf sl vl vu .none) (pl:IsPart vl lo) (pu:IsPart vu hi)
    (hw:¬ (sIx items.size 0 lo=0/\sIx items.size items.size hi=items.size))
    (h:Q (.ref s.heap.objs.size) { s with heap:=s.heap.push { cls:=.type "tuple",data:=.seq ((items.toList.drop (sIx items.size 0 lo)).take (sIx items.size items.size hi-sIx items.size 0 lo)).toArray } })
    (hsz:items.size<=sizeLine):wpAny (model prog w) A (getItem (.ref t) (.ref sl)) Q E s:=by
  have htake:sizeOk (.seq ((items.toList.drop (sIx items.size 0 lo)).take (sIx items.size items.size hi-sIx items.size 0 lo)).toArray):=by
    show ((items.toList.drop (sIx items.size 0 lo)).take (sIx items.size items.size hi-sIx items.size 0 lo)).toArray.size<=sizeLine
    rw[List.size_toArray,List.length_take,List.length_drop,Array.length_toList]
    omega
  have hj:sIx items.size items.size hi<=items.size:=xq0 _ _ (Nat.le_refl _) hi
  obtain⟨os,hos,hcs,hds⟩:=id hs
  have hTs:s.TypeIs (.ref sl) "slice":=⟨os,hos,hcs⟩
  unfold getItem
  try with_reducible refine wpAny_holding ?_
  first|refine wpAny_bind (wpAny_pure ?_)|skip
  refine wpAny_bind (wpAny_sequenceKey ht.typeIs (by decide) ?_)
  refine wpAny_bind (wpAny_callSpecial?_slot (name:=Str.ofString "__getitem__") ht.typeIs PyProof.Rows.slot_tuple_getitem
    (wpAny_call_entry PyProof.Rows.slot_tuple_getitem ht.typeIs entry_tuple_getitem ?_ (args_tuple_getitem _ _)))
  show wpAny _ _ (Builtin.Tuple.tupleItemsOf (.ref t)>>=_) _ _ s
  refine wpAny_bind (tupleItemsOf_ ht ?_)
  refine wpAny_bind (wpAny_typeOf hTs ?_)
  rw[if_pos (by decide)]
  refine wpAny_bind (xfr hs pl pu ?_)
  have hno:¬ ((((sIx items.size 0 lo:Nat):Int) == 0&&(1:Int) == 1&&(sIx items.size items.size hi-sIx items.size 0 lo) == items.size)=true):=by
    intro q
    rw[Bool.and_eq_true,Bool.and_eq_true] at q
    have q1:((sIx items.size 0 lo:Nat):Int)=0:=eq_of_beq q.1.1
    have q2:sIx items.size items.size hi-sIx items.size 0 lo=items.size:=eq_of_beq q.2
    exact hw ⟨by omega,by omega⟩
  show wpAny _ _ (if (((sIx items.size 0 lo:Nat):Int) == 0&&(1:Int) == 1&&(sIx items.size items.size hi-sIx items.size 0 lo) == items.size)=true then _ else _) _ _ s
  rw[if_neg hno,xm6]
  first
    | exact wpAny_bind (m:=Builtin.Tuple.tupleExact _) (wpAny_newObj_type (wpAny_pure ⟨_,rfl,wpAny_pure h⟩) htake)
    | exact wpAny_bind (m:=Builtin.Tuple.tupleExact _) (wpAny_newObj_type (wpAny_bind (wpAny_pure (wpAny_pure ⟨_,rfl,wpAny_pure h⟩))) htake)
    | exact wpAny_bind (wpAny_bind (m:=Builtin.Tuple.tupleExact _) (wpAny_newObj_type (wpAny_pure (wpAny_pure ⟨_,rfl,wpAny_pure h⟩)) htake))
    | exact wpAny_bind (wpAny_bind (m:=Builtin.Tuple.tupleExact _) (wpAny_newObj_type (wpAny_pure ⟨_,rfl,wpAny_pure h⟩) htake))
end
end HT
namespace L2
open PySem PySem.Spec PyProof.Rows
variable {q0:Bool}
abbrev TO:=St->Hp->(Option Int->Hp->Prop)->Prop
def PO (X:Cx) (e:Option Expr) (t:TO):Prop :=
 ∀(pins:List (Addr × Obj)) (s:Shared) (σ:St) (H:Hp) (Q:Option Int->Hp->Prop),Inv X pins σ H s->t σ H Q ->
  wpAny (model X.prog X.w) X.A (evalPart e X.env) (fun u s'=>∃ o H',Inv X pins σ H' s'/\IsPart u o/\Q o H') X.xe s
def xoe:TO:=fun _ H Q=>Q none H
def xr3 (t:TE):TO:=fun σ H Q=>t σ H fun x H1=>∃ i,x=.int i/\Q (some i) H1
theorem xkg {ns:List Int}:∀{us:List Value},Vals (ns.map V.int) us->IntsAre us ns:=by
 induction ns with
 | nil=>intro us r; rw[List.map_nil] at r; cases r; exact .nil
 | cons n ns ih =>
  intro us r
  rw[List.map_cons] at r
  cases r with
  | cons r1 r2 =>
   obtain⟨t,e⟩:=r1
   subst e
   exact .cons n t (ih r2)
section
variable {X:Cx}{e:Expr}{te:TE}{lo hi:Option Expr}{tl th:TO}{pos p2:Pos}
theorem xfh:PO X none xoe:=by
 intro pins s σ H Q I h
 rw[evalPart_none]
 exact wpAny_pure ⟨none,H,I,.none,h⟩
theorem xdp (h:PE X e te):PO X (some e) (xr3 te):=by
 intro pins s σ H Q I hw
 rw[evalPart_some]
 refine thn (h pins s σ H _ I hw) fun u s1 ⟨x,H1,I1,r1,q1⟩=>?_
 obtain⟨i,rfl,q⟩:=q1
 obtain⟨t,rfl⟩:=r1
 exact⟨some i,H1,I1,.int i t,q⟩
def SlR (X:Cx) (r:V->Option Int->Option Int->Hp->VK->Prop):Prop :=
 ∀(pins:List (Addr × Obj)) (s:Shared) (σ:St) (H:Hp) (x:V) (v vl vu:Value) (lo hi:Option Int) (sl:Addr) (Q:VK),Inv X pins σ H s->RelV x v->s.heap.IsSliceOf sl vl vu .none->IsPart vl lo->IsPart vu hi->r x lo hi H Q ->
  ∃ T id,typeLookup (.type T) "__getitem__"=pure (some (.builtin id))/\s.TypeIs v T/\wpAny (model X.prog X.w) X.A (getItem v (.ref sl)) (EP X pins σ Q) X.xe s
def tSl (r:V->Option Int->Option Int->Hp->VK->Prop) (te:TE) (tl th:TO):TE:=fun σ H Q=>te σ H fun x H1=>tl σ H1 fun l H2=>th σ H2 fun u H3=>r x l u H3 Q
theorem xdu {r:V->Option Int->Option Int->Hp->VK->Prop} (hr:SlR X r) (he:PE X e te) (hl:PO X lo tl) (hu:PO X hi th):PE X (.Subscript e (.Slice lo hi none p2) pos) (tSl r te tl th):=by
 intro pins s σ H Q I h
 refine Subscript_ (thn (he pins s σ H _ I h) fun v s1 ⟨x,H1,I1,r1,q1⟩=>?_)
 refine wpAny_Slice (thn (hl pins s1 σ H1 _ I1 q1) fun vl s2 ⟨l,H2,I2,pl,q2⟩=>thn (hu pins s2 σ H2 _ I2 q2) fun vu s3 ⟨u,H3,I3,pu,q3⟩=>?_)
 rw[evalPart_none]
 refine wpAny_pure ?_
 have I4:Inv X pins σ H3 { s3 with heap:=s3.heap.push { cls:=.type "slice",data:=.fields #[vl,vu,.none] } }:=I3.kept (t':=s3.toks) fun b ob q=>Heap.get?_push_of_some _ q
 obtain⟨T,id,hT,ht,hg⟩:=hr pins { s3 with heap:=s3.heap.push { cls:=.type "slice",data:=.fields #[vl,vu,.none] } } σ H3 x v vl vu l u s3.heap.objs.size Q I4 r1 (Heap.IsSliceOf.new ..) pl pu q3
 show wpAny (model X.prog X.w) X.A (subscriptTail e (.Slice lo hi none p2) v (.ref s3.heap.objs.size)) (EP X pins σ Q) X.xe { s3 with heap:=s3.heap.push { cls:=.type "slice",data:=.fields #[vl,vu,.none] } }
 exact tail_any (ops:=[.ref s3.heap.objs.size,v]) ht hT hg (by with_unfolding_all rfl)
def cutV (xs:List V) (lo hi:Option Int):List V:=(xs.drop (HT.sIx xs.length 0 lo)).take (HT.sIx xs.length xs.length hi-HT.sIx xs.length 0 lo)
theorem xfm (xs:List V) (lo hi:Option Int):(cutV xs lo hi).length<=xs.length:=by
 unfold cutV
 rw[List.length_take,List.length_drop]
 omega
def rSlT (K:PySem.W.Frag):V->Option Int->Option Int->Hp->VK->Prop:=fun x lo hi H Q=>∃ a xs,x=.ref a/\SqT K H a xs /\
 ¬ (HT.sIx xs.length 0 lo=0/\HT.sIx xs.length xs.length hi=xs.length)/\∀ p,H p=none->Q (.ref p) (upd H p (.tup (cutV xs lo hi)))
theorem xp9:SlR X (rSlT X.K):=by
 intro pins s σ H x v vl vu lo hi sl Q I rx hs pl pu h
 obtain⟨a,xs,rfl,hx,hw,q⟩:=h
 cases rx
 obtain⟨its,r,ht,hz⟩:=I.tuple hx
 have hlen:its.toArray.size=xs.length:=by rw[List.size_toArray]; exact r.length.symm
 refine⟨"tuple",_,PyProof.Rows.slot_tuple_getitem.lookup,ht.typeIs,?_⟩
 refine HT.getItem_tuple_cut ht hs pl pu (by rw[hlen]; exact hw) ?_ (by rw[hlen]; exact hz)
 rw[hlen]
 refine⟨.ref s.heap.objs.size,_,I.laid (t':=s.toks) (o:=.tup (cutV xs lo hi)) (fun b ob q=>Heap.get?_push_of_some _ q) (Nat.le_refl _) ?_,rfl,q _ (I.hok.fresh (Nat.le_refl _))⟩
 exact⟨Nat.le_trans (xfm xs lo hi) hz,_,(r.drop (HT.sIx xs.length 0 lo)).take (HT.sIx xs.length xs.length hi-HT.sIx xs.length 0 lo),IsTup.new _ _⟩
def xkz (K:PySem.W.Frag):R2:=fun x y H Q=>∃ a b xs ys,x=.ref a/\y=.ref b/\SqT K H a xs/\SqT K H b ys/\xs≠[]/\xs.length+ys.length<=sizeLine /\
 (ys=[]->Q (.ref a) H)/\(ys≠[]->∀ p,H p=none->Q (.ref p) (upd H p (.tup (xs++ys))))
theorem Vals.nil_iff {xs:List V}{us:List Value} (r:Vals xs us):us=[]↔xs=[]:=by
 cases r with
 | nil=>simp
 | cons _ _=>simp
theorem xjw:OpR X (binaryOp .Add) (xkz X.K):=by
 intro pins s σ H x y v u Q I rx ry h
 obtain⟨a,b,xs,ys,rfl,rfl,ha,hb,hx,hz,q1,q2⟩:=h
 cases rx
 cases ry
 obtain⟨its,r1,p1,_⟩:=I.tuple ha
 obtain⟨its2,r2,p2,_⟩:=I.tuple hb
 refine HT.cat_tup p1 p2 (fun z=>hx (r1.nil_iff.mp z)) (fun z=>⟨.ref a,H,I,rfl,q1 (r2.nil_iff.mp z)⟩) (fun z=>?_) (by rw[<- r1.length,<- r2.length]; exact hz)
 refine⟨.ref s.heap.objs.size,_,I.laid (t':=s.toks) (o:=.tup (xs++ys)) (fun b ob q=>Heap.get?_push_of_some _ q) (Nat.le_refl _) ?_,rfl,q2 (fun w=>z (r2.nil_iff.mpr w)) _ (I.hok.fresh (Nat.le_refl _))⟩
 exact⟨by rw[List.length_append]; exact hz,_,r1.append r2,IsTup.new _ _⟩
end
def ixN (n:Nat) (i:Int):Option Nat:=if 0<=i then (if i<n then some i.toNat else none) else if -(n:Int)<=i then some (i+n).toNat else none
def atI {α:Type} (xs:List α) (i:Int):Option α:=(ixN xs.length i).bind fun j=>xs[j]?
theorem xod {n:Nat}{i:Int}{j:Nat} (h:ixN n i=some j):seqIndex? i n=some j/\j<n/\-(n:Int)<=i/\i<n:=by
 unfold ixN at h
 by_cases h0:0<=i
 .rw [if_pos h0] at h
  by_cases h1:i<n
  .rw [if_pos h1] at h
   have e:i.toNat=j:=Option.some.inj h
   exact⟨by rw[seqIndex_of h0 h1,e],by omega,by omega,h1⟩
  .rw [if_neg h1] at h; cases h
 .rw [if_neg h0] at h
  by_cases h1:-(n:Int)<=i
  .rw [if_pos h1] at h
   have e:(i+n).toNat=j:=Option.some.inj h
   exact⟨by rw[seqIndex_neg (by omega) h1,e],by omega,h1,by omega⟩
  .rw [if_neg h1] at h; cases h
theorem xgv {α:Type}{xs:List α}{i:Int}{v:α} (h:atI xs i=some v):∃ j,seqIndex? i xs.length=some j/\xs[j]?=some v/\j<xs.length/\-(xs.length:Int)<=i/\i<xs.length:=by
 unfold atI at h
 cases e:ixN xs.length i with
 | none=>rw[e] at h; cases h
 | some j =>
  rw[e] at h
  obtain⟨h1,h2,h3,h4⟩:=xod e
  exact⟨j,h1,h,h2,h3,h4⟩
theorem xcs {α:Type}{xs:List α}{j:Nat}{v:α} (h:xs[j]?=some v):atI xs (j:Int)=some v:=by
 have hj:j<xs.length:=(List.getElem?_eq_some_iff.mp h).1
 have e:ixN xs.length (j:Int)=some j:=by
  unfold ixN
  rw[if_pos (by omega),if_pos (by omega)]; simp
 unfold atI; rw[e]; exact h
def xor (b:Expr):Prop:=∀ o i,subscripted b false o i=operate [o,i] (getItem o i)
def IxR (X:Cx) (r:R2):Prop :=
 ∀(value slice:Expr) (pins:List (Addr × Obj)) (s:Shared) (σ:St) (H:Hp) (x y:V) (v u:Value) (Q:VK),Inv X pins σ H s->RelV x v->RelV y u->r x y H Q ->
  subscripted slice false v u=operate [v,u] (getItem v u)->wpAny (model X.prog X.w) X.A (subscriptTail value slice v u) (EP X pins σ Q) X.xe s
def MtR (X:Cx) (id:String) (r:V->List V->Hp->VK->Prop):Prop :=
 ∀(pins:List (Addr × Obj)) (s:Shared) (σ:St) (H:Hp) (x:V) (xs:List V) (v:Value) (us:List Value) (Q:VK),Inv X pins σ H s->RelV x v->Vals xs us->r x xs H Q ->
  wpAny (model X.prog X.w) X.A (call (.builtin id) (v::us)) (EP X pins σ Q) X.xe s
section
variable {X:Cx}{a b:Expr}{ta tb:TE}{pos:Pos}
theorem xbj {r:R2} (hr:IxR X r) (ha:PE X a ta) (hb:PE X b tb) (hs:xor b):PE X (.Subscript a b pos) (tOp r ta tb):=by
 intro pins s σ H Q I h
 exact Subscript_ (binT ha hb I h fun v u s2 x y H2 I2 rx ry q=>hr a b pins s2 σ H2 x y v u Q I2 rx ry q (hs _ _))
def rIxL (K:PySem.W.Frag):R2:=fun x y H Q=>∃ p xs i v,x=.ref p/\y=.int i/\SqL K H p xs/\atI xs i=some v/\Q v H
def rIxT (K:PySem.W.Frag):R2:=fun x y H Q=>∃ p xs i v,x=.ref p/\y=.int i/\SqT K H p xs/\atI xs i=some v/\Q v H
def rIxS:R2:=fun x y H Q=>∃ z i c,x=.str z/\y=.int i/\z.length<=sizeLine/\atI z.cps.toList i=some c/\Q (.str ⟨#[c]⟩) H
theorem xbs:IxR X (rIxL X.K):=by
 intro value slice pins s σ H x y v u Q I rx ry h hs
 obtain⟨p,xs,i,z,rfl,rfl,hq,he,q⟩:=h
 cases rx
 obtain⟨t,rfl⟩:=ry
 obtain⟨its,r,pl,hz⟩:=I.list hq
 obtain⟨j,h1,h2,h3,h4,h5⟩:=xgv he
 obtain⟨w,ew,rw'⟩:=r.get h2
 have hl:=r.length
 have hn:=xee
 have fin:EP X pins σ Q w s:=⟨z,H,I,rw',q⟩
 by_cases h0:0<=i
 .have hj:i.toNat=j:=by
   rw[seqIndex_of h0 h5] at h1
   exact Option.some.inj h1
  exact item_listR pl.isList h0 (by omega) (by rw[hj]; simpa using ew) fin hs
 .have hj:(i+(its.toArray.size:Int)).toNat=j:=by
   rw[seqIndex_neg (by omega) h4] at h1
   rw[List.size_toArray,<- hl]
   exact Option.some.inj h1
  exact subscriptTail_builtinR (x:=w) pl.isList.typeIs slot_list_getitem.lookup
   (wpAny_getItem_list_neg (Q:=fun r s'=>r=w/\EP X pins σ Q r s') pl.isList (by omega) (by rw[List.size_toArray]<;>omega) (by omega) (by rw[hj]; simpa using ew) ⟨rfl,fin⟩) hs
theorem xdi:IxR X (rIxT X.K):=by
 intro value slice pins s σ H x y v u Q I rx ry h hs
 obtain⟨p,xs,i,z,rfl,rfl,hq,he,q⟩:=h
 cases rx
 obtain⟨t,rfl⟩:=ry
 obtain⟨its,r,pl,hz⟩:=I.tuple hq
 obtain⟨j,h1,h2,h3,h4,h5⟩:=xgv he
 obtain⟨w,ew,rw'⟩:=r.get h2
 have hl:=r.length
 have hn:=xee
 have fin:EP X pins σ Q w s:=⟨z,H,I,rw',q⟩
 exact subscriptTail_builtinR (x:=w) pl.typeIs slot_tuple_getitem.lookup
  (getItem_tuple (j:=j) (Q:=fun r s'=>r=w/\EP X pins σ Q r s') pl (by omega) (by omega) (by rw[List.size_toArray,<- hl]; exact h1) (by simpa using ew) ⟨rfl,fin⟩) hs
theorem xqg:IxR X rIxS:=by
 intro value slice pins s σ H x y v u Q I rx ry h hs
 obtain⟨z,i,c,rfl,rfl,hz,he,q⟩:=h
 obtain⟨t,rfl⟩:=rx
 obtain⟨t',rfl⟩:=ry
 obtain⟨j,h1,h2,h3,h4,h5⟩:=xgv he
 have hl:z.cps.toList.length=z.length:=by simp[Str.length]
 rw[hl] at h1 h4 h5
 have hn:=xee
 exact tail_any (typeIs_str s z t) slot_str_getitem.lookup (getItem_str (c:=c) (by
  have e1:decide (i < -(2 ^ 63:Int))=false:=decide_eq_false (by omega)
  have e2:decide (i>=2 ^ 63)=false:=decide_eq_false (by omega)
  rw[e1,e2,Bool.or_false]) (by rw[h1]; simpa using h2) ⟨.str ⟨#[c]⟩,H,I.tok _,⟨_,rfl⟩,q⟩) hs
theorem Inv.lst {pins:List (Addr × Obj)}{σ:St}{H:Hp}{s:Shared}{p:Addr}{xs:List V} (I:Inv X pins σ H s) (h:H p=some (.lst xs)) :
    ∃(its:List Value) (n:Nat),Vals xs its/\s.heap.get? p=some { cls:=.type "list",data:=.seq its.toArray n }/\xs.length<=sizeLine:=by
  obtain⟨z,its,n,r,e⟩:=I.hok p _ h
  exact⟨its,n,r,e,z⟩
theorem xii (lo hi:Option Int) (n:Nat):(sliceBounds lo hi none n).1=((HT.sIx n 0 lo:Nat):Int)/\(sliceBounds lo hi none n).2.1=((HT.sIx n n hi:Nat):Int)/\(sliceBounds lo hi none n).2.2=1:=by
 refine⟨?_,?_,rfl⟩
 .cases lo with
  | none=>simp[sliceBounds,HT.sIx]
  | some i =>
   simp only[sliceBounds,HT.sIx,Option.getD_none,show (1:Int)>0 by decide,if_true]
   by_cases h:i<0
   .simp only [h,if_true]<;>omega
   .simp only [h,if_false]<;>omega
 .cases hi with
  | none=>simp[sliceBounds,HT.sIx]
  | some i =>
   simp only[sliceBounds,HT.sIx,Option.getD_none,show (1:Int)>0 by decide,if_true]
   by_cases h:i<0
   .simp only [h,if_true]<;>omega
   .simp only [h,if_false]<;>omega
theorem xhm (its:List Value) (lo hi:Option Int):slicePick its.toArray lo hi none=((its.drop (HT.sIx its.length 0 lo)).take (HT.sIx its.length its.length hi-HT.sIx its.length 0 lo)).toArray:=by
 obtain⟨h1,h2,h3⟩:=xii lo hi its.toArray.size
 unfold slicePick
 rw[h1,h2,h3]
 simp only[sliceRange_one,pick_run,List.size_toArray]<;>rfl
def rSlL (K:PySem.W.Frag):V->Option Int->Option Int->Hp->VK->Prop:=fun x lo hi H Q=>∃ a xs,x=.ref a/\SqL K H a xs/\∀ p,H p=none->Q (.ref p) (upd H p (.lst (cutV xs lo hi)))
theorem xe7:SlR X (rSlL X.K):=by
 intro pins s σ H x v vl vu lo hi sl Q I rx hs pl pu h
 obtain⟨a,xs,rfl,hx,q⟩:=h
 cases rx
 obtain⟨its,r,ht,hz⟩:=I.list hx
 have hlen:=r.length
 refine⟨"list",_,slot_list_getitem.lookup,ht.isList.typeIs,?_⟩
 refine wpAny_getItem_list_slice ht.isList hs pl pu .none (by simp) ?_ (by rw[List.size_toArray]<;>omega)
 rw[xhm,<- hlen]
 refine⟨.ref s.heap.objs.size,_,I.laid (t':=s.toks) (o:=.lst (cutV xs lo hi)) (fun b ob q=>Heap.get?_push_of_some _ q) (Nat.le_refl _) ?_,rfl,q _ (I.hok.fresh (Nat.le_refl _))⟩
 exact⟨Nat.le_trans (xfm xs lo hi) hz,_,0,(r.drop (HT.sIx xs.length 0 lo)).take (HT.sIx xs.length xs.length hi-HT.sIx xs.length 0 lo),Heap.get?_push_size _ rfl⟩
def xd3:V->Bool
 | .non=>true
 | .bl _=>true
 | .int _=>true
 | .str _=>true
 | _=>false
def eqV:V->V->Bool
 | .non,.non=>true
 | .bl a,.bl b=>a == b
 | .bl a,.int b=>(if a then 1 else 0) == b
 | .int a,.bl b=>a == (if b then 1 else 0)
 | .int a,.int b=>a == b
 | .str a,.str b=>a == b
 | _,_=>false
theorem xpq {A:Around}{s:Shared}{y x:V}{u v:Value} (ry:RelV y u) (rx:RelV x v) (fy:xd3 y=true) (fx:xd3 x=true):SeqAt.EqAt A s u v (eqV y x):=by
 cases y with
 | non =>
  cases ry
  cases x with
  | non=>cases rx; exact SeqAt.EqAt.same _
  | bl b=>cases rx; exact SeqAt.EqAt.none_bool b
  | int b=>obtain⟨t,rfl⟩:=rx; exact SeqAt.EqAt.none_int b t
  | str b=>obtain⟨t,rfl⟩:=rx; exact SeqAt.EqAt.none_str b t
  | _=>exact absurd (show false=true from fx) Bool.false_ne_true
 | bl a =>
  cases ry
  cases x with
  | non=>cases rx; exact SeqAt.EqAt.bool_none a
  | bl b=>cases rx; exact SeqAt.EqAt.bool_bool a b
  | int b=>obtain⟨t,rfl⟩:=rx; exact SeqAt.EqAt.bool_int a b t
  | str b=>obtain⟨t,rfl⟩:=rx; exact SeqAt.EqAt.bool_str a b t
  | _=>exact absurd (show false=true from fx) Bool.false_ne_true
 | int a =>
  obtain⟨t',rfl⟩:=ry
  cases x with
  | non=>cases rx; exact SeqAt.EqAt.int_none a t'
  | bl b=>cases rx; exact SeqAt.EqAt.int_bool a t' b
  | int b=>obtain⟨t,rfl⟩:=rx; exact SeqAt.EqAt.int_int a t' b t
  | str b=>obtain⟨t,rfl⟩:=rx; exact SeqAt.EqAt.int_str a t' b t
  | _=>exact absurd (show false=true from fx) Bool.false_ne_true
 | str a =>
  obtain⟨t',rfl⟩:=ry
  cases x with
  | non=>cases rx; exact SeqAt.EqAt.str_none a t'
  | bl b=>cases rx; exact SeqAt.EqAt.str_bool a t' b
  | int b=>obtain⟨t,rfl⟩:=rx; exact SeqAt.EqAt.str_int a t' b t
  | str b=>obtain⟨t,rfl⟩:=rx; exact SeqAt.EqAt.str_str a t' b t
  | _=>exact absurd (show false=true from fx) Bool.false_ne_true
 | _=>exact absurd (show false=true from fy) Bool.false_ne_true
def eqU (x:V) (u:Value):Bool:=match u with
 | .none=>eqV .non x
 | .bool b=>eqV (.bl b) x
 | .int i _=>eqV (.int i) x
 | .str z _=>eqV (.str z) x
 | _=>false
theorem xlu {x y:V}{u:Value} (r:RelV y u) (f:xd3 y=true):eqU x u=eqV y x:=by
 cases y with
 | non=>cases r; rfl
 | bl b=>cases r; rfl
 | int i=>obtain⟨t,rfl⟩:=r; rfl
 | str z=>obtain⟨t,rfl⟩:=r; rfl
 | _=>exact absurd (show false=true from f) Bool.false_ne_true
theorem xgm {x:V}:∀{xs:List V}{us:List Value},Vals xs us->xs.all xd3=true->us.any (eqU x)=xs.any fun y=>eqV y x
 | _,_,.nil,_=>rfl
 | y::xs,u::us,.cons r t,f=>by
  rw[List.all_cons,Bool.and_eq_true] at f
  rw[List.any_cons,List.any_cons,xlu r f.1,xgm t f.2]
theorem xft {A:Around}{s:Shared}{x:V}{v:Value} (rx:RelV x v) (fx:xd3 x=true):∀{xs:List V}{us:List Value},Vals xs us->xs.all xd3=true->∀ u∈us,SeqAt.EqAt A s u v (eqU x u)
 | _,_,.nil,_=>fun u hu=>by cases hu
 | y::xs,u::us,.cons r t,f=>fun u' hu=>by
  rw[List.all_cons,Bool.and_eq_true] at f
  rcases List.mem_cons.mp hu with rfl|hu
  .rw [xlu r f.1]; exact xpq r rx f.1 fx
  .exact xft rx fx t f.2 u' hu
def inV (x:V) (xs:List V):Bool:=xs.any fun y=>eqV y x
def rIn (K:PySem.W.Frag) (neg:Bool):R2:=fun x y H Q=>∃ p xs,y=.ref p/\(SqL K H p xs\/SqT K H p xs)/\xd3 x=true/\xs.all xd3=true/\Q (.bl (if neg then !inV x xs else inV x xs)) H
theorem xg2:OpR X (compareOp .In) (rIn X.K false):=by
 intro pins s σ H x y v u Q I rx ry h
 obtain⟨p,xs,rfl,hq,fx,fs,q⟩:=h
 cases ry
 rcases hq with hq|hq
 .obtain ⟨its,r,pl,hz⟩:=I.list hq
  refine SeqAt.in_listAt (eqU x) pl.isList (fun w hw=>xft rx fx r fs w (by simpa using hw)) ⟨.bl _,H,I,rfl,?_⟩
  rw[show its.toArray.any (eqU x)=its.any (eqU x) by simp,xgm r fs]
  exact q
 .obtain ⟨its,r,pl,hz⟩:=I.tuple hq
  refine SeqAt.in_tupleAt (eqU x) pl (fun w hw=>xft rx fx r fs w (by simpa using hw)) ⟨.bl _,H,I,rfl,?_⟩
  rw[show its.toArray.any (eqU x)=its.any (eqU x) by simp,xgm r fs]
  exact q
theorem xbd:xb4 X (.builtin "len") (fun xs H Q=>∃ p ys,xs=[.ref p]/\(SqL X.K H p ys\/SqT X.K H p ys)/\Q (.int ys.length) H):=by
 intro pins s σ H xs us Q I r h
 obtain⟨p,ys,rfl,hq,q⟩:=h
 obtain⟨u,rfl,rx⟩:=xcm r
 cases rx
 have hn:=xee
 rcases hq with hq|hq
 .obtain ⟨its,r',pl,hz⟩:=I.list hq
  have hlen:=r'.length
  exact Calls.call_len_list pl.isList (by simp only[List.size_toArray]<;>omega) ⟨.int ys.length,H,I.tok _,⟨s.toks+1,by rw[List.size_toArray,hlen]⟩,q⟩
 .obtain ⟨its,r',pl,hz⟩:=I.tuple hq
  have hlen:=r'.length
  exact len_tuple pl (by simp only[List.size_toArray]<;>omega) ⟨.int ys.length,H,I.tok _,⟨s.toks+1,by rw[List.size_toArray,hlen]⟩,q⟩
theorem xh7:xb4 X (.builtin "len") (fun xs H Q=>∃ z,xs=[.str z]/\z.length<=sizeLine/\Q (.int z.length) H):=by
 intro pins s σ H xs us Q I r h
 obtain⟨z,rfl,hz,q⟩:=h
 obtain⟨u,rfl,t,rfl⟩:=xcm r
 have hn:=xee
 exact len_str (by omega) ⟨.int z.length,H,I.tok _,⟨_,rfl⟩,q⟩
theorem xe4:xb4 X (.type "list") (fun xs H Q=>∃ p ys,xs=[.ref p]/\(SqL X.K H p ys\/SqT X.K H p ys)/\∀ l,H l=none->Q (.ref l) (upd H l (.lst ys))):=by
  intro pins s σ H xs us Q I r h
  obtain⟨p,ys,rfl,hq,q⟩:=h
  obtain⟨u,rfl,rx⟩:=xcm r
  cases rx
  have fin:∀(its:List Value),Vals ys its->ys.length<=sizeLine->∀(h':Heap) (c':Nat),(∀ b o',s.heap.get? b=some o'->h'.get? b=some o') ->
      h'.get? s.heap.objs.size=some { cls:=.type "list",dict:=none,data:=.seq its.toArray c',slots:=#[] }->EP X pins σ Q (.ref s.heap.objs.size) { s with heap:=h' }:=fun its r' hz h' c' kp e =>
    ⟨.ref s.heap.objs.size,_,I.laid (t':=s.toks) kp (Nat.le_refl _) (show xaw X.prog X.w _ h' _ (.lst ys) from ⟨hz,its,c',r',e⟩),rfl,q _ (I.hok.fresh (Nat.le_refl _))⟩
  rcases hq with hq|hq
  . obtain⟨its,r',pl,hz⟩:=I.list hq
    have hlen:=r'.length
    obtain⟨o,ho,hc,n,hd⟩:=pl.isList
    exact call_list_seq p (.inl rfl) ho hc hd (fun h' c' kp e=>fin its r' hz h' c' kp e) (by simp only[List.size_toArray]<;>omega)
  . obtain⟨its,r',pl,hz⟩:=I.tuple hq
    have hlen:=r'.length
    obtain⟨o,ho,hc,n,hd⟩:=pl
    exact call_list_seq p (.inr rfl) ho hc hd (fun h' c' kp e=>fin its r' hz h' c' kp e) (by simp only[List.size_toArray]<;>omega)
def tyV (K:PySem.W.Frag) (T:String) (x:V) (H:Hp):Prop:=match x with
  | .str _=>T="str"
  | .int _=>T="int"
  | .ref p=>(T="list"/\∃ xs,SqL K H p xs)\/(T="tuple"/\∃ o,K.lookup p=some o/\o.cls=.type "tuple"/\o.dict=none) \/
      (T="dict"/\((∃ kvs,H p=some (.dK kvs))\/∃ kvs,H p=some (.dT kvs)))\/(T="set"/\∃ S n,H p=some (.set S n))
  | _=>False
theorem xpo {pins:List (Addr × Obj)}{σ:St}{H:Hp}{s:Shared}{T:String}{x:V}{v:Value} (I:Inv X pins σ H s) (r:RelV x v) (ty:tyV X.K T x H) :
    s.TypeIs v T/\∀ a,v=.ref a->∃ ob,s.heap.get? a=some ob/\ob.dict=none:=by
  cases x with
  | str z =>
    obtain⟨t,rfl⟩:=r
    cases (show T="str" from ty)
    exact⟨typeIs_str s z t,fun _ e=>nomatch e⟩
  | int i =>
    obtain⟨t,rfl⟩:=r
    cases (show T="int" from ty)
    exact⟨typeIs_int s i t,fun _ e=>nomatch e⟩
  | ref p =>
    cases r
    rcases ty with⟨rfl,xs,hq⟩|⟨rfl,o,hk,hc,hd⟩|⟨rfl,hk⟩|⟨rfl,S,n,hk⟩
    . obtain⟨its,_,pl,_⟩:=I.list hq
      refine⟨pl.isList.typeIs,fun a e=>?_⟩
      cases e
      obtain⟨o,n,e,c,hd,_⟩:=pl
      exact⟨o,e,hd⟩
    . refine⟨⟨o,I.kIn p o hk,hc⟩,fun a e=>?_⟩
      cases e
      exact⟨o,I.kIn _ o hk,hd⟩
    . have z:∃ o,s.heap.get? p=some o/\o.ExactDict:=by
        rcases hk with⟨kvs,hk⟩|⟨kvs,hk⟩
        . obtain⟨_,_,_,_,o,_,_,e,ex,_⟩:=I.hok p _ hk
          exact⟨o,e,ex⟩
        . obtain⟨_,_,_,_,o,_,_,e,ex,_⟩:=I.hok p _ hk
          exact⟨o,e,ex⟩
      obtain⟨o,e,ex⟩:=z
      refine⟨⟨o,e,ex.1⟩,fun a e2=>?_⟩
      cases e2
      exact⟨o,e,ex.2.1⟩
    . obtain⟨o,_,_,_,e,ex,_⟩:=I.hok p _ hk
      refine⟨⟨o,e,ex.1⟩,fun a e2=>?_⟩
      cases e2
      exact⟨o,e,ex.2.1⟩
  | _=>exact False.elim ty
def tBM (K:PySem.W.Frag) (T:String) (r:V->List V->Hp->VK->Prop) (to:TE) (t:TA):TE:=fun σ H Q=>to σ H fun x H1=>tyV K T x H1/\t σ H1 fun xs H2=>r x xs H2 Q
variable {o e:Expr}{es:List Expr}{to:TE}{t:TA}{name:Str}{apos cpos:Pos}{T id:String}{r:V->List V->Hp->VK->Prop}
theorem xfb (pa:PlainAttrs T) (slot:Slot T name id) (hty:typeOf (.builtin id)=pure (.type "method_descriptor")) (hm:MtR X id r) (ho:PE X o to) (ha:PA X (e::es) t)
    (hbase:attributeBase o name X.env (eval o X.env)=eval o X.env:=by rfl)
    (hfew:((backTo cpos (starEach (e::es) X.env)).all (fun x=>!x.1)&&(backToKw cpos (keywordEach [] X.env)).all (fun x=>x.1.isSome)
      && decide ((e::es).length+([]:List Keyword).length+(if ([]:List Keyword).isEmpty then 0 else 1)<30))=true:=by rfl)
    (hline:(apos.endLine == cpos.line)=true:=by rfl) (hs:starEach (e::es) X.env=(false,eval e X.env)::starEach es X.env:=by rfl) (hplain:(backTo cpos (starEach es X.env)).any (·.1)=false:=by rfl) :
    PE X (.Call (.Attribute o name apos) (e::es) [] cpos) (tBM X.K T r to t):=by
  intro pins s σ H Q I h
  refine wpAny_Call_method_late hbase hfew hline rfl (thn (ho pins s σ H _ I h) fun v s1 ⟨x,H1,I1,r1,ty,q1⟩=>?_)
  obtain⟨h1,h2⟩:=xpo I1 r1 ty
  refine⟨T,id,pa,slot,hty,h1,h2,?_⟩
  have hA:=ha cpos pins s1 σ H1 _ I1 q1
  rw[hs] at hA ⊢
  refine Calls.callWith_builtin (by show (false||(backTo cpos (starEach es X.env)).any (·.1))=false; rw[hplain]<;>rfl) (Calls.evalArgs_plain ?_)
  exact thn hA fun us s2 ⟨vs,H2,I2,r2,q2⟩=>hm pins s2 σ H2 x vs v us Q I2 r1 r2 q2
end
def MtM (X:Cx) (id:String) (r:V->List V->Hp->VK->Prop):Prop :=
 ∀(pins:List (Addr × Obj)) (s:Shared) (σ:St) (H:Hp) (x:V) (xs:List V) (v:Value) (us:List Value) (Q:VK),Inv X pins σ H s->RelV x v->Vals xs us->r x xs H Q ->
  wpAny (model X.prog X.w) X.A (call (.builtin id) (v::us)) (EP X pins σ Q) X.xe s
theorem Vals.one:∀{x:V}{us:List Value},Vals [x] us->∃ u,us=[u]/\RelV x u
 | _,_,.cons r .nil=>⟨_,rfl,r⟩
theorem Vals.eraseIdx:∀{xs:List V}{us:List Value} (i:Nat),Vals xs us->Vals (xs.eraseIdx i) (us.eraseIdx i)
 | _,_,_,.nil=>.nil
 | _,_,0,.cons _ t=>t
 | _,_,i+1,.cons r t=>.cons r (Vals.eraseIdx i t)
theorem xhf {α:Type}:∀(l:List α) (i:Nat),(l.eraseIdx i).length<=l.length
 | [],_=>Nat.le_refl _
 | _::_,0=>Nat.le_succ _
 | _::r,i+1=>Nat.succ_le_succ (xhf r i)
section
variable {X:Cx}{pins:List (Addr × Obj)}{σ:St}{H:Hp}{s:Shared}{l b:Addr}{xs ys zs:List V}
theorem Inv.lset {its its':List Value}{n:Nat}{f:Array Value->Array Value}{t':Nat} (I:Inv X pins σ H s) (hH:H l=some (.lst xs))
    (e:s.heap.get? l=some { cls:=.type "list",data:=.seq its.toArray n }) (hf:f its.toArray=its'.toArray) (hv:Vals ys its') (hz:ys.length<=sizeLine) :
    Inv X pins σ (upd H l (.lst ys)) { s with heap:=s.heap.update l (Obj.mapSeq f),toks:=t' }:=by
  have q:=PySem.IsL.update e f
  rw[hf] at q
  refine I.write (x:=l) (e:=l) (by rw[hH]; exact trivial) (.inl rfl) (fun b' u hb hu=>(Heap.get?_update_other s.heap (Obj.mapSeq f) (Ne.symm hb)).trans hu) ⟨_,q⟩ ?_
  exact⟨hz,its',_,hv,q⟩
theorem Inv.lnew {its:List Value}{t':Nat} (I:Inv X pins σ H s) (hv:Vals ys its) (hz:ys.length<=sizeLine) :
    Inv X pins σ (upd H s.heap.objs.size (.lst ys)) { s with heap:=s.heap.push { cls:=.type "list",data:=.seq its.toArray },toks:=t' } :=
  I.laid (fun _ _ q=>Heap.get?_push_of_some _ q) (Nat.le_refl _) ⟨hz,its,0,hv,Heap.get?_push_size _ rfl⟩
theorem Inv.fresh (I:Inv X pins σ H s):H s.heap.objs.size=none:=I.hok.fresh (Nat.le_refl _)
theorem Inv.lstM (I:Inv X pins σ H s) (hH:H l=some (.lst xs)):xs.length<=sizeLine/\∃(its:List Value) (n:Nat),Vals xs its/\xs.length=its.length/\s.heap.get? l=some { cls:=.type "list",data:=.seq its.toArray n }:=by
 obtain⟨z,its,n,r,e⟩:=I.hok l _ hH
 exact⟨z,its,n,r,r.length,e⟩
end
section
variable {X:Cx}
def xon:V->List V->Hp->VK->Prop:=fun x vs H Q=>∃ l xs y,x=.ref l/\vs=[y]/\H l=some (.lst xs)/\xs.length<sizeLine/\Q .non (upd H l (.lst (xs++[y])))
theorem xdg:MtM X "list.append" xon:=by
 intro pins s σ H x vs v us Q I rx rv h
 obtain⟨l,xs,y,rfl,rfl,hH,hz,q⟩:=h
 cases rx
 obtain⟨u,rfl,ru⟩:=rv.one
 obtain⟨z,its,n,r,hl,e⟩:=I.lstM hH
 refine call_meets F.slot_list_append ⟨_,e,rfl⟩ F.entry_list_append (F.args_list_append_2 _ _) (PySem.list_append l its.toArray n u (by rw[List.size_toArray]; omega)) ⟨e,?_⟩
 refine⟨.non,_,I.lset (its':=its++[u]) hH e (by simp) (r.append (.cons ru .nil)) ?_,rfl,q⟩
 rw[List.length_append,List.length_singleton]
 omega
def xpv:V->List V->Hp->VK->Prop:=fun x vs H Q=>∃ l xs i k y,x=.ref l/\vs=[.int i]/\H l=some (.lst xs)/\-(2 ^ 63)<=i/\i<2 ^ 63/\seqIndex? i xs.length=some k/\xs[k]?=some y/\Q y (upd H l (.lst (xs.eraseIdx k)))
theorem xir:MtM X "list.pop" xpv:=by
 intro pins s σ H x vs v us Q I rx rv h
 obtain⟨l,xs,i,k,y,rfl,rfl,hH,h1,h2,hk,hy,q⟩:=h
 cases rx
 obtain⟨u,rfl,ru⟩:=rv.one
 obtain⟨t,rfl⟩:=ru
 obtain⟨z,its,n,r,hl,e⟩:=I.lstM hH
 obtain⟨w,hw,rw'⟩:=r.get hy
 refine call_meets F.slot_list_pop ⟨_,e,rfl⟩ F.entry_list_pop (F.args_list_pop_2 _ _)
  (MeetsSeq.list_pop_at l its.toArray n i t k w (fitsIndex_both h1 h2) (by rw[List.size_toArray,<- hl]; exact hk) (by rw[<- Array.getElem?_toList]; exact hw) (by rw[List.size_toArray]; omega)) ⟨e,?_⟩
 refine⟨y,_,I.lset (its':=its.eraseIdx k) hH e ?_ (r.eraseIdx k) ?_,rw',q⟩
 .show its.toArray.eraseIdxIfInBounds k=(its.eraseIdx k).toArray
  rw[List.eraseIdxIfInBounds_toArray]
 .have:=xhf xs k
  omega
def rCat:R2:=fun x y H Q=>∃ l b xs zs,x=.ref l/\y=.ref b/\H l=some (.lst xs)/\H b=some (.lst zs)/\xs.length+zs.length<=sizeLine/\∀ p,H p=none->Q (.ref p) (upd H p (.lst (xs++zs)))
theorem xpg:OpR X (binaryOp .Add) rCat:=by
 intro pins s σ H x y v u Q I rx ry h
 obtain⟨l,b,xs,zs,rfl,rfl,hH,hB,hz,q⟩:=h
 cases rx
 cases ry
 obtain⟨z,its,n,r,hl,e⟩:=I.lstM hH
 obtain⟨z2,its2,n2,r2,hl2,e2⟩:=I.lstM hB
 refine PySem.P.add_list e e2 ?_ (by rw[List.size_toArray,List.size_toArray]; omega)
 have ea:its.toArray++its2.toArray=(its++its2).toArray:=by simp
 rw[ea]
 exact⟨.ref _,_,I.lnew (t':=s.toks) (r.append r2) (by rw[List.length_append]; omega),rfl,q _ I.fresh⟩
end
section
variable {κ:Type} [DecidableEq κ]
def valV (kvs:List (κ × V)) (k:κ):Option V:=(kvs.find? fun kv=>decide (kv.1=k)).map (·.2)
def putK (kvs:List (κ × V)) (k:κ) (v:V):List (κ × V) :=
 if (kvs.any fun kv=>decide (kv.1=k))=true then kvs.map (fun kv=>if kv.1=k then (kv.1,v) else kv) else kvs++[(k,v)]
def xdm (kvs:List (κ × V)) (k:κ):List (κ × V):=kvs.filter fun kv=>decide (kv.1≠k)
theorem xa9 {p:κ × V}{r:List (κ × V)}{k:κ} (e:p.1=k):valV (p::r) k=some p.2:=by simp[valV,List.find?_cons,e]
theorem xa7 {p:κ × V}{r:List (κ × V)}{k:κ} (e:¬ p.1=k):valV (p::r) k=valV r k:=by simp[valV,List.find?_cons,e]
theorem xc3 (k:κ):∀ kvs:List (κ × V),(kvs.any fun kv=>decide (kv.1=k))=(valV kvs k).isSome
 | []=>rfl
 | p::r=>by
  rw[List.any_cons]
  by_cases e:p.1=k
  .simp only [xa9 e,decide_eq_true e,Bool.true_or,Option.isSome_some]
  .rw [xa7 e,decide_eq_false e,Bool.false_or]; exact xc3 k r
theorem xil (k j:κ) (y:V):∀ kvs:List (κ × V),valV (kvs.map fun kv=>if kv.1=k then (kv.1,y) else kv) j=(valV kvs j).map fun x=>if j=k then y else x
 | []=>rfl
 | p::r=>by
  have ih:=xil k j y r
  rw[List.map_cons]
  by_cases h:p.1=k
  .rw [if_pos h]
   by_cases e:p.1=j
   .rw [xa9 (p:=(p.1,y)) e,xa9 e,Option.map_some,if_pos (e.symm.trans h)]
   .rw [xa7 (p:=(p.1,y)) e,xa7 e,ih]
  .rw [if_neg h]
   by_cases e:p.1=j
   .rw [xa9 (p:=p) e,xa9 e,Option.map_some,if_neg (fun z=>h (e.trans z))]
   .rw [xa7 (p:=p) e,xa7 e,ih]
theorem xgz (k j:κ) (y:V):∀ kvs:List (κ × V),valV kvs k=none->valV (kvs++[(k,y)]) j=if j=k then some y else valV kvs j
 | [],_=>by
  by_cases e:k=j
  .rw [if_pos e.symm]; exact xa9 (p:=(k,y)) e
  .rw [if_neg (fun z=>e z.symm)]; exact xa7 (p:=(k,y)) e
 | p::r,hn=>by
  rw[List.cons_append]
  have hk:¬ p.1=k:=fun z=>by rw[xa9 z] at hn; cases hn
  rw[xa7 hk] at hn
  have ih:=xgz k j y r hn
  by_cases e:p.1=j
  .rw [xa9 e,xa9 e,if_neg (fun z=>hk (e.trans z))]
  .rw [xa7 e,xa7 e,ih]
theorem xcb (kvs:List (κ × V)) (k j:κ) (y:V):valV (putK kvs k y) j=if j=k then some y else valV kvs j:=by
 unfold putK
 by_cases a:(kvs.any fun kv=>decide (kv.1=k))=true
 .rw [if_pos a,xil]
  rw[xc3] at a
  by_cases e:j=k
  .obtain ⟨x,hx⟩:=Option.isSome_iff_exists.mp a
   rw[if_pos e,e,hx,Option.map_some,if_pos rfl]
  .rw [if_neg e]
   cases valV kvs j with
   | none=>rfl
   | some x=>rw[Option.map_some,if_neg e]
 .rw [if_neg a]
  refine xgz k j y kvs ?_
  rw[xc3] at a
  cases q:valV kvs k with
  | none=>rfl
  | some x=>rw[q] at a; exact (a rfl).elim
theorem xbl (kvs:List (κ × V)) (k:κ) (v:V):(putK kvs k v).length<=kvs.length+1:=by
 unfold putK
 split
 .rw [List.length_map]; omega
 .rw [List.length_append,List.length_cons,List.length_nil]; omega
theorem xcf {kvs:List (κ × V)}{k:κ} (v:V) (h:valV kvs k=none):putK kvs k v=kvs++[(k,v)]:=by
 unfold putK
 rw[xc3,h]
 exact if_neg (by decide)
theorem RelO.isSome_eq {o:Option V}{u:Option Value} (r:RelO o u):o.isSome=u.isSome:=by
 cases o with
 | none=>cases u with
  | none=>rfl
  | some _=>exact (show False from r).elim
 | some _=>cases u with
  | none=>exact (show False from r).elim
  | some _=>rfl
theorem RelO.getD {o:Option V}{u:Option Value}{d:V}{d':Value} (r:RelO o u) (rd:RelV d d'):RelV (o.getD d) (u.getD d'):=by
 cases o with
 | none=>cases u with
  | none=>exact rd
  | some _=>exact (show False from r).elim
 | some _=>cases u with
  | none=>exact (show False from r).elim
  | some _=>exact r
theorem KV.val {kvs:List (κ × V)}{vs:List (κ × Value)} (r:KV kvs vs) (k:κ):RelO (valV kvs k) (valueAt vs k):=by
 unfold KV at r
 induction r with
 | nil=>exact True.intro
 | @cons p q ps qs h t ih =>
  obtain⟨h1,h2⟩:=h
  by_cases e:p.1=k
  .have e':q.1=k:=h1.symm.trans e
   have b:valueAt (q::qs) k=some q.2:=by simp[valueAt,List.find?_cons,e']
   rw[xa9 e,b]; exact h2
  .have e':¬ q.1=k:=fun z=>e (h1.trans z)
   have b:valueAt (q::qs) k=valueAt qs k:=by simp[valueAt,List.find?_cons,e']
   rw[xa7 e,b]; exact ih
theorem KV.any {kvs:List (κ × V)}{vs:List (κ × Value)} (r:KV kvs vs) (k:κ):(kvs.any fun kv=>decide (kv.1=k))=vs.any fun kv=>decide (kv.1=k):=by
 unfold KV at r
 induction r with
 | nil=>rfl
 | cons h t ih=>rw[List.any_cons,List.any_cons,ih,h.1]
theorem KV.repl {kvs:List (κ × V)}{vs:List (κ × Value)} (r:KV kvs vs) (k:κ) {y:V}{u:Value} (ry:RelV y u) :
    KV (kvs.map fun kv=>if kv.1=k then (kv.1,y) else kv) (vs.map fun kv=>if kv.1=k then (kv.1,u) else kv):=by
  unfold KV at r ⊢
  induction r with
  | nil=>exact .nil
  | @cons p q ps qs h t ih =>
    rw[List.map_cons,List.map_cons]
    refine .cons ?_ ih
    obtain⟨h1,h2⟩:=h
    by_cases e:p.1=k
    . rw[if_pos e,if_pos (h1.symm.trans e)]; exact⟨h1,ry⟩
    . rw[if_neg e,if_neg (fun z=>e (h1.trans z))]; exact⟨h1,h2⟩
theorem KV.put {kvs:List (κ × V)}{vs:List (κ × Value)} (r:KV kvs vs) (k:κ) {y:V}{u:Value} (ry:RelV y u):KV (putK kvs k y) (stored vs k u):=by
 unfold putK stored
 rw[r.any k]
 by_cases e:(vs.any fun kv=>decide (kv.1=k))=true
 .rw [if_pos e,if_pos e]; exact r.repl k ry
 .rw [if_neg e,if_neg e]; exact Paired.snoc r ⟨rfl,ry⟩
theorem KV.keys {kvs:List (κ × V)}{vs:List (κ × Value)} (r:KV kvs vs):kvs.map (·.1)=vs.map (·.1):=by
 unfold KV at r
 induction r with
 | nil=>rfl
 | cons h t ih=>rw[List.map_cons,List.map_cons,ih,h.1]
theorem KV.length {kvs:List (κ × V)}{vs:List (κ × Value)} (r:KV kvs vs):kvs.length=vs.length:=Paired.length r
theorem xns (kvs:List (κ × V)) (k:κ):(xdm kvs k).length<=kvs.length:=List.length_filter_le _ _
end
theorem xc1 {P:Program}{w:World}{k:Key}{u:Value} (r:RelV (kV k) u):(xan P w).is k u=true:=by
 cases k with
 | inl i=>obtain⟨t,e⟩:=(show ∃ t,u=Value.int i t from r); subst e; exact xja P w i t
 | inr x=>obtain⟨t,e⟩:=(show ∃ t,u=Value.str x t from r); subst e; exact xi9 P w x t
theorem xg5 {P:Program}{w:World}:∀{ks:List Key}{us:List Value},Vals (ks.map kV) us->ItemsAre (xan P w) ks us
 | [],_,r=>by rw[List.map_nil] at r; cases r; exact .nil
 | k::ks,_,r=>by
  rw[List.map_cons] at r
  cases r with
  | cons h t=>exact .cons (xc1 h) (xg5 t)
abbrev KT (H:Hp):List (List Key × V)->List (List Key × Addr × Value)->Prop:=Paired fun p q=>p.1=q.1/\H q.2.1=some (.tup (p.1.map kV))/\RelV p.2 q.2.2
theorem KT.val {H:Hp}{kvs:List (List Key × V)}{xs:List (List Key × Addr × Value)} (r:KT H kvs xs) (k:List Key):RelO (valV kvs k) ((atKey xs k).map (·.2)):=by
 induction r with
 | nil=>exact True.intro
 | @cons p q ps qs h t ih =>
  obtain⟨h1,_,h2⟩:=h
  by_cases e:p.1=k
  .have e':q.1=k:=h1.symm.trans e
   have b:atKey (q::qs) k=some q.2:=by simp[atKey,List.find?_cons,e']
   rw[xa9 e,b]; exact h2
  .have e':¬ q.1=k:=fun z=>e (h1.trans z)
   have b:atKey (q::qs) k=atKey qs k:=by simp[atKey,List.find?_cons,e']
   rw[xa7 e,b]; exact ih
theorem KT.repl {H:Hp}{kvs:List (List Key × V)}{xs:List (List Key × Addr × Value)} (r:KT H kvs xs) (k:List Key) {y:V}{u:Value} (ry:RelV y u) :
    KT H (kvs.map fun kv=>if kv.1=k then (kv.1,y) else kv) (xs.map (putAt k u)):=by
  induction r with
  | nil=>exact .nil
  | @cons p q ps qs h t ih =>
    rw[List.map_cons,List.map_cons]
    refine .cons ?_ ih
    obtain⟨h1,h2,h3⟩:=h
    unfold putAt
    by_cases e:p.1=k
    . rw[if_pos e,if_pos (h1.symm.trans e)]; exact⟨h1,h2,ry⟩
    . rw[if_neg e,if_neg (fun z=>e (h1.trans z))]; exact⟨h1,h2,h3⟩
theorem KT.put {H:Hp}{kvs:List (List Key × V)}{xs:List (List Key × Addr × Value)} (r:KT H kvs xs) (k:List Key) {b:Addr}{y:V}{u:Value} (hb:H b=some (.tup (k.map kV))) (ry:RelV y u) :
    KT H (putK kvs k y) (storedH xs k b u):=by
  have e:(kvs.any fun kv=>decide (kv.1=k))=(atKey xs k).isSome:=by
    rw[xc3,(r.val k).isSome_eq,Option.isSome_map]
  unfold putK storedH
  rw[e]
  by_cases q:(atKey xs k).isSome=true
  . rw[if_pos q,if_pos q]; exact r.repl k ry
  . rw[if_neg q,if_neg q]; exact Paired.snoc r ⟨rfl,hb,ry⟩
theorem KT.keeps {H H':Hp}{kvs:List (List Key × V)}{xs:List (List Key × Addr × Value)} (r:KT H kvs xs) (ht:∀ b ys,H b=some (.tup ys)->H' b=some (.tup ys)):KT H' kvs xs :=
 Paired.mapP r fun _ _ z=>⟨z.1,ht _ _ z.2.1,z.2.2⟩
section
variable {P:Program}{w:World}{H:Hp}{h:Heap}{a:Addr}
theorem xn8 {u:HO} (ok:HOk P w H h) (e:Rd H a u):xaw P w H h a u:=e.ok ok
theorem xd1 {kvs:List (Key × V)} (ok:HOk P w H h) (e:Rd H a (.dK kvs)):kvs.length<=sizeLine/\(a == sysModules)=false/\∃ vs,KV kvs vs/\h.DictOf (xan P w) a vs :=
 show xaw P w H h a (.dK kvs) from xn8 ok e
theorem xhq {kvs:List (Key × V)} (ok:HOk P w H h) (e:H a=some (.dK kvs)):kvs.length<=sizeLine/\(a == sysModules)=false/\∃ vs,KV kvs vs/\h.DictOf (xan P w) a vs:=xd1 ok (.inl e)
theorem xdh {ks:List Key} (ok:HOk P w H h) (e:H a=some (.tup (ks.map kV))):(tupleKind (xan P w)).is h ks a:=by
 obtain⟨_,its,r,o,h1,h2,n,h3⟩:=(show xaw P w H h a (.tup (ks.map kV)) from ok a _ e)
 exact⟨o,its.toArray,n,h1,h2,h3,by simpa using xg5 r⟩
theorem xeo {kvs:List (List Key × V)} (ok:HOk P w H h) (e:Rd H a (.dT kvs)):kvs.length<=sizeLine/\(a == sysModules)=false /\
    ∃ xs,KT H kvs xs/\h.DictOfH (tupleKind (xan P w)) a xs:=by
  obtain⟨z,y,xs,r,o,es,ep,h1,h2,h3,h4,h5⟩:=(show xaw P w H h a (.dT kvs) from xn8 ok e)
  refine⟨z,y,xs,r,o,es,ep,h1,h2,h3,h4,fun x hx=>?_,h5⟩
  have all:∀{l:List (List Key × V)}{m:List (List Key × Addr × Value)},KT H l m->∀ x∈m,(tupleKind (xan P w)).is h x.1 x.2.1:=by
    intro l m q
    induction q with
    | nil=>intro x hx; exact nomatch hx
    | @cons p q ps qs hq t ih =>
      intro x hx
      rcases List.mem_cons.mp hx with e|hx
      . subst e
        exact xdh ok (by rw[<- hq.1]; exact hq.2.1)
      . exact ih x hx
  exact all r x hx
theorem xho {kvs:List (List Key × V)} (ok:HOk P w H h) (e:H a=some (.dT kvs)):kvs.length<=sizeLine/\(a == sysModules)=false /\
    ∃ xs,KT H kvs xs/\h.DictOfH (tupleKind (xan P w)) a xs:=xeo ok (.inl e)
end
def DGet (H:Hp) (a:Addr) (y:V) (r:Option V):Prop :=
 (∃ kvs k,Rd H a (.dK kvs)/\y=kV k/\r=valV kvs k)\/∃ kvs k b,Rd H a (.dT kvs)/\y=.ref b/\H b=some (.tup (k.map kV))/\r=valV kvs k
def DPut (H:Hp) (a:Addr) (y v:V) (H':Hp):Prop :=
 (∃ kvs k,H a=some (.dK kvs)/\y=kV k/\kvs.length<sizeLine/\H'=upd H a (.dK (putK kvs k v))) \/
 ∃ kvs k b,H a=some (.dT kvs)/\y=.ref b/\H b=some (.tup (k.map kV))/\kvs.length<sizeLine/\H'=upd H a (.dT (putK kvs k v))
theorem DGet.k {H:Hp}{a:Addr}{kvs:List (Key × V)}{k:Key} (e:H a=some (.dK kvs)):DGet H a (kV k) (valV kvs k):=.inl ⟨kvs,k,.inl e,rfl,rfl⟩
theorem DGet.t {H:Hp}{a b:Addr}{kvs:List (List Key × V)}{k:List Key} (e:H a=some (.dT kvs)) (eb:H b=some (.tup (k.map kV))):DGet H a (.ref b) (valV kvs k):=.inr ⟨kvs,k,b,.inl e,rfl,eb,rfl⟩
theorem DPut.k {H:Hp}{a:Addr}{kvs:List (Key × V)}{k:Key}{v:V} (e:H a=some (.dK kvs)) (hl:kvs.length<sizeLine):DPut H a (kV k) v (upd H a (.dK (putK kvs k v))):=.inl ⟨kvs,k,e,rfl,hl,rfl⟩
theorem DPut.t {H:Hp}{a b:Addr}{kvs:List (List Key × V)}{k:List Key}{v:V} (e:H a=some (.dT kvs)) (eb:H b=some (.tup (k.map kV))) (hl:kvs.length<sizeLine) :
    DPut H a (.ref b) v (upd H a (.dT (putK kvs k v))):=.inr ⟨kvs,k,b,e,rfl,eb,hl,rfl⟩
section
variable {X:Cx}{pins:List (Addr × Obj)}{σ:St}{H:Hp}{s:Shared}{a:Addr}{y v:V}{u r:Value}{o:Option V}{A:Around}{E:Value->Shared->Prop}
theorem Inv.big (I:Inv X pins σ H s):sysModules<s.heap.objs.size:=by
 have h:mainGlobals<s.heap.objs.size:=(I.mod.glob.keeps I.bk).lt
 exact Nat.lt_trans (by decide) h
theorem xhg {Q:Value->Shared->Prop} (hu:A.units+1<cLine) (I:Inv X pins σ H s) (g:DGet H a y (some v)) (ry:RelV y u) (h:∀ w' s',Inv X pins σ H s'->RelV v w'->Q w' s') :
    wpAny (model X.prog X.w) A (getItem (.ref a) u) Q E s:=by
  rcases g with⟨kvs,k,e,ey,l⟩|⟨kvs,k,b,e,ey,eb,l⟩
  . subst ey
    obtain⟨z,hd,vs,rel,dd⟩:=xd1 I.hok e
    obtain⟨w',hw,rw'⟩:=RelO.some_of (v:=v) (o:=valueAt vs k) (by rw[l]; exact rel.val k)
    exact wpAny_getItem_of (xc1 ry) dd.mapOf hw (h w' _ (I.tok _) rw')
  . subst ey
    cases (show u=Value.ref b from ry)
    obtain⟨z,hd,xs,rel,dd⟩:=xeo I.hok e
    obtain⟨w',hw,rw'⟩:=RelO.some_of (v:=v) (o:=(atKey xs k).map (·.2)) (by rw[l]; exact rel.val k)
    obtain⟨p,hp,hp2⟩:=Option.map_eq_some_iff.mp hw
    refine wpAny_getItem_heap (tupleKind_room_in1 hu) (xdh I.hok eb) dd hp ?_
    rw[hp2]
    exact h w' _ (I.tok _) rw'
theorem d_in {Q:Value->Shared->Prop} (hu:A.units+1<cLine) (I:Inv X pins σ H s) (g:DGet H a y o) (ry:RelV y u) (h:∀ s',Inv X pins σ H s'->Q (.bool o.isSome) s') :
    wpAny (model X.prog X.w) A (compareOp .In u (.ref a)) Q E s:=by
  rcases g with⟨kvs,k,e,ey,l⟩|⟨kvs,k,b,e,ey,eb,l⟩
  . subst ey
    obtain⟨z,hd,vs,rel,dd⟩:=xd1 I.hok e
    refine wpAny_in_of (xc1 ry) hd dd.mapOf ?_
    rw[<- (rel.val k).isSome_eq,<- l]
    exact h _ (I.tok _)
  . subst ey
    cases (show u=Value.ref b from ry)
    obtain⟨z,hd,xs,rel,dd⟩:=xeo I.hok e
    refine wpAny_in_heap (tupleKind_room_in1 hu) (xdh I.hok eb) hd dd ?_
    have q:=(rel.val k).isSome_eq
    rw[Option.isSome_map] at q
    rw[<- q,<- l]
    exact h _ (I.tok _)
theorem xoh {Q:Value->Shared->Prop} (hu:A.units+1<cLine) (I:Inv X pins σ H s) (g:DGet H a y o) (ry:RelV y u) (h:∀ s',Inv X pins σ H s'->Q (.bool (!o.isSome)) s') :
    wpAny (model X.prog X.w) A (compareOp .NotIn u (.ref a)) Q E s:=by
  rcases g with⟨kvs,k,e,ey,l⟩|⟨kvs,k,b,e,ey,eb,l⟩
  . subst ey
    obtain⟨z,hd,vs,rel,dd⟩:=xd1 I.hok e
    refine wpAny_notIn_of (xc1 ry) hd dd.mapOf ?_
    rw[<- (rel.val k).isSome_eq,<- l]
    exact h _ (I.tok _)
  . subst ey
    cases (show u=Value.ref b from ry)
    obtain⟨z,hd,xs,rel,dd⟩:=xeo I.hok e
    refine wpAny_notIn_heap (tupleKind_room_in1 hu) (xdh I.hok eb) hd dd ?_
    have q:=(rel.val k).isSome_eq
    rw[Option.isSome_map] at q
    rw[<- q,<- l]
    exact h _ (I.tok _)
theorem xd9 {h':Heap}{t':Nat}{ob:HO} (I:Inv X pins σ H s) (mu:Mut (H a)) (hs:Heap.SameBut a s.heap h') (he:∃ q,h'.get? a=some q) (new:xaw X.prog X.w (upd H a ob) h' a ob) :
    Inv X pins σ (upd H a ob) { s with heap:=h',toks:=t' } :=
  I.write (x:=a) (e:=a) mu (.inl rfl) (fun b q hb z=>(hs.2 b hb).trans z) he new
theorem xlp {P:Program}{w:World}{H':Hp}{h':Heap}{kvs:List (Key × V)}{vs:List (Key × Value)} (z:kvs.length<=sizeLine) (hd:(a == sysModules)=false) (rel:KV kvs vs) (dd:h'.DictOf (xan P w) a vs) :
    xaw P w H' h' a (.dK kvs):=⟨z,hd,vs,rel,dd⟩
theorem xhb {H':Hp}{Q:Unit->Shared->Prop} (hu:A.units+1<cLine) (I:Inv X pins σ H s) (g:DPut H a y v H') (ry:RelV y u) (rv:RelV v r) (h:∀ s',Inv X pins σ H' s'->Q () s') :
    wpAny (model X.prog X.w) A (setItem (.ref a) u r) Q E s:=by
  rcases g with⟨kvs,k,e,ey,l,eH⟩|⟨kvs,k,b,e,ey,eb,l,eH⟩
  . subst ey eH
    obtain⟨z,hd,vs,rel,dd⟩:=xhq I.hok e
    have hz:vs.length<=sizeLine:=by rw[<- rel.length]; exact z
    have hl:(putK kvs k v).length<=sizeLine:=by have:=xbl kvs k v; omega
    refine wpAny_setItem_pairs (hsz:=hz) (xc1 ry) dd fun h' dd' hs=>h _ ?_
    have he:∃ q,h'.get? a=some q:=let ⟨q,_,_,hq,_⟩:=dd'; ⟨q,hq⟩
    exact xd9 I (by rw[e]; exact True.intro) hs he (xlp hl hd (rel.put k rv) dd')
  . subst ey eH
    cases (show u=Value.ref b from ry)
    obtain⟨z,hd,xs,rel,dd⟩:=xho I.hok e
    have hz:xs.length<=sizeLine:=by rw[<- Paired.length rel]; exact z
    have hl:(putK kvs k v).length<=sizeLine:=by have:=xbl kvs k v; omega
    refine wpAny_setItem_heap (hsz:=hz) (tupleKind_room_in1 hu) (xdh I.hok eb) dd fun h' dd' hs=>h _ ?_
    obtain⟨q,es,ep,hq,h2,h3,h4,_,h5⟩:=dd'
    refine xd9 I (by rw[e]; exact True.intro) hs ⟨q,hq⟩ ⟨hl,hd,_,(rel.put k eb rv).keeps fun c ys ec=>?_,q,es,ep,hq,h2,h3,h4,h5⟩
    rw[xf (xp ec e (fun z=>nomatch z))]
    exact ec
end
section
variable {X:Cx}{pins:List (Addr × Obj)}{σ:St}{H:Hp}{s:Shared}{a:Addr}{kvs:List (Key × V)}{k:Key}{u:Value}{A:Around}{E:Value->Shared->Prop}
theorem xq6 {Q:Value->Shared->Prop} (I:Inv X pins σ H s) (e:Rd H a (.dK kvs)) (h:∀ t s',Inv X pins σ H s'->Q (.int kvs.length t) s'):wpAny (model X.prog X.w) A (call (.builtin "len") [.ref a]) Q E s:=by
 obtain⟨z,hd,vs,rel,dd⟩:=xd1 I.hok e
 refine call_len_dict hd dd (by rw[<- rel.length]; rw[sizeLine_eq] at z; omega) ?_
 rw[<- rel.length]
 exact h _ _ (I.tok _)
end
def NoSl (i:Expr):Prop:=∀ ov iv,subscripted i false ov iv=operate [ov,iv] (getItem ov iv)
theorem xji {prog:Program}{w:World}{A:Around}{E:Value->Shared->Prop}{s:Shared}{env:Env}{value slice:Expr}{pos:Pos}{T id:String}{Q:Value->Shared->Prop}
    (hl:typeLookup (.type T) "__getitem__"=pure (some (.builtin id))) (hs:NoSl slice)
    (h:wpAny (model prog w) A (eval value env) (fun o s₁=>wpAny (model prog w) A (eval slice env) (fun i s₂=>s₂.TypeIs o T/\wpAny (model prog w) A (getItem o i) Q E s₂) E s₁) E s) :
    wpAny (model prog w) A (eval (.Subscript value slice pos) env) Q E s:=by
  refine Subscript_ (wpAny_mono h (fun o s₁ h₁=>wpAny_mono h₁ (fun i s₂ h₂=>?_) fun _ _ x=>x) fun _ _ x=>x)
  obtain⟨hT,h₂⟩:=h₂
  unfold subscriptTail
  refine wpAny_bind ?_
  rw[getitemInPython_of_ne hT.not_modules]
  refine wpAny_bind (wpAny_specialOf hT hl ?_)
  have fin:wpAny (model prog w) A (subscripted slice false o i) (fun r s₃=>wpAny (model prog w) A (letTemporaryGo value o r>>=fun _=>pure r) Q E s₃) E s₂:=by
    rw[hs o i]
    exact wpAny_operating (wpAny_mono h₂ (fun r s₃ h₃=>wpAny_bind (wpAny_letTemporaryGo (wpAny_pure h₃))) fun _ _ x=>x)
  first
    | exact wpAny_pure (wpAny_bind fin)
    | exact wpAny_bind (wpAny_pure (wpAny_bind fin))
    | exact wpAny_bind fin
theorem xjb {X:Cx}{pins:List (Addr × Obj)}{σ:St}{H:Hp}{s:Shared}{a:Addr}{y:V}{o:Option V} (I:Inv X pins σ H s) (g:DGet H a y o):s.TypeIs (.ref a) "dict":=by
 rcases g with⟨kvs,k,e,_,_⟩|⟨kvs,k,b,e,_,_,_⟩
 .obtain ⟨_,_,vs,_,dd⟩:=xd1 I.hok e
  exact dd.typeIs
 .obtain ⟨_,_,xs,_,dd⟩:=xeo I.hok e
  exact dd.typeIs
def xq7 (td ty:TE):TE:=fun σ H Q=>td σ H fun x H1=>ty σ H1 fun y H2=>∃ a v,x=.ref a/\DGet H2 a y (some v)/\Q v H2
def tDIn (ty td:TE):TE:=fun σ H Q=>ty σ H fun y H1=>td σ H1 fun x H2=>∃ a o,x=.ref a/\DGet H2 a y o/\Q (.bl o.isSome) H2
def xo8 (ty td:TE):TE:=fun σ H Q=>ty σ H fun y H1=>td σ H1 fun x H2=>∃ a o,x=.ref a/\DGet H2 a y o/\Q (.bl (!o.isSome)) H2
def xr5 (td ty tv:TE):TS:=fun D σ H=>tv σ H fun v H1=>td σ H1 fun x H2=>ty σ H2 fun y H3=>∃ a H4,x=.ref a/\DPut H3 a y v H4/\D.nx σ H4
def xr0 (td ty tv:TE) (rd:V->V->Hp->VK->Prop):TS:=fun D σ H=>td σ H fun x H1=>ty σ H1 fun y H2=>∃ a v,x=.ref a/\DGet H2 a y (some v) /\
 tv σ H2 fun y2 H3=>rd v y2 H3 fun z H4=>∃ H5,DPut H4 a y z H5/\D.nx σ H5
section
variable {X:Cx}{o i e value:Expr}{pos pos' tpos:Pos}{td ty tv:TE}
theorem xbo (hu:X.A.units+1<cLine) (ho:PE X o td) (hi:PE X i ty) (hs:NoSl i):PE X (.Subscript o i pos) (xq7 td ty):=by
 intro pins s σ H Q I h
 refine xji PySem.F.slot_dict_getitem.lookup hs (thn (ho pins s σ H _ I h) fun u s1 ⟨x,H1,I1,rx,q1⟩=>thn (hi pins s1 σ H1 _ I1 q1) fun iv s2 ⟨y,H2,I2,ry,a,v,ex,g,q2⟩=>?_)
 subst ex
 obtain rfl:u=Value.ref a:=rx
 exact⟨xjb I2 g,xhg hu I2 g ry fun w' s3 I3 rw'=>⟨v,H2,I3,rw',q2⟩⟩
theorem xf3 (hu:X.A.units+1<cLine) (hi:PE X i ty) (ho:PE X o td):PC X .In i o (tDIn ty td):=by
 intro pins s σ H Q I h
 refine thn (hi pins s σ H _ I h) fun iv s1 ⟨y,H1,I1,ry,q1⟩=>thn (ho pins s1 σ H1 _ I1 q1) fun u s2 ⟨x,H2,I2,rx,a,ov,ex,g,q2⟩=>?_
 subst ex
 obtain rfl:u=Value.ref a:=rx
 exact d_in hu I2 g ry fun s3 I3=>⟨.bl ov.isSome,H2,I3,rfl,q2⟩
theorem xdc (hu:X.A.units+1<cLine) (hi:PE X i ty) (ho:PE X o td):PC X .NotIn i o (xo8 ty td):=by
 intro pins s σ H Q I h
 refine thn (hi pins s σ H _ I h) fun iv s1 ⟨y,H1,I1,ry,q1⟩=>thn (ho pins s1 σ H1 _ I1 q1) fun u s2 ⟨x,H2,I2,rx,a,ov,ex,g,q2⟩=>?_
 subst ex
 obtain rfl:u=Value.ref a:=rx
 exact xoh hu I2 g ry fun s3 I3=>⟨.bl (!ov.isSome),H2,I3,rfl,q2⟩
theorem xca (hu:X.A.units+1<cLine) (ho:PE X o td) (hi:PE X i ty) (hv:PE X value tv) (hs:swapsWith value (some (.Subscript o i pos')) pos.line X.env=pure false) :
    PS X (.Assign [.Subscript o i pos'] value pos) (xr5 td ty tv):=by
  intro pins s σ H D I h
  refine wpAny_Assign_Subscript (thn (hv pins s σ H _ I h) fun r s1 ⟨v,H1,I1,rv,q1⟩=>thn (ho pins s1 σ H1 _ I1 q1) fun u s2 ⟨x,H2,I2,rx,q2⟩=>thn (hi pins s2 σ H2 _ I2 q2) fun iv s3 ⟨y,H3,I3,ry,a,H4,ex,g,q3⟩=>?_) hs
  subst ex
  obtain rfl:u=Value.ref a:=rx
  exact xhb hu I3 g ry rv fun s4 I4=>⟨σ,H4,I4,q3⟩
theorem xkc {op:Operator}{rd:V->V->Hp->VK->Prop} (hu:X.A.units+1<cLine) (ho:PE X o td) (hi:PE X i ty) (hv:PE X value tv) (hop:InOp X op rd)
    (ha:∀ ov iv new,augStore i ov iv new=(do holding [new,ov,iv] (setItem ov iv new); release [new,ov,iv] []; pure .next)):PS X (.AugAssign (.Subscript o i tpos) op value pos) (xr0 td ty tv rd):=by
  intro pins s σ H D I h
  refine wpAny_AugAssign_SubscriptAny (thn (ho pins s σ H _ I h) fun u s1 ⟨x,H1,I1,rx,q1⟩=>thn (hi pins s1 σ H1 _ I1 q1) fun iv s2 ⟨y,H2,I2,ry,a,v,ex,g,q2⟩=>?_) ha
  subst ex
  obtain rfl:u=Value.ref a:=rx
  refine xhg hu I2 g ry fun w' s3 I3 rw'=>thn (hv pins s3 σ H2 _ I3 q2) fun w2 s4 ⟨y2,H3,I4,ry2,q3⟩=>thn (hop pins s4 σ H3 v y2 w' w2 _ I4 rw' ry2 q3) fun w3 s5 ⟨z,H4,I5,rz,H5,g5,q4⟩=>?_
  exact xhb hu I5 g5 ry rz fun s6 I6=>⟨σ,H5,I6,q4⟩
end
theorem xim {P:Program}{w:World}{H:Hp} (h:Heap) (hb:sysModules<h.objs.size):xaw P w H (h.push { cls:=.type "dict",data:=.dict #[] }) h.objs.size (.dK []) :=
 ⟨Nat.zero_le _,beq_eq_false_iff_ne.mpr (Ne.symm (Nat.ne_of_lt hb)),[],.nil,Heap.DictOf.new h⟩
theorem xit {P:Program}{w:World}{H:Hp} (h:Heap) (hb:sysModules<h.objs.size):xaw P w H (h.push { cls:=.type "dict",data:=.dict #[] }) h.objs.size (.dT []) :=
 ⟨Nat.zero_le _,beq_eq_false_iff_ne.mpr (Ne.symm (Nat.ne_of_lt hb)),[],.nil,_,#[],0,Heap.get?_push_size _ rfl,⟨rfl,rfl,rfl⟩,rfl,rfl,List.nodup_nil⟩
def xp4:TE:=fun _ H Q=>∀ p,H p=none->Q (.ref p) (upd H p (.dK []))
def xqb:TE:=fun _ H Q=>∀ p,H p=none->Q (.ref p) (upd H p (.dT []))
section
variable {X:Cx}{pos:Pos}
theorem xdw:PE X (.Dict [] [] pos) xp4:=fun pins s σ H Q I h =>
 wpAny_Dict_empty ⟨.ref s.heap.objs.size,_,I.laid (a:=s.heap.objs.size) (o:=.dK []) (t':=s.toks) (fun _ _ q=>Heap.get?_push_of_some _ q) (Nat.le_refl _) (xim s.heap I.big),rfl,h _ (I.hok.fresh (Nat.le_refl _))⟩
theorem xds:PE X (.Dict [] [] pos) xqb:=fun pins s σ H Q I h =>
 wpAny_Dict_empty ⟨.ref s.heap.objs.size,_,I.laid (a:=s.heap.objs.size) (o:=.dT []) (t':=s.toks) (fun _ _ q=>Heap.get?_push_of_some _ q) (Nat.le_refl _) (xit s.heap I.big),rfl,h _ (I.hok.fresh (Nat.le_refl _))⟩
end
structure M1 (X:Cx) (o:Expr) (m:Str) (apos:Pos) (e:Expr) (cpos:Pos):Prop where
 base:attributeBase o m X.env (eval o X.env)=eval o X.env
 few:((backTo cpos (starEach [e] X.env)).all (fun x=>!x.1)&&(backToKw cpos (keywordEach [] X.env)).all (fun x=>x.1.isSome)
  && decide (([e]:List Expr).length+([]:List Keyword).length+(if ([]:List Keyword).isEmpty then 0 else 1)<30))=true
 line:(apos.endLine == cpos.line)=true
 trees:backTo cpos (starEach [e] X.env)=[(false,eval e X.env)]
def IsD (H:Hp) (a:Addr):Prop:=(∃ kvs,Rd H a (.dK kvs))\/∃ kvs,Rd H a (.dT kvs)
theorem xmg {X:Cx}{pins:List (Addr × Obj)}{σ:St}{H:Hp}{s:Shared}{a:Addr} (I:Inv X pins σ H s) (d:IsD H a) :
    s.TypeIs (.ref a) "dict"/\(∀ b,Value.ref a=.ref b->∃ ob,s.heap.get? b=some ob/\ob.dict=none)/\(a == sysModules)=false:=by
  rcases d with⟨kvs,e⟩|⟨kvs,e⟩
  . obtain⟨_,hd,vs,_,dd⟩:=xd1 I.hok e
    refine⟨dd.typeIs,fun b q=>?_,hd⟩
    cases q
    obtain⟨ob,_,_,h1,h2,_⟩:=dd
    exact⟨ob,h1,h2.2.1⟩
  . obtain⟨_,hd,xs,_,dd⟩:=xeo I.hok e
    refine⟨dd.typeIs,fun b q=>?_,hd⟩
    cases q
    obtain⟨ob,_,_,h1,h2,_⟩:=dd
    exact⟨ob,h1,h2.2.1⟩
section
variable {X:Cx}{pins:List (Addr × Obj)}{σ:St}{H:Hp}{s:Shared}{a:Addr}{y d:V}{u r:Value}{o:Option V}{A:Around}{E:Value->Shared->Prop}
theorem xqs {Q:Value->Shared->Prop} (hu:A.units+1<cLine) (I:Inv X pins σ H s) (g:DGet H a y o) (ry:RelV y u) (h:∀ w' s',Inv X pins σ H s'->RelV (o.getD .non) w'->Q w' s') :
    wpAny (model X.prog X.w) A (call (.builtin "dict.get") [.ref a,u]) Q E s:=by
  rcases g with⟨kvs,k,e,ey,l⟩|⟨kvs,k,b,e,ey,eb,l⟩
  . subst ey
    obtain⟨z,hd,vs,rel,dd⟩:=xd1 I.hok e
    refine call_meetsIn PySem.F.slot_dict_get dd.typeIs PySem.F.entry_dict_get (PySem.F.args_dict_get_2 _ _) (meets_dict_get (xan X.prog X.w) a (xc1 ry) hd) ⟨_,dd.mapOf,h _ _ (I.tok _) ?_⟩
    rw[l]
    exact (rel.val k).getD rfl
  . subst ey
    cases (show u=Value.ref b from ry)
    obtain⟨z,hd,xs,rel,dd⟩:=xeo I.hok e
    refine call_meetsIn PySem.F.slot_dict_get dd.typeIs PySem.F.entry_dict_get (PySem.F.args_dict_get_2 _ _) (meetsH_dict_get (tupleKind (xan X.prog X.w)) a b hd) ⟨tupleKind_room_in1 hu,k,xs,xdh I.hok eb,dd,h _ _ (I.tok _) ?_⟩
    rw[l]
    exact (rel.val k).getD rfl
end
def xq1 (td ty:TE):TE:=fun σ H Q=>td σ H fun x H1=>∃ a,x=.ref a/\IsD H1 a/\ty σ H1 fun y H2=>∃ o,DGet H2 a y o/\Q (o.getD .non) H2
section
variable {X:Cx}{o e f:Expr}{apos cpos:Pos}{td ty tx:TE}
theorem xm8 (hu:X.A.units+1<cLine) (ho:PE X o td) (he:PE X e ty) (m:M1 X o "get" apos e cpos):PE X (.Call (.Attribute o "get" apos) [e] [] cpos) (xq1 td ty):=by
 intro pins s σ H Q I h
 refine wpAny_Call_method m.base m.few m.line PySem.F.plainAttrs_dict PySem.F.slot_dict_get PySem.F.type_dict_get (thn (ho pins s σ H _ I h) fun u s1 ⟨x,H1,I1,rx,a,ex,d,q1⟩=>?_)
 subst ex
 obtain rfl:u=Value.ref a:=rx
 obtain⟨t1,t2,_⟩:=xmg I1 d
 refine⟨t1,t2,?_⟩
 rw[m.trees]
 refine Calls.callWith_builtin rfl (Calls.evalArgs_plain (Calls.spliced_cons (thn (he pins s1 σ H1 _ I1 q1) fun iv s2 ⟨y,H2,I2,ry,ov,g,q2⟩=>Calls.spliced_nil ?_)))
 exact xqs hu I2 g ry fun w' s3 I3 rw'=>⟨_,H2,I3,rw',q2⟩
end
end L2
namespace Att
open PySem PySem.W PySem.Calls PyProof.Rows
theorem xf5 {P:Params}{h:Heap}:∀(ns:List Int) (vs:List Value),WellAll P h vs (ns.map WData.int)->IntsAre vs ns:=by
 intro ns
 induction ns with
 | nil =>
  intro vs w
  rw[List.map_nil] at w
  cases w
  exact .nil
 | cons n ns ih =>
  intro vs w
  rw[List.map_cons] at w
  cases w with
  | cons a b =>
   cases a
   exact .cons _ _ (ih _ b)
theorem xl2 {l:OpenLaw}{n:Nat} (hn:l.most=some n) {P:Params}{h:Heap}{args:List WData}{vals:List Value}
    (hpre:l.row.toRowW.claim.pre args=true) (hwl:WellAll P h vals args) :
    ∃ a vs ns,vals=[Value.ref a]/\args=[WData.list (ns.map WData.int)]/\h.get? a=some { cls:=.type "list",data:=.seq vs.toArray }/\IntsAre vs ns/\ns.length<=n:=by
  have hsh:WShape.hasAll [] args [.list .int]=true:=(pre_splitW hpre).1
  have hc:l.pre.holds [] { args:=args }=true:=(pre_splitW hpre).2
  obtain⟨d,r,rfl,h1,h2⟩:=hasAllW_cons hsh
  obtain rfl:=hasAllW_nil h2
  obtain⟨xs,rfl,h3⟩:=hasW_list h1
  obtain⟨ns,rfl⟩:=items_int h3
  have hlen:ns.length<=n:=by
    unfold OpenLaw.pre at hc
    have h4:(WTm.not (.lt (.lit (.int (n:Int))) (.len (.arg 0)))).holds [] { args:=[.list (ns.map .int)] }=true:=by
      have h4:=(holds_andW hc).1
      rw[hn] at h4
      exact h4
    have h5:=condW_of h4 (w_not (w_lt w_lit (w_len_list (w_arg rfl))))
    rw[List.length_map] at h5
    refine Nat.le_of_not_lt fun q=>?_
    have q':(n:Int)<((ns.length:Nat):Int):=by omega
    first
      | (rw[decide_eq_true q'] at h5; exact absurd h5 (by decide))
      | (simp at h5; omega)
  cases hwl with
  | cons w1 w2 =>
    cases w2
    cases w1 with
    | list ho hall=>exact⟨_,_,ns,rfl,rfl,ho,xf5 ns _ hall,hlen⟩
theorem xl7 (l:OpenLaw) (args:List WData):l.row.toRowW.claim.post args (.bool true) args=true :=
 postW_of (r:=l.row.toRowW) (X:=(true == true))
  (show WShape.has [] (.bool true) .bool=true by first|rfl|decide|simp[WShape.has,WShape.arms,WShape.armsAll])
  (show (WTm.eq .res (.lit (.bool true))).value [] { args:=args,res:=some (.bool true),after:=args }=some (.bool (true == true)) from w_eq_bool (w_res rfl) w_lit) rfl
theorem attach_call {l:OpenLaw}{n:Nat}{q:Program}{loose:List Str}{XP:(Str->Option Value)->Heap->Prop}{YP:World->Heap->Prop}{d:DefRec}
    (hn:l.most=some n) (hdf:d.params.defaults=[])
    (call:∀(w:World) (s₀ s₁:Shared) (mg mb:Str->Option Value) (fa:Addr) (o:Obj) (pm cd doc:Value) (a:Addr) (vs:List Value) (ns:List Int),
      Ground q loose [] XP w s₀ mg mb s₁.heap->YP w s₁.heap ->
      s₁.heap.get? fa=some o->o.data=.func (docDef d.name d.params d.body d.scope pm cd doc)->s₁.heap.CodeRec cd d.name->mg d.name=some (.ref fa) ->
      s₁.heap.get? a=some { cls:=.type "list",data:=.seq vs.toArray }->IntsAre vs ns->ns.length<=n->s₁.gens=#[] ->
      codeAny (model l.prog w) callerA (.call (.ref fa) ⟨[.ref a],[]⟩) (fun r s'=>r=.ok (.ret (.bool true))/\OldK s₁.heap s'.heap/\s'.os=s₁.os/\AllBare s'.gens) s₁) :
    WalkO q loose XP YP l.row.toRowW d [] (fun f vs=>PySem.call f vs):=by
  intro w s₀ s₁ mg mb G Y fa o pm cd doc dV kV ho hd hcd hD hmg hg args vals as hpre hlay hrd hwl hlo
  obtain rfl:dV=.none:=Dflts.none hD hdf
  obtain rfl:kV=.none:=Dflts.noKw hD
  obtain⟨a,vs,ns,rfl,rfl,hobj,hints,hlen⟩:=xl2 hn hpre hwl
  refine enter_call (codeAny_mono (call w s₀ s₁ mg mb fa o pm cd doc a vs ns G Y ho (fd_plain hd) hcd hmg hobj hints hlen hg) fun r s' hq=>?_)
  obtain⟨rfl,h2,h3,h4⟩:=hq
  exact⟨.inl ⟨.bool true,.bool true,[],rfl,fun _=>rfl,.bool true,xl7 l _,fun _=>⟨List.Pairwise.nil,fun _ hm=>(nomatch hm)⟩⟩,h2,h3,h4⟩
section
variable {prog:Program}{w:World}{A:Around}{E:Value->Shared->Prop}{s:Shared}{K:Frag}
def xsa (h:Heap) (L d:Addr):List (Addr × Obj):=(List.range h.objs.size).filterMap fun a=>if a=L\/a=d then none else (h.get? a).map fun o=>(a,o)
end
end Att
namespace L2
open PySem PySem.Spec PyProof.Rows
variable {q0:Bool}
theorem xg6:∀{vs:List Value}{ns:List Int},IntsAre vs ns->Vals (ns.map V.int) vs
 | _,_,.nil=>.nil
 | _,_,.cons n t h=>.cons ⟨t,rfl⟩ (xg6 h)
def Only (H:Hp):Prop:=∀ b,H b=none\/∃ o xs,H b=some (.frz o (.lst xs))
theorem xnb {P:Program}{w:World}{K:PySem.W.Frag}{mg mb:Str->Option Value}{CX:CXT}{k:Nat}{fa a:Addr}{fd:FuncData}{x:Str}{sp:Sp}{s₁:Shared}{vs:List Value}{ns:List Int}
    (KX:K.In s₁.heap) (hns:s₁.heap.Ns mainGlobals mg) (hb:s₁.heap.Ns builtinsNs mb) (hbb:∀ x:Str,x≠"__name__"->mb x=bootBuiltins x) (hlim:s₁.heap.NoLimit) (hg:s₁.gens=#[])
    (ha:s₁.heap.get? a=some { cls:=.type "list",data:=.seq vs.toArray }) (hi:IntsAre vs ns) (hl:ns.length<=sizeLine) (hr:Room q0 k callerA)
    (F:∀ base:Heap,K.In base->base.Ns mainGlobals mg->FnOk q0 P w K mg base CX k fa fd [x] sp) (hbind:∀(s:Shared) (u:Value),BindsTo s fd ⟨[u],[]⟩ [(x,u)])
    (hsp:∀ H:Hp,Only H->SqL K H a (ns.map V.int)->sp [.ref a] H (fun v _=>v=.bl true) fun _ _ _=>False)
    (hCX:∀ H e s',CX [] H s₁ (fun _ _ _=>False) e s'->False) :
    codeAny (model P w) callerA (.call (.ref fa) ⟨[.ref a],[]⟩) (fun r s'=>r=.ok (.ret (.bool true))/\OldK s₁.heap s'.heap/\s'.os=s₁.os/\AllBare s'.gens) s₁:=by
  have rv:=xg6 hi
  have lenV:=hi.length
  -- from an abstract heap in which nothing but the script may be tracked
  have core:∀ H:Hp,Only H->SqL K H a (ns.map V.int)->HOk P w H s₁.heap->(∀ b,H b≠none->b=a)->(H a≠none->K.lookup a=none) ->
      codeAny (model P w) callerA (.call (.ref fa) ⟨[.ref a],[]⟩) (fun r s'=>r=.ok (.ret (.bool true))/\OldK s₁.heap s'.heap/\s'.os=s₁.os/\AllBare s'.gens) s₁:=by
    intro H hO hS hok hA hK
    have base_of:∀{b:Addr}{o:Obj},s₁.heap.get? b=some o->H b=none->(hidT s₁.heap H).get? b=some o:=fun e n=>xmt e n
    have noA:∀{b:Addr}{o:Obj}{es:Array DictEntry}{ep:Nat},s₁.heap.get? b=some o->o.data=.dict es ep->H b=none:=fun {b o es ep} e d=>by
      cases q:H b with
      | none=>rfl
      | some u =>
        have e':b=a:=hA b (by rw[q]; simp)
        subst e'
        rw[ha] at e; cases e
        have d':Data.seq vs.toArray _=Data.dict es ep:=d
        cases d'
    have nsK:∀{b:Addr}{m:Str->Option Value},s₁.heap.Ns b m->(hidT s₁.heap H).Ns b m:=fun {b m} ⟨o,es,ep,e,d,r⟩=>⟨o,es,ep,base_of e (noA e d),d,r⟩
    have hKb:K.In (hidT s₁.heap H):=fun b o e=>base_of (KX b o e) (by
      cases q:H b with
      | none=>rfl
      | some u =>
        have e':b=a:=hA b (by rw[q]; simp)
        subst e'
        rw[hK (by rw[q]; simp)] at e; cases e)
    have hM:Mod K mg (hidT s₁.heap H):=⟨hKb,nsK hns,⟨mb,nsK hb,hbb⟩,let ⟨mc,h1,h2⟩:=hlim; ⟨mc,nsK h1,h2⟩⟩
    have e0:Env0 P w K mg (hidT s₁.heap H) callerA [] s₁ H:=⟨rfl,hM,fun b o e=>xow e,Nat.le_of_eq (xk4 _ _),trivial,fun b hb=>absurd (show b∈([]:List Addr) from hb) (by simp),hok,.of_eq hg⟩
    refine codeAny_mono ((F _ hKb (nsK hns)).run callerA [] s₁ H ⟨[.ref a],[]⟩ [.ref a] [.ref a] _ _ hr e0 (hbind s₁ (.ref a)) (.cons rfl .nil) (hsp H hO hS)) fun r s' h=>?_
    cases r with
    | error e=>exact (hCX H e s' h).elim
    | ok fl =>
      cases fl with
      | next=>exact False.elim h
      | brk=>exact False.elim h
      | cont=>exact False.elim h
      | ret u =>
        obtain⟨v,H',os,bare,un,hok',r',q⟩:=h
        have q':v=.bl true:=q
        subst q'
        obtain rfl:u=Value.bool true:=r'
        refine⟨rfl,OldK.of_keep fun b o e=>?_,os,bare⟩
        cases q:H b with
        | none=>exact un.keep b o e q (by intro z; exact absurd (show b∈([]:List Addr) from z) (by simp)) (by simp)
        | some u =>
          rcases hO b with z|⟨ob,xs,z⟩
          . rw[q] at z; cases z
          . have z2:=un.frzs b ob _ z
            obtain⟨e1,_⟩:=hok b _ z
            obtain⟨e2,_⟩:=hok' b _ z2
            rw[e] at e1; cases e1
            exact e2
  cases hk:K.lookup a with
  | some o =>
    -- the script is one of the module's own objects
    have e:=KX a o hk
    rw[ha] at e
    cases e
    refine core (fun _=>none) (fun _=>.inl rfl) (.inr ⟨_,vs.toArray,_,hk,rfl,rfl,rfl,by rw[List.size_toArray,lenV]; exact hl,by simpa using rv⟩) (fun b u z=>by have z':(none:Option HO)=some u:=z; cases z') (fun b z=>absurd rfl z) fun z=>absurd rfl z
  | none =>
    refine core (fun b=>if b=a then some (.frz { cls:=.type "list",data:=.seq vs.toArray } (.lst (ns.map V.int))) else none) (fun b=>?_) (.inl (.inr ⟨{ cls:=.type "list",data:=.seq vs.toArray },if_pos rfl⟩)) (fun b u z=>?_) (fun b z=>?_) fun _=>hk
    . by_cases hb:b=a
      . exact .inr ⟨_,_,if_pos hb⟩
      . exact .inl (if_neg hb)
    . by_cases hb:b=a
      . have z':=(if_pos hb).symm.trans z
        cases z'
        subst hb
        exact⟨ha,by rw[List.length_map]; exact hl,vs,_,rv,ha⟩
      . have z':=(if_neg hb).symm.trans z
        cases z'
    . by_cases hb:b=a
      . exact hb
      . exact absurd (if_neg hb) z
abbrev KOf {K:PySem.W.Frag}{h:Heap} (_:K.In h):PySem.W.Frag:=K
theorem walk_of {l:PySem.W.OpenLaw}{n k:Nat}{q:Program}{loose:List Str}{XP:(Str->Option Value)->Heap->Prop}{YP:World->Heap->Prop}{d:DefRec}{K:Params->PySem.W.Frag}{CX:World->CXT}{sp:World->Sp}{x:Str}
    (hn:l.most=some n) (hn2:n<=sizeLine) (hdf:d.params.defaults=[]) (hr:Room q0 k callerA)
    (hY:∀(w:World) (h:Heap),YP w h->(K w.params).In h)
    (F:∀(w:World) (mg:Str->Option Value) (fa:Addr) (h:Heap),(K w.params).In h->h.Ns mainGlobals mg->mg d.name=some (.ref fa) ->
      ∃ fd:FuncData,(∀(s:Shared) (u:Value),BindsTo s fd ⟨[u],[]⟩ [(x,u)]) /\
        ∀ base:Heap,(K w.params).In base->base.Ns mainGlobals mg->FnOk q0 l.prog w (K w.params) mg base (CX w) k fa fd [x] (sp w))
    (hsp:∀(w:World) (H:Hp) (a:Addr) (ns:List Int),ns.length<=n->Only H->SqL (K w.params) H a (ns.map V.int)->sp w [.ref a] H (fun v _=>v=.bl true) fun _ _ _=>False)
    (hCX:∀(w:World) (H:Hp) (s:Shared) (e:Value) (s':Shared),CX w [] H s (fun _ _ _=>False) e s'->False) :
    PySem.W.WalkO q loose XP YP l.row.toRowW d [] (fun f vs=>PySem.call f vs):=by
  refine Att.attach_call hn hdf fun w s₀ s₁ mg mb fa o pm cd doc a vs ns G Y ho hd hcd hmg hobj hints hlen hg=>?_
  have KX:=hY w _ Y
  obtain⟨fd,hb,hF⟩:=F w mg fa _ KX G.T.g hmg
  exact xnb KX G.T.g G.T.b G.T.builtins G.T.nolimit hg hobj hints (Nat.le_trans hlen hn2) hr hF hb (fun H hO hS=>hsp w H a ns hlen hO hS) fun H e s'=>hCX w H s₁ e s'
def xaq (s:Stmt) (j:Nat):Stmt:=match s with
 | .ClassDef _ _ _ body _ _ _ _ _ _ _=>body.getD j (.Pass ⟨0,0,0,0⟩)
 | _=>.Pass ⟨0,0,0,0⟩
def xz (s:Stmt):Arguments:=match s with
 | .FunctionDef _ a _ _ _ _ _ _ _ _=>a
 | _=>{ posonlyargs:=[],args:=[],vararg:=none,kwonlyargs:=[],kw_defaults:=[],kwarg:=none,defaults:=[] }
def xw (s:Stmt):List Stmt:=match s with
 | .FunctionDef _ _ b _ _ _ _ _ _ _=>b
 | _=>[]
def xi (s:Stmt):Scope:=match s with
 | .FunctionDef _ _ _ _ _ _ sc _ _ _=>sc
 | _=>{ kind:=.function,names:=[],isGenerator:=false,isCoroutine:=false }
abbrev CX0:CXT:=fun _ _ _ _ _ _=>False
structure Fun (K:PySem.W.Frag) (x qual:Str) (st:Stmt) (f:Addr) (fd:FuncData):Prop where
 ex:∃(oc:Value) (od:Option Addr) (kV doc pm:Value) (an:Option Addr) (cdv ct:Value) (osl:Array (Option Value)),
  fd=PySem.W.fnOf x qual (xz st) (xw st) (xi st) .none kV doc pm an cdv ct/\K.lookup f=some ⟨oc,od,.func fd,osl⟩/\PySem.W.codeIn K cdv qual=true
 kp:PySem.W.keepIn K (.ref f)=true
section
variable {P:Program}{w:World}{K:PySem.W.Frag}{mg:Str->Option Value}{base:Heap}
theorem Fun.ok {x qual:Str}{st:Stmt}{f:Addr}{fd:FuncData}{N ps:List Str}{k:Nat}{sp:Sp} (F:Fun K x qual st f fd) (S:x9 N ps (xi st)) (len:∀ vs H Q E,sp vs H Q E->vs.length=ps.length)
    (hbody:∀(cdv:Value) (A:Around) (outer:List Env) (s:Shared) (H:Hp) (vs:List V) (Q:VK) (E:XK),Room q0 k (A.deeper (envOfC qual (xi st) s.heap.objs.size f cdv))->sp vs H Q E ->
      ∃ t,PSs (cxOf q0 CX0 P w K mg base N qual (xi st) f cdv A outer s H E).nox (xw st) t/\t { nx:=fun _ H'=>Q .non H',rt:=Q } (start N vs) H):FnOk q0 P w K mg base CX0 (k+1) f fd ps sp:=by
  obtain⟨oc,od,kV,doc,pm,an,cdv,ct,osl,rfl,lk,hcd⟩:=F.ex
  refine xkm lk hcd S len fun A outer s H vs Q E hr hsp=>?_
  obtain⟨t,h,q⟩:=hbody cdv A outer s H vs Q E hr hsp
  exact⟨t,h.nox,q⟩
theorem Fun.binds {x qual:Str}{st:Stmt}{f:Addr}{fd:FuncData}{ps:List Str} (F:Fun K x qual st f fd)
    (h:∀(kV doc pm:Value) (an:Option Addr) (cdv ct:Value) (us:List Value),us.length=ps.length->bindArgs (PySem.W.fnOf x qual (xz st) (xw st) (xi st) .none kV doc pm an cdv ct) ⟨us,[]⟩=pure (ps.zip us)):xad K fd ps []:=by
  obtain⟨oc,od,kV,doc,pm,an,cdv,ct,osl,rfl,lk,hcd⟩:=F.ex
  exact .all (h kV doc pm an cdv ct)
theorem xr {x qual:Str}{st:Stmt}{f:Addr}{oc:Value}{od an:Option Addr}{osl:Array (Option Value)}{kV doc pm cdv ct:Value} (l:K.lookup f=some ⟨oc,od,.func (PySem.W.fnOf x qual (xz st) (xw st) (xi st) .none kV doc pm an cdv ct),osl⟩)
    (c:PySem.W.codeIn K cdv qual=true) (k:PySem.W.keepIn K (.ref f)=true):Fun K x qual st f (PySem.W.fnOf x qual (xz st) (xw st) (xi st) .none kV doc pm an cdv ct):=⟨⟨oc,od,kV,doc,pm,an,cdv,ct,osl,rfl,l,c⟩,k⟩
end
theorem xau {A:Around}{k:Nat} (hr:Room q0 k A):A.units+1<cLine:=Nat.lt_of_le_of_lt (Nat.add_le_add_left (by decide:1<=64) _) hr.units
section
variable {X:Cx}
theorem pv (i:Nat) {x:Str}{pos:Pos} (hN:X.N[i]?=some x:=by rfl) (hv:Vis X.env.scope x:=by first|exact Or.inl rfl|exact Or.inr (Or.inl rfl)|exact Or.inr (Or.inr rfl)) (hd:(x == ("__debug__":Str))=false:=by decide)
    (hcd:(x == ("__classdict__":Str))=false:=by decide):PE X (.Name x pos) (tVar i):=xqd hN hv hd hcd
end
theorem iteF {A B:Prop} (h:B):if false=true then A else B:=by
 rw[if_neg Bool.false_ne_true]
 exact h
theorem iteT {A B:Prop} (h:A):if true=true then A else B:=by
 rw[if_pos rfl]
 exact h
theorem ite2 {c A B:Prop} [Decidable c] (h1:c->A) (h2:¬ c->B):if c then A else B:=by
 by_cases h:c
 .rw [if_pos h]
  exact h1 h
 .rw [if_neg h]
  exact h2 h
def Same (H H':Hp):Prop:=∀ b o,H b=some o->H' b=some o
theorem Same.refl (H:Hp):Same H H:=fun _ _ h=>h
theorem Same.trans {H H1 H2:Hp} (a:Same H H1) (b:Same H1 H2):Same H H2:=fun c o h=>b c o (a c o h)
theorem Same.free {H H':Hp} (e:Same H H') {l:Addr} (h:H' l=Option.none):H l=Option.none:=by
 cases q:H l with
 | none=>rfl
 | some o =>
  rw[e l o q] at h
  cases h
theorem Same.seq {K:PySem.W.Frag}{H H':Hp}{a:Addr}{xs:List V} (e:Same H H') (h:SqL K H a xs):SqL K H' a xs:=by
 rcases h with (h|⟨o,h⟩)|h
 .exact .inl (.inl (e _ _ h))
 .exact .inl (.inr ⟨o,e _ _ h⟩)
 .exact .inr h
end L2
namespace Srt
open PySem PySem.W PyProof.Rows
abbrev CM:=Nat->Nat->(Bool->Shared->Prop)->Shared->Prop
abbrev g (p:Array Nat) (i:Nat):Nat:=p.getD i 0
structure Ord (n:Nat) (lt:Nat->Nat->Bool):Prop where
 irr:∀ i,i<n->lt i i=false
 tr:∀ i j k,i<n->j<n->k<n->lt i j=true->lt j k=true->lt i k=true
 tot:∀ i j,i<n->j<n->i≠j->lt i j=false->lt j i=true
def Cmp (n:Nat) (lt:Nat->Nat->Bool) (cmp:CM) (s:Shared):Prop:=∀ i j,i<n->j<n->∀ Q:Bool->Shared->Prop,Q (lt i j) s->cmp i j Q s
theorem xcc {α:Type}{cmp:CM}{a:α}{Q:α->Shared->Prop}{s:Shared} (h:Q a s):KasT.kasWp cmp (.ret a) Q s:=h
theorem xey {α:Type}{cmp:CM}{i j:Nat}{k:Bool->KasT α}{Q:α->Shared->Prop}{s:Shared} (h:cmp i j (fun c s'=>KasT.kasWp cmp (k c) Q s') s):KasT.kasWp cmp (.ask i j k) Q s:=h
theorem xq9 {p:Array Nat}{n:Nat}:kas_asc p 0 n=.ret n:=by unfold kas_asc; rfl
theorem xri {p:Array Nat}{f n:Nat}:kas_asc p (f+1) n=.ask (p.getD n 0) (p.getD (n-1) 0) fun c=>if c=true then .ret n else kas_asc p f (n+1):=by rw[kas_asc]
theorem xrw {p:Array Nat}{k:Nat}:kas_bin 0 p k=.ret p:=by unfold kas_bin; rfl
theorem xrm {f:Nat}{p:Array Nat}{k:Nat}:kas_bin (f+1) p k=(kas_place p k k 0 k).bind fun l=>kas_bin f (bubble p k (k-l)) (k+1):=by rw[kas_bin]
theorem xof {p:Array Nat}{k l r:Nat}:kas_place p k 0 l r=.ret l:=by unfold kas_place; rfl
theorem xoc {p:Array Nat}{k f l r:Nat}:kas_place p k (f+1) l r=if l>=r then .ret l else .ask (p.getD k 0) (p.getD ((l+r) / 2) 0) fun c=>if c=true then kas_place p k f l ((l+r) / 2) else kas_place p k f ((l+r) / 2+1) r:=by rw[kas_place]
theorem xpy {p:Array Nat}{k l:Nat}:kas_desc 0 p k l=.ret (p,k,l):=by unfold kas_desc; rfl
theorem xqz {f:Nat}{p:Array Nat}{k l:Nat}:kas_desc (f+1) p k l=.ask (p.getD k 0) (p.getD (k-1) 0) fun c=>if c=true then (if l>0 then kas_desc f (kas_rev p (k-(l+1)) k) (k+1) 0 else kas_desc f p (k+1) 0) else .ask (p.getD (k-1) 0) (p.getD k 0) fun d=>if d=true then .ret (p,k,l) else kas_desc f p (k+1) (l+1):=by rw[kas_desc]
section
variable {n:Nat}{lt:Nat->Nat->Bool}{cmp:CM}{s:Shared}
structure Arr (n:Nat) (p:Array Nat):Prop where
 sz:p.size=n
 lt:∀ i,i<n->g p i<n
 inj:∀ i j,i<n->j<n->g p i=g p j->i=j
 pm:p.Perm (List.range n).toArray
theorem g_at {p:Array Nat}{i:Nat}{v:Nat} (h:p[i]?=some v):g p i=v:=by
 show p.getD i 0=v
 rw[Array.getD_eq_getD_getElem?,h]
 rfl
theorem Arr.at {p:Array Nat} (a:Arr n p) {i:Nat} (h:i<n):p[i]?=some (g p i):=by
 have z:i<p.size:=by rw[a.sz]; exact h
 have e:p[i]?=some p[i]:=Array.getElem?_eq_getElem z
 rw[e,g_at e]
def Srtd (lt:Nat->Nat->Bool) (p:Array Nat) (m:Nat):Prop:=∀ i j,i<j->j<m->lt (g p i) (g p j)=true
theorem xjg (o:Ord n lt) {p:Array Nat} (a:Arr n p) {m:Nat} (hm:m<=n) (h:∀ i,1<=i->i<m->lt (g p (i-1)) (g p i)=true):Srtd lt p m:=by
 intro i j hij hj
 obtain⟨d,rfl⟩:∃ d,j=i+1+d:=⟨j-(i+1),by omega⟩
 induction d with
 | zero=>exact h (i+1) (by omega) hj
 | succ d ih =>
  have h1:=ih (by omega) (by omega)
  have h2:=h (i+1+(d+1)) (by omega) hj
  exact o.tr _ _ _ (a.lt _ (by omega)) (a.lt _ (by omega)) (a.lt _ (by omega)) h1 h2
theorem xh4 (c:Cmp n lt cmp s) {p:Array Nat} (a:Arr n p) {G:Nat->Shared->Prop}:∀(f k:Nat),1<=k->k+f<=n ->
    (∀ m,k<=m->m<=k+f->(∀ i,k<=i->i<m->lt (g p i) (g p (i-1))=false)->(m<k+f->lt (g p m) (g p (m-1))=true)->G m s)->KasT.kasWp cmp (kas_asc p f k) G s
  | 0,k,h1,hf,hG=>by
    rw[xq9]
    exact xcc (hG k (Nat.le_refl _) (by omega) (fun i h h'=>by omega) (fun h=>by omega))
  | f+1,k,h1,hf,hG=>by
    rw[xri]
    refine xey (c _ _ (a.lt k (by omega)) (a.lt (k-1) (by omega)) _ ?_)
    cases e:lt (g p k) (g p (k-1)) with
    | true =>
      exact xcc (hG k (Nat.le_refl _) (by omega) (fun i h h'=>by omega) (fun _=>e))
    | false =>
      show KasT.kasWp cmp (kas_asc p f (k+1)) G s
      refine xh4 c a f (k+1) (by omega) (by omega) fun m hm hm2 h3 h4=>hG m (by omega) (by omega) (fun i hi hi2=>?_) (fun h=>h4 (by omega))
      by_cases z:i=k
      . rw[z]; exact e
      . exact h3 i (by omega) hi2
theorem xju (o:Ord n lt) (c:Cmp n lt cmp s) {p:Array Nat} (a:Arr n p) {G:Array Nat × Nat × Nat->Shared->Prop}:∀(f k:Nat),1<=k->k+f<=n ->
    (∀ m,k<=m->m<=k+f->(∀ i,k<=i->i<m->lt (g p i) (g p (i-1))=true)->G (p,m,0) s)->KasT.kasWp cmp (kas_desc f p k 0) G s
  | 0,k,h1,hf,hG=>by
    rw[xpy]
    exact xcc (hG k (Nat.le_refl _) (by omega) (fun i h h'=>by omega))
  | f+1,k,h1,hf,hG=>by
    rw[xqz]
    refine xey (c _ _ (a.lt k (by omega)) (a.lt (k-1) (by omega)) _ ?_)
    cases e:lt (g p k) (g p (k-1)) with
    | true =>
      show KasT.kasWp cmp (kas_desc f p (k+1) 0) G s
      refine xju o c a f (k+1) (by omega) (by omega) fun m hm hm2 h3=>hG m (by omega) (by omega) fun i hi hi2=>?_
      by_cases z:i=k
      . rw[z]; exact e
      . exact h3 i (by omega) hi2
    | false =>
      refine xey (c _ _ (a.lt (k-1) (by omega)) (a.lt k (by omega)) _ ?_)
      have ne:g p k≠g p (k-1):=fun z=>by have:=a.inj _ _ (by omega) (by omega) z; omega
      rw[show lt (p.getD (k-1) 0) (p.getD k 0)=true from o.tot _ _ (a.lt k (by omega)) (a.lt (k-1) (by omega)) ne e]
      exact xcc (hG k (Nat.le_refl _) (by omega) (fun i h h'=>by omega))
theorem Arr.rev {p:Array Nat} (a:Arr n p) {k:Nat} (hk:k<=n):Arr n (kas_rev p 0 k)/\∀ i,i<n->g (kas_rev p 0 k) i=if i<k then g p (k-1-i) else g p i:=by
 have ge:∀ i,i<n->g (kas_rev p 0 k) i=if i<k then g p (k-1-i) else g p i:=fun i hi=>by
  have z:=getElem?_mirror_all (xs:=p) (i:=0) (j:=k) (by rw[a.sz]; exact hk) i
  by_cases c:i<k
  .rw [if_pos c]
   rw[if_pos ⟨Nat.zero_le _,c⟩,show 0+k-1-i=k-1-i by omega,a.at (show k-1-i<n by omega)] at z
   exact g_at z
  .rw [if_neg c]
   rw[if_neg (fun w=>c w.2),a.at hi] at z
   exact g_at z
 refine⟨⟨by rw[kas_rev_size,a.sz],fun i hi=>?_,fun i j hi hj e=>?_,(mirror_perm _ _ _ _).trans a.pm⟩,ge⟩
 .rw [ge i hi]
  split<;>exact a.lt _ (by omega)
 .rw [ge i hi,ge j hj] at e
  split at e<;>split at e<;>have:=a.inj _ _ (by omega) (by omega) e<;>omega
theorem xni (o:Ord n lt) (c:Cmp n lt cmp s) {p:Array Nat} (a:Arr n p) (h2:2<=n) {G:Nat × Array Nat->Shared->Prop}
    (hG:∀ m p',1<=m->m<=n->Arr n p'->Srtd lt p' m->G (m,p') s):KasT.kasWp cmp (kas_count n p) G s:=by
  unfold kas_count
  rw[KasT.kasWp_bind]
  have up:∀ q,Arr n q->∀ i,1<=i->i<n->lt (g q i) (g q (i-1))=false->lt (g q (i-1)) (g q i)=true:=fun q b i h1 hi e =>
    o.tot _ _ (b.lt i hi) (b.lt (i-1) (by omega)) (fun z=>by have:=b.inj _ _ hi (by omega) z; omega) e
  refine xh4 c a (n-1) 1 (Nat.le_refl _) (by omega) fun m hm hm2 h3 h4=>?_
  have sm:Srtd lt p m:=xjg o a (by omega) fun i hi hi2=>up p a i hi (by omega) (h3 i hi hi2)
  show KasT.kasWp cmp (if (m == n)=true then _ else _) G s
  by_cases e1:m=n
  . rw[if_pos (by simpa using e1)]
    exact xcc (hG m p hm (by omega) a sm)
  . rw[if_neg (by simpa using e1)]
    by_cases e2:m>1
    . rw[if_pos e2]
      refine xey (c _ _ (a.lt 0 (by omega)) (a.lt (m-1) (by omega)) _ ?_)
      rw[show lt (p.getD 0 0) (p.getD (m-1) 0)=true from sm 0 (m-1) (by omega) (by omega)]
      exact xcc (hG m p hm (by omega) a sm)
    . rw[if_neg e2]
      have m1:m=1:=by omega
      subst m1
      have d1:=h4 (by omega)
      unfold kas_descPart
      rw[KasT.kasWp_bind]
      refine xju o c a (n-(1+1)) (1+1) (by omega) (by omega) fun k hk hk2 h5=>?_
      show KasT.kasWp cmp (if (0:Nat)>0 then _ else kas_tail3 k n p) G s
      rw[if_neg (Nat.lt_irrefl 0)]
      unfold kas_tail3
      rw[KasT.kasWp_bind]
      obtain⟨b,ge⟩:=a.rev (k:=k) (by omega)
      refine xh4 c b (n-k) k (by omega) (by omega) fun m' hm' hm2' h6 _=>?_
      refine xcc (hG m' _ (by omega) (by omega) b (xjg o b (by omega) fun i hi hi2=>?_))
      by_cases ik:i<k
      . rw[ge i (by omega),ge (i-1) (by omega),if_pos ik,if_pos (by omega)]
        have e3:k-1-(i-1)-1=k-1-i:=by omega
        by_cases z:k-1-(i-1)=1
        . have z':k-1-i=0:=by omega
          rw[z,z']
          exact d1
        . have:=h5 (k-1-(i-1)) (by omega) (by omega)
          rw[e3] at this
          exact this
      . exact up _ b i hi (by omega) (h6 i (by omega) hi2)
theorem xfv (o:Ord n lt) (c:Cmp n lt cmp s) {p:Array Nat} (a:Arr n p) {k:Nat} (hk:k<n) (sk:Srtd lt p k) {G:Nat->Shared->Prop}:∀(f l r:Nat),l<=r->r<=k->r-l<=f ->
    (∀ j,j<l->lt (g p k) (g p j)=false)->(∀ j,r<=j->j<k->lt (g p k) (g p j)=true) ->
    (∀ m,m<=k->(∀ j,j<m->lt (g p k) (g p j)=false)->(∀ j,m<=j->j<k->lt (g p k) (g p j)=true)->G m s)->KasT.kasWp cmp (kas_place p k f l r) G s
  | 0,l,r,h1,h2,h3,lo,hi,hG=>by
    rw[xof]
    exact xcc (hG l (by omega) lo fun j hj hj2=>hi j (by omega) hj2)
  | f+1,l,r,h1,h2,h3,lo,hi,hG=>by
    rw[xoc]
    by_cases e:l>=r
    . rw[if_pos e]
      exact xcc (hG l (by omega) lo fun j hj hj2=>hi j (by omega) hj2)
    . rw[if_neg e]
      have m1:(l+r) / 2<r:=by omega
      have m2:l<=(l+r) / 2:=by omega
      refine xey (c _ _ (a.lt k hk) (a.lt _ (by omega)) _ ?_)
      cases e2:lt (g p k) (g p ((l+r) / 2)) with
      | true =>
        show KasT.kasWp cmp (kas_place p k f l ((l+r) / 2)) G s
        refine xfv o c a hk sk f l _ m2 (by omega) (by omega) lo (fun j hj hj2=>?_) hG
        by_cases z:j=(l+r) / 2
        . rw[z]; exact e2
        . exact o.tr _ _ _ (a.lt k hk) (a.lt _ (by omega)) (a.lt _ (by omega)) e2 (sk _ _ (by omega) hj2)
      | false =>
        show KasT.kasWp cmp (kas_place p k f ((l+r) / 2+1) r) G s
        refine xfv o c a hk sk f _ r (by omega) h2 (by omega) (fun j hj=>?_) hi hG
        by_cases z:j=(l+r) / 2
        . rw[z]; exact e2
        . cases e3:lt (g p k) (g p j) with
          | false=>rfl
          | true =>
            have:=o.tr _ _ _ (a.lt k hk) (a.lt _ (by omega)) (a.lt _ (by omega)) e3 (sk j ((l+r) / 2) (by omega) (by omega))
            rw[e2] at this
            cases this
theorem Arr.bub {p:Array Nat} (a:Arr n p) {k m:Nat} (hk:k<n) (hm:m<=k):Arr n (bubble p k (k-m))/\∀ i,i<n->g (bubble p k (k-m)) i=if i=m then g p k else if m<i/\i<=k then g p (i-1) else g p i:=by
 have ge:∀ i,i<n->g (bubble p k (k-m)) i=if i=m then g p k else if m<i/\i<=k then g p (i-1) else g p i:=fun i hi=>by
  have z:=getElem?_bubble (xs:=p) (src:=k) (by rw[a.sz]; exact hk) (k-m) (by omega) i
  rw[show k-(k-m)=m by omega] at z
  by_cases c:i=m
  .rw [if_pos c]
   rw[if_pos c,a.at hk] at z
   exact g_at z
  .rw [if_neg c]
   rw[if_neg c] at z
   by_cases d:m<i/\i<=k
   .rw [if_pos d]
    rw[if_pos d,a.at (show i-1<n by omega)] at z
    exact g_at z
   .rw [if_neg d]
    rw[if_neg d,a.at hi] at z
    exact g_at z
 refine⟨⟨by rw[bubble_size,a.sz],fun i hi=>?_,fun i j hi hj e=>?_,(bubble_perm _ _ _).trans a.pm⟩,ge⟩
 .rw [ge i hi]
  split
  .exact a.lt _ hk
  .split<;>exact a.lt _ (by omega)
 .rw [ge i hi,ge j hj] at e
  split at e<;>(try split at e)<;>(try split at e)<;>(try split at e)<;>first|omega|(have:=a.inj _ _ (by omega) (by omega) e; omega)
theorem xmm (o:Ord n lt) (c:Cmp n lt cmp s) {G:Array Nat->Shared->Prop}:∀(f k:Nat) (p:Array Nat),k+f=n->Arr n p->Srtd lt p k->(∀ p',Arr n p'->Srtd lt p' n->G p' s)->KasT.kasWp cmp (kas_bin f p k) G s
 | 0,k,p,h,a,sk,hG=>by
  rw[xrw]
  have:k=n:=by omega
  subst this
  exact xcc (hG p a sk)
 | f+1,k,p,h,a,sk,hG=>by
  have hk:k<n:=by omega
  rw[xrm,KasT.kasWp_bind]
  refine xfv o c a hk sk k 0 k (Nat.zero_le _) (Nat.le_refl _) (by omega) (fun j hj=>by omega) (fun j hj hj2=>by omega) fun m hm lo hi=>?_
  obtain⟨b,ge⟩:=a.bub hk hm
  refine xmm o c f (k+1) _ (by omega) b (fun i j hij hj=>?_) hG
  have inS:∀ i,i<m->lt (g p i) (g p k)=true:=fun i hi'=>o.tot _ _ (a.lt k hk) (a.lt i (by omega)) (fun z=>by have:=a.inj _ _ hk (by omega) z; omega) (lo i hi')
  have g1:∀ i,i<n->i=m->g (bubble p k (k-m)) i=g p k:=fun i hi z=>by rw[ge i hi,if_pos z]
  have g2:∀ i,i<n->m<i->i<=k->g (bubble p k (k-m)) i=g p (i-1):=fun i hi z z2=>by rw[ge i hi,if_neg (by omega),if_pos ⟨z,z2⟩]
  have g3:∀ i,i<n->i<m->g (bubble p k (k-m)) i=g p i:=fun i hi z=>by rw[ge i hi,if_neg (by omega),if_neg (by omega)]
  by_cases j1:j=m
  .rw [g1 j (by omega) j1,g3 i (by omega) (by omega)]
   exact inS i (by omega)
  .by_cases i1:i=m
   .rw [g1 i (by omega) i1,g2 j (by omega) (by omega) (by omega)]
    exact hi (j-1) (by omega) (by omega)
   .by_cases j2:m<j
    .rw [g2 j (by omega) j2 (by omega)]
     by_cases i2:m<i
     .rw [g2 i (by omega) i2 (by omega)]
      exact sk _ _ (by omega) (by omega)
     .rw [g3 i (by omega) (by omega)]
      by_cases z:i=j-1
      .omega
      .exact sk _ _ (by omega) (by omega)
    .rw [g3 j (by omega) (by omega),g3 i (by omega) (by omega)]
     exact sk _ _ hij (by omega)
theorem xlz:Arr n (List.range n).toArray:=by
 have e:∀ i,i<n->g (List.range n).toArray i=i:=fun i hi=>g_at (by rw[List.getElem?_toArray,List.getElem?_range hi])
 exact⟨by simp,fun i hi=>by rw[e i hi]; exact hi,fun i j hi hj z=>by rw[e i hi,e j hj] at z; exact z,Array.Perm.refl _⟩
theorem sort_wp (o:Ord n lt) (c:Cmp n lt cmp s) (h2:2<=n) {G:Array Nat->Shared->Prop} (hG:∀ p,Arr n p->Srtd lt p n->G p s):KasT.kasWp cmp (kas_sort n) G s:=by
 unfold kas_sort
 rw[KasT.kasWp_bind]
 refine xni o c xlz h2 fun m p hm hm2 a sm=>?_
 show KasT.kasWp cmp (if m<n then _ else _) G s
 by_cases e:m<n
 .rw [if_pos e]
  show KasT.kasWp cmp (kas_bin (n-max m 1) p (max m 1)) G s
  rw[Nat.max_eq_left hm]
  exact xmm o c (n-m) m p (by omega) a sm hG
 .rw [if_neg e]
  have:m=n:=by omega
  subst this
  exact xcc (hG p a sm)
end
end Srt
namespace XL
open PySem
def Xat (h:Heap) (e:Addr) (cls:Value) (od tb:Option Addr):Prop :=
 ∃ oe vs,h.get? e=some oe/\oe.cls=cls/\oe.dict=od/\oe.data=.fields vs/\1<vs.size /\
  ((tb=none/\vs[1]?=some Value.none)\/∃ T oT ts,tb=some T/\vs[1]?=some (.ref T)/\T≠e/\h.get? T=some oT/\oT.data=.fields ts/\ts[3]?=some Value.none)
end XL
namespace XL
open PySem PySem.W PySem.Calls PyProof.Rows Builtin Builtin.ObjectAttr
def vErr:List Value:=[.type "ValueError",.type "Exception",.type "BaseException",.type "object"]
def xe9:List Value->Bool
 | []=>false
 | .ref c::r=>xe9 r||((.ref c::r:List Value) == vErr)
 | v::r=>(v::r) == vErr
def xok (K:Frag) (C:Addr):Bool:=(clsIn K C).any fun cd=>xe9 cd.mro
theorem xfu:∀{l:List Value},xe9 l=true->l.contains (.type "object")=true/\l.contains (.type "BaseException")=true/\l.isEmpty=false
 | [],e=>by cases e
 | v::r,e=>by
  have last:((v::r:List Value) == vErr)=true->(v::r).contains (.type "object")=true/\(v::r).contains (.type "BaseException")=true/\(v::r).isEmpty=false:=fun z=>by
   rw[eq_of_beq z]
   exact⟨by decide +kernel,by decide +kernel,rfl⟩
  cases v with
  | ref c =>
   rcases Bool.or_eq_true_iff.mp e with z|z
   .obtain ⟨a,b,_⟩:=xfu z
    exact⟨by rw[List.contains_cons,a,Bool.or_true],by rw[List.contains_cons,b,Bool.or_true],rfl⟩
   .exact last z
  | _=>exact last e
structure XC (K:Frag) (C:Addr):Prop where
 over:xok K C=true
 hd:hasDictIn K C=true
 sa:findIn K (.ref C) "__setattr__"=some (some (.builtin "object.__setattr__"))
 ga:findIn K (.ref C) "__getattribute__"=some (some (.builtin "BaseException.__getattribute__"))
 gh:findIn K (.ref C) "__getattr__"=some none
 ca:findIn K (.ref C) "__class__"=some (some (.builtin "object.__class__"))
 cg:specialIn K (.builtin "object.__class__") "__get__"=some (some (.builtin "getset_descriptor.__get__"))
 ct:takesIn K (.builtin "object.__class__")=some true
section
variable {prog:Program}{w:World}{A:Around}{E:Value->Shared->Prop}{s:Shared}{K:Frag}{x C dx:Addr}{ox:Obj}{od:Option Obj}{name:Str}{v:Value}{R:Result->Shared->Prop}
theorem XC.mro (c:XC K C):∃ cd,clsIn K C=some cd/\xe9 cd.mro=true/\cd.hasDict=true:=by
 obtain⟨cd,h1,h2⟩:=any_some c.over
 obtain⟨cd',h3,h4⟩:=any_some c.hd
 rw[h1] at h3
 cases h3
 exact⟨cd,h1,h2,h4⟩
theorem XC.isObj (c:XC K C):mroIn K C (.type "object")=some true:=by
 obtain⟨cd,h1,h2,_⟩:=c.mro
 obtain⟨a,_,b⟩:=xfu h2
 unfold mroIn
 rw[h1,Option.bind_some,if_neg (by rw[b]; decide),a]
theorem XC.isExc (c:XC K C):mroIn K C (.type "BaseException")=some true:=by
 obtain⟨cd,h1,h2,_⟩:=c.mro
 obtain⟨_,a,b⟩:=xfu h2
 unfold mroIn
 rw[h1,Option.bind_some,if_neg (by rw[b]; decide),a]
theorem xpa (v:Value):bindSpecial (.builtin "BaseException.__getattribute__") v=pure (.builtin "BaseException.__getattribute__",[v]):=by
 have f:=PySem.F.attr_ValueError.ga.bind v
 exact f
theorem xng:plainId "BaseException.__getattribute__"=true:=PySem.F.attr_ValueError.ga.plain
theorem xqn {Q:Value->Shared->Prop}{expr fill:Bool}{tk:Tok} (X:K.In s.heap) (c:XC K C) (I:InstAt s.heap x ox C od)
    (h:wpAny (model prog w) A.in1 (Builtin.«object.__getattribute__» ⟨[.ref x,.str name tk],[]⟩)
      (fun fin s'=>match fin with|.done (.ret v)=>wpAny (model prog w) A (handedOut v) Q E s'|_=>False) (fun _ _=>False) s) :
    wpAny (model prog w) A (getAttrBy (.ref x) (.str name tk) fill expr) Q E s:=by
  obtain⟨hh,g,d,t,os⟩:=s
  have L0:=I.type (M:=model prog w)
  have L1:=looks_findIn (M:=model prog w) X c.ga
  have L2:=looks_findIn (M:=model prog w) X c.gh
  have sub:Looks (model prog w) hh (isInstance (.ref x) (.type "BaseException")) true:=I.type.andThen (looks_mroIn X c.isExc)
  have f2:(onTheHeap (Value.ref C)&&Value.builtin "BaseException.__getattribute__" == Value.builtin "object.__getattribute__")=false:=by
    rw[show (Value.builtin "BaseException.__getattribute__" == Value.builtin "object.__getattribute__")=false from by decide +kernel]; rfl
  have f3:(expr&&onTheHeap (Value.builtin "BaseException.__getattribute__"))=false:=by cases expr<;>rfl
  unfold getAttrBy
  refine wpAny_holding (wpAny_bind (L0.at (wpAny_bind (L1.at ?_))))
  dsimp only
  rw[f2]
  simp only[Bool.false_eq_true,if_false]
  unfold getAttrByItsOwn hookBefore
  refine wpAny_bind (L2.at (wpAny_bind (wpAny_attempt (wpAny_holding ?_))))
  unfold callGetattribute
  rw[f3]
  simp only[Bool.false_eq_true,if_false]
  unfold boundAndCalled
  rw[xpa]
  refine wpAny_bind (wpAny_pure (wpAny_call (codeAny_call_builtin xng PySem.F.entry_bexc_ga
    (@check_slot (model prog w) _ _ ⟨hh,g,d,t,os⟩ "BaseException.__getattribute__" "BaseException" "__getattribute__" (.ref x) [.str name tk] [] _ (by decide +kernel) (by decide +kernel) sub (PySem.F.args_bexc_ga _ _) ?_))))
  refine wpAny_mono h (fun fin s' z=>?_) fun e s' z=>z.elim
  rcases fin with (_|_|_|_)|_<;>first|exact z|exact z.elim
theorem xnc {Q:Option Value->Shared->Prop} (X:K.In s.heap) (c:XC K C) (I:InstAt s.heap x ox C od) (h:Q (some (.ref C)) { s with toks:=s.toks+1 }) :
    wpAny (model prog w) A (getAttr? (.ref x) "__class__") Q E s:=by
  obtain⟨cd,h1,_,h2⟩:=c.mro
  have hf:findObj K C od "__class__"=some (.bind (.builtin "getset_descriptor.__get__") (.builtin "object.__class__")):=by
    unfold findObj
    rw[h1,Option.bind_some,c.ca,Option.bind_some]
    simp[c.cg,c.ct]
  unfold getAttr? getAttrBy?
  refine wpAny_bind (wpAny_mkText (wpAny_bind (wpAny_attempt ?_)))
  refine xqn (s:={ s with toks:=s.toks+1 }) X c I ?_
  have L0:=I.type (M:=model prog w)
  have L1:=looks_find (M:=model prog w) X I hf
  refine wpAny_bind (wpAny_pure (wpAny_bind (wpAny_pure (wpAny_bind (L0.here (s:={ s with toks:=s.toks+1 }) (wpAny_bind (L1.here (s:={ s with toks:=s.toks+1 }) ?_)))))))
  show wpAny _ _ (holding [_] (call _ [_,.ref x,.ref C])>>=ret) _ _ _
  refine wpAny_bind (wpAny_holding (wpAny_call (class_get (s:={ s with toks:=s.toks+1 }) (ox:=ox) (od:=od) X I c.isObj ?_)))
  refine wpAny_pure ?_
  show wpAny _ _ (handedOut (.ref C)) _ _ _
  exact wpAny_pure (wpAny_pure h)
end
end XL
namespace XL
open PySem
end XL
namespace L2
open PySem PySem.Spec PyProof.Rows XL
variable {q0:Bool}
def XO (e C:Addr) (od:Option Addr):HO:=.ext fun h=>∃ ox vs,h.get? e=some ox/\ox.cls=.ref C/\ox.dict=od/\ox.data=.fields vs
def XD (dx:Addr) (fs:List (Str × V)):HO:=.ext fun h=>fs.length<=1000/\∃ mA,h.Ns1 dx mA/\(∀ f,RelO (fs.lookup f) (mA f))/\PySem.Within mA (fs.map (·.1))
def CXo (P:Program) (w:World):CXT:=fun outer H s E u s'=>∃ e C od H' T,u=.ref e/\s'.os=s.os/\AllBare s'.gens/\Un (frs outer) [] H H' s.heap s'.heap/\HOk P w H' s'.heap /\
 Xat s'.heap e (.ref C) od (some T)/\H' e=some (XO e C od)/\s.heap.objs.size<=T/\H' T=none/\E e C H'
section
variable {X:Cx}{pins:List (Addr × Obj)}{σ:St}{H:Hp}{s:Shared}{e C:Addr}{od tb:Option Addr}
theorem Inv.size_lt (I:Inv X pins σ H s) {b:Addr} (h:s.heap.objs.size<=b):H b=none/\b≠X.env.locals/\(∀ x c,X.env.cells.lookup x=some c->c≠b)/\∀ p∈X.pn++pins,p.1≠b:=by
 refine⟨I.hok.fresh h,fun z=>?_,fun x c hc z=>?_,fun p hp z=>?_⟩
 .rw [z] at h
  exact absurd I.lt (Nat.not_lt.mpr h)
 .obtain ⟨v,o,ho,_⟩:=I.cell x c hc
  rw[z] at ho
  exact absurd (Heap.lt_size ho) (Nat.not_lt.mpr h)
 .have g:=(I.pin p hp).1
  rw[z] at g
  exact absurd (Heap.lt_size g) (Nat.not_lt.mpr h)
theorem xk:xda (CXo X.prog X.w) X (fun _ _ _ _=>False):=fun pins σ H s u s' I h=>by
 obtain⟨e,C,od,H',T,_,_,_,_,_,_,_,_,_,q⟩:=h
 exact q.elim
end
end L2
namespace XL
open PySem PySem.W
end XL
namespace L2
open PySem PySem.Spec PyProof.Rows XL
variable {q0:Bool}
section
variable {X:Cx}{pins:List (Addr × Obj)}{σ:St}{H:Hp}{s:Shared}{a C dx:Addr}{od:Option Addr}{fs:List (Str × V)}{f:Str}{v y:V}{u:Value}{A:Around}{E:Value->Shared->Prop}
theorem xrn (I:Inv X pins σ H s) (e:H a=some (XO a C od)):∃ ox vs,s.heap.get? a=some ox/\ox.cls=.ref C/\ox.dict=od/\ox.data=.fields vs:=(I.hok a _ e).1
theorem xn7 (I:Inv X pins σ H s) (e:H dx=some (XD dx fs)):fs.length<=1000/\∃ mA,s.heap.Ns1 dx mA/\(∀ f,RelO (fs.lookup f) (mA f))/\PySem.Within mA (fs.map (·.1)):=(I.hok dx _ e).1
theorem xia {o:Obj}{vs:Array Value} (d:o.data=.fields vs):PySem.W.notCls o=true:=by
 unfold PySem.W.notCls
 rw[d]
end
end L2
namespace XL
open PySem PySem.W
end XL
namespace L2
open PySem PySem.Spec PyProof.Rows XL
variable {q0:Bool}
end L2
namespace XL
open PySem PySem.W
theorem xli {K:Frag}{x C:Addr} (c:XC K C):KitX K (.ref x) (.ref C) (fun h=>∃ ox od,InstAt h x ox C od) where
 ty:=fun _ _ _ ⟨_,_,I⟩=>I.type
 it:=fun _ _ X _=>by
  obtain⟨cd,hc,_,_⟩:=c.mro
  unfold clsIn at hc
  split at hc
  .rename_i c' d' cd' sl' ho
   intro A' Q' E' s' k q
   unfold isType loadHead
   exact wpAny_bind (wpAny_loadPart (k _ _ (X _ _ ho)) (wpAny_pure q))
  .cases hc
 ne:=fun h tp dd its n sl X htp=>by
  obtain⟨cd,hc,_,_⟩:=c.mro
  refine Bool.eq_false_iff.mpr fun q=>?_
  have e:C=tp:=Value.ref.inj (beq_iff_eq.mp q)
  subst e
  unfold clsIn at hc
  split at hc
  .rename_i c' d' cd' sl' ho
   have z:=(X _ _ ho).symm.trans htp
   cases z
  .cases hc
 ca:=fun X ⟨ox,od,I⟩ k=>xnc X c I k
end XL
namespace L2
open PySem PySem.Spec PyProof.Rows XL
variable {q0:Bool}
def clsV:V->Option Value
 | .ty n=>some (.type n)
 | .ref a=>some (.ref a)
 | _=>none
theorem xfq {c:V}{u cv:Value} (e:clsV c=some cv) (r:RelV c u):u=cv:=by
 cases c<;>first|(cases e; exact r)|cases e
def xk0:List V->Option (List Value)
 | []=>some []
 | c::r=>(clsV c).bind fun a=>(xk0 r).map (a::·)
theorem xhi:∀{cs:List V}{us cv:List Value},xk0 cs=some cv->Vals cs us->us=cv
 | [],_,_,e,.nil=>by cases e; rfl
 | c::r,_,_,e,.cons rc rr=>by
  obtain⟨a,e1,e2⟩:=Option.bind_eq_some_iff.mp e
  obtain⟨b,e3,rfl⟩:=Option.map_eq_some_iff.mp e2
  rw[xfq e1 rc,xhi e3 rr]
section
variable {X:Cx}{pins:List (Addr × Obj)}{σ:St}{H:Hp}{s:Shared}{A:Around}{E:Value->Shared->Prop}{Q:Value->Shared->Prop}
theorem xj8 {a C:Addr}{od:Option Addr} (I:Inv X pins σ H s) (h:H a=some (XO a C od)) (hd:∀ d,od=some d->∃ o,s.heap.get? d=some o):∃ ox odx,PySem.W.InstAt s.heap a ox C odx:=by
 obtain⟨ox,vs,g,ce,oo,de⟩:=xrn I h
 cases e:od with
 | none=>exact⟨ox,none,g,ce,xia de,by rw[oo,e]; trivial⟩
 | some d =>
  obtain⟨o,go⟩:=hd d e
  exact⟨ox,some o,g,ce,xia de,by rw[oo,e]; exact go⟩
end
def xr1 (K:PySem.W.Frag):List V->Hp->VK->Prop:=fun xs H Q=>∃ x c,xs=[x,c]/\((∃ t cv b,TyOf K H x t/\clsV c=some cv/\PySem.W.kitOne K t cv=some b/\Q (.bl b) H) \/
 (∃ a C od cv b,x=.ref a/\H a=some (XO a C od)/\(∀ d,od=some d->∃ fs,H d=some (XD d fs))/\XC K C/\clsV c=some cv/\PySem.W.kitOne K (.ref C) cv=some b/\Q (.bl b) H) \/
 (∃ a C od p cs cv b,x=.ref a/\H a=some (XO a C od)/\(∀ d,od=some d->∃ fs,H d=some (XD d fs))/\XC K C/\c=.ref p/\SqT K H p cs/\xk0 cs=some cv/\PySem.W.kitAny K (.ref C) cv=some b/\Q (.bl b) H))
section
variable {X:Cx}
theorem xdd:xb4 X (.builtin "isinstance") (xr1 X.K):=by
 intro pins s σ H us xs Q I r h
 obtain⟨x,c,rfl,h⟩:=h
 obtain⟨u,v,rfl,ru,rv⟩:=xkk r
 rcases h with⟨t,cv,b,ty,ec,ek,q⟩|⟨a,C,od,cv,b,rfl,ha,hd,xc,ec,ek,q⟩|⟨a,C,od,p,cs,cv,b,rfl,ha,hd,xc,rfl,hp,ec,ek,q⟩
 .obtain rfl:=xfq ec rv
  exact xlw I ru ty ek fun tk=>⟨.bl b,H,I.tok tk,rfl,q⟩
 .obtain rfl:=xfq ec rv
  obtain rfl:u=Value.ref a:=ru
  refine PySem.W.kia_one (xli xc) I.kIn (xj8 I ha fun d e=>?_) ek (fun z=>nomatch z) fun tk=>⟨.bl b,H,I.tok tk,rfl,q⟩
  obtain⟨fs,hw⟩:=hd d e
  obtain⟨_,_,⟨o,_,_,go,_⟩,_⟩:=xn7 I hw
  exact⟨o,go⟩
 .obtain rfl:u=Value.ref a:=ru
  obtain rfl:v=Value.ref p:=rv
  obtain⟨its,vi,it,_⟩:=I.tuple hp
  obtain rfl:=xhi ec vi
  obtain⟨o,g,oc,n,od'⟩:=it
  obtain⟨c1,d1,dt1,sl1⟩:=o
  dsimp only at oc od'
  subst oc od'
  refine PySem.W.kia_tup (xli xc) I.kIn (xj8 I ha fun d e=>?_) g ek (fun z=>nomatch z) fun tk=>⟨.bl b,H,I.tok tk,rfl,q⟩
  obtain⟨fs,hw⟩:=hd d e
  obtain⟨_,_,⟨o,_,_,go,_⟩,_⟩:=xn7 I hw
  exact⟨o,go⟩
end
def xc0 (scope:Scope):List Str:=(scope.names.filter fun x=>x.2 == .free).map (·.1)
def Cx.clo (X:Cx) (scope:Scope):List (Str × Addr):=(xc0 scope).reverse.map fun n=>(n,(X.env.cells.lookup n).getD 0)
theorem xgd {env:Env}{f:Str->Addr}:∀(l:List (Str × NameKind)) (acc:List (Str × Addr)),(∀ x∈l,x.2=.free->env.cells.lookup x.1=some (f x.1)) ->
    (forIn l acc fun x cs=>(if x.2 == .free then do let c <- cellOf env x.1; pure (ForInStep.yield ((x.1,c)::cs)) else pure (ForInStep.yield cs):Sem (ForInStep (List (Str × Addr))))) =
      pure ((((l.filter fun x=>x.2 == .free).map (·.1)).reverse.map fun n=>(n,f n))++acc)
  | [],acc,_=>rfl
  | x::r,acc,h=>by
    have ih:=fun a=>xgd r a fun y hy=>h y (List.mem_cons_of_mem _ hy)
    rw[List.forIn_cons]
    by_cases q:x.2=.free
    . have e:=h x List.mem_cons_self q
      have qb:(x.2 == NameKind.free)=true:=by rw[q]; rfl
      rw[if_pos qb,List.filter_cons,if_pos qb]
      have ec:cellOf env x.1=pure (f x.1):=by unfold cellOf; rw[e]
      rw[ec]
      simp only[pure_bind]
      rw[ih]
      simp
    . have qb:(x.2 == NameKind.free)=false:=by simpa using q
      rw[if_neg (by rw[qb]; decide),List.filter_cons,if_neg (by rw[qb]; decide)]
      simp only[pure_bind]
      rw[ih]
theorem xl9 {X:Cx}{scope:Scope} (h:∀ n∈xc0 scope,∃ c,X.env.cells.lookup n=some c):closureFor scope X.env=pure (X.clo scope):=by
 unfold closureFor
 have z:=xgd (env:=X.env) (f:=fun n=>(X.env.cells.lookup n).getD 0) scope.names [] fun x hx hf=>by
  obtain⟨c,e⟩:=h x.1 (List.mem_map.mpr ⟨x,List.mem_filter.mpr ⟨hx,by simp[hf]⟩,rfl⟩)
  rw[e]
  rfl
 rw[List.append_nil] at z
 refine (bind_pure (m:=Sem) _).trans ?_
 exact z
theorem xo4 {X:Cx}{scope:Scope}{n:Str}{c:Addr} (h:(X.clo scope).lookup n=some c):n∈xc0 scope/\c=(X.env.cells.lookup n).getD 0:=by
 have z:=PySem.mem_of_lookup h
 unfold Cx.clo at z
 obtain⟨y,hy,e⟩:=List.mem_map.mp z
 injection e with e1 e2
 subst e1
 exact⟨List.mem_reverse.mp hy,e2.symm⟩
theorem xdz {f:Str->Addr}{n:Str}:∀{l:List Str},n∈l->(l.map fun y=>(y,f y)).lookup n=some (f n)
 | [],h=>by simp at h
 | y::r,h=>by
  rw[List.map_cons,List.lookup_cons]
  by_cases q:n=y
  .subst q
   simp
  .rw [show (n == y)=false from by simpa using q]
   exact xdz ((List.mem_cons.mp h).resolve_left q)
theorem xkd {X:Cx}{scope:Scope}{n:Str}{c:Addr} (hn:n∈xc0 scope) (h:X.env.cells.lookup n=some c):(X.clo scope).lookup n=some c:=by
 have z:=xdz (f:=fun n=>(X.env.cells.lookup n).getD 0) (List.mem_reverse.mpr hn)
 unfold Cx.clo
 rw[z,h]
 rfl
def xei:TT:=fun _ H Q=>Q true H
def PIf (X:Cx) (ifs:List Expr) (t:TT):Prop :=
 ∀(pins:List (Addr × Obj)) (s:Shared) (σ:St) (H:Hp) (Q:Bool->Hp->Prop),Inv X pins σ H s->t σ H Q ->
  wpAny (model X.prog X.w) X.A (forIn ifs true fun c r=>if r=true then do let ok <- isTrue c X.env (eval c X.env); pure (ForInStep.yield ok) else pure (ForInStep.yield r)) (TP X pins σ Q) X.xe s
theorem xbh {X:Cx}:PIf X [] xei:=fun pins s σ H Q I h=>wpAny_pure ⟨H,I,h⟩
theorem xd6 {X:Cx}{c:Expr}{t:TT} (hc:PT X c t):PIf X [c] t:=fun pins s σ H Q I h=>by
 rw[List.forIn_cons]
 refine wpAny_bind ?_
 rw[if_pos rfl]
 refine wpAny_bind (wpAny_mono (hc pins s σ H Q I h) (fun b s1 q=>wpAny_pure ?_) fun _ _ z=>z)
 exact wpAny_pure q
theorem xlj {env:Env}{scope:Scope} (nc:∀ y∈scope.names,y.2≠.cell) (n:Str) (h:(relabel scope env).names.lookup n=some .cell\/(relabel scope env).names.lookup n=some .free):n∈xc0 scope:=by
 have key:∀ k,(relabel scope env).names.lookup n=some k->(k=.cell\/k=.free)->n∈xc0 scope:=fun k e hk=>by
  obtain⟨y,hy,ey⟩:=List.mem_map.mp (PySem.mem_of_lookup e)
  obtain⟨m,j⟩:=y
  dsimp only at ey
  split at ey
  .rename_i q
   injection ey with e1 e2
   subst e1
   have:j=.free:=by
    simp only[Bool.and_eq_true,beq_iff_eq] at q
    exact q.1.1
   subst this
   exact List.mem_map.mpr ⟨_,List.mem_filter.mpr ⟨hy,by simp⟩,rfl⟩
  .injection ey with e1 e2
   subst e1 e2
   rcases hk with z|z
   .exact absurd z (nc _ hy)
   .subst z
    exact List.mem_map.mpr ⟨_,List.mem_filter.mpr ⟨hy,by simp⟩,rfl⟩
 rcases h with h|h
 .exact key _ h (.inl rfl)
 .exact key _ h (.inr rfl)
theorem xkq {env:Env}{scope:Scope}{n:Str} (h:scope.names.lookup n=some .free):(relabel scope env).names.lookup n=some .cell\/(relabel scope env).names.lookup n=some .free:=by
  have key:∀(l:List (Str × NameKind)),l.lookup n=some .free->(l.map fun (m,k)=>if (k == NameKind.free&&env.scope.kind == .function&&env.kindOf m == some .cell) then (m,NameKind.cell) else (m,k)).lookup n=some .cell \/
      (l.map fun (m,k)=>if (k == NameKind.free&&env.scope.kind == .function&&env.kindOf m == some .cell) then (m,NameKind.cell) else (m,k)).lookup n=some .free:=fun l=>by
    induction l with
    | nil=>intro e; simp at e
    | cons y r ih =>
      intro e
      obtain⟨m,k⟩:=y
      rw[List.map_cons]
      rw[List.lookup_cons] at e
      cases q:n == m with
      | true =>
        rw[q] at e
        cases e
        dsimp only
        split
        . left; rw[List.lookup_cons,q]
        . right; rw[List.lookup_cons,q]
      | false =>
        rw[q] at e
        have z:=ih e
        dsimp only
        split<;>(rw[List.lookup_cons,q]; exact z)
  exact key _ h
section
variable {P:Program}{w:World}{K:PySem.W.Frag}{mg:Str->Option Value}{base:Heap}
theorem Fun.okn {x qual:Str}{st:Stmt}{f:Addr}{fd:FuncData}{N ps:List Str}{k:Nat}{sp:Sp} (F:Fun K x qual st f fd) (S:x9 N ps (xi st)) (len:∀ vs H Q E,sp vs H Q E->vs.length=ps.length)
    (hbody:∀(cdv:Value) (A:Around) (outer:List Env) (s:Shared) (H:Hp) (vs:List V) (Q:VK) (E:XK),Room q0 k (A.deeper (envOfC qual (xi st) s.heap.objs.size f cdv))->sp vs H Q E ->
      ∃ t,PSs (cxOf q0 (CXo P w) P w K mg base N qual (xi st) f cdv A outer s H E).nox (xw st) t/\t { nx:=fun _ H'=>Q .non H',rt:=Q } (start N vs) H):FnOk q0 P w K mg base (CXo P w) (k+1) f fd ps sp:=by
  obtain⟨oc,od,kV,doc,pm,an,cdv,ct,osl,rfl,lk,hcd⟩:=F.ex
  refine xkm lk hcd S len fun A outer s H vs Q E hr hsp=>?_
  obtain⟨t,h,q⟩:=hbody cdv A outer s H vs Q E hr hsp
  exact⟨t,h.nox,q⟩
end
end L2
namespace L2
open PySem PySem.Spec PyProof.Rows XL
theorem ifP {b:Bool}{A B:Prop} (h:b=true) (q:A):if b=true then A else B:=by
 rw[if_pos h]
 exact q
theorem ifN {b:Bool}{A B:Prop} (h:b=false) (q:B):if b=true then A else B:=by
 rw[if_neg (by rw[h]; decide)]
 exact q
section
variable {X:Cx}
theorem xg0:OpR X (compareOp .LtE) (fun x y H Q=>∃ i j,x=.str i/\y=.str j/\Q (.bl (!decide (j.cps.toList<i.cps.toList))) H):=by
 intro pins s σ H x y v u Q I rx ry h
 obtain⟨i,j,rfl,rfl,q⟩:=h
 obtain⟨t,rfl⟩:=rx
 obtain⟨t',rfl⟩:=ry
 exact PySem.P.le_str (xap I q rfl)
theorem xjc:xb4 X (.type "range") (fun xs H Q=>∃ i j,xs=[.int i,.int j]/\∀ p,H p=none->Q (.ref p) (upd H p (.rng i j))):=by
 intro pins s σ H xs us Q I r h
 obtain⟨i,j,rfl,q⟩:=h
 obtain⟨u,w',rfl,⟨t,rfl⟩,⟨t',rfl⟩⟩:=xkk r
 refine call_range_2 ⟨.ref s.heap.objs.size,_,I.laid (t':=s.toks+1) (fun b o e=>Heap.get?_push_of_some _ e) (Nat.le_refl _) (show xaw X.prog X.w _ _ _ (.rng i j) from ⟨_,_,_,Heap.get?_push_size _ rfl⟩),rfl,q _ (I.hok.fresh (Nat.le_refl _))⟩
end
end L2
namespace L2
open PySem PySem.Spec PyProof.Rows
variable {q0:Bool}
section
variable {X:Cx}
theorem xfg:∀{us:List Value}{ys:List V},us.length=ys.length->(∀(j:Nat) (y:V) (u:Value),ys[j]?=some y->us[j]?=some u->RelV y u)->Vals ys us
 | [],[],_,_=>.nil
 | u::us,y::ys,hl,h=>.cons (h 0 y u rfl rfl) (xfg (Nat.succ.inj hl) fun j y' u' e e'=>h (j+1) y' u' e e')
def rngL (lo hi:Int):List V:=(List.range (hi-lo).toNat).map fun (i:Nat)=>V.int (lo+(i:Int))
theorem xhn (hc:X.calm=true):xb4 X (.type "list") (fun xs H Q=>∃ p lo hi,xs=[.ref p]/\H p=some (.rng lo hi)/\(-(2 ^ 62)<=lo/\lo<2 ^ 62/\-(2 ^ 62)<=hi/\hi<2 ^ 62)/\(hi-lo).toNat<=1000 /\
    ∀ l,H l=none->Q (.ref l) (upd H l (.lst (rngL lo hi)))):=by
  intro pins s σ H xs us Q I r h
  obtain⟨p,lo,hi,rfl,hp,⟨h1,h2,h3,h4⟩,hn,q⟩:=h
  obtain⟨u,rfl,rx⟩:=xcm r
  cases rx
  obtain⟨t1,t2,t3,g⟩:=(show xaw X.prog X.w H s.heap p (.rng lo hi) from I.hok p _ hp)
  refine call_list_range (I.ok.hd hc) g (small_one h1 h2 h3 h4) (n:=(hi-lo).toNat) (by rw[rangeSize_one]; split<;>omega) (Nat.le_trans hn (by decide)) fun h' tk acc' c' kp e it=>?_
  have len:acc'.toList.length=(rngL lo hi).length:=by rw[rngL,List.length_map,List.length_range]; exact it.1
  refine⟨.ref s.heap.objs.size,_,I.laid (t':=tk) kp (Nat.le_refl _) (show xaw X.prog X.w _ h' _ (.lst (rngL lo hi)) from ⟨?_,acc'.toList,c',xfg len fun j y u ey eu=>?_,by simpa using e⟩),rfl,q _ (I.hok.fresh (Nat.le_refl _))⟩
  . rw[rngL,List.length_map,List.length_range]
    exact Nat.le_trans hn (by decide)
  . have eu':acc'[j]?=some u:=by simpa using eu
    obtain⟨t,e2⟩:=it.2 j u eu'
    have lt:j<(hi-lo).toNat:=by
      have:=(List.getElem?_eq_some_iff.mp ey).1
      simpa [rngL] using this
    rw[rngL,List.getElem?_map,List.getElem?_range lt] at ey
    cases ey
    exact⟨t,by rw[e2,Int.mul_one]⟩
end
structure FunD (K:PySem.W.Frag) (x qual:Str) (st:Stmt) (T f:Addr) (fd:FuncData):Prop where
 ex:∃(oc:Value) (od:Option Addr) (kV doc pm:Value) (an:Option Addr) (cdv ct:Value) (osl:Array (Option Value)),
  fd=PySem.W.fnOf x qual (xz st) (xw st) (xi st) (.ref T) kV doc pm an cdv ct/\K.lookup f=some ⟨oc,od,.func fd,osl⟩/\PySem.W.codeIn K cdv qual=true
 kp:PySem.W.keepIn K (.ref f)=true
section
variable {P:Program}{w:World}{K:PySem.W.Frag}{mg:Str->Option Value}{base:Heap}
theorem FunD.okn {x qual:Str}{st:Stmt}{T f:Addr}{fd:FuncData}{N ps:List Str}{k:Nat}{sp:Sp} (F:FunD K x qual st T f fd) (S:x9 N ps (xi st)) (len:∀ vs H Q E,sp vs H Q E->vs.length=ps.length)
    (hbody:∀(cdv:Value) (A:Around) (outer:List Env) (s:Shared) (H:Hp) (vs:List V) (Q:VK) (E:XK),Room q0 k (A.deeper (envOfC qual (xi st) s.heap.objs.size f cdv))->sp vs H Q E ->
      ∃ t,PSs (cxOf q0 (CXo P w) P w K mg base N qual (xi st) f cdv A outer s H E).nox (xw st) t/\t { nx:=fun _ H'=>Q .non H',rt:=Q } (start N vs) H):FnOk q0 P w K mg base (CXo P w) (k+1) f fd ps sp:=by
  obtain⟨oc,od,kV,doc,pm,an,cdv,ct,osl,rfl,lk,hcd⟩:=F.ex
  refine xkm lk hcd S len fun A outer s H vs Q E hr hsp=>?_
  obtain⟨t,h,q⟩:=hbody cdv A outer s H vs Q E hr hsp
  exact⟨t,h.nox,q⟩
theorem FunD.binds {x qual:Str}{st:Stmt}{T f:Addr}{fd:FuncData}{ps:List Str}{o:Obj}{items:Array Value}{n:Nat}{ds:List Value} (F:FunD K x qual st T f fd) (ho:K.lookup T=some o) (hs:o.data=.seq items n) (m:Nat) (hm:m+ds.length=ps.length)
    (h:∀(kV doc pm:Value) (an:Option Addr) (cdv ct:Value) (us:List Value),us.length=m ->
      ∃ k,bindArgs (PySem.W.fnOf x qual (xz st) (xw st) (xi st) (.ref T) kV doc pm an cdv ct) ⟨us,[]⟩=seqItems? (.ref T)>>=k/\k (some items)=pure (ps.zip (us++ds))):xad K fd ps ds:=by
  obtain⟨oc,od,kV,doc,pm,an,cdv,ct,osl,rfl,lk,hcd⟩:=F.ex
  intro s us hK hl
  rw[List.length_append] at hl
  obtain⟨k,h1,h2⟩:=h kV doc pm an cdv ct us (by omega)
  exact BindsTo.of_defaults rfl (hK _ _ ho) hs h1 h2
theorem xj9 {x qual:Str}{st:Stmt}{T f:Addr}{oc:Value}{od an:Option Addr}{osl:Array (Option Value)}{kV doc pm cdv ct:Value} (l:K.lookup f=some ⟨oc,od,.func (PySem.W.fnOf x qual (xz st) (xw st) (xi st) (.ref T) kV doc pm an cdv ct),osl⟩)
    (c:PySem.W.codeIn K cdv qual=true) (k:PySem.W.keepIn K (.ref f)=true):FunD K x qual st T f (PySem.W.fnOf x qual (xz st) (xw st) (xi st) (.ref T) kV doc pm an cdv ct):=⟨⟨oc,od,kV,doc,pm,an,cdv,ct,osl,rfl,l,c⟩,k⟩
end
end L2
namespace L2
open PySem PySem.Spec PyProof.Rows XL
variable {q0:Bool}
abbrev Cx.blkG (X:Cx) (scope:Scope) (zs:List Str) (ys:List Str) (C:Addr) (ex:List Addr) (s:Shared) (H:Hp) (pn:List (Addr × Obj)):Cx where
 prog:=X.prog
 w:=X.w
 K:=X.K
 mg:=X.mg
 base:=X.base
 A:=X.A
 N:=zs++ys
 s₀:=s
 H₀:=H
 env:=compEnvC scope (X.clo scope) C X.env
 outer:=X.stack
 stack:=X.stack
 ex:=ex
 fn:=fun _=>false
 calm:=X.calm
 pn:=pn
 xe:=fun _ _=>False
theorem xf7 {prog:Program}{w:World}{A:Around}{R:Result->Shared->Prop}{s:Shared}{elt target iter:Expr}{ifs:List Expr}{scope:Scope}{pos:Pos}{it acc:Value}{env:Env} (I:Nat->Shared->Prop)
    (turn:∀ n s,I n s->wpAny (model prog w) A (pyNext it) (fun r s₁=>match r with
      | none=>R (.ok .next) s₁
      | some v=>wpAny (model prog w) A (letOwnedTupleGo target it v) (fun _ s₀=>wpAny (model prog w) A (assign target env v) (fun _ s₂ =>
          wpAny (model prog w) A (forIn ifs true fun c r=>if r=true then do let ok <- isTrue c env (eval c env); pure (ForInStep.yield ok) else pure (ForInStep.yield r)) (fun ok s₃ =>
            if ok=true then wpAny (model prog w) A (eval elt env) (fun x s₄ =>
              wpAny (model prog w) A (call (.builtin "list.append") [acc,x]) (fun _ s₅=>∃ m,m<n/\I m s₅) (notedBy (model prog w) A env fun e s'=>R (.error e) s') s₄) (notedBy (model prog w) A env fun e s'=>R (.error e) s') s₃
            else ∃ m,m<n/\I m s₃) (notedBy (model prog w) A env fun e s'=>R (.error e) s') s₂) (notedBy (model prog w) A env fun e s'=>R (.error e) s') s₀) (notedBy (model prog w) A env fun e s'=>R (.error e) s') s₁) (notedBy (model prog w) A env fun e s'=>R (.error e) s') s)
    (n:Nat) (h:I n s):codeAny (model prog w) A (.compLoop (.ListComp elt [⟨target,iter,ifs,0⟩] scope pos) 0 it acc env) R s:=by
  refine codeAny_loop rfl I (fun n s hI=>?_) n h
  show wpAny _ A ((compTurn (.ListComp elt [⟨target,iter,ifs,0⟩] scope pos) 0 it acc env).onRaise (fun x=>do noteFrame x env; theTreesLotGoes x)) _ _ s
  refine wpAny_noted ?_
  rw[compTurn_list]
  refine wpAny_bind (wpAny_standAt (wpAny_bind (wpAny_mono (turn n s hI) (fun r s₁ h₁=>?_) fun _ _ h'=>h')))
  cases r with
  | none=>exact wpAny_pure h₁
  | some v =>
    refine wpAny_bind (wpAny_mono h₁ (fun _ s₀ h₀=>wpAny_bind (wpAny_mono h₀ (fun _ s₂ h₂=>wpAny_bind (wpAny_mono h₂ (fun ok s₃ h₃=>?_) fun _ _ h'=>h')) fun _ _ h'=>h')) fun _ _ h'=>h')
    cases ok with
    | false=>exact wpAny_pure ⟨rfl,h₃⟩
    | true =>
      exact wpAny_bind (wpAny_bind (wpAny_mono h₃ (fun x s₄ h₄=>wpAny_bind (wpAny_mono h₄ (fun _ s₅ h₅=>wpAny_pure (wpAny_pure ⟨rfl,h₅⟩)) fun _ _ h'=>h')) fun _ _ h'=>h'))
structure BlkG (X:Cx) (scope:Scope) (zs:List Str) (ys:List Str) (fr:List Nat):Prop where
 kind:scope.kind=.function
 own:∀ x∈zs,scope.names.lookup x=some .local
 ncell:∀ y∈scope.names,y.2≠.cell
 names:∀ y∈scope.names,y.2=.local->scope.names.lookup y.1=some .local
 free:∀ n∈xc0 scope,X.env.scope.names.lookup n=some .cell
 has:∀ n,((relabel scope X.env).names.lookup n=some .cell\/(relabel scope X.env).names.lookup n=some .free)->n∈xc0 scope
 slots:fr.map (fun i=>X.N[i]?)=ys.map some
 ysf:∀ y∈ys,y∈xc0 scope
 ysc:∀ y∈ys,(relabel scope X.env).names.lookup y=some .cell\/(relabel scope X.env).names.lookup y=some .free
 nd:X.N.Nodup
 ndb:(zs++ys).Nodup
def blk0 (σ:St) (fr:List Nat) (n:Nat):St:=List.replicate n none++fr.map fun i=>(σ[i]?).join
section
variable {X:Cx}{pins:List (Addr × Obj)}{σ:St}{H:Hp}{s:Shared}{scope:Scope}{zs:List Str}{ys:List Str}{fr:List Nat}{fp:List Addr}
theorem BlkG.cells (B:BlkG X scope zs ys fr) (I:Inv X pins σ H s):∀ n∈xc0 scope,∃ c,X.env.cells.lookup n=some c:=fun n hn=>I.ok.has n (.inl (B.free n hn))
theorem BlkG.sub (B:BlkG X scope zs ys fr) (I:Inv X pins σ H s) {n:Str}{c:Addr} (h:(X.clo scope).lookup n=some c):X.env.cells.lookup n=some c:=by
 obtain⟨a,b⟩:=xo4 h
 obtain⟨d,e⟩:=B.cells I n a
 rw[e] at b
 rw[b,e]
 rfl
theorem Inv.blkG {h1:Heap}{m1:Str->Option Value}{t':Nat} (B:BlkG X scope zs ys fr) (I:Inv X pins σ H s) (hf:∀ b∈fp,FpOk X pins H b) (hz:∀ b∈fp,b<s.heap.objs.size) (n1:h1.Ns s.heap.objs.size m1) (k1:∀ b o,s.heap.get? b=some o->h1.get? b=some o) :
    Inv (X.blkG scope zs ys s.heap.objs.size fp s H (X.pn++pins)) [] (blk0 σ fr zs.length) H { s with heap:=h1,toks:=t' }:=by
  have sub:∀ n c,(X.clo scope).lookup n=some c->X.env.cells.lookup n=some c:=fun n c h=>B.sub I h
  have cz:∀ n c,X.env.cells.lookup n=some c->c<s.heap.objs.size:=fun n c e=>by
    obtain⟨v,o,ho,_⟩:=I.cell n c e
    exact Heap.lt_size ho
  have nfs:∀ b∈fp,b∉frs X.stack:=fun b hb z=>(List.mem_cons.mp (I.stkSub b z)).elim (hf b hb).2.1 (hf b hb).2.2.1
  have fz:∀ b,b∈frs X.stack->b<s.heap.objs.size:=fun b hb=>by
    obtain⟨_,o,ho,_⟩:=I.stack.mem hb
    exact Heap.lt_size ho
  refine⟨⟨I.ok.mod,B.kind,I.ok.glob,I.ok.blt,Nat.le_refl _,fun y z c h1 h2=>I.ok.inj y z c (sub y c h1) (sub z c h2),fun y hy=>?_,(fun y c hy _=>nomatch hy),I.ok.hd,I.ok.frames,.inl rfl,fun b hb=>⟨?_,fun y c h=>(hf b hb).2.2.2.2.1 y c (sub y c h)⟩,
      I.bs,Nat.le_trans I.ok.bsz I.sz,fun b o e hb=>?_,fun b hb=>nfs b hb,I.stack,I.stkFree⟩,
    rfl,I.bare,Un.kept k1,⟨m1,n1,fun i y v e1 e2 e3=>?_⟩,fun y c h=>?_,I.hok.fresh (Nat.le_refl _),fun y c h=>I.freeC y c (sub y c h),fun p hp=>?_,I.hok.kept k1,?_⟩
  . obtain⟨c,e⟩:=B.cells I y (B.has y hy)
    exact⟨c,xkd (B.has y hy) e⟩
  . exact Nat.ne_of_lt (hz b hb)
  . rcases (hf b hb).2.2.2.1 with z|z
    . exact I.ok.noex b o e z
    . exact absurd (Nat.lt_of_lt_of_le (Heap.lt_size (I.ok.bs b o e).1) z) (Nat.lt_irrefl _)
  . have ln:(List.replicate zs.length (none:Option V)).length=zs.length:=List.length_replicate
    by_cases lt:i<zs.length
    . have e2':(blk0 σ fr zs.length)[i]?=some (some v):=e2
      unfold blk0 at e2'
      rw[List.getElem?_append_left (by rw[ln]; exact lt),List.getElem?_replicate] at e2'
      split at e2'<;>cases e2'
    . obtain⟨k,rfl⟩:∃ k,i=zs.length+k:=⟨i-zs.length,by omega⟩
      have e2':(fr.map fun i=>(σ[i]?).join)[k]?=some (some v):=by
        have z:(blk0 σ fr zs.length)[zs.length+k]?=some (some v):=e2
        unfold blk0 at z
        rw[List.getElem?_append_right (by rw[ln]; omega),ln] at z
        simpa using z
      have e1':ys[k]?=some y:=by
        have z:(zs++ys)[zs.length+k]?=some y:=e1
        rw[List.getElem?_append_right (by omega)] at z
        simpa using z
      rw[List.getElem?_map] at e2'
      obtain⟨j,hj,ej⟩:=Option.map_eq_some_iff.mp e2'
      have ev:σ[j]?=some (some v):=by
        cases q:σ[j]? with
        | none=>rw[q] at ej; cases ej
        | some w=>rw[q] at ej; exact congrArg some ej
      have eN:X.N[j]?=some y:=by
        have z:=congrArg (fun l=>l[k]?) B.slots
        simp only[List.getElem?_map,hj,e1',Option.map_some] at z
        exact Option.some.inj z
      have my:y∈ys:=List.mem_of_getElem? e1'
      obtain⟨m,_,lk⟩:=I.loc
      obtain⟨u,r,l⟩:=lk j y v eN ev (.inr (.inl (B.free y (B.ysf y my))))
      refine⟨u,r,.inr ⟨B.ysc y my,?_⟩⟩
      rcases l with⟨kk,_⟩|⟨_,c,e,o,ho,hd⟩
      . have z:=B.free y (B.ysf y my)
        rw[show X.env.scope.names.lookup y=some .local from kk] at z
        cases z
      . exact⟨c,xkd (B.ysf y my) e,o,k1 c o ho,hd⟩
  . obtain⟨v,o,ho,hd⟩:=I.cell y c (sub y c h)
    exact⟨v,o,k1 c o ho,hd⟩
  . have hp':p∈X.pn++pins:=by simpa using hp
    obtain⟨a1,a2,a3,a4,a5⟩:=I.pin p hp'
    exact⟨k1 _ _ a1,a2,Nat.ne_of_lt (Heap.lt_size a1),fun z=>(List.mem_cons.mp (I.stkSub _ z)).elim a3 a4,a5⟩
  . have z:=congrArg List.length B.slots
    simp only[List.length_map] at z
    simp[blk0,z]
end
section
variable {X:Cx}{pins:List (Addr × Obj)}{σ:St}{H:Hp}{s:Shared}{scope:Scope}{zs:List Str}{ys:List Str}{fr:List Nat}{fp:List Addr}
theorem Inv.unblkG {C:Addr}{s':Shared}{h2:Heap}{σ':St}{H':Hp}{pl:List (Addr × Obj)} (I:Inv X pins σ H s) (hf:∀ b∈fp,FpOk X pins H b) (hC:s.heap.objs.size<=C) (J:Inv (X.blkG scope zs ys C fp s H (X.pn++pins)) pl σ' H' s') (sb:Heap.SameBut C s'.heap h2) :
    Inv X pins σ H' { s' with heap:=h2 }:=by
  have kp:∀ b o,b≠C->s'.heap.get? b=some o->h2.get? b=some o:=fun b o nb g=>(sb.2 b nb).trans g
  have old:∀ b o,s.heap.get? b=some o->b≠C:=fun b o g=>Nat.ne_of_lt (Nat.lt_of_lt_of_le (Heap.lt_size g) hC)
  have trk:∀ b u,H' b=some u->b≠C:=fun b u hb z=>by
    have f:H' C=none:=J.free
    rw[z,f] at hb
    cases hb
  refine I.call' (s':={ s' with heap:=h2 }) J.os (ch:=fp) ⟨fun b o e n hb hx=>kp b o (old b o e) (J.base.keep b o e n hb hx),fun b o e n hb hx=>?_,fun b o e n hx=>J.base.free b o e n hx,fun b o e hx=>?_,J.base.tups,J.base.frzs,J.base.tbls⟩ (fun b u hb=>?_) J.bare fun b hb=>?_
  . obtain⟨sl,q⟩:=J.base.slot b o e n hb hx
    exact⟨sl,kp b _ (old b o e) q⟩
  . obtain⟨o',q⟩:=J.base.there b o e hx
    exact⟨o',kp b o' (old b o e) q⟩
  . refine (J.hok b u hb).stay (fun c v hc q=>?_) (fun c q=>q) fun c xs q=>q
    rcases hc with rfl|hc
    . exact kp c v (trk c u hb) q
    . exact kp c v (trk c _ hc) q
  . obtain⟨_,a1,_,a3,a4,a5⟩:=hf b hb
    exact⟨a3,a1,a4,a5⟩
end
def GOk (n:Nat) (g:TG):Prop:=∀ v σ H Q,g v σ H Q->g v σ H (fun σ' H'=>Q σ' H'/\σ'.length=σ.length/\∀ i,n<=i->σ'[i]?=σ[i]?)
theorem xbw {i n:Nat} (h:i<n):GOk n (xc6 i):=fun v σ H Q q=>⟨q,by simp,fun j hj=>by rw[List.getElem?_set_ne (by omega)]⟩
def xel (J:It) (n:Nat) (g:TG) (σ:St) (fr:List Nat) (tc:TT) (te:TE) (l:Addr) (H1:Hp) (Q:VK):Prop:=∃ W:Nat->Nat->List V->Hp->Prop,(∃ m,W 0 m [] (upd H1 l (.lst [])))/\∀ i m xs H2,W i m xs H2 ->
 (J.stop i H2/\Q (.ref l) H2)\/(J.go i H2/\∀ v H3,J.yld i H2 v H3->g v (blk0 σ fr n) H3 fun σ' H3'=>tc σ' H3' fun b H4=>if b=true then
  (te σ' H4 fun y H5=>H5 l=some (.lst xs)/\xs.length<sizeLine/\∃ m',m'<m/\W (i+1) m' (xs++[y]) (upd H5 l (.lst (xs++[y])))) else ∃ m',m'<m/\W (i+1) m' xs H4)
def xhu (wi:TI) (n:Nat) (g:TG) (fr:List Nat) (tc:TT) (te:TE):TE:=fun σ H Q=>wi σ H fun J H1=>∀ l,H1 l=none->xel J n g σ fr tc te l H1 Q
section
variable {X:Cx}{scope:Scope}{zs:List Str}{ys:List Str}{fr:List Nat}{elt iter tg:Expr}{g:TG}{ifs:List Expr}{px pos:Pos}{wi:TI}{tc:TT}{te:TE}
theorem xf4 {pins:List (Addr × Obj)}{s:Shared}{σ:St}{H:Hp}{Q:VK}{U:Option (Value->Sem Unit)}{R:Value->Shared->Prop} (hc:X.calm=true) (B:BlkG X scope zs ys fr) (hi:PI X tg iter wi) (hg:∀ C ex s H pn,(∀ x∈zs,(relabel scope X.env).names.lookup x=some .local)->(zs++ys).Nodup->PG (X.blkG scope zs ys C ex s H pn) tg g) (gok:GOk zs.length g)
    (hif:∀ C ex s H pn,PIf (X.blkG scope zs ys C ex s H pn) ifs tc) (he:∀ C ex s H pn,PE (X.blkG scope zs ys C ex s H pn) elt te) (I:Inv X pins σ H s) (h:xhu wi zs.length g fr tc te σ H Q)
    (fin:∀ C l H' s' m,(X.s₀.heap.objs.size<=C/\C≠X.env.locals/\(∀ x c,X.env.cells.lookup x=some c->c≠C)/\∀ p∈X.pn++pins,p.1≠C)->H' C=none->s'.heap.Ns C m->(∀ h2,Heap.SameBut C s'.heap h2->Inv X pins σ H' { s' with heap:=h2 })->Q (.ref l) H'->compPost (model X.prog X.w) X.A X.xe U R (.ref l) C (.ok .next) s') :
    wpAny (model X.prog X.w) X.A (eval iter X.env) (fun v s1=>wpAny (model X.prog X.w) X.A (pyIter v) (fun it s2=>wpAny (model X.prog X.w) X.A (newList []) (fun acc s3 =>
      wpAny (model X.prog X.w) X.A (newFunctionEnv scope X.env.globals (X.clo scope) [] X.env.qual none .none (some X.env)) (fun cenv s4 =>
        codeAny (model X.prog X.w) X.A (.compStart (.ListComp elt [⟨tg,iter,ifs,0⟩] scope pos) 0 it acc { cenv with scope:=relabel scope X.env }) (compPost (model X.prog X.w) X.A X.xe U R acc cenv.locals) s4) X.xe s3) X.xe s2) X.xe s1) X.xe s:=by
  refine thn (hi pins s σ H _ I h) fun v s1 h1=>thn h1 fun itv s2 h2=>?_
  obtain⟨it,fp,tn,J,H2,rfl,I2,T,st2,f2,body⟩:=h2
  have hN:H2 s2.heap.objs.size=none:=I2.hok.fresh (Nat.le_refl _)
  obtain⟨W,⟨m0,w0⟩,turn⟩:=body s2.heap.objs.size hN
  refine wpAny_newObj_type ?_
  generalize hs3:({ s2 with heap:=s2.heap.push { cls:=.type "list",data:=.seq ([]:List Value).toArray } }:Shared)=s3
  have k3:∀ b o,s2.heap.get? b=some o->s3.heap.get? b=some o:=fun b o g=>by rw[<- hs3]; exact Heap.get?_push_of_some _ g
  have I3:Inv X pins σ (upd H2 s2.heap.objs.size (.lst [])) s3:=by
    rw[<- hs3]
    exact I2.laid (t':=s2.toks) (fun b u e=>Heap.get?_push_of_some _ e) (Nat.le_refl _) ⟨Nat.zero_le _,[],0,.nil,Heap.get?_push_size _ rfl⟩
  have z2:∀ b∈fp,b<s2.heap.objs.size:=fun b hb=>by
    obtain⟨o,g,_⟩:=T.obj 0 _ st2 b hb
    exact Heap.lt_size g
  have z3:∀ b∈fp,b<s3.heap.objs.size:=fun b hb=>by
    obtain⟨o,g,_⟩:=T.obj 0 _ st2 b hb
    exact Heap.lt_size (k3 b o g)
  have f3:∀ b∈fp,FpOk X pins (upd H2 s2.heap.objs.size (.lst [])) b:=fun b hb=>⟨by rw[xf (Nat.ne_of_lt (z2 b hb))]; exact (f2 b hb).1,(f2 b hb).2⟩
  have st3:tn 0 s3.heap:=T.keep _ _ _ st2 fun b _ o g=>k3 b o g
  refine wpAny_newFunctionEnv B.ncell (by intro y hy; simp at hy) (fun h1 n1 sb1=>?_) B.kind
  have k4:∀ b o,s3.heap.get? b=some o->h1.get? b=some o:=fun b o g=>sb1.extBut b o (Nat.ne_of_lt (Heap.lt_size g)) (Heap.get?_push_of_some _ g)
  have I4:=I3.blkG (t':=s3.toks+([]:List (Str × Value)).length) B f3 z3 n1 k4
  have st4:tn 0 h1:=T.keep _ _ _ st3 fun b _ o g=>k4 b o g
  have own':∀ x∈zs,(relabel scope X.env).names.lookup x=some .local:=fun x hx=>lookup_relabel_local (B.own x hx)
  -- the iterator's objects,through the loop
  have stat:∀{H':Hp},(∀ b∈fp,H' b=none)->∀ b∈fp,FpOk (X.blkG scope zs ys s3.heap.objs.size fp s3 (upd H2 s2.heap.objs.size (.lst [])) (X.pn++pins)) [] H' b:=fun hn b hb=>by
    obtain⟨_,a1,a2,a3,a4,a5⟩:=f3 b hb
    exact⟨hn b hb,Nat.ne_of_lt (z3 b hb),fun z=>(List.mem_cons.mp (I3.stkSub b z)).elim a1 a2,.inl hb,fun y c h=>a4 y c (B.sub I3 h),fun p hp=>a5 p (by simpa using hp)⟩
  have loop:∀ s4:Shared,s4={ s3 with heap:=h1,toks:=s3.toks+([]:List (Str × Value)).length } ->
      codeAny (model X.prog X.w) X.A (.compLoop (.ListComp elt [⟨tg,iter,ifs,0⟩] scope pos) 0 (.ref it) (.ref s2.heap.objs.size) (compEnvC scope (X.clo scope) s3.heap.objs.size X.env))
        (compPost (model X.prog X.w) X.A X.xe U R (.ref s2.heap.objs.size) s3.heap.objs.size) s4:=by
    rintro s4 rfl
    refine xf7 (fun n s'=>∃ i xs H',Inv (X.blkG scope zs ys s3.heap.objs.size fp s3 (upd H2 s2.heap.objs.size (.lst [])) (X.pn++pins)) [] (blk0 σ fr zs.length) H' s'/\tn i s'.heap/\(∀ b∈fp,H' b=none)/\W i n xs H') ?_ m0
      ⟨0,[],_,I4,st4,fun b hb=>(f3 b hb).1,w0⟩
    rintro n s5 ⟨i,xs,H5,I5,st5,fr5,w5⟩
    rcases turn i n xs H5 w5 with⟨stop,q⟩|⟨go,step⟩
    . refine wpAny_mono (T.done (X.blkG scope zs ys s3.heap.objs.size fp s3 (upd H2 s2.heap.objs.size (.lst [])) (X.pn++pins)) rfl rfl rfl hc i [] s5 _ H5 (fun _ _=>False) I5 (stat fr5) st5 stop) (fun r s6 ⟨hr,I6⟩=>?_) fun _ _ z=>z.elim
      subst hr
      obtain⟨m,hm,_⟩:=I6.loc
      exact fin _ _ H5 s6 m ⟨I3.sz,(I3.size_lt (Nat.le_refl _)).2⟩ I6.free hm (fun h2 sb=>I3.unblkG f3 (Nat.le_refl _) I6 sb) q
    . refine wpAny_mono (T.item (X.blkG scope zs ys s3.heap.objs.size fp s3 (upd H2 s2.heap.objs.size (.lst [])) (X.pn++pins)) rfl rfl rfl hc i [] s5 _ H5 (fun _ _=>False) I5 (stat fr5) st5 go) (fun r s6 ⟨u,hr,h6⟩=>?_) fun _ _ z=>z.elim
      subst hr
      refine wpAny_mono h6 (fun _ s7 ⟨y,H7,I7,r7,y7,st7,fr7⟩=>?_) fun _ _ z=>z.elim
      have I7':=I7.pinned (stat fr7) (T.obj _ _ st7)
      refine wpAny_mono (hg _ _ _ _ _ own' B.ndb _ s7 _ H7 y u _ I7' r7 (gok _ _ _ _ (step y H7 y7))) (fun _ s8 ⟨σ8,H8,I8,q8,l8,k8⟩=>?_) fun _ _ z=>z.elim
      have back:∀{s9:Shared}{H9:Hp}{xs':List V},Inv (X.blkG scope zs ys s3.heap.objs.size fp s3 (upd H2 s2.heap.objs.size (.lst [])) (X.pn++pins)) ([]++xe5 fp s7.heap) σ8 H9 s9->(∃ m',m'<n/\W (i+1) m' xs' H9) ->
          ∃ m,m<n/\∃ i xs H',Inv (X.blkG scope zs ys s3.heap.objs.size fp s3 (upd H2 s2.heap.objs.size (.lst [])) (X.pn++pins)) [] (blk0 σ fr zs.length) H' s9/\tn i s9.heap/\(∀ b∈fp,H' b=none)/\W i m xs H':=fun {s9 H9 xs'} I9 ⟨m',lt,w9⟩=>by
        refine⟨m',lt,i+1,xs',H9,I9.unpinned.weak l8.symm (fun j v e=>?_),T.keep _ _ _ st7 fun b hb o e=>(I9.pin (b,o) (List.mem_append_right _ (List.mem_append_right _ (xcx hb e)))).1,fun b hb=>?_,w9⟩
        . by_cases lj:j<zs.length
          . unfold blk0 at e
            rw[List.getElem?_append_left (by rw[List.length_replicate]; exact lj),List.getElem?_replicate] at e
            split at e<;>cases e
          . rw[k8 j (by omega)]
            exact e
        obtain⟨o,e,d⟩:=T.obj _ _ st7 b hb
        exact (I9.pin (b,o) (List.mem_append_right _ (List.mem_append_right _ (xcx hb e)))).2.1
      refine wpAny_mono (hif _ _ _ _ _ _ s8 _ H8 _ I8 q8) (fun ok s9 ⟨H9,I9,q9⟩=>?_) fun _ _ z=>z.elim
      cases ok with
      | false =>
        rw[if_neg (by decide)] at q9 ⊢
        exact back I9 q9
      | true =>
        rw[if_pos rfl] at q9 ⊢
        refine wpAny_mono (he _ _ _ _ _ _ s9 _ H9 _ I9 q9) (fun ev s10 ⟨yv,H10,I10,r10,hl,len,w10⟩=>?_) fun _ _ z=>z.elim
        refine wpAny_mono (xdg (X:=X.blkG scope zs ys s3.heap.objs.size fp s3 (upd H2 s2.heap.objs.size (.lst [])) (X.pn++pins)) _ s10 _ H10 (.ref s2.heap.objs.size) [yv] (.ref s2.heap.objs.size) [ev] (fun v H'=>H'=upd H10 s2.heap.objs.size (.lst (xs++[yv]))) I10 rfl (.cons r10 .nil) ⟨_,xs,yv,rfl,rfl,hl,len,rfl⟩)
          (fun _ s11 ⟨_,H11,I11,_,e11⟩=>?_) fun _ _ z=>z.elim
        subst e11
        exact back I11 w10
  exact codeAny_compStart_list (loop _ rfl) (T.self _ 0 _ _ _ st4 (loop _ rfl))
theorem xbn (hc:X.calm=true) (B:BlkG X scope zs ys fr) (hi:PI X tg iter wi) (hg:∀ C ex s H pn,(∀ x∈zs,(relabel scope X.env).names.lookup x=some .local)->(zs++ys).Nodup->PG (X.blkG scope zs ys C ex s H pn) tg g) (gok:GOk zs.length g) (hif:∀ C ex s H pn,PIf (X.blkG scope zs ys C ex s H pn) ifs tc) (he:∀ C ex s H pn,PE (X.blkG scope zs ys C ex s H pn) elt te)
    (hs:∀ x,foldedSetIterable iter X.env x=pure x:=by intro _; rfl):PE X (.ListComp elt [⟨tg,iter,ifs,0⟩] scope pos) (xhu wi zs.length g fr tc te):=by
  intro pins s σ H Q I h
  rw[eval_ListComp]
  refine wpAny_comprehension_free (use:=none) rfl hs (xl9 (B.cells I)) B.kind B.names (xf4 hc B hi hg gok hif he I h fun C l H' s' m _ _ hm iv q=>?_)
  exact⟨m,hm,fun h2 sb=>⟨.ref l,H',iv h2 sb,rfl,q⟩⟩
theorem xb3 {j:Nat}{y:Str}{py spos:Pos} (hc:X.calm=true) (B:BlkG X scope zs ys fr) (hi:PI X tg iter wi) (hg:∀ C ex s H pn,(∀ x∈zs,(relabel scope X.env).names.lookup x=some .local)->(zs++ys).Nodup->PG (X.blkG scope zs ys C ex s H pn) tg g) (gok:GOk zs.length g) (hif:∀ C ex s H pn,PIf (X.blkG scope zs ys C ex s H pn) ifs tc) (he:∀ C ex s H pn,PE (X.blkG scope zs ys C ex s H pn) elt te)
    (hj:X.N[j]?=some y) (hy:Loc X.env.scope y) (hf:X.fn y=true\/X.env.scope.names.lookup y=some .local:=by first|exact .inl rfl|exact .inr rfl|assumption)
    (hsw:swapsWith (.ListComp elt [⟨tg,iter,ifs,0⟩] scope pos) (some (.Name y py)) spos.line X.env=pure true:=by rfl)
    (hs:∀ x,foldedSetIterable iter X.env x=pure x:=by intro _; rfl):PS X (.Assign [.Name y py] (.ListComp elt [⟨tg,iter,ifs,0⟩] scope pos) spos) (tAsg (xhu wi zs.length g fr tc te) (xc6 j)):=by
  intro pins s σ H D I h
  rw[exec_Assign_Name_used _ _ _ _ hsw]
  refine wpAny_bind (wpAny_standAt (wpAny_bind ?_))
  show wpAny _ _ (do let _ <- comprehension (.ListComp elt [⟨tg,iter,ifs,0⟩] scope pos) scope X.env _ (newList []) false (eval iter X.env) (some (assign (.Name y py) X.env))) _ _ s
  refine wpAny_bind (wpAny_mono (wpAny_comprehension_free (use:=some (assign (.Name y py) X.env)) (Q:=fun _ s'=>SP X pins D .next s') rfl hs (xl9 (B.cells I)) B.kind B.names
    (xf4 hc B hi hg gok hif he I h fun C l H' s' m hC hn hm iv q=>?_)) (fun _ s' z=>wpAny_pure (wpAny_pure z)) fun _ _ e=>e)
  show wpAny _ _ (assign (.Name y py) X.env (.ref l)) _ _ _
  have J:Inv X pins σ H' s':=iv s'.heap (.refl ..)
  refine wpAny_assign_Name (xg3 (v:=V.ref l) J B.nd hj hy rfl (fun s2 J2 ⟨a,sb,ha⟩=>?_) hf)
  have na:a≠C:=by
    rcases ha with z|z
    . rw[z]; exact Ne.symm hC.2.1
    . exact hC.2.2.1 _ _ z
  refine⟨m,?_,fun h2 s3=>?_⟩
  . obtain⟨o,es,ep,g,r⟩:=hm
    exact⟨o,es,ep,(sb.2 C (Ne.symm na)).trans g,r⟩
  . exact⟨_,H',J2.turned (t':=s2.toks) (fun b o nb g=>(s3.2 b nb).trans g) hn (hC.2.1) (.inr hC.1) hC.2.2.1 hC.2.2.2,q⟩
end
def xiu (scope sc0:Scope) (N0:List Str) (zs:List Str) (ys:List Str) (fr:List Nat):Bool :=
 scope.kind == .function&&zs.all (fun x=>scope.names.lookup x == some .local)&&scope.names.all (fun y=>y.2 != .cell)&&scope.names.all (fun y=>y.2 != .local||scope.names.lookup y.1 == some .local) &&
 (xc0 scope).all (fun n=>sc0.names.lookup n == some .cell)&&fr.map (fun i=>N0[i]?) == ys.map some&&ys.all (fun y=>scope.names.lookup y == some .free)&&decide N0.Nodup&&decide (zs++ys).Nodup
theorem xnt {X:Cx}{scope sc0:Scope}{N0:List Str}{zs:List Str}{ys:List Str}{fr:List Nat} (chk:xiu scope sc0 N0 zs ys fr=true) (es:X.env.scope=sc0) (eN:X.N=N0):BlkG X scope zs ys fr:=by
 unfold xiu at chk
 simp only[Bool.and_eq_true,beq_iff_eq,List.all_eq_true,decide_eq_true_eq] at chk
 obtain⟨⟨⟨⟨⟨⟨⟨⟨a1,a2⟩,a3⟩,a4⟩,a5⟩,a6⟩,a7⟩,a8⟩,a9⟩:=chk
 have nc:∀ y∈scope.names,y.2≠.cell:=fun y hy=>by simpa using a3 y hy
 refine⟨a1,a2,nc,fun y hy hl=>?_,fun n hn=>by rw[es]; exact a5 n hn,fun n h=>xlj nc n h,by rw[eN]; exact a6,fun y hy=>?_,fun y hy=>xkq (a7 y hy),by rw[eN]; exact a8,a9⟩
 .have z:=a4 y hy
  rw[hl] at z
  simpa using z
 .exact List.mem_map.mpr ⟨(y,.free),List.mem_filter.mpr ⟨PySem.mem_of_lookup (a7 y hy),by simp⟩,rfl⟩
theorem xa5 {X:Cx}{scope sc0:Scope}{N0:List Str}{zs:List Str}{ys:List Str}{fr:List Nat} (chk:xiu scope sc0 N0 zs ys fr=true) (es:X.env.scope=sc0) (eN:X.N=N0) (_:X.stack=X.env::X.outer):BlkG X scope zs ys fr:=xnt chk es eN
theorem xb0 {K:PySem.W.Frag}{m n:Nat}{t:TGs} (h:∀ vs σ H Q,t vs σ H Q->t vs σ H (fun σ' H'=>Q σ' H'/\σ'.length=σ.length/\∀ i,n<=i->σ'[i]?=σ[i]?)):GOk n (gTup K m t):=fun v σ H Q q=>by
 obtain⟨a,xs,e,hs,hl,q⟩:=q
 exact⟨a,xs,e,hs,hl,h _ _ _ _ q⟩
theorem xbr {n:Nat}:∀ vs σ H Q,gNil vs σ H Q->gNil vs σ H (fun σ' H'=>Q σ' H'/\σ'.length=σ.length/\∀ i,n<=i->σ'[i]?=σ[i]?):=fun vs σ H Q q=>⟨q.1,q.2,rfl,fun _ _=>rfl⟩
theorem xac {i n:Nat} (hi:i<n) {t:TGs} (h:∀ vs σ H Q,t vs σ H Q->t vs σ H (fun σ' H'=>Q σ' H'/\σ'.length=σ.length/\∀ i,n<=i->σ'[i]?=σ[i]?)) :
    ∀ vs σ H Q,xkn (xc6 i) t vs σ H Q->xkn (xc6 i) t vs σ H (fun σ' H'=>Q σ' H'/\σ'.length=σ.length/\∀ i,n<=i->σ'[i]?=σ[i]?):=fun vs σ H Q q=>by
  obtain⟨v,r,e,q⟩:=q
  refine⟨v,r,e,?_⟩
  have z:=h _ _ _ _ q
  have e2:∀(j:Nat),n<=j->(σ.set i (some v))[j]?=σ[j]?:=fun j hj=>by rw[List.getElem?_set_ne (by omega)]
  have e1:(σ.set i (some v)).length=σ.length:=by simp
  have key:(fun σ' H'=>Q σ' H'/\σ'.length=(σ.set i (some v)).length/\∀ j,n<=j->σ'[j]?=(σ.set i (some v))[j]?)=(fun σ' (H':Hp)=>Q σ' H'/\σ'.length=σ.length/\∀ j,n<=j->σ'[j]?=σ[j]?):=by
    funext σ' H'
    rw[e1]
    refine propext ⟨fun⟨a,b,c⟩=>⟨a,b,fun j hj=>(c j hj).trans (e2 j hj)⟩,fun⟨a,b,c⟩=>⟨a,b,fun j hj=>(c j hj).trans (e2 j hj).symm⟩⟩
  rw[key] at z
  exact z
theorem xbp {J:It}{n:Nat}{g:TG}{σ:St}{fr:List Nat}{tc:TT}{te:TE}{l:Addr}{H1:Hp}{Q:VK} (len:Nat) (Pv:Nat->List V->Hp->Prop) (h0:Pv 0 [] (upd H1 l (.lst []))) (hgo:∀ i xs H,i<len->Pv i xs H->J.go i H)
    (step:∀ i xs H2 v H3,i<len->Pv i xs H2->J.yld i H2 v H3->∀ N:List V->Hp->Prop,(∀ xs' H',Pv (i+1) xs' H'->N xs' H')->g v (blk0 σ fr n) H3 fun σ' H3'=>tc σ' H3' fun b H4=>if b=true then
      (te σ' H4 fun y H5=>H5 l=some (.lst xs)/\xs.length<sizeLine/\N (xs++[y]) (upd H5 l (.lst (xs++[y])))) else N xs H4)
    (fin:∀ xs H2,Pv len xs H2->J.stop len H2/\Q (.ref l) H2):xel J n g σ fr tc te l H1 Q:=by
  refine⟨fun i m xs H=>m=len-i/\i<=len/\Pv i xs H,⟨len,by simp,Nat.zero_le _,h0⟩,?_⟩
  rintro i m xs H2 ⟨rfl,hi,p⟩
  by_cases lt:i<len
  . exact .inr ⟨hgo i xs H2 lt p,fun v H3 y=>step i xs H2 v H3 lt p y (fun xs' H'=>∃ m',m'<len-i/\m'=len-(i+1)/\i+1<=len/\Pv (i+1) xs' H') fun xs' H' q=>⟨_,by omega,rfl,lt,q⟩⟩
  . have e:i=len:=by omega
    subst e
    exact .inl (fin xs H2 p)
section
variable {X:Cx}{pins:List (Addr × Obj)}{σ:St}{H:Hp}{s:Shared}
theorem Inv.adopt {p:Addr}{o:HO} (I:Inv X pins σ H s) (n:H p=none) (h0:X.s₀.heap.objs.size<=p) (hL:p≠X.env.locals) (hC:∀ x c,X.env.cells.lookup x=some c->c≠p) (hp:∀ q∈X.pn++pins,q.1≠p)
    (new:xaw X.prog X.w (upd H p o) s.heap p o):Inv X pins σ (upd H p o) s:=by
  have ne:∀ b u,H b=some u->b≠p:=fun b u e=>xb e n
  refine⟨I.ok,I.os,I.bare,⟨I.base.keep,I.base.slot,fun b ob e hn hx=>?_,I.base.there,fun b xs e=>?_,fun b ob u e=>?_,fun b ps e=>?_⟩,I.loc,I.cell,?_,fun x c e=>?_,fun q hq=>?_,fun b u e=>?_,I.len⟩
  . rw[xf (Nat.ne_of_lt (Nat.lt_of_lt_of_le (Heap.lt_size e) h0))]
    exact I.base.free b ob e hn hx
  . have z:=I.base.tups b xs e
    rw[xf (ne b _ z)]
    exact z
  . have z:=I.base.frzs b ob u e
    rw[xf (ne b _ z)]
    exact z
  . obtain⟨m,z⟩:=I.base.tbls b ps e
    exact⟨m,by rw[xf (ne b _ z)]; exact z⟩
  . rw[xf (Ne.symm hL)]
    exact I.free
  . rw[xf (hC x c e)]
    exact I.freeC x c e
  . obtain⟨a1,a2,a3⟩:=I.pin q hq
    exact⟨a1,by rw[xf (hp q hq)]; exact a2,a3⟩
  . by_cases hb:b=p
    . subst hb
      rw[xg] at e
      cases e
      exact new
    . rw[xf hb] at e
      exact (I.hok b u e).stay (fun c v _ q=>q) (fun c q=>by rw[xf (ne c _ q)]; exact q) fun c xs q=>by rw[xf (ne c _ q)]; exact q
theorem Inv.thaw {d:Addr}{o:Obj}{u:HO} (I:Inv X pins σ H s) (e:H d=some (.frz o u)) (nf:∀ o' u',X.H₀ d≠some (.frz o' u')):Inv X pins σ (upd H d u) s:=by
 have ne:∀ b v,H b=some v->(∀ o' u',v≠.frz o' u')->b≠d:=fun b v h1 h2 z=>by
  subst z
  rw[e] at h1
  cases h1
  exact h2 _ _ rfl
 have ne0:∀ b,H b=none->b≠d:=fun b h1 z=>by
  subst z
  rw[e] at h1
  cases h1
 refine⟨I.ok,I.os,I.bare,⟨I.base.keep,I.base.slot,fun b ob q hn hx=>?_,I.base.there,fun b xs q=>?_,fun b ob v q=>?_,fun b ps q=>?_⟩,I.loc,I.cell,?_,fun x c q=>?_,fun p hp=>?_,fun b v q=>?_,I.len⟩
 .have z:=I.base.free b ob q hn hx
  rw[xf (ne0 b z)]
  exact z
 .have z:=I.base.tups b xs q
  rw[xf (ne b _ z (fun _ _ h=>nomatch h))]
  exact z
 .have z:=I.base.frzs b ob v q
  have hb:b≠d:=fun w=>by
   subst w
   exact nf _ _ q
  rw[xf hb]
  exact z
 .obtain ⟨m,z⟩:=I.base.tbls b ps q
  exact⟨m,by rw[xf (ne b _ z (fun _ _ h=>nomatch h))]; exact z⟩
 .rw [xf (ne0 _ I.free)]
  exact I.free
 .rw [xf (ne0 _ (I.freeC x c q))]
  exact I.freeC x c q
 .obtain ⟨a1,a2,a3⟩:=I.pin p hp
  exact⟨a1,by rw[xf (ne0 _ a2)]; exact a2,a3⟩
 .have st:∀(a:Addr) (v:HO),xaw X.prog X.w H s.heap a v->xaw X.prog X.w (upd H d u) s.heap a v:=fun a v k =>
   k.stay (fun c v _ q=>q) (fun c q=>by rw[xf (ne c _ q (fun _ _ h=>nomatch h))]; exact q) fun c xs q=>by rw[xf (ne c _ q (fun _ _ h=>nomatch h))]; exact q
  by_cases hb:b=d
  .subst hb
   rw[xg] at q
   cases q
   obtain⟨g,ok⟩:=I.hok b _ e
   exact st _ _ ok
  .rw [xf hb] at q
   exact st _ _ (I.hok b v q)
theorem Inv.nofrz {d:Addr}{kvs:List (Key × V)} (I:Inv X pins σ H s) (e:H d=some (.dK kvs)):∀ o' u',X.H₀ d≠some (.frz o' u'):=fun o' u' z=>by
 have q:=I.base.frzs d o' u' z
 rw[e] at q
 cases q
theorem KV.get:∀{kvs:List (Key × V)}{vs:List (Key × Value)}{i:Nat}{k:Key}{x:V},KV kvs vs->kvs[i]?=some (k,x)->∃ u,vs[i]?=some (k,u)/\RelV x u
 | _,_,_,_,_,.nil,e=>by simp at e
 | _,(_,_)::_,0,_,_,.cons r _,e=>by
  simp at e
  subst e
  obtain⟨r1,r2⟩:=r
  dsimp only at r1 r2
  subst r1
  exact⟨_,rfl,r2⟩
 | _,_,i+1,k,x,.cons _ t,e=>by
  obtain⟨u,h1,h2⟩:=KV.get (i:=i) (k:=k) (x:=x) t (by simpa using e)
  exact⟨u,by simpa using h1,h2⟩
theorem xpz {P:Program}{w:World}{k:Key}{u:Value} (h:(xan P w).is k u=true):RelV (kV k) u:=by
 rcases xbc (show xer k u=true from h) with⟨i,t,rfl,rfl⟩|⟨x,t,rfl,rfl⟩
 .exact ⟨t,rfl⟩
 .exact ⟨t,rfl⟩
theorem xlb {d:Addr}{o:Obj}{kvs:List (Key × V)}{ep:Nat} (I:Inv X pins σ H s) (e:H d=some (.frz o (.dK kvs))) (hep:∃ es,o.data=.dict es ep):∃ vs,KV kvs vs/\s.heap.DictAt (xan X.prog X.w) d vs ep:=by
 obtain⟨g,_,_,vs,rel,o',es',ep',g',ex,hdat,hk,hp,hn⟩:=I.hok d _ e
 rw[g] at g'
 cases g'
 obtain⟨es,he⟩:=hep
 rw[he] at hdat
 cases hdat
 exact⟨vs,rel,o,_,g,ex,he,hk,hp,hn⟩
end
def Iti (d:Addr) (o:Obj) (kvs:List (Key × V)):It :=
 ⟨fun i H=>H d=some (.frz o (.dK kvs))/\i<kvs.length,fun i H v H'=>∃ p k x,kvs[i]?=some (k,x)/\v=.ref p/\H p=none/\H'=upd H p (.tup [kV k,x]),fun i H=>H d=some (.frz o (.dK kvs))/\kvs.length<=i⟩
theorem xks {P:Program}{w:World}{K:PySem.W.Frag}{elts:List Expr}{x1}{tpos:Pos} (d it:Addr) (o:Obj) (kvs:List (Key × V)) (ep:Nat) (hep:∃ es,o.data=.dict es ep) :
    Turn P w K (.Tuple elts x1 tpos) (Iti d o kvs) [it] it (fun i h=>∃ ok ov,IsItemIter h it d i kvs.length ep ok ov) where
  mem:=by simp
  obj:=fun i h st b hb=>by
    have e:b=it:=by simpa using hb
    subst e
    obtain⟨ok,ov,st⟩:=st
    exact⟨_,st,fun v z=>by
      have z':Data.fields _=Data.cell v:=z
      cases z'⟩
  keep:=fun i h h' ⟨ok,ov,st⟩ k=>⟨ok,ov,k it (by simp) _ st⟩
  item:=by
    intro X hP hw hK hc i pins s σ H E I hf st hg
    subst hP hw hK
    obtain⟨ok,ov,st⟩:=st
    obtain⟨e,lt⟩:=hg
    obtain⟨vs,rel,da⟩:=xlb I e hep
    obtain⟨f0,f1,f2,f3,f4,f5⟩:=hf it (by simp)
    have hl:kvs.length=vs.length:=rel.length
    obtain⟨⟨k,x⟩,q⟩:∃ y,kvs[i]=y:=⟨_,rfl⟩
    have hx:kvs[i]?=some (k,x):=by rw[List.getElem?_eq_getElem lt,q]
    obtain⟨u,hv,ru⟩:=rel.get hx
    rw[hl] at st
    refine wpAny_pyNext_items_item st da hv fun key h' hkey hout ht hz hkp=>?_
    refine⟨_,rfl,wpAny_letOwnedTupleGo_items hout fun h'' hit' hsb=>?_⟩
    have kk:∀ b o,b≠it->s.heap.get? b=some o->h''.get? b=some o:=fun b o hb g=>(hsb.2 b hb).trans (hkp b o hb g)
    have I1:Inv X pins σ H { s with heap:=h'' }:=I.turned (t':=s.toks) kk f0 f1 f3 f4 f5
    obtain⟨n0,nL,nC,nP⟩:=I.size_lt (Nat.le_refl s.heap.objs.size)
    have itlt:it<s.heap.objs.size:=Heap.lt_size st
    have pne:s.heap.objs.size≠it:=Nat.ne_of_gt itlt
    have hp:h''.get? s.heap.objs.size=some { cls:=.type "tuple",data:=.seq #[key,u] }:=(hsb.2 _ pne).trans ht
    refine⟨.ref s.heap.objs.size,upd H s.heap.objs.size (.tup [kV k,x]),I1.adopt n0 I.sz nL nC nP ⟨by show 2<=sizeLine; decide,[key,u],.cons (xpz hkey) (.cons ru .nil),_,hp,rfl,_,rfl⟩,rfl,⟨_,k,x,hx,rfl,n0,rfl⟩,?_,fun b hb=>?_⟩
    . rw[<- hl] at hit'
      exact⟨_,_,hit'⟩
    . have e:b=it:=by simpa using hb
      subst e
      rw[xf (Ne.symm pne)]
      exact f0
  done:=by
    intro X hP hw hK hc i pins s σ H E I hf st hg
    subst hP hw hK
    obtain⟨ok,ov,st⟩:=st
    obtain⟨e,le⟩:=hg
    obtain⟨vs,rel,da⟩:=xlb I e hep
    obtain⟨f0,f1,f2,f3,f4,f5⟩:=hf it (by simp)
    have hl:kvs.length=vs.length:=rel.length
    rw[hl] at st
    exact wpAny_pyNext_items_end (I.ok.hd hc) st da (by simpa using (by omega:vs.length<=i)) fun h' eb=>⟨rfl,I.turned (t':=s.toks) (fun b o hb e=>eb b o hb e) f0 f1 f3 f4 f5⟩
  self:=fun _ _ _ _ _ ⟨ok,ov,st⟩ h=>PySem.W.kcp_self st h
def xql (X:Cx) (to:TE):TI:=fun σ H R=>to σ H fun x H1=>∃ d kvs,x=.ref d/\H1 d=some (.dK kvs)/\∀ ob,(∀ o' u',X.H₀ d≠some (.frz o' u'))->R (Iti d ob kvs) (upd H1 d (.frz ob (.dK kvs)))
section
variable {X:Cx}{o:Expr}{to:TE}{elts:List Expr}{x1:_}{tpos apos cpos:Pos}
theorem xmy (ho:PE X o to) (hbase:attributeBase o "items" X.env (eval o X.env)=eval o X.env:=by rfl) (hline:(apos.endLine == cpos.line)=true:=by rfl) :
    PI X (.Tuple elts x1 tpos) (.Call (.Attribute o "items" apos) [] [] cpos) (xql X to):=by
  intro pins s σ H R I h
  refine wpAny_Call_method0_late hbase hline (thn (ho pins s σ H _ I h) fun v s1 ⟨x,H1,I1,r1,q1⟩=>?_)
  obtain⟨d,kvs,e1,e,q⟩:=q1
  subst e1
  cases r1
  obtain⟨z,hd,vs,rel,dd⟩:=xhq I1.hok e
  obtain⟨ob,es,ep,g,ex,hdat,hk,hp,hn⟩:=id dd
  refine⟨"dict", "dict.items",PySem.F.plainAttrs_dict,PySem.F.slot_dict_items,PySem.F.type_dict_items,dd.typeIs,fun a e2=>?_,Calls.callWith_builtin rfl (PySem.evalArgs_none ?_)⟩
  . cases e2
    exact⟨ob,g,ex.2.1⟩
  refine call_meetsIn PySem.F.slot_dict_items dd.typeIs PySem.F.entry_dict_items (PySem.F.args_dict_items_1 _) (meets_dict_items (xan X.prog X.w) d hd) ⟨⟨vs,dd⟩,?_⟩
  have da:(s1.heap.push { cls:=.type "dict_items",data:=.fields #[.ref d] }).DictAt (xan X.prog X.w) d vs ep:=⟨ob,es,Heap.get?_push_of_some _ g,ex,hdat,hk,hp,hn⟩
  refine wpAny_pyIter_items (s:={ s1 with heap:=s1.heap.push { cls:=.type "dict_items",data:=.fields #[.ref d] } }) ⟨_,Heap.get?_push_size _ rfl,rfl,rfl⟩ da ?_
  have I2:Inv X pins σ H1 { s1 with heap:=s1.heap.push { cls:=.type "dict_items",data:=.fields #[.ref d] } }:=I1.kept (t':=s1.toks) fun b o e=>Heap.get?_push_of_some _ e
  generalize hs2:({ s1 with heap:=s1.heap.push { cls:=.type "dict_items",data:=.fields #[.ref d] } }:Shared)=s2 at I2
  have g2:s2.heap.get? d=some ob:=by rw[<- hs2]; exact Heap.get?_push_of_some _ g
  have I3:Inv X pins σ (upd H1 d (.frz ob (.dK kvs))) s2:=I2.write (t':=s2.toks) (x:=d) (e:=d) (by rw[e]; exact True.intro) (.inl rfl) (fun b u _ q=>q) ⟨ob,g2⟩ ⟨g2,I2.hok d _ e⟩
  have I4:Inv X pins σ (upd H1 d (.frz ob (.dK kvs))) { s2 with heap:=s2.heap.push { cls:=.type "dict_itemiterator",data:=.fields #[.none,.bool false,.ref d,.int 0 0,.int vs.length 0,.int ep 0,.none,.none] } } :=
    I3.kept (t':=s2.toks) fun b o e=>Heap.get?_push_of_some _ e
  have fin:PIE X pins σ (.Tuple elts x1 tpos) R (.ref s2.heap.objs.size) { s2 with heap:=s2.heap.push { cls:=.type "dict_itemiterator",data:=.fields #[.none,.bool false,.ref d,.int 0 0,.int vs.length 0,.int ep 0,.none,.none] } }:=by
    refine⟨s2.heap.objs.size,[s2.heap.objs.size],_,_,upd H1 d (.frz ob (.dK kvs)),rfl,I4,xks d _ ob kvs ep ⟨es,hdat⟩,⟨.none,.none,?_⟩,fun b hb=>?_,q ob (I1.nofrz e)⟩
    . have hl:kvs.length=vs.length:=rel.length
      show IsItemIter _ _ d 0 kvs.length ep .none .none
      rw[hl]
      exact Heap.get?_push_size _ rfl
    . have eb:b=s2.heap.objs.size:=by simpa using hb
      subst eb
      exact I3.fpOk (Nat.le_refl _) (I3.hok.fresh (Nat.le_refl _))
  exact fin
theorem xnm {pins:List (Addr × Obj)}{σ:St}{Q:VK}{u:Value}{s:Shared} (h:EP X pins σ (fun v H2=>∃ d ob u,H2 d=some (.frz ob u)/\(∀ o' u',X.H₀ d≠some (.frz o' u'))/\Q v (upd H2 d u)) u s):EP X pins σ Q u s:=by
 obtain⟨v,H2,I2,r2,d,ob,u',e,nf,q⟩:=h
 exact⟨v,_,I2.thaw e nf,r2,q⟩
theorem xo3 {e:Expr}{t:TE} (h:PE X e t):PE X e (fun σ H Q=>t σ H fun v H2=>∃ d ob u,H2 d=some (.frz ob u)/\(∀ o' u',X.H₀ d≠some (.frz o' u'))/\Q v (upd H2 d u)):=fun pins s σ H Q I q =>
 thn (h pins s σ H _ I q) fun _ _ z=>xnm z
end
end L2
namespace PySem.F
theorem xl_plain_dict_loop:plainId "dict.update.loop"=true:=by decide +kernel
theorem xl_entry_dict_loop:entryFor table "dict.update.loop"=some Builtin.«dict.update.loop»:=entryFor_of_tree (by kernel_rfl)
theorem xl_list_nokeys:typeLookup (.type "list") "keys"=pure none:=by rw[typeLookup_type,builtinLookup_eq_fast]; kernel_rfl
end PySem.F
namespace L2
open PySem PySem.Spec PyProof.Rows XL
variable {q0:Bool}
theorem xlo {prog:Program}{w:World}{A:Around}{E:Value->Shared->Prop}{s:Shared}{a:Addr}{o:Obj}{xs:Array Value}{k:Nat}{Q:Option Value->Shared->Prop}
    (hx:s.heap.get? a=some o) (hc:o.cls=.type "list") (hdat:o.data=.seq xs k) (hd:o.dict=none) (hA:A.handled=none)
    (h:∀ h' tk,(∀ b o,s.heap.get? b=some o->h'.get? b=some o)->Q none { s with heap:=h',toks:=tk }):wpAny (model prog w) A (getAttr? (.ref a) "keys") Q E s:=by
  obtain⟨c,dct,dat,sl⟩:=o
  simp only at hc hdat hd
  subst hc hdat hd
  obtain⟨hp,g,d,tk,os⟩:=s
  have hT:∀ tk',(⟨hp,g,d,tk',os⟩:Shared).TypeIs (.ref a) "list":=fun _=>⟨_,hx,rfl⟩
  have f1:=sub_AttributeError
  have f3:=F.slot_list_getattribute.lookup
  have f4:=F.slot_list_getattribute.bind (.ref a)
  have f5:=am_list_getattr_none
  unfold getAttr? getAttrBy? getAttrBy
  repeat (any_goals (first|assumption|exact hT _|((with_reducible show wpAny _ _ (call (Value.builtin "list.__getattribute__") _ _) _ _ _); refine call_meets F.slot_list_getattribute (hT _) am_entry_list_getattribute (F.args_list_getattribute_2 _ _) (meets_getattribute_miss_list a xs k sl "keys" _ F.xl_list_nokeys (by decide +kernel) (by size_fits)) ⟨hx,hA,fun h' tk' e hx'=>?_⟩)|wp_step))
  obtain⟨t',u',he⟩:=hx'.there
  have hk:=hx'.of.keeps
  show wpAny _ _ (getattributeRaised _ _ _ _ _ _ _) _ _ _
  unfold getattributeRaised
  repeat (any_goals (first|assumption|wp_step))
  exact h _ _ hk
section
variable {X:Cx}{pins:List (Addr × Obj)}{σ:St}{H:Hp}{s:Shared}{a:Addr}{y v:V}{u r:Value}{A:Around}{E:Value->Shared->Prop}
theorem xl5 {H':Hp}{Q:Unit->Shared->Prop} (hu:A.units<cLine) (I:Inv X pins σ H s) (g:DPut H a y v H') (ry:RelV y u) (rv:RelV v r) (h:∀ s',Inv X pins σ H' s'->Q () s') :
    wpAny (model X.prog X.w) A (dictSet a u r) Q E s:=by
  rcases g with⟨kvs,k,e,ey,l,eH⟩|⟨kvs,k,b,e,ey,eb,l,eH⟩
  . subst ey eH
    obtain⟨z,hd,vs,rel,dd⟩:=xhq I.hok e
    have hz:vs.length<=sizeLine:=by rw[<- rel.length]; exact z
    have hl:(putK kvs k v).length<=sizeLine:=by have:=xbl kvs k v; omega
    refine wpAny_dictSet_pairs (hsz:=hz) (xc1 ry) dd fun h' dd' hs=>h _ ?_
    have he:∃ q,h'.get? a=some q:=let ⟨q,_,_,hq,_⟩:=dd'; ⟨q,hq⟩
    exact xd9 I (by rw[e]; exact True.intro) hs he (xlp hl hd (rel.put k rv) dd')
  . subst ey eH
    cases (show u=Value.ref b from ry)
    obtain⟨z,hd,xs,rel,dd⟩:=xho I.hok e
    have hz:xs.length<=sizeLine:=by rw[<- Paired.length rel]; exact z
    have hl:(putK kvs k v).length<=sizeLine:=by have:=xbl kvs k v; omega
    refine wpAny_dictSet_heap (hsz:=hz) (show (tupleKind (xan X.prog X.w)).room A from hu) (xdh I.hok eb) dd fun h' dd' hs=>h _ ?_
    obtain⟨q,es,ep,hq,h2,h3,h4,_,h5⟩:=dd'
    refine xd9 I (by rw[e]; exact True.intro) hs ⟨q,hq⟩ ⟨hl,hd,_,(rel.put k eb rv).keeps fun c ys ec=>?_,q,es,ep,hq,h2,h3,h4,h5⟩
    rw[xf (xp ec e (fun z=>nomatch z))]
    exact ec
theorem DPut.stay {d b:Addr}{H':Hp}{o:HO} (g:DPut H d y v H') (e:H b=some o) (n1:∀ kvs,o≠.dK kvs) (n2:∀ kvs,o≠.dT kvs):H' b=some o:=by
 rcases g with⟨kvs,k,e2,_,_,rfl⟩|⟨kvs,k,b2,e2,_,_,_,rfl⟩
 .rw [xf (xp e e2 (n1 _))]
  exact e
 .rw [xf (xp e e2 (n2 _))]
  exact e
theorem DPut.free {d b:Addr}{H':Hp} (g:DPut H d y v H') (e:H b=none):H' b=none:=by
 rcases g with⟨kvs,k,e2,_,_,rfl⟩|⟨kvs,k,b2,e2,_,_,_,rfl⟩
 .rw [xf (Ne.symm (xb e2 e))]
  exact e
 .rw [xf (Ne.symm (xb e2 e))]
  exact e
end
inductive xep (d:Addr):Hp->List (V × V)->Hp->Prop
 | nil {H:Hp}:xep d H [] H
 | cons {H H1 H2:Hp}{y v:V}{r:List (V × V)}:DPut H d y v H1->xep d H1 r H2->xep d H ((y,v)::r) H2
theorem xfn {X:Cx}{pins:List (Addr × Obj)}{σ:St}{A:Around}{R:Result->Shared->Prop} (hh:A.in1.handled=none) (hu:A.in1.units<cLine) {l it d:Addr} :
    ∀(ps:List (Addr × V × V)) (pre:List V) (j:Int) (H H2:Hp) (s:Shared),Inv X pins σ H s->H l=some (.lst (pre++ps.map fun p=>.ref p.1))->(∀ p∈ps,H p.1=some (.tup [p.2.1,p.2.2]))->xep d H (ps.map (·.2)) H2 ->
      s.heap.IsListIter it l pre.length->FpOk X pins H it->(∀ s',Inv X pins σ H2 s'->R (.ok (.ret .none)) s') ->
      codeAny (model X.prog X.w) A (.builtin "dict.update.loop" ⟨[.ref d,.ref it,rawInt j,.none],[]⟩) R s
  | [],pre,j,H,H2,s,I,hl,hp,dp,st,fo,fin=>by
    cases dp
    obtain⟨z,its,n,r,hl2,e⟩:=I.lstM hl
    obtain⟨f0,f1,f2,f3,f4,f5⟩:=fo
    refine codeAny_builtin F.xl_entry_dict_loop ?_
    rw[Around.under_plainId F.xl_plain_dict_loop _]
    show wpAny _ A.in1 (pyNext (.ref it)>>=_) _ _ s
    refine wpAny_bind (wpAny_pyNext_list_end hh st ⟨_,e,rfl,_,rfl⟩ (by simp at hl2 ⊢; omega) fun h' eb=>?_)
    show wpAny _ A.in1 (Builtin.Dict.addKeywords d []>>=_) _ _ _
    exact wpAny_bind (wpAny_pure (wpAny_pure (fin _ (I.turned (t':=s.toks) (fun b o hb e=>eb b o hb e) f0 f1 f3 f4 f5))))
  | (a,y,v)::ps,pre,j,H,H2,s,I,hl,hp,dp,st,fo,fin=>by
    have fo':=fo
    obtain⟨f0,f1,f2,f3,f4,f5⟩:=fo
    cases dp with
    | @cons _ H1 _ _ _ _ g dp =>
    obtain⟨z,its,n,r,hl2,e⟩:=I.lstM hl
    obtain⟨u,hu1,ru⟩:=r.get (i:=pre.length) (x:=.ref a) (by simp)
    obtain rfl:u=Value.ref a:=ru
    refine codeAny_builtin F.xl_entry_dict_loop ?_
    rw[Around.under_plainId F.xl_plain_dict_loop _]
    show wpAny _ A.in1 (pyNext (.ref it)>>=_) _ _ s
    refine wpAny_bind (wpAny_pyNext_list_item st ⟨_,e,rfl,_,rfl⟩ (x:=.ref a) (by simpa using hu1) fun h' st' sb=>?_)
    have I1:Inv X pins σ H { s with heap:=h' }:=I.turned (t':=s.toks) (fun b o hb e=>(sb.2 b hb).trans e) f0 f1 f3 f4 f5
    obtain⟨z2,ts,rt,ot,et,ct,nt,dt⟩:=I1.hok a _ (hp _ List.mem_cons_self)
    obtain⟨uk,uv,rfl,rk,rv⟩:=xkk rt
    show wpAny _ A.in1 (holding [.ref a] _>>=_) _ _ _
    refine wpAny_bind (wpAny_holding ?_)
    refine wpAny_bind (wpAny_tryCatch ?_)
    unfold Builtin.Dict.pairItems
    refine wpAny_bind (wpAny_typeOf (T:="tuple") ⟨ot,et,ct⟩ ?_)
    rw[if_pos (by decide)]
    refine wpAny_bind (wpAny_seqItems et dt (wpAny_pure ?_))
    show wpAny _ A.in1 (holding [uk,uv] (dictSet d uk uv)) _ _ _
    have ob:∀ b∈[it],∃ o,h'.get? b=some o/\∀ v,o.data≠.cell v:=fun b hb=>by
      have e:b=it:=by simpa using hb
      subst e
      obtain⟨o,e,c,d⟩:=id st'
      exact⟨o,e,fun v z=>by rw[d] at z; cases z⟩
    have I1':=I1.pinned (fp:=[it]) (fun b hb=>by
      have e:b=it:=by simpa using hb
      subst e
      exact fo') ob
    refine wpAny_holding (xl5 hu I1' g rk rv fun s' I2=>?_)
    refine wpAny_pure ⟨plainId_quiet F.xl_plain_dict_loop _,?_⟩
    have fo2:FpOk X pins H1 it:=⟨g.free f0,f1,f2,f3,f4,f5⟩
    have st2:s'.heap.IsListIter it l (pre++[V.ref a]).length:=by
      rw[List.length_append]
      exact st'.at fun o e=>(I2.pin (it,o) (List.mem_append_right _ (List.mem_append_right _ (xcx (by simp) e)))).1
    refine xfn hh hu ps (pre++[V.ref a]) (j+1) H1 H2 s' I2.unpinned ?_ (fun p hp'=>?_) dp st2 fo2 fin
    . have z:=g.stay hl (fun _ q=>nomatch q) (fun _ q=>nomatch q)
      rw[z]
      simp
    . exact g.stay (hp p (List.mem_cons_of_mem _ hp')) (fun _ q=>nomatch q) (fun _ q=>nomatch q)
def xoz:List V->Hp->VK->Prop:=fun xs H Q=>∃(l:Addr) (ps:List (Addr × V × V)),xs=[.ref l]/\H l=some (.lst (ps.map fun p=>.ref p.1))/\(∀ p∈ps,H p.1=some (.tup [p.2.1,p.2.2])) /\
 ∀ d,H d=none->∃ e H2,(e=.dK []\/e=.dT [])/\xep d (upd H d e) (ps.map (·.2)) H2/\Q (.ref d) H2
theorem xd5 {X:Cx} (hc:X.calm=true) (hu:X.A.units+3<cLine):xb4 X (.type "dict") xoz:=by
 intro pins s σ H xs us Q I r h
 obtain⟨l,ps,rfl,hl,hp,q⟩:=h
 obtain⟨u,rfl,rx⟩:=xcm r
 obtain rfl:u=Value.ref l:=rx
 refine callType_codes (Q₁:=fun obj s₁=>obj=.ref s.heap.objs.size/\s₁={ s with heap:=s.heap.push { cls:=.type "dict",data:=.dict #[] } }) F.kt_called_dict (F.kt_typeCall_dict_1 _) F.entry_dict_init (kt_code_dict_new _ ⟨rfl,rfl⟩) ?_
 rintro obj s₁ ⟨rfl,rfl⟩
 obtain⟨e,H2,he,dps,q2⟩:=q s.heap.objs.size I.fresh
 have I1:Inv X pins σ (upd H s.heap.objs.size e) { s with heap:=s.heap.push { cls:=.type "dict",data:=.dict #[] } }:=by
  refine I.laid (t':=s.toks) (fun b u e=>Heap.get?_push_of_some _ e) (Nat.le_refl _) ?_
  rcases he with rfl|rfl
  .exact xim s.heap I.big
  .exact xit s.heap I.big
 have hT:(Shared.mk (s.heap.push { cls:=.type "dict",data:=.dict #[] }) s.gens s.drawn s.toks s.os).TypeIs (.ref s.heap.objs.size) "dict":=⟨_,Heap.get?_push_size _ rfl,rfl⟩
 have nl:l≠s.heap.objs.size:=fun z=>by
  rw[z,I.fresh] at hl
  cases hl
 have hl1:upd H s.heap.objs.size e l=some (.lst (ps.map fun p=>.ref p.1)):=by rw[xf nl]; exact hl
 obtain⟨z,its,n,rr,hll,el⟩:=I1.lstM hl1
 refine⟨hT,F.args_dict_init_2 _ _,?_⟩
 unfold Builtin.«dict.__init__»
 refine wpAny_bind ?_
 unfold Builtin.Dict.selfAndRest
 refine wpAny_bind (wpAny_notOrdered_dict hT ?_)
 show wpAny _ _ (pure (s.heap.objs.size,[Value.ref l])) _ _ _
 refine wpAny_pure ?_
 show wpAny _ _ (Builtin.Dict.updateFrom "dict.__init__" s.heap.objs.size (.ref l) [] .none) _ _ _
 unfold Builtin.Dict.updateFrom
 refine wpAny_bind (wpAny_typeOf (T:="list") ⟨_,el,rfl⟩ ?_)
 rw[if_pos (by decide)]
 refine wpAny_bind (xlo el rfl rfl rfl (I.ok.hd hc) fun h' tk hk=>?_)
 have I2:=I1.kept (h':=h') (t':=tk) hk
 show wpAny _ _ (rule _>>=_) _ _ _
 refine wpAny_bind (wpAny_rule ?_)
 refine wpAny_bind (wpAny_pyIter_list ⟨_,hk _ _ el,rfl,_,rfl⟩ ?_)
 refine wpAny_pure ⟨plainId_quiet F.xl_plain_dict_loop _,?_⟩
 have I3:Inv X pins σ (upd H s.heap.objs.size e) _:=I2.kept (t':=tk) (h':=h'.push { cls:=.type "list_iterator",data:=.fields #[.ref l,.int 0 0] }) fun b o e=>Heap.get?_push_of_some _ e
 refine xfn (A:=X.A.in1) (I.ok.hd hc) (by show X.A.units+1+1<cLine; omega) ps [] 0 _ H2 _ I3 (by simpa using hl1) (fun p hp'=>?_) dps ?_ ?_ fun s' I'=>?_
 .rw [xf (xb (hp p hp') I.fresh)]
  exact hp p hp'
 .exact ⟨_,Heap.get?_push_size _ rfl,rfl,rfl⟩
 .exact I2.fpOk (Nat.le_refl _) (I2.hok.fresh (Nat.le_refl _))
 .exact ⟨rfl,⟨.ref _,H2,I',rfl,q2⟩⟩
theorem xpx {X:Cx}{e:Expr}{t1 t2:TE} (h1:PE X e t1) (h2:PE X e t2):PE X e (fun σ H Q=>t1 σ H Q\/t2 σ H Q):=fun pins s σ H Q I h=>h.elim (h1 pins s σ H Q I) (h2 pins s σ H Q I)
theorem xfd {xs:List V}{us:List Value} (r:Vals xs us) {j:Nat} (h:j<us.toArray.size):∃ x,xs[j]?=some x/\RelV x us.toArray[j]:=by
 have hl:=r.length
 have hj:j<xs.length:=by simp at h; omega
 obtain⟨u,h1,h2⟩:=r.get (x:=xs[j]) (List.getElem?_eq_getElem hj)
 refine⟨xs[j],List.getElem?_eq_getElem hj,?_⟩
 have:us.toArray[j]=u:=by
  have z:=List.getElem?_eq_some_iff.mp h1
  obtain⟨z1,z2⟩:=z
  simpa using z2
 rw[this]
 exact h2
theorem xiy {A:Around}{k:Nat} (hr:Room q0 k A):A.units+3<cLine:=by have:=hr.un; omega
theorem xd7 {A:Around}{k:Nat} (hr:Room q0 k A):A.units+20<cLine:=by have:=hr.un; omega
theorem xlx {X:Cx}:xb4 X (.builtin "len") (fun xs H Q=>∃ a kvs,xs=[.ref a]/\H a=some (.dK kvs)/\Q (.int kvs.length) H):=by
 intro pins s σ H xs us Q I r h
 obtain⟨a,kvs,rfl,e,q⟩:=h
 obtain⟨u,rfl,rx⟩:=xcm r
 obtain rfl:u=Value.ref a:=rx
 exact xq6 I (.inl e) fun t s' I'=>⟨.int _,H,I',⟨t,rfl⟩,q⟩
inductive Ents (w:World):List DictEntry->List (Key × V)->Prop
 | nil:Ents w [] []
 | cons {k:Key}{x:V}{key val:Value}{h:Int}{es:List DictEntry}{kvs:List (Key × V)} (hh:h=keyH w k) (hk:RelV (kV k) key) (hv:RelV x val) (r:Ents w es kvs):Ents w (⟨h,key,val⟩::es) ((k,x)::kvs)
def xhr (w:World) (K:PySem.W.Frag) (D:Addr) (kvs:List (Key × V)):Prop:=(D == sysModules)=false/\∃(es:Array DictEntry) (ep:Nat),K.lookup D=some ⟨.type "dict",none,.dict es ep,#[]⟩/\Ents w es.toList kvs/\(kvs.map (·.1)).Nodup
theorem Ents.ok {P:Program}{w:World}{es:List DictEntry}{kvs:List (Key × V)} (h:Ents w es kvs):∃ vs,KV kvs vs/\Pairs (xan P w) es vs/\∀ e∈es,∃ k,(xan P w).is k e.key=true/\e.hash=(xan P w).hash k:=by
 induction h with
 | nil=>exact⟨[],.nil,.nil,fun e z=>nomatch z⟩
 | @cons k x key val h es kvs hh hk hv _ ih =>
  obtain⟨vs,a,b,c⟩:=ih
  refine⟨(k,val)::vs,.cons ⟨rfl,hv⟩ a,.cons (xc1 hk) rfl b,fun e he=>?_⟩
  rcases List.mem_cons.mp he with rfl|z
  .exact ⟨k,xc1 hk,hh⟩
  .exact c e z
section
variable {X:Cx}{pins:List (Addr × Obj)}{σ:St}{H:Hp}{s:Shared}{D:Addr}{kvs:List (Key × V)}
theorem xif (I:Inv X pins σ H s) (g:xhr X.w X.K D kvs):∃ vs,KV kvs vs/\s.heap.DictOf (xan X.prog X.w) D vs:=by
 obtain⟨_,es,ep,l,en,nd⟩:=g
 obtain⟨vs,a,b,c⟩:=en.ok (P:=X.prog)
 refine⟨vs,a,_,es,ep,I.kIn _ _ l,⟨rfl,rfl,rfl⟩,rfl,fun e he=>c e (by simpa using he),b,?_⟩
 rw[<- a.keys]
 exact nd
def tGIn (kvs:List (Key × V)) (neg:Bool) (ty:TE):TE:=fun σ H Q=>ty σ H fun y H1=>∃ k:Key,y=kV k/\Q (.bl (if neg then !(valV kvs k).isSome else (valV kvs k).isSome)) H1
theorem xlh {i:Expr}{ty:TE}{x:Str}{p:Pos} (hi:PE X i ty) (hg:Gl X x) (hm:X.mg x=some (.ref D)) (g:xhr X.w X.K D kvs) (hd:(x == ("__debug__":Str))=false:=by decide):PC X .NotIn i (.Name x p) (tGIn kvs true ty):=by
 intro pins s σ H Q I h
 refine thn (hi pins s σ H _ I h) fun iv s1 ⟨y,H1,I1,ry,k,ey,q1⟩=>thn (xea (v:=.ref D) hg hm rfl hd pins s1 σ H1 (fun v H2=>v=.ref D/\H2=H1) I1 ⟨rfl,rfl⟩) fun u s2 ⟨x,H2,I2,rx,e1,e2⟩=>?_
 subst ey e1 e2
 obtain rfl:u=Value.ref D:=rx
 obtain⟨vs,rel,dd⟩:=xif I2 g
 refine wpAny_notIn_of (xc1 ry) g.1 dd.mapOf ?_
 rw[<- (rel.val k).isSome_eq]
 exact⟨.bl _,_,I2.tok _,rfl,q1⟩
end
theorem xfj {ns:List Int}{f:Nat->Int} (h:∀ j (l:j<ns.length),f j=ns[j]):∀ j,j<=ns.length->preSum f j=(ns.take j).sum:=by
 intro j
 induction j with
 | zero=>intro _; rfl
 | succ j ih =>
  intro l
  have l':j<ns.length:=l
  show preSum f j+f j=_
  rw[ih (Nat.le_of_lt l'),h j l',List.take_add_one,List.getElem?_eq_getElem l',List.sum_append]
  simp
theorem xqe {ns:List Int} (B:Int) (hb:∀ n∈ns,-B<=n/\n<=B) (h0:0<=B):-(ns.length*B)<=ns.sum/\ns.sum<=ns.length*B:=by
 induction ns with
 | nil=>simp
 | cons a r ih =>
  have:=ih fun n hn=>hb n (List.mem_cons_of_mem _ hn)
  have:=hb a List.mem_cons_self
  rw[List.sum_cons,List.length_cons]
  have e:((r.length+1:Nat):Int)*B=r.length*B+B:=by rw[Int.natCast_add,Int.add_mul]; simp
  rw[e]
  omega
def xre (K:PySem.W.Frag):List V->Hp->VK->Prop:=fun xs H Q=>∃(p:Addr) (ns:List Int),xs=[.ref p]/\SqL K H p (ns.map V.int)/\(ns.length<=1000/\∀ n∈ns,-1000000<=n/\n<=1000000)/\Q (.int ns.sum) H
theorem xeu {X:Cx} (hc:X.calm=true):xb4 X (.builtin "sum") (xre X.K):=by
 intro pins s σ H xs us Q I r h
 obtain⟨p,ns,rfl,hs,⟨hlen,hb⟩,q⟩:=h
 obtain⟨u,rfl,rx⟩:=xcm r
 obtain rfl:u=Value.ref p:=rx
 obtain⟨its,vi,⟨o,n,g,c,_,d⟩,_⟩:=I.list hs
 have hi:IntsAre its ns:=xkg vi
 have il:s.heap.IsList p its.toArray:=⟨o,g,c,n,d⟩
 obtain⟨zs,e⟩:=hi.allInts.items
 have en:ns=zs.toList.map (·.1):=by rw[<- hi.numsOf,<- nums_intItems,<- e]
 rw[e] at il
 have sz:zs.size=ns.length:=by rw[en,List.length_map,Array.length_toList]
 have hat:∀ j (l:j<ns.length),numAt zs j=ns[j]:=fun j l=>by
  rw[numAt_eq,<- en]
  simp[List.getD,l]
 have bd:∀ j,j<=ns.length->InLong (ns.take j).sum:=fun j l=>by
  have:=xqe 1000000 (ns:=ns.take j) (fun n hn=>hb n (List.mem_of_mem_take hn)) (by decide)
  have hl:(ns.take j).length<=1000:=by rw[List.length_take]; omega
  unfold InLong
  omega
 refine sum_intList (I.ok.hd hc) il (fun j hj=>⟨?_,?_⟩) fun h' tk t' hk=>?_
 .rw [hat j (by omega)]
  have:=hb ns[j] (List.getElem_mem _)
  unfold InLong
  omega
 .rw [xfj hat (j+1) (by omega)]
  exact bd _ (by omega)
 .refine ⟨.int _,H,I.kept hk,⟨t',rfl⟩,?_⟩
  rw[sz,xfj hat _ (Nat.le_refl _),List.take_length]
  exact q
section
variable {X:Cx}{pins:List (Addr × Obj)}{σ:St}{H:Hp}{s:Shared}{h':Heap}
theorem Inv.turnedL {t':Nat}{ch:List Addr} (I:Inv X pins σ H s) (k:∀ b o,b∉ch->s.heap.get? b=some o->h'.get? b=some o) (hf:∀ b∈ch,FpOk X pins H b):Inv X pins σ H { s with heap:=h',toks:=t' }:=by
 have nit:∀ b u,H b=some u->b∉ch:=fun b u e z=>by
  have:=(hf b z).1
  rw[this] at e
  cases e
 refine I.step (g':=s.gens) (d':=s.drawn) (ch:=ch) (fun b hb=>?_) (fun b o _ _ hc e _=>k b o hc e) (fun b o _ _ hc e _=>⟨o.slots,k b o hc e⟩) (fun _ _ _ _ n=>n)
  (fun b o hc e=>⟨o,k b o hc e⟩) (fun _ _ e=>e) (fun _ _ _ e=>e) (fun b ps e=>⟨#[],by rw[e]; simp⟩) (fun m hm=>?_) (fun b u e=>?_) I.bare
 .obtain ⟨f0,f1,f2,f3,f4,f5⟩:=hf b hb
  exact⟨f3,f1,f4,f5⟩
 .obtain ⟨o,es,ep,ho,r⟩:=hm
  exact⟨o,es,ep,k _ o (fun z=>(hf _ z).2.1 rfl) ho,r⟩
 .refine (I.hok b u e).stay (fun c v hc q=>k c v ?_ q) (fun _ q=>q) fun _ _ q=>q
  rcases hc with z|z
  .rw [z]; exact nit b u e
  .exact nit c _ z
end
theorem xpn {a b:Nat} (h:a≠b):(a:Addr)≠(b:Addr):=h
def Ite (K:PySem.W.Frag) (a:Addr):It :=
 ⟨fun i H=>∃ xs x,SqL K H a xs/\xs[i]?=some x,fun i H v H'=>∃ p x,(∀ xs,SqL K H a xs->xs[i]?=some x)/\v=.ref p/\H p=none/\H'=upd H p (.tup [.int i,x]),fun i H=>∃ xs,SqL K H a xs/\xs.length<=i⟩
theorem xl6 {P:Program}{w:World}{K:PySem.W.Frag}{elts:List Expr}{x1}{tpos:Pos} (e it l:Addr) (hei:e≠it) :
    Turn P w K (.Tuple elts x1 tpos) (Ite K l) [e,it] e (fun i h=>(∃ old,IsEnum h e it i old)/\h.IsListIter it l i) where
  mem:=by simp
  obj:=fun i h st b hb=>by
    obtain⟨⟨old,he⟩,⟨o1,e1,c1,d1⟩⟩:=st
    simp only[List.mem_cons,List.not_mem_nil,or_false] at hb
    rcases hb with rfl|rfl
    . exact⟨_,he,fun v k=>by have k':Data.fields _=Data.cell v:=k; cases k'⟩
    . exact⟨_,e1,fun v k=>by rw[d1] at k; cases k⟩
  keep:=fun i h h' ⟨⟨old,he⟩,h1⟩ k=>⟨⟨old,k e (by simp) _ he⟩,h1.at fun o z=>k it (by simp) o z⟩
  item:=by
    intro X hP hw hK hc i pins s σ H E I hf st hg
    subst hP hw hK
    obtain⟨xs,x,hq,hx⟩:=hg
    obtain⟨its,rv,p,hz1⟩:=I.list hq
    obtain⟨u,hu,ru⟩:=rv.get hx
    obtain⟨⟨old,he⟩,h1⟩:=id st
    refine wpAny_pyNext_enum_item he h1 p.isList (x:=u) (by simpa using hu) hei fun h' ho hit' hT hsz hk=>?_
    refine⟨_,rfl,wpAny_letOwnedTupleGo_enum (s:={ s with heap:=h',toks:=s.toks+1 }) ho fun h'' he' hs'=>?_⟩
    have elt:e<s.heap.objs.size:=Heap.lt_size he
    have pne:s.heap.objs.size≠e:=Nat.ne_of_gt elt
    have kk:∀ b o,b∉[e,it]->s.heap.get? b=some o->h''.get? b=some o:=fun b o hb g=>by
      simp only[List.mem_cons,List.not_mem_nil,or_false,not_or] at hb
      exact (hs'.2 b hb.1).trans (hk b o hb.1 hb.2 g)
    have I1:Inv X pins σ H { s with heap:=h'',toks:=s.toks+1 }:=I.turnedL kk hf
    obtain⟨n0,nL,nC,nP⟩:=I.size_lt (Nat.le_refl s.heap.objs.size)
    have hp:h''.get? s.heap.objs.size=some { cls:=.type "tuple",data:=.seq #[.int i s.toks,u] }:=(hs'.2 _ pne).trans hT
    refine⟨.ref s.heap.objs.size,upd H s.heap.objs.size (.tup [.int i,x]),I1.adopt n0 I.sz nL nC nP ⟨by show 2<=sizeLine; decide,[.int i s.toks,u],.cons ⟨_,rfl⟩ (.cons ru .nil),_,hp,rfl,_,rfl⟩,rfl,
      ⟨_,x,fun zs hz=>by rw[I.list_inj hz hq]; exact hx,rfl,n0,rfl⟩,?_,fun b hb=>?_⟩
    . exact⟨⟨_,by simpa using he'⟩,hit'.at fun o y=>(hs'.2 it (Ne.symm hei)).trans y⟩
    . obtain⟨o,ho⟩:∃ o,s.heap.get? b=some o:=by
        obtain⟨o1,e1,c1,d1⟩:=h1
        simp only[List.mem_cons,List.not_mem_nil,or_false] at hb
        rcases hb with rfl|rfl
        . exact⟨_,he⟩
        . exact⟨_,e1⟩
      rw[xf (Nat.ne_of_lt (Heap.lt_size ho))]
      exact (hf b hb).1
  done:=by
    intro X hP hw hK hc i pins s σ H E I hf st hg
    subst hP hw hK
    obtain⟨xs,hq,hl⟩:=hg
    obtain⟨its,rv,p,hz1⟩:=I.list hq
    have e1:=rv.length
    obtain⟨⟨old,he⟩,h1⟩:=id st
    refine wpAny_pyNext_enum_end (I.ok.hd hc) he h1 p.isList (by simp; omega) fun h' hx=>⟨rfl,I.turnedL (t':=s.toks) (fun b o hb g=>?_) hf⟩
    simp only[List.mem_cons,List.not_mem_nil,or_false,not_or] at hb
    exact hx b o hb.2 g
  self:=fun _ _ _ _ _ ⟨⟨_,st⟩,_⟩ h=>wpAny_pyIter_enum st h
def xrs (K:PySem.W.Frag) (ta:TA):TI:=fun σ H R=>ta σ H fun vs H1=>∃ a xs,vs=[.ref a]/\SqL K H1 a xs/\R (Ite K a) H1
section
variable {X:Cx}{elts:List Expr}{x1:_}{tpos:Pos}
theorem xiv {a:Expr}{ta:TA}{p pos:Pos} (hg:Gl X "enumerate") (hm:X.mg "enumerate"=none) (ha:PA X [a] ta) (hs:starEach [a] X.env=[(false,eval a X.env)]:=by rfl) :
    PI X (.Tuple elts x1 tpos) (.Call (.Name "enumerate" p) [a] [] pos) (xrs X.K ta):=by
  intro pins s σ H R I h
  refine Call_ (xc8 I hg hm PyProof.Rows.Boot.«enumerate» (PyProof.Rows.callWith_type1 (thn (ha pos pins s σ H _ I h) fun us s1 ⟨vs,H1,I1,r1,q1⟩=>?_) hs rfl))
  obtain⟨l,xs,e,hq,q⟩:=q1
  subst e
  obtain⟨u,rfl,ru⟩:=xcm r1
  obtain rfl:u=Value.ref l:=ru
  obtain⟨its,rv,p1,hz1⟩:=I1.list hq
  refine call_enumerate_list p1.isList fun h' he h1 hsz hk=>?_
  refine wpAny_pyIter_enum (s:={ s1 with heap:=h' }) he ?_
  have I2:Inv X pins σ H1 { s1 with heap:=h' }:=I1.kept (t':=s1.toks) hk
  refine⟨_,[s1.heap.objs.size+1,s1.heap.objs.size],_,_,H1,rfl,I2,xl6 _ _ l (xpn (by omega)),⟨⟨_,he⟩,h1⟩,fun b hb=>?_,q⟩
  have hb':s1.heap.objs.size<=b:=by
    simp only[List.mem_cons,List.not_mem_nil,or_false] at hb
    rcases hb with rfl|rfl
    . exact Nat.le_add_right _ 1
    . exact Nat.le_refl _
  exact I1.fpOk hb' (I1.hok.fresh hb')
end
end L2
namespace L2
open PySem PySem.Spec PyProof.Rows XL
def tMid (t:TS):TS:=fun D σ H=>∃ Pv:St->Hp->Prop,t { D with nx:=Pv } σ H/\∀ σ' H',Pv σ' H'->D.nx σ' H'
theorem xbz {X:Cx}{st:Stmt}{t:TS} (h:PS X st t):PS X st (tMid t):=by
 intro pins s σ H D I q
 obtain⟨Pv,q1,q2⟩:=q
 refine thn (h pins s σ H { D with nx:=Pv } I q1) fun fl s1 z=>?_
 cases fl with
 | next =>
  obtain⟨σ',H',I',r⟩:=z
  exact⟨σ',H',I',q2 _ _ r⟩
 | _=>exact z
end L2
namespace XL
open PySem PySem.W
end XL
namespace L2
open PySem PySem.Spec PyProof.Rows XL
variable {q0:Bool}
end L2
namespace L2
open PySem PySem.Spec PyProof.Rows XL
end L2
namespace L2
open PySem PySem.Calls PyProof PyProof.Rows
theorem xrh {x y z:V}{us:List Value} (r:Vals [x,y,z] us):∃ u v w,us=[u,v,w]/\RelV x u/\RelV y v/\RelV z w:=by
 cases r with
 | cons r1 r2 =>
  cases r2 with
  | cons r3 r4 =>
   cases r4 with
   | cons r5 r6=>cases r6; exact⟨_,_,_,rfl,r1,r3,r5⟩
theorem xl3 {X:Cx} (hc:X.calm=true):xb4 X (.builtin "min") (fun xs H Q=>∃ i j k:Int,xs=[.int i,.int j,.int k]/\∀ m:Int,m<=i->m<=j->m<=k->(m=i\/m=j\/m=k)->Q (.int m) H):=by
 intro pins s σ H xs us Q I r h
 obtain⟨i,j,k,rfl,q⟩:=h
 obtain⟨u,v,w',rfl,⟨t,rfl⟩,⟨t',rfl⟩,⟨t2,rfl⟩⟩:=xrh r
 refine min_three_ints (I.ok.hd hc) fun h' tk k'=>?_
 by_cases h1:j<i
 .rw [if_pos h1]
  by_cases h2:k<j
  .rw [if_pos h2]
   exact⟨.int k,H,I.kept k',⟨_,rfl⟩,q k (by omega) (by omega) (by omega) (.inr (.inr rfl))⟩
  .rw [if_neg h2]
   exact⟨.int j,H,I.kept k',⟨_,rfl⟩,q j (by omega) (by omega) (by omega) (.inr (.inl rfl))⟩
 .rw [if_neg h1]
  by_cases h2:k<i
  .rw [if_pos h2]
   exact⟨.int k,H,I.kept k',⟨_,rfl⟩,q k (by omega) (by omega) (by omega) (.inr (.inr rfl))⟩
  .rw [if_neg h2]
   exact⟨.int i,H,I.kept k',⟨_,rfl⟩,q i (by omega) (by omega) (by omega) (.inl rfl)⟩
def eU (e:V->Bool) (u:Value):Bool:=match absV u with|some y=>e y|none=>false
theorem xn1 {e:V->Bool}{y:V}{u:Value} (r:RelV y u):eU e u=e y:=by unfold eU; rw[r.abs]
theorem xlf {e:V->Bool}:∀{xs:List V}{us:List Value},Vals xs us->us.any (eU e)=xs.any e
 | _,_,.nil=>rfl
 | y::xs,u::us,.cons r t=>by rw[List.any_cons,List.any_cons,xn1 r,xlf t]
theorem xjf:∀{xs:List V}{us:List Value},Vals xs us->∀ u∈us,∃ y∈xs,RelV y u
 | _,_,.nil=>fun u hu=>nomatch hu
 | y::xs,u::us,.cons r t=>fun u' hu=>by
  rcases List.mem_cons.mp hu with rfl|hu
  .exact ⟨y,List.mem_cons_self,r⟩
  .obtain ⟨z,h1,h2⟩:=xjf t u' hu
   exact⟨z,List.mem_cons_of_mem _ h1,h2⟩
end L2
namespace PySem.F
end PySem.F
namespace L2
open PySem PySem.Spec PyProof.Rows XL
variable {q0:Bool}
end L2
namespace L2
open PySem PySem.Spec PyProof.Rows XL PySem.W
variable {q0:Bool}
theorem xgr {prog:Program}{w:World}{A:Around}{E:Value->Shared->Prop}{s:Shared}{a:Addr}{vs:List Value}{n:Nat}{P:PySem.Fin->Shared->Prop}
    (h:s.heap.get? a=some (seqObj "list" vs.toArray n)) (h2:2<=vs.length) (h64:vs.length<64)
    (hk:∀ s':Shared,s'.heap=(((s.heap.update a (Obj.mapSeq fun x=>#[])).push (seqObj "tuple" vs.toArray 0)).push (seqObj "list" #[] 0))->s'={ s with heap:=s'.heap } ->
      wpAny (model prog w) A (keyKind' vs.toArray) (fun κ s''=>s''=s'/\KasT.kasWp (kas_ask prog w A κ vs) (kas_sort vs.length) (fun p s3=>s3=s'/\P (.done (.ret .none)) { s with heap:=sortedHeap s.heap a vs (p.map fun i=>vs.getD i .none) }) s'') (fun _ _=>False) s') :
    wpAny (model prog w) A (Builtin.«list.sort» { pos:=[.ref a] }) P E s:=by
  obtain⟨hp,g,d,tk,os⟩:=s
  rw[list_sort_plain]
  repeat (any_goals (first|assumption|wp_step))
  have z:¬ vs.toArray.toList.toArray.size>sizeLine:=by
    simp
    exact Nat.le_of_lt (Nat.lt_trans h64 (by decide))
  rw[if_neg z]
  generalize keyKind' vs.toArray=kk at hk ⊢
  repeat (any_goals (first|assumption|wp_step))
  have hk':=hk { heap:=((hp.update a (Obj.mapSeq fun x=>#[])).push (seqObj "tuple" vs.toArray 0)).push (seqObj "list" #[] 0),gens:=g,drawn:=d,toks:=tk,os:=os } rfl rfl
  refine wpAny_mono hk' (fun κ s'' z=>?_) (fun _ _ z=>z.elim)
  obtain⟨e,q⟩:=z
  subst e
  show wpAny _ _ (StateT.run (if vs.toArray.size<2 then pure () else sortRuns') _>>=_) _ _ _
  rw[if_neg (by simp; omega)]
  refine wpAny_bind (wpAny_mono (kat_run (E:=E) (Q:=fun st' s'=>∃ p:Array Nat,p.size=vs.length/\arrOf st'=Array.map (kas_item (vs.toArray.zip vs.toArray)) p/\failedOf st'=none/\s'=_/\P (.done (.ret .none)) { heap:=sortedHeap hp a vs (p.map fun i=>vs.getD i .none),gens:=g,drawn:=d,toks:=tk,os:=os }) rfl h2 h64 (fun p st' s' hp' e f q'=>⟨p,hp',e,f,q'.1,q'.2⟩) q) (fun r s' z=>?_) fun _ _ z=>z)
  obtain⟨u,st⟩:=r
  obtain⟨p,psz,e,f,rfl,q'⟩:=z
  have al:a<hp.objs.size:=Heap.lt_size h
  have g1:(((hp.update a (Obj.mapSeq fun x=>#[])).push (seqObj "tuple" vs.toArray 0)).push (seqObj "list" #[] 0)).get? a=some (seqObj "list" #[] (n+1)):=by
    refine Heap.get?_push_of_some _ (Heap.get?_push_of_some _ ?_)
    rw[Heap.get?_update_self _ h rfl]
    have z:((0:Nat) == vs.length)=false:=by
      cases vs with
      | nil=>simp at h2
      | cons=>rfl
    simp[Obj.mapSeq,z]
  have e2:(if (((fun x=>#[]) vs.toArray:Array Value).size == vs.toArray.size)=true then n else n+1)=n+1:=by
    rw[if_neg]
    simp
    omega
  simp only[e2,f]
  have e3:Array.map (fun x=>x.snd) (arrOf st)=p.map fun i=>vs.getD i .none:=by
    rw[e,Array.map_map]
    congr 1
    funext i
    show (kas_item (vs.toArray.zip vs.toArray) i).snd=_
    unfold kas_item
    by_cases c:i<vs.length
    . simp[List.getElem?_eq_getElem c,c]
    . simp[List.getElem?_eq_none (by omega:vs.length<=i),c]
  simp only[e3]
  repeat (any_goals (first|assumption|wp_step))
  have e4:(Obj.mapSeq (fun x=>Array.map (fun i=>vs.getD i Value.none) p) (seqObj "list" #[] (n+1))).data.pastItsLine=none:=by
    show (if (Array.map (fun i=>vs.getD i Value.none) p).size>sizeLine+1 then _ else none)=none
    rw[if_neg]
    rw[Array.size_map,psz]
    have:vs.length<sizeLine:=Nat.lt_trans h64 (by decide)
    omega
  rw[e4]
  refine wpAny_pure ?_
  rw[f]
  show wpAny _ _ (if (n+1 != n+1)=true then _ else _) _ _ _
  rw[if_neg (by simp)]
  exact wpAny_pure q'
theorem xe1 {prog:Program}{w:World}{A:Around}{E:Value->Shared->Prop}{s:Shared}{it d:Addr}{i ep:Nat}{o:Obj}{es:Array DictEntry}{en:DictEntry}{Q:Option Value->Shared->Prop}
    (st:s.heap.IsKeyIter it d i es.size ep) (hd:s.heap.get? d=some o) (hx:o.ExactDict) (hdat:o.data=.dict es ep) (hi:es[i]?=some en)
    (h:∀ h',h'.IsKeyIter it d (i+1) es.size ep->Heap.SameBut it s.heap h'->Q (some en.key) { s with heap:=h' }):wpAny (model prog w) A (pyNext (.ref it)) Q E s:=by
  unfold pyNext
  refine wpAny_bind (wpAny_attempt (wpAny_callSpecial?_slot st.typeIs F.slot_dict_keyiterator_next ?_))
  refine wpAny_call_entry F.slot_dict_keyiterator_next st.typeIs F.entry_dict_keyiterator_next ?_ (F.args_dict_keyiterator_next_1 _)
  have ti:=st.typeIs
  obtain⟨hp,g,dr,tk,os⟩:=s
  obtain⟨⟨c,dct,dat,sl⟩,hit,ci,di⟩:=st
  simp only at ci di
  subst ci di
  unfold Builtin.«dict_keyiterator.__next__»
  repeat (any_goals (first|assumption|(with_reducible refine wpAny_typeNameOfWhole_keyiter ti ?_)|(with_reducible refine wpAny_isOneOf_keyiter ti ?_)|(with_reducible refine wpAny_dictEntries hd hdat ?_)|(with_reducible refine wpAny_dictEpoch hd hdat ?_)|wp_step))
  have e1:(if (i:Int)<0 then none else es[(i:Int).toNat]?)=some en:=by
    rw[if_neg (by omega),Int.toNat_natCast]
    exact hi
  rw[e1]
  repeat (any_goals (first|assumption|(with_reducible refine wpAny_typeNameOfWhole_keyiter ti ?_)|(with_reducible refine wpAny_isOneOf_keyiter ti ?_)|(with_reducible refine wpAny_dictEntries hd hdat ?_)|(with_reducible refine wpAny_dictEpoch hd hdat ?_)|wp_step))
  refine⟨_,rfl,wpAny_pure (h _ ?_ (Heap.SameBut.update _ _ _))⟩
  refine⟨_,Heap.get?_update_self _ hit rfl,rfl,?_⟩
  rfl
theorem xfl {prog:Program}{w:World}{A:Around}{E:Value->Shared->Prop}{s:Shared}{it d:Addr}{ep:Nat}{o:Obj}{es:Array DictEntry}{Q:Option Value->Shared->Prop}
    (hA:A.handled=none) (st:s.heap.IsKeyIter it d es.size es.size ep) (hd:s.heap.get? d=some o) (hx:o.ExactDict) (hdat:o.data=.dict es ep)
    (h:∀ h',Heap.ExtBut it s.heap h'->Q none { s with heap:=h' }):wpAny (model prog w) A (pyNext (.ref it)) Q E s:=by
  unfold pyNext
  refine wpAny_bind (wpAny_attempt (wpAny_callSpecial?_slot st.typeIs F.slot_dict_keyiterator_next ?_))
  refine wpAny_call_entry F.slot_dict_keyiterator_next st.typeIs F.entry_dict_keyiterator_next ?_ (F.args_dict_keyiterator_next_1 _)
  have ti:=st.typeIs
  obtain⟨hp,g,dr,tk,os⟩:=s
  obtain⟨⟨c,dct,dat,sl⟩,hit,ci,di⟩:=st
  simp only at ci di
  subst ci di
  unfold Builtin.«dict_keyiterator.__next__»
  repeat (any_goals (first|assumption|(with_reducible refine wpAny_typeNameOfWhole_keyiter ti ?_)|(with_reducible refine wpAny_isOneOf_keyiter ti ?_)|(with_reducible refine wpAny_dictEntries hd hdat ?_)|(with_reducible refine wpAny_dictEpoch hd hdat ?_)|wp_step))
  have e1:(if (es.size:Int)<0 then none else es[(es.size:Int).toNat]?)=none:=by
    rw[if_neg (by omega),Int.toNat_natCast]
    simp
  rw[e1]
  repeat (any_goals (first|assumption|(with_reducible refine wpAny_typeNameOfWhole_keyiter ti ?_)|(with_reducible refine wpAny_isOneOf_keyiter ti ?_)|(with_reducible refine wpAny_dictEntries hd hdat ?_)|(with_reducible refine wpAny_dictEpoch hd hdat ?_)|wp_step))
  refine wpAny_raiseNew_none hA ?_
  refine wpAny_bind (wpAny_isInstance ⟨_,Heap.get?_push_size _ rfl,rfl⟩ isSubtype_stop (wpAny_pure (h _ fun b o nb e=>?_)))
  refine Heap.get?_push_of_some _ (Heap.get?_push_of_some _ ?_)
  rw[Heap.get?_update_other _ _ (Ne.symm nb)]
  exact e
theorem xi5 {prog:Program}{w:World}{A:Around}{E:Value->Shared->Prop}{s:Shared}{d:Addr}{ep:Nat}{o:Obj}{es:Array DictEntry}{Q:Value->Shared->Prop}
    (hs:(d == sysModules)=false) (hd:s.heap.get? d=some o) (hx:o.ExactDict) (hdat:o.data=.dict es ep)
    (h:Q (.ref s.heap.objs.size) { s with heap:=s.heap.push { cls:=.type "dict_keyiterator",data:=.fields #[.ref d,.int 0 0,.int es.size 0,.int ep 0] } }):wpAny (model prog w) A (pyIter (.ref d)) Q E s:=by
  have ti:s.TypeIs (.ref d) "dict":=⟨o,hd,hx.1⟩
  obtain⟨c,dct,dat,sl⟩:=o
  obtain⟨x1,x2,x3⟩:=hx
  simp only at x1 x2 x3 hdat
  subst x1 x2 x3 hdat
  refine wpAny_pyIter_slot ti F.slot_dict_iter ?_
  refine wpAny_call_entry F.slot_dict_iter ti F.entry_dict_iter ?_ (F.args_dict_iter_1 _)
  obtain⟨hp,g,dr,tk,os⟩:=s
  unfold Builtin.«dict.__iter__»
  repeat (any_goals (first|assumption|(with_reducible refine wpAny_notOrdered_dict ti ?_)|(with_reducible refine wpAny_dictEntries hd rfl ?_)|(with_reducible refine wpAny_dictEpoch hd rfl ?_)|wp_step))
  exact⟨_,rfl,_,_,⟨_,Heap.get?_push_size _ rfl,rfl⟩,F.slot_dict_keyiterator_next.lookup,h⟩
theorem xo9 {prog:Program}{w:World}{d:Addr}{ep:Nat}{o:Obj}{es:Array DictEntry} (hs:(d == sysModules)=false) (hx:o.ExactDict) (hdat:o.data=.dict es ep) :
    KdlSrc prog w "dict" d d es.size (fun i v=>∃ en,es[i]?=some en/\v=en.key) (fun h=>h.get? d=some o) where
  type:=fun s h=>⟨o,h,hx.1⟩
  there:=fun h e=>⟨Heap.lt_size e,Heap.lt_size e⟩
  keep:=fun h h' e k=>k d (.inl rfl) o e
  notList:=by decide
  notTuple:=by decide
  hint:=fun A E s Q h q=>kdl_hint_dict ⟨o,h,hx.1⟩ q
  iter:=fun A s hA h=>by
    have dl:=Heap.lt_size h
    refine⟨{ cls:=.type "dict_keyiterator",data:=.fields #[.ref d,.int 0 0,.int es.size 0,.int ep 0] },fun i h=>h.IsKeyIter s.heap.objs.size d i es.size ep/\h.get? d=some o,fun E Q q=>xi5 hs h hx hdat q,?_,⟨_,Heap.get?_push_size _ rfl,rfl,rfl⟩,Heap.get?_push_of_some _ h⟩
    have dn:d≠s.heap.objs.size:=Nat.ne_of_lt dl
    exact {
      sub:=fun b hb=>by
        have e:b=s.heap.objs.size:=by simpa using hb
        rw[e]
        simp
      frame:=fun i h h' st k=>⟨st.1.at fun o e=>k _ (by simp) o e,k _ (by simp) _ st.2⟩
      item:=fun i s' Q E hi st q=>by
        refine xe1 st.1 st.2 hx hdat (Array.getElem?_eq_getElem hi) fun h' st' sb=>q _ h' s'.toks ⟨_,Array.getElem?_eq_getElem hi,rfl⟩ ⟨st',(sb.2 d dn).trans st.2⟩ fun b o hb e=>?_
        exact (sb.2 b (by simpa using hb)).trans e
      done:=fun s' Q E st q=>by
        refine xfl hA st.1 st.2 hx hdat fun h' eb=>q h' s'.toks fun b o hb e=>?_
        exact eb b o (by simpa using hb) e
      self:=fun i s' Q E st q=>wpAny_pyIter_keyiter st.1 q }
def xcv:Key->Key->Bool
 | .inl a,.inl b=>decide (a<b)
 | .inr a,.inr b=>decide (a.cps.toList<b.cps.toList)
 | _,_=>false
def lexK:List Key->List Key->Bool
 | [],[]=>false
 | [],_::_=>true
 | _::_,[]=>false
 | x::xs,y::ys=>if x=y then lexK xs ys else xcv x y
abbrev shp (k:List Key):List Bool:=k.map Sum.isLeft
theorem xoa {a b:Str} (h:a.cps.toList=b.cps.toList):a=b:=by
 cases a
 cases b
 simp at h
 rw[h]
theorem xlg (x:Key):xcv x x=false:=by
 cases x with
 | inl a=>simp[xcv]
 | inr a=>exact PyProof.Rows.strKind.irrefl a.cps.toList
theorem xnf {x y z:Key} (h1:xcv x y=true) (h2:xcv y z=true):xcv x z=true:=by
 cases x<;>cases y<;>cases z<;>simp only[xcv,Bool.false_eq_true] at h1 h2
 .have a:=of_decide_eq_true h1
  have b:=of_decide_eq_true h2
  exact decide_eq_true (Int.lt_trans a b)
 .exact PyProof.Rows.strKind.trans _ _ _ h1 h2
theorem xll {x y:Key} (hs:x.isLeft=y.isLeft) (ne:x≠y) (h:xcv x y=false):xcv y x=true:=by
 cases x with
 | inl a =>
  cases y with
  | inl b =>
   have h':¬ a<b:=of_decide_eq_false h
   have n':a≠b:=fun e=>ne (by rw[e])
   exact decide_eq_true (show b<a by omega)
  | inr b=>cases hs
 | inr a =>
  cases y with
  | inl b=>cases hs
  | inr b =>
   cases e:xcv (.inr b) (.inr a) with
   | true=>rfl
   | false=>exact absurd (by rw[xoa (PyProof.Rows.strKind.total _ _ h e)]) ne
theorem xio:∀ x:List Key,lexK x x=false
 | []=>rfl
 | x::xs=>by
  unfold lexK
  rw[if_pos rfl]
  exact xio xs
theorem xjt:∀{x y z:List Key},shp x=shp y->shp y=shp z->lexK x y=true->lexK y z=true->lexK x z=true
 | [],[],_,_,_,h,_=>by cases h
 | [],_::_,_,h,_,_,_=>by cases h
 | _::_,[],_,h,_,_,_=>by cases h
 | _::_,_::_,[],_,h,_,_=>by cases h
 | x::xs,y::ys,z::zs,h1,h2,h3,h4=>by
  simp only[shp,List.map_cons,List.cons.injEq] at h1 h2
  unfold lexK at h3 h4 ⊢
  by_cases xy:x=y
  .subst xy
   rw[if_pos rfl] at h3
   by_cases yz:x=z
   .rw [if_pos yz] at h4 ⊢
    exact xjt h1.2 h2.2 h3 h4
   .rw [if_neg yz] at h4 ⊢
    exact h4
  .rw [if_neg xy] at h3
   by_cases yz:y=z
   .subst yz
    rw[if_neg xy]
    exact h3
   .rw [if_neg yz] at h4
    have h5:=xnf h3 h4
    rw[if_neg (fun e=>by rw[e,xlg] at h5; cases h5)]
    exact h5
theorem xin:∀{x y:List Key},shp x=shp y->x≠y->lexK x y=false->lexK y x=true
 | [],[],_,h,_=>absurd rfl h
 | [],_::_,h,_,_=>by cases h
 | _::_,[],h,_,_=>by cases h
 | x::xs,y::ys,h1,h2,h3=>by
  simp only[shp,List.map_cons,List.cons.injEq] at h1
  unfold lexK at h3 ⊢
  by_cases xy:x=y
  .subst xy
   rw[if_pos rfl] at h3 ⊢
   exact xin h1.2 (fun e=>h2 (by rw[e])) h3
  .rw [if_neg xy] at h3
   rw[if_neg (fun e=>xy e.symm)]
   exact xll h1.1 xy h3
theorem xi1 {prog:Program}{w:World}{A:Around}{s:Shared}{b:Bool}{Q:Bool->Shared->Prop}:∀(xs ys:List Key) (us vs:List Value) (i:Nat),shp xs=shp ys->Vals (xs.map kV) us->Vals (ys.map kV) vs->Q (lexK xs ys) s->KatLex prog w A b false Q (us.zip vs) i s
 | [],[],_,_,i,_,.nil,.nil,q=>kat_nil q
 | [],_::_,_,_,_,h,_,_,_=>by cases h
 | _::_,[],_,_,_,h,_,_,_=>by cases h
 | x::xs,y::ys,_,_,i,h,.cons ru r,.cons rv r',q=>by
  simp only[shp,List.map_cons,List.cons.injEq] at h
  unfold lexK at q
  cases x with
  | inl a =>
   cases y with
   | inr c=>cases h.1
   | inl c =>
    obtain⟨t,rfl⟩:=ru
    obtain⟨t',rfl⟩:=rv
    refine kat_cons (wpAny_eqBool_int ?_)
    unfold KatGo
    by_cases e:a=c
    .subst e
     rw[if_pos rfl] at q
     rw[if_pos (by simp)]
     exact xi1 xs ys _ _ (i+1) h.2 r r' q
    .rw [if_neg (fun z=>e (Sum.inl.inj z))] at q
     rw[if_neg (by simpa using e)]
     cases (b&&i == 0) with
     | true=>exact oneLt_int q
     | false=>exact kat_one _ _ (lt_int q)
  | inr a =>
   cases y with
   | inl c=>cases h.1
   | inr c =>
    obtain⟨t,rfl⟩:=ru
    obtain⟨t',rfl⟩:=rv
    refine kat_cons (wpAny_eqBool_str ?_)
    unfold KatGo
    by_cases e:a=c
    .subst e
     rw[if_pos rfl] at q
     rw[if_pos (by simp)]
     exact xi1 xs ys _ _ (i+1) h.2 r r' q
    .rw [if_neg (fun z=>e (Sum.inr.inj z))] at q
     rw[if_neg (by simpa using e)]
     cases (b&&i == 0) with
     | true=>exact oneLt_str q
     | false=>exact kat_one _ _ (lt_str q)
theorem xhj {prog:Program}{w:World}{A:Around}{E:Value->Shared->Prop}{s:Shared}{a:Addr}{vs:List Value}{n:Nat}{P:PySem.Fin->Shared->Prop}
    (h:s.heap.get? a=some (seqObj "list" vs.toArray n)) (h2:vs.length<2) (q':P (.done (.ret .none)) { s with heap:=sortedHeap s.heap a vs vs.toArray }) :
    wpAny (model prog w) A (Builtin.«list.sort» { pos:=[.ref a] }) P E s:=by
  obtain⟨hp,g,d,tk,os⟩:=s
  rcases vs with _|⟨v,_|⟨v',r⟩⟩
  . rw[list_sort_plain]
    repeat (any_goals (first|assumption|wp_step))
    show wpAny _ _ (pure (PUnit.unit,SortSt.mk' general' ((#[]:Array Value).zip #[]) #[] 7 none)) _ _ _
    refine wpAny_pure ?_
    have e3:Array.map (fun x=>x.snd) (arrOf (SortSt.mk' general' ((#[]:Array Value).zip #[]) #[] 7 none))=#[]:=by
      show Array.map (fun x=>x.snd) ((#[]:Array Value).zip #[])=#[]
      simp
    simp only[e3]
    have g1:(((hp.update a (Obj.mapSeq fun x=>#[])).push (seqObj "tuple" #[] 0)).push (seqObj "list" #[] 0)).get? a=some (seqObj "list" #[] (n)):=by
      refine Heap.get?_push_of_some _ (Heap.get?_push_of_some _ ?_)
      rw[Heap.get?_update_self _ h rfl]
      rfl
    show wpAny _ _ (seqEpoch a>>=_) _ _ _
    repeat (any_goals (first|assumption|wp_step))
  . rw[list_sort_plain]
    repeat (any_goals (first|assumption|wp_step))
    show wpAny _ _ (pure (PUnit.unit,SortSt.mk' general' ((#[v]:Array Value).zip #[v]) #[] 7 none)) _ _ _
    refine wpAny_pure ?_
    have e3:Array.map (fun x=>x.snd) (arrOf (SortSt.mk' general' ((#[v]:Array Value).zip #[v]) #[] 7 none))=#[v]:=by
      show Array.map (fun x=>x.snd) ((#[v]:Array Value).zip #[v])=#[v]
      simp
    simp only[e3]
    have g1:(((hp.update a (Obj.mapSeq fun x=>#[])).push (seqObj "tuple" #[v] 0)).push (seqObj "list" #[] 0)).get? a=some (seqObj "list" #[] (n+1)):=by
      refine Heap.get?_push_of_some _ (Heap.get?_push_of_some _ ?_)
      rw[Heap.get?_update_self _ h rfl]
      rfl
    show wpAny _ _ (seqEpoch a>>=_) _ _ _
    repeat (any_goals (first|assumption|wp_step))
  . simp at h2
    omega
theorem xes {α:Type} (f:α->Addr):∀(es:List α),Vals (es.map fun x=>V.ref (f x)) (es.map fun x=>Value.ref (f x))
 | []=>.nil
 | x::r=>.cons rfl (xes f r)
theorem xlc {H:Hp}{kvs:List (List Key × V)}{es:List (List Key × Addr × Value)} (h:KT H kvs es):(∀ x∈es,H x.2.1=some (.tup (x.1.map kV)))/\es.map (·.1)=kvs.map (·.1):=by
 induction h with
 | nil=>exact⟨(fun _ z=>nomatch z),rfl⟩
 | @cons p x kvs es hp r ih =>
  obtain⟨e1,e2,_⟩:=hp
  refine⟨fun y hy=>?_,by rw[List.map_cons,List.map_cons,ih.2,e1]⟩
  rcases List.mem_cons.mp hy with rfl|z
  .rw [<- e1]
   exact e2
  .exact ih.1 y z
theorem xme {P:Program}{w:World}{H:Hp}{h:Heap} (ok:HOk P w H h) {b:Bool}{sh:List Bool}:∀(es:List (List Key × Addr × Value)),(∀ x∈es,H x.2.1=some (.tup (x.1.map kV)))->(∀ x∈es,shp x.1=b::sh) ->
    ∃ fs,KatTups h (es.map fun x=>Value.ref x.2.1) fs/\fs.length=es.length/\∀ v∈fs,if b=true then ∃ i t,v=Value.int i t else ∃ i t,v=Value.str i t
  | [],_,_=>⟨[],KatTups.nil,rfl,fun _ z=>nomatch z⟩
  | x::es,h1,h2=>by
    obtain⟨fs,k,l,m⟩:=xme ok es (fun y hy=>h1 y (List.mem_cons_of_mem _ hy)) (fun y hy=>h2 y (List.mem_cons_of_mem _ hy))
    obtain⟨z2,ts,rt,ot,et,ct,nt,dt⟩:=ok x.2.1 _ (h1 x List.mem_cons_self)
    have s1:=h2 x List.mem_cons_self
    obtain⟨k1,a1,v1⟩:=x
    cases k1 with
    | nil=>cases s1
    | cons k0 kr =>
      simp only[shp,List.map_cons,List.cons.injEq] at s1
      simp only[List.map_cons] at rt
      cases rt with
      | @cons _ u _ us ru rr =>
        refine⟨u::fs,KatTups.cons et ct dt (by simp) k,by simp[l],fun v hv=>?_⟩
        rcases List.mem_cons.mp hv with rfl|hv'
        . cases k0 with
          | inl i =>
            obtain⟨t,rfl⟩:=ru
            rw[if_pos (show b=true from s1.1.symm)]
            exact⟨i,t,rfl⟩
          | inr i =>
            obtain⟨t,rfl⟩:=ru
            rw[if_neg (show ¬ b=true by rw[<- s1.1]; simp)]
            exact⟨i,t,rfl⟩
        . exact m v hv'
theorem xml {X:Cx}{pins:List (Addr × Obj)}{σ:St}{H:Hp}{s:Shared}{h1:Heap}{tk:Nat}{Q:VK}{sh:List Bool} (es':List (List Key × Addr × Value)) (I1:Inv X pins σ H { s with heap:=h1,toks:=tk })
    (hl:es'.length<64) (km:∀ x∈es',H x.2.1=some (.tup (x.1.map kV))) (shE:∀ x∈es',shp x.1=sh) (hpos:0<sh.length) (hnd:(List.map (fun x=>x.fst) es').Nodup)
    (q:∀(l:Addr) (ts:List (List Key × Addr)),H l=none->ts.Perm (es'.map fun x=>(x.1,x.2.1))->(ts.map (·.1)).Pairwise (fun x y=>lexK x y=true)->Q (.ref l) (upd H l (.lst (ts.map fun t=>.ref t.2)))) :
    wpAny (model X.prog X.w) X.A.in1 (newList (es'.map fun x=>Value.ref x.2.1)>>=fun l=>holding [l] (call (.builtin "list.sort") [l] [])>>=fun _=>ret l) (fun fin s'=>∃ v,fin=Fin.done (Flow.ret v)/\EP X pins σ Q v s') X.xe { s with heap:=h1,toks:=tk }:=by
  have hz:es'.length<=sizeLine:=Nat.le_of_lt (Nat.lt_trans hl (by decide))
  have vals:Vals (es'.map fun x=>V.ref x.2.1) (es'.map fun x=>Value.ref x.2.1):=xes (fun x=>x.2.1) es'
  have I2:=I1.lnew (t':=tk) vals (by rw[List.length_map]; exact hz)
  refine wpAny_bind (wpAny_newList ?_ (by rw[List.length_map]; exact hz))
  have fr:H h1.objs.size=none:=I1.fresh
  have gl:(h1.push { cls:=.type "list",data:=.seq (es'.map fun x=>Value.ref x.2.1).toArray }).get? h1.objs.size=some (seqObj "list" (es'.map fun x=>Value.ref x.2.1).toArray 0):=Heap.get?_push_size _ rfl
  refine wpAny_bind (wpAny_holding (wpAny_call_entry slot_list_sort ⟨_,gl,rfl⟩ entry_list_sort ?_ (args_list_sort _)))
  have J1:=I2.lset (l:=h1.objs.size) (its:=es'.map fun x=>Value.ref x.2.1) (its':=[]) (ys:=[]) (f:=fun _=>#[]) (t':=tk) xg gl rfl .nil (Nat.zero_le _)
  have J2:=J1.kept (t':=tk) (h':=(((h1.push { cls:=.type "list",data:=.seq (es'.map fun x=>Value.ref x.2.1).toArray }).update h1.objs.size (Obj.mapSeq fun _=>#[])).push (seqObj "tuple" (es'.map fun x=>Value.ref x.2.1).toArray 0)).push (seqObj "list" #[] 0)) fun b u e=>Heap.get?_push_of_some _ (Heap.get?_push_of_some _ e)
  obtain⟨z9,its9,n9,r9,hl9,e9⟩:=J2.lstM xg
  have done:∀(ts:List (List Key × Addr)),ts.Perm (es'.map fun x=>(x.1,x.2.1))->(ts.map (·.1)).Pairwise (fun x y=>lexK x y=true) ->
      EP X pins σ Q (.ref h1.objs.size) { s with heap:=sortedHeap (h1.push { cls:=.type "list",data:=.seq (es'.map fun x=>Value.ref x.2.1).toArray }) h1.objs.size (es'.map fun x=>Value.ref x.2.1) (ts.map fun t=>Value.ref t.2).toArray,toks:=tk }:=by
    intro ts pm pw
    have tl:ts.length=es'.length:=by rw[pm.length_eq,List.length_map]
    have J3:=J2.lset (l:=h1.objs.size) (its:=its9) (its':=ts.map fun t=>Value.ref t.2) (ys:=ts.map fun t=>V.ref t.2) (f:=fun _=>(ts.map fun t=>Value.ref t.2).toArray) (t':=tk) xg e9 rfl (xes (fun t=>t.2) ts) (by rw[List.length_map,tl]; exact hz)
    rw[xgy,xgy] at J3
    exact⟨.ref h1.objs.size,_,J3,rfl,q _ ts fr pm pw⟩
  by_cases few:es'.length<2
  . refine xhj gl (by rw[List.length_map]; exact few) ⟨_,rfl,wpAny_pure ⟨_,rfl,?_⟩⟩
    have:=done (es'.map fun x=>(x.1,x.2.1)) (List.Perm.refl _) ?_
    . rw[List.map_map] at this
      exact this
    . match es',few with
      | [],_=>exact .nil
      | [x],_=>exact List.pairwise_singleton _ _
      | _::_::_,h=>exact absurd h (by simp)
  . refine xgr gl (by rw[List.length_map]; omega) (by rw[List.length_map]; exact hl) fun s' es1 es2=>?_
    obtain⟨b,sh0,rfl⟩:∃ b sh0,sh=b::sh0:=by
      cases sh with
      | nil=>simp at hpos
      | cons b r=>exact⟨b,r,rfl⟩
    rw[es1] at es2
    subst es2
    have km2:∀ x∈es',upd (upd H h1.objs.size (.lst (es'.map fun x=>V.ref x.2.1))) h1.objs.size (.lst []) x.2.1=some (.tup (x.1.map kV)):=fun x hx=>by
      rw[xf (xb (km x hx) fr),xf (xb (km x hx) fr)]
      exact km x hx
    obtain⟨fs,kt,fl,fm⟩:=xme J2.hok es' km2 shE
    have few':2<=es'.length:=by omega
    refine kat_kind (T:=if b=true then .type "int" else .type "str") kt (by omega) (fun v hv=>?_) (by cases b<;>rfl) ⟨rfl,?_⟩
    . have z:=fm v hv
      cases b with
      | true =>
        obtain⟨i,t,rfl⟩:=z
        exact fun A Q E s _ q=>wpAny_typeOf (T:="int") rfl q
      | false =>
        obtain⟨i,t,rfl⟩:=z
        exact fun A Q E s _ q=>wpAny_typeOf (T:="str") rfl q
    rw[List.length_map]
    have eAt:∀ i,i<es'.length->es'[i]?=some (es'.getD i ([],0,.none)):=fun i hi=>by
      rw[List.getD_eq_getElem?_getD,List.getElem?_eq_getElem hi]
      rfl
    have eM:∀ i,i<es'.length->es'.getD i ([],0,.none)∈es':=fun i hi=>List.mem_of_getElem? (eAt i hi)
    have vAt:∀ i,i<es'.length->(es'.map fun x=>Value.ref x.2.1).getD i .none=.ref (es'.getD i ([],0,.none)).2.1:=fun i hi=>by
      rw[List.getD_eq_getElem?_getD,List.getElem?_map,eAt i hi]
      rfl
    have shI:∀ i j,i<es'.length->j<es'.length->shp (es'.getD i ([],0,.none)).1=shp (es'.getD j ([],0,.none)).1:=fun i j hi hj=>by rw[shE _ (eM i hi),shE _ (eM j hj)]
    refine Srt.sort_wp (lt:=fun i j=>lexK (es'.getD i ([],0,.none)).1 (es'.getD j ([],0,.none)).1) ⟨fun i hi=>xio _,fun i j k hi hj hk=>xjt (shI i j hi hj) (shI j k hj hk),fun i j hi hj ne=>xin (shI i j hi hj) fun e=>ne ?_⟩ (fun i j hi hj Q' q'=>?_) few' fun p arr srt=>⟨rfl,_,rfl,wpAny_pure ⟨_,rfl,?_⟩⟩
    . have e1:(es'.map (·.1))[i]?=(es'.map (·.1))[j]?:=by rw[List.getElem?_map,List.getElem?_map,eAt i hi,eAt j hj]; exact congrArg some e
      exact (List.getElem?_inj (by rw[List.length_map]; exact hi) hnd).mp e1
    . show wpAny _ _ (keyLt' _ ((es'.map fun x=>Value.ref x.2.1).getD i .none) ((es'.map fun x=>Value.ref x.2.1).getD j .none)) _ _ _
      rw[vAt i hi,vAt j hj]
      obtain⟨_,ti,ri,oi,ei,_,ni,di⟩:=J2.hok _ _ (km2 _ (eM i hi))
      obtain⟨_,tj,rj,oj,ej,_,nj,dj⟩:=J2.hok _ _ (km2 _ (eM j hj))
      have l1:=Vals.length ri
      have l2:=Vals.length rj
      have l3:=congrArg List.length (shI i j hi hj)
      simp only[List.length_map] at l1 l2 l3
      refine kat_lt ei di ej dj ?_
      rw[decide_eq_false (by simp; omega)]
      exact xi1 _ _ _ _ 0 (shI i j hi hj) ri rj q'
    have pl:∀ i∈p.toList,i<es'.length:=fun i hi=>by
      have:=(Array.Perm.mem_iff arr.pm).mp (Array.mem_toList_iff.mp hi)
      simpa using this
    have:=done (p.toList.map fun i=>((es'.getD i ([],0,.none)).1,(es'.getD i ([],0,.none)).2.1)) ?_ ?_
    . rw[List.map_map] at this
      have e2:(p.map fun i=>(es'.map fun x=>Value.ref x.2.1).getD i .none)=(p.toList.map ((fun t:List Key × Addr=>Value.ref t.2)∘fun i=>((es'.getD i ([],0,.none)).1,(es'.getD i ([],0,.none)).2.1))).toArray:=by
        rw[<- Array.toList_inj,Array.toList_map]
        exact List.map_congr_left fun i hi=>vAt i (pl i hi)
      rw[e2]
      exact this
    . have e3:(es'.map fun x=>(x.1,x.2.1))=(List.range es'.length).map fun i=>((es'.getD i ([],0,.none)).1,(es'.getD i ([],0,.none)).2.1):=by
        refine List.ext_getElem? fun i=>?_
        by_cases c:i<es'.length
        . rw[List.getElem?_map,eAt i c,List.getElem?_map,List.getElem?_range c]
          rfl
        . rw[List.getElem?_eq_none (by rw[List.length_map]; omega),List.getElem?_eq_none (by simp; omega)]
      rw[e3]
      refine List.Perm.map _ ?_
      have:=Array.Perm.toList arr.pm
      simpa using this
    . rw[List.map_map,List.pairwise_map,List.pairwise_iff_getElem]
      intro i j hi hj hij
      have z:=srt i j hij (by rw[<- arr.sz]; simpa using hj)
      have gi:Srt.g p i=p.toList[i]:=Srt.g_at (by rw[<- Array.getElem?_toList]; exact List.getElem?_eq_getElem hi)
      have gj:Srt.g p j=p.toList[j]:=Srt.g_at (by rw[<- Array.getElem?_toList]; exact List.getElem?_eq_getElem hj)
      rw[gi,gj] at z
      exact z
def xmu:List V->Hp->VK->Prop:=fun xs H Q=>∃(d:Addr) (kvs:List (List Key × V)) (sh:List Bool),xs=[.ref d]/\H d=some (.dT kvs)/\kvs.length<64/\(∀ p∈kvs,shp p.1=sh)/\0<sh.length /\
 ∀(l:Addr) (ts:List (List Key × Addr)),H l=none->(∀ t∈ts,H t.2=some (.tup (t.1.map kV)))->(ts.map (·.1)).Perm (kvs.map (·.1))->(ts.map (·.1)).Pairwise (fun x y=>lexK x y=true)->Q (.ref l) (upd H l (.lst (ts.map fun t=>.ref t.2)))
theorem xie {X:Cx} (hc:X.calm=true):xb4 X (.builtin "sorted") xmu:=by
 intro pins s σ H xs us Q I r h
 obtain⟨d,kvs,sh,rfl,hd,hl,hsh,hpos,q⟩:=h
 obtain⟨u,rfl,ru⟩:=xcm r
 obtain rfl:u=Value.ref d:=ru
 obtain⟨z,hsys,es',rel,dd⟩:=xho I.hok hd
 obtain⟨o,es,ep,ho,hx,hdat,hes,hkk,hnd⟩:=dd
 have ln:=Paired.length rel
 have esz:es.size=es'.length:=by rw[<- Array.length_toList,hes,List.length_map]
 refine Calls.call_function_entry kind_sorted plain_sorted entry_sorted (args_sorted1 _) ?_
 unfold Builtin.sorted
 refine wpAny_bind (wpAny_pure ?_)
 show wpAny _ _ (collect (.ref d)>>=_) _ _ _
 refine wpAny_bind (kdu_collect (xo9 hsys hx hdat) (I.ok.hd hc) ho (by rw[esz,<- ln]; exact z) fun h1 tk acc keep items=>?_)
 have acl:acc.toList=es'.map fun x=>Value.ref x.2.1:=by
  refine List.ext_getElem? fun j=>?_
  obtain⟨i1,i2⟩:=items
  by_cases c:j<es'.length
  .have c':j<acc.size:=by rw[i1,esz]; exact c
   have e:acc[j]?=some acc[j]:=Array.getElem?_eq_getElem c'
   obtain⟨en,he,hv⟩:=i2 j acc[j] e
   rw[Array.getElem?_toList,e,hv]
   have he':es.toList[j]?=some en:=by rw[Array.getElem?_toList]; exact he
   rw[hes,List.getElem?_map,List.getElem?_eq_getElem c] at he'
   rw[List.getElem?_map,List.getElem?_eq_getElem c]
   have:=Option.some.inj he'
   rw[<- this]
   rfl
  .rw [List.getElem?_eq_none (by rw[Array.length_toList,i1,esz]; omega),List.getElem?_eq_none (by rw[List.length_map]; omega)]
 rw[acl]
 have I1:Inv X pins σ H { s with heap:=h1,toks:=tk }:=I.kept keep
 obtain⟨km,ke⟩:=xlc rel
 have shE:∀ x∈es',shp x.1=sh:=fun x hx=>by
  have m:x.1∈kvs.map (·.1):=by rw[<- ke]; exact List.mem_map.mpr ⟨x,hx,rfl⟩
  obtain⟨p,hp,e⟩:=List.mem_map.mp m
  rw[<- e]
  exact hsh p hp
 refine xml es' I1 (by rw[<- ln]; exact hl) km shE hpos hnd fun l ts fr pm pw=>q l ts fr (fun t ht=>?_) ?_ pw
 .obtain ⟨x,hx,rfl⟩:=List.mem_map.mp (pm.mem_iff.mp ht)
  exact km x hx
 .have:=pm.map (·.1)
  rw[List.map_map] at this
  rw[<- ke]
  exact this
theorem xib {prog:Program}{w:World}{K:Type} [DecidableEq K] {knd:HeapKind prog w K}{A:Around}{E:Value->Shared->Prop}{s:Shared}{d a b:Addr}{xs:List (K × Addr × Value)}{k:K}{v:Value}{i:Nat}{Q:Option DictEntry->Shared->Prop}
    (hr:knd.room A) (hk:knd.is s.heap k a) (dd:Heap.DictOfH knd s.heap d xs) (hi:xs[i]?=some (k,b,v)) (hz:xs.length<=sizeLine)
    (h:∀ h',Heap.DictOfH knd h' d (xs.eraseIdx i)->Heap.SameBut d s.heap h'->Q (some (entryOfKey knd (k,b,v))) { s with heap:=h',toks:=s.toks+knd.draws k }):wpAny (model prog w) A (Builtin.Dict.takeOut d (.ref a)) Q E s:=by
  obtain⟨o,es,ep,ho,hx,hdat,hes,hkk,hnd⟩:=dd
  have esz:es.size=xs.length:=by rw[<- Array.length_toList,hes,List.length_map]
  unfold Builtin.Dict.takeOut
  refine wpAny_holding (wpAny_bind (knd.pyHash hr hk ?_))
  refine wpAny_bind (wpAny_dictFind_heap (s:={ s with toks:=s.toks+knd.draws k }) hr hk ho hdat hes hkk hnd (fun no=>absurd hi (no i (b,v))) fun j p hj=>?_)
  have ji:j=i:=by
    have e1:(xs.map (·.1))[j]?=(xs.map (·.1))[i]?:=by rw[List.getElem?_map,List.getElem?_map,hj,hi]; rfl
    exact (List.getElem?_inj (by rw[List.length_map]; exact (List.getElem?_eq_some_iff.mp hj).1) hnd).mp e1
  subst ji
  refine wpAny_bind (wpAny_dictEntries ho hdat ?_)
  have e:=entry_at hes j
  rw[hi] at e
  rw[e]
  refine wpAny_bind (wpAny_updateDictKeys ho hdat (wpAny_pure (h _ ?_ (Heap.SameBut.update _ _ _))) (by rw[esz]; exact hz) (by have:=size_eraseIdxIfInBounds_le es j; omega))
  refine⟨_,_,_,Heap.get?_update_self _ ho (Obj.isFreed_of_dict (Obj.data_mapDictKeys hdat _)),hx.mapDictKeys _,Obj.data_mapDictKeys hdat _,?_,fun x hx'=>?_,?_⟩
  . have e2:(es.eraseIdxIfInBounds j).toList=es.toList.eraseIdx j:=by simp
    rw[e2,hes]
    simp[List.eraseIdx_eq_take_drop_succ,List.map_take,List.map_drop]
  . exact knd.keeps (hkk x (List.mem_of_mem_eraseIdx hx')) ho hdat (Heap.SameBut.update _ _ _)
  . exact List.Nodup.sublist (List.Sublist.map _ (List.eraseIdx_sublist _ _)) hnd
theorem Paired.erase {α β:Type}{F:α->β->Prop}{l₁:List α}{l₂:List β} (h:Paired F l₁ l₂):∀ i,Paired F (l₁.eraseIdx i) (l₂.eraseIdx i):=by
 induction h with
 | nil=>exact fun i=>.nil
 | cons r t ih =>
  intro i
  cases i with
  | zero=>exact t
  | succ i=>exact .cons r (ih i)
theorem Paired.at_ {α β:Type}{F:α->β->Prop}{l₁:List α}{l₂:List β} (h:Paired F l₁ l₂):∀{i:Nat}{x:α},l₁[i]?=some x->∃ y,l₂[i]?=some y/\F x y:=by
 induction h with
 | nil=>intro i x e; simp at e
 | @cons a b l₁ l₂ r t ih =>
  intro i x e
  cases i with
  | zero =>
   simp at e
   subst e
   exact⟨b,rfl,r⟩
  | succ i=>exact ih (by simpa using e)
theorem xgj {κ:Type} [DecidableEq κ]:∀{kvs:List (κ × V)}{i:Nat}{k:κ}{v:V},(kvs.map (·.1)).Nodup->kvs[i]?=some (k,v)->xdm kvs k=kvs.eraseIdx i
 | [],i,k,v,_,h=>by simp at h
 | p::r,0,k,v,nd,h=>by
  simp at h
  subst h
  rw[List.map_cons,List.nodup_cons] at nd
  show List.filter _ _=r
  rw[List.filter_cons_of_neg (by simp)]
  refine List.filter_eq_self.mpr fun q hq=>?_
  have:q.1≠k:=fun e=>nd.1 (e▸List.mem_map.mpr ⟨q,hq,rfl⟩)
  simpa using this
 | p::r,i+1,k,v,nd,h=>by
  rw[List.map_cons,List.nodup_cons] at nd
  have h':r[i]?=some (k,v):=by simpa using h
  have ne:p.1≠k:=fun e=>nd.1 (by rw[e]; exact List.mem_map.mpr ⟨(k,v),List.mem_of_getElem? h',rfl⟩)
  show List.filter _ _=p::r.eraseIdx i
  rw[List.filter_cons_of_pos (by simpa using ne)]
  have:=xgj nd.2 h'
  unfold xdm at this
  rw[this]
theorem xgt {κ:Type} [DecidableEq κ]:∀{kvs:List (κ × V)}{k:κ}{v:V},valV kvs k=some v->∃ i:Nat,kvs[i]?=some (k,v)
 | [],k,v,h=>by cases h
 | p::r,k,v,h=>by
  by_cases e:p.1=k
  .rw [xa9 e] at h
   cases h
   exact⟨0,by simp[<- e]⟩
  .rw [xa7 e] at h
   obtain⟨i,hi⟩:=xgt h
   exact⟨i+1,by simpa using hi⟩
theorem xps {X:Cx}{pins:List (Addr × Obj)}{σ:St}{H:Hp}{s:Shared}{A:Around}{E:Value->Shared->Prop}{a b:Addr}{kvs:List (List Key × V)}{k:List Key}{v:V}{Q:Value->Shared->Prop} (hu:A.in1.units<cLine) (I:Inv X pins σ H s) (e:H a=some (.dT kvs)) (eb:H b=some (.tup (k.map kV))) (l:valV kvs k=some v)
    (h:∀ w' s',Inv X pins σ (upd H a (.dT (xdm kvs k))) s'->RelV v w'->Q w' s'):wpAny (model X.prog X.w) A (call (.builtin "dict.pop") [.ref a,.ref b]) Q E s:=by
  obtain⟨z,hd,xs,rel,dd⟩:=xho I.hok e
  obtain⟨km,ke⟩:=xlc rel
  have ln:=Paired.length rel
  obtain⟨i,hi⟩:=xgt l
  obtain⟨x,hx,rx⟩:∃ x,xs[i]?=some x/\((k,v):List Key × V).1=x.1/\H x.2.1=some (.tup (k.map kV))/\RelV v x.2.2:=L2.Paired.at_ rel hi
  obtain⟨k',b',w'⟩:=x
  obtain⟨ek,_,rw'⟩:=rx
  simp only at ek
  subst ek
  have dd0:=dd
  obtain⟨o,es,ep,ho,hxd,hdat,hes,hkk,hnd⟩:=dd
  have ndk:(kvs.map (·.1)).Nodup:=by rw[<- ke]; exact hnd
  refine wpAny_call_entry PySem.F.slot_dict_pop ⟨o,ho,hxd.1⟩ PySem.F.entry_dict_pop ?_ (PySem.F.args_dict_pop_2 _ _)
  have ti:s.TypeIs (.ref a) "dict":=⟨o,ho,hxd.1⟩
  unfold Builtin.«dict.pop»
  have esz:es.isEmpty=false:=by
    have:es.size=xs.length:=by rw[<- Array.length_toList,hes,List.length_map]
    have:i<xs.length:=(List.getElem?_eq_some_iff.mp hx).1
    rw[Array.isEmpty_eq_false_iff_exists_mem]
    exact⟨es[i]'(by omega),by simp⟩
  obtain⟨c0,d0,dat0,sl0⟩:=o
  obtain⟨x1,x2,x3⟩:=hxd
  simp only at x1 x2 x3 hdat
  subst x1 x2 x3 hdat
  repeat (any_goals (first|assumption|(with_reducible refine wpAny_notOrdered_dict ti ?_)|(with_reducible refine wpAny_dictEntries ho rfl ?_)|((with_reducible show wpAny _ _ (Builtin.Dict.takeOut _ _) _ _ _); refine xib (show (tupleKind (xan X.prog X.w)).room A.in1 from hu) (xdh I.hok eb) dd0 hx (by rw[<- ln]; exact z) fun h' dd' hs=>?_)|wp_step))
  refine⟨_,rfl,h w' _ ?_ rw'⟩
  have dd2:=dd'
  obtain⟨o',es',ep',ho',hx',hd',he',hk',hn'⟩:=dd2
  refine xd9 I (by rw[e]; exact True.intro) hs ⟨o',ho'⟩ ?_
  refine⟨Nat.le_trans (xns kvs k) z,hd,xs.eraseIdx i,?_,o',es',ep',ho',hx',hd',he',hn'⟩
  rw[xgj ndk hi]
  refine Paired.mapP (L2.Paired.erase rel i) fun p q zz=>⟨zz.1,?_,zz.2.2⟩
  rw[xf (xp zz.2.1 e (fun z=>nomatch z))]
  exact zz.2.1
def xqa (td ty:TE):TE:=fun σ H Q=>td σ H fun x H1=>∃ a,x=.ref a/\IsD H1 a/\ty σ H1 fun y H2=>∃ kvs k b v,H2 a=some (.dT kvs)/\y=.ref b/\H2 b=some (.tup (k.map kV))/\valV kvs k=some v/\Q v (upd H2 a (.dT (xdm kvs k)))
section
variable {X:Cx}{o e:Expr}{td ty:TE}{apos cpos:Pos}
theorem xmv (hu:X.A.units+1<cLine) (ho:PE X o td) (he:PE X e ty) (m:M1 X o "pop" apos e cpos):PE X (.Call (.Attribute o "pop" apos) [e] [] cpos) (xqa td ty):=by
 intro pins s σ H Q I h
 refine wpAny_Call_method m.base m.few m.line PySem.F.plainAttrs_dict PySem.F.slot_dict_pop PySem.F.type_dict_pop (thn (ho pins s σ H _ I h) fun u s1 ⟨x,H1,I1,rx,a,ex,d,q1⟩=>?_)
 subst ex
 obtain rfl:u=Value.ref a:=rx
 obtain⟨t1,t2,_⟩:=xmg I1 d
 refine⟨t1,t2,?_⟩
 rw[m.trees]
 refine Calls.callWith_builtin rfl (Calls.evalArgs_plain (Calls.spliced_cons (thn (he pins s1 σ H1 _ I1 q1) fun iv s2 ⟨y,H2,I2,ry,kvs,k,b,v,ea,ey,eb,l,q2⟩=>Calls.spliced_nil ?_)))
 subst ey
 obtain rfl:iv=Value.ref b:=ry
 exact xps hu I2 ea eb l fun w' s3 I3 rw'=>⟨v,_,I3,rw',q2⟩
end
def xr9 (kvs:List (Key × V)) (ty:TE):TE:=fun σ H Q=>ty σ H fun y H1=>∃(k:Key) (v:V),y=kV k/\valV kvs k=some v/\Q v H1
theorem xj1 {X:Cx}{i:Expr}{ty:TE}{x:Str}{p pos:Pos}{D:Addr}{kvs:List (Key × V)} (hm:X.mg x=some (.ref D)) (g:xhr X.w X.K D kvs) (hg:Gl X x) (hi:PE X i ty) (hs:NoSl i) (hd:(x == ("__debug__":Str))=false:=by decide) :
    PE X (.Subscript (.Name x p) i pos) (xr9 kvs ty):=by
  intro pins s σ H Q I h
  refine xji PySem.F.slot_dict_getitem.lookup hs (thn (xea (v:=.ref D) hg hm rfl hd pins s σ H (fun v H2=>v=.ref D/\H2=H) I ⟨rfl,rfl⟩) fun u s1 ⟨x,H1,I1,rx,e1,e2⟩=>?_)
  subst e1 e2
  obtain rfl:u=Value.ref D:=rx
  refine thn (hi pins s1 σ _ _ I1 h) fun iv s2 ⟨y,H2,I2,ry,k,v,ey,l,q⟩=>?_
  subst ey
  obtain⟨vs,rel,dd⟩:=xif I2 g
  obtain⟨w',hw,rw'⟩:=RelO.some_of (v:=v) (o:=valueAt vs k) (by rw[<- l]; exact rel.val k)
  exact⟨dd.typeIs,wpAny_getItem_of (xc1 ry) dd.mapOf hw ⟨v,H2,I2.tok _,rw',q⟩⟩
end L2
namespace L2
open PySem PySem.Spec PyProof.Rows XL PySem.W
inductive DV where
 | non
 | bl (b:Bool)
 | int (i:Int)
 | str (x:Str)
 | tup (xs:List DV)
 | lst (xs:List DV)
mutual
def dEq:DV->DV->Bool
 | .non,.non=>true
 | .bl a,.bl b=>a == b
 | .bl a,.int b=>(if a then 1 else 0) == b
 | .int a,.bl b=>a == (if b then 1 else 0)
 | .int a,.int b=>a == b
 | .str a,.str b=>a == b
 | .tup xs,.tup ys=>dEqs xs ys
 | .lst xs,.lst ys=>dEqs xs ys
 | _,_=>false
def dEqs:List DV->List DV->Bool
 | [],[]=>true
 | x::xs,y::ys=>dEq x y&&dEqs xs ys
 | _,_=>false
end
mutual
theorem xeq:∀ d,dEq d d=true
 | .non=>rfl
 | .bl _=>by simp[dEq]
 | .int _=>by simp[dEq]
 | .str _=>by simp[dEq]
 | .tup xs=>by simp only[dEq]; exact xde xs
 | .lst xs=>by simp only[dEq]; exact xde xs
theorem xde:∀ xs,dEqs xs xs=true
 | []=>rfl
 | x::xs=>by simp only[dEqs,Bool.and_eq_true]; exact⟨xeq x,xde xs⟩
end
mutual
def DV.pl:DV->Bool
 | .bl _=>false
 | .tup xs=>pls xs
 | .lst xs=>pls xs
 | _=>true
def pls:List DV->Bool
 | []=>true
 | x::xs=>x.pl&&pls xs
end
mutual
theorem xk7:∀{d e:DV},d.pl=true->e.pl=true->dEq d e=true->d=e
 | .non,.non,_,_,_=>rfl
 | .int a,.int b,_,_,h=>by simp only[dEq,beq_iff_eq] at h; rw[h]
 | .str a,.str b,_,_,h=>by simp only[dEq,beq_iff_eq] at h; rw[h]
 | .tup xs,.tup ys,p,q,h=>by
  simp only[dEq] at h
  simp only[DV.pl] at p q
  rw[xgu p q h]
 | .lst xs,.lst ys,p,q,h=>by
  simp only[dEq] at h
  simp only[DV.pl] at p q
  rw[xgu p q h]
 | .bl _,_,p,_,_=>by simp[DV.pl] at p
 | .non,.bl _,_,q,_=>by simp[DV.pl] at q
 | .int _,.bl _,_,q,_=>by simp[DV.pl] at q
 | .str _,.bl _,_,q,_=>by simp[DV.pl] at q
 | .tup _,.bl _,_,q,_=>by simp[DV.pl] at q
 | .lst _,.bl _,_,q,_=>by simp[DV.pl] at q
 | .non,.int _,_,_,h=>by simp[dEq] at h
 | .non,.str _,_,_,h=>by simp[dEq] at h
 | .non,.tup _,_,_,h=>by simp[dEq] at h
 | .non,.lst _,_,_,h=>by simp[dEq] at h
 | .int _,.non,_,_,h=>by simp[dEq] at h
 | .int _,.str _,_,_,h=>by simp[dEq] at h
 | .int _,.tup _,_,_,h=>by simp[dEq] at h
 | .int _,.lst _,_,_,h=>by simp[dEq] at h
 | .str _,.non,_,_,h=>by simp[dEq] at h
 | .str _,.int _,_,_,h=>by simp[dEq] at h
 | .str _,.tup _,_,_,h=>by simp[dEq] at h
 | .str _,.lst _,_,_,h=>by simp[dEq] at h
 | .tup _,.non,_,_,h=>by simp[dEq] at h
 | .tup _,.int _,_,_,h=>by simp[dEq] at h
 | .tup _,.str _,_,_,h=>by simp[dEq] at h
 | .tup _,.lst _,_,_,h=>by simp[dEq] at h
 | .lst _,.non,_,_,h=>by simp[dEq] at h
 | .lst _,.int _,_,_,h=>by simp[dEq] at h
 | .lst _,.str _,_,_,h=>by simp[dEq] at h
 | .lst _,.tup _,_,_,h=>by simp[dEq] at h
theorem xgu:∀{xs ys:List DV},pls xs=true->pls ys=true->dEqs xs ys=true->xs=ys
 | [],[],_,_,_=>rfl
 | x::xs,y::ys,p,q,h=>by
  simp only[pls,Bool.and_eq_true] at p q
  simp only[dEqs,Bool.and_eq_true] at h
  rw[xk7 p.1 q.1 h.1,xgu p.2 q.2 h.2]
 | [],_::_,_,_,h=>by simp[dEqs] at h
 | _::_,[],_,_,h=>by simp[dEqs] at h
end
theorem xgq {d e:DV}{α:Type}{x y:α} [DecidableEq α] (p:d.pl=true) (q:e.pl=true) (f:d=e↔x=y):dEq d e=decide (x=y):=by
 by_cases c:x=y
 .rw [decide_eq_true c,f.mpr c]
  exact xeq _
 .rw [decide_eq_false c]
  cases z:dEq d e with
  | false=>rfl
  | true=>exact absurd (f.mp (xk7 p q z)) c
theorem xfp:∀{xs ys:List DV}{e:Nat->Bool},(∀(j:Nat) (x y:DV),xs[j]?=some x->ys[j]?=some y->e j=dEq x y)->((List.range (min xs.length ys.length)).all e&&xs.length == ys.length)=dEqs xs ys
 | [],[],_,_=>rfl
 | [],_::_,_,_=>by simp[dEqs]
 | _::_,[],_,_=>by simp[dEqs]
 | x::xs,y::ys,e,h=>by
  have ih:=xfp (xs:=xs) (ys:=ys) (e:=fun j=>e (j+1)) (fun j a b ha hb=>h (j+1) a b (by simpa using ha) (by simpa using hb))
  have h0:=h 0 x y rfl rfl
  rw[List.length_cons,List.length_cons,show min (xs.length+1) (ys.length+1)=min xs.length ys.length+1 by omega,List.range_succ_eq_map,List.all_cons,List.all_map]
  show _=(dEq x y&&dEqs xs ys)
  rw[<- ih,h0]
  have z:((xs.length+1 == ys.length+1):Bool)=(xs.length == ys.length):=by
   rw[Bool.eq_iff_iff]
   simp
  rw[z,Bool.and_assoc]
  rfl
theorem xh8:∀{xs ys:List DV},xs.length≠ys.length->dEqs xs ys=false
 | [],[],h=>absurd rfl h
 | [],_::_,_=>rfl
 | _::_,[],_=>rfl
 | x::xs,y::ys,h=>by
  show (dEq x y&&dEqs xs ys)=false
  rw[xh8 (xs:=xs) (ys:=ys) (fun z=>h (by simp[z]))]
  exact Bool.and_false _
inductive Dv (K:PySem.W.Frag) (H:Hp):Nat->V->DV->Prop
 | non {n:Nat}:Dv K H n .non .non
 | bl {n:Nat}{b:Bool}:Dv K H n (.bl b) (.bl b)
 | int {n:Nat}{b:Int}:Dv K H n (.int b) (.int b)
 | str {n:Nat}{b:Str}:Dv K H n (.str b) (.str b)
 | tup {n:Nat}{a:Addr}{xs:List V}{ds:List DV} (ha:SqT K H a xs) (hl:xs.length=ds.length) (h:∀(j:Nat) (x:V) (d:DV),xs[j]?=some x->ds[j]?=some d->Dv K H n x d):Dv K H (n+1) (.ref a) (.tup ds)
 | lst {n:Nat}{a:Addr}{xs:List V}{ds:List DV} (ha:SqL K H a xs) (hl:xs.length=ds.length) (h:∀(j:Nat) (x:V) (d:DV),xs[j]?=some x->ds[j]?=some d->Dv K H n x d):Dv K H (n+1) (.ref a) (.lst ds)
section
variable {X:Cx}{pins:List (Addr × Obj)}{σ:St}{H:Hp}{s:Shared}
theorem xg4 {h:Heap}{a:Addr}{i j:Array Value} (p:h.IsTuple a i) (q:PlainL h a j):False:=by
 obtain⟨o,e,c,_⟩:=p
 obtain⟨o',n,e',c',_⟩:=q
 rw[e] at e'
 cases e'
 rw[c] at c'
 exact absurd c' (by decide)
theorem xmb {xs ys:List DV} (h:xs.length=ys.length) (f:∀(j:Nat) (x y:DV),xs[j]?=some x->ys[j]?=some y->x=y):xs=ys:=by
 refine List.ext_getElem? fun j=>?_
 by_cases c:j<xs.length
 .rw [List.getElem?_eq_getElem c,List.getElem?_eq_getElem (by omega),f j _ _ (List.getElem?_eq_getElem c) (List.getElem?_eq_getElem (by omega))]
 .rw [List.getElem?_eq_none (by omega),List.getElem?_eq_none (by omega)]
theorem xh2 (I:Inv X pins σ H s) {n:Nat}{x:V}{d:DV} (h:Dv X.K H n x d):∀{m:Nat}{e:DV},Dv X.K H m x e->d=e:=by
 induction h with
 | non=>intro m e h; cases h; rfl
 | bl=>intro m e h; cases h; rfl
 | int=>intro m e h; cases h; rfl
 | str=>intro m e h; cases h; rfl
 | @tup n a xs ds ha hl h ih =>
  intro m e h2
  cases h2 with
  | @tup m _ ys es hb kl k =>
   obtain rfl:=I.tuple_inj ha hb
   refine congrArg DV.tup (xmb (by omega) fun j d e h1 h2=>?_)
   have lt:j<xs.length:=by
    have:=(List.getElem?_eq_some_iff.mp h1).1
    omega
   exact ih j xs[j] d (List.getElem?_eq_getElem lt) h1 (k j xs[j] e (List.getElem?_eq_getElem lt) h2)
  | @lst m _ ys es hb kl k =>
   obtain⟨its,_,t1,_⟩:=I.tuple ha
   obtain⟨its2,_,t2,_⟩:=I.list hb
   exact (xg4 t1 t2).elim
 | @lst n a xs ds ha hl h ih =>
  intro m e h2
  cases h2 with
  | @lst m _ ys es hb kl k =>
   obtain rfl:=I.list_inj ha hb
   refine congrArg DV.lst (xmb (by omega) fun j d e h1 h2=>?_)
   have lt:j<xs.length:=by
    have:=(List.getElem?_eq_some_iff.mp h1).1
    omega
   exact ih j xs[j] d (List.getElem?_eq_getElem lt) h1 (k j xs[j] e (List.getElem?_eq_getElem lt) h2)
  | @tup m _ ys es hb kl k =>
   obtain⟨its,_,t1,_⟩:=I.tuple hb
   obtain⟨its2,_,t2,_⟩:=I.list ha
   exact (xg4 t1 t2).elim
def at2 (f:DV->DV->Bool) (ds es:List DV) (j:Nat):Bool:=match ds[j]?,es[j]? with|some d,some e=>f d e|_,_=>false
theorem xgh {f:DV->DV->Bool}{ds es:List DV}{j:Nat}{d e:DV} (h:ds[j]?=some d) (h2:es[j]?=some e):at2 f ds es j=f d e:=by
 unfold at2
 rw[h,h2]
theorem xn3 (I:Inv X pins σ H s) {n:Nat}{x:V}{d:DV} (h:Dv X.K H n x d):∀{m:Nat}{y:V}{e:DV},Dv X.K H m y e->∀{A:Around}{u v:Value},A.units+n+m<cLine->RelV x u->RelV y v ->
    SeqAt.EqAt A s u v (dEq d e)/\SeqAt.RcAt A s u v (dEq d e)/\SeqAt.RcNeAt A s u v (!dEq d e):=by
  induction h with
  | @non n =>
    intro m y e h2 A u v hu rx ry
    obtain rfl:u=Value.none:=rx
    cases h2 with
    | @non  =>
      obtain rfl:v=Value.none:=ry
      exact⟨SeqAt.EqAt.same _,SeqAt.RcAt.none_none,SeqAt.RcNeAt.none_none⟩
    | @bl _ b2 =>
      obtain rfl:v=Value.bool _:=ry
      exact⟨SeqAt.EqAt.none_bool _,SeqAt.RcAt.none_bool _,SeqAt.RcNeAt.none_bool _⟩
    | @int _ b2 =>
      obtain⟨_,rfl⟩:=ry
      exact⟨SeqAt.EqAt.none_int _ _,SeqAt.RcAt.none_int _ _,SeqAt.RcNeAt.none_int _ _⟩
    | @str _ b2 =>
      obtain⟨_,rfl⟩:=ry
      exact⟨SeqAt.EqAt.none_str _ _,SeqAt.RcAt.none_str _ _,SeqAt.RcNeAt.none_str _ _⟩
    | @tup m b ys es hb kl k =>
      obtain rfl:v=Value.ref _:=ry
      obtain⟨its2,r2,t2,z2⟩:=I.tuple hb
      have l2:=r2.length
      exact⟨SeqAt.EqAt.none_tuple t2 (by omega),SeqAt.RcAt.none_tuple t2 (by omega),SeqAt.RcNeAt.none_tuple t2 (by omega)⟩
    | @lst m b ys es hb kl k =>
      obtain rfl:v=Value.ref _:=ry
      obtain⟨its2,r2,t2,z2⟩:=I.list hb
      have l2:=r2.length
      exact⟨SeqAt.EqAt.none_list t2.isList (by omega),SeqAt.RcAt.none_list t2.isList (by omega),SeqAt.RcNeAt.none_list t2.isList (by omega)⟩
  | @bl n b1 =>
    intro m y e h2 A u v hu rx ry
    obtain rfl:u=Value.bool _:=rx
    cases h2 with
    | @non  =>
      obtain rfl:v=Value.none:=ry
      exact⟨SeqAt.EqAt.bool_none _,SeqAt.RcAt.bool_none _,SeqAt.RcNeAt.bool_none _⟩
    | @bl _ b2 =>
      obtain rfl:v=Value.bool _:=ry
      exact⟨SeqAt.EqAt.bool_bool _ _,SeqAt.RcAt.bool_bool _ _,SeqAt.RcNeAt.bool_bool _ _⟩
    | @int _ b2 =>
      obtain⟨_,rfl⟩:=ry
      exact⟨SeqAt.EqAt.bool_int _ _ _,SeqAt.RcAt.bool_int _ _ _,SeqAt.RcNeAt.bool_int _ _ _⟩
    | @str _ b2 =>
      obtain⟨_,rfl⟩:=ry
      exact⟨SeqAt.EqAt.bool_str _ _ _,SeqAt.RcAt.bool_str _ _ _,SeqAt.RcNeAt.bool_str _ _ _⟩
    | @tup m b ys es hb kl k =>
      obtain rfl:v=Value.ref _:=ry
      obtain⟨its2,r2,t2,z2⟩:=I.tuple hb
      have l2:=r2.length
      exact⟨SeqAt.EqAt.bool_tuple _ t2 (by omega),SeqAt.RcAt.bool_tuple _ t2 (by omega),SeqAt.RcNeAt.bool_tuple _ t2 (by omega)⟩
    | @lst m b ys es hb kl k =>
      obtain rfl:v=Value.ref _:=ry
      obtain⟨its2,r2,t2,z2⟩:=I.list hb
      have l2:=r2.length
      exact⟨SeqAt.EqAt.bool_list _ t2.isList (by omega),SeqAt.RcAt.bool_list _ t2.isList (by omega),SeqAt.RcNeAt.bool_list _ t2.isList (by omega)⟩
  | @int n b1 =>
    intro m y e h2 A u v hu rx ry
    obtain⟨_,rfl⟩:=rx
    cases h2 with
    | @non  =>
      obtain rfl:v=Value.none:=ry
      exact⟨SeqAt.EqAt.int_none _ _,SeqAt.RcAt.int_none _ _,SeqAt.RcNeAt.int_none _ _⟩
    | @bl _ b2 =>
      obtain rfl:v=Value.bool _:=ry
      exact⟨SeqAt.EqAt.int_bool _ _ _,SeqAt.RcAt.int_bool _ _ _,SeqAt.RcNeAt.int_bool _ _ _⟩
    | @int _ b2 =>
      obtain⟨_,rfl⟩:=ry
      exact⟨SeqAt.EqAt.int_int _ _ _ _,SeqAt.RcAt.int_int _ _ _ _,SeqAt.RcNeAt.int_int _ _ _ _⟩
    | @str _ b2 =>
      obtain⟨_,rfl⟩:=ry
      exact⟨SeqAt.EqAt.int_str _ _ _ _,SeqAt.RcAt.int_str _ _ _ _,SeqAt.RcNeAt.int_str _ _ _ _⟩
    | @tup m b ys es hb kl k =>
      obtain rfl:v=Value.ref _:=ry
      obtain⟨its2,r2,t2,z2⟩:=I.tuple hb
      have l2:=r2.length
      exact⟨SeqAt.EqAt.int_tuple _ _ t2 (by omega),SeqAt.RcAt.int_tuple _ _ t2 (by omega),SeqAt.RcNeAt.int_tuple _ _ t2 (by omega)⟩
    | @lst m b ys es hb kl k =>
      obtain rfl:v=Value.ref _:=ry
      obtain⟨its2,r2,t2,z2⟩:=I.list hb
      have l2:=r2.length
      exact⟨SeqAt.EqAt.int_list _ _ t2.isList (by omega),SeqAt.RcAt.int_list _ _ t2.isList (by omega),SeqAt.RcNeAt.int_list _ _ t2.isList (by omega)⟩
  | @str n b1 =>
    intro m y e h2 A u v hu rx ry
    obtain⟨_,rfl⟩:=rx
    cases h2 with
    | @non  =>
      obtain rfl:v=Value.none:=ry
      exact⟨SeqAt.EqAt.str_none _ _,SeqAt.RcAt.str_none _ _,SeqAt.RcNeAt.str_none _ _⟩
    | @bl _ b2 =>
      obtain rfl:v=Value.bool _:=ry
      exact⟨SeqAt.EqAt.str_bool _ _ _,SeqAt.RcAt.str_bool _ _ _,SeqAt.RcNeAt.str_bool _ _ _⟩
    | @int _ b2 =>
      obtain⟨_,rfl⟩:=ry
      exact⟨SeqAt.EqAt.str_int _ _ _ _,SeqAt.RcAt.str_int _ _ _ _,SeqAt.RcNeAt.str_int _ _ _ _⟩
    | @str _ b2 =>
      obtain⟨_,rfl⟩:=ry
      exact⟨SeqAt.EqAt.str_str _ _ _ _,SeqAt.RcAt.str_str _ _ _ _,SeqAt.RcNeAt.str_str _ _ _ _⟩
    | @tup m b ys es hb kl k =>
      obtain rfl:v=Value.ref _:=ry
      obtain⟨its2,r2,t2,z2⟩:=I.tuple hb
      have l2:=r2.length
      exact⟨SeqAt.EqAt.str_tuple _ _ t2 (by omega),SeqAt.RcAt.str_tuple _ _ t2 (by omega),SeqAt.RcNeAt.str_tuple _ _ t2 (by omega)⟩
    | @lst m b ys es hb kl k =>
      obtain rfl:v=Value.ref _:=ry
      obtain⟨its2,r2,t2,z2⟩:=I.list hb
      have l2:=r2.length
      exact⟨SeqAt.EqAt.str_list _ _ t2.isList (by omega),SeqAt.RcAt.str_list _ _ t2.isList (by omega),SeqAt.RcNeAt.str_list _ _ t2.isList (by omega)⟩
  | @tup n a xs ds ha hl h ih =>
    intro m y e h2 A u v hu rx ry
    obtain rfl:u=Value.ref _:=rx
    obtain⟨its,r1,t1,z1⟩:=I.tuple ha
    have l1:=r1.length
    cases h2 with
    | @non  =>
      obtain rfl:v=Value.none:=ry
      exact⟨SeqAt.EqAt.tuple_none t1 (by omega),SeqAt.RcAt.tuple_none t1 (by omega),SeqAt.RcNeAt.tuple_none t1 (by omega)⟩
    | @bl _ b2 =>
      obtain rfl:v=Value.bool _:=ry
      exact⟨SeqAt.EqAt.tuple_bool _ t1 (by omega),SeqAt.RcAt.tuple_bool _ t1 (by omega),SeqAt.RcNeAt.tuple_bool _ t1 (by omega)⟩
    | @int _ b2 =>
      obtain⟨_,rfl⟩:=ry
      exact⟨SeqAt.EqAt.tuple_int _ _ t1 (by omega),SeqAt.RcAt.tuple_int _ _ t1 (by omega),SeqAt.RcNeAt.tuple_int _ _ t1 (by omega)⟩
    | @str _ b2 =>
      obtain⟨_,rfl⟩:=ry
      exact⟨SeqAt.EqAt.tuple_str _ _ t1 (by omega),SeqAt.RcAt.tuple_str _ _ t1 (by omega),SeqAt.RcNeAt.tuple_str _ _ t1 (by omega)⟩
    | @tup m b ys es hb kl k =>
      obtain rfl:v=Value.ref _:=ry
      obtain⟨its2,r2,t2,z2⟩:=I.tuple hb
      have l2:=r2.length
      have step:∀(j:Nat) (h1:j<its.toArray.size) (h2:j<its2.toArray.size),SeqAt.EqAt A.in1 s its.toArray[j] its2.toArray[j] (at2 dEq ds es j):=fun j h1 h2=>by
        obtain⟨x,hx,rx⟩:=xfd r1 h1
        obtain⟨y,hy,ry⟩:=xfd r2 h2
        have j1:j<ds.length:=by simp at h1; omega
        have j2:j<es.length:=by simp at h2; omega
        rw[xgh (List.getElem?_eq_getElem j1) (List.getElem?_eq_getElem j2)]
        exact (ih j x _ hx (List.getElem?_eq_getElem j1) (k j y _ hy (List.getElem?_eq_getElem j2)) (A:=A.in1) (by show A.units+1+n+m<cLine; omega) rx ry).1
      have all:=xfp (xs:=ds) (ys:=es) (e:=at2 dEq ds es) fun j x y h1 h2=>xgh h1 h2
      have both:SeqAt.RcAt A s (.ref a) (.ref b) (dEqs ds es)/\SeqAt.RcNeAt A s (.ref a) (.ref b) (!dEqs ds es):=by
        have z1:=SeqAt.RcAt.tuples (A:=A) (e:=at2 dEq ds es) (show s.heap.IsTuple a its.toArray from t1) (show s.heap.IsTuple b its2.toArray from t2) (by omega) step
        have z2:=SeqAt.RcNeAt.tuples (A:=A) (e:=at2 dEq ds es) (show s.heap.IsTuple a its.toArray from t1) (show s.heap.IsTuple b its2.toArray from t2) (by omega) step
        have e1:its.toArray.size=ds.length:=by simp; omega
        have e2:its2.toArray.size=es.length:=by simp; omega
        rw[e1,e2,all] at z1 z2
        exact⟨z1,z2⟩
      simp only[dEq]
      refine⟨?_,both⟩
      by_cases q:a=b
      . subst q
        have ed:DV.tup ds=DV.tup es:=xh2 I (Dv.tup ha hl h) (Dv.tup hb kl k)
        rw[show es=ds by injection ed with z; exact z.symm,xde]
        exact SeqAt.EqAt.same _
      . exact .of_refs q both.1
    | @lst m b ys es hb kl k =>
      obtain rfl:v=Value.ref _:=ry
      obtain⟨its2,r2,t2,z2⟩:=I.list hb
      have l2:=r2.length
      exact⟨SeqAt.EqAt.tuple_list t1 t2.isList (by omega),SeqAt.RcAt.tuple_list t1 t2.isList (by omega),SeqAt.RcNeAt.tuple_list t1 t2.isList (by omega)⟩
  | @lst n a xs ds ha hl h ih =>
    intro m y e h2 A u v hu rx ry
    obtain rfl:u=Value.ref _:=rx
    obtain⟨its,r1,t1,z1⟩:=I.list ha
    have l1:=r1.length
    cases h2 with
    | @non  =>
      obtain rfl:v=Value.none:=ry
      exact⟨SeqAt.EqAt.list_none t1.isList (by omega),SeqAt.RcAt.list_none t1.isList (by omega),SeqAt.RcNeAt.list_none t1.isList (by omega)⟩
    | @bl _ b2 =>
      obtain rfl:v=Value.bool _:=ry
      exact⟨SeqAt.EqAt.list_bool _ t1.isList (by omega),SeqAt.RcAt.list_bool _ t1.isList (by omega),SeqAt.RcNeAt.list_bool _ t1.isList (by omega)⟩
    | @int _ b2 =>
      obtain⟨_,rfl⟩:=ry
      exact⟨SeqAt.EqAt.list_int _ _ t1.isList (by omega),SeqAt.RcAt.list_int _ _ t1.isList (by omega),SeqAt.RcNeAt.list_int _ _ t1.isList (by omega)⟩
    | @str _ b2 =>
      obtain⟨_,rfl⟩:=ry
      exact⟨SeqAt.EqAt.list_str _ _ t1.isList (by omega),SeqAt.RcAt.list_str _ _ t1.isList (by omega),SeqAt.RcNeAt.list_str _ _ t1.isList (by omega)⟩
    | @tup m b ys es hb kl k =>
      obtain rfl:v=Value.ref _:=ry
      obtain⟨its2,r2,t2,z2⟩:=I.tuple hb
      have l2:=r2.length
      exact⟨SeqAt.EqAt.list_tuple t1.isList t2 (by omega),SeqAt.RcAt.list_tuple t1.isList t2 (by omega),SeqAt.RcNeAt.list_tuple t1.isList t2 (by omega)⟩
    | @lst m b ys es hb kl k =>
      obtain rfl:v=Value.ref _:=ry
      obtain⟨its2,r2,t2,z2⟩:=I.list hb
      have l2:=r2.length
      have step:∀(j:Nat) (h1:j<its.toArray.size) (h2:j<its2.toArray.size),SeqAt.EqAt A.in1 s its.toArray[j] its2.toArray[j] (at2 dEq ds es j):=fun j h1 h2=>by
        obtain⟨x,hx,rx⟩:=xfd r1 h1
        obtain⟨y,hy,ry⟩:=xfd r2 h2
        have j1:j<ds.length:=by simp at h1; omega
        have j2:j<es.length:=by simp at h2; omega
        rw[xgh (List.getElem?_eq_getElem j1) (List.getElem?_eq_getElem j2)]
        exact (ih j x _ hx (List.getElem?_eq_getElem j1) (k j y _ hy (List.getElem?_eq_getElem j2)) (A:=A.in1) (by show A.units+1+n+m<cLine; omega) rx ry).1
      have all:=xfp (xs:=ds) (ys:=es) (e:=at2 dEq ds es) fun j x y h1 h2=>xgh h1 h2
      have both:SeqAt.RcAt A s (.ref a) (.ref b) (dEqs ds es)/\SeqAt.RcNeAt A s (.ref a) (.ref b) (!dEqs ds es):=by
        have e1:its.toArray.size=ds.length:=by simp; omega
        have e2:its2.toArray.size=es.length:=by simp; omega
        by_cases c:ds.length=es.length
        . have z1:=SeqAt.RcAt.lists (A:=A) (e:=at2 dEq ds es) t1.isList t2.isList (by omega) (by omega) step
          have z2:=SeqAt.RcNeAt.lists (A:=A) (e:=at2 dEq ds es) t1.isList t2.isList (by omega) (by omega) step
          have all':(List.range ds.length).all (at2 dEq ds es)=dEqs ds es:=by
            rw[<- all,c,Nat.min_self]
            simp
          rw[e1,all'] at z1 z2
          exact⟨z1,z2⟩
        . rw[xh8 c]
          exact⟨SeqAt.RcAt.lists_lengths (A:=A) t1.isList t2.isList (by rw[e1,e2]; simpa using c) (by omega),SeqAt.RcNeAt.lists_lengths (A:=A) t1.isList t2.isList (by rw[e1,e2]; simpa using c) (by omega)⟩
      simp only[dEq]
      refine⟨?_,both⟩
      by_cases q:a=b
      . subst q
        have ed:DV.lst ds=DV.lst es:=xh2 I (Dv.lst ha hl h) (Dv.lst hb kl k)
        rw[show es=ds by injection ed with z; exact z.symm,xde]
        exact SeqAt.EqAt.same _
      . exact .of_refs q both.1
end
theorem Same.seqL {K:PySem.W.Frag}{H H':Hp}{a:Addr}{xs:List V} (s:Same H H') (h:SqL K H a xs):SqL K H' a xs:=by
 rcases h with (h|⟨ob,h⟩)|h
 .exact .inl (.inl (s _ _ h))
 .exact .inl (.inr ⟨ob,s _ _ h⟩)
 .exact .inr h
def rNeV (K:PySem.W.Frag):R2:=fun x y H Q=>∃(n m:Nat) (d e:DV),Dv K H n x d/\Dv K H m y e/\n<=9/\m<=9/\Q (.bl (!dEq d e)) H
def rInV (K:PySem.W.Frag) (neg:Bool):R2:=fun x y H Q=>∃(n m:Nat) (d:DV) (es:List DV),Dv K H n x d/\Dv K H m y (.lst es)/\n<=9/\m<=9/\Q (.bl (if neg then !es.any (fun z=>dEq z d) else es.any fun z=>dEq z d)) H
section
variable {X:Cx}
theorem xmh (hu:X.A.units+20<cLine):OpR X (compareOp .NotEq) (rNeV X.K):=by
 intro pins s σ H x y u v Q I rx ry h
 obtain⟨n,m,d,e,h1,h2,hn,hm,q⟩:=h
 exact PySem.W.cmp_ofNotEq ((xn3 I h1 h2 (A:=X.A) (by omega) rx ry).2.2 X.prog X.w X.xe _ ⟨.bl _,H,I,rfl,q⟩)
theorem xmj {α β:Type}{f:α->Bool}{g:β->Bool}:∀{xs:List α}{ys:List β},xs.length=ys.length->(∀(j:Nat) (x:α) (y:β),xs[j]?=some x->ys[j]?=some y->f x=g y)->xs.any f=ys.any g
 | [],[],_,_=>rfl
 | [],_::_,h,_=>by cases h
 | _::_,[],h,_=>by cases h
 | x::xs,y::ys,h,k=>by
  rw[List.any_cons,List.any_cons,k 0 x y rfl rfl,xmj (xs:=xs) (ys:=ys) (by simpa using h) fun j a b h1 h2=>k (j+1) a b (by simpa using h1) (by simpa using h2)]
noncomputable def eOf (K:PySem.W.Frag) (H:Hp) (m:Nat) (d:DV) (z:V):Bool:=@dite Bool (∃ e,Dv K H m z e) (Classical.propDecidable _) (fun h=>dEq h.choose d) fun _=>false
theorem xms {pins:List (Addr × Obj)}{σ:St}{H:Hp}{s:Shared} (I:Inv X pins σ H s) {m:Nat}{d e:DV}{z:V} (h:Dv X.K H m z e):eOf X.K H m d z=dEq e d:=by
 unfold eOf
 rw[dif_pos ⟨e,h⟩]
 have ex:∃ e,Dv X.K H m z e:=⟨e,h⟩
 rw[xh2 I ex.choose_spec h]
theorem xe3 (hu:X.A.units+20<cLine):OpR X (compareOp .NotIn) (rInV X.K true):=by
 intro pins s σ H x y v u Q I rx ry h
 obtain⟨n,m,d,es,h1,h2,hn,hm,q⟩:=h
 cases h2 with
 | @lst m a xs _ ha hl k =>
  cases ry
  obtain⟨its,r,pl,hz⟩:=I.list ha
  have get:∀ z∈xs,∃(j:Nat) (e:DV),xs[j]?=some z/\es[j]?=some e/\Dv X.K H m z e:=fun z hz=>by
   obtain⟨j,hj⟩:=List.getElem?_of_mem hz
   have lt:j<es.length:=by rw[<- hl]; exact (List.getElem?_eq_some_iff.mp hj).1
   exact⟨j,es[j],hj,List.getElem?_eq_getElem lt,k j z _ hj (List.getElem?_eq_getElem lt)⟩
  refine SeqAt.notIn_listAt (eU (eOf X.K H m d)) pl.isList (fun w hw=>?_) ⟨.bl _,H,I,rfl,?_⟩
  .obtain ⟨z,m1,m2⟩:=xjf r w (by simpa using hw)
   obtain⟨j,e,_,_,he⟩:=get z m1
   rw[xn1 m2,xms I he]
   exact (xn3 I he h1 (A:=X.A.in1) (by show X.A.units+1+m+n<cLine; omega) m2 rx).1
  .rw [show its.toArray.any (eU (eOf X.K H m d))=its.any (eU (eOf X.K H m d)) by simp,xlf r,xmj (g:=fun z=>dEq z d) hl fun j z e g1 g2=>xms I (k j z e g1 g2)]
   exact q
end
end L2
namespace L2
open PySem PySem.Spec PyProof.Rows XL PySem.W
def Tp (H H':Hp):Prop:=∀ b xs,H b=some (.tup xs)->H' b=some (.tup xs)
theorem Same.tp {H H':Hp} (s:Same H H'):Tp H H':=fun b xs e=>s b _ e
theorem Tp.trans {H H' H'':Hp} (s:Tp H H') (r:Tp H' H''):Tp H H'':=fun b xs e=>r b xs (s b xs e)
theorem xmc {H:Hp}{l:Addr}{xs ys:List V} (h:H l=some (.lst xs)):Tp H (upd H l (.lst ys)):=fun b zs e=>by
 rw[xf (fun z=>by rw[z,h] at e; cases e)]
 exact e
section
variable {J:It}{n:Nat}{g:TG}{σ:St}{fr:List Nat}{tc:TT}{te:TE}{l:Addr}{H1:Hp}{Q:VK}
theorem xpf (len:Nat) (hlen:len<sizeLine) (hl:H1 l=none) (x:Nat->V) (hgo:∀ i H,i<len->Same H1 H->J.go i H) (hy:∀ i H v H',i<len->Same H1 H->J.yld i H v H'->H'=H/\v=x i) (hst:∀ H,Same H1 H->J.stop len H)
    (p:Nat->Bool) (F:Nat->V->Hp->Prop) (stab:∀ i y H H',Tp H H'->F i y H->F i y H')
    (step:∀ i H2,i<len->Same H1 H2->∀(N:V->Hp->Prop) (M:Hp->Prop),(∀ y H',Same H2 H'->p i=true->F i y H'->N y H')->(∀ H',Same H2 H'->p i=false->M H') ->
      g (x i) (blk0 σ fr n) H2 fun σ' H3=>tc σ' H3 fun b H4=>if b=true then te σ' H4 N else M H4)
    (fin:∀ ys H2,Same H1 H2->H2 l=some (.lst ys)->ys.length=((List.range len).filter p).length->(∀(j:Nat) (y:V) (i:Nat),ys[j]?=some y->((List.range len).filter p)[j]?=some i->F i y H2)->Q (.ref l) H2):xel J n g σ fr tc te l H1 Q:=by
  refine xbp len (fun i ys H2=>Same H1 H2/\H2 l=some (.lst ys)/\ys.length=((List.range i).filter p).length/\∀(j:Nat) (y:V) (k:Nat),ys[j]?=some y->((List.range i).filter p)[j]?=some k->F k y H2) ?_ ?_ ?_ ?_
  . refine⟨fun b u e=>?_,xg,rfl,fun j y k e=>by simp at e⟩
    rw[xf (xb e hl)]
    exact e
  . rintro i ys H2 lt ⟨s,_⟩
    exact hgo i H2 lt s
  . rintro i ys H2 v H3 lt ⟨s,el,ly,f⟩ yl N hN
    obtain⟨rfl,rfl⟩:=hy i H2 v H3 lt s yl
    refine step i H3 lt s _ _ (fun y H' s' pt hf=>?_) (fun H' s' pf=>?_)
    . have el':=s' _ _ el
      have ylen:ys.length<sizeLine:=by
        rw[ly]
        refine Nat.lt_of_le_of_lt (List.length_filter_le _ _) ?_
        rw[List.length_range]
        omega
      refine⟨el',ylen,hN _ _ ⟨fun b u e=>?_,xg,?_,fun j z k e1 e2=>?_⟩⟩
      . rw[xf (xb e hl)]
        exact s' _ _ (s _ _ e)
      . rw[List.range_succ,List.filter_append,List.length_append,List.length_append,ly,List.filter_cons_of_pos pt]
        rfl
      . rw[List.range_succ,List.filter_append,List.filter_cons_of_pos pt] at e2
        by_cases c:j<ys.length
        . rw[List.getElem?_append_left c] at e1
          rw[List.getElem?_append_left (by omega)] at e2
          exact stab _ _ _ _ ((Same.tp s').trans (xmc el')) (f j z k e1 e2)
        . rw[List.getElem?_append_right (by omega)] at e1 e2
          rw[<- ly] at e2
          cases hj:j-ys.length with
          | zero =>
            rw[hj] at e1 e2
            simp at e1 e2
            subst e1 e2
            exact stab _ _ _ _ (xmc el') hf
          | succ m =>
            rw[hj] at e1
            simp at e1
    . refine hN _ _ ⟨s.trans s',s' _ _ el,?_,fun j z k e1 e2=>?_⟩
      . rw[List.range_succ,List.filter_append,List.filter_cons_of_neg (by simp[pf])]
        simpa using ly
      . rw[List.range_succ,List.filter_append,List.filter_cons_of_neg (by simp[pf])] at e2
        simp only[List.filter_nil,List.append_nil] at e2
        exact stab _ _ _ _ (Same.tp s') (f j z k e1 e2)
  . rintro ys H2 ⟨s,el,ly,f⟩
    exact⟨hst _ s,fin ys H2 s el ly f⟩
theorem xdl {K:PySem.W.Frag}{a:Addr}{xs:List V} (hs:SqL K H1 a xs) (hlen:xs.length<sizeLine) (hl:H1 l=none) (p:Nat->Bool) (F:Nat->V->Hp->Prop) (stab:∀ i y H H',Tp H H'->F i y H->F i y H')
    (step:∀(i:Nat) (x:V) (H2:Hp),xs[i]?=some x->Same H1 H2->∀(N:V->Hp->Prop) (M:Hp->Prop),(∀ y H',Same H2 H'->p i=true->F i y H'->N y H')->(∀ H',Same H2 H'->p i=false->M H') ->
      g x (blk0 σ fr n) H2 fun σ' H3=>tc σ' H3 fun b H4=>if b=true then te σ' H4 N else M H4)
    (fin:∀ ys H2,Same H1 H2->H2 l=some (.lst ys)->ys.length=((List.range xs.length).filter p).length->(∀(j:Nat) (y:V) (i:Nat),ys[j]?=some y->((List.range xs.length).filter p)[j]?=some i->F i y H2)->Q (.ref l) H2):xel (Itl K a) n g σ fr tc te l H1 Q:=by
  refine xpf xs.length hlen hl (fun i=>xs.getD i .non) (fun i H lt s=>⟨xs,xs[i],Same.seqL s hs,List.getElem?_eq_getElem lt⟩) (fun i H v H' lt s y=>?_) (fun H s=>⟨xs,Same.seqL s hs,Nat.le_refl _⟩) p F stab (fun i H2 lt s N M h1 h2=>?_) fin
  . obtain⟨e,f⟩:=y
    have z:=f xs (Same.seqL s hs)
    refine⟨e,?_⟩
    simp[z]
  . have e:xs[i]?=some (xs.getD i .non):=by simp[List.getElem?_eq_getElem lt]
    exact step i _ H2 e s N M h1 h2
theorem xiw {i:Nat}{x:V}{σ0:St}{H2:Hp}{N:V->Hp->Prop}{M:Hp->Prop}{g:TG}{te:TE} (h:g x σ0 H2 fun σ' H3=>te σ' H3 N):g x σ0 H2 fun σ' H3=>xei σ' H3 fun b H4=>if b=true then te σ' H4 N else M H4:=by
 have e:(fun (σ':St) (H3:Hp)=>xei σ' H3 fun b H4=>if b=true then te σ' H4 N else M H4)=fun σ' H3=>te σ' H3 N:=by
  funext σ' H3
  show (if true=true then te σ' H3 N else M H3)=te σ' H3 N
  rw[if_pos rfl]
 rw[e]
 exact h
theorem xf6 (m:Nat):(List.range m).filter (fun _=>true)=List.range m:=by simp
theorem xcg {K:PySem.W.Frag}{a:Addr}{xs:List V} (hs:SqL K H1 a xs) (hlen:xs.length<sizeLine) (hl:H1 l=none) (F:Nat->V->Hp->Prop) (stab:∀ i y H H',Tp H H'->F i y H->F i y H')
    (step:∀(i:Nat) (x:V) (H2:Hp),xs[i]?=some x->Same H1 H2->∀(N:V->Hp->Prop),(∀ y H',Same H2 H'->F i y H'->N y H')->g x (blk0 σ fr n) H2 fun σ' H3=>te σ' H3 N)
    (fin:∀ ys H2,Same H1 H2->H2 l=some (.lst ys)->ys.length=xs.length->(∀(i:Nat) (y:V),ys[i]?=some y->F i y H2)->Q (.ref l) H2):xel (Itl K a) n g σ fr xei te l H1 Q:=by
  refine xdl hs hlen hl (fun _=>true) F stab (fun i x H2 hx s N M h1 h2=>xiw (i:=i) (step i x H2 hx s N fun y H' s' f=>h1 y H' s' rfl f)) (fun ys H2 s e ly f=>?_)
  rw[xf6,List.length_range] at ly
  refine fin ys H2 s e ly fun i y hy=>f i y i hy ?_
  rw[xf6,List.getElem?_range (by have:=(List.getElem?_eq_some_iff.mp hy).1; omega)]
end
theorem xf9 {α:Type}{f:α->V}:∀{as:List α}{ys:List V},ys.length=as.length->(∀(i:Nat) (y:V) (a:α),ys[i]?=some y->as[i]?=some a->y=f a)->ys=as.map f
 | [],[],_,_=>rfl
 | [],_::_,h,_=>by cases h
 | _::_,[],h,_=>by cases h
 | a::as,y::ys,h,k=>by
  rw[List.map_cons,k 0 y a rfl rfl,xf9 (as:=as) (ys:=ys) (by simpa using h) fun i y' a' h1 h2=>k (i+1) y' a' (by simpa using h1) (by simpa using h2)]
theorem xjm {α:Type} (q:α->Bool):∀(as:List α) (p:Nat->Bool),(∀(i:Nat) (a:α),as[i]?=some a->p i=q a)->((List.range as.length).filter p).filterMap (fun i=>as[i]?)=as.filter q
 | [],_,_=>rfl
 | a::as,p,h=>by
  have ih:=xjm q as (fun i=>p (i+1)) fun i b hb=>h (i+1) b (by simpa using hb)
  rw[List.length_cons,List.range_succ_eq_map]
  have e:((List.range as.length).map Nat.succ).filter p=((List.range as.length).filter (fun i=>p (i+1))).map Nat.succ:=by
   rw[List.filter_map]
   rfl
  have h0:=h 0 a rfl
  by_cases c:q a=true
  .rw [List.filter_cons_of_pos (by rw[h0]; exact c),List.filter_cons_of_pos c,e,List.filterMap_cons]
   simp only[List.getElem?_cons_zero,List.filterMap_map]
   rw[<- ih]
   rfl
  .rw [List.filter_cons_of_neg (by rw[h0]; exact c),List.filter_cons_of_neg c,e,List.filterMap_map,<- ih]
   rfl
theorem xjx {α:Type} (q:α->Bool) {as:List α}{p:Nat->Bool} (h:∀(i:Nat) (a:α),as[i]?=some a->p i=q a):((List.range as.length).filter p).length=(as.filter q).length/\∀ j i:Nat,((List.range as.length).filter p)[j]?=some i->as[i]?=(as.filter q)[j]?:=by
 rw[<- xjm q as p h]
 have all:∀ i∈(List.range as.length).filter p,∃ a,as[i]?=some a:=fun i hi=>by
  have:=List.mem_range.mp (List.mem_filter.mp hi).1
  exact⟨as[i],List.getElem?_eq_getElem this⟩
 generalize (List.range as.length).filter p=is at all
 induction is with
 | nil=>exact⟨rfl,fun j i e=>by simp at e⟩
 | cons i is ih =>
  obtain⟨a,ha⟩:=all i List.mem_cons_self
  obtain⟨h1,h2⟩:=ih fun k hk=>all k (List.mem_cons_of_mem _ hk)
  rw[List.filterMap_cons,ha]
  refine⟨by simp[h1],fun j k e=>?_⟩
  cases j with
  | zero =>
   simp at e
   subst e
   exact ha
  | succ m=>exact h2 m k (by simpa using e)
end L2
namespace XL
open PySem PySem.MeetsSeq PySem.MeetsSeq2 PySem.MeetsSeq3 PySem.SeqAt
open AutoSeq1 (wpAny_loadPart')
end XL
namespace L2
open PySem PySem.Spec PyProof.Rows XL PySem.W
def xma:Expr->Bool
 | .Starred _ _=>false
 | _=>true
theorem xkv {e:Expr}{es:List Expr}{env:Env} (h:xma e=true):starEach (e::es) env=(false,eval e env)::starEach es env:=by
 cases e<;>first|rfl|cases h
theorem xar {X:Cx}{e:Expr}{es:List Expr}{te:TE}{t:TA} (ha:PE X e te) (hr:PA X es t) (hn:xma e=true):PA X (e::es) (xnx te t):=xa ha hr (xkv hn)
end L2
namespace XL
open PySem L2
open PyProof.Rows (assign_Tuple)
end XL
namespace L2
open PySem PySem.Spec PyProof.Rows XL PySem.W
end L2
namespace L2
open PySem PySem.Spec PyProof.Rows XL PySem.W PySem.Builtin PySem.Builtin.Str
end L2
namespace L2
open PySem PySem.Spec PyProof.Rows XL
open AutoSeq1 (wpAny_loadPart')
end L2
namespace L2
open PySem PySem.Spec PyProof.Rows XL
end L2
namespace L2
open PySem PySem.Spec PyProof.Rows XL
open AutoSeq1 (wpAny_loadPart')
end L2
namespace L2
open PySem PySem.Spec PyProof.Rows XL
end L2
namespace L2
open PySem PySem.Spec PyProof.Rows XL PySem.W PySem.Builtin PySem.Builtin.Str
section
variable {J:It}{n:Nat}{g:TG}{σ:St}{fr:List Nat}{tc:TT}{te:TE}{l:Addr}{H1:Hp}{Q:VK}
theorem xgk {K:PySem.W.Frag}{a:Addr}{xs:List V} (hs:SqL K H1 a xs) (hlen:xs.length<sizeLine) (hl:H1 l=none) (F:Nat->List V->Hp->Prop) (F0:∀ H,Same H1 H->F 0 [] H) (stab:∀ i ys zs H H',H l=some (.lst zs)->(∀ b u,b≠l->H b=some u->H' b=some u)->F i ys H->F i ys H')
    (step:∀(i:Nat) (x:V) (ys:List V) H2,xs[i]?=some x->Same H1 H2->H2 l=some (.lst ys)->F i ys H2->∀(N:V->Hp->Prop),(∀ y H',Same H2 H'->F (i+1) (ys++[y]) H'->N y H')->g x (blk0 σ fr n) H2 fun σ' H3=>te σ' H3 N)
    (fin:∀ ys H2,Same H1 H2->H2 l=some (.lst ys)->ys.length=xs.length->F xs.length ys H2->Q (.ref l) H2):xel (Itl K a) n g σ fr xei te l H1 Q:=by
  refine xbp xs.length (fun i ys H2=>Same H1 H2/\H2 l=some (.lst ys)/\ys.length=i/\F i ys H2) ?_ ?_ ?_ ?_
  . have s0:Same H1 (upd H1 l (.lst [])):=fun b u e=>by
      rw[xf (xb e hl)]
      exact e
    exact⟨s0,xg,rfl,F0 _ s0⟩
  . rintro i ys H2 lt ⟨s,_⟩
    exact⟨xs,xs[i],Same.seqL s hs,List.getElem?_eq_getElem lt⟩
  . rintro i ys H2 v H3 lt ⟨s,el,ly,f⟩ ⟨rfl,yv⟩ N hN
    have hv:=yv xs (Same.seqL s hs)
    refine xiw (i:=i) (step i v ys H3 hv s el f _ fun y H' s' f'=>?_)
    have el':=s' _ _ el
    refine⟨el',by omega,hN _ _ ⟨fun b u e=>?_,xg,by simp[ly],stab _ _ _ _ _ el' (fun b u nb e=>?_) f'⟩⟩
    . rw[xf (xb e hl)]
      exact s' _ _ (s _ _ e)
    . rw[xf nb]
      exact e
  . rintro ys H2 ⟨s,el,ly,f⟩
    exact⟨⟨xs,Same.seqL s hs,Nat.le_refl _⟩,fin ys H2 s el ly f⟩
end
end L2
namespace L2
open PySem PySem.Spec PyProof.Rows XL PySem.W
end L2
namespace L2
open PySem PySem.Spec PyProof.Rows XL PySem.W PySem.Builtin PySem.Builtin.Str
end L2
namespace L2
open PySem
def th (a b:Int):Int:=reduceHash (Builtin.Tuple.tupleHashOf [hashInt a,hashInt b])
end L2
namespace XL
open PySem PySem.Spec PyProof.Rows
def xo0 (acc:List Str) (x:Str):List Str:=if acc.any (· == x)=true then acc else acc++[x]
end XL
namespace L2
open PySem PySem.Spec PyProof.Rows XL
def xsb (xs:List Str):Nat:=(xs.foldl xo0 []).length
end L2
namespace XS
open PySem PySem.SetTable
end XS
namespace XS
open PySem PySem.SetTable
variable {t:SetTable}{es:Array (Int × Value)}{L:List Row}
end XS
namespace XS
open PySem PySem.SetTable
end XS
namespace XS
open PySem PySem.Spec PySem.SetTable
end XS
namespace XS
open PySem PySem.Spec PyProof.Rows
end XS
namespace XS
open PySem PySem.Spec PyProof.Rows XL
end XS
namespace L2
open PySem PySem.Spec PyProof.Rows XL XS
end L2
namespace L2
open PySem PySem.Spec PyProof.Rows
end L2
namespace L2
open PySem PySem.Spec PyProof.Rows XL PySem.W
section
variable {J:It}{n:Nat}{g:TG}{σ:St}{fr:List Nat}{tc:TT}{te:TE}{l:Addr}{H1:Hp}{Q:VK}{α:Type}
theorem xne {α:Type}{bs as:List α}{i:Nat}{x:α} (h:bs.Sublist (as.take i)) (hx:as[i]?=some x):(bs++[x]).Sublist (as.take (i+1)):=by
 rw[List.take_add_one,hx]
 exact h.append (List.Sublist.refl _)
theorem xm1 {α:Type}{bs as:List α}{i:Nat} (h:bs.Sublist (as.take i)):bs.Sublist (as.take (i+1)):=by
 rw[List.take_add_one]
 exact h.trans (List.sublist_append_left _ _)
theorem xky {K:PySem.W.Frag}{a:Addr}{as:List α}{f gv:α->V} (hs:SqL K H1 a (as.map f)) (hlen:as.length<sizeLine) (hl:H1 l=none)
    (step:∀(i:Nat) (x:α) (p:Addr) (H2:Hp),as[i]?=some x->Same H1 H2->H2 p=none->∀(N:V->Hp->Prop) (M:Hp->Prop),(∀ H',Same (upd H2 p (.tup [.int i,f x])) H'->N (gv x) H')->(∀ H',Same (upd H2 p (.tup [.int i,f x])) H'->M H') ->
      g (.ref p) (blk0 σ fr n) (upd H2 p (.tup [.int i,f x])) fun σ' H3=>tc σ' H3 fun b H4=>if b=true then te σ' H4 N else M H4)
    (fin:∀ H2 bs,List.Sublist bs as->Same H1 H2->H2 l=some (.lst (bs.map gv))->Q (.ref l) H2):xel (Ite K a) n g σ fr tc te l H1 Q:=by
  refine xbp as.length (fun i ys H2=>∃ bs:List α,Same H1 H2/\H2 l=some (.lst ys)/\ys=bs.map gv/\List.Sublist bs (as.take i)) ?_ ?_ ?_ ?_
  . exact⟨[],fun b u e=>by rw[xf (xb e hl)]; exact e,xg,rfl,List.nil_sublist _⟩
  . rintro i ys H2 lt ⟨bs,s,_⟩
    exact⟨_,f as[i],Same.seqL s hs,by rw[List.getElem?_map,List.getElem?_eq_getElem lt]; rfl⟩
  . rintro i ys H2 v H3 lt ⟨bs,s,e,rfl,sb⟩ ⟨p,x,ex,rfl,hp,rfl⟩ N hN
    have ex:=ex _ (Same.seqL s hs)
    have hx:as[i]?=some as[i]:=List.getElem?_eq_getElem lt
    rw[List.getElem?_map,hx] at ex
    cases ex
    have e1:upd H2 p (.tup [.int i,f as[i]]) l=some (.lst (bs.map gv)):=by
      rw[xf (xb e hp)]
      exact e
    have s1:Same H1 (upd H2 p (.tup [.int i,f as[i]])):=fun b u z=>by
      have z2:=s _ _ z
      rw[xf (xb z2 hp)]
      exact z2
    refine step i _ p H2 hx s hp _ _ (fun H' s'=>?_) (fun H' s'=>?_)
    . have e':=s' _ _ e1
      refine⟨e',?_,hN _ _ ⟨bs++[as[i]],fun b u z=>?_,xg,by rw[List.map_append]; rfl,xne sb hx⟩⟩
      . have:=sb.length_le
        rw[List.length_map]
        rw[List.length_take] at this
        omega
      . rw[xf (xb z hl)]
        exact s' _ _ (s1 _ _ z)
    . exact hN _ _ ⟨bs,fun b u z=>s' _ _ (s1 _ _ z),s' _ _ e1,rfl,xm1 sb⟩
  . rintro ys H2 ⟨bs,s,e,rfl,sb⟩
    refine⟨⟨_,Same.seqL s hs,by rw[List.length_map]; exact Nat.le_refl _⟩,fin H2 bs (by rw[List.take_length] at sb; exact sb) s e⟩
end
theorem xhl {prog:Program}{w:World}{A:Around}{E:Value->Shared->Prop}{s:Shared}{it d:Addr}{i ep:Nat}{o:Obj}{es:Array DictEntry}{en:DictEntry}{ok ov:Value}{Q:Option Value->Shared->Prop}
    (st:IsItemIter s.heap it d i es.size ep ok ov) (hd:s.heap.get? d=some o) (hdat:o.data=.dict es ep) (hi:es[i]?=some en)
    (h:∀ h',IsItemIterOut h' it d (i+1) es.size ep en.key en.val s.heap.objs.size->h'.get? s.heap.objs.size=some { cls:=.type "tuple",data:=.seq #[en.key,en.val] }->h'.objs.size=s.heap.objs.size+1->(∀ b o,b≠it->s.heap.get? b=some o->h'.get? b=some o)->Q (some (.ref s.heap.objs.size)) { s with heap:=h' }):wpAny (model prog w) A (pyNext (.ref it)) Q E s:=by
  have hT:s.TypeIs (.ref it) "dict_itemiterator":=⟨_,st,rfl⟩
  unfold pyNext
  refine wpAny_bind (wpAny_attempt (wpAny_callSpecial?_slot hT F.slot_dict_itemiterator_next ?_))
  refine wpAny_call_entry F.slot_dict_itemiterator_next hT F.entry_dict_itemiterator_next ?_ (F.args_dict_itemiterator_next_1 _)
  obtain⟨hp,g,dr,tk,os⟩:=s
  have il:it<hp.objs.size:=Heap.lt_size st
  refine wpAny_bind <| wpAny_pure <| wpAny_bind <| wpAny_bind <| wpAny_bind <| wpAny_typeNameOfWhole_itemiter hT <| wpAny_pure <| wpAny_bind <| wpAny_fieldsOf st rfl ?_
  simp only[show Builtin.Dict_items.ownsTuple "dict_itemiterator"=true from by decide,if_true]
  show wpAny _ _ (if (Value.ref d == Value.none)=true then _ else _) _ _ _
  rw[if_neg (by exact Bool.false_ne_true)]
  refine wpAny_bind <| wpAny_pure <| wpAny_bind <| wpAny_dictEntries hd hdat ?_
  rw[if_neg (by simp)]
  refine wpAny_bind <| wpAny_pure <| wpAny_bind <| wpAny_dictEpoch hd hdat ?_
  rw[if_neg (by simp)]
  refine wpAny_pure ?_
  have e1:(if (i:Int)<0 then none else es[(i:Int).toNat]?)=some en:=by
    rw[if_neg (by omega),Int.toNat_natCast]
    exact hi
  simp only[e1]
  refine wpAny_bind <| wpAny_bind <| wpAny_typeNameOfWhole_itemiter hT <| wpAny_pure <| wpAny_bind <| wpAny_isOneOf_itemiter hT ?_
  show wpAny _ _ (setField (.ref it) 3 (rawInt ((i:Int)+1))>>=_) _ _ _
  refine wpAny_bind <| wpAny_setField_rec st (by simp) fun h1 he1 hs1=>?_
  have hs1:Heap.SameBut it hp h1:=hs1
  have T1:Shared.TypeIs ⟨h1,g,dr,tk,os⟩ (.ref it) "dict_itemiterator":=⟨_,he1,rfl⟩
  refine wpAny_bind <| wpAny_holding <| wpAny_bind <| wpAny_isOneOf_itemiter T1 <| wpAny_bind <| wpAny_isOneOf_itemiter T1 ?_
  show wpAny _ _ (Builtin.Dict_items.pairFromOwner (.ref it) 6 en.key en.val) _ _ _
  unfold Builtin.Dict_items.pairFromOwner
  refine wpAny_bind <| wpAny_newTuple ?_
  have he2:=Heap.get?_push_of_some { cls:=.type "tuple",data:=.seq #[en.key,en.val] } he1
  have ht2:(h1.push { cls:=.type "tuple",data:=.seq #[en.key,en.val] }).get? hp.objs.size=some { cls:=.type "tuple",data:=.seq #[en.key,en.val] }:=by
    rw[<- hs1.1]
    exact Heap.get?_push_size _ rfl
  have hz2:(h1.push { cls:=.type "tuple",data:=.seq #[en.key,en.val] }).objs.size=hp.objs.size+1:=by rw[Heap.size_push,hs1.1]
  have hk2:∀ b ob,b≠it->hp.get? b=some ob->(h1.push { cls:=.type "tuple",data:=.seq #[en.key,en.val] }).get? b=some ob:=fun b ob nb e=>Heap.get?_push_of_some _ (hs1.extBut b ob nb e)
  have z1:h1.objs.size=hp.objs.size:=hs1.1
  show wpAny _ _ (Builtin.Dict_items.ownedTupleIsFree (.ref it)>>=_) _ _ ⟨h1.push { cls:=.type "tuple",data:=.seq #[en.key,en.val] },g,dr,tk,os⟩
  rw[z1]
  revert he2 ht2 hz2 hk2
  generalize h1.push { cls:=.type "tuple",data:=.seq #[en.key,en.val] }=h2
  intro he2 ht2 hz2 hk2
  clear hs1 T1 he1 z1
  unfold Builtin.Dict_items.ownedTupleIsFree
  refine wpAny_bind <| wpAny_bind <| wpAny_field he2 rfl (x:=.none) rfl <| wpAny_pure ?_
  simp only[if_true]
  refine wpAny_bind <| wpAny_field he2 rfl (x:=ok) rfl <| wpAny_bind <| wpAny_field he2 rfl (x:=ov) rfl ?_
  refine wpAny_bind <| wpAny_setField_rec he2 (by simp) fun h3 he3 hs3=>?_
  refine wpAny_bind <| wpAny_setField_rec he3 (by simp) fun h4 he4 hs4=>?_
  refine wpAny_bind <| wpAny_setField_rec he4 (by simp) fun h5 he5 hs5=>?_
  refine wpAny_bind <| wpAny_setField_rec he5 (by simp) fun h6 he6 hs6=>?_
  have n1:=Nat.ne_of_gt il
  refine wpAny_bind <| wpAny_letGo <| wpAny_pure <| wpAny_pure ⟨_,rfl,wpAny_pure (h h6 he6 ?_ ?_ fun b ob nb e=>?_)⟩
  . exact hs6.extBut _ _ n1 (hs5.extBut _ _ n1 (hs4.extBut _ _ n1 (hs3.extBut _ _ n1 ht2)))
  . exact hs6.1.trans (hs5.1.trans (hs4.1.trans (hs3.1.trans hz2)))
  . exact hs6.extBut b ob nb (hs5.extBut b ob nb (hs4.extBut b ob nb (hs3.extBut b ob nb (hk2 b ob nb e))))
theorem xht {prog:Program}{w:World}{A:Around}{E:Value->Shared->Prop}{s:Shared}{it d:Addr}{ep:Nat}{o:Obj}{es:Array DictEntry}{ok ov:Value}{Q:Option Value->Shared->Prop}
    (hA:A.handled=none) (st:IsItemIter s.heap it d es.size es.size ep ok ov) (hd:s.heap.get? d=some o) (hdat:o.data=.dict es ep)
    (h:∀ h',Heap.ExtBut it s.heap h'->Q none { s with heap:=h' }):wpAny (model prog w) A (pyNext (.ref it)) Q E s:=by
  have hT:s.TypeIs (.ref it) "dict_itemiterator":=⟨_,st,rfl⟩
  unfold pyNext
  refine wpAny_bind (wpAny_attempt (wpAny_callSpecial?_slot hT F.slot_dict_itemiterator_next ?_))
  refine wpAny_call_entry F.slot_dict_itemiterator_next hT F.entry_dict_itemiterator_next ?_ (F.args_dict_itemiterator_next_1 _)
  obtain⟨hp,g,dr,tk,os⟩:=s
  have st':=st
  unfold IsItemIter at st'
  unfold Builtin.«dict_itemiterator.__next__»
  repeat (any_goals (first|assumption|(with_reducible refine wpAny_typeNameOfWhole_itemiter hT ?_)|(with_reducible refine wpAny_isOneOf_itemiter hT ?_)|(with_reducible refine wpAny_dictEntries hd hdat ?_)|(with_reducible refine wpAny_dictEpoch hd hdat ?_)|wp_step))
  have e1:(if (es.size:Int)<0 then none else es[(es.size:Int).toNat]?)=none:=by
    rw[if_neg (by omega),Int.toNat_natCast]
    simp
  rw[e1]
  repeat (any_goals (first|assumption|(with_reducible refine wpAny_typeNameOfWhole_itemiter hT ?_)|(with_reducible refine wpAny_isOneOf_itemiter hT ?_)|(with_reducible refine wpAny_dictEntries hd hdat ?_)|(with_reducible refine wpAny_dictEpoch hd hdat ?_)|wp_step))
  refine wpAny_raiseNew_none hA ?_
  refine wpAny_bind (wpAny_isInstance ⟨_,Heap.get?_push_size _ rfl,rfl⟩ isSubtype_stop (wpAny_pure (h _ fun b o nb e=>?_)))
  refine Heap.get?_push_of_some _ (Heap.get?_push_of_some _ ?_)
  rw[Heap.get?_update_other _ _ (Ne.symm nb)]
  exact e
theorem xle {prog:Program}{w:World}{A:Around}{E:Value->Shared->Prop}{s:Shared}{v d:Addr}{ep:Nat}{o:Obj}{es:Array DictEntry}{Q:Value->Shared->Prop}
    (hv:s.heap.get? v=some { cls:=.type "dict_items",data:=.fields #[.ref d] }) (hd:s.heap.get? d=some o) (hdat:o.data=.dict es ep)
    (h:Q (.ref s.heap.objs.size) { s with heap:=s.heap.push { cls:=.type "dict_itemiterator",data:=.fields #[.none,.bool false,.ref d,.int 0 0,.int es.size 0,.int ep 0,.none,.none] } }):wpAny (model prog w) A (pyIter (.ref v)) Q E s:=by
  have ti:s.TypeIs (.ref v) "dict_items":=⟨_,hv,rfl⟩
  refine wpAny_pyIter_slot ti F.slot_dict_items_iter ?_
  refine wpAny_call_entry F.slot_dict_items_iter ti F.entry_dict_items_iter ?_ (F.args_dict_items_iter_1 _)
  obtain⟨hp,g,dr,tk,os⟩:=s
  unfold Builtin.«dict_items.__iter__»
  repeat (any_goals (first|assumption|(with_reducible refine wpAny_dictEntries hd hdat ?_)|(with_reducible refine wpAny_dictEpoch hd hdat ?_)|wp_step))
  exact⟨_,rfl,_,_,⟨_,Heap.get?_push_size _ rfl,rfl⟩,F.slot_dict_itemiterator_next.lookup,h⟩
theorem xis {prog:Program}{w:World} (d:Addr) (hd:(d == sysModules)=false) :
    MeetsIn prog w (Builtin.«dict.items» ⟨[.ref d],[]⟩) (fun _ R s=>s.TypeIs (.ref d) "dict" /\
      R (.ok (.ret (.ref s.heap.objs.size))) { s with heap:=s.heap.push { cls:=.type "dict_items",data:=.fields #[.ref d] } }) :=
  .of_wp fun A R s ⟨ti,h⟩=>by
    unfold Builtin.«dict.items» Builtin.Dict.noArgs Builtin.Dict.showsAll
    refine wpAny_bind <| wpAny_bind <| wpAny_notOrdered_dict ti ?_
    show wpAny _ _ (pure d) _ _ s
    refine wpAny_pure ?_
    rw[if_neg (by rw[hd]; exact Bool.false_ne_true)]
    exact wpAny_bind <| wpAny_pure <| wpAny_bind <| wpAny_newObj_type <| wpAny_pure ⟨_,rfl,h⟩
theorem xih {H:Hp}:∀{kvs:List (List Key × V)}{xs:List (List Key × Addr × Value)}{i:Nat}{k:List Key}{x:V},KT H kvs xs->kvs[i]?=some (k,x)->∃ q u,xs[i]?=some (k,q,u)/\H q=some (.tup (k.map kV))/\RelV x u
 | _,_,_,_,_,.nil,e=>by simp at e
 | _,(k',q,u)::_,0,k,x,.cons r _,e=>by
  simp at e
  subst e
  obtain⟨r1,r2,r3⟩:=r
  dsimp only at r1 r2 r3
  subst r1
  exact⟨q,u,rfl,r2,r3⟩
 | _,_,i+1,k,x,.cons _ t,e=>by
  obtain⟨q,u,h1,h2,h3⟩:=xih (i:=i) (k:=k) (x:=x) t (by simpa using e)
  exact⟨q,u,by simpa using h1,h2,h3⟩
section
variable {X:Cx}{pins:List (Addr × Obj)}{σ:St}{H:Hp}{s:Shared}
theorem xff {d:Addr}{o:Obj}{kvs:List (List Key × V)}{es:Array DictEntry}{ep:Nat} (I:Inv X pins σ H s) (e:H d=some (.frz o (.dT kvs))) (hdat:o.data=.dict es ep) :
    s.heap.get? d=some o/\o.ExactDict/\es.size=kvs.length/\∀(i:Nat) k x,kvs[i]?=some (k,x)->∃ q en,es[i]?=some en/\en.key=.ref q/\H q=some (.tup (k.map kV))/\RelV x en.val:=by
  obtain⟨g,_,_,xs,rel,o',es',ep',g',ex,hdat',hes,hn⟩:=I.hok d _ e
  rw[g] at g'
  cases g'
  rw[hdat] at hdat'
  cases hdat'
  refine⟨g,ex,?_,fun i k x hx=>?_⟩
  . rw[<- Array.length_toList,hes,List.length_map]
    exact (Paired.length rel).symm
  . obtain⟨q,u,h1,h2,h3⟩:=xih rel hx
    exact⟨q,_,by rw[<- Array.getElem?_toList,hes,List.getElem?_map,h1]; rfl,rfl,h2,h3⟩
theorem Inv.nofrzT {d:Addr}{kvs:List (List Key × V)} (I:Inv X pins σ H s) (e:H d=some (.dT kvs)):∀ o' u',X.H₀ d≠some (.frz o' u'):=fun o' u' z=>by
 have q:=I.base.frzs d o' u' z
 rw[e] at q
 cases q
end
def Itkt (d:Addr) (o:Obj) (kvs:List (List Key × V)):It :=
 ⟨fun i H=>H d=some (.frz o (.dT kvs))/\i<kvs.length,fun i H v H'=>H'=H/\∃ k x q,kvs[i]?=some (k,x)/\v=.ref q/\H q=some (.tup (k.map kV)),fun i H=>H d=some (.frz o (.dT kvs))/\i=kvs.length⟩
def Itit (d:Addr) (o:Obj) (kvs:List (List Key × V)):It :=
 ⟨fun i H=>H d=some (.frz o (.dT kvs))/\i<kvs.length,fun i H v H'=>∃ p k x q,kvs[i]?=some (k,x)/\H q=some (.tup (k.map kV))/\v=.ref p/\H p=none/\H'=upd H p (.tup [.ref q,x]),fun i H=>H d=some (.frz o (.dT kvs))/\i=kvs.length⟩
theorem xkr {P:Program}{w:World}{K:PySem.W.Frag}{tg:Expr} (d it:Addr) (o:Obj) (kvs:List (List Key × V)) (es:Array DictEntry) (ep:Nat) (hdat:o.data=.dict es ep) :
    Turn P w K tg (Itkt d o kvs) [it] it (fun i h=>h.IsKeyIter it d i es.size ep) where
  mem:=by simp
  obj:=fun i h st b hb=>by
    have e:b=it:=by simpa using hb
    subst e
    obtain⟨o1,e1,c1,d1⟩:=st
    exact⟨_,e1,fun v k=>by rw[d1] at k; cases k⟩
  keep:=fun i h h' ⟨o1,e1,r⟩ k=>⟨o1,k it (by simp) _ e1,r⟩
  item:=by
    intro X hP hw hK hc i pins s σ H E I hf st hg
    subst hP hw hK
    obtain⟨e,lt⟩:=hg
    obtain⟨g,ex,sz,f⟩:=xff I e hdat
    obtain⟨f0,f1,f2,f3,f4,f5⟩:=hf it (by simp)
    obtain⟨⟨k,x⟩,q⟩:∃ y,kvs[i]=y:=⟨_,rfl⟩
    have hx:kvs[i]?=some (k,x):=by rw[List.getElem?_eq_getElem lt,q]
    obtain⟨qa,en,he,hk,hq,hr⟩:=f i k x hx
    refine xe1 st g ex hdat he fun h' hit' hs=>?_
    obtain⟨o2,g2,c2,d2⟩:=id hit'
    refine⟨_,rfl,xkw (s:={ s with heap:=h' }) g2 c2 d2 (by decide) ?_⟩
    have I1:Inv X pins σ H { s with heap:=h' }:=I.turned (t':=s.toks) (fun b o hb g=>(hs.2 b hb).trans g) f0 f1 f3 f4 f5
    exact⟨.ref qa,H,I1,by rw[hk]; rfl,⟨rfl,k,x,qa,hx,rfl,hq⟩,hit',fun b hb=>(hf b hb).1⟩
  done:=by
    intro X hP hw hK hc i pins s σ H E I hf st hg
    subst hP hw hK
    obtain⟨e,rfl⟩:=hg
    obtain⟨g,ex,sz,f⟩:=xff I e hdat
    obtain⟨f0,f1,f2,f3,f4,f5⟩:=hf it (by simp)
    rw[<- sz] at st
    exact xfl (I.ok.hd hc) st g ex hdat fun h' eb=>⟨rfl,I.turned (t':=s.toks) (fun b o hb e=>eb b o hb e) f0 f1 f3 f4 f5⟩
  self:=fun A i s Q E st h=>wpAny_pyIter_keyiter st h
theorem xi7 {P:Program}{w:World}{K:PySem.W.Frag}{elts:List Expr}{x1}{tpos:Pos} (d it:Addr) (o:Obj) (kvs:List (List Key × V)) (es:Array DictEntry) (ep:Nat) (hdat:o.data=.dict es ep) :
    Turn P w K (.Tuple elts x1 tpos) (Itit d o kvs) [it] it (fun i h=>∃ ok ov,IsItemIter h it d i es.size ep ok ov) where
  mem:=by simp
  obj:=fun i h st b hb=>by
    have e:b=it:=by simpa using hb
    subst e
    obtain⟨ok,ov,st⟩:=st
    exact⟨_,st,fun v z=>by
      have z':Data.fields _=Data.cell v:=z
      cases z'⟩
  keep:=fun i h h' ⟨ok,ov,st⟩ k=>⟨ok,ov,k it (by simp) _ st⟩
  item:=by
    intro X hP hw hK hc i pins s σ H E I hf st hg
    subst hP hw hK
    obtain⟨ok,ov,st⟩:=st
    obtain⟨e,lt⟩:=hg
    obtain⟨g,ex,sz,f⟩:=xff I e hdat
    obtain⟨f0,f1,f2,f3,f4,f5⟩:=hf it (by simp)
    obtain⟨⟨k,x⟩,q⟩:∃ y,kvs[i]=y:=⟨_,rfl⟩
    have hx:kvs[i]?=some (k,x):=by rw[List.getElem?_eq_getElem lt,q]
    obtain⟨qa,en,he,hk,hq,hr⟩:=f i k x hx
    refine xhl st g hdat he fun h' hout ht hz hkp=>?_
    refine⟨_,rfl,wpAny_letOwnedTupleGo_items hout fun h'' hit' hsb=>?_⟩
    have kk:∀ b o,b≠it->s.heap.get? b=some o->h''.get? b=some o:=fun b o hb g=>(hsb.2 b hb).trans (hkp b o hb g)
    have I1:Inv X pins σ H { s with heap:=h'' }:=I.turned (t':=s.toks) kk f0 f1 f3 f4 f5
    obtain⟨n0,nL,nC,nP⟩:=I.size_lt (Nat.le_refl s.heap.objs.size)
    have itlt:it<s.heap.objs.size:=Heap.lt_size st
    have pne:s.heap.objs.size≠it:=Nat.ne_of_gt itlt
    have hp:h''.get? s.heap.objs.size=some { cls:=.type "tuple",data:=.seq #[en.key,en.val] }:=(hsb.2 _ pne).trans ht
    refine⟨.ref s.heap.objs.size,upd H s.heap.objs.size (.tup [.ref qa,x]),I1.adopt n0 I.sz nL nC nP ⟨by show 2<=sizeLine; decide,[en.key,en.val],.cons (by rw[hk]; rfl) (.cons hr .nil),_,hp,rfl,_,rfl⟩,rfl,⟨_,k,x,qa,hx,hq,rfl,n0,rfl⟩,⟨_,_,hit'⟩,fun b hb=>?_⟩
    have e:b=it:=by simpa using hb
    subst e
    rw[xf (Ne.symm pne)]
    exact f0
  done:=by
    intro X hP hw hK hc i pins s σ H E I hf st hg
    subst hP hw hK
    obtain⟨ok,ov,st⟩:=st
    obtain⟨e,rfl⟩:=hg
    obtain⟨g,ex,sz,f⟩:=xff I e hdat
    obtain⟨f0,f1,f2,f3,f4,f5⟩:=hf it (by simp)
    rw[<- sz] at st
    exact xht (I.ok.hd hc) st g hdat fun h' eb=>⟨rfl,I.turned (t':=s.toks) (fun b o hb e=>eb b o hb e) f0 f1 f3 f4 f5⟩
  self:=fun _ _ _ _ _ ⟨ok,ov,st⟩ h=>PySem.W.kcp_self st h
def xp6 (X:Cx) (to:TE):TI:=fun σ H R=>to σ H fun x H1=>∃ d kvs,x=.ref d/\H1 d=some (.dT kvs)/\∀ ob,(∀ o' u',X.H₀ d≠some (.frz o' u'))->R (Itkt d ob kvs) (upd H1 d (.frz ob (.dT kvs)))
def xop (X:Cx) (to:TE):TI:=fun σ H R=>to σ H fun x H1=>∃ d kvs,x=.ref d/\H1 d=some (.dT kvs)/\∀ ob,(∀ o' u',X.H₀ d≠some (.frz o' u'))->R (Itit d ob kvs) (upd H1 d (.frz ob (.dT kvs)))
section
variable {X:Cx}{o:Expr}{to:TE}{tg:Expr}{elts:List Expr}{x1:_}{tpos apos cpos:Pos}
theorem xnk (ho:PE X o to):PI X tg o (xp6 X to):=by
 intro pins s σ H R I h
 refine thn (ho pins s σ H _ I h) fun v s1 ⟨x,H1,I1,r1,q1⟩=>?_
 obtain⟨d,kvs,e1,e,q⟩:=q1
 subst e1
 cases r1
 obtain⟨z,hd,xs,rel,ob,es,ep,g,ex,hdat,hes,hn⟩:=I1.hok d _ e
 refine xi5 hd g ex hdat ?_
 have I3:Inv X pins σ (upd H1 d (.frz ob (.dT kvs))) s1:=I1.write (t':=s1.toks) (x:=d) (e:=d) (by rw[e]; exact True.intro) (.inl rfl) (fun b u _ q=>q) ⟨ob,g⟩ ⟨g,(I1.hok d _ e).stay (fun c v _ q=>q) (fun c q=>by rw[xf (xp q e (fun z=>nomatch z))]; exact q) fun c xs q=>by rw[xf (xp q e (fun z=>nomatch z))]; exact q⟩
 have I4:Inv X pins σ (upd H1 d (.frz ob (.dT kvs))) { s1 with heap:=s1.heap.push { cls:=.type "dict_keyiterator",data:=.fields #[.ref d,.int 0 0,.int es.size 0,.int ep 0] } } :=
  I3.kept (t':=s1.toks) fun b o e=>Heap.get?_push_of_some _ e
 refine⟨s1.heap.objs.size,[s1.heap.objs.size],_,_,upd H1 d (.frz ob (.dT kvs)),rfl,I4,xkr d _ ob kvs es ep hdat,⟨_,Heap.get?_push_size _ rfl,rfl,rfl⟩,fun b hb=>?_,q ob (I1.nofrzT e)⟩
 have eb:b=s1.heap.objs.size:=by simpa using hb
 subst eb
 exact I3.fpOk (Nat.le_refl _) (I3.hok.fresh (Nat.le_refl _))
theorem xl1 (ho:PE X o to) (hbase:attributeBase o "items" X.env (eval o X.env)=eval o X.env:=by rfl) (hline:(apos.endLine == cpos.line)=true:=by rfl) :
    PI X (.Tuple elts x1 tpos) (.Call (.Attribute o "items" apos) [] [] cpos) (xop X to):=by
  intro pins s σ H R I h
  refine wpAny_Call_method0_late hbase hline (thn (ho pins s σ H _ I h) fun v s1 ⟨x,H1,I1,r1,q1⟩=>?_)
  obtain⟨d,kvs,e1,e,q⟩:=q1
  subst e1
  cases r1
  obtain⟨z,hd,xs,rel,ob,es,ep,g,ex,hdat,hes,hn⟩:=I1.hok d _ e
  have ti:s1.TypeIs (.ref d) "dict":=⟨ob,g,ex.1⟩
  refine⟨"dict", "dict.items",PySem.F.plainAttrs_dict,PySem.F.slot_dict_items,PySem.F.type_dict_items,ti,fun a e2=>?_,Calls.callWith_builtin rfl (PySem.evalArgs_none ?_)⟩
  . cases e2
    exact⟨ob,g,ex.2.1⟩
  refine call_meetsIn PySem.F.slot_dict_items ti PySem.F.entry_dict_items (PySem.F.args_dict_items_1 _) (xis d hd) ⟨ti,?_⟩
  refine xle (s:={ s1 with heap:=s1.heap.push { cls:=.type "dict_items",data:=.fields #[.ref d] } }) (Heap.get?_push_size _ rfl) (Heap.get?_push_of_some _ g) hdat ?_
  have I2:Inv X pins σ H1 { s1 with heap:=s1.heap.push { cls:=.type "dict_items",data:=.fields #[.ref d] } }:=I1.kept (t':=s1.toks) fun b o e=>Heap.get?_push_of_some _ e
  generalize hs2:({ s1 with heap:=s1.heap.push { cls:=.type "dict_items",data:=.fields #[.ref d] } }:Shared)=s2 at I2
  have g2:s2.heap.get? d=some ob:=by rw[<- hs2]; exact Heap.get?_push_of_some _ g
  have I3:Inv X pins σ (upd H1 d (.frz ob (.dT kvs))) s2:=I2.write (t':=s2.toks) (x:=d) (e:=d) (by rw[e]; exact True.intro) (.inl rfl) (fun b u _ q=>q) ⟨ob,g2⟩ ⟨g2,(I2.hok d _ e).stay (fun c v _ q=>q) (fun c q=>by rw[xf (xp q e (fun z=>nomatch z))]; exact q) fun c xs q=>by rw[xf (xp q e (fun z=>nomatch z))]; exact q⟩
  have I4:Inv X pins σ (upd H1 d (.frz ob (.dT kvs))) { s2 with heap:=s2.heap.push { cls:=.type "dict_itemiterator",data:=.fields #[.none,.bool false,.ref d,.int 0 0,.int es.size 0,.int ep 0,.none,.none] } } :=
    I3.kept (t':=s2.toks) fun b o e=>Heap.get?_push_of_some _ e
  have fin:PIE X pins σ (.Tuple elts x1 tpos) R (.ref s2.heap.objs.size) { s2 with heap:=s2.heap.push { cls:=.type "dict_itemiterator",data:=.fields #[.none,.bool false,.ref d,.int 0 0,.int es.size 0,.int ep 0,.none,.none] } }:=by
    refine⟨s2.heap.objs.size,[s2.heap.objs.size],_,_,upd H1 d (.frz ob (.dT kvs)),rfl,I4,xi7 d _ ob kvs es ep hdat,⟨.none,.none,Heap.get?_push_size _ rfl⟩,fun b hb=>?_,q ob (I1.nofrzT e)⟩
    have eb:b=s2.heap.objs.size:=by simpa using hb
    subst eb
    exact I3.fpOk (Nat.le_refl _) (I3.hok.fresh (Nat.le_refl _))
  exact fin
def xrp (X:Cx) (t:TS):TS:=fun D σ H=>t { D with nx:=fun σ' H'=>∃ d ob u,H' d=some (.frz ob u)/\(∀ o' u',X.H₀ d≠some (.frz o' u'))/\D.nx σ' (upd H' d u) } σ H
theorem xj2 {st:Stmt}{t:TS} (h:PS X st t):PS X st (xrp X t):=by
 intro pins s σ H D I q
 refine thn (h pins s σ H _ I q) fun fl s1 z=>?_
 cases fl with
 | next =>
  obtain⟨σ',H',I',d,ob,u,e,nf,r⟩:=z
  exact⟨σ',_,I'.thaw e nf,r⟩
 | _=>exact z
end
section
variable {d:Addr}{ob:Obj}{kvs:List (List Key × V)}{g:TG}{tb:TS}{D:Ends}{σ:St}{H:Hp}
theorem xk5 (Pv:Nat->St->Hp->Prop) (h0:Pv 0 σ H) (hl:∀ i σ H,i<=kvs.length->Pv i σ H->H d=some (.frz ob (.dT kvs)))
    (hs:∀ i k x q σ H,kvs[i]?=some (k,x)->H q=some (.tup (k.map kV))->Pv i σ H->g (.ref q) σ H fun σ2 H2=>tb { D with nx:=Pv (i+1),ct:=Pv (i+1),bk:=D.nx } σ2 H2) (hd:∀ σ H,Pv kvs.length σ H->D.nx σ H) :
    ∃ W:Nat->Nat->St->Hp->Prop,(∃ m,W 0 m σ H)/\∀ i m σ H,W i m σ H ->
      ((Itkt d ob kvs).stop i H/\D.nx σ H)\/((Itkt d ob kvs).go i H/\∃ N:St->Hp->Prop,(∀ σ' H',N σ' H'->∃ m',m'<m/\W (i+1) m' σ' H')/\∀ x H',(Itkt d ob kvs).yld i H x H'->g x σ H' fun σ2 H2=>tb { D with nx:=N,ct:=N,bk:=D.nx } σ2 H2):=by
  refine⟨fun i m σ H=>m=kvs.length-i/\i<=kvs.length/\Pv i σ H,⟨kvs.length,by simp,Nat.zero_le _,h0⟩,?_⟩
  rintro i m σ H ⟨rfl,hi,p⟩
  have q:=hl i σ H hi p
  by_cases hlt:i<kvs.length
  . refine .inr ⟨⟨q,hlt⟩,Pv (i+1),fun σ' H' p'=>⟨kvs.length-(i+1),by omega,rfl,hlt,p'⟩,fun x H' y=>?_⟩
    obtain⟨rfl,k,x',qa,e1,rfl,hr⟩:=y
    exact hs i k x' qa σ H' e1 hr p
  . have e:i=kvs.length:=by omega
    subst e
    exact .inl ⟨⟨q,rfl⟩,hd σ H p⟩
theorem xkh (Pv:Nat->St->Hp->Prop) (h0:Pv 0 σ H) (hl:∀ i σ H,i<=kvs.length->Pv i σ H->H d=some (.frz ob (.dT kvs)))
    (hs:∀ i k x q p σ H,kvs[i]?=some (k,x)->H q=some (.tup (k.map kV))->H p=none->Pv i σ H->g (.ref p) σ (upd H p (.tup [.ref q,x])) fun σ2 H2=>tb { D with nx:=Pv (i+1),ct:=Pv (i+1),bk:=D.nx } σ2 H2) (hd:∀ σ H,Pv kvs.length σ H->D.nx σ H) :
    ∃ W:Nat->Nat->St->Hp->Prop,(∃ m,W 0 m σ H)/\∀ i m σ H,W i m σ H ->
      ((Itit d ob kvs).stop i H/\D.nx σ H)\/((Itit d ob kvs).go i H/\∃ N:St->Hp->Prop,(∀ σ' H',N σ' H'->∃ m',m'<m/\W (i+1) m' σ' H')/\∀ x H',(Itit d ob kvs).yld i H x H'->g x σ H' fun σ2 H2=>tb { D with nx:=N,ct:=N,bk:=D.nx } σ2 H2):=by
  refine⟨fun i m σ H=>m=kvs.length-i/\i<=kvs.length/\Pv i σ H,⟨kvs.length,by simp,Nat.zero_le _,h0⟩,?_⟩
  rintro i m σ H ⟨rfl,hi,p⟩
  have q:=hl i σ H hi p
  by_cases hlt:i<kvs.length
  . refine .inr ⟨⟨q,hlt⟩,Pv (i+1),fun σ' H' p'=>⟨kvs.length-(i+1),by omega,rfl,hlt,p'⟩,fun x H' y=>?_⟩
    obtain⟨pa,k,x',qa,e1,hr,rfl,hn,rfl⟩:=y
    exact hs i k x' qa pa σ H e1 hr hn p
  . have e:i=kvs.length:=by omega
    subst e
    exact .inl ⟨⟨q,rfl⟩,hd σ H p⟩
end
def xq3 (to:TE):TE:=fun σ H Q=>to σ H fun x H1=>∃ d kvs,x=.ref d/\H1 d=some (.dK kvs)/\∀ l,H1 l=none->Q (.ref l) (upd H1 l (.lst (kvs.map (·.2))))
section
variable {X:Cx}{o:Expr}{to:TE}{apos cpos p pos:Pos}
theorem xi8 (hc:X.calm=true) (hg:Gl X "list") (hm:X.mg "list"=none) (ho:PE X o to) (hbase:attributeBase o "values" X.env (eval o X.env)=eval o X.env:=by rfl) (hline:(apos.endLine == cpos.line)=true:=by rfl)
    (hs3:starEach [.Call (.Attribute o "values" apos) [] [] cpos] X.env=[(false,eval (.Call (.Attribute o "values" apos) [] [] cpos) X.env)]:=by rfl) :
    PE X (.Call (.Name "list" p) [.Call (.Attribute o "values" apos) [] [] cpos] [] pos) (xq3 to):=by
  intro pins s σ H Q I h
  refine wpAny_Call_Name_kw (xc8 I hg hm PyProof.Rows.Boot.«list» ?_)
  refine PyProof.Rows.callWith_type1 ?_ (by rw[hs3]; rfl) rfl
  rw[hs3]
  show wpAny _ _ (spliced ((false,eval (.Call (.Attribute o "values" apos) [] [] cpos) X.env)::backTo pos [])) _ _ s
  refine Calls.spliced_cons ?_
  refine wpAny_Call_method0_late hbase hline (thn (ho pins s σ H _ I h) fun v s1 ⟨x,H1,I1,r1,q1⟩=>?_)
  obtain⟨d,kvs,e1,e,q⟩:=q1
  subst e1
  cases r1
  obtain⟨z,hd,vs,rel,dd⟩:=xhq I1.hok e
  obtain⟨ob,es,ep,g,ex,hdat,hk,hp,hn⟩:=id dd
  refine⟨"dict", "dict.values",PySem.F.plainAttrs_dict,PySem.F.slot_dict_values,PySem.F.type_dict_values,dd.typeIs,fun a e2=>?_,Calls.callWith_builtin rfl (PySem.evalArgs_none ?_)⟩
  . cases e2
    exact⟨ob,g,ex.2.1⟩
  refine call_meetsIn PySem.F.slot_dict_values dd.typeIs PySem.F.entry_dict_values (PySem.F.args_dict_values_1 _) (meets_dict_values (xan X.prog X.w) d hd) ⟨⟨vs,dd⟩,?_⟩
  refine Calls.spliced_nil ?_
  have da:(s1.heap.push { cls:=.type "dict_values",data:=.fields #[.ref d] }).DictAt (xan X.prog X.w) d vs ep:=⟨ob,es,Heap.get?_push_of_some _ g,ex,hdat,hk,hp,hn⟩
  have vv:(s1.heap.push { cls:=.type "dict_values",data:=.fields #[.ref d] }).IsValuesView s1.heap.objs.size d:=⟨_,Heap.get?_push_size _ rfl,rfl,rfl⟩
  have I2:Inv X pins σ H1 { s1 with heap:=s1.heap.push { cls:=.type "dict_values",data:=.fields #[.ref d] } }:=I1.kept (t':=s1.toks) fun b o e=>Heap.get?_push_of_some _ e
  generalize hs2:({ s1 with heap:=s1.heap.push { cls:=.type "dict_values",data:=.fields #[.ref d] } }:Shared)=s2 at I2
  have da2:s2.heap.DictAt (xan X.prog X.w) d vs ep:=by rw[<- hs2]; exact da
  have vv2:s2.heap.IsValuesView s1.heap.objs.size d:=by rw[<- hs2]; exact vv
  have hl:kvs.length=vs.length:=rel.length
  refine kdl_call (kdl_values (kvs:=vs) (ep:=ep)) (I.ok.hd hc) ⟨vv2,da2⟩ (by rw[<- hl]; exact z) fun h' tk acc c hk' hS' hacc=>?_
  have I3:Inv X pins σ H1 { s2 with heap:=h',toks:=tk }:=I2.kept hk'
  obtain⟨n0,nL,nC,nP⟩:=I2.size_lt (Nat.le_refl s2.heap.objs.size)
  have e1:acc.toList.length=(kvs.map (·.2)).length:=by rw[List.length_map,hl]; simpa using hacc.1
  refine⟨.ref s2.heap.objs.size,_,I3.adopt n0 I2.sz nL nC nP (show xaw X.prog X.w _ h' _ (.lst (kvs.map (·.2))) from ⟨by rw[List.length_map]; exact z,acc.toList,c,xfg e1 fun j y u ey eu=>?_,by simpa using hS'⟩),rfl,q _ n0⟩
  have eu':acc[j]?=some u:=by simpa using eu
  obtain⟨k,hv⟩:=hacc.2 j u eu'
  rw[List.getElem?_map,Option.map_eq_some_iff] at ey
  obtain⟨⟨k',y'⟩,ey,rfl⟩:=ey
  obtain⟨u',hu',ru'⟩:=rel.get ey
  rw[hv] at hu'
  cases hu'
  exact ru'
end
theorem xix {prog:Program}{w:World}{A:Around}{E:Value->Shared->Prop}{s:Shared}{it d:Addr}{i ep:Nat}{o:Obj}{es:Array DictEntry}{en:DictEntry}{Q:Option Value->Shared->Prop}
    (st:s.heap.IsValIter it d i es.size ep) (hd:s.heap.get? d=some o) (hdat:o.data=.dict es ep) (hi:es[i]?=some en)
    (h:∀ h',h'.IsValIter it d (i+1) es.size ep->Heap.SameBut it s.heap h'->Q (some en.val) { s with heap:=h' }):wpAny (model prog w) A (pyNext (.ref it)) Q E s:=by
  unfold pyNext
  refine wpAny_bind (wpAny_attempt (wpAny_callSpecial?_slot st.typeIs F.slot_dict_valueiterator_next ?_))
  refine wpAny_call_entry F.slot_dict_valueiterator_next st.typeIs F.entry_dict_valueiterator_next ?_ (F.args_dict_valueiterator_next_1 _)
  have ti:=st.typeIs
  obtain⟨hp,g,dr,tk,os⟩:=s
  obtain⟨⟨c,dct,dat,sl⟩,hit,ci,di⟩:=st
  simp only at ci di
  subst ci di
  unfold Builtin.«dict_valueiterator.__next__»
  repeat (any_goals (first|assumption|(with_reducible refine wpAny_typeNameOfWhole_valiter ti ?_)|(with_reducible refine wpAny_isOneOf_valiter ti ?_)|(with_reducible refine wpAny_dictEntries hd hdat ?_)|(with_reducible refine wpAny_dictEpoch hd hdat ?_)|wp_step))
  have e1:(if (i:Int)<0 then none else es[(i:Int).toNat]?)=some en:=by
    rw[if_neg (by omega),Int.toNat_natCast]
    exact hi
  rw[e1]
  repeat (any_goals (first|assumption|(with_reducible refine wpAny_typeNameOfWhole_valiter ti ?_)|(with_reducible refine wpAny_isOneOf_valiter ti ?_)|(with_reducible refine wpAny_dictEntries hd hdat ?_)|(with_reducible refine wpAny_dictEpoch hd hdat ?_)|wp_step))
  refine⟨_,rfl,wpAny_pure (h _ ?_ (Heap.SameBut.update _ _ _))⟩
  refine⟨_,Heap.get?_update_self _ hit rfl,rfl,?_⟩
  rfl
theorem xjd {prog:Program}{w:World}{A:Around}{E:Value->Shared->Prop}{s:Shared}{it d:Addr}{ep:Nat}{o:Obj}{es:Array DictEntry}{Q:Option Value->Shared->Prop}
    (hA:A.handled=none) (st:s.heap.IsValIter it d es.size es.size ep) (hd:s.heap.get? d=some o) (hdat:o.data=.dict es ep)
    (h:∀ h',Heap.ExtBut it s.heap h'->Q none { s with heap:=h' }):wpAny (model prog w) A (pyNext (.ref it)) Q E s:=by
  unfold pyNext
  refine wpAny_bind (wpAny_attempt (wpAny_callSpecial?_slot st.typeIs F.slot_dict_valueiterator_next ?_))
  refine wpAny_call_entry F.slot_dict_valueiterator_next st.typeIs F.entry_dict_valueiterator_next ?_ (F.args_dict_valueiterator_next_1 _)
  have ti:=st.typeIs
  obtain⟨hp,g,dr,tk,os⟩:=s
  obtain⟨⟨c,dct,dat,sl⟩,hit,ci,di⟩:=st
  simp only at ci di
  subst ci di
  unfold Builtin.«dict_valueiterator.__next__»
  repeat (any_goals (first|assumption|(with_reducible refine wpAny_typeNameOfWhole_valiter ti ?_)|(with_reducible refine wpAny_isOneOf_valiter ti ?_)|(with_reducible refine wpAny_dictEntries hd hdat ?_)|(with_reducible refine wpAny_dictEpoch hd hdat ?_)|wp_step))
  have e1:(if (es.size:Int)<0 then none else es[(es.size:Int).toNat]?)=none:=by
    rw[if_neg (by omega),Int.toNat_natCast]
    simp
  rw[e1]
  repeat (any_goals (first|assumption|(with_reducible refine wpAny_typeNameOfWhole_valiter ti ?_)|(with_reducible refine wpAny_isOneOf_valiter ti ?_)|(with_reducible refine wpAny_dictEntries hd hdat ?_)|(with_reducible refine wpAny_dictEpoch hd hdat ?_)|wp_step))
  refine wpAny_raiseNew_none hA ?_
  refine wpAny_bind (wpAny_isInstance ⟨_,Heap.get?_push_size _ rfl,rfl⟩ isSubtype_stop (wpAny_pure (h _ fun b o nb e=>?_)))
  refine Heap.get?_push_of_some _ (Heap.get?_push_of_some _ ?_)
  rw[Heap.get?_update_other _ _ (Ne.symm nb)]
  exact e
theorem xm4 {prog:Program}{w:World}{A:Around}{E:Value->Shared->Prop}{s:Shared}{v d:Addr}{ep:Nat}{o:Obj}{es:Array DictEntry}{Q:Value->Shared->Prop}
    (hv:s.heap.get? v=some { cls:=.type "dict_values",data:=.fields #[.ref d] }) (hd:s.heap.get? d=some o) (hdat:o.data=.dict es ep)
    (h:Q (.ref s.heap.objs.size) { s with heap:=s.heap.push { cls:=.type "dict_valueiterator",data:=.fields #[.ref d,.int 0 0,.int es.size 0,.int ep 0] } }):wpAny (model prog w) A (pyIter (.ref v)) Q E s:=by
  have ti:s.TypeIs (.ref v) "dict_values":=⟨_,hv,rfl⟩
  refine wpAny_pyIter_slot ti F.slot_dict_values_iter ?_
  refine wpAny_call_entry F.slot_dict_values_iter ti F.entry_dict_values_iter ?_ (F.args_dict_values_iter_1 _)
  obtain⟨hp,g,dr,tk,os⟩:=s
  unfold Builtin.«dict_values.__iter__»
  repeat (any_goals (first|assumption|(with_reducible refine wpAny_dictEntries hd hdat ?_)|(with_reducible refine wpAny_dictEpoch hd hdat ?_)|wp_step))
  exact⟨_,rfl,_,_,⟨_,Heap.get?_push_size _ rfl,rfl⟩,F.slot_dict_valueiterator_next.lookup,h⟩
theorem xhk {prog:Program}{w:World} (d:Addr) (hd:(d == sysModules)=false) :
    MeetsIn prog w (Builtin.«dict.values» ⟨[.ref d],[]⟩) (fun _ R s=>s.TypeIs (.ref d) "dict" /\
      R (.ok (.ret (.ref s.heap.objs.size))) { s with heap:=s.heap.push { cls:=.type "dict_values",data:=.fields #[.ref d] } }) :=
  .of_wp fun A R s ⟨ti,h⟩=>by
    refine wpAny_bind ?_
    unfold Builtin.Dict.noArgs
    refine wpAny_bind <| wpAny_notOrdered_dict ti ?_
    show wpAny _ _ (pure d) _ _ s
    refine wpAny_pure ?_
    show wpAny _ _ (Builtin.Dict.showsAll d>>=_) _ _ s
    unfold Builtin.Dict.showsAll
    rw[if_neg (by rw[hd]; exact Bool.false_ne_true)]
    exact wpAny_bind <| wpAny_pure <| wpAny_bind <| wpAny_newObj_type <| wpAny_pure ⟨_,rfl,h⟩
theorem xnu {prog:Program}{w:World}{r d:Addr}{ep:Nat}{o:Obj}{es:Array DictEntry} (hdat:o.data=.dict es ep) :
    KdlSrc prog w "dict_values" r d es.size (fun i v=>∃ en,es[i]?=some en/\v=en.val) (fun h=>h.get? r=some { cls:=.type "dict_values",data:=.fields #[.ref d] }/\h.get? d=some o) where
  type:=fun s h=>⟨_,h.1,rfl⟩
  there:=fun h e=>⟨Heap.lt_size e.1,Heap.lt_size e.2⟩
  keep:=fun h h' e k=>⟨k r (.inl rfl) _ e.1,k d (.inr rfl) o e.2⟩
  notList:=by decide
  notTuple:=by decide
  hint:=fun A E s Q h q=>kdl_hint_values ⟨_,h.1,rfl⟩ q
  iter:=fun A s hA h=>by
    have dl:=Heap.lt_size h.2
    refine⟨{ cls:=.type "dict_valueiterator",data:=.fields #[.ref d,.int 0 0,.int es.size 0,.int ep 0] },fun i h=>h.IsValIter s.heap.objs.size d i es.size ep/\h.get? d=some o,fun E Q q=>xm4 h.1 h.2 hdat q,?_,⟨_,Heap.get?_push_size _ rfl,rfl,rfl⟩,Heap.get?_push_of_some _ h.2⟩
    have dn:d≠s.heap.objs.size:=Nat.ne_of_lt dl
    exact {
      sub:=fun b hb=>by
        have e:b=s.heap.objs.size:=by simpa using hb
        rw[e]
        simp
      frame:=fun i h h' st k=>⟨let ⟨o1,e1,r1⟩:=st.1; ⟨o1,k _ (by simp) _ e1,r1⟩,k _ (by simp) _ st.2⟩
      item:=fun i s' Q E hi st q=>by
        refine xix st.1 st.2 hdat (Array.getElem?_eq_getElem hi) fun h' st' sb=>q _ h' s'.toks ⟨_,Array.getElem?_eq_getElem hi,rfl⟩ ⟨st',(sb.2 d dn).trans st.2⟩ fun b o hb e=>?_
        exact (sb.2 b (by simpa using hb)).trans e
      done:=fun s' Q E st q=>by
        refine xjd hA st.1 st.2 hdat fun h' eb=>q h' s'.toks fun b o hb e=>?_
        exact eb b o (by simpa using hb) e
      self:=fun i s' Q E st q=>wpAny_pyIter_valiter st.1 q }
def xou (to:TE):TE:=fun σ H Q=>to σ H fun x H1=>∃ d kvs,x=.ref d/\H1 d=some (.dT kvs)/\∀ l,H1 l=none->Q (.ref l) (upd H1 l (.lst (kvs.map (·.2))))
section
variable {X:Cx}{o:Expr}{to:TE}{apos cpos p pos:Pos}
theorem xi3 (hc:X.calm=true) (hg:Gl X "list") (hm:X.mg "list"=none) (ho:PE X o to) (hbase:attributeBase o "values" X.env (eval o X.env)=eval o X.env:=by rfl) (hline:(apos.endLine == cpos.line)=true:=by rfl)
    (hs3:starEach [.Call (.Attribute o "values" apos) [] [] cpos] X.env=[(false,eval (.Call (.Attribute o "values" apos) [] [] cpos) X.env)]:=by rfl) :
    PE X (.Call (.Name "list" p) [.Call (.Attribute o "values" apos) [] [] cpos] [] pos) (xou to):=by
  intro pins s σ H Q I h
  refine wpAny_Call_Name_kw (xc8 I hg hm PyProof.Rows.Boot.«list» ?_)
  refine PyProof.Rows.callWith_type1 ?_ (by rw[hs3]; rfl) rfl
  rw[hs3]
  show wpAny _ _ (spliced ((false,eval (.Call (.Attribute o "values" apos) [] [] cpos) X.env)::backTo pos [])) _ _ s
  refine Calls.spliced_cons ?_
  refine wpAny_Call_method0_late hbase hline (thn (ho pins s σ H _ I h) fun v s1 ⟨x,H1,I1,r1,q1⟩=>?_)
  obtain⟨d,kvs,e1,e,q⟩:=q1
  subst e1
  cases r1
  obtain⟨z,hd,xs,rel,ob,es,ep,g,ex,hdat,hes,hn⟩:=I1.hok d _ e
  have ti:s1.TypeIs (.ref d) "dict":=⟨ob,g,ex.1⟩
  refine⟨"dict", "dict.values",PySem.F.plainAttrs_dict,PySem.F.slot_dict_values,PySem.F.type_dict_values,ti,fun a e2=>?_,Calls.callWith_builtin rfl (PySem.evalArgs_none ?_)⟩
  . cases e2
    exact⟨ob,g,ex.2.1⟩
  refine call_meetsIn PySem.F.slot_dict_values ti PySem.F.entry_dict_values (PySem.F.args_dict_values_1 _) (xhk d hd) ⟨ti,?_⟩
  refine Calls.spliced_nil ?_
  have I2:Inv X pins σ H1 { s1 with heap:=s1.heap.push { cls:=.type "dict_values",data:=.fields #[.ref d] } }:=I1.kept (t':=s1.toks) fun b o e=>Heap.get?_push_of_some _ e
  have g2:(s1.heap.push { cls:=.type "dict_values",data:=.fields #[.ref d] }).get? d=some ob:=Heap.get?_push_of_some _ g
  have v2:(s1.heap.push { cls:=.type "dict_values",data:=.fields #[.ref d] }).get? s1.heap.objs.size=some { cls:=.type "dict_values",data:=.fields #[.ref d] }:=Heap.get?_push_size _ rfl
  generalize hs2:({ s1 with heap:=s1.heap.push { cls:=.type "dict_values",data:=.fields #[.ref d] } }:Shared)=s2 at I2
  have g3:s2.heap.get? d=some ob:=by rw[<- hs2]; exact g2
  have v3:s2.heap.get? s1.heap.objs.size=some { cls:=.type "dict_values",data:=.fields #[.ref d] }:=by rw[<- hs2]; exact v2
  have ln:=Paired.length rel
  have esz:es.size=kvs.length:=by rw[<- Array.length_toList,hes,List.length_map,ln]
  refine kdl_call (xnu (r:=s1.heap.objs.size) hdat) (I.ok.hd hc) ⟨v3,g3⟩ (by rw[esz]; exact z) fun h' tk acc c hk' hS' hacc=>?_
  have I3:Inv X pins σ H1 { s2 with heap:=h',toks:=tk }:=I2.kept hk'
  obtain⟨n0,nL,nC,nP⟩:=I2.size_lt (Nat.le_refl s2.heap.objs.size)
  have e1:acc.toList.length=(kvs.map (·.2)).length:=by rw[List.length_map,<- esz]; simpa using hacc.1
  refine⟨.ref s2.heap.objs.size,_,I3.adopt n0 I2.sz nL nC nP (show xaw X.prog X.w _ h' _ (.lst (kvs.map (·.2))) from ⟨by rw[List.length_map]; exact z,acc.toList,c,xfg e1 fun j y u ey eu=>?_,by simpa using hS'⟩),rfl,q _ n0⟩
  have eu':acc[j]?=some u:=by simpa using eu
  obtain⟨en,he,hv⟩:=hacc.2 j u eu'
  rw[List.getElem?_map,Option.map_eq_some_iff] at ey
  obtain⟨⟨k',y'⟩,ey,rfl⟩:=ey
  obtain⟨qa,u',hu',_,ru'⟩:=xih rel ey
  rw[<- Array.getElem?_toList,hes,List.getElem?_map,hu'] at he
  cases he
  rw[hv]
  exact ru'
end
section
variable {X:Cx}{o e:Expr}{es:List Expr}{to:TE}{t:TA}{name:Str}{apos cpos:Pos}{T id:String}{r:V->List V->Hp->VK->Prop}
theorem xqp {K:PySem.W.Frag} (hk:X.K=K) (pa:PlainAttrs T) (slot:Slot T name id) (hty:typeOf (.builtin id)=pure (.type "method_descriptor")) (hm:MtR X id r) (ho:PE X o to) (ha:PA X (e::es) t)
    (hbase:attributeBase o name X.env (eval o X.env)=eval o X.env:=by rfl)
    (hfew:((backTo cpos (starEach (e::es) X.env)).all (fun x=>!x.1)&&(backToKw cpos (keywordEach [] X.env)).all (fun x=>x.1.isSome)
      && decide ((e::es).length+([]:List Keyword).length+(if ([]:List Keyword).isEmpty then 0 else 1)<30))=true:=by rfl)
    (hline:(apos.endLine == cpos.line)=true:=by rfl) (hs:starEach (e::es) X.env=(false,eval e X.env)::starEach es X.env:=by rfl) (hplain:(backTo cpos (starEach es X.env)).any (·.1)=false:=by rfl) :
    PE X (.Call (.Attribute o name apos) (e::es) [] cpos) (tBM K T r to t):=by
  subst hk
  exact xfb pa slot hty hm ho ha hbase hfew hline hs hplain
end
end L2
namespace Geo
def dn (y r:Int):Int:=if y<r then 1 else -1
def upN (y r:Int):Nat:=if y<r then (r-y).toNat else (y-r).toNat
def wayI (b:Bool):Int:=if b then -1 else 1
def lvN (w x:Int) (b:Bool):Nat:=if b then (x+1).toNat else (w+2-x).toNat
def upL (x y r:Int):List (Int × Int):=(List.range (upN y r)).map fun (i:Nat)=>(x,y+(i:Int)*dn y r)
def lvL (w x:Int) (b:Bool) (r:Int):List (Int × Int):=(List.range (lvN w x b)).map fun (i:Nat)=>(x+(i:Int)*wayI b,r)
def cells (w x y:Int) (b:Bool) (r:Int):List (Int × Int):=upL x y r++lvL w x b r
def btw (v a b:Int):Prop:=min a b<=v/\v<=max a b
instance (v a b:Int):Decidable (btw v a b):=inferInstanceAs (Decidable (_/\_))
theorem erase_ok {ls:List Int}{k:Nat}{y:Int} (nd:ls.Nodup) (h:ls[k]?=some y):(ls.eraseIdx k).Nodup/\y∉ls.eraseIdx k/\(∀ z∈ls.eraseIdx k,z∈ls)/\y∈ls:=by
 obtain⟨hk,hy⟩:=List.getElem?_eq_some_iff.mp h
 have e:ls.take k++y::ls.drop (k+1)=ls:=by
  rw[<- hy,List.getElem_cons_drop,List.take_append_drop]
 have e2:ls.eraseIdx k=ls.take k++ls.drop (k+1):=List.eraseIdx_eq_take_drop_succ ls k
 have nd2:=nd
 rw[<- e,List.nodup_append,List.nodup_cons] at nd2
 obtain⟨n1,⟨n2,n3⟩,n4⟩:=nd2
 refine⟨?_,?_,fun z hz=>List.mem_of_mem_eraseIdx hz,hy▸List.getElem_mem hk⟩
 .rw [e2,List.nodup_append]
  exact⟨n1,n3,fun a ha b hb=>n4 a ha b (List.mem_cons_of_mem _ hb)⟩
 .rw [e2,List.mem_append]
  rintro (z|z)
  .exact n4 _ z _ List.mem_cons_self rfl
  .exact n2 z
end Geo
namespace Drw
variable {S:Type}
end Drw
namespace Kp
section
variable {N S:Type} [DecidableEq N] [DecidableEq S]
structure Mt (room:N->List S) (so:N->Option S) (ho:S->Option N):Prop where
 iff:∀ n s,so n=some s↔ho s=some n
 rm:∀ n s,so n=some s->s∈room n
theorem Mt.inj {room:N->List S}{so:N->Option S}{ho:S->Option N} (m:Mt room so ho) {a b:N}{s:S} (ha:so a=some s) (hb:so b=some s):a=b:=by
 have x:=(m.iff a s).mp ha
 rw[(m.iff b s).mp hb] at x
 exact (Option.some.inj x).symm
theorem xdy {so:N->Option S}:∀{T:List N},T.Nodup->(∀ a∈T,∀ b∈T,∀ s,so a=some s->so b=some s->a=b)->(T.filterMap so).Nodup
 | [],_,_=>List.nodup_nil
 | a::T,nd,inj=>by
  rw[List.nodup_cons] at nd
  have ih:=xdy nd.2 fun x hx y hy=>inj x (List.mem_cons_of_mem _ hx) y (List.mem_cons_of_mem _ hy)
  rw[List.filterMap_cons]
  cases e:so a with
  | none=>exact ih
  | some s =>
   refine List.nodup_cons.mpr ⟨fun z=>?_,ih⟩
   obtain⟨b,hb,eb⟩:=List.mem_filterMap.mp z
   rw[inj a (List.mem_cons_self ..) b (List.mem_cons_of_mem _ hb) s e eb] at nd
   exact nd.1 hb
theorem xcn {so:N->Option S}:∀{T:List N},(∀ a∈T,(so a).isSome)->(T.filterMap so).length=T.length
 | [],_=>rfl
 | a::T,h=>by
  rw[List.filterMap_cons]
  cases e:so a with
  | none =>
   have:=h a (List.mem_cons_self ..)
   rw[e] at this
   cases this
  | some s =>
   show (s::T.filterMap so).length=_
   rw[List.length_cons,List.length_cons,xcn fun b hb=>h b (List.mem_cons_of_mem _ hb)]
def tog (room:N->List S) (T:List N) (s:S):Bool:=T.any fun n=>decide (s∈room n)
theorem hall {room:N->List S}{so:N->Option S}{ho:S->Option N} (m:Mt room so ho) {ss:List S} (hr:∀ n s,s∈room n->s∈ss) {T:List N} (nd:T.Nodup) (h:∀ a∈T,(so a).isSome):T.length<=ss.countP (tog room T):=by
 rw[List.countP_eq_length_filter,<- xcn h]
 refine List.Nodup.length_le_of_subset (xdy nd fun a _ b _ s ha hb=>m.inj ha hb) fun s hs=>?_
 obtain⟨n,hn,e⟩:=List.mem_filterMap.mp hs
 have r:=m.rm n s e
 exact List.mem_filter.mpr ⟨hr n s r,List.any_eq_true.mpr ⟨n,hn,decide_eq_true r⟩⟩
structure Crowd (room:N->List S) (so:N->Option S) (name:N) (hs:List N):Prop where
 nd:(name::hs).Nodup
 has:∀ h∈hs,(so h).isSome
 all:∀ c∈name::hs,∀ s∈room c,∃ h∈hs,so h=some s
theorem Crowd.count {room:N->List S}{so:N->Option S}{ho:S->Option N} (m:Mt room so ho) {name:N}{hs:List N} (c:Crowd room so name hs) {ss:List S} (nd:ss.Nodup) (hr:∀ n s,s∈room n->s∈ss):ss.countP (tog room (name::hs))=hs.length:=by
 rw[List.countP_eq_length_filter]
 have ndh:=(List.nodup_cons.mp c.nd).2
 refine Nat.le_antisymm ?_ ?_
 .rw [<- xcn c.has]
  refine List.Nodup.length_le_of_subset (List.Pairwise.filter _ nd) fun s hs'=>?_
  obtain⟨n,hn,e⟩:=List.any_eq_true.mp (List.mem_filter.mp hs').2
  obtain⟨h,hh,e'⟩:=c.all n hn s (of_decide_eq_true e)
  exact List.mem_filterMap.mpr ⟨h,hh,e'⟩
 .rw [<- xcn c.has]
  refine List.Nodup.length_le_of_subset (xdy ndh fun a _ b _ s ha hb=>m.inj ha hb) fun s hs'=>?_
  obtain⟨n,hn,e⟩:=List.mem_filterMap.mp hs'
  have r:=m.rm n s e
  exact List.mem_filter.mpr ⟨hr n s r,List.any_eq_true.mpr ⟨n,List.mem_cons_of_mem _ hn,decide_eq_true r⟩⟩
def upd1 {α β:Type} [DecidableEq α] (f:α->Option β) (a:α) (b:β):α->Option β:=fun z=>if z=a then some b else f z
structure Hand (room:N->List S) (dom:N->Bool) (so:N->Option S) (ho:S->Option N) (wait:S):Prop where
 iff:∀ n s,s≠wait->(so n=some s↔ho s=some n)
 rm:∀ n s,so n=some s->s∈room n
 no:∀ n,so n≠some wait
 dm:∀ n,(so n).isSome=dom n
theorem Mt.hand {room:N->List S}{so:N->Option S}{ho:S->Option N} (m:Mt room so ho) {s:S} (h:ho s=none):Hand room (fun n=>(so n).isSome) so ho s :=
 ⟨fun n s _=>m.iff n s,m.rm,fun n e=>(by rw[(m.iff n s).mp e] at h; cases h),fun _=>rfl⟩
theorem Hand.step {room:N->List S}{dom:N->Bool}{so:N->Option S}{ho:S->Option N}{s s1:S}{a:N} (g:Hand room dom so ho s) (ra:s∈room a) (e:so a=some s1):Hand room dom (upd1 so a s) (upd1 ho s a) s1:=by
 have ne:s1≠s:=fun z=>g.no a (z▸e)
 refine⟨fun n x hx=>?_,fun n x hx=>?_,fun n hx=>?_,fun n=>?_⟩
 .unfold upd1
  by_cases h1:n=a
  .subst h1
   rw[if_pos rfl]
   by_cases h2:x=s
   .rw [if_pos h2,h2]
    simp
   .rw [if_neg h2]
    constructor
    .intro z
     exact absurd (Option.some.inj z).symm h2
    .intro z
     have:=(g.iff n x h2).mpr z
     rw[e] at this
     exact absurd (Option.some.inj this).symm hx
  .rw [if_neg h1]
   by_cases h2:x=s
   .subst h2
    rw[if_pos rfl]
    constructor
    .intro z
     exact absurd z (g.no n)
    .intro z
     exact absurd (Option.some.inj z).symm h1
   .rw [if_neg h2]
    exact g.iff n x h2
 .unfold upd1 at hx
  split at hx
  .rename_i h1
   rw[h1,<- Option.some.inj hx]
   exact ra
  .exact g.rm n x hx
 .unfold upd1 at hx
  split at hx
  .exact ne (Option.some.inj hx).symm
  .rename_i h1
   have x1:=(g.iff n s1 ne).mp hx
   rw[(g.iff a s1 ne).mp e] at x1
   exact h1 (Option.some.inj x1).symm
 .unfold upd1
  split
  .rename_i h1
   rw[h1,<- g.dm a,e]
   rfl
  .exact g.dm n
theorem Hand.last {room:N->List S}{dom:N->Bool}{so:N->Option S}{ho:S->Option N}{s:S}{a:N} (g:Hand room dom so ho s) (ra:s∈room a) (e:so a=none):Mt room (upd1 so a s) (upd1 ho s a)/\∀ n,(upd1 so a s n).isSome=(decide (n=a)||dom n):=by
 refine⟨⟨fun n x=>?_,fun n x hx=>?_⟩,fun n=>?_⟩
 .unfold upd1
  by_cases h1:n=a
  .subst h1
   rw[if_pos rfl]
   by_cases h2:x=s
   .rw [if_pos h2,h2]
    simp
   .rw [if_neg h2]
    constructor
    .intro z
     exact absurd (Option.some.inj z).symm h2
    .intro z
     have:=(g.iff n x h2).mpr z
     rw[e] at this
     cases this
  .rw [if_neg h1]
   by_cases h2:x=s
   .subst h2
    rw[if_pos rfl]
    constructor
    .intro z
     exact absurd z (g.no n)
    .intro z
     exact absurd (Option.some.inj z).symm h1
   .rw [if_neg h2]
    exact g.iff n x h2
 .unfold upd1 at hx
  split at hx
  .rename_i h1
   rw[h1,<- Option.some.inj hx]
   exact ra
  .exact g.rm n x hx
 .unfold upd1
  split
  .rename_i h1
   simp[h1]
  .rename_i h1
   rw[<- g.dm n]
   simp[h1]
end
inductive Rch {α:Type} (f:α->Option α):α->α->Prop
 | refl (a:α):Rch f a a
 | step {a b c:α}:Rch f a b->f b=some c->Rch f a c
theorem Rch.trans {α:Type}{f:α->Option α}{a b c:α} (h:Rch f a b) (g:Rch f b c):Rch f a c:=by
 induction g with
 | refl=>exact h
 | step _ e ih=>exact .step ih e
inductive KS (N S:Type) where
 | ask (crowd:List N) (asked:S->Option N) (i j:Nat)
 | hand (so:N->Option S) (ho:S->Option N) (asked:S->Option N) (s:S)
 | out (crowd:List N)
 | fin (so:N->Option S) (ho:S->Option N)
section
variable {N S:Type} [DecidableEq N] [DecidableEq S]
def kstep (room:N->List S) (so:N->Option S) (ho:S->Option N):KS N S->Option (KS N S)
 | .ask crowd asked i j=>match crowd[i]? with
  | none=>some (.out crowd)
  | some a=>match (room a)[j]? with
   | none=>some (.ask crowd asked (i+1) 0)
   | some s=>match asked s with
    | some _=>some (.ask crowd asked i (j+1))
    | none=>match ho s with
     | none=>some (.hand so ho (upd1 asked s a) s)
     | some h=>some (.ask (crowd++[h]) (upd1 asked s a) i (j+1))
 | .hand so1 ho1 asked s=>match asked s with
  | none=>none
  | some a=>match so1 a with
   | none=>some (.fin (upd1 so1 a s) (upd1 ho1 s a))
   | some l=>some (.hand (upd1 so1 a s) (upd1 ho1 s a) asked l)
 | .out _=>none
 | .fin _ _=>none
variable {room:N->List S}{so so1:N->Option S}{ho ho1 asked:S->Option N}{crowd:List N}{i j:Nat}{a h:N}{s l:S}
theorem k_end (e:crowd[i]?=none):kstep room so ho (.ask crowd asked i j)=some (.out crowd):=by
 simp only[kstep,e]
theorem k_next (e:crowd[i]?=some a) (e2:(room a)[j]?=none):kstep room so ho (.ask crowd asked i j)=some (.ask crowd asked (i+1) 0):=by
 simp only[kstep,e,e2]
theorem k_old (e:crowd[i]?=some a) (e2:(room a)[j]?=some s) (e3:asked s=some h):kstep room so ho (.ask crowd asked i j)=some (.ask crowd asked i (j+1)):=by
 simp only[kstep,e,e2,e3]
theorem k_free (e:crowd[i]?=some a) (e2:(room a)[j]?=some s) (e3:asked s=none) (e4:ho s=none):kstep room so ho (.ask crowd asked i j)=some (.hand so ho (upd1 asked s a) s):=by
 simp only[kstep,e,e2,e3,e4]
theorem k_grow (e:crowd[i]?=some a) (e2:(room a)[j]?=some s) (e3:asked s=none) (e4:ho s=some h):kstep room so ho (.ask crowd asked i j)=some (.ask (crowd++[h]) (upd1 asked s a) i (j+1)):=by
 simp only[kstep,e,e2,e3,e4]
theorem k_hand (e:asked s=some a) (e2:so1 a=some l):kstep room so ho (.hand so1 ho1 asked s)=some (.hand (upd1 so1 a s) (upd1 ho1 s a) asked l):=by
 simp only[kstep,e,e2]
theorem k_fin (e:asked s=some a) (e2:so1 a=none):kstep room so ho (.hand so1 ho1 asked s)=some (.fin (upd1 so1 a s) (upd1 ho1 s a)):=by
 simp only[kstep,e,e2]
end
end Kp
namespace S44
open PySem L2 XL
def top (i:Nat):Stmt:=PySem.Challenge.pw_rimnotes_k44_whole_totals_compared.main.body.getD i (.Pass ⟨0,0,0,0⟩)
abbrev s_ad:Stmt:=xaq (top 19) 0
abbrev s_n:Stmt:=xaq (top 19) 1
abbrev s_d:Stmt:=xaq (top 19) 2
abbrev xcd:Stmt:=top 20
abbrev xdv:Stmt:=top 21
abbrev s_aq:Stmt:=top 22
abbrev xcy:Stmt:=top 23
abbrev s_ak:Stmt:=xaq (top 25) 0
abbrev s_r:Stmt:=xaq (top 26) 3
abbrev s_o:Stmt:=xaq (top 27) 3
abbrev s_at:Stmt:=top 28
abbrev s_ah:Stmt:=xaq (top 30) 0
abbrev s_y:Stmt:=xaq (top 30) 1
abbrev s_x:Stmt:=xaq (top 30) 2
abbrev s_q:Stmt:=xaq (top 30) 3
abbrev s_c:Stmt:=xaq (top 30) 4
abbrev xcr:Stmt:=top 31
abbrev s_aj:Stmt:=top 33
abbrev s_av:Stmt:=top 34
abbrev s_ae:Stmt:=xaq (top 40) 0
abbrev s_s:Stmt:=xaq (top 40) 1
abbrev s_f:Stmt:=xaq (top 40) 4
abbrev s_k:Stmt:=xaq (top 40) 5
abbrev s_j:Stmt:=xaq (top 40) 6
abbrev s_m:Stmt:=xaq (top 40) 7
abbrev s_p:Stmt:=xaq (top 40) 8
abbrev s_ac:Stmt:=xaq (top 40) 9
abbrev s_w:Stmt:=xaq (top 40) 10
abbrev s_h:Stmt:=xaq (top 40) 11
abbrev s_t:Stmt:=xaq (top 40) 12
abbrev s_l:Stmt:=xaq (top 40) 13
abbrev s_u:Stmt:=xaq (top 40) 14
abbrev s_e:Stmt:=xaq (top 40) 15
abbrev s_g:Stmt:=xaq (top 40) 16
abbrev s_b:Stmt:=xaq (top 40) 17
abbrev s_a:Stmt:=xaq (top 40) 18
abbrev s_v:Stmt:=top 41
abbrev s_aa:Stmt:=top 43
abbrev s_ap:Stmt:=top 44
abbrev s_al:Stmt:=top 46
abbrev s_ag:Stmt:=top 47
abbrev s_ar:Stmt:=top 48
abbrev s_z:Stmt:=top 49
abbrev s_ab:Stmt:=top 50
abbrev s_af:Stmt:=top 51
abbrev s_am:Stmt:=top 52
abbrev xc7:Stmt:=top 53
set_option genInjectivity false in
set_option genSizeOf false in
set_option genInjectivity false in
set_option genSizeOf false in
structure Adr where
 f_ad:Addr
 d_ad:FuncData
 f_n:Addr
 d_n:FuncData
 f_d:Addr
 d_d:FuncData
 f_crowds:Addr
 d_crowds:FuncData
 f_fits:Addr
 d_fits:FuncData
 f_aq:Addr
 d_aq:FuncData
 f_kept:Addr
 d_kept:FuncData
 f_ak:Addr
 d_ak:FuncData
 f_r:Addr
 d_r:FuncData
 f_o:Addr
 d_o:FuncData
 f_at:Addr
 d_at:FuncData
 f_ah:Addr
 d_ah:FuncData
 f_y:Addr
 d_y:FuncData
 f_x:Addr
 d_x:FuncData
 f_q:Addr
 d_q:FuncData
 f_c:Addr
 d_c:FuncData
 f_least:Addr
 d_least:FuncData
 f_aj:Addr
 d_aj:FuncData
 f_av:Addr
 d_av:FuncData
 f_ae:Addr
 d_ae:FuncData
 f_s:Addr
 d_s:FuncData
 T_s:Addr
 f_f:Addr
 d_f:FuncData
 f_k:Addr
 d_k:FuncData
 f_j:Addr
 d_j:FuncData
 f_m:Addr
 d_m:FuncData
 f_p:Addr
 d_p:FuncData
 f_ac:Addr
 d_ac:FuncData
 f_w:Addr
 d_w:FuncData
 f_h:Addr
 d_h:FuncData
 f_t:Addr
 d_t:FuncData
 f_l:Addr
 d_l:FuncData
 f_u:Addr
 d_u:FuncData
 f_e:Addr
 d_e:FuncData
 f_g:Addr
 d_g:FuncData
 f_b:Addr
 d_b:FuncData
 f_a:Addr
 d_a:FuncData
 f_v:Addr
 d_v:FuncData
 f_aa:Addr
 d_aa:FuncData
 f_ap:Addr
 d_ap:FuncData
 f_al:Addr
 d_al:FuncData
 f_ag:Addr
 d_ag:FuncData
 f_ar:Addr
 d_ar:FuncData
 f_z:Addr
 d_z:FuncData
 f_ab:Addr
 d_ab:FuncData
 f_af:Addr
 d_af:FuncData
 f_am:Addr
 d_am:FuncData
 f_law:Addr
 d_law:FuncData
 C_ao:Addr
 C_ax:Addr
 C_au:Addr
 C_an:Addr
 C_ai:Addr
 C_i:Addr
 D_as:Addr
structure Txt (w:World) (K:PySem.W.Frag) (mg:Str->Option Value) (t:Adr):Prop where
 g_ao:mg "Seating"=some (.ref t.C_ao)
 g_ax:mg "Side"=some (.ref t.C_ax)
 g_au:mg "LeftSide"=some (.ref t.C_au)
 g_an:mg "RightSide"=some (.ref t.C_an)
 g_ai:mg "Prices"=some (.ref t.C_ai)
 g_i:mg "Picture"=some (.ref t.C_i)
 F_ad:Fun K "__init__" "Seating.__init__" s_ad t.f_ad t.d_ad
 b_ad:xad K t.d_ad ["self"] []
 F_n:Fun K "hand_on" "Seating.hand_on" s_n t.f_n t.d_n
 b_n:xad K t.d_n ["self", "asked_by", "free_seat"] []
 F_d:Fun K "crowd_with" "Seating.crowd_with" s_d t.f_d t.d_d
 b_d:xad K t.d_d ["self", "name", "rooms"] []
 g_crowds:mg "crowds"=some (.ref t.f_crowds)
 F_crowds:Fun K "crowds" "crowds" xcd t.f_crowds t.d_crowds
 b_crowds:xad K t.d_crowds ["picture", "names"] []
 g_fits:mg "fits"=some (.ref t.f_fits)
 F_fits:Fun K "fits" "fits" xdv t.f_fits t.d_fits
 b_fits:xad K t.d_fits ["picture", "names"] []
 g_aq:mg "left_out"=some (.ref t.f_aq)
 F_aq:Fun K "left_out" "left_out" s_aq t.f_aq t.d_aq
 b_aq:xad K t.d_aq ["picture"] []
 g_kept:mg "kept"=some (.ref t.f_kept)
 F_kept:Fun K "kept" "kept" xcy t.f_kept t.d_kept
 b_kept:xad K t.d_kept ["picture"] []
 F_ak:Fun K "__init__" "Side.__init__" s_ak t.f_ak t.d_ak
 b_ak:xad K t.d_ak ["self", "width"] []
 F_r:Fun K "across" "LeftSide.across" s_r t.f_r t.d_r
 b_r:xad K t.d_r ["self", "x"] []
 F_o:Fun K "across" "RightSide.across" s_o t.f_o t.d_o
 b_o:xad K t.d_o ["self", "x"] []
 g_at:mg "side_of"=some (.ref t.f_at)
 F_at:Fun K "side_of" "side_of" s_at t.f_at t.d_at
 b_at:xad K t.d_at ["word", "width"] []
 F_ah:Fun K "__init__" "Prices.__init__" s_ah t.f_ah t.d_ah
 b_ah:xad K t.d_ah ["self", "picture"] []
 F_y:Fun K "let_in" "Prices.let_in" s_y t.f_y t.d_y
 b_y:xad K t.d_y ["self", "name"] []
 F_x:Fun K "ask_on" "Prices.ask_on" s_x t.f_x t.d_x
 b_x:xad K t.d_x ["self", "askers", "asked_by"] []
 F_q:Fun K "nearest" "Prices.nearest" s_q t.f_q t.d_q
 b_q:xad K t.d_q ["self", "askers", "asked_by"] []
 F_c:Fun K "shift_prices" "Prices.shift_prices" s_c t.f_c t.d_c
 b_c:xad K t.d_c ["self", "askers", "asked_by", "gap"] []
 g_least:mg "least"=some (.ref t.f_least)
 F_least:Fun K "least" "least" xcr t.f_least t.d_least
 b_least:xad K t.d_least ["picture", "names"] []
 g_aj:mg "is_whole"=some (.ref t.f_aj)
 F_aj:Fun K "is_whole" "is_whole" s_aj t.f_aj t.d_aj
 b_aj:xad K t.d_aj ["thing", "low", "high"] []
 g_av:mg "is_name"=some (.ref t.f_av)
 F_av:Fun K "is_name" "is_name" s_av t.f_av t.d_av
 b_av:xad K t.d_av ["thing"] []
 F_ae:Fun K "__init__" "Picture.__init__" s_ae t.f_ae t.d_ae
 b_ae:xad K t.d_ae ["self", "width", "height"] []
 F_s:FunD K "put" "Picture.put" s_s t.T_s t.f_s t.d_s
 b_s:xad K t.d_s ["self", "name", "x", "y", "sides", "low", "high"] []
 F_f:Fun K "open_seat" "Picture.open_seat" s_f t.f_f t.d_f
 b_f:xad K t.d_f ["self", "side", "row"] []
 F_k:Fun K "shut_seat" "Picture.shut_seat" s_k t.f_k t.d_k
 b_k:xad K t.d_k ["self", "side", "row"] []
 F_j:Fun K "points" "Picture.points" s_j t.f_j t.d_j
 b_j:xad K t.d_j ["self"] []
 F_m:Fun K "seats" "Picture.seats" s_m t.f_m t.d_m
 b_m:xad K t.d_m ["self"] []
 F_p:Fun K "place_of" "Picture.place_of" s_p t.f_p t.d_p
 b_p:xad K t.d_p ["self", "name"] []
 F_ac:Fun K "may" "Picture.may" s_ac t.f_ac t.d_ac
 b_ac:xad K t.d_ac ["self", "name", "side", "row"] []
 F_w:Fun K "length" "Picture.length" s_w t.f_w t.d_w
 b_w:xad K t.d_w ["self", "name", "side", "row"] []
 F_h:Fun K "seats_for" "Picture.seats_for" s_h t.f_h t.d_h
 b_h:xad K t.d_h ["self", "name"] []
 F_t:Fun K "copied" "Picture.copied" s_t t.f_t t.d_t
 b_t:xad K t.d_t ["self"] []
 F_l:Fun K "mirrored" "Picture.mirrored" s_l t.f_l t.d_l
 b_l:xad K t.d_l ["self"] []
 F_u:Fun K "turned" "Picture.turned" s_u t.f_u t.d_u
 b_u:xad K t.d_u ["self"] []
 F_e:Fun K "check_name" "Picture.check_name" s_e t.f_e t.d_e
 b_e:xad K t.d_e ["self", "name"] []
 F_g:Fun K "check_cell" "Picture.check_cell" s_g t.f_g t.d_g
 b_g:xad K t.d_g ["self", "x", "y"] []
 F_b:Fun K "check_lines" "Picture.check_lines" s_b t.f_b t.d_b
 b_b:xad K t.d_b ["self", "name", "x", "y"] []
 F_a:Fun K "check_seat" "Picture.check_seat" s_a t.f_a t.d_a
 b_a:xad K t.d_a ["self", "side", "row"] []
 g_v:mg "picture_with"=some (.ref t.f_v)
 F_v:Fun K "picture_with" "picture_with" s_v t.f_v t.d_v
 b_v:xad K t.d_v ["width", "height", "points", "seats"] []
 g_aa:mg "_law_cell"=some (.ref t.f_aa)
 F_aa:Fun K "_law_cell" "_law_cell" s_aa t.f_aa t.d_aa
 b_aa:xad K t.d_aa ["_law_script", "_law_k"] []
 g_ap:mg "_law_mix"=some (.ref t.f_ap)
 F_ap:Fun K "_law_mix" "_law_mix" s_ap t.f_ap t.d_ap
 b_ap:xad K t.d_ap ["_law_cell_here", "_law_k"] []
 g_al:mg "_law_names"=some (.ref t.f_al)
 F_al:Fun K "_law_names" "_law_names" s_al t.f_al t.d_al
 b_al:xad K t.d_al ["_law_cell_here", "_law_many"] []
 g_ag:mg "_law_places"=some (.ref t.f_ag)
 F_ag:Fun K "_law_places" "_law_places" s_ag t.f_ag t.d_ag
 b_ag:xad K t.d_ag ["_law_cell_here", "_law_size_here", "_law_many"] []
 g_ar:mg "_law_size"=some (.ref t.f_ar)
 F_ar:Fun K "_law_size" "_law_size" s_ar t.f_ar t.d_ar
 b_ar:xad K t.d_ar ["_law_cell_here"] []
 g_z:mg "_law_picture"=some (.ref t.f_z)
 F_z:Fun K "_law_picture" "_law_picture" s_z t.f_z t.d_z
 b_z:xad K t.d_z ["_law_script"] []
 g_ab:mg "_law_lengths"=some (.ref t.f_ab)
 F_ab:Fun K "_law_lengths" "_law_lengths" s_ab t.f_ab t.d_ab
 b_ab:xad K t.d_ab ["_law_picture_here"] []
 g_af:mg "_law_steps"=some (.ref t.f_af)
 F_af:Fun K "_law_steps" "_law_steps" s_af t.f_af t.d_af
 b_af:xad K t.d_af ["_law_picture_here", "_law_names_here"] []
 g_am:mg "_law_order"=some (.ref t.f_am)
 F_am:Fun K "_law_order" "_law_order" s_am t.f_am t.d_am
 b_am:xad K t.d_am ["_law_names_here", "_law_cell_here"] []
 g_law:mg "law"=some (.ref t.f_law)
 F_law:Fun K "law" "law" xc7 t.f_law t.d_law
 b_law:xad K t.d_law ["_law_script"] []
 c_ao:Cls K t.C_ao
 ca_ao:PySem.W.findIn K (.ref t.C_ao) "__class__"=some (some (.builtin "object.__class__"))
 mo_ao:PySem.W.mroIn K t.C_ao (.type "object")=some true
 k_ao:Mk K t.C_ao t.f_ad
 m_n:Meth K t.C_ao "hand_on" t.f_n
 m_d:Meth K t.C_ao "crowd_with" t.f_d
 c_ax:Cls K t.C_ax
 ca_ax:PySem.W.findIn K (.ref t.C_ax) "__class__"=some (some (.builtin "object.__class__"))
 mo_ax:PySem.W.mroIn K t.C_ax (.type "object")=some true
 k_ax:Mk K t.C_ax t.f_ak
 c_au:Cls K t.C_au
 ca_au:PySem.W.findIn K (.ref t.C_au) "__class__"=some (some (.builtin "object.__class__"))
 mo_au:PySem.W.mroIn K t.C_au (.type "object")=some true
 k_au:Mk K t.C_au t.f_ak
 m_r:Meth K t.C_au "across" t.f_r
 c_an:Cls K t.C_an
 ca_an:PySem.W.findIn K (.ref t.C_an) "__class__"=some (some (.builtin "object.__class__"))
 mo_an:PySem.W.mroIn K t.C_an (.type "object")=some true
 k_an:Mk K t.C_an t.f_ak
 m_o:Meth K t.C_an "across" t.f_o
 c_ai:Cls K t.C_ai
 ca_ai:PySem.W.findIn K (.ref t.C_ai) "__class__"=some (some (.builtin "object.__class__"))
 mo_ai:PySem.W.mroIn K t.C_ai (.type "object")=some true
 k_ai:Mk K t.C_ai t.f_ah
 m_y:Meth K t.C_ai "let_in" t.f_y
 m_x:Meth K t.C_ai "ask_on" t.f_x
 m_q:Meth K t.C_ai "nearest" t.f_q
 m_c:Meth K t.C_ai "shift_prices" t.f_c
 c_i:Cls K t.C_i
 ca_i:PySem.W.findIn K (.ref t.C_i) "__class__"=some (some (.builtin "object.__class__"))
 mo_i:PySem.W.mroIn K t.C_i (.type "object")=some true
 k_i:Mk K t.C_i t.f_ae
 m_s:Meth K t.C_i "put" t.f_s
 m_f:Meth K t.C_i "open_seat" t.f_f
 m_k:Meth K t.C_i "shut_seat" t.f_k
 m_j:Meth K t.C_i "points" t.f_j
 m_m:Meth K t.C_i "seats" t.f_m
 m_p:Meth K t.C_i "place_of" t.f_p
 m_ac:Meth K t.C_i "may" t.f_ac
 m_w:Meth K t.C_i "length" t.f_w
 m_h:Meth K t.C_i "seats_for" t.f_h
 m_t:Meth K t.C_i "copied" t.f_t
 m_l:Meth K t.C_i "mirrored" t.f_l
 m_u:Meth K t.C_i "turned" t.f_u
 m_e:Meth K t.C_i "check_name" t.f_e
 m_g:Meth K t.C_i "check_cell" t.f_g
 m_b:Meth K t.C_i "check_lines" t.f_b
 m_a:Meth K t.C_i "check_seat" t.f_a
 cg:PySem.W.specialIn K (.builtin "object.__class__") "__get__"=some (some (.builtin "getset_descriptor.__get__"))
 ct:PySem.W.takesIn K (.builtin "object.__class__")=some true
 n_a6:PySem.W.findIn K (.ref t.C_an) "width"=some none
 n_ay:PySem.W.findIn K (.ref t.C_i) "placed"=some none
 n_aw:PySem.W.findIn K (.ref t.C_i) "height"=some none
 n_a0:PySem.W.findIn K (.ref t.C_i) "width"=some none
 n_a1:PySem.W.findIn K (.ref t.C_i) "opened"=some none
 n_az:PySem.W.findIn K (.ref t.C_ao) "holder_of"=some none
 n_a2:PySem.W.findIn K (.ref t.C_ao) "seat_of"=some none
 n_a4:PySem.W.findIn K (.ref t.C_ai) "lengths"=some none
 n_a7:PySem.W.findIn K (.ref t.C_ai) "own"=some none
 n_a8:PySem.W.findIn K (.ref t.C_ai) "rent"=some none
 n_a3:PySem.W.findIn K (.ref t.C_ai) "seating"=some none
 n_a5:PySem.W.findIn K (.ref t.C_ai) "picture"=some none
 n_bd:PySem.W.findIn K (.ref t.C_ax) "width"=some none
 n_bb:PySem.W.findIn K (.ref t.C_au) "width"=some none
 n_abs:mg "abs"=none
 n_bool:mg "bool"=none
 n_dict:mg "dict"=none
 n_enumerate:mg "enumerate"=none
 n_int:mg "int"=none
 n_isinstance:mg "isinstance"=none
 n_len:mg "len"=none
 n_list:mg "list"=none
 n_min:mg "min"=none
 n_range:mg "range"=none
 n_sorted:mg "sorted"=none
 n_str:mg "str"=none
 n_sum:mg "sum"=none
 v_bc:∃ tk,mg "MOST_ROWS"=some (.int 16 tk)
 v_a9:∃ tk,mg "MOST_COLUMNS"=some (.int 30 tk)
 v_ba:∃ tk,mg "MOST_POINTS"=some (.int 12 tk)
 g_as:mg "MIRRORED_SIDES"=some (.ref t.D_as)
 D_as:xhr w K t.D_as [(.inr "left",.str "right"),(.inr "right",.str "left"),(.inr "both",.str "both")]
@[elab_as_elim] theorem xch {α:Type}{P:List α->Prop}:(us:List α)->us.length=1->(∀ a0,P [a0])->P us
 | [a0],_,h=>h a0
@[elab_as_elim] theorem xbt {α:Type}{P:List α->Prop}:(us:List α)->us.length=2->(∀ a0 a1,P [a0,a1])->P us
 | [a0,a1],_,h=>h a0 a1
@[elab_as_elim] theorem xct {α:Type}{P:List α->Prop}:(us:List α)->us.length=3->(∀ a0 a1 a2,P [a0,a1,a2])->P us
 | [a0,a1,a2],_,h=>h a0 a1 a2
@[elab_as_elim] theorem xgf {α:Type}{P:List α->Prop}:(us:List α)->us.length=4->(∀ a0 a1 a2 a3,P [a0,a1,a2,a3])->P us
 | [a0,a1,a2,a3],_,h=>h a0 a1 a2 a3
@[elab_as_elim] theorem xr6 {α:Type}{P:List α->Prop}:(us:List α)->us.length=7->(∀ a0 a1 a2 a3 a4 a5 a6,P [a0,a1,a2,a3,a4,a5,a6])->P us
 | [a0,a1,a2,a3,a4,a5,a6],_,h=>h a0 a1 a2 a3 a4 a5 a6
theorem txt_mk {w:World}{K:PySem.W.Frag}{h:Heap}{mg:Str->Option Value} (X:K.In h) (G:h.Ns mainGlobals mg) {C_ao C_ax C_au C_an C_ai C_i f_ad f_n f_d f_crowds f_fits f_aq f_kept f_ak f_r f_o f_at f_ah f_y f_x f_q f_c f_least f_aj f_av f_ae f_s T_s f_f f_k f_j f_m f_p f_ac f_w f_h f_t f_l f_u f_e f_g f_b f_a f_v f_aa f_ap f_al f_ag f_ar f_z f_ab f_af f_am f_law:Addr}{oc_ad kv_ad dc_ad pm_ad cd_ad ct_ad:Value}{od_ad an_ad:Option Addr}{sl_ad:Array (Option Value)}{oc_n kv_n dc_n pm_n cd_n ct_n:Value}{od_n an_n:Option Addr}{sl_n:Array (Option Value)}{oc_d kv_d dc_d pm_d cd_d ct_d:Value}{od_d an_d:Option Addr}{sl_d:Array (Option Value)}{oc_crowds kv_crowds dc_crowds pm_crowds cd_crowds ct_crowds:Value}{od_crowds an_crowds:Option Addr}{sl_crowds:Array (Option Value)}{oc_fits kv_fits dc_fits pm_fits cd_fits ct_fits:Value}{od_fits an_fits:Option Addr}{sl_fits:Array (Option Value)}{oc_aq kv_aq dc_aq pm_aq cd_aq ct_aq:Value}{od_aq an_aq:Option Addr}{sl_aq:Array (Option Value)}{oc_kept kv_kept dc_kept pm_kept cd_kept ct_kept:Value}{od_kept an_kept:Option Addr}{sl_kept:Array (Option Value)}{oc_ak kv_ak dc_ak pm_ak cd_ak ct_ak:Value}{od_ak an_ak:Option Addr}{sl_ak:Array (Option Value)}{oc_r kv_r dc_r pm_r cd_r ct_r:Value}{od_r an_r:Option Addr}{sl_r:Array (Option Value)}{oc_o kv_o dc_o pm_o cd_o ct_o:Value}{od_o an_o:Option Addr}{sl_o:Array (Option Value)}{oc_at kv_at dc_at pm_at cd_at ct_at:Value}{od_at an_at:Option Addr}{sl_at:Array (Option Value)}{oc_ah kv_ah dc_ah pm_ah cd_ah ct_ah:Value}{od_ah an_ah:Option Addr}{sl_ah:Array (Option Value)}{oc_y kv_y dc_y pm_y cd_y ct_y:Value}{od_y an_y:Option Addr}{sl_y:Array (Option Value)}{oc_x kv_x dc_x pm_x cd_x ct_x:Value}{od_x an_x:Option Addr}{sl_x:Array (Option Value)}{oc_q kv_q dc_q pm_q cd_q ct_q:Value}{od_q an_q:Option Addr}{sl_q:Array (Option Value)}{oc_c kv_c dc_c pm_c cd_c ct_c:Value}{od_c an_c:Option Addr}{sl_c:Array (Option Value)}{oc_least kv_least dc_least pm_least cd_least ct_least:Value}{od_least an_least:Option Addr}{sl_least:Array (Option Value)}{oc_aj kv_aj dc_aj pm_aj cd_aj ct_aj:Value}{od_aj an_aj:Option Addr}{sl_aj:Array (Option Value)}{oc_av kv_av dc_av pm_av cd_av ct_av:Value}{od_av an_av:Option Addr}{sl_av:Array (Option Value)}{oc_ae kv_ae dc_ae pm_ae cd_ae ct_ae:Value}{od_ae an_ae:Option Addr}{sl_ae:Array (Option Value)}{oc_s kv_s dc_s pm_s cd_s ct_s:Value}{od_s an_s:Option Addr}{sl_s:Array (Option Value)}{oc_f kv_f dc_f pm_f cd_f ct_f:Value}{od_f an_f:Option Addr}{sl_f:Array (Option Value)}{oc_k kv_k dc_k pm_k cd_k ct_k:Value}{od_k an_k:Option Addr}{sl_k:Array (Option Value)}{oc_j kv_j dc_j pm_j cd_j ct_j:Value}{od_j an_j:Option Addr}{sl_j:Array (Option Value)}{oc_m kv_m dc_m pm_m cd_m ct_m:Value}{od_m an_m:Option Addr}{sl_m:Array (Option Value)}{oc_p kv_p dc_p pm_p cd_p ct_p:Value}{od_p an_p:Option Addr}{sl_p:Array (Option Value)}{oc_ac kv_ac dc_ac pm_ac cd_ac ct_ac:Value}{od_ac an_ac:Option Addr}{sl_ac:Array (Option Value)}{oc_w kv_w dc_w pm_w cd_w ct_w:Value}{od_w an_w:Option Addr}{sl_w:Array (Option Value)}{oc_h kv_h dc_h pm_h cd_h ct_h:Value}{od_h an_h:Option Addr}{sl_h:Array (Option Value)}{oc_t kv_t dc_t pm_t cd_t ct_t:Value}{od_t an_t:Option Addr}{sl_t:Array (Option Value)}{oc_l kv_l dc_l pm_l cd_l ct_l:Value}{od_l an_l:Option Addr}{sl_l:Array (Option Value)}{oc_u kv_u dc_u pm_u cd_u ct_u:Value}{od_u an_u:Option Addr}{sl_u:Array (Option Value)}{oc_e kv_e dc_e pm_e cd_e ct_e:Value}{od_e an_e:Option Addr}{sl_e:Array (Option Value)}{oc_g kv_g dc_g pm_g cd_g ct_g:Value}{od_g an_g:Option Addr}{sl_g:Array (Option Value)}{oc_b kv_b dc_b pm_b cd_b ct_b:Value}{od_b an_b:Option Addr}{sl_b:Array (Option Value)}{oc_a kv_a dc_a pm_a cd_a ct_a:Value}{od_a an_a:Option Addr}{sl_a:Array (Option Value)}{oc_v kv_v dc_v pm_v cd_v ct_v:Value}{od_v an_v:Option Addr}{sl_v:Array (Option Value)}{oc_aa kv_aa dc_aa pm_aa cd_aa ct_aa:Value}{od_aa an_aa:Option Addr}{sl_aa:Array (Option Value)}{oc_ap kv_ap dc_ap pm_ap cd_ap ct_ap:Value}{od_ap an_ap:Option Addr}{sl_ap:Array (Option Value)}{oc_al kv_al dc_al pm_al cd_al ct_al:Value}{od_al an_al:Option Addr}{sl_al:Array (Option Value)}{oc_ag kv_ag dc_ag pm_ag cd_ag ct_ag:Value}{od_ag an_ag:Option Addr}{sl_ag:Array (Option Value)}{oc_ar kv_ar dc_ar pm_ar cd_ar ct_ar:Value}{od_ar an_ar:Option Addr}{sl_ar:Array (Option Value)}{oc_z kv_z dc_z pm_z cd_z ct_z:Value}{od_z an_z:Option Addr}{sl_z:Array (Option Value)}{oc_ab kv_ab dc_ab pm_ab cd_ab ct_ab:Value}{od_ab an_ab:Option Addr}{sl_ab:Array (Option Value)}{oc_af kv_af dc_af pm_af cd_af ct_af:Value}{od_af an_af:Option Addr}{sl_af:Array (Option Value)}{oc_am kv_am dc_am pm_am cd_am ct_am:Value}{od_am an_am:Option Addr}{sl_am:Array (Option Value)}{oc_law kv_law dc_law pm_law cd_law ct_law:Value}{od_law an_law:Option Addr}{sl_law:Array (Option Value)}{tk0_s:Tok}{tk1_s:Tok}{toc_s:Value}{tod_s:Option Addr}{tn_s:Nat}{tsl_s:Array (Option Value)}{tkc_bc:Tok}{tkc_a9:Tok}{tkc_ba:Tok}{D_as:Addr}{ta0_as tb0_as:Tok}{ta1_as tb1_as:Tok}{ta2_as tb2_as:Tok}{ep_as:Nat}
    (g_ao:PySem.W.nsIn K mainGlobals "Seating"=some (some (.ref C_ao)))
    (g_ax:PySem.W.nsIn K mainGlobals "Side"=some (some (.ref C_ax)))
    (g_au:PySem.W.nsIn K mainGlobals "LeftSide"=some (some (.ref C_au)))
    (g_an:PySem.W.nsIn K mainGlobals "RightSide"=some (some (.ref C_an)))
    (g_ai:PySem.W.nsIn K mainGlobals "Prices"=some (some (.ref C_ai)))
    (g_i:PySem.W.nsIn K mainGlobals "Picture"=some (some (.ref C_i)))
    (a_ad:PySem.W.findIn K (.ref C_ao) "__init__"=some (some (.ref f_ad)))
    (l_ad:K.lookup f_ad=some ⟨oc_ad,od_ad,.func (PySem.W.fnOf "__init__" "Seating.__init__" (xz s_ad) (xw s_ad) (xi s_ad) .none kv_ad dc_ad pm_ad an_ad cd_ad ct_ad),sl_ad⟩)
    (c_ad:PySem.W.codeIn K cd_ad "Seating.__init__"=true)
    (k_ad:PySem.W.keepIn K (.ref f_ad)=true)
    (i_ad:PySem.W.isFn K (.ref f_ad)=true)
    (a_n:PySem.W.findIn K (.ref C_ao) "hand_on"=some (some (.ref f_n)))
    (l_n:K.lookup f_n=some ⟨oc_n,od_n,.func (PySem.W.fnOf "hand_on" "Seating.hand_on" (xz s_n) (xw s_n) (xi s_n) .none kv_n dc_n pm_n an_n cd_n ct_n),sl_n⟩)
    (c_n:PySem.W.codeIn K cd_n "Seating.hand_on"=true)
    (k_n:PySem.W.keepIn K (.ref f_n)=true)
    (i_n:PySem.W.isFn K (.ref f_n)=true)
    (a_d:PySem.W.findIn K (.ref C_ao) "crowd_with"=some (some (.ref f_d)))
    (l_d:K.lookup f_d=some ⟨oc_d,od_d,.func (PySem.W.fnOf "crowd_with" "Seating.crowd_with" (xz s_d) (xw s_d) (xi s_d) .none kv_d dc_d pm_d an_d cd_d ct_d),sl_d⟩)
    (c_d:PySem.W.codeIn K cd_d "Seating.crowd_with"=true)
    (k_d:PySem.W.keepIn K (.ref f_d)=true)
    (i_d:PySem.W.isFn K (.ref f_d)=true)
    (a_crowds:PySem.W.nsIn K mainGlobals "crowds"=some (some (.ref f_crowds)))
    (l_crowds:K.lookup f_crowds=some ⟨oc_crowds,od_crowds,.func (PySem.W.fnOf "crowds" "crowds" (xz xcd) (xw xcd) (xi xcd) .none kv_crowds dc_crowds pm_crowds an_crowds cd_crowds ct_crowds),sl_crowds⟩)
    (c_crowds:PySem.W.codeIn K cd_crowds "crowds"=true)
    (k_crowds:PySem.W.keepIn K (.ref f_crowds)=true)
    (i_crowds:PySem.W.isFn K (.ref f_crowds)=true)
    (a_fits:PySem.W.nsIn K mainGlobals "fits"=some (some (.ref f_fits)))
    (l_fits:K.lookup f_fits=some ⟨oc_fits,od_fits,.func (PySem.W.fnOf "fits" "fits" (xz xdv) (xw xdv) (xi xdv) .none kv_fits dc_fits pm_fits an_fits cd_fits ct_fits),sl_fits⟩)
    (c_fits:PySem.W.codeIn K cd_fits "fits"=true)
    (k_fits:PySem.W.keepIn K (.ref f_fits)=true)
    (i_fits:PySem.W.isFn K (.ref f_fits)=true)
    (a_aq:PySem.W.nsIn K mainGlobals "left_out"=some (some (.ref f_aq)))
    (l_aq:K.lookup f_aq=some ⟨oc_aq,od_aq,.func (PySem.W.fnOf "left_out" "left_out" (xz s_aq) (xw s_aq) (xi s_aq) .none kv_aq dc_aq pm_aq an_aq cd_aq ct_aq),sl_aq⟩)
    (c_aq:PySem.W.codeIn K cd_aq "left_out"=true)
    (k_aq:PySem.W.keepIn K (.ref f_aq)=true)
    (i_aq:PySem.W.isFn K (.ref f_aq)=true)
    (a_kept:PySem.W.nsIn K mainGlobals "kept"=some (some (.ref f_kept)))
    (l_kept:K.lookup f_kept=some ⟨oc_kept,od_kept,.func (PySem.W.fnOf "kept" "kept" (xz xcy) (xw xcy) (xi xcy) .none kv_kept dc_kept pm_kept an_kept cd_kept ct_kept),sl_kept⟩)
    (c_kept:PySem.W.codeIn K cd_kept "kept"=true)
    (k_kept:PySem.W.keepIn K (.ref f_kept)=true)
    (i_kept:PySem.W.isFn K (.ref f_kept)=true)
    (a_ak:PySem.W.findIn K (.ref C_ax) "__init__"=some (some (.ref f_ak)))
    (l_ak:K.lookup f_ak=some ⟨oc_ak,od_ak,.func (PySem.W.fnOf "__init__" "Side.__init__" (xz s_ak) (xw s_ak) (xi s_ak) .none kv_ak dc_ak pm_ak an_ak cd_ak ct_ak),sl_ak⟩)
    (c_ak:PySem.W.codeIn K cd_ak "Side.__init__"=true)
    (k_ak:PySem.W.keepIn K (.ref f_ak)=true)
    (i_ak:PySem.W.isFn K (.ref f_ak)=true)
    (a_r:PySem.W.findIn K (.ref C_au) "across"=some (some (.ref f_r)))
    (l_r:K.lookup f_r=some ⟨oc_r,od_r,.func (PySem.W.fnOf "across" "LeftSide.across" (xz s_r) (xw s_r) (xi s_r) .none kv_r dc_r pm_r an_r cd_r ct_r),sl_r⟩)
    (c_r:PySem.W.codeIn K cd_r "LeftSide.across"=true)
    (k_r:PySem.W.keepIn K (.ref f_r)=true)
    (i_r:PySem.W.isFn K (.ref f_r)=true)
    (a_o:PySem.W.findIn K (.ref C_an) "across"=some (some (.ref f_o)))
    (l_o:K.lookup f_o=some ⟨oc_o,od_o,.func (PySem.W.fnOf "across" "RightSide.across" (xz s_o) (xw s_o) (xi s_o) .none kv_o dc_o pm_o an_o cd_o ct_o),sl_o⟩)
    (c_o:PySem.W.codeIn K cd_o "RightSide.across"=true)
    (k_o:PySem.W.keepIn K (.ref f_o)=true)
    (i_o:PySem.W.isFn K (.ref f_o)=true)
    (a_at:PySem.W.nsIn K mainGlobals "side_of"=some (some (.ref f_at)))
    (l_at:K.lookup f_at=some ⟨oc_at,od_at,.func (PySem.W.fnOf "side_of" "side_of" (xz s_at) (xw s_at) (xi s_at) .none kv_at dc_at pm_at an_at cd_at ct_at),sl_at⟩)
    (c_at:PySem.W.codeIn K cd_at "side_of"=true)
    (k_at:PySem.W.keepIn K (.ref f_at)=true)
    (i_at:PySem.W.isFn K (.ref f_at)=true)
    (a_ah:PySem.W.findIn K (.ref C_ai) "__init__"=some (some (.ref f_ah)))
    (l_ah:K.lookup f_ah=some ⟨oc_ah,od_ah,.func (PySem.W.fnOf "__init__" "Prices.__init__" (xz s_ah) (xw s_ah) (xi s_ah) .none kv_ah dc_ah pm_ah an_ah cd_ah ct_ah),sl_ah⟩)
    (c_ah:PySem.W.codeIn K cd_ah "Prices.__init__"=true)
    (k_ah:PySem.W.keepIn K (.ref f_ah)=true)
    (i_ah:PySem.W.isFn K (.ref f_ah)=true)
    (a_y:PySem.W.findIn K (.ref C_ai) "let_in"=some (some (.ref f_y)))
    (l_y:K.lookup f_y=some ⟨oc_y,od_y,.func (PySem.W.fnOf "let_in" "Prices.let_in" (xz s_y) (xw s_y) (xi s_y) .none kv_y dc_y pm_y an_y cd_y ct_y),sl_y⟩)
    (c_y:PySem.W.codeIn K cd_y "Prices.let_in"=true)
    (k_y:PySem.W.keepIn K (.ref f_y)=true)
    (i_y:PySem.W.isFn K (.ref f_y)=true)
    (a_x:PySem.W.findIn K (.ref C_ai) "ask_on"=some (some (.ref f_x)))
    (l_x:K.lookup f_x=some ⟨oc_x,od_x,.func (PySem.W.fnOf "ask_on" "Prices.ask_on" (xz s_x) (xw s_x) (xi s_x) .none kv_x dc_x pm_x an_x cd_x ct_x),sl_x⟩)
    (c_x:PySem.W.codeIn K cd_x "Prices.ask_on"=true)
    (k_x:PySem.W.keepIn K (.ref f_x)=true)
    (i_x:PySem.W.isFn K (.ref f_x)=true)
    (a_q:PySem.W.findIn K (.ref C_ai) "nearest"=some (some (.ref f_q)))
    (l_q:K.lookup f_q=some ⟨oc_q,od_q,.func (PySem.W.fnOf "nearest" "Prices.nearest" (xz s_q) (xw s_q) (xi s_q) .none kv_q dc_q pm_q an_q cd_q ct_q),sl_q⟩)
    (c_q:PySem.W.codeIn K cd_q "Prices.nearest"=true)
    (k_q:PySem.W.keepIn K (.ref f_q)=true)
    (i_q:PySem.W.isFn K (.ref f_q)=true)
    (a_c:PySem.W.findIn K (.ref C_ai) "shift_prices"=some (some (.ref f_c)))
    (l_c:K.lookup f_c=some ⟨oc_c,od_c,.func (PySem.W.fnOf "shift_prices" "Prices.shift_prices" (xz s_c) (xw s_c) (xi s_c) .none kv_c dc_c pm_c an_c cd_c ct_c),sl_c⟩)
    (c_c:PySem.W.codeIn K cd_c "Prices.shift_prices"=true)
    (k_c:PySem.W.keepIn K (.ref f_c)=true)
    (i_c:PySem.W.isFn K (.ref f_c)=true)
    (a_least:PySem.W.nsIn K mainGlobals "least"=some (some (.ref f_least)))
    (l_least:K.lookup f_least=some ⟨oc_least,od_least,.func (PySem.W.fnOf "least" "least" (xz xcr) (xw xcr) (xi xcr) .none kv_least dc_least pm_least an_least cd_least ct_least),sl_least⟩)
    (c_least:PySem.W.codeIn K cd_least "least"=true)
    (k_least:PySem.W.keepIn K (.ref f_least)=true)
    (i_least:PySem.W.isFn K (.ref f_least)=true)
    (a_aj:PySem.W.nsIn K mainGlobals "is_whole"=some (some (.ref f_aj)))
    (l_aj:K.lookup f_aj=some ⟨oc_aj,od_aj,.func (PySem.W.fnOf "is_whole" "is_whole" (xz s_aj) (xw s_aj) (xi s_aj) .none kv_aj dc_aj pm_aj an_aj cd_aj ct_aj),sl_aj⟩)
    (c_aj:PySem.W.codeIn K cd_aj "is_whole"=true)
    (k_aj:PySem.W.keepIn K (.ref f_aj)=true)
    (i_aj:PySem.W.isFn K (.ref f_aj)=true)
    (a_av:PySem.W.nsIn K mainGlobals "is_name"=some (some (.ref f_av)))
    (l_av:K.lookup f_av=some ⟨oc_av,od_av,.func (PySem.W.fnOf "is_name" "is_name" (xz s_av) (xw s_av) (xi s_av) .none kv_av dc_av pm_av an_av cd_av ct_av),sl_av⟩)
    (c_av:PySem.W.codeIn K cd_av "is_name"=true)
    (k_av:PySem.W.keepIn K (.ref f_av)=true)
    (i_av:PySem.W.isFn K (.ref f_av)=true)
    (a_ae:PySem.W.findIn K (.ref C_i) "__init__"=some (some (.ref f_ae)))
    (l_ae:K.lookup f_ae=some ⟨oc_ae,od_ae,.func (PySem.W.fnOf "__init__" "Picture.__init__" (xz s_ae) (xw s_ae) (xi s_ae) .none kv_ae dc_ae pm_ae an_ae cd_ae ct_ae),sl_ae⟩)
    (c_ae:PySem.W.codeIn K cd_ae "Picture.__init__"=true)
    (k_ae:PySem.W.keepIn K (.ref f_ae)=true)
    (i_ae:PySem.W.isFn K (.ref f_ae)=true)
    (a_s:PySem.W.findIn K (.ref C_i) "put"=some (some (.ref f_s)))
    (l_s:K.lookup f_s=some ⟨oc_s,od_s,.func (PySem.W.fnOf "put" "Picture.put" (xz s_s) (xw s_s) (xi s_s) (.ref T_s) kv_s dc_s pm_s an_s cd_s ct_s),sl_s⟩)
    (c_s:PySem.W.codeIn K cd_s "Picture.put"=true)
    (k_s:PySem.W.keepIn K (.ref f_s)=true)
    (i_s:PySem.W.isFn K (.ref f_s)=true)
    (t_s:K.lookup T_s=some ⟨toc_s,tod_s,.seq #[.str "both" tk0_s,.int 1 tk1_s,.none] tn_s,tsl_s⟩)
    (a_f:PySem.W.findIn K (.ref C_i) "open_seat"=some (some (.ref f_f)))
    (l_f:K.lookup f_f=some ⟨oc_f,od_f,.func (PySem.W.fnOf "open_seat" "Picture.open_seat" (xz s_f) (xw s_f) (xi s_f) .none kv_f dc_f pm_f an_f cd_f ct_f),sl_f⟩)
    (c_f:PySem.W.codeIn K cd_f "Picture.open_seat"=true)
    (k_f:PySem.W.keepIn K (.ref f_f)=true)
    (i_f:PySem.W.isFn K (.ref f_f)=true)
    (a_k:PySem.W.findIn K (.ref C_i) "shut_seat"=some (some (.ref f_k)))
    (l_k:K.lookup f_k=some ⟨oc_k,od_k,.func (PySem.W.fnOf "shut_seat" "Picture.shut_seat" (xz s_k) (xw s_k) (xi s_k) .none kv_k dc_k pm_k an_k cd_k ct_k),sl_k⟩)
    (c_k:PySem.W.codeIn K cd_k "Picture.shut_seat"=true)
    (k_k:PySem.W.keepIn K (.ref f_k)=true)
    (i_k:PySem.W.isFn K (.ref f_k)=true)
    (a_j:PySem.W.findIn K (.ref C_i) "points"=some (some (.ref f_j)))
    (l_j:K.lookup f_j=some ⟨oc_j,od_j,.func (PySem.W.fnOf "points" "Picture.points" (xz s_j) (xw s_j) (xi s_j) .none kv_j dc_j pm_j an_j cd_j ct_j),sl_j⟩)
    (c_j:PySem.W.codeIn K cd_j "Picture.points"=true)
    (k_j:PySem.W.keepIn K (.ref f_j)=true)
    (i_j:PySem.W.isFn K (.ref f_j)=true)
    (a_m:PySem.W.findIn K (.ref C_i) "seats"=some (some (.ref f_m)))
    (l_m:K.lookup f_m=some ⟨oc_m,od_m,.func (PySem.W.fnOf "seats" "Picture.seats" (xz s_m) (xw s_m) (xi s_m) .none kv_m dc_m pm_m an_m cd_m ct_m),sl_m⟩)
    (c_m:PySem.W.codeIn K cd_m "Picture.seats"=true)
    (k_m:PySem.W.keepIn K (.ref f_m)=true)
    (i_m:PySem.W.isFn K (.ref f_m)=true)
    (a_p:PySem.W.findIn K (.ref C_i) "place_of"=some (some (.ref f_p)))
    (l_p:K.lookup f_p=some ⟨oc_p,od_p,.func (PySem.W.fnOf "place_of" "Picture.place_of" (xz s_p) (xw s_p) (xi s_p) .none kv_p dc_p pm_p an_p cd_p ct_p),sl_p⟩)
    (c_p:PySem.W.codeIn K cd_p "Picture.place_of"=true)
    (k_p:PySem.W.keepIn K (.ref f_p)=true)
    (i_p:PySem.W.isFn K (.ref f_p)=true)
    (a_ac:PySem.W.findIn K (.ref C_i) "may"=some (some (.ref f_ac)))
    (l_ac:K.lookup f_ac=some ⟨oc_ac,od_ac,.func (PySem.W.fnOf "may" "Picture.may" (xz s_ac) (xw s_ac) (xi s_ac) .none kv_ac dc_ac pm_ac an_ac cd_ac ct_ac),sl_ac⟩)
    (c_ac:PySem.W.codeIn K cd_ac "Picture.may"=true)
    (k_ac:PySem.W.keepIn K (.ref f_ac)=true)
    (i_ac:PySem.W.isFn K (.ref f_ac)=true)
    (a_w:PySem.W.findIn K (.ref C_i) "length"=some (some (.ref f_w)))
    (l_w:K.lookup f_w=some ⟨oc_w,od_w,.func (PySem.W.fnOf "length" "Picture.length" (xz s_w) (xw s_w) (xi s_w) .none kv_w dc_w pm_w an_w cd_w ct_w),sl_w⟩)
    (c_w:PySem.W.codeIn K cd_w "Picture.length"=true)
    (k_w:PySem.W.keepIn K (.ref f_w)=true)
    (i_w:PySem.W.isFn K (.ref f_w)=true)
    (a_h:PySem.W.findIn K (.ref C_i) "seats_for"=some (some (.ref f_h)))
    (l_h:K.lookup f_h=some ⟨oc_h,od_h,.func (PySem.W.fnOf "seats_for" "Picture.seats_for" (xz s_h) (xw s_h) (xi s_h) .none kv_h dc_h pm_h an_h cd_h ct_h),sl_h⟩)
    (c_h:PySem.W.codeIn K cd_h "Picture.seats_for"=true)
    (k_h:PySem.W.keepIn K (.ref f_h)=true)
    (i_h:PySem.W.isFn K (.ref f_h)=true)
    (a_t:PySem.W.findIn K (.ref C_i) "copied"=some (some (.ref f_t)))
    (l_t:K.lookup f_t=some ⟨oc_t,od_t,.func (PySem.W.fnOf "copied" "Picture.copied" (xz s_t) (xw s_t) (xi s_t) .none kv_t dc_t pm_t an_t cd_t ct_t),sl_t⟩)
    (c_t:PySem.W.codeIn K cd_t "Picture.copied"=true)
    (k_t:PySem.W.keepIn K (.ref f_t)=true)
    (i_t:PySem.W.isFn K (.ref f_t)=true)
    (a_l:PySem.W.findIn K (.ref C_i) "mirrored"=some (some (.ref f_l)))
    (l_l:K.lookup f_l=some ⟨oc_l,od_l,.func (PySem.W.fnOf "mirrored" "Picture.mirrored" (xz s_l) (xw s_l) (xi s_l) .none kv_l dc_l pm_l an_l cd_l ct_l),sl_l⟩)
    (c_l:PySem.W.codeIn K cd_l "Picture.mirrored"=true)
    (k_l:PySem.W.keepIn K (.ref f_l)=true)
    (i_l:PySem.W.isFn K (.ref f_l)=true)
    (a_u:PySem.W.findIn K (.ref C_i) "turned"=some (some (.ref f_u)))
    (l_u:K.lookup f_u=some ⟨oc_u,od_u,.func (PySem.W.fnOf "turned" "Picture.turned" (xz s_u) (xw s_u) (xi s_u) .none kv_u dc_u pm_u an_u cd_u ct_u),sl_u⟩)
    (c_u:PySem.W.codeIn K cd_u "Picture.turned"=true)
    (k_u:PySem.W.keepIn K (.ref f_u)=true)
    (i_u:PySem.W.isFn K (.ref f_u)=true)
    (a_e:PySem.W.findIn K (.ref C_i) "check_name"=some (some (.ref f_e)))
    (l_e:K.lookup f_e=some ⟨oc_e,od_e,.func (PySem.W.fnOf "check_name" "Picture.check_name" (xz s_e) (xw s_e) (xi s_e) .none kv_e dc_e pm_e an_e cd_e ct_e),sl_e⟩)
    (c_e:PySem.W.codeIn K cd_e "Picture.check_name"=true)
    (k_e:PySem.W.keepIn K (.ref f_e)=true)
    (i_e:PySem.W.isFn K (.ref f_e)=true)
    (a_g:PySem.W.findIn K (.ref C_i) "check_cell"=some (some (.ref f_g)))
    (l_g:K.lookup f_g=some ⟨oc_g,od_g,.func (PySem.W.fnOf "check_cell" "Picture.check_cell" (xz s_g) (xw s_g) (xi s_g) .none kv_g dc_g pm_g an_g cd_g ct_g),sl_g⟩)
    (c_g:PySem.W.codeIn K cd_g "Picture.check_cell"=true)
    (k_g:PySem.W.keepIn K (.ref f_g)=true)
    (i_g:PySem.W.isFn K (.ref f_g)=true)
    (a_b:PySem.W.findIn K (.ref C_i) "check_lines"=some (some (.ref f_b)))
    (l_b:K.lookup f_b=some ⟨oc_b,od_b,.func (PySem.W.fnOf "check_lines" "Picture.check_lines" (xz s_b) (xw s_b) (xi s_b) .none kv_b dc_b pm_b an_b cd_b ct_b),sl_b⟩)
    (c_b:PySem.W.codeIn K cd_b "Picture.check_lines"=true)
    (k_b:PySem.W.keepIn K (.ref f_b)=true)
    (i_b:PySem.W.isFn K (.ref f_b)=true)
    (a_a:PySem.W.findIn K (.ref C_i) "check_seat"=some (some (.ref f_a)))
    (l_a:K.lookup f_a=some ⟨oc_a,od_a,.func (PySem.W.fnOf "check_seat" "Picture.check_seat" (xz s_a) (xw s_a) (xi s_a) .none kv_a dc_a pm_a an_a cd_a ct_a),sl_a⟩)
    (c_a:PySem.W.codeIn K cd_a "Picture.check_seat"=true)
    (k_a:PySem.W.keepIn K (.ref f_a)=true)
    (i_a:PySem.W.isFn K (.ref f_a)=true)
    (a_v:PySem.W.nsIn K mainGlobals "picture_with"=some (some (.ref f_v)))
    (l_v:K.lookup f_v=some ⟨oc_v,od_v,.func (PySem.W.fnOf "picture_with" "picture_with" (xz s_v) (xw s_v) (xi s_v) .none kv_v dc_v pm_v an_v cd_v ct_v),sl_v⟩)
    (c_v:PySem.W.codeIn K cd_v "picture_with"=true)
    (k_v:PySem.W.keepIn K (.ref f_v)=true)
    (i_v:PySem.W.isFn K (.ref f_v)=true)
    (a_aa:PySem.W.nsIn K mainGlobals "_law_cell"=some (some (.ref f_aa)))
    (l_aa:K.lookup f_aa=some ⟨oc_aa,od_aa,.func (PySem.W.fnOf "_law_cell" "_law_cell" (xz s_aa) (xw s_aa) (xi s_aa) .none kv_aa dc_aa pm_aa an_aa cd_aa ct_aa),sl_aa⟩)
    (c_aa:PySem.W.codeIn K cd_aa "_law_cell"=true)
    (k_aa:PySem.W.keepIn K (.ref f_aa)=true)
    (i_aa:PySem.W.isFn K (.ref f_aa)=true)
    (a_ap:PySem.W.nsIn K mainGlobals "_law_mix"=some (some (.ref f_ap)))
    (l_ap:K.lookup f_ap=some ⟨oc_ap,od_ap,.func (PySem.W.fnOf "_law_mix" "_law_mix" (xz s_ap) (xw s_ap) (xi s_ap) .none kv_ap dc_ap pm_ap an_ap cd_ap ct_ap),sl_ap⟩)
    (c_ap:PySem.W.codeIn K cd_ap "_law_mix"=true)
    (k_ap:PySem.W.keepIn K (.ref f_ap)=true)
    (i_ap:PySem.W.isFn K (.ref f_ap)=true)
    (a_al:PySem.W.nsIn K mainGlobals "_law_names"=some (some (.ref f_al)))
    (l_al:K.lookup f_al=some ⟨oc_al,od_al,.func (PySem.W.fnOf "_law_names" "_law_names" (xz s_al) (xw s_al) (xi s_al) .none kv_al dc_al pm_al an_al cd_al ct_al),sl_al⟩)
    (c_al:PySem.W.codeIn K cd_al "_law_names"=true)
    (k_al:PySem.W.keepIn K (.ref f_al)=true)
    (i_al:PySem.W.isFn K (.ref f_al)=true)
    (a_ag:PySem.W.nsIn K mainGlobals "_law_places"=some (some (.ref f_ag)))
    (l_ag:K.lookup f_ag=some ⟨oc_ag,od_ag,.func (PySem.W.fnOf "_law_places" "_law_places" (xz s_ag) (xw s_ag) (xi s_ag) .none kv_ag dc_ag pm_ag an_ag cd_ag ct_ag),sl_ag⟩)
    (c_ag:PySem.W.codeIn K cd_ag "_law_places"=true)
    (k_ag:PySem.W.keepIn K (.ref f_ag)=true)
    (i_ag:PySem.W.isFn K (.ref f_ag)=true)
    (a_ar:PySem.W.nsIn K mainGlobals "_law_size"=some (some (.ref f_ar)))
    (l_ar:K.lookup f_ar=some ⟨oc_ar,od_ar,.func (PySem.W.fnOf "_law_size" "_law_size" (xz s_ar) (xw s_ar) (xi s_ar) .none kv_ar dc_ar pm_ar an_ar cd_ar ct_ar),sl_ar⟩)
    (c_ar:PySem.W.codeIn K cd_ar "_law_size"=true)
    (k_ar:PySem.W.keepIn K (.ref f_ar)=true)
    (i_ar:PySem.W.isFn K (.ref f_ar)=true)
    (a_z:PySem.W.nsIn K mainGlobals "_law_picture"=some (some (.ref f_z)))
    (l_z:K.lookup f_z=some ⟨oc_z,od_z,.func (PySem.W.fnOf "_law_picture" "_law_picture" (xz s_z) (xw s_z) (xi s_z) .none kv_z dc_z pm_z an_z cd_z ct_z),sl_z⟩)
    (c_z:PySem.W.codeIn K cd_z "_law_picture"=true)
    (k_z:PySem.W.keepIn K (.ref f_z)=true)
    (i_z:PySem.W.isFn K (.ref f_z)=true)
    (a_ab:PySem.W.nsIn K mainGlobals "_law_lengths"=some (some (.ref f_ab)))
    (l_ab:K.lookup f_ab=some ⟨oc_ab,od_ab,.func (PySem.W.fnOf "_law_lengths" "_law_lengths" (xz s_ab) (xw s_ab) (xi s_ab) .none kv_ab dc_ab pm_ab an_ab cd_ab ct_ab),sl_ab⟩)
    (c_ab:PySem.W.codeIn K cd_ab "_law_lengths"=true)
    (k_ab:PySem.W.keepIn K (.ref f_ab)=true)
    (i_ab:PySem.W.isFn K (.ref f_ab)=true)
    (a_af:PySem.W.nsIn K mainGlobals "_law_steps"=some (some (.ref f_af)))
    (l_af:K.lookup f_af=some ⟨oc_af,od_af,.func (PySem.W.fnOf "_law_steps" "_law_steps" (xz s_af) (xw s_af) (xi s_af) .none kv_af dc_af pm_af an_af cd_af ct_af),sl_af⟩)
    (c_af:PySem.W.codeIn K cd_af "_law_steps"=true)
    (k_af:PySem.W.keepIn K (.ref f_af)=true)
    (i_af:PySem.W.isFn K (.ref f_af)=true)
    (a_am:PySem.W.nsIn K mainGlobals "_law_order"=some (some (.ref f_am)))
    (l_am:K.lookup f_am=some ⟨oc_am,od_am,.func (PySem.W.fnOf "_law_order" "_law_order" (xz s_am) (xw s_am) (xi s_am) .none kv_am dc_am pm_am an_am cd_am ct_am),sl_am⟩)
    (c_am:PySem.W.codeIn K cd_am "_law_order"=true)
    (k_am:PySem.W.keepIn K (.ref f_am)=true)
    (i_am:PySem.W.isFn K (.ref f_am)=true)
    (a_law:PySem.W.nsIn K mainGlobals "law"=some (some (.ref f_law)))
    (l_law:K.lookup f_law=some ⟨oc_law,od_law,.func (PySem.W.fnOf "law" "law" (xz xc7) (xw xc7) (xi xc7) .none kv_law dc_law pm_law an_law cd_law ct_law),sl_law⟩)
    (c_law:PySem.W.codeIn K cd_law "law"=true)
    (k_law:PySem.W.keepIn K (.ref f_law)=true)
    (i_law:PySem.W.isFn K (.ref f_law)=true)
    (kc_ao:PySem.W.keepIn K (.ref C_ao)=true)
    (pg_ao:PySem.W.plainGet K C_ao Str.empty=true)
    (hd_ao:PySem.W.hasDictIn K C_ao=true)
    (po_ao:PySem.W.plainOver K C_ao=true)
    (sa_ao:PySem.W.findIn K (.ref C_ao) "__setattr__"=some (some (.builtin "object.__setattr__")))
    (mk_ao:PySem.W.makesIn K C_ao=true)
    (ca_ao:PySem.W.findIn K (.ref C_ao) "__class__"=some (some (.builtin "object.__class__")))
    (mo_ao:PySem.W.mroIn K C_ao (.type "object")=some true)
    (kc_ax:PySem.W.keepIn K (.ref C_ax)=true)
    (pg_ax:PySem.W.plainGet K C_ax Str.empty=true)
    (hd_ax:PySem.W.hasDictIn K C_ax=true)
    (po_ax:PySem.W.plainOver K C_ax=true)
    (sa_ax:PySem.W.findIn K (.ref C_ax) "__setattr__"=some (some (.builtin "object.__setattr__")))
    (mk_ax:PySem.W.makesIn K C_ax=true)
    (ca_ax:PySem.W.findIn K (.ref C_ax) "__class__"=some (some (.builtin "object.__class__")))
    (mo_ax:PySem.W.mroIn K C_ax (.type "object")=some true)
    (kc_au:PySem.W.keepIn K (.ref C_au)=true)
    (pg_au:PySem.W.plainGet K C_au Str.empty=true)
    (hd_au:PySem.W.hasDictIn K C_au=true)
    (po_au:PySem.W.plainOver K C_au=true)
    (sa_au:PySem.W.findIn K (.ref C_au) "__setattr__"=some (some (.builtin "object.__setattr__")))
    (mk_au:PySem.W.makesIn K C_au=true)
    (ca_au:PySem.W.findIn K (.ref C_au) "__class__"=some (some (.builtin "object.__class__")))
    (mo_au:PySem.W.mroIn K C_au (.type "object")=some true)
    (a_LeftSide_init:PySem.W.findIn K (.ref C_au) "__init__"=some (some (.ref f_ak)))
    (kc_an:PySem.W.keepIn K (.ref C_an)=true)
    (pg_an:PySem.W.plainGet K C_an Str.empty=true)
    (hd_an:PySem.W.hasDictIn K C_an=true)
    (po_an:PySem.W.plainOver K C_an=true)
    (sa_an:PySem.W.findIn K (.ref C_an) "__setattr__"=some (some (.builtin "object.__setattr__")))
    (mk_an:PySem.W.makesIn K C_an=true)
    (ca_an:PySem.W.findIn K (.ref C_an) "__class__"=some (some (.builtin "object.__class__")))
    (mo_an:PySem.W.mroIn K C_an (.type "object")=some true)
    (a_RightSide_init:PySem.W.findIn K (.ref C_an) "__init__"=some (some (.ref f_ak)))
    (kc_ai:PySem.W.keepIn K (.ref C_ai)=true)
    (pg_ai:PySem.W.plainGet K C_ai Str.empty=true)
    (hd_ai:PySem.W.hasDictIn K C_ai=true)
    (po_ai:PySem.W.plainOver K C_ai=true)
    (sa_ai:PySem.W.findIn K (.ref C_ai) "__setattr__"=some (some (.builtin "object.__setattr__")))
    (mk_ai:PySem.W.makesIn K C_ai=true)
    (ca_ai:PySem.W.findIn K (.ref C_ai) "__class__"=some (some (.builtin "object.__class__")))
    (mo_ai:PySem.W.mroIn K C_ai (.type "object")=some true)
    (kc_i:PySem.W.keepIn K (.ref C_i)=true)
    (pg_i:PySem.W.plainGet K C_i Str.empty=true)
    (hd_i:PySem.W.hasDictIn K C_i=true)
    (po_i:PySem.W.plainOver K C_i=true)
    (sa_i:PySem.W.findIn K (.ref C_i) "__setattr__"=some (some (.builtin "object.__setattr__")))
    (mk_i:PySem.W.makesIn K C_i=true)
    (ca_i:PySem.W.findIn K (.ref C_i) "__class__"=some (some (.builtin "object.__class__")))
    (mo_i:PySem.W.mroIn K C_i (.type "object")=some true)
    (cg:PySem.W.specialIn K (.builtin "object.__class__") "__get__"=some (some (.builtin "getset_descriptor.__get__")))
    (ct:PySem.W.takesIn K (.builtin "object.__class__")=some true)
    (n_a6:PySem.W.findIn K (.ref C_an) "width"=some none)
    (n_ay:PySem.W.findIn K (.ref C_i) "placed"=some none)
    (n_aw:PySem.W.findIn K (.ref C_i) "height"=some none)
    (n_a0:PySem.W.findIn K (.ref C_i) "width"=some none)
    (n_a1:PySem.W.findIn K (.ref C_i) "opened"=some none)
    (n_az:PySem.W.findIn K (.ref C_ao) "holder_of"=some none)
    (n_a2:PySem.W.findIn K (.ref C_ao) "seat_of"=some none)
    (n_a4:PySem.W.findIn K (.ref C_ai) "lengths"=some none)
    (n_a7:PySem.W.findIn K (.ref C_ai) "own"=some none)
    (n_a8:PySem.W.findIn K (.ref C_ai) "rent"=some none)
    (n_a3:PySem.W.findIn K (.ref C_ai) "seating"=some none)
    (n_a5:PySem.W.findIn K (.ref C_ai) "picture"=some none)
    (n_bd:PySem.W.findIn K (.ref C_ax) "width"=some none)
    (n_bb:PySem.W.findIn K (.ref C_au) "width"=some none)
    (n_abs:PySem.W.nsIn K mainGlobals "abs"=some none)
    (n_bool:PySem.W.nsIn K mainGlobals "bool"=some none)
    (n_dict:PySem.W.nsIn K mainGlobals "dict"=some none)
    (n_enumerate:PySem.W.nsIn K mainGlobals "enumerate"=some none)
    (n_int:PySem.W.nsIn K mainGlobals "int"=some none)
    (n_isinstance:PySem.W.nsIn K mainGlobals "isinstance"=some none)
    (n_len:PySem.W.nsIn K mainGlobals "len"=some none)
    (n_list:PySem.W.nsIn K mainGlobals "list"=some none)
    (n_min:PySem.W.nsIn K mainGlobals "min"=some none)
    (n_range:PySem.W.nsIn K mainGlobals "range"=some none)
    (n_sorted:PySem.W.nsIn K mainGlobals "sorted"=some none)
    (n_str:PySem.W.nsIn K mainGlobals "str"=some none)
    (n_sum:PySem.W.nsIn K mainGlobals "sum"=some none)
    (v_bc:PySem.W.nsIn K mainGlobals "MOST_ROWS"=some (some (.int 16 tkc_bc)))
    (v_a9:PySem.W.nsIn K mainGlobals "MOST_COLUMNS"=some (some (.int 30 tkc_a9)))
    (v_ba:PySem.W.nsIn K mainGlobals "MOST_POINTS"=some (some (.int 12 tkc_ba)))
    (g_as:PySem.W.nsIn K mainGlobals "MIRRORED_SIDES"=some (some (.ref D_as)))
    (l_as:K.lookup D_as=some ⟨.type "dict",none,.dict #[⟨hashStr w "left",.str "left" ta0_as,.str "right" tb0_as⟩,⟨hashStr w "right",.str "right" ta1_as,.str "left" tb1_as⟩,⟨hashStr w "both",.str "both" ta2_as,.str "both" tb2_as⟩] ep_as,#[]⟩)
    (ns_as:(D_as == sysModules)=false)
   :∃ t,Txt w K mg t :=
  ⟨⟨f_ad,_,f_n,_,f_d,_,f_crowds,_,f_fits,_,f_aq,_,f_kept,_,f_ak,_,f_r,_,f_o,_,f_at,_,f_ah,_,f_y,_,f_x,_,f_q,_,f_c,_,f_least,_,f_aj,_,f_av,_,f_ae,_,f_s,_,T_s,f_f,_,f_k,_,f_j,_,f_m,_,f_p,_,f_ac,_,f_w,_,f_h,_,f_t,_,f_l,_,f_u,_,f_e,_,f_g,_,f_b,_,f_a,_,f_v,_,f_aa,_,f_ap,_,f_al,_,f_ag,_,f_ar,_,f_z,_,f_ab,_,f_af,_,f_am,_,f_law,_,C_ao,C_ax,C_au,C_an,C_ai,C_i,D_as⟩,{
    g_ao:=PySem.W.mg_of X G g_ao
    g_ax:=PySem.W.mg_of X G g_ax
    g_au:=PySem.W.mg_of X G g_au
    g_an:=PySem.W.mg_of X G g_an
    g_ai:=PySem.W.mg_of X G g_ai
    g_i:=PySem.W.mg_of X G g_i
    F_ad:=xr (st:=s_ad) l_ad c_ad k_ad
    b_ad:=(xr (st:=s_ad) l_ad c_ad k_ad).binds (ps:=["self"]) fun _ _ _ _ _ _ us hl=>xch us hl fun _=>rfl
    F_n:=xr (st:=s_n) l_n c_n k_n
    b_n:=(xr (st:=s_n) l_n c_n k_n).binds (ps:=["self", "asked_by", "free_seat"]) fun _ _ _ _ _ _ us hl=>xct us hl fun _ _ _=>rfl
    F_d:=xr (st:=s_d) l_d c_d k_d
    b_d:=(xr (st:=s_d) l_d c_d k_d).binds (ps:=["self", "name", "rooms"]) fun _ _ _ _ _ _ us hl=>xct us hl fun _ _ _=>rfl
    g_crowds:=PySem.W.mg_of X G a_crowds
    F_crowds:=xr (st:=xcd) l_crowds c_crowds k_crowds
    b_crowds:=(xr (st:=xcd) l_crowds c_crowds k_crowds).binds (ps:=["picture", "names"]) fun _ _ _ _ _ _ us hl=>xbt us hl fun _ _=>rfl
    g_fits:=PySem.W.mg_of X G a_fits
    F_fits:=xr (st:=xdv) l_fits c_fits k_fits
    b_fits:=(xr (st:=xdv) l_fits c_fits k_fits).binds (ps:=["picture", "names"]) fun _ _ _ _ _ _ us hl=>xbt us hl fun _ _=>rfl
    g_aq:=PySem.W.mg_of X G a_aq
    F_aq:=xr (st:=s_aq) l_aq c_aq k_aq
    b_aq:=(xr (st:=s_aq) l_aq c_aq k_aq).binds (ps:=["picture"]) fun _ _ _ _ _ _ us hl=>xch us hl fun _=>rfl
    g_kept:=PySem.W.mg_of X G a_kept
    F_kept:=xr (st:=xcy) l_kept c_kept k_kept
    b_kept:=(xr (st:=xcy) l_kept c_kept k_kept).binds (ps:=["picture"]) fun _ _ _ _ _ _ us hl=>xch us hl fun _=>rfl
    F_ak:=xr (st:=s_ak) l_ak c_ak k_ak
    b_ak:=(xr (st:=s_ak) l_ak c_ak k_ak).binds (ps:=["self", "width"]) fun _ _ _ _ _ _ us hl=>xbt us hl fun _ _=>rfl
    F_r:=xr (st:=s_r) l_r c_r k_r
    b_r:=(xr (st:=s_r) l_r c_r k_r).binds (ps:=["self", "x"]) fun _ _ _ _ _ _ us hl=>xbt us hl fun _ _=>rfl
    F_o:=xr (st:=s_o) l_o c_o k_o
    b_o:=(xr (st:=s_o) l_o c_o k_o).binds (ps:=["self", "x"]) fun _ _ _ _ _ _ us hl=>xbt us hl fun _ _=>rfl
    g_at:=PySem.W.mg_of X G a_at
    F_at:=xr (st:=s_at) l_at c_at k_at
    b_at:=(xr (st:=s_at) l_at c_at k_at).binds (ps:=["word", "width"]) fun _ _ _ _ _ _ us hl=>xbt us hl fun _ _=>rfl
    F_ah:=xr (st:=s_ah) l_ah c_ah k_ah
    b_ah:=(xr (st:=s_ah) l_ah c_ah k_ah).binds (ps:=["self", "picture"]) fun _ _ _ _ _ _ us hl=>xbt us hl fun _ _=>rfl
    F_y:=xr (st:=s_y) l_y c_y k_y
    b_y:=(xr (st:=s_y) l_y c_y k_y).binds (ps:=["self", "name"]) fun _ _ _ _ _ _ us hl=>xbt us hl fun _ _=>rfl
    F_x:=xr (st:=s_x) l_x c_x k_x
    b_x:=(xr (st:=s_x) l_x c_x k_x).binds (ps:=["self", "askers", "asked_by"]) fun _ _ _ _ _ _ us hl=>xct us hl fun _ _ _=>rfl
    F_q:=xr (st:=s_q) l_q c_q k_q
    b_q:=(xr (st:=s_q) l_q c_q k_q).binds (ps:=["self", "askers", "asked_by"]) fun _ _ _ _ _ _ us hl=>xct us hl fun _ _ _=>rfl
    F_c:=xr (st:=s_c) l_c c_c k_c
    b_c:=(xr (st:=s_c) l_c c_c k_c).binds (ps:=["self", "askers", "asked_by", "gap"]) fun _ _ _ _ _ _ us hl=>xgf us hl fun _ _ _ _=>rfl
    g_least:=PySem.W.mg_of X G a_least
    F_least:=xr (st:=xcr) l_least c_least k_least
    b_least:=(xr (st:=xcr) l_least c_least k_least).binds (ps:=["picture", "names"]) fun _ _ _ _ _ _ us hl=>xbt us hl fun _ _=>rfl
    g_aj:=PySem.W.mg_of X G a_aj
    F_aj:=xr (st:=s_aj) l_aj c_aj k_aj
    b_aj:=(xr (st:=s_aj) l_aj c_aj k_aj).binds (ps:=["thing", "low", "high"]) fun _ _ _ _ _ _ us hl=>xct us hl fun _ _ _=>rfl
    g_av:=PySem.W.mg_of X G a_av
    F_av:=xr (st:=s_av) l_av c_av k_av
    b_av:=(xr (st:=s_av) l_av c_av k_av).binds (ps:=["thing"]) fun _ _ _ _ _ _ us hl=>xch us hl fun _=>rfl
    F_ae:=xr (st:=s_ae) l_ae c_ae k_ae
    b_ae:=(xr (st:=s_ae) l_ae c_ae k_ae).binds (ps:=["self", "width", "height"]) fun _ _ _ _ _ _ us hl=>xct us hl fun _ _ _=>rfl
    F_s:=(xj9 (st:=s_s) l_s c_s k_s)
    b_s:=(xj9 (st:=s_s) l_s c_s k_s).binds t_s rfl 7 rfl fun _ _ _ _ _ _ us hl=>xr6 us hl fun _ _ _ _ _ _ _=>⟨_,rfl,rfl⟩
    F_f:=xr (st:=s_f) l_f c_f k_f
    b_f:=(xr (st:=s_f) l_f c_f k_f).binds (ps:=["self", "side", "row"]) fun _ _ _ _ _ _ us hl=>xct us hl fun _ _ _=>rfl
    F_k:=xr (st:=s_k) l_k c_k k_k
    b_k:=(xr (st:=s_k) l_k c_k k_k).binds (ps:=["self", "side", "row"]) fun _ _ _ _ _ _ us hl=>xct us hl fun _ _ _=>rfl
    F_j:=xr (st:=s_j) l_j c_j k_j
    b_j:=(xr (st:=s_j) l_j c_j k_j).binds (ps:=["self"]) fun _ _ _ _ _ _ us hl=>xch us hl fun _=>rfl
    F_m:=xr (st:=s_m) l_m c_m k_m
    b_m:=(xr (st:=s_m) l_m c_m k_m).binds (ps:=["self"]) fun _ _ _ _ _ _ us hl=>xch us hl fun _=>rfl
    F_p:=xr (st:=s_p) l_p c_p k_p
    b_p:=(xr (st:=s_p) l_p c_p k_p).binds (ps:=["self", "name"]) fun _ _ _ _ _ _ us hl=>xbt us hl fun _ _=>rfl
    F_ac:=xr (st:=s_ac) l_ac c_ac k_ac
    b_ac:=(xr (st:=s_ac) l_ac c_ac k_ac).binds (ps:=["self", "name", "side", "row"]) fun _ _ _ _ _ _ us hl=>xgf us hl fun _ _ _ _=>rfl
    F_w:=xr (st:=s_w) l_w c_w k_w
    b_w:=(xr (st:=s_w) l_w c_w k_w).binds (ps:=["self", "name", "side", "row"]) fun _ _ _ _ _ _ us hl=>xgf us hl fun _ _ _ _=>rfl
    F_h:=xr (st:=s_h) l_h c_h k_h
    b_h:=(xr (st:=s_h) l_h c_h k_h).binds (ps:=["self", "name"]) fun _ _ _ _ _ _ us hl=>xbt us hl fun _ _=>rfl
    F_t:=xr (st:=s_t) l_t c_t k_t
    b_t:=(xr (st:=s_t) l_t c_t k_t).binds (ps:=["self"]) fun _ _ _ _ _ _ us hl=>xch us hl fun _=>rfl
    F_l:=xr (st:=s_l) l_l c_l k_l
    b_l:=(xr (st:=s_l) l_l c_l k_l).binds (ps:=["self"]) fun _ _ _ _ _ _ us hl=>xch us hl fun _=>rfl
    F_u:=xr (st:=s_u) l_u c_u k_u
    b_u:=(xr (st:=s_u) l_u c_u k_u).binds (ps:=["self"]) fun _ _ _ _ _ _ us hl=>xch us hl fun _=>rfl
    F_e:=xr (st:=s_e) l_e c_e k_e
    b_e:=(xr (st:=s_e) l_e c_e k_e).binds (ps:=["self", "name"]) fun _ _ _ _ _ _ us hl=>xbt us hl fun _ _=>rfl
    F_g:=xr (st:=s_g) l_g c_g k_g
    b_g:=(xr (st:=s_g) l_g c_g k_g).binds (ps:=["self", "x", "y"]) fun _ _ _ _ _ _ us hl=>xct us hl fun _ _ _=>rfl
    F_b:=xr (st:=s_b) l_b c_b k_b
    b_b:=(xr (st:=s_b) l_b c_b k_b).binds (ps:=["self", "name", "x", "y"]) fun _ _ _ _ _ _ us hl=>xgf us hl fun _ _ _ _=>rfl
    F_a:=xr (st:=s_a) l_a c_a k_a
    b_a:=(xr (st:=s_a) l_a c_a k_a).binds (ps:=["self", "side", "row"]) fun _ _ _ _ _ _ us hl=>xct us hl fun _ _ _=>rfl
    g_v:=PySem.W.mg_of X G a_v
    F_v:=xr (st:=s_v) l_v c_v k_v
    b_v:=(xr (st:=s_v) l_v c_v k_v).binds (ps:=["width", "height", "points", "seats"]) fun _ _ _ _ _ _ us hl=>xgf us hl fun _ _ _ _=>rfl
    g_aa:=PySem.W.mg_of X G a_aa
    F_aa:=xr (st:=s_aa) l_aa c_aa k_aa
    b_aa:=(xr (st:=s_aa) l_aa c_aa k_aa).binds (ps:=["_law_script", "_law_k"]) fun _ _ _ _ _ _ us hl=>xbt us hl fun _ _=>rfl
    g_ap:=PySem.W.mg_of X G a_ap
    F_ap:=xr (st:=s_ap) l_ap c_ap k_ap
    b_ap:=(xr (st:=s_ap) l_ap c_ap k_ap).binds (ps:=["_law_cell_here", "_law_k"]) fun _ _ _ _ _ _ us hl=>xbt us hl fun _ _=>rfl
    g_al:=PySem.W.mg_of X G a_al
    F_al:=xr (st:=s_al) l_al c_al k_al
    b_al:=(xr (st:=s_al) l_al c_al k_al).binds (ps:=["_law_cell_here", "_law_many"]) fun _ _ _ _ _ _ us hl=>xbt us hl fun _ _=>rfl
    g_ag:=PySem.W.mg_of X G a_ag
    F_ag:=xr (st:=s_ag) l_ag c_ag k_ag
    b_ag:=(xr (st:=s_ag) l_ag c_ag k_ag).binds (ps:=["_law_cell_here", "_law_size_here", "_law_many"]) fun _ _ _ _ _ _ us hl=>xct us hl fun _ _ _=>rfl
    g_ar:=PySem.W.mg_of X G a_ar
    F_ar:=xr (st:=s_ar) l_ar c_ar k_ar
    b_ar:=(xr (st:=s_ar) l_ar c_ar k_ar).binds (ps:=["_law_cell_here"]) fun _ _ _ _ _ _ us hl=>xch us hl fun _=>rfl
    g_z:=PySem.W.mg_of X G a_z
    F_z:=xr (st:=s_z) l_z c_z k_z
    b_z:=(xr (st:=s_z) l_z c_z k_z).binds (ps:=["_law_script"]) fun _ _ _ _ _ _ us hl=>xch us hl fun _=>rfl
    g_ab:=PySem.W.mg_of X G a_ab
    F_ab:=xr (st:=s_ab) l_ab c_ab k_ab
    b_ab:=(xr (st:=s_ab) l_ab c_ab k_ab).binds (ps:=["_law_picture_here"]) fun _ _ _ _ _ _ us hl=>xch us hl fun _=>rfl
    g_af:=PySem.W.mg_of X G a_af
    F_af:=xr (st:=s_af) l_af c_af k_af
    b_af:=(xr (st:=s_af) l_af c_af k_af).binds (ps:=["_law_picture_here", "_law_names_here"]) fun _ _ _ _ _ _ us hl=>xbt us hl fun _ _=>rfl
    g_am:=PySem.W.mg_of X G a_am
    F_am:=xr (st:=s_am) l_am c_am k_am
    b_am:=(xr (st:=s_am) l_am c_am k_am).binds (ps:=["_law_names_here", "_law_cell_here"]) fun _ _ _ _ _ _ us hl=>xbt us hl fun _ _=>rfl
    g_law:=PySem.W.mg_of X G a_law
    F_law:=xr (st:=xc7) l_law c_law k_law
    b_law:=(xr (st:=xc7) l_law c_law k_law).binds (ps:=["_law_script"]) fun _ _ _ _ _ _ us hl=>xch us hl fun _=>rfl
    c_ao:=⟨pg_ao,hd_ao,po_ao,sa_ao⟩
    ca_ao:=ca_ao
    mo_ao:=mo_ao
    k_ao:=⟨mk_ao,a_ad,i_ad,kc_ao⟩
    m_n:=⟨a_n,i_n,k_n⟩
    m_d:=⟨a_d,i_d,k_d⟩
    c_ax:=⟨pg_ax,hd_ax,po_ax,sa_ax⟩
    ca_ax:=ca_ax
    mo_ax:=mo_ax
    k_ax:=⟨mk_ax,a_ak,i_ak,kc_ax⟩
    c_au:=⟨pg_au,hd_au,po_au,sa_au⟩
    ca_au:=ca_au
    mo_au:=mo_au
    k_au:=⟨mk_au,a_LeftSide_init,i_ak,kc_au⟩
    m_r:=⟨a_r,i_r,k_r⟩
    c_an:=⟨pg_an,hd_an,po_an,sa_an⟩
    ca_an:=ca_an
    mo_an:=mo_an
    k_an:=⟨mk_an,a_RightSide_init,i_ak,kc_an⟩
    m_o:=⟨a_o,i_o,k_o⟩
    c_ai:=⟨pg_ai,hd_ai,po_ai,sa_ai⟩
    ca_ai:=ca_ai
    mo_ai:=mo_ai
    k_ai:=⟨mk_ai,a_ah,i_ah,kc_ai⟩
    m_y:=⟨a_y,i_y,k_y⟩
    m_x:=⟨a_x,i_x,k_x⟩
    m_q:=⟨a_q,i_q,k_q⟩
    m_c:=⟨a_c,i_c,k_c⟩
    c_i:=⟨pg_i,hd_i,po_i,sa_i⟩
    ca_i:=ca_i
    mo_i:=mo_i
    k_i:=⟨mk_i,a_ae,i_ae,kc_i⟩
    m_s:=⟨a_s,i_s,k_s⟩
    m_f:=⟨a_f,i_f,k_f⟩
    m_k:=⟨a_k,i_k,k_k⟩
    m_j:=⟨a_j,i_j,k_j⟩
    m_m:=⟨a_m,i_m,k_m⟩
    m_p:=⟨a_p,i_p,k_p⟩
    m_ac:=⟨a_ac,i_ac,k_ac⟩
    m_w:=⟨a_w,i_w,k_w⟩
    m_h:=⟨a_h,i_h,k_h⟩
    m_t:=⟨a_t,i_t,k_t⟩
    m_l:=⟨a_l,i_l,k_l⟩
    m_u:=⟨a_u,i_u,k_u⟩
    m_e:=⟨a_e,i_e,k_e⟩
    m_g:=⟨a_g,i_g,k_g⟩
    m_b:=⟨a_b,i_b,k_b⟩
    m_a:=⟨a_a,i_a,k_a⟩
    cg:=cg
    ct:=ct
    n_a6:=n_a6
    n_ay:=n_ay
    n_aw:=n_aw
    n_a0:=n_a0
    n_a1:=n_a1
    n_az:=n_az
    n_a2:=n_a2
    n_a4:=n_a4
    n_a7:=n_a7
    n_a8:=n_a8
    n_a3:=n_a3
    n_a5:=n_a5
    n_bd:=n_bd
    n_bb:=n_bb
    n_abs:=PySem.W.mg_none_of X G n_abs
    n_bool:=PySem.W.mg_none_of X G n_bool
    n_dict:=PySem.W.mg_none_of X G n_dict
    n_enumerate:=PySem.W.mg_none_of X G n_enumerate
    n_int:=PySem.W.mg_none_of X G n_int
    n_isinstance:=PySem.W.mg_none_of X G n_isinstance
    n_len:=PySem.W.mg_none_of X G n_len
    n_list:=PySem.W.mg_none_of X G n_list
    n_min:=PySem.W.mg_none_of X G n_min
    n_range:=PySem.W.mg_none_of X G n_range
    n_sorted:=PySem.W.mg_none_of X G n_sorted
    n_str:=PySem.W.mg_none_of X G n_str
    n_sum:=PySem.W.mg_none_of X G n_sum
    v_bc:=⟨_,PySem.W.mg_of X G v_bc⟩
    v_a9:=⟨_,PySem.W.mg_of X G v_a9⟩
    v_ba:=⟨_,PySem.W.mg_of X G v_ba⟩
    g_as:=PySem.W.mg_of X G g_as
    D_as:=⟨ns_as,_,_,l_as,.cons rfl ⟨_,rfl⟩ ⟨_,rfl⟩ (.cons rfl ⟨_,rfl⟩ ⟨_,rfl⟩ (.cons rfl ⟨_,rfl⟩ ⟨_,rfl⟩ (.nil))),by decide⟩ }⟩
theorem sc_ad:x9 ["self"] ["self"] (xi s_ad):=⟨rfl,rfl,rfl,by decide +kernel,rfl,by decide +kernel,by decide +kernel⟩
theorem sc_n:x9 ["self", "asked_by", "free_seat", "seat", "name", "left_behind"] ["self", "asked_by", "free_seat"] (xi s_n):=⟨rfl,rfl,rfl,by decide +kernel,rfl,by decide +kernel,by decide +kernel⟩
theorem sc_d:x9 ["self", "name", "rooms", "crowd", "asked_by", "number", "asker", "seat"] ["self", "name", "rooms"] (xi s_d):=⟨rfl,rfl,rfl,by decide +kernel,rfl,by decide +kernel,by decide +kernel⟩
theorem xcp:x9 ["picture", "names", "rooms", "seating", "found", "name", "crowd"] ["picture", "names"] (xi xcd):=⟨rfl,rfl,rfl,by decide +kernel,rfl,by decide +kernel,by decide +kernel⟩
theorem xj6:x9 ["picture", "names", "found"] ["picture", "names"] (xi xdv):=⟨rfl,rfl,rfl,by decide +kernel,rfl,by decide +kernel,by decide +kernel⟩
theorem sc_aq:x9 ["picture", "names"] ["picture"] (xi s_aq):=⟨rfl,rfl,rfl,by decide +kernel,rfl,by decide +kernel,by decide +kernel⟩
theorem xje:x9 ["picture", "out"] ["picture"] (xi xcy):=⟨rfl,rfl,rfl,by decide +kernel,rfl,by decide +kernel,by decide +kernel⟩
theorem sc_ak:x9 ["self", "width"] ["self", "width"] (xi s_ak):=⟨rfl,rfl,rfl,by decide +kernel,rfl,by decide +kernel,by decide +kernel⟩
theorem sc_r:x9 ["self", "x"] ["self", "x"] (xi s_r):=⟨rfl,rfl,rfl,by decide +kernel,rfl,by decide +kernel,by decide +kernel⟩
theorem sc_o:x9 ["self", "x"] ["self", "x"] (xi s_o):=⟨rfl,rfl,rfl,by decide +kernel,rfl,by decide +kernel,by decide +kernel⟩
theorem sc_at:x9 ["word", "width"] ["word", "width"] (xi s_at):=⟨rfl,rfl,rfl,by decide +kernel,rfl,by decide +kernel,by decide +kernel⟩
theorem sc_ah:x9 ["self", "picture"] ["self", "picture"] (xi s_ah):=⟨rfl,rfl,rfl,by decide +kernel,rfl,by decide +kernel,by decide +kernel⟩
theorem sc_y:x9 ["self", "name", "askers", "asked_by", "seat"] ["self", "name"] (xi s_y):=⟨rfl,rfl,rfl,by decide +kernel,rfl,by decide +kernel,by decide +kernel⟩
theorem sc_x:x9 ["self", "askers", "asked_by", "gap", "asker", "seat"] ["self", "askers", "asked_by"] (xi s_x):=⟨rfl,rfl,rfl,by decide +kernel,rfl,by decide +kernel,by decide +kernel⟩
theorem sc_q:x9 ["self", "askers", "asked_by", "found", "asker", "seat", "length", "gap"] ["self", "askers", "asked_by"] (xi s_q):=⟨rfl,rfl,rfl,by decide +kernel,rfl,by decide +kernel,by decide +kernel⟩
theorem sc_c:x9 ["self", "askers", "asked_by", "gap", "asker", "seat"] ["self", "askers", "asked_by", "gap"] (xi s_c):=⟨rfl,rfl,rfl,by decide +kernel,rfl,by decide +kernel,by decide +kernel⟩
theorem xeh:x9 ["picture", "names", "crowd", "prices", "name", "pairs"] ["picture", "names"] (xi xcr):=⟨rfl,rfl,rfl,by decide +kernel,rfl,by decide +kernel,by decide +kernel⟩
theorem sc_aj:x9 ["thing", "low", "high"] ["thing", "low", "high"] (xi s_aj):=⟨rfl,rfl,rfl,by decide +kernel,rfl,by decide +kernel,by decide +kernel⟩
theorem sc_av:x9 ["thing"] ["thing"] (xi s_av):=⟨rfl,rfl,rfl,by decide +kernel,rfl,by decide +kernel,by decide +kernel⟩
theorem sc_ae:x9 ["self", "width", "height"] ["self", "width", "height"] (xi s_ae):=⟨rfl,rfl,rfl,by decide +kernel,rfl,by decide +kernel,by decide +kernel⟩
theorem sc_s:x9 ["self", "name", "x", "y", "sides", "low", "high", "highest"] ["self", "name", "x", "y", "sides", "low", "high"] (xi s_s):=⟨rfl,rfl,rfl,by decide +kernel,rfl,by decide +kernel,by decide +kernel⟩
theorem sc_f:x9 ["self", "side", "row"] ["self", "side", "row"] (xi s_f):=⟨rfl,rfl,rfl,by decide +kernel,rfl,by decide +kernel,by decide +kernel⟩
theorem sc_k:x9 ["self", "side", "row"] ["self", "side", "row"] (xi s_k):=⟨rfl,rfl,rfl,by decide +kernel,rfl,by decide +kernel,by decide +kernel⟩
theorem sc_j:x9 ["self"] ["self"] (xi s_j):=⟨rfl,rfl,rfl,by decide +kernel,rfl,by decide +kernel,by decide +kernel⟩
theorem sc_m:x9 ["self"] ["self"] (xi s_m):=⟨rfl,rfl,rfl,by decide +kernel,rfl,by decide +kernel,by decide +kernel⟩
theorem sc_p:x9 ["self", "name"] ["self", "name"] (xi s_p):=⟨rfl,rfl,rfl,by decide +kernel,rfl,by decide +kernel,by decide +kernel⟩
theorem sc_ac:x9 ["self", "name", "side", "row", "x", "y", "sides", "low", "high"] ["self", "name", "side", "row"] (xi s_ac):=⟨rfl,rfl,rfl,by decide +kernel,rfl,by decide +kernel,by decide +kernel⟩
theorem sc_w:x9 ["self", "name", "side", "row", "x", "y"] ["self", "name", "side", "row"] (xi s_w):=⟨rfl,rfl,rfl,by decide +kernel,rfl,by decide +kernel,by decide +kernel⟩
theorem sc_h:x9 ["self", "name"] ["self", "name"] (xi s_h):=⟨rfl,rfl,rfl,by decide +kernel,rfl,by decide +kernel,by decide +kernel⟩
theorem sc_t:x9 ["self"] ["self"] (xi s_t):=⟨rfl,rfl,rfl,by decide +kernel,rfl,by decide +kernel,by decide +kernel⟩
theorem sc_l:x9 ["self", "columns", "points", "seats"] ["self"] (xi s_l):=⟨rfl,rfl,rfl,by decide +kernel,rfl,by decide +kernel,by decide +kernel⟩
theorem sc_u:x9 ["self", "rows", "points", "seats"] ["self"] (xi s_u):=⟨rfl,rfl,rfl,by decide +kernel,rfl,by decide +kernel,by decide +kernel⟩
theorem sc_e:x9 ["self", "name"] ["self", "name"] (xi s_e):=⟨rfl,rfl,rfl,by decide +kernel,rfl,by decide +kernel,by decide +kernel⟩
theorem sc_g:x9 ["self", "x", "y"] ["self", "x", "y"] (xi s_g):=⟨rfl,rfl,rfl,by decide +kernel,rfl,by decide +kernel,by decide +kernel⟩
theorem sc_b:x9 ["self", "name", "x", "y", "others", "other"] ["self", "name", "x", "y"] (xi s_b):=⟨rfl,rfl,rfl,by decide +kernel,rfl,by decide +kernel,by decide +kernel⟩
theorem sc_a:x9 ["self", "side", "row"] ["self", "side", "row"] (xi s_a):=⟨rfl,rfl,rfl,by decide +kernel,rfl,by decide +kernel,by decide +kernel⟩
theorem sc_v:x9 ["width", "height", "points", "seats", "picture", "name", "x", "y", "sides", "low", "high", "side", "row"] ["width", "height", "points", "seats"] (xi s_v):=⟨rfl,rfl,rfl,by decide +kernel,rfl,by decide +kernel,by decide +kernel⟩
theorem sc_aa:x9 ["_law_script", "_law_k"] ["_law_script", "_law_k"] (xi s_aa):=⟨rfl,rfl,rfl,by decide +kernel,rfl,by decide +kernel,by decide +kernel⟩
theorem sc_ap:x9 ["_law_cell_here", "_law_k", "_law_number"] ["_law_cell_here", "_law_k"] (xi s_ap):=⟨rfl,rfl,rfl,by decide +kernel,rfl,by decide +kernel,by decide +kernel⟩
theorem sc_al:x9 ["_law_cell_here", "_law_many", "_law_letters", "_law_step"] ["_law_cell_here", "_law_many"] (xi s_al):=⟨rfl,rfl,rfl,by decide +kernel,rfl,by decide +kernel,by decide +kernel⟩
theorem sc_ag:x9 ["_law_cell_here", "_law_size_here", "_law_many", "_law_left", "_law_found", "_law_k"] ["_law_cell_here", "_law_size_here", "_law_many"] (xi s_ag):=⟨rfl,rfl,rfl,by decide +kernel,rfl,by decide +kernel,by decide +kernel⟩
theorem sc_ar:x9 ["_law_cell_here"] ["_law_cell_here"] (xi s_ar):=⟨rfl,rfl,rfl,by decide +kernel,rfl,by decide +kernel,by decide +kernel⟩
theorem sc_z:x9 ["_law_script", "_law_width", "_law_height", "_law_most", "_law_many", "_law_names_here", "_law_xs", "_law_ys", "_law_picture_here", "_law_k", "_law_number", "_law_low", "_law_high", "_law_bar", "_law_row", "_law_side", "_law_place", "_law_is_open"] ["_law_script"] (xi s_z):=⟨rfl,rfl,rfl,by decide +kernel,rfl,by decide +kernel,by decide +kernel⟩
theorem sc_ab:x9 ["_law_picture_here", "_law_found", "_law_name", "_law_x", "_law_y", "_law_sides", "_law_low", "_law_high", "_law_side", "_law_row", "_law_across"] ["_law_picture_here"] (xi s_ab):=⟨rfl,rfl,rfl,by decide +kernel,rfl,by decide +kernel,by decide +kernel⟩
theorem sc_af:x9 ["_law_picture_here", "_law_names_here", "_law_lengths_here", "_law_pairs", "_law_own", "_law_rent", "_law_steps_here"] ["_law_picture_here", "_law_names_here"] (xi s_af):=⟨rfl,rfl,rfl,by decide +kernel,rfl,by decide +kernel,by decide +kernel⟩
theorem sc_am:x9 ["_law_names_here", "_law_cell_here", "_law_left"] ["_law_names_here", "_law_cell_here"] (xi s_am):=⟨rfl,rfl,rfl,by decide +kernel,rfl,by decide +kernel,by decide +kernel⟩
theorem xbq:x9 ["_law_script", "_law_picture_here", "_law_names_here", "_law_best", "_law_other", "_law_taken", "_law_free", "_law_side", "_law_row", "_law_at", "_law_fewer", "_law_cell_here", "_law_more"] ["_law_script"] (xi xc7):=⟨rfl,rfl,rfl,by decide +kernel,rfl,by decide +kernel,by decide +kernel⟩
end S44
namespace S44
open PySem L2 XL PyProof.Rows
theorem xc5 {K:PySem.W.Frag}{v:Value}:PySem.W.kitOne K v v=some true:=if_pos (by simp)
theorem xo {H H':Hp}{p:Addr}{o:HO} (s:Same H H') (hp:H' p=none):Same H (L2.upd H' p o):=fun b u z=>by
 have z':=s b u z
 rw[xf (xb z' hp)]
 exact z'
theorem xnw {H:Hp}{x dx:Addr}{a b c:HO} (hx:H x=none) (hd:H dx=none):Same H (upd (upd (upd H dx a) x b) x c):=fun y o e=>by
 rw[xf (xb e hx),xf (xb e hx),xf (xb e hd)]
 exact e
def xaa (b:Bool):Str:=if b then "left" else "right"
def xln (t:Adr) (H:Hp) (p:Addr) (b:Bool) (w:Int):Prop:=∃ dx,H p=some (.ins (if b then t.C_au else t.C_an) dx [("width",.int w)])
def xqi (K:PySem.W.Frag):Sp:=fun vs H Q _=>∃(p C dx:Addr) (n:Int),vs=[.ref p,.int n]/\H p=some (.ins C dx [])/\Cls K C/\xdx K C "width"/\Q .non (upd H p (.ins C dx [("width",.int n)]))
def xrv:Sp:=fun vs H Q _=>∃(p:V) (x:V),vs=[p,x]/\Q x H
def xrj (t:Adr):Sp:=fun vs H Q _=>∃(p:Addr) (n x:Int),vs=[.ref p,.int x]/\xln t H p false n/\Q (.int (n+1-x)) H
def xm0 (t:Adr):Sp:=fun vs H Q _=>∃(b:Bool) (n:Int),vs=[.str (xaa b),.int n]/\∀ p H',H p=none->xln t H' p b n->Same H H'->Q (.ref p) H'
section
variable {P:Program}{w:World}{K:PySem.W.Frag}{mg:Str->Option Value}{base:Heap}{t:Adr}
theorem ok_ak (T:Txt w K mg t):FnOk true P w K mg base (CXo P w) 1 t.f_ak t.d_ak ["self", "width"] (xqi K):=by
 refine T.F_ak.okn (k:=0) sc_ak (fun vs H Q E h=>?_) (fun cdv A outer s H vs Q E hr h=>?_)
 .obtain ⟨p,C,dx,n,rfl,_⟩:=h
  rfl
 .obtain ⟨p,C,dx,n,rfl,h⟩:=h
  refine⟨_,xl (xb8 (pv 0) (pv 1) rfl),?_⟩
  obtain⟨hp,c,na,q⟩:=h
  exact⟨_,rfl,_,rfl,p,C,dx,[],rfl,hp,c,na,(by show 0<1000; decide),q⟩
theorem ok_r (T:Txt w K mg t):FnOk true P w K mg base (CXo P w) 1 t.f_r t.d_r ["self", "x"] (xrv):=by
 refine T.F_r.okn (k:=0) sc_r (fun vs H Q E h=>?_) (fun cdv A outer s H vs Q E hr h=>?_)
 .obtain ⟨p,x,rfl,_⟩:=h
  rfl
 .obtain ⟨p,x,rfl,h⟩:=h
  refine⟨_,xl (xaf (pv 1)),?_⟩
  exact⟨_,rfl,h⟩
theorem ok_o (T:Txt w K mg t):FnOk true P w K mg base (CXo P w) 1 t.f_o t.d_o ["self", "x"] (xrj t):=by
 refine T.F_o.okn (k:=0) sc_o (fun vs H Q E h=>?_) (fun cdv A outer s H vs Q E hr h=>?_)
 .obtain ⟨p,n,x,rfl,_⟩:=h
  rfl
 .obtain ⟨p,n,x,rfl,h⟩:=h
  refine⟨_,xl (xaf (xv xb6 (xv xa1 (xab (pv 0) rfl) (xm)) (pv 1))),?_⟩
  obtain⟨⟨dx,hp⟩,q⟩:=h
  exact⟨_,rfl,p,t.C_an,dx,_,_,rfl,hp,T.c_an,T.n_a6,rfl,_,_,rfl,rfl,_,rfl,_,_,rfl,rfl,q⟩
theorem ok_at (T:Txt w K mg t):FnOk true P w K mg base (CXo P w) 3 t.f_at t.d_at ["word", "width"] (xm0 t):=by
 refine T.F_at.okn (k:=2) sc_at (fun vs H Q E h=>?_) (fun cdv A outer s H vs Q E hr h=>?_)
 .obtain ⟨b,n,rfl,_⟩:=h
  rfl
 .obtain ⟨b,n,rfl,h⟩:=h
  refine⟨_,xh (xat (xb2 (xas xdd rfl T.n_isinstance boot_isinstance (xa (pv 0) (xa (xeg (v:=.ty "str") rfl T.n_str boot_str rfl) (xj))))) (xh (xat (xag xcl (pv 0) (xbm) (xam _)) (xl (xaf (xeb T.k_au (ok_ak T) (hr.mono (by decide)) rfl T.g_au T.b_ak .nil xk (xa (pv 1) (xj))))) (xae))
   (xl (xat (xag xcl (pv 0) (xbm) (xam _)) (xl (xaf (xeb T.k_an (ok_ak T) (hr.mono (by decide)) rfl T.g_an T.b_ak .nil xk (xa (pv 1) (xj))))) (xae)))) (xae))
   (xl (xba)),?_⟩
  cases b with
  | true =>
   refine⟨_,rfl,_,_,rfl,.inl ⟨_,_,true,.str _,rfl,xc5,true,rfl,iteT ?_⟩⟩
   refine⟨_,rfl,rfl,_,rfl,?_⟩
   refine ifP (by decide +kernel) ?_
   exact⟨_,rfl,fun x dx hx hdx ne=>⟨x,t.C_au,dx,n,rfl,xg,T.c_au,T.n_bb,rfl,h x _ hx ⟨dx,xg⟩ (xnw hx hdx)⟩⟩
  | false =>
   refine⟨_,rfl,_,_,rfl,.inl ⟨_,_,true,.str _,rfl,xc5,true,rfl,iteT ?_⟩⟩
   refine⟨_,rfl,rfl,_,rfl,?_⟩
   refine ifN (by decide +kernel) ?_
   refine⟨_,rfl,rfl,_,rfl,?_⟩
   refine ifP (by decide +kernel) ?_
   exact⟨_,rfl,fun x dx hx hdx ne=>⟨x,t.C_an,dx,n,rfl,xg,T.c_an,T.n_a6,rfl,h x _ hx ⟨dx,xg⟩ (xnw hx hdx)⟩⟩
end
def isNm (x:Str):Bool:=decide (x.length=1)&&(!decide (x.cps.toList<[97])&&!decide ([122]<x.cps.toList))
def xru:Sp:=fun vs H Q _=>∃(i lo hi:Int),vs=[.int i,.int lo,.int hi]/\lo<=i/\i<=hi/\Q (.bl true) H
def xq5:Sp:=fun vs H Q _=>∃(x:Str),vs=[.str x]/\isNm x=true/\Q (.bl true) H
theorem xrq:("a":Str).cps.toList=[97]:=by decide +kernel
theorem xra:("z":Str).cps.toList=[122]:=by decide +kernel
section
variable {P:Program}{w:World}{K:PySem.W.Frag}{mg:Str->Option Value}{base:Heap}{t:Adr}
theorem ok_aj (T:Txt w K mg t):FnOk true P w K mg base (CXo P w) 1 t.f_aj t.d_aj ["thing", "low", "high"] (xru):=by
 refine T.F_aj.okn (k:=0) sc_aj (fun vs H Q E h=>?_) (fun cdv A outer s H vs Q E hr h=>?_)
 .obtain ⟨i,lo,hi,rfl,_⟩:=h
  rfl
 .obtain ⟨i,lo,hi,rfl,h⟩:=h
  refine⟨_,xl (xaf (xec (xas xdd rfl T.n_isinstance boot_isinstance (xa (pv 0) (xa (xeg (v:=.ty "int") rfl T.n_int boot_int rfl) (xj)))) (xec (xpm (xas xdd rfl T.n_isinstance boot_isinstance (xa (pv 0) (xa (xeg (v:=.ty "bool") rfl T.n_bool boot_bool rfl) (xj))))) (xip (xf0 xfe xfe (pv 1) (pv 0) (pv 2)))))),?_⟩
  obtain⟨c1,c2,q⟩:=h
  refine⟨_,rfl,_,_,rfl,.inl ⟨_,_,true,.int i,rfl,xc5,true,rfl,iteT ?_⟩⟩
  refine⟨_,rfl,_,_,rfl,.inl ⟨_,_,false,.int i,rfl,(by rfl),false,rfl,true,rfl,iteT ?_⟩⟩
  refine⟨_,rfl,_,rfl,_,_,rfl,rfl,_,rfl,ite2 (fun c=>?_) (fun c=>?_)⟩
  .refine ⟨_,rfl,_,_,rfl,rfl,?_⟩
   show Q (.bl (decide (i<=hi))) H
   rw[decide_eq_true c2]
   exact q
  .exact absurd (decide_eq_true c1) c
theorem ok_av (T:Txt w K mg t):FnOk true P w K mg base (CXo P w) 1 t.f_av t.d_av ["thing"] (xq5):=by
 refine T.F_av.okn (k:=0) sc_av (fun vs H Q E h=>?_) (fun cdv A outer s H vs Q E hr h=>?_)
 .obtain ⟨x,rfl,_⟩:=h
  rfl
 .obtain ⟨x,rfl,h⟩:=h
  refine⟨_,xl (xaf (xec (xas xdd rfl T.n_isinstance boot_isinstance (xa (pv 0) (xa (xeg (v:=.ty "str") rfl T.n_str boot_str rfl) (xj)))) (xec (xdq xcl (xas xh7 rfl T.n_len boot_len (xa (pv 0) (xj))) (xm) (xam _)) (xip (xf0 xg0 xg0 (xbm) (pv 0) (xbm)))))),?_⟩
  obtain⟨hn,q⟩:=h
  unfold isNm at hn
  simp only[Bool.and_eq_true,decide_eq_true_eq,Bool.not_eq_true',decide_eq_false_iff_not] at hn
  obtain⟨l1,n1,n2⟩:=hn
  refine⟨_,rfl,_,_,rfl,.inl ⟨_,_,true,.str x,rfl,xc5,true,rfl,iteT ?_⟩⟩
  refine⟨_,rfl,_,rfl,(by rw[l1]; decide),rfl,_,rfl,ite2 (fun c=>?_) (fun c=>?_)⟩
  .refine ⟨_,rfl,_,_,rfl,rfl,_,rfl,ite2 (fun d=>?_) (fun d=>?_)⟩
   .refine ⟨_,_,rfl,rfl,?_⟩
    rw[xra,decide_eq_false n2]
    exact q
   .rw [xrq,decide_eq_false n1] at d
    exact absurd rfl d
  .exact absurd (decide_eq_true (by rw[l1]; rfl)) c
end
structure Pt where
 nm:Str
 x:Int
 y:Int
 sd:Str
 lo:Int
 hi:Int
def ptV (p:Pt):List V:=[.int p.x,.int p.y,.str p.sd,.int p.lo,.int p.hi]
inductive Pl (H:Hp):List Pt->List (Key × V)->Prop
 | nil:Pl H [] []
 | cons {p:Pt}{q:Addr}{ps:List Pt}{kvs:List (Key × V)} (h:H q=some (.tup (ptV p))) (r:Pl H ps kvs):Pl H (p::ps) ((.inr p.nm,.ref q)::kvs)
inductive PtsL (H:Hp):List Pt->List Addr->Prop
 | nil:PtsL H [] []
 | cons {p:Pt}{q:Addr}{ps:List Pt}{qs:List Addr} (h:H q=some (.tup (.str p.nm::ptV p))) (r:PtsL H ps qs):PtsL H (p::ps) (q::qs)
theorem xe8 {σ:L2.St}{H:Hp}{A B:Hp->Prop} (h:A H):xei σ H (fun b H4=>if b=true then A H4 else B H4):=by
 show if true=true then A H else B H
 rw[if_pos rfl]
 exact h
theorem xrd {i:Nat}{v:V}{σ:L2.St}{H:Hp}{A B:L2.St->Hp->Prop} (h:A (σ.set i (some v)) H):xc6 i v σ H (fun σ' H'=>xei σ' H' fun b H4=>if b=true then A σ' H4 else B σ' H4):=by
 show if true=true then A (σ.set i (some v)) H else B (σ.set i (some v)) H
 rw[if_pos rfl]
 exact h
def Tups (H H':Hp):Prop:=∀ b xs,H b=some (.tup xs)->H' b=some (.tup xs)
theorem Pl.keep {H H':Hp} (s:Tups H H') {ps:List Pt}{kvs:List (Key × V)} (h:Pl H ps kvs):Pl H' ps kvs:=by
 induction h with
 | nil=>exact .nil
 | cons h _ ih=>exact .cons (s _ _ h) ih
theorem PtsL.keep {H H':Hp} (s:Tups H H') {ps:List Pt}{qs:List Addr} (h:PtsL H ps qs):PtsL H' ps qs:=by
 induction h with
 | nil=>exact .nil
 | cons h _ ih=>exact .cons (s _ _ h) ih
theorem Pl.len {H:Hp}{ps:List Pt}{kvs:List (Key × V)} (h:Pl H ps kvs):kvs.length=ps.length:=by
 induction h with
 | nil=>rfl
 | cons _ _ ih=>simp[ih]
theorem PtsL.len {H:Hp}{ps:List Pt}{qs:List Addr} (h:PtsL H ps qs):qs.length=ps.length:=by
 induction h with
 | nil=>rfl
 | cons _ _ ih=>simp[ih]
theorem Pl.find {H:Hp}{ps:List Pt}{kvs:List (Key × V)} (h:Pl H ps kvs) {nm:Str}{pt:Pt} (e:ps.find? (fun p=>decide (p.nm=nm))=some pt):∃ q,valV kvs (.inr nm)=some (.ref q)/\H q=some (.tup (ptV pt)):=by
 induction h with
 | nil=>simp at e
 | @cons p q ps kvs h _ ih =>
  by_cases c:p.nm=nm
  .rw [List.find?_cons_of_pos (by simpa using c)] at e
   cases e
   exact⟨q,xa9 (by rw[c]),h⟩
  .rw [List.find?_cons_of_neg (by simpa using c)] at e
   obtain⟨q',h1,h2⟩:=ih e
   exact⟨q',by rw[xa7 (fun z=>c (Sum.inr.inj z))]; exact h1,h2⟩
theorem Pl.no {H:Hp}{ps:List Pt}{kvs:List (Key × V)} (h:Pl H ps kvs) {nm:Str} (e:∀ p∈ps,p.nm≠nm):valV kvs (.inr nm)=none:=by
 induction h with
 | nil=>rfl
 | @cons p q ps kvs h _ ih =>
  rw[xa7 (fun z=>e p List.mem_cons_self (Sum.inr.inj z))]
  exact ih fun p' hp=>e p' (List.mem_cons_of_mem _ hp)
theorem Pl.get {H:Hp}{ps:List Pt}{kvs:List (Key × V)} (h:Pl H ps kvs) {i:Nat}{k:Key}{x:V} (e:kvs[i]?=some (k,x)):∃ p q,ps[i]?=some p/\k=.inr p.nm/\x=.ref q/\H q=some (.tup (ptV p)):=by
 induction h generalizing i with
 | nil=>simp at e
 | @cons p q ps kvs h _ ih =>
  cases i with
  | zero =>
   simp at e
   exact⟨p,q,rfl,e.1.symm,e.2.symm,h⟩
  | succ j=>exact ih (by simpa using e)
theorem PtsL.get {H:Hp}{ps:List Pt}{qs:List Addr} (h:PtsL H ps qs) {i:Nat}{q:Addr} (e:qs[i]?=some q):∃ p,ps[i]?=some p/\H q=some (.tup (.str p.nm::ptV p)):=by
 induction h generalizing i with
 | nil=>simp at e
 | @cons p q' ps qs h _ ih =>
  cases i with
  | zero =>
   simp at e
   subst e
   exact⟨p,rfl,h⟩
  | succ j=>exact ih (by simpa using e)
theorem Pl.snoc {H:Hp}{ps:List Pt}{kvs:List (Key × V)} (h:Pl H ps kvs) {p:Pt}{q:Addr} (e:H q=some (.tup (ptV p))):Pl H (ps++[p]) (kvs++[(.inr p.nm,.ref q)]):=by
 induction h with
 | nil=>exact .cons e .nil
 | cons h _ ih=>exact .cons h ih
theorem PtsL.snoc {H:Hp}{ps:List Pt}{qs:List Addr} (h:PtsL H ps qs) {p:Pt}{q:Addr} (e:H q=some (.tup (.str p.nm::ptV p))):PtsL H (ps++[p]) (qs++[q]):=by
 induction h with
 | nil=>exact .cons e .nil
 | cons h _ ih=>exact .cons h ih
abbrev picF (w h:Int) (dp do_:Addr):List (Str × V):=[("width",.int w),("height",.int h),("placed",.ref dp),("opened",.ref do_)]
structure Pic (t:Adr) (H:Hp) (a dp do_:Addr) (w h:Int) (ps:List Pt):Prop where
 ins:∃ dx,H a=some (.ins t.C_i dx (picF w h dp do_))
 pl:∃ kvs,H dp=some (.dK kvs)/\Pl H ps kvs
 w1:1<=w
 w2:w<=30
 h1:1<=h
 h2:h<=16
 len:ps.length<=12
theorem Same.tups {H H':Hp} (s:Same H H'):Tups H H':=fun b xs e=>s b _ e
theorem Pic.same {t:Adr}{H H':Hp}{a dp do_:Addr}{w h:Int}{ps:List Pt} (s:Same H H') (p:Pic t H a dp do_ w h ps):Pic t H' a dp do_ w h ps :=
 ⟨let ⟨dx,e⟩:=p.ins; ⟨dx,s _ _ e⟩,let ⟨kvs,e,q⟩:=p.pl; ⟨kvs,s _ _ e,q.keep (Same.tups s)⟩,p.w1,p.w2,p.h1,p.h2,p.len⟩
theorem xal {w h:Int}{dp do_:Addr}{m:Str} (e:((["width", "height", "placed", "opened"]:List Str).all fun k=>!(m == k))=true):(picF w h dp do_).lookup m=none:=by
 simp only[List.all_cons,List.all_nil,Bool.and_eq_true,Bool.not_eq_true'] at e
 obtain⟨e1,e2,e3,e4,_⟩:=e
 unfold picF
 rw[List.lookup_cons,e1]
 show List.lookup m [("height",V.int h),("placed",V.ref dp),("opened",V.ref do_)]=none
 rw[List.lookup_cons,e2]
 show List.lookup m [("placed",V.ref dp),("opened",V.ref do_)]=none
 rw[List.lookup_cons,e3]
 show List.lookup m [("opened",V.ref do_)]=none
 rw[List.lookup_cons,e4]
 rfl
theorem lkW {w h:Int}{dp do_:Addr}:(picF w h dp do_).lookup ("width":Str)=some (.int w):=by
 unfold picF
 rw[List.lookup_cons,show (("width":Str) == "width")=true from by decide +kernel]
theorem lkH {w h:Int}{dp do_:Addr}:(picF w h dp do_).lookup ("height":Str)=some (.int h):=by
 unfold picF
 rw[List.lookup_cons,show (("height":Str) == "width")=false from by decide +kernel]
 show List.lookup ("height":Str) [("height",V.int h),("placed",V.ref dp),("opened",V.ref do_)]=_
 rw[List.lookup_cons,show (("height":Str) == "height")=true from by decide +kernel]
theorem lkP {w h:Int}{dp do_:Addr}:(picF w h dp do_).lookup ("placed":Str)=some (.ref dp):=by
 unfold picF
 rw[List.lookup_cons,show (("placed":Str) == "width")=false from by decide +kernel]
 show List.lookup ("placed":Str) [("height",V.int h),("placed",V.ref dp),("opened",V.ref do_)]=_
 rw[List.lookup_cons,show (("placed":Str) == "height")=false from by decide +kernel]
 show List.lookup ("placed":Str) [("placed",V.ref dp),("opened",V.ref do_)]=_
 rw[List.lookup_cons,show (("placed":Str) == "placed")=true from by decide +kernel]
def xo6 (t:Adr):Sp:=fun vs H Q _=>∃(p dx:Addr) (w h:Int),vs=[.ref p,.int w,.int h]/\H p=some (.ins t.C_i dx [])/\1<=w/\w<=30/\1<=h/\h<=16 /\
 ∀ H' dp do_,H dp=none->H do_=none->(∀ b u,b≠p->H b=some u->H' b=some u)->Pic t H' p dp do_ w h []->H' do_=some (.dT [])->Q .non H'
def spCN (t:Adr):Sp:=fun vs H Q _=>∃(a dp do_:Addr) (pw ph:Int) (ps:List Pt) (nm:Str) (pt:Pt),vs=[.ref a,.str nm]/\Pic t H a dp do_ pw ph ps/\isNm nm=true/\ps.find? (fun p=>decide (p.nm=nm))=some pt/\Q .non H
def spCC (t:Adr):Sp:=fun vs H Q _=>∃(a dp do_:Addr) (pw ph:Int) (ps:List Pt) (x y:Int),vs=[.ref a,.int x,.int y]/\Pic t H a dp do_ pw ph ps/\1<=x/\x<=pw/\1<=y/\y<=ph/\Q .non H
def xrx (t:Adr):Sp:=fun vs H Q _=>∃(a dp do_:Addr) (pw ph:Int) (ps:List Pt),vs=[.ref a]/\Pic t H a dp do_ pw ph ps/\∀ H' l qs,Same H H'->H' l=some (.lst (qs.map V.ref))->PtsL H' ps qs->Q (.ref l) H'
def spCL (t:Adr):Sp:=fun vs H Q _=>∃(a dp do_:Addr) (pw ph:Int) (ps:List Pt) (nm:Str) (x y:Int),vs=[.ref a,.str nm,.int x,.int y]/\Pic t H a dp do_ pw ph ps/\(∀ p∈ps,p.nm≠nm->p.x≠x/\p.y≠y)/\∀ H',Same H H'->Q .non H'
def spCS (t:Adr):Sp:=fun vs H Q _=>∃(a dp do_:Addr) (pw ph:Int) (ps:List Pt) (b:Bool) (r:Int),vs=[.ref a,.str (xaa b),.int r]/\Pic t H a dp do_ pw ph ps/\1<=r/\r<=ph/\∀ H',Same H H'->Q .non H'
def xrc (t:Adr):Sp:=fun vs H Q _=>∃(a dp do_:Addr) (pw ph:Int) (ps:List Pt) (nm:Str) (x y:Int) (sd:Str) (lo hi:Int) (hv:V),vs=[.ref a,.str nm,.int x,.int y,.str sd,.int lo,hv]/\Pic t H a dp do_ pw ph ps /\
 ((hv=.non/\hi=ph)\/hv=.int hi)/\isNm nm=true/\1<=x/\x<=pw/\1<=y/\y<=ph/\(sd="left"\/sd="right"\/sd="both")/\1<=lo/\lo<=hi/\hi<=ph/\(∀ p∈ps,p.nm≠nm/\p.x≠x/\p.y≠y)/\ps.length<12 /\
 ∀ H',(∀ b u,b≠dp->H b=some u->H' b=some u)->Pic t H' a dp do_ pw ph (ps++[⟨nm,x,y,sd,lo,hi⟩])->Q .non H'
def xrl (t:Adr):Sp:=fun vs H Q _=>∃(a dp do_:Addr) (pw ph:Int) (ps:List Pt) (nm:Str) (pt:Pt),vs=[.ref a,.str nm]/\Pic t H a dp do_ pw ph ps/\isNm nm=true/\ps.find? (fun p=>decide (p.nm=nm))=some pt /\
 ∀ H' q,Same H H'->H' q=some (.tup [.int pt.x,.int pt.y])->Q (.ref q) H'
def lenI (w x y:Int) (b:Bool) (r:Int):Int:=(if b then x else w+1-x)+(if y-r<0 then -(y-r) else y-r)
def xq8 (t:Adr):Sp:=fun vs H Q _=>∃(a dp do_:Addr) (pw ph:Int) (ps:List Pt) (nm:Str) (pt:Pt) (b:Bool) (r:Int),vs=[.ref a,.str nm,.str (xaa b),.int r]/\Pic t H a dp do_ pw ph ps/\isNm nm=true/\ps.find? (fun p=>decide (p.nm=nm))=some pt/\1<=r/\r<=ph /\
 ∀ H',Same H H'->Q (.int (lenI pw pt.x pt.y b r)) H'
section
variable {P:Program}{w:World}{K:PySem.W.Frag}{mg:Str->Option Value}{base:Heap}{t:Adr}
theorem ok_ae (T:Txt w K mg t):FnOk true P w K mg base (CXo P w) 2 t.f_ae t.d_ae ["self", "width", "height"] (xo6 t):=by
 refine T.F_ae.okn (k:=1) sc_ae (fun vs H Q E h=>?_) (fun cdv A outer s H vs Q E hr h=>?_)
 .obtain ⟨p,dx,pw,ph,rfl,_⟩:=h
  rfl
 .obtain ⟨p,dx,pw,ph,rfl,h⟩:=h
  refine⟨_,xh (xat (PW.pt (xdk (xck (xb2 (x8 (ok_aj T) (hr.mono (by decide)) rfl T.g_aj T.F_aj.kp T.b_aj .nil xk (xa (pv 1) (xa (xm) (xa (xea (v:=.int 30) rfl T.v_a9.choose_spec ⟨_,rfl⟩) (xj))))))) (xcu (xck (xb2 (x8 (ok_aj T) (hr.mono (by decide)) rfl T.g_aj T.F_aj.kp T.b_aj .nil xk (xa (pv 2) (xa (xm) (xa (xea (v:=.int 16) rfl T.v_bc.choose_spec ⟨_,rfl⟩) (xj)))))))))) (xl (xba)) (xae))
   (xh (xb8 (pv 0) (pv 1) rfl)
   (xh (xb8 (pv 0) (pv 2) rfl)
   (xh (xb8 (pv 0) (xdw) rfl)
   (xl (xb8 (pv 0) (xds) rfl))))),?_⟩
  obtain⟨hp,w1,w2,h1,h2,q⟩:=h
  refine⟨_,rfl,pw,1,30,rfl,w1,w2,true,rfl,iteF ⟨_,rfl,ph,1,16,rfl,h1,h2,true,rfl,iteF ?_⟩⟩
  refine⟨_,rfl,_,rfl,p,_,dx,_,rfl,hp,T.c_i,T.n_a0,(by show 0<1000; decide),?_⟩
  refine⟨_,rfl,_,rfl,p,_,dx,_,rfl,xg,T.c_i,T.n_aw,(by show 1<1000; decide),?_⟩
  rw[xgy]
  refine fun dp hdp=>?_
  have n1:p≠dp:=xb xg hdp
  refine⟨_,rfl,p,_,dx,_,rfl,(by rw[xf n1]; exact xg),T.c_i,T.n_ay,(by show 2<1000; decide),fun do_ hdo=>?_⟩
  have n2:p≠do_:=xb xg hdo
  have n3:dp≠do_:=xb (by rw[xf (Ne.symm n1)]; exact xg) hdo
  refine⟨_,rfl,p,_,dx,_,rfl,(by rw[xf n2]; exact xg),T.c_i,T.n_a1,(by show 3<1000; decide),?_⟩
  rw[xf (Ne.symm n1)] at hdp
  have hdo':H do_=none:=by
   have z:=hdo
   rw[xf (Ne.symm n2),xf (Ne.symm n3),xf (Ne.symm n2)] at z
   exact z
  refine q _ dp do_ hdp hdo' (fun b u nb e=>?_) ⟨⟨dx,xg⟩,⟨[],?_,.nil⟩,w1,w2,h1,h2,Nat.zero_le _⟩ ?_
  .have c1:b≠dp:=xb e hdp
   have c2:b≠do_:=fun z=>by
    subst z
    rw[xf nb,xf c1,xf nb] at hdo
    rw[e] at hdo
    cases hdo
   rw[xf nb,xf c2,xf nb,xf c1,xf nb]
   exact e
  .rw [xf (Ne.symm n1),xf n3,xf (Ne.symm n1)]
   exact xg
  .rw [xf (Ne.symm n2)]
   exact xg
theorem ok_e (T:Txt w K mg t):FnOk true P w K mg base (CXo P w) 2 t.f_e t.d_e ["self", "name"] (spCN t):=by
 refine T.F_e.okn (k:=1) sc_e (fun vs H Q E h=>?_) (fun cdv A outer s H vs Q E hr h=>?_)
 .obtain ⟨a,dp,do_,pw,ph,ps,nm,pt,rfl,_⟩:=h
  rfl
 .obtain ⟨a,dp,do_,pw,ph,ps,nm,pt,rfl,h⟩:=h
  refine⟨_,xl (xat (PW.pt (xdk (xck (xb2 (x8 (ok_av T) (hr.mono (by decide)) rfl T.g_av T.F_av.kp T.b_av .nil xk (xa (pv 1) (xj))))) (xcu (xcz (xdc (xau hr) (pv 1) (xab (pv 0) rfl)))))) (xl (xba)) (xae)),?_⟩
  obtain⟨pic,hn,hf,q⟩:=h
  obtain⟨⟨dx,hp⟩,⟨kvs,hk,pl⟩,_⟩:=id pic
  obtain⟨q0,e,_⟩:=pl.find hf
  exact⟨_,rfl,nm,rfl,hn,true,rfl,iteF ⟨_,rfl,_,rfl,a,_,dx,_,_,rfl,hp,T.c_i,T.n_ay,lkP,dp,some (.ref q0),rfl,(by rw[<- e]; exact DGet.k (k:=.inr nm) hk),false,rfl,iteF q⟩⟩
theorem ok_g (T:Txt w K mg t):FnOk true P w K mg base (CXo P w) 2 t.f_g t.d_g ["self", "x", "y"] (spCC t):=by
 refine T.F_g.okn (k:=1) sc_g (fun vs H Q E h=>?_) (fun cdv A outer s H vs Q E hr h=>?_)
 .obtain ⟨a,dp,do_,pw,ph,ps,x,y,rfl,_⟩:=h
  rfl
 .obtain ⟨a,dp,do_,pw,ph,ps,x,y,rfl,h⟩:=h
  refine⟨_,xl (xat (PW.pt (xdk (xck (xb2 (x8 (ok_aj T) (hr.mono (by decide)) rfl T.g_aj T.F_aj.kp T.b_aj .nil xk (xa (pv 1) (xa (xm) (xa (xab (pv 0) rfl) (xj))))))) (xcu (xck (xb2 (x8 (ok_aj T) (hr.mono (by decide)) rfl T.g_aj T.F_aj.kp T.b_aj .nil xk (xa (pv 2) (xa (xm) (xa (xab (pv 0) rfl) (xj)))))))))) (xl (xba)) (xae)),?_⟩
  obtain⟨pic,x1,x2,y1,y2,q⟩:=h
  obtain⟨⟨dx,hp⟩,_,_⟩:=id pic
  exact⟨_,rfl,_,rfl,a,_,dx,_,_,rfl,hp,T.c_i,T.n_a0,lkW,x,1,pw,rfl,x1,x2,true,rfl,iteF ⟨_,rfl,_,rfl,a,_,dx,_,_,rfl,hp,T.c_i,T.n_aw,lkH,y,1,ph,rfl,y1,y2,true,rfl,iteF q⟩⟩
theorem ok_j (T:Txt w K mg t):FnOk true P w K mg base (CXo P w) 1 t.f_j t.d_j ["self"] (xrx t):=by
 refine T.F_j.okn (k:=0) sc_j (fun vs H Q E h=>?_) (fun cdv A outer s H vs Q E hr h=>?_)
 .obtain ⟨a,dp,do_,pw,ph,ps,rfl,_⟩:=h
  rfl
 .obtain ⟨a,dp,do_,pw,ph,ps,rfl,h⟩:=h
  refine⟨_,xl (xaf (xo3 (xbn rfl (xa5 (zs:=["name", "rest"]) (ys:=[]) (fr:=[]) (N0:=["self"]) (sc0:=xi s_j) (by decide +kernel) rfl rfl rfl) (xmy (xab (pv 0) rfl)) (fun _ _ _ _ _ ow nd=>(xa8 rfl (xt (xn (i:=0) nd rfl (Or.inl (ow _ (by simp))) (Or.inr (ow _ (by simp)))) (xt (xn (i:=1) nd rfl (Or.inl (ow _ (by simp))) (Or.inr (ow _ (by simp)))) (xa2))):PG _ _ (gTup K 2 _))) (xb0 (xac (by decide) (xac (by decide) (xbr)))) (fun _ _ _ _ _=>xbh) (fun _ _ _ _ _=>xv (r:=xkz K) xjw (xaz (xa (pv 0) (xj))) (pv 1))))),?_⟩
  obtain⟨pic,q⟩:=h
  obtain⟨⟨dx,hp⟩,⟨kvs,hk,pl⟩,_⟩:=id pic
  refine⟨_,rfl,a,_,dx,_,_,rfl,hp,T.c_i,T.n_ay,lkP,dp,kvs,rfl,hk,fun ob nf l hl=>?_⟩
  have nl:l≠dp:=fun z=>by
   rw[z,xg] at hl
   cases hl
  have hl0:H l=none:=by rwa [xf nl] at hl
  refine xbp kvs.length (fun i xs H2=>∃ qs:List Addr,xs=qs.map V.ref/\qs.length<=i/\H2 dp=some (.frz ob (.dK kvs))/\(∀ b u,b≠dp->H b=some u->H2 b=some u)/\H2 l=some (.lst xs)/\PtsL H2 (ps.take i) qs) ?_ ?_ ?_ ?_
  .refine ⟨[],rfl,Nat.le_refl _,?_,fun b u nb e=>?_,xg,by simpa using PtsL.nil⟩
   .rw [xf (Ne.symm nl)]
    exact xg
   .rw [xf (xb e hl0),xf nb]
    exact e
  .rintro i xs H2 lt ⟨qs,_,_,hd,_⟩
   exact⟨hd,lt⟩
  .rintro i xs H2 v H3 lt ⟨qs,rfl,ql,hd,sm,hl2,pts⟩ ⟨p,k,x,hx,rfl,hpn,rfl⟩ N hN
   obtain⟨pt,q0,hpt,rfl,rfl,hq0⟩:=pl.get hx
   have e0:H2 q0=some (.tup (ptV pt)):=sm _ _ (xp hq0 hk (fun z=>nomatch z)) hq0
   refine⟨p,_,rfl,SqT.of xg,rfl,_,_,rfl,_,_,rfl,rfl,?_⟩
   refine xe8 ?_
   have n0:q0≠p:=xb e0 hpn
   refine⟨_,rfl,(by show 1<=sizeLine; decide),fun p1 h1=>⟨_,rfl,p1,q0,_,ptV pt,rfl,rfl,SqT.of xg,SqT.of ?_,(by simp),(by show 1+5<=sizeLine; decide),(fun z=>nomatch z),fun _ p2 h2=>?_⟩⟩
   .rw [xf (xb (by rw[xf n0]; exact e0) h1),xf n0]
    exact e0
   have up:∀ b u,H2 b=some u->(upd (upd (upd H2 p (.tup [.str pt.nm,.ref q0])) p1 (.tup [.str pt.nm])) p2 (.tup ([.str pt.nm]++ptV pt))) b=some u:=fun b u e=>by
    have c1:b≠p:=xb e hpn
    have e1:upd H2 p (.tup [.str pt.nm,.ref q0]) b=some u:=by rw[xf c1]; exact e
    have c2:b≠p1:=xb e1 h1
    have e2:upd (upd H2 p (.tup [.str pt.nm,.ref q0])) p1 (.tup [.str pt.nm]) b=some u:=by rw[xf c2]; exact e1
    rw[xf (xb e2 h2)]
    exact e2
   have c3:l≠p2:=xb (show upd (upd H2 p (.tup [.str pt.nm,.ref q0])) p1 (.tup [.str pt.nm]) l=some (.lst (qs.map V.ref)) from by
    have c1:l≠p:=xb hl2 hpn
    have e1:upd H2 p (.tup [.str pt.nm,.ref q0]) l=some (.lst (qs.map V.ref)):=by rw[xf c1]; exact hl2
    rw[xf (xb e1 h1)]
    exact e1) h2
   have tk:ps.take (i+1)=ps.take i++[pt]:=by
    rw[List.take_add_one,hpt]
    rfl
   have ll:qs.length<sizeLine:=Nat.lt_trans (by have:=pl.len; have:=pic.len; omega:qs.length<13) (by decide)
   refine⟨up _ _ hl2,by rw[List.length_map]; exact ll,hN _ _ ⟨qs++[p2],by simp,by simp; omega,?_,fun b u nb e=>?_,xg,?_⟩⟩
   .rw [xf (Ne.symm nl)]
    exact up _ _ hd
   .have e2:=up _ _ (sm b u nb e)
    rw[xf (xb e hl0)]
    exact e2
   .rw [tk]
    refine PtsL.snoc (PtsL.keep (fun b xs e=>?_) pts) ?_
    .have e2:=up _ _ e
     rw[xf (xp e2 (up _ _ hl2) (fun z=>nomatch z))]
     exact e2
    .rw [xf (Ne.symm c3)]
     exact xg
  .rintro xs H2 ⟨qs,rfl,_,hd,sm,hl2,pts⟩
   refine⟨⟨hd,Nat.le_refl _⟩,dp,ob,_,hd,nf,q _ l qs (fun b u e=>?_) ?_ (PtsL.keep (fun b xs e=>?_) (by rw[pl.len,List.take_length] at pts; exact pts))⟩
   .by_cases c:b=dp
    .subst c
     rw[hk] at e
     cases e
     exact xg
    .rw [xf c]
     exact sm b u c e
   .rw [xf nl]
    exact hl2
   .rw [xf (xp e hd (fun z=>nomatch z))]
    exact e
theorem ok_b (T:Txt w K mg t):FnOk true P w K mg base (CXo P w) 2 t.f_b t.d_b ["self", "name", "x", "y"] (spCL t):=by
 refine T.F_b.okn (k:=1) sc_b (fun vs H Q E h=>?_) (fun cdv A outer s H vs Q E hr h=>?_)
 .obtain ⟨a,dp,do_,pw,ph,ps,nm,x,y,rfl,_⟩:=h
  rfl
 .obtain ⟨a,dp,do_,pw,ph,ps,nm,x,y,rfl,h⟩:=h
  refine⟨_,xh (xb3 rfl (xa5 (zs:=["other"]) (ys:=["name"]) (fr:=[1]) (N0:=["self", "name", "x", "y", "others", "other"]) (sc0:=xi s_b) (by decide +kernel) rfl rfl rfl) (xaj (xa3 (pv 0) T.c_i T.m_j (ok_j T) (hr.mono (by decide)) T.b_j .nil xk)) (fun _ _ _ _ _ ow nd=>xn (i:=0) nd rfl (Or.inl (ow _ (by simp))) (Or.inr (ow _ (by simp)))) (xbw (by decide)) (fun _ _ _ _ _=>xd6 (xag xf2 (xbj (r:=rIxT K) xdi (pv 0) (xm) (fun _ _=>rfl)) (pv 1) (xam _))) (fun _ _ _ _ _=>pv 0) (j:=4) rfl (Or.inl rfl))
   (xh (xbe PassesOwn.never rfl (xaj (pv 4)) (xn (i:=5) sc_b.nd rfl (Or.inl rfl)) (xl (xat (xag xcl (xbj xdi (pv 5) (xm) (fun _ _=>rfl)) (pv 2) (xam _)) (xl (xba)) (xae))))
   (xl (xbe PassesOwn.never rfl (xaj (pv 4)) (xn (i:=5) sc_b.nd rfl (Or.inl rfl)) (xl (xat (xag xcl (xbj xdi (pv 5) (xm) (fun _ _=>rfl)) (pv 3) (xam _)) (xl (xba)) (xae)))))),?_⟩
  obtain⟨pic,no,q⟩:=h
  obtain⟨⟨dx,hp⟩,⟨kvs,hk,pl⟩,_⟩:=id pic
  refine⟨_,rfl,a,dx,_,rfl,hp,xal (by decide +kernel),a,dp,do_,pw,ph,ps,rfl,pic,fun H1 l1 qs s1 hl1 pt1=>⟨l1,rfl,⟨_,SqL.of hl1⟩,fun l hl=>?_⟩⟩
  refine xbp qs.length (fun i xs H2=>∃ os:List Addr,xs=os.map V.ref/\os.length<=i/\Same H1 H2/\H2 l=some (.lst xs)/\∀ o∈os,∃ p∈ps,p.nm≠nm/\H1 o=some (.tup (.str p.nm::ptV p))) ?_ ?_ ?_ ?_
  .exact ⟨[],rfl,Nat.le_refl _,xo (Same.refl _) hl,xg,fun o z=>nomatch z⟩
  .rintro i xs H2 lt ⟨os,_,_,s2,_⟩
   exact⟨_,.ref qs[i],SqL.of (s2 _ _ hl1),by simp[lt]⟩
  .rintro i xs H2 v H3 lt ⟨os,rfl,ol,s2,hl2,hos⟩ ⟨rfl,hv⟩ N hN
   have hv':=hv _ (SqL.of (s2 _ _ hl1))
   rw[List.getElem?_map] at hv'
   obtain⟨o,ho,rfl⟩:=Option.map_eq_some_iff.mp hv'
   obtain⟨p,hpp,ep⟩:=pt1.get ho
   refine⟨_,rfl,o,_,0,_,rfl,rfl,SqT.of (s2 _ _ ep),rfl,_,rfl,rfl,_,rfl,ite2 (fun c=>?_) (fun c=>?_)⟩
   .have cn:p.nm≠nm:=fun z=>by
     rw[z] at c
     simp at c
    refine⟨_,rfl,hl2,(by rw[List.length_map]; exact Nat.lt_trans (by have:=pt1.len; have:=pic.len; omega:os.length<13) (by decide)),hN _ _ ⟨os++[o],by simp,by simp; omega,?_,xg,?_⟩⟩
    .intro b u e
     by_cases cb:b=l
     .subst cb
      rw[e] at hl
      cases hl
     .rw [xf cb]
      exact s2 b u e
    .intro o' ho'
     rcases List.mem_append.mp ho' with z|z
     .exact hos o' z
     .have:=List.mem_singleton.mp z
      subst this
      exact⟨p,List.mem_of_getElem? hpp,cn,ep⟩
   .exact hN _ _ ⟨os,rfl,by omega,s2,hl2,hos⟩
  .rintro xs H2 ⟨os,rfl,ol,s2,hl2,hos⟩
   refine⟨⟨_,SqL.of (s2 _ _ hl1),by simp⟩,?_⟩
   have loop:∀(o:Addr),o∈os->∃ p∈ps,p.nm≠nm/\H2 o=some (.tup (.str p.nm::ptV p)):=fun o ho=>by
    obtain⟨p,h1,h2,h3⟩:=hos o ho
    exact⟨p,h1,h2,s2 _ _ h3⟩
   refine⟨_,rfl,l,rfl,⟨_,SqL.of hl2⟩,xbg (xs:=os.map V.ref) (Pv:=fun i σ H3=>∃ v5:Option V,σ=[some (.ref a),some (.str nm),some (.int x),some (.int y),some (.ref l),v5]/\H2=H3) ⟨_,rfl,rfl⟩ (fun _ _ _ _ ⟨_,_,z⟩=>by rw[<- z]; exact SqL.of hl2) ?_ ?_⟩
   .rintro i v σ _ hv ⟨v5,rfl,rfl⟩
    rw[List.getElem?_map] at hv
    obtain⟨o,ho,rfl⟩:=Option.map_eq_some_iff.mp hv
    obtain⟨p,m1,m2,m3⟩:=loop o (List.mem_of_getElem? ho)
    refine⟨_,rfl,o,_,1,_,rfl,rfl,SqT.of m3,rfl,_,rfl,rfl,_,rfl,ifN (decide_eq_false fun z=>(no p m1 m2).1 (V.int.inj z)) ⟨_,rfl,rfl⟩⟩
   .rintro σ _ ⟨v5,rfl,rfl⟩
    refine⟨_,rfl,l,rfl,⟨_,SqL.of hl2⟩,xbg (xs:=os.map V.ref) (Pv:=fun i σ H3=>∃ v5:Option V,σ=[some (.ref a),some (.str nm),some (.int x),some (.int y),some (.ref l),v5]/\H2=H3) ⟨_,rfl,rfl⟩ (fun _ _ _ _ ⟨_,_,z⟩=>by rw[<- z]; exact SqL.of hl2) ?_ ?_⟩
    .rintro i v σ _ hv ⟨v5,rfl,rfl⟩
     rw[List.getElem?_map] at hv
     obtain⟨o,ho,rfl⟩:=Option.map_eq_some_iff.mp hv
     obtain⟨p,m1,m2,m3⟩:=loop o (List.mem_of_getElem? ho)
     refine⟨_,rfl,o,_,2,_,rfl,rfl,SqT.of m3,rfl,_,rfl,rfl,_,rfl,ifN (decide_eq_false fun z=>(no p m1 m2).2 (V.int.inj z)) ⟨_,rfl,rfl⟩⟩
    .rintro σ _ ⟨v5,rfl,rfl⟩
     exact q _ (s1.trans s2)
theorem ok_a (T:Txt w K mg t):FnOk true P w K mg base (CXo P w) 4 t.f_a t.d_a ["self", "side", "row"] (spCS t):=by
 refine T.F_a.okn (k:=3) sc_a (fun vs H Q E h=>?_) (fun cdv A outer s H vs Q E hr h=>?_)
 .obtain ⟨a,dp,do_,pw,ph,ps,b,r,rfl,_⟩:=h
  rfl
 .obtain ⟨a,dp,do_,pw,ph,ps,b,r,rfl,h⟩:=h
  refine⟨_,xh (xav (x8 (ok_at T) (hr.mono (by decide)) rfl T.g_at T.F_at.kp T.b_at .nil xk (xa (pv 1) (xa (xab (pv 0) rfl) (xj)))))
   (xl (xat (xck (xb2 (x8 (ok_aj T) (hr.mono (by decide)) rfl T.g_aj T.F_aj.kp T.b_aj .nil xk (xa (pv 2) (xa (xm) (xa (xab (pv 0) rfl) (xj))))))) (xl (xba)) (xae))),?_⟩
  obtain⟨pic,r1,r2,q⟩:=h
  obtain⟨⟨dx,hp⟩,_,_⟩:=id pic
  refine⟨_,rfl,_,rfl,a,_,dx,_,_,rfl,hp,T.c_i,T.n_a0,lkW,b,pw,rfl,fun p H1 hp1 sd1 s1=>?_⟩
  exact⟨_,rfl,_,rfl,a,_,dx,_,_,rfl,(s1 _ _ hp),T.c_i,T.n_aw,lkH,r,1,ph,rfl,r1,r2,true,rfl,iteF (q H1 s1)⟩
theorem ok_s (T:Txt w K mg t):FnOk true P w K mg base (CXo P w) 3 t.f_s t.d_s ["self", "name", "x", "y", "sides", "low", "high"] (xrc t):=by
 refine T.F_s.okn (k:=2) sc_s (fun vs H Q E h=>?_) (fun cdv A outer s H vs Q E hr h=>?_)
 .obtain ⟨a,dp,do_,pw,ph,ps,nm,x,y,sd,lo,hi,hv,rfl,_⟩:=h
  rfl
 .obtain ⟨a,dp,do_,pw,ph,ps,nm,x,y,sd,lo,hi,hv,rfl,h⟩:=h
  refine⟨_,xh (x0 (i:=7) sc_s.nd rfl (Or.inl rfl) (xij (xag xev (pv 6) (xcj) (xam _)) (xab (pv 0) rfl) (pv 6)))
   (xh (xat (xck (xb2 (x8 (ok_av T) (hr.mono (by decide)) rfl T.g_av T.F_av.kp T.b_av .nil xk (xa (pv 1) (xj))))) (xl (xba)) (xae))
   (xh (xav (xak (pv 0) T.c_i T.m_g (ok_g T) (hr.mono (by decide)) T.b_g .nil xk (xa (pv 2) (xa (pv 3) (xj)))))
   (xh (xat (PW.pt (xdk (xck (xb2 (xas xdd rfl T.n_isinstance boot_isinstance (xa (pv 4) (xa (xeg (v:=.ty "str") rfl T.n_str boot_str rfl) (xj)))))) (xcu (xcz (xlh (pv 4) rfl T.g_as T.D_as))))) (xl (xba)) (xae))
   (xh (xat (PW.pt (xdk (xck (xb2 (x8 (ok_aj T) (hr.mono (by decide)) rfl T.g_aj T.F_aj.kp T.b_aj .nil xk (xa (pv 5) (xa (xm) (xa (xab (pv 0) rfl) (xj))))))) (xcu (xck (xb2 (x8 (ok_aj T) (hr.mono (by decide)) rfl T.g_aj T.F_aj.kp T.b_aj .nil xk (xa (pv 7) (xa (pv 5) (xa (xab (pv 0) rfl) (xj)))))))))) (xl (xba)) (xae))
   (xh (xat (xcz (xf3 (xau hr) (pv 1) (xab (pv 0) rfl))) (xl (xba)) (xae))
   (xh (xat (xag xn9 (xas xlx rfl T.n_len boot_len (xa (xab (pv 0) rfl) (xj))) (xea (v:=.int 12) rfl T.v_ba.choose_spec ⟨_,rfl⟩) (xam _)) (xl (xba)) (xae))
   (xh (xav (xak (pv 0) T.c_i T.m_b (ok_b T) (hr.mono (by decide)) T.b_b .nil xk (xa (pv 1) (xa (pv 2) (xa (pv 3) (xj))))))
   (xl (xca (xau hr) (xab (pv 0) rfl) (pv 1) (xaz (xa (pv 2) (xa (pv 3) (xa (pv 4) (xa (pv 5) (xa (pv 7) (xj))))))) rfl))))))))),?_⟩
  obtain⟨pic,hhv,hn,x1,x2,y1,y2,hsd,l1,l2,l3,no,len,q⟩:=h
  obtain⟨⟨dx,hp⟩,⟨kvs,hk,pl⟩,_⟩:=id pic
  have hsd':(valV ([(Sum.inr "left",V.str "right"),(Sum.inr "right",V.str "left"),(Sum.inr "both",V.str "both")]:List (Key × V)) (Sum.inr sd)).isSome=true:=by
   rcases hsd with rfl|rfl|rfl<;>decide +kernel
  rcases hhv with⟨rfl,e⟩|rfl
  .obtain rfl:=e.symm
   refine⟨_,rfl,rfl,_,rfl,ifP (by rfl) ⟨_,rfl,a,_,dx,_,_,rfl,hp,T.c_i,T.n_aw,lkH,?_⟩⟩
   refine⟨_,rfl,nm,rfl,hn,true,rfl,iteF ?_⟩
   refine⟨_,rfl,a,dx,_,rfl,hp,xal (by decide +kernel),_,rfl,_,rfl,a,dp,do_,pw,ph,ps,x,y,rfl,pic,x1,x2,y1,y2,?_⟩
   refine⟨_,rfl,_,_,rfl,.inl ⟨_,_,true,.str _,rfl,xc5,true,rfl,iteF ⟨_,rfl,.inr sd,rfl,false,(by rw[hsd']; rfl),iteF ?_⟩⟩⟩
   refine⟨_,rfl,_,rfl,a,_,dx,_,_,rfl,hp,T.c_i,T.n_aw,lkH,lo,1,ph,rfl,l1,(by omega),true,rfl,iteF ⟨_,rfl,_,rfl,_,rfl,a,_,dx,_,_,rfl,hp,T.c_i,T.n_aw,lkH,ph,lo,ph,rfl,(by omega),(by omega),true,rfl,iteF ?_⟩⟩
   refine⟨_,rfl,_,rfl,a,_,dx,_,_,rfl,hp,T.c_i,T.n_ay,lkP,dp,none,rfl,(by rw[<- pl.no (nm:=nm) (fun p hp=>(no p hp).1)]; exact DGet.k (k:=.inr nm) hk),false,rfl,iteF ?_⟩
   refine⟨_,rfl,a,_,dx,_,_,rfl,hp,T.c_i,T.n_ay,lkP,dp,kvs,rfl,hk,_,_,rfl,rfl,_,rfl,ifN (decide_eq_false (by have:=pl.len; omega)) ?_⟩
   refine⟨_,rfl,a,dx,_,rfl,hp,xal (by decide +kernel),_,rfl,_,rfl,_,rfl,a,dp,do_,pw,ph,ps,nm,x,y,rfl,pic,fun p hp _=>(no p hp).2,fun H1 s1=>?_⟩
   refine⟨_,rfl,_,rfl,_,rfl,_,rfl,_,rfl,(by show 5<=sizeLine; decide),fun q1 hq1=>?_⟩
   have hp1:upd H1 q1 (.tup [.int x,.int y,.str sd,.int lo,.int ph]) a=some (.ins t.C_i dx (picF pw ph dp do_)):=by rw[xf (xb (s1 _ _ hp) hq1)]; exact s1 _ _ hp
   have hk1:upd H1 q1 (.tup [.int x,.int y,.str sd,.int lo,.int ph]) dp=some (.dK kvs):=by rw[xf (xb (s1 _ _ hk) hq1)]; exact s1 _ _ hk
   refine⟨_,rfl,a,_,dx,_,_,rfl,hp1,T.c_i,T.n_ay,lkP,_,rfl,dp,_,rfl,DPut.k (k:=.inr nm) hk1 (Nat.lt_trans (by have:=pl.len; omega:kvs.length<12) (by decide)),?_⟩
   rw[xcf (.ref q1) (pl.no (nm:=nm) (fun p hp=>(no p hp).1))]
   have nq:q1≠dp:=fun z=>by
    subst z
    rw[s1 _ _ hk] at hq1
    cases hq1
   refine q _ (fun b u nb e=>?_) ⟨⟨dx,?_⟩,⟨_,xg,Pl.snoc (p:=⟨nm,x,y,sd,lo,ph⟩) (pl.keep (fun b xs e=>?_)) ?_⟩,pic.w1,pic.w2,pic.h1,pic.h2,(by rw[List.length_append]; exact len)⟩
   .rw [xf nb,xf (xb (s1 _ _ e) hq1)]
    exact s1 _ _ e
   .rw [xf (xp hp1 hk1 (fun z=>nomatch z))]
    exact hp1
   .have e':=s1 _ _ e
    rw[xf (xp e' (s1 _ _ hk) (fun z=>nomatch z)),xf (xb e' hq1)]
    exact e'
   .rw [xf nq]
    exact xg
  .refine ⟨_,rfl,rfl,_,rfl,ifN (by rfl) ⟨_,rfl,?_⟩⟩
   refine⟨_,rfl,nm,rfl,hn,true,rfl,iteF ?_⟩
   refine⟨_,rfl,a,dx,_,rfl,hp,xal (by decide +kernel),_,rfl,_,rfl,a,dp,do_,pw,ph,ps,x,y,rfl,pic,x1,x2,y1,y2,?_⟩
   refine⟨_,rfl,_,_,rfl,.inl ⟨_,_,true,.str _,rfl,xc5,true,rfl,iteF ⟨_,rfl,.inr sd,rfl,false,(by rw[hsd']; rfl),iteF ?_⟩⟩⟩
   refine⟨_,rfl,_,rfl,a,_,dx,_,_,rfl,hp,T.c_i,T.n_aw,lkH,lo,1,ph,rfl,l1,(by omega),true,rfl,iteF ⟨_,rfl,_,rfl,_,rfl,a,_,dx,_,_,rfl,hp,T.c_i,T.n_aw,lkH,hi,lo,ph,rfl,(by omega),(by omega),true,rfl,iteF ?_⟩⟩
   refine⟨_,rfl,_,rfl,a,_,dx,_,_,rfl,hp,T.c_i,T.n_ay,lkP,dp,none,rfl,(by rw[<- pl.no (nm:=nm) (fun p hp=>(no p hp).1)]; exact DGet.k (k:=.inr nm) hk),false,rfl,iteF ?_⟩
   refine⟨_,rfl,a,_,dx,_,_,rfl,hp,T.c_i,T.n_ay,lkP,dp,kvs,rfl,hk,_,_,rfl,rfl,_,rfl,ifN (decide_eq_false (by have:=pl.len; omega)) ?_⟩
   refine⟨_,rfl,a,dx,_,rfl,hp,xal (by decide +kernel),_,rfl,_,rfl,_,rfl,a,dp,do_,pw,ph,ps,nm,x,y,rfl,pic,fun p hp _=>(no p hp).2,fun H1 s1=>?_⟩
   refine⟨_,rfl,_,rfl,_,rfl,_,rfl,_,rfl,(by show 5<=sizeLine; decide),fun q1 hq1=>?_⟩
   have hp1:upd H1 q1 (.tup [.int x,.int y,.str sd,.int lo,.int hi]) a=some (.ins t.C_i dx (picF pw ph dp do_)):=by rw[xf (xb (s1 _ _ hp) hq1)]; exact s1 _ _ hp
   have hk1:upd H1 q1 (.tup [.int x,.int y,.str sd,.int lo,.int hi]) dp=some (.dK kvs):=by rw[xf (xb (s1 _ _ hk) hq1)]; exact s1 _ _ hk
   refine⟨_,rfl,a,_,dx,_,_,rfl,hp1,T.c_i,T.n_ay,lkP,_,rfl,dp,_,rfl,DPut.k (k:=.inr nm) hk1 (Nat.lt_trans (by have:=pl.len; omega:kvs.length<12) (by decide)),?_⟩
   rw[xcf (.ref q1) (pl.no (nm:=nm) (fun p hp=>(no p hp).1))]
   have nq:q1≠dp:=fun z=>by
    subst z
    rw[s1 _ _ hk] at hq1
    cases hq1
   refine q _ (fun b u nb e=>?_) ⟨⟨dx,?_⟩,⟨_,xg,Pl.snoc (p:=⟨nm,x,y,sd,lo,hi⟩) (pl.keep (fun b xs e=>?_)) ?_⟩,pic.w1,pic.w2,pic.h1,pic.h2,(by rw[List.length_append]; exact len)⟩
   .rw [xf nb,xf (xb (s1 _ _ e) hq1)]
    exact s1 _ _ e
   .rw [xf (xp hp1 hk1 (fun z=>nomatch z))]
    exact hp1
   .have e':=s1 _ _ e
    rw[xf (xp e' (s1 _ _ hk) (fun z=>nomatch z)),xf (xb e' hq1)]
    exact e'
   .rw [xf nq]
    exact xg
theorem ok_p (T:Txt w K mg t):FnOk true P w K mg base (CXo P w) 3 t.f_p t.d_p ["self", "name"] (xrl t):=by
 refine T.F_p.okn (k:=2) sc_p (fun vs H Q E h=>?_) (fun cdv A outer s H vs Q E hr h=>?_)
 .obtain ⟨a,dp,do_,pw,ph,ps,nm,pt,rfl,_⟩:=h
  rfl
 .obtain ⟨a,dp,do_,pw,ph,ps,nm,pt,rfl,h⟩:=h
  refine⟨_,xh (xav (xak (pv 0) T.c_i T.m_e (ok_e T) (hr.mono (by decide)) T.b_e .nil xk (xa (pv 1) (xj))))
   (xl (xaf (xdu xp9 (xbo (xau hr) (xab (pv 0) rfl) (pv 1) (fun _ _=>rfl)) xfh (xdp (xm))))),?_⟩
  obtain⟨pic,hn,hf,q⟩:=h
  obtain⟨⟨dx,hp⟩,⟨kvs,hk,pl⟩,_⟩:=id pic
  obtain⟨q0,e,hq0⟩:=pl.find hf
  refine⟨_,rfl,a,dx,_,rfl,hp,xal (by decide +kernel),_,rfl,a,dp,do_,pw,ph,ps,nm,pt,rfl,pic,hn,hf,?_⟩
  exact⟨_,rfl,a,_,dx,_,_,rfl,hp,T.c_i,T.n_ay,lkP,_,rfl,dp,.ref q0,rfl,(by rw[<- e]; exact DGet.k (k:=.inr nm) hk),2,rfl,q0,ptV pt,rfl,SqT.of hq0,(fun z=>absurd z.2 (by show ¬ ((2:Nat)=5); decide)),fun p hp'=>q _ p (xo (Same.refl _) hp') xg⟩
theorem ok_w (T:Txt w K mg t):FnOk true P w K mg base (CXo P w) 5 t.f_w t.d_w ["self", "name", "side", "row"] (xq8 t):=by
 refine T.F_w.okn (k:=4) sc_w (fun vs H Q E h=>?_) (fun cdv A outer s H vs Q E hr h=>?_)
 .obtain ⟨a,dp,do_,pw,ph,ps,nm,pt,b,r,rfl,_⟩:=h
  rfl
 .obtain ⟨a,dp,do_,pw,ph,ps,nm,pt,b,r,rfl,h⟩:=h
  refine⟨_,xh (xed (xak (pv 0) T.c_i T.m_p (ok_p T) (hr.mono (by decide)) T.b_p .nil xk (xa (pv 1) (xj))) (xa8 rfl (xt (xn (i:=4) sc_w.nd rfl (Or.inl rfl)) (xt (xn (i:=5) sc_w.nd rfl (Or.inl rfl)) (xa2)))))
   (xh (xav (xak (pv 0) T.c_i T.m_a (ok_a T) (hr.mono (by decide)) T.b_a .nil xk (xa (pv 2) (xa (pv 3) (xj)))))
   (xl (xaf (xv xa1 (xpx (xak (x8 (ok_at T) (hr.mono (by decide)) rfl T.g_at T.F_at.kp T.b_at .nil xk (xa (pv 2) (xa (xab (pv 0) rfl) (xj)))) T.c_au T.m_r (ok_r T) (hr.mono (by decide)) T.b_r .nil xk (xa (pv 4) (xj))) (xak (x8 (ok_at T) (hr.mono (by decide)) rfl T.g_at T.F_at.kp T.b_at .nil xk (xa (pv 2) (xa (xab (pv 0) rfl) (xj)))) T.c_an T.m_o (ok_o T) (hr.mono (by decide)) T.b_o .nil xk (xa (pv 4) (xj)))) (xas xhz rfl T.n_abs boot_abs (xa (xv xb6 (pv 5) (pv 3)) (xj))))))),?_⟩
  obtain⟨pic,hn,hf,r1,r2,q⟩:=h
  obtain⟨⟨dx,hp⟩,_,_⟩:=id pic
  refine⟨_,rfl,a,dx,_,rfl,hp,xal (by decide +kernel),_,rfl,a,dp,do_,pw,ph,ps,nm,pt,rfl,pic,hn,hf,fun H1 q1 s1 hq1=>⟨q1,_,rfl,SqT.of hq1,rfl,_,_,rfl,_,_,rfl,rfl,?_⟩⟩
  refine⟨_,rfl,a,dx,_,rfl,s1 _ _ hp,xal (by decide +kernel),_,rfl,_,rfl,a,dp,do_,pw,ph,ps,b,r,rfl,Pic.same s1 pic,r1,r2,fun H2 s2=>?_⟩
  cases b with
  | true =>
   refine .inl ⟨_,rfl,_,rfl,a,_,dx,_,_,rfl,(s2 _ _ (s1 _ _ hp)),T.c_i,T.n_a0,lkW,true,pw,rfl,fun p H3 hp3 sd3 s3=>?_⟩
   obtain⟨ds,hs⟩:=sd3
   exact⟨p,ds,_,rfl,hs,(by rw[List.lookup_cons,show (("across":Str) == "width")=false from by decide +kernel]; rfl),_,rfl,_,_,rfl,_,rfl,_,rfl,_,_,rfl,rfl,_,rfl,_,_,rfl,rfl,q H3 ((s1.trans s2).trans s3)⟩
  | false =>
   refine .inr ⟨_,rfl,_,rfl,a,_,dx,_,_,rfl,(s2 _ _ (s1 _ _ hp)),T.c_i,T.n_a0,lkW,false,pw,rfl,fun p H3 hp3 sd3 s3=>?_⟩
   obtain⟨ds,hs⟩:=id sd3
   exact⟨p,ds,_,rfl,hs,(by rw[List.lookup_cons,show (("across":Str) == "width")=false from by decide +kernel]; rfl),_,rfl,p,pw,_,rfl,sd3,_,rfl,_,rfl,_,_,rfl,rfl,_,rfl,_,_,rfl,rfl,q H3 ((s1.trans s2).trans s3)⟩
end
theorem lkO {w h:Int}{dp do_:Addr}:(picF w h dp do_).lookup ("opened":Str)=some (.ref do_):=by
 unfold picF
 rw[List.lookup_cons,show (("opened":Str) == "width")=false from by decide +kernel]
 show List.lookup ("opened":Str) [("height",V.int h),("placed",V.ref dp),("opened",V.ref do_)]=_
 rw[List.lookup_cons,show (("opened":Str) == "height")=false from by decide +kernel]
 show List.lookup ("opened":Str) [("placed",V.ref dp),("opened",V.ref do_)]=_
 rw[List.lookup_cons,show (("opened":Str) == "placed")=false from by decide +kernel]
 show List.lookup ("opened":Str) [("opened",V.ref do_)]=_
 rw[List.lookup_cons,show (("opened":Str) == "opened")=true from by decide +kernel]
abbrev Seat:=Bool × Int
def xu (s:Seat):List Key:=[.inr (xaa s.1),.inl s.2]
def xax (s:Seat):List V:=[.str (xaa s.1),.int s.2]
theorem xez {a b:Bool} (h:xaa a=xaa b):a=b:=by
 cases a<;>cases b<;>first|rfl|exact absurd h (by decide +kernel)
theorem xd4 {s t:Seat} (h:xu s=xu t):s=t:=by
 simp only[xu,List.cons.injEq,Sum.inr.injEq,Sum.inl.injEq] at h
 exact Prod.ext (xez h.1) h.2.1
def Sts (H:Hp) (do_:Addr) (ss:List Seat):Prop:=∃ kvs:List (List Key × V),H do_=some (.dT kvs)/\kvs.map (·.1)=ss.map xu/\ss.Nodup/\ss.length<=32
theorem Sts.same {H H':Hp}{do_:Addr}{ss:List Seat} (s:Same H H') (h:Sts H do_ ss):Sts H' do_ ss:=let ⟨k,e,r⟩:=h; ⟨k,s _ _ e,r⟩
theorem xmf {kvs:List (List Key × V)}{ss:List Seat} (e:kvs.map (·.1)=ss.map xu) {s:Seat} (h:s∉ss):valV kvs (xu s)=none:=by
 cases z:valV kvs (xu s) with
 | none=>rfl
 | some v =>
  obtain⟨i,hi⟩:=xgt z
  have m:xu s∈kvs.map (·.1):=List.mem_map.mpr ⟨_,List.mem_of_getElem? hi,rfl⟩
  rw[e] at m
  obtain⟨t,ht,et⟩:=List.mem_map.mp m
  exact absurd ht (by rw[xd4 et]; exact h)
theorem xjv {kvs:List (List Key × V)}{ss:List Seat} (e:kvs.map (·.1)=ss.map xu) {s:Seat} (h:s∈ss):∃ v,valV kvs (xu s)=some v:=by
 cases z:valV kvs (xu s) with
 | some v=>exact⟨v,rfl⟩
 | none =>
  have m:xu s∈kvs.map (·.1):=by rw[e]; exact List.mem_map.mpr ⟨s,h,rfl⟩
  obtain⟨p,hp,ep⟩:=List.mem_map.mp m
  have a:=xc3 (xu s) kvs
  rw[z] at a
  have:(kvs.any fun kv=>decide (kv.1=xu s))=true:=List.any_eq_true.mpr ⟨p,hp,by simpa using ep⟩
  rw[this] at a
  cases a
inductive xah (H:Hp):List Seat->List Addr->Prop
 | nil:xah H [] []
 | cons {s:Seat}{q:Addr}{ss:List Seat}{qs:List Addr} (h:H q=some (.tup (xax s))) (r:xah H ss qs):xah H (s::ss) (q::qs)
theorem xah.keep {H H':Hp} (k:Tups H H') {ss:List Seat}{qs:List Addr} (h:xah H ss qs):xah H' ss qs:=by
 induction h with
 | nil=>exact .nil
 | cons h _ ih=>exact .cons (k _ _ h) ih
theorem xah.len {H:Hp}{ss:List Seat}{qs:List Addr} (h:xah H ss qs):qs.length=ss.length:=by
 induction h with
 | nil=>rfl
 | cons _ _ ih=>simp[ih]
def xbf (s t:Seat):Prop:=(s.1=true/\t.1=false)\/(s.1=t.1/\s.2<t.2)
theorem xno {s t:Seat} (h:lexK (xu s) (xu t)=true):xbf s t:=by
 obtain⟨a,i⟩:=s
 obtain⟨b,j⟩:=t
 unfold xu at h
 unfold lexK at h
 by_cases e:xaa a=xaa b
 .rw [if_pos (by rw[e])] at h
  unfold lexK at h
  by_cases e2:i=j
  .rw [if_pos (by rw[e2])] at h
   unfold lexK at h
   cases h
  .rw [if_neg (fun z=>e2 (Sum.inl.inj z))] at h
   exact .inr ⟨xez e,of_decide_eq_true h⟩
 .rw [if_neg (fun z=>e (Sum.inr.inj z))] at h
  cases a<;>cases b
  .exact absurd rfl e
  .exact absurd h (by show ¬ xcv (.inr (xaa false)) (.inr (xaa true))=true; decide +kernel)
  .exact .inl ⟨rfl,rfl⟩
  .exact absurd rfl e
def unK:List Key->Seat
 | [.inr s,.inl r]=>(decide (s="left"),r)
 | _=>(true,0)
theorem xi2 (s:Seat):unK (xu s)=s:=by
 obtain⟨b,r⟩:=s
 cases b
 .show (decide (("right":Str)="left"),r)=_
  rw[decide_eq_false (by decide +kernel)]
 .show (decide (("left":Str)="left"),r)=_
  rw[decide_eq_true rfl]
theorem xmn {kvs:List (List Key × V)}{ss:List Seat} (e:kvs.map (·.1)=ss.map xu) {s:Seat}:(xdm kvs (xu s)).map (·.1)=(ss.filter fun t=>decide (t≠s)).map xu:=by
 have h1:(xdm kvs (xu s)).map (·.1)=(kvs.map (·.1)).filter fun k=>decide (k≠xu s):=by
  unfold xdm
  rw[List.filter_map]
  rfl
 rw[h1,e,List.filter_map]
 congr 1
 refine List.filter_congr fun t _=>?_
 show decide (xu t≠xu s)=decide (t≠s)
 by_cases c:t=s
 .subst c
  simp
 .have c':xu t≠xu s:=fun z=>c (xd4 z)
  simp[c,c']
def xqj (t:Adr):Sp:=fun vs H Q _=>∃(a dp do_:Addr) (pw ph:Int) (ps:List Pt) (ss:List Seat) (b:Bool) (r:Int),vs=[.ref a,.str (xaa b),.int r]/\Pic t H a dp do_ pw ph ps/\Sts H do_ ss/\1<=r/\r<=ph/\(b,r)∉ss/\ss.length<32 /\
 ∀ H',(∀ c u,c≠do_->H c=some u->H' c=some u)->Pic t H' a dp do_ pw ph ps->Sts H' do_ (ss++[(b,r)])->Q .non H'
def xpk (t:Adr):Sp:=fun vs H Q _=>∃(a dp do_:Addr) (pw ph:Int) (ps:List Pt) (ss:List Seat) (b:Bool) (r:Int),vs=[.ref a,.str (xaa b),.int r]/\Pic t H a dp do_ pw ph ps/\Sts H do_ ss/\1<=r/\r<=ph/\(b,r)∈ss /\
 ∀ H',(∀ c u,c≠do_->H c=some u->H' c=some u)->Pic t H' a dp do_ pw ph ps->Sts H' do_ (ss.filter fun s=>decide (s≠(b,r)))->Q .non H'
def xjq (t:Adr):Sp:=fun vs H Q _=>∃(a dp do_:Addr) (pw ph:Int) (ps:List Pt) (ss:List Seat),vs=[.ref a]/\Pic t H a dp do_ pw ph ps/\Sts H do_ ss /\
 ∀(l:Addr) (ss':List Seat) (qs:List Addr),H l=none->xah H ss' qs->ss'.Perm ss->ss'.Pairwise xbf->Q (.ref l) (upd H l (.lst (qs.map V.ref)))
theorem Pic.but {t:Adr}{H H':Hp}{a dp do_:Addr}{w h:Int}{ps:List Pt}{kvs:List (List Key × V)} (e:H do_=some (.dT kvs)) (s:∀ c u,c≠do_->H c=some u->H' c=some u) (p:Pic t H a dp do_ w h ps):Pic t H' a dp do_ w h ps :=
 ⟨let ⟨dx,x⟩:=p.ins; ⟨dx,s _ _ (xp x e (fun z=>nomatch z)) x⟩,let ⟨k,x,q⟩:=p.pl; ⟨k,s _ _ (xp x e (fun z=>nomatch z)) x,q.keep fun b xs x=>s _ _ (xp x e (fun z=>nomatch z)) x⟩,p.w1,p.w2,p.h1,p.h2,p.len⟩
section
variable {P:Program}{w:World}{K:PySem.W.Frag}{mg:Str->Option Value}{base:Heap}{t:Adr}
theorem ok_f (T:Txt w K mg t):FnOk true P w K mg base (CXo P w) 5 t.f_f t.d_f ["self", "side", "row"] (xqj t):=by
 refine T.F_f.okn (k:=4) sc_f (fun vs H Q E h=>?_) (fun cdv A outer s H vs Q E hr h=>?_)
 .obtain ⟨a,dp,do_,pw,ph,ps,ss,b,r,rfl,_⟩:=h
  rfl
 .obtain ⟨a,dp,do_,pw,ph,ps,ss,b,r,rfl,h⟩:=h
  refine⟨_,xh (xav (xak (pv 0) T.c_i T.m_a (ok_a T) (hr.mono (by decide)) T.b_a .nil xk (xa (pv 1) (xa (pv 2) (xj)))))
   (xh (xat (xcz (xf3 (xau hr) (xaz (xa (pv 1) (xa (pv 2) (xj)))) (xab (pv 0) rfl))) (xl (xba)) (xae))
   (xl (xca (xau hr) (xab (pv 0) rfl) (xaz (xa (pv 1) (xa (pv 2) (xj)))) (xem) rfl))),?_⟩
  obtain⟨pic,st,r1,r2,no,len,q⟩:=h
  obtain⟨⟨dx,hp⟩,_,_⟩:=id pic
  obtain⟨kvs,hk,ek,nd,l32⟩:=id st
  refine⟨_,rfl,a,dx,_,rfl,hp,xal (by decide +kernel),_,rfl,_,rfl,a,dp,do_,pw,ph,ps,b,r,rfl,pic,r1,r2,fun H1 s1=>?_⟩
  refine⟨_,rfl,_,rfl,(by show 2<=sizeLine; decide),fun q1 hq1=>?_⟩
  have s2:Same H1 (upd H1 q1 (.tup [.str (xaa b),.int r])):=xo (Same.refl _) hq1
  have g2:upd H1 q1 (.tup [.str (xaa b),.int r]) q1=some (.tup [.str (xaa b),.int r]):=xg
  revert s2 g2
  generalize upd H1 q1 (.tup [.str (xaa b),.int r])=H2
  intro s2 g2
  have hk2:=s2 _ _ (s1 _ _ hk)
  have hp2:=s2 _ _ (s1 _ _ hp)
  have n0:valV kvs (xu (b,r))=none:=xmf ek no
  refine⟨_,rfl,a,_,dx,_,_,rfl,hp2,T.c_i,T.n_a1,lkO,do_,none,rfl,(by rw[<- n0]; exact DGet.t (k:=xu (b,r)) hk2 g2),false,rfl,iteF ?_⟩
  refine⟨_,rfl,a,_,dx,_,_,rfl,hp2,T.c_i,T.n_a1,lkO,_,rfl,_,rfl,(by show 2<=sizeLine; decide),fun q3 hq3=>?_⟩
  have s3:Same H2 (upd H2 q3 (.tup [.str (xaa b),.int r])):=xo (Same.refl _) hq3
  have g3:upd H2 q3 (.tup [.str (xaa b),.int r]) q3=some (.tup [.str (xaa b),.int r]):=xg
  revert s3 g3
  generalize upd H2 q3 (.tup [.str (xaa b),.int r])=H3
  intro s3 g3
  have kl:kvs.length=ss.length:=by
   have:=congrArg List.length ek
   simpa using this
  refine⟨do_,_,rfl,DPut.t (k:=xu (b,r)) (s3 _ _ hk2) g3 (Nat.lt_trans (by omega:kvs.length<33) (by decide)),?_⟩
  have bt:∀ c u,c≠do_->H c=some u->upd H3 do_ (.dT (putK kvs (xu (b,r)) (.bl true))) c=some u:=fun c u nc e=>by
   rw[xf nc]
   exact s3 _ _ (s2 _ _ (s1 _ _ e))
  refine q _ bt (Pic.but hk bt pic) ⟨_,xg,?_,?_,?_⟩
  .rw [xcf _ n0,List.map_append,List.map_append,ek]
   rfl
  .rw [List.nodup_append]
   exact⟨nd,by simp,fun x hx y hy=>by rw[List.mem_singleton.mp hy]; exact fun e=>no (e▸hx)⟩
  .rw [List.length_append]
   show ss.length+1<=32
   omega
theorem ok_k (T:Txt w K mg t):FnOk true P w K mg base (CXo P w) 5 t.f_k t.d_k ["self", "side", "row"] (xpk t):=by
 refine T.F_k.okn (k:=4) sc_k (fun vs H Q E h=>?_) (fun cdv A outer s H vs Q E hr h=>?_)
 .obtain ⟨a,dp,do_,pw,ph,ps,ss,b,r,rfl,_⟩:=h
  rfl
 .obtain ⟨a,dp,do_,pw,ph,ps,ss,b,r,rfl,h⟩:=h
  refine⟨_,xh (xav (xak (pv 0) T.c_i T.m_a (ok_a T) (hr.mono (by decide)) T.b_a .nil xk (xa (pv 1) (xa (pv 2) (xj)))))
   (xh (xat (xcz (xdc (xau hr) (xaz (xa (pv 1) (xa (pv 2) (xj)))) (xab (pv 0) rfl))) (xl (xba)) (xae))
   (xl (xav (xmv (xau hr) (xab (pv 0) rfl) (xaz (xa (pv 1) (xa (pv 2) (xj)))) ⟨rfl,rfl,rfl,rfl⟩)))),?_⟩
  obtain⟨pic,st,r1,r2,yes,q⟩:=h
  obtain⟨⟨dx,hp⟩,_,_⟩:=id pic
  obtain⟨kvs,hk,ek,nd,l32⟩:=id st
  obtain⟨v,hv⟩:=xjv ek yes
  refine⟨_,rfl,a,dx,_,rfl,hp,xal (by decide +kernel),_,rfl,_,rfl,a,dp,do_,pw,ph,ps,b,r,rfl,pic,r1,r2,fun H1 s1=>?_⟩
  refine⟨_,rfl,_,rfl,(by show 2<=sizeLine; decide),fun q1 hq1=>?_⟩
  have s2:Same H1 (upd H1 q1 (.tup [.str (xaa b),.int r])):=xo (Same.refl _) hq1
  have g2:upd H1 q1 (.tup [.str (xaa b),.int r]) q1=some (.tup [.str (xaa b),.int r]):=xg
  revert s2 g2
  generalize upd H1 q1 (.tup [.str (xaa b),.int r])=H2
  intro s2 g2
  have hk2:=s2 _ _ (s1 _ _ hk)
  have hp2:=s2 _ _ (s1 _ _ hp)
  refine⟨_,rfl,a,_,dx,_,_,rfl,hp2,T.c_i,T.n_a1,lkO,do_,some v,rfl,(by rw[<- hv]; exact DGet.t (k:=xu (b,r)) hk2 g2),false,rfl,iteF ?_⟩
  refine⟨_,rfl,a,_,dx,_,_,rfl,hp2,T.c_i,T.n_a1,lkO,do_,rfl,.inr ⟨_,.inl hk2⟩,_,rfl,_,rfl,(by show 2<=sizeLine; decide),fun q3 hq3=>?_⟩
  have s3:Same H2 (upd H2 q3 (.tup [.str (xaa b),.int r])):=xo (Same.refl _) hq3
  have g3:upd H2 q3 (.tup [.str (xaa b),.int r]) q3=some (.tup [.str (xaa b),.int r]):=xg
  revert s3 g3
  generalize upd H2 q3 (.tup [.str (xaa b),.int r])=H3
  intro s3 g3
  refine⟨kvs,xu (b,r),q3,v,s3 _ _ hk2,rfl,g3,hv,?_⟩
  have bt:∀ c u,c≠do_->H c=some u->upd H3 do_ (.dT (xdm kvs (xu (b,r)))) c=some u:=fun c u nc e=>by
   rw[xf nc]
   exact s3 _ _ (s2 _ _ (s1 _ _ e))
  refine q _ bt (Pic.but hk bt pic) ⟨_,xg,?_,nd.filter _,Nat.le_trans (List.length_filter_le _ _) l32⟩
  exact xmn ek
theorem ok_m (T:Txt w K mg t):FnOk true P w K mg base (CXo P w) 1 t.f_m t.d_m ["self"] (xjq t):=by
 refine T.F_m.okn (k:=0) sc_m (fun vs H Q E h=>?_) (fun cdv A outer s H vs Q E hr h=>?_)
 .obtain ⟨a,dp,do_,pw,ph,ps,ss,rfl,_⟩:=h
  rfl
 .obtain ⟨a,dp,do_,pw,ph,ps,ss,rfl,h⟩:=h
  refine⟨_,xl (xaf (xas (xie rfl) rfl T.n_sorted PyProof.Rows.Boot.«sorted» (xa (xab (pv 0) rfl) (xj)))),?_⟩
  obtain⟨pic,st,q⟩:=h
  obtain⟨⟨dx,hp⟩,_,_⟩:=id pic
  obtain⟨kvs,hk,ek,nd,l32⟩:=id st
  have kl:kvs.length=ss.length:=by
   have:=congrArg List.length ek
   simpa using this
  refine⟨_,rfl,a,_,dx,_,_,rfl,hp,T.c_i,T.n_a1,lkO,do_,kvs,[false,true],rfl,hk,by omega,fun p hp'=>?_,by decide,fun l ts fr tm pm pw'=>?_⟩
  .have m:p.1∈kvs.map (·.1):=List.mem_map.mpr ⟨p,hp',rfl⟩
   rw[ek] at m
   obtain⟨s,_,e⟩:=List.mem_map.mp m
   rw[<- e]
   rfl
  rw[ek] at pm
  have back:∀ t∈ts,xu (unK t.1)=t.1:=fun t ht=>by
   obtain⟨s,_,e⟩:=List.mem_map.mp (pm.mem_iff.mp (List.mem_map.mpr ⟨t,ht,rfl⟩))
   rw[<- e,xi2]
  have z:=q l ((ts.map (·.1)).map unK) (ts.map (·.2)) fr ?_ ?_ ?_
  .rw [List.map_map] at z
   exact z
  .clear pm pw'
   induction ts with
   | nil=>exact .nil
   | cons t ts ih =>
    refine .cons ?_ (ih (fun x hx=>tm x (List.mem_cons_of_mem _ hx)) fun x hx=>back x (List.mem_cons_of_mem _ hx))
    have e:=tm t List.mem_cons_self
    rw[<- back t List.mem_cons_self] at e
    exact e
  .have z2:=pm.map unK
   have e2:(ss.map xu).map unK=ss:=by
    rw[List.map_map,show (unK∘xu)=id from funext xi2]
    exact List.map_id _
   rw[e2] at z2
   exact z2
  .rw [List.pairwise_map] at pw'
   rw[List.map_map,List.pairwise_map]
   refine pw'.imp_of_mem fun {x y} hx hy hxy=>xno ?_
   show lexK (xu (unK x.1)) (xu (unK y.1))=true
   rw[back x hx,back y hy]
   exact hxy
end
def SsOk (h:Int) (ss:List Seat):Prop:=ss.Nodup/\ss.length<=32/\∀ s∈ss,1<=s.2/\s.2<=h
theorem xah.get {H:Hp}{ss:List Seat}{qs:List Addr} (h:xah H ss qs) {i:Nat}{q:Addr} (e:qs[i]?=some q):∃ s,ss[i]?=some s/\H q=some (.tup (xax s)):=by
 induction h generalizing i with
 | nil=>simp at e
 | @cons s q' ss qs h _ ih =>
  cases i with
  | zero =>
   simp at e
   subst e
   exact⟨s,rfl,h⟩
  | succ j=>exact ih (by simpa using e)
theorem xh3 {α β:Type}{f:α->β} (inj:∀ a b,f a=f b->a=b) {l:List α} (h:l.Nodup):(l.map f).Nodup:=by
 rw[List.nodup_iff_pairwise_ne,List.pairwise_map]
 exact h.imp fun hne e=>hne (inj _ _ e)
theorem xah.snoc {H:Hp}{ss:List Seat}{qs:List Addr} (h:xah H ss qs) {s:Seat}{q:Addr} (e:H q=some (.tup (xax s))):xah H (ss++[s]) (qs++[q]):=by
 induction h with
 | nil=>exact .cons e .nil
 | cons h _ ih=>exact .cons h ih
theorem xb9 {α:Type}{R:α->α->Prop} (as:∀ a b,R a b->¬ R b a):∀{l l':List α},l.Perm l'->l.Pairwise R->l'.Pairwise R->l=l'
 | [],l',p,_,_=>(List.Perm.nil_eq p)
 | a::t,[],p,_,_=>absurd p.symm (by intro z; exact absurd (List.Perm.nil_eq z) (by simp))
 | a::t,b::t',p,h,h'=>by
  have h1:=List.pairwise_cons.mp h
  have h2:=List.pairwise_cons.mp h'
  by_cases e:a=b
  .subst e
   rw[xb9 as ((List.perm_cons a).mp p) h1.2 h2.2]
  .have ma:a∈t':=by
    have:=p.mem_iff.mp (List.mem_cons_self (a:=a) (l:=t))
    rcases List.mem_cons.mp this with z|z
    .exact absurd z e
    .exact z
   have mb:b∈t:=by
    have:=p.mem_iff.mpr (List.mem_cons_self (a:=b) (l:=t'))
    rcases List.mem_cons.mp this with z|z
    .exact absurd z.symm e
    .exact z
   exact absurd (h2.1 a ma) (as _ _ (h1.1 b mb))
theorem xdf (a b:Seat) (h:xbf a b):¬ xbf b a:=by
 rintro (⟨x,y⟩|⟨x,y⟩)<;>rcases h with⟨z,w⟩|⟨z,w⟩
 .rw [x] at w; cases w
 .rw [x,y] at z; cases z
 .rw [z,w] at x; cases x
 .omega
def xc2 (s:Seat):DV:=.tup [.str (xaa s.1),.int s.2]
theorem xk8 {s t:Seat}:xc2 s=xc2 t↔s=t:=by
 constructor
 .intro h
  unfold xc2 at h
  simp only[DV.tup.injEq,List.cons.injEq,DV.str.injEq,DV.int.injEq,and_true] at h
  exact Prod.ext (xez h.1) h.2
 .intro h
  rw[h]
theorem xm2 (s t:Seat):dEq (xc2 s) (xc2 t)=decide (s=t):=xgq rfl rfl xk8
theorem xfz (ss:List Seat) (s:Seat):(ss.map xc2).any (fun z=>dEq z (xc2 s))=decide (s∈ss):=by
 rw[Bool.eq_iff_iff,List.any_eq_true,decide_eq_true_iff]
 constructor
 .rintro ⟨z,hz,e⟩
  obtain⟨t,ht,rfl⟩:=List.mem_map.mp hz
  rw[xm2,decide_eq_true_iff] at e
  exact e▸ht
 .intro h
  exact⟨_,List.mem_map.mpr ⟨s,h,rfl⟩,xeq _⟩
theorem xgw {K:PySem.W.Frag}{H:Hp}{q:Addr}{s:Seat} (h:H q=some (.tup (xax s))):Dv K H 1 (.ref q) (xc2 s):=by
 refine .tup (SqT.of h) rfl fun j x d h1 h2=>?_
 match j,h1,h2 with
 | 0,h1,h2=>cases h1; cases h2; exact .str
 | 1,h1,h2=>cases h1; cases h2; exact .int
 | j+2,h1,h2=>simp[xax] at h1
theorem xah.dv {K:PySem.W.Frag}{H:Hp}{ss:List Seat}{qs:List Addr} (h:xah H ss qs) {l:Addr} (e:H l=some (.lst (qs.map V.ref))):Dv K H 2 (.ref l) (.lst (ss.map xc2)):=by
 refine .lst (SqL.of e) (by rw[List.length_map,List.length_map,h.len]) fun j x d h1 h2=>?_
 rw[List.getElem?_map] at h1 h2
 obtain⟨q,hq,rfl⟩:=Option.map_eq_some_iff.mp h1
 obtain⟨p,hp,rfl⟩:=Option.map_eq_some_iff.mp h2
 obtain⟨p',hp',e'⟩:=h.get hq
 rw[hp] at hp'
 cases hp'
 exact xgw e'
theorem xah.pick {H:Hp}:∀{ss:List Seat}{ys:List V},ys.length=ss.length->(∀(j:Nat) (y:V) (s:Seat),ys[j]?=some y->ss[j]?=some s->∃ q,y=.ref q/\H q=some (.tup (xax s)))->∃ rs:List Addr,ys=rs.map V.ref/\xah H ss rs
 | [],[],_,_=>⟨[],rfl,.nil⟩
 | [],_::_,h,_=>by cases h
 | _::_,[],h,_=>by cases h
 | s::ss,y::ys,h,k=>by
  obtain⟨q,e,hq⟩:=k 0 y s rfl rfl
  obtain⟨rs,e2,r⟩:=xah.pick (ss:=ss) (ys:=ys) (by simpa using h) fun j y s h1 h2=>k (j+1) y s (by simpa using h1) (by simpa using h2)
  exact⟨q::rs,by rw[e,e2]; rfl,.cons hq r⟩
theorem xhy {α:Type} [DecidableEq α]:∀{l m:List α},l.Nodup->(∀ x∈l,x∈m)->l.length<=m.length
 | [],m,_,_=>Nat.zero_le _
 | a::l,m,nd,sub=>by
  obtain⟨h1,h2⟩:=List.nodup_cons.mp nd
  have ha:=sub a List.mem_cons_self
  have z:=xhy (l:=l) (m:=m.erase a) h2 (fun x hx=>(List.mem_erase_of_ne (fun e:x=a=>h1 (e▸hx))).mpr (sub x (List.mem_cons_of_mem _ hx)))
  rw[List.length_erase_of_mem ha] at z
  have:=List.length_pos_of_mem ha
  rw[List.length_cons]
  omega
structure PtOk (w h:Int) (p:Pt):Prop where
 nm:isNm p.nm=true
 x1:1<=p.x
 x2:p.x<=w
 y1:1<=p.y
 y2:p.y<=h
 sd:p.sd="left"\/p.sd="right"\/p.sd="both"
 l1:1<=p.lo
 l2:p.lo<=p.hi
 l3:p.hi<=h
structure xbb (w h:Int) (ps:List Pt):Prop where
 ok:∀ p∈ps,PtOk w h p
 nn:(ps.map (·.nm)).Nodup
 nx:(ps.map (·.x)).Nodup
 ny:(ps.map (·.y)).Nodup
 le:ps.length<=12
theorem xcq {α β:Type} (f:α->β) {ps:List α} (nd:(ps.map f).Nodup) {i:Nat} (hi:i<ps.length):∀ p∈ps.take i,f p≠f ps[i]:=fun p hp e=>by
 have z:=nd
 rw[<- List.take_append_drop i ps,List.drop_eq_getElem_cons hi,List.map_append,List.map_cons,List.nodup_append] at z
 exact z.2.2 _ (List.mem_map.mpr ⟨p,hp,rfl⟩) _ List.mem_cons_self e
theorem xj0 {α β γ:Type}{f:α->β}{g:α->γ}{k:β->γ} (e:∀ a,g a=k (f a)) (inj:∀ a b,k a=k b->a=b) {l:List α} (h:(l.map f).Nodup):(l.map g).Nodup:=by
 have z:=xh3 inj h
 rw[List.map_map] at z
 rw[show g=k∘f from funext e]
 exact z
theorem xfa {ps:List Pt} (nd:(ps.map (·.nm)).Nodup) {p:Pt} (hp:p∈ps):ps.find? (fun q=>decide (q.nm=p.nm))=some p:=by
 induction ps with
 | nil=>simp at hp
 | cons a ps ih =>
  rw[List.map_cons,List.nodup_cons] at nd
  rcases List.mem_cons.mp hp with z|z
  .subst z
   rw[List.find?_cons_of_pos (by simp)]
  .have ne:¬ a.nm=p.nm:=fun y=>nd.1 (y▸List.mem_map.mpr ⟨p,z,rfl⟩)
   rw[List.find?_cons_of_neg (by simpa using ne)]
   exact ih nd.2 z
def xao (p:Pt) (s:Seat):Bool:=(decide (p.sd="both")||decide (p.sd=xaa s.1))&&(decide (p.lo<=s.2)&&decide (s.2<=p.hi))
theorem xgc (sd w:Str):inV (.str sd) [.str "both",.str w]=(decide (sd="both")||decide (sd=w)):=by
 have e:∀ a b:Str,(a == b)=decide (b=a):=fun a b=>by
  rw[Bool.eq_iff_iff,beq_iff_eq,decide_eq_true_iff]
  exact eq_comm
 show ((("both":Str) == sd)||((w == sd)||false))=_
 rw[Bool.or_false,e,e]
def xew (s2:List Seat) (p:Pt) (i:Nat):Bool:=match s2[i]? with|some s=>xao p s|none=>false
theorem xex {s2:List Seat}{p:Pt}{s:Seat}{i:Nat} (h:s2[i]?=some s):xew s2 p i=xao p s:=by
 unfold xew
 rw[h]
def xp8 (t:Adr):Sp:=fun vs H Q _=>∃(a dp do_:Addr) (pw ph:Int) (ps:List Pt) (ss:List Seat) (pt:Pt) (b:Bool) (i:Int),vs=[.ref a,.str pt.nm,.str (xaa b),.int i]/\Pic t H a dp do_ pw ph ps/\Sts H do_ ss/\isNm pt.nm=true/\ps.find? (fun p=>decide (p.nm=pt.nm))=some pt/\1<=i/\i<=ph/\∀ H',Same H H'->Q (.bl (decide ((b,i)∈ss)&&xao pt (b,i))) H'
def xp3 (t:Adr):Sp:=fun vs H Q _=>∃(a dp do_:Addr) (pw ph:Int) (ps:List Pt) (ss:List Seat) (pt:Pt),vs=[.ref a,.str pt.nm]/\Pic t H a dp do_ pw ph ps/\Sts H do_ ss/\SsOk ph ss/\isNm pt.nm=true/\ps.find? (fun p=>decide (p.nm=pt.nm))=some pt /\
 ∀(H':Hp) (l:Addr) (srt:List Seat) (rs:List Addr),Same H H'->H l=none->srt.Perm ss->srt.Pairwise xbf->H' l=some (.lst (rs.map V.ref))->xah H' (srt.filter (xao pt)) rs->Q (.ref l) H'
section
variable {P:Program}{w:World}{K:PySem.W.Frag}{mg:Str->Option Value}{base:Heap}{t:Adr}
theorem ok_ac (T:Txt w K mg t):FnOk true P w K mg base (CXo P w) 5 t.f_ac t.d_ac ["self", "name", "side", "row"] (xp8 t):=by
 refine T.F_ac.okn (k:=4) sc_ac (fun vs H Q E h=>?_) (fun cdv A outer s H vs Q E hr h=>?_)
 .obtain ⟨a,dp,do_,pw,ph,ps,ss,pt,b,i,rfl,_⟩:=h
  rfl
 .obtain ⟨a,dp,do_,pw,ph,ps,ss,pt,b,i,rfl,h⟩:=h
  refine⟨_,xh (xav (xak (pv 0) T.c_i T.m_e (ok_e T) (hr.mono (by decide)) T.b_e .nil xk (xa (pv 1) (xj))))
   (xh (xav (xak (pv 0) T.c_i T.m_a (ok_a T) (hr.mono (by decide)) T.b_a .nil xk (xa (pv 2) (xa (pv 3) (xj)))))
   (xh (xed (xbo (xau hr) (xab (pv 0) rfl) (pv 1) (fun _ _=>rfl)) (xa8 rfl (xt (xn (i:=4) sc_ac.nd rfl (Or.inl rfl)) (xt (xn (i:=5) sc_ac.nd rfl (Or.inl rfl)) (xt (xn (i:=6) sc_ac.nd rfl (Or.inl rfl)) (xt (xn (i:=7) sc_ac.nd rfl (Or.inl rfl)) (xt (xn (i:=8) sc_ac.nd rfl (Or.inl rfl)) (xa2))))))))
   (xl (xaf (xec (xpr (xf3 (xau hr) (xaz (xa (pv 2) (xa (pv 3) (xj)))) (xab (pv 0) rfl))) (xec (xdq xg2 (pv 6) (xaz (xa (xbm) (xa (pv 2) (xj)))) (by rfl)) (xip (xf0 xfe xfe (pv 7) (pv 3) (pv 8))))))))),?_⟩
  obtain⟨pic,st,hn,hf,i1,i2,q⟩:=h
  obtain⟨⟨dx0,hp⟩,⟨kvs,hk,pl⟩,_⟩:=id pic
  refine⟨_,rfl,a,dx0,_,rfl,hp,xal (by decide +kernel),_,rfl,a,dp,do_,pw,ph,ps,pt.nm,pt,rfl,pic,hn,hf,?_⟩
  refine⟨_,rfl,a,dx0,_,rfl,hp,xal (by decide +kernel),_,rfl,_,rfl,a,dp,do_,pw,ph,ps,b,i,rfl,pic,i1,i2,fun H1 s1=>?_⟩
  obtain⟨q0,e0,hq0⟩:=pl.find hf
  have hp1:=s1 _ _ hp
  have hk1:=s1 _ _ hk
  refine⟨_,rfl,a,_,_,_,_,rfl,hp1,T.c_i,T.n_ay,lkP,_,rfl,dp,.ref q0,rfl,(by rw[<- e0]; exact DGet.k (k:=.inr pt.nm) hk1),q0,_,rfl,SqT.of (s1 _ _ hq0),rfl,_,_,rfl,_,_,rfl,_,_,rfl,_,_,rfl,_,_,rfl,rfl,?_⟩
  refine⟨_,rfl,_,rfl,(by show 2<=sizeLine; decide),fun q1 hq1=>?_⟩
  have s2:Same H1 (upd H1 q1 (.tup [.str (xaa b),.int i])):=xo (Same.refl _) hq1
  have g2:upd H1 q1 (.tup [.str (xaa b),.int i]) q1=some (.tup [.str (xaa b),.int i]):=xg
  revert s2 g2
  generalize upd H1 q1 (.tup [.str (xaa b),.int i])=H2
  intro s2 g2
  have hp2:=s2 _ _ hp1
  have s02:=s1.trans s2
  obtain⟨ko,hko,ek,nd,l32⟩:=id st
  have hko2:=s02 _ _ hko
  have qq:=q
  by_cases cin:(b,i)∈ss
  .obtain ⟨v,hv⟩:=xjv ek cin
   refine⟨_,rfl,a,_,_,_,_,rfl,hp2,T.c_i,T.n_a1,lkO,do_,some v,rfl,(by rw[<- hv]; exact DGet.t (k:=xu (b,i)) hko2 g2),true,rfl,iteT ?_⟩
   refine⟨_,rfl,_,rfl,(by show 2<=sizeLine; decide),fun q3 hq3=>?_⟩
   have s3:Same H2 (upd H2 q3 (.tup [.str "both",.str (xaa b)])):=xo (Same.refl _) hq3
   have g3:upd H2 q3 (.tup [.str "both",.str (xaa b)]) q3=some (.tup [.str "both",.str (xaa b)]):=xg
   revert s3 g3
   generalize upd H2 q3 (.tup [.str "both",.str (xaa b)])=H3
   intro s3 g3
   have z:=qq H3 (s02.trans s3)
   rw[decide_eq_true cin,Bool.true_and] at z
   unfold xao at z
   refine⟨q3,_,rfl,.inr (SqT.of g3),rfl,rfl,_,rfl,ite2 (fun c=>?_) (fun c=>?_)⟩
   .rw [if_neg (by decide),xgc] at c
    dsimp only at z
    rw[c,Bool.true_and] at z
    refine⟨_,rfl,_,rfl,_,_,rfl,rfl,_,rfl,ite2 (fun c2=>?_) (fun c2=>?_)⟩
    .rw [c2,Bool.true_and] at z
     exact⟨_,rfl,_,_,rfl,rfl,z⟩
    .rw [Bool.eq_false_iff.mpr c2,Bool.false_and] at z
     exact z
   .rw [if_neg (by decide),xgc] at c
    dsimp only at z
    rw[Bool.eq_false_iff.mpr c,Bool.false_and] at z
    exact z
  .have n0:valV ko (xu (b,i))=none:=xmf ek cin
   have z:=qq H2 s02
   rw[decide_eq_false cin,Bool.false_and] at z
   exact⟨_,rfl,a,_,_,_,_,rfl,hp2,T.c_i,T.n_a1,lkO,do_,none,rfl,(by rw[<- n0]; exact DGet.t (k:=xu (b,i)) hko2 g2),false,rfl,iteF z⟩
theorem ok_h (T:Txt w K mg t):FnOk true P w K mg base (CXo P w) 6 t.f_h t.d_h ["self", "name"] (xp3 t):=by
 refine T.F_h.okn (k:=5) sc_h (fun vs H Q E h=>?_) (fun cdv A outer s H vs Q E hr h=>?_)
 .obtain ⟨a,dp,do_,pw,ph,ps,ss,pt,rfl,_⟩:=h
  rfl
 .obtain ⟨a,dp,do_,pw,ph,ps,ss,pt,rfl,h⟩:=h
  refine⟨_,xh (xav (xak (pv 0) T.c_i T.m_e (ok_e T) (hr.mono (by decide)) T.b_e .nil xk (xa (pv 1) (xj))))
   (xl (xaf (xbn rfl (xa5 (zs:=["side", "row"]) (ys:=["name", "self"]) (fr:=[1,0]) (N0:=["self", "name"]) (sc0:=xi s_h) (by decide +kernel) rfl rfl rfl) (xaj (xa3 (pv 0) T.c_i T.m_m (ok_m T) (hr.mono (by decide)) T.b_m .nil xk)) (fun _ _ _ _ _ ow nd=>(xa8 rfl (xt (xn (i:=0) nd rfl (Or.inl (ow _ (by simp))) (Or.inr (ow _ (by simp)))) (xt (xn (i:=1) nd rfl (Or.inl (ow _ (by simp))) (Or.inr (ow _ (by simp)))) (xa2))):PG _ _ (gTup K 2 _))) (xb0 (xac (by decide) (xac (by decide) (xbr)))) (fun _ _ _ _ _=>xd6 (xb2 (xak (pv 3) T.c_i T.m_ac (ok_ac T) (hr.mono (by decide)) T.b_ac .nil xk (xa (pv 2) (xa (pv 0) (xa (pv 1) (xj))))))) (fun _ _ _ _ _=>xaz (xa (pv 0) (xa (pv 1) (xj))))))),?_⟩
  obtain⟨pic,st,sok,hn,hf,q⟩:=h
  obtain⟨⟨dx0,hp⟩,_,_⟩:=id pic
  refine⟨_,rfl,a,dx0,_,rfl,hp,xal (by decide +kernel),_,rfl,a,dp,do_,pw,ph,ps,pt.nm,pt,rfl,pic,hn,hf,?_⟩
  refine⟨_,rfl,a,dx0,_,rfl,hp,xal (by decide +kernel),a,dp,do_,pw,ph,ps,ss,rfl,pic,st,fun l1 srt qs1 fr1 sl1 pm1 pw1=>?_⟩
  have s1:Same H (upd H l1 (.lst (qs1.map V.ref))):=xo (Same.refl _) fr1
  have g1:upd H l1 (.lst (qs1.map V.ref)) l1=some (.lst (qs1.map V.ref)):=xg
  revert s1 g1
  generalize upd H l1 (.lst (qs1.map V.ref))=H1
  intro s1 g1
  have sl1':=sl1.keep (Same.tups s1)
  have ql:=sl1.len
  have sl32:srt.length<=32:=by rw[pm1.length_eq]; exact sok.2.1
  refine⟨l1,rfl,⟨_,SqL.of g1⟩,fun l2 hl2=>?_⟩
  refine xdl (SqL.of g1) (by rw[List.length_map]; exact Nat.lt_trans (by omega:qs1.length<33) (by decide)) hl2 (xew srt pt) (fun i y H=>∃ s q,srt[i]?=some s/\y=.ref q/\H q=some (.tup (xax s))) (fun i y H H' tp ⟨s,q,e1,e2,e3⟩=>⟨s,q,e1,e2,tp _ _ e3⟩) (fun i x H4 hx s4 N M hN hM=>?_) (fun ys H4 s4 el4 ly f4=>?_)
  .rw [List.getElem?_map] at hx
   obtain⟨o,ho,rfl⟩:=Option.map_eq_some_iff.mp hx
   obtain⟨s0,hs0,ep⟩:=sl1'.get ho
   have s04:=s1.trans s4
   have min:s0∈ss:=pm1.mem_iff.mp (List.mem_of_getElem? hs0)
   obtain⟨sr1,sr2⟩:=sok.2.2 s0 min
   refine⟨o,_,rfl,SqT.of (s4 _ _ ep),rfl,_,_,rfl,_,_,rfl,rfl,?_⟩
   refine⟨_,rfl,a,dx0,_,rfl,s04 _ _ hp,xal (by decide +kernel),_,rfl,_,rfl,_,rfl,a,dp,do_,pw,ph,ps,ss,pt,s0.1,s0.2,rfl,Pic.same s04 pic,st.same s04,hn,hf,sr1,sr2,fun H5 s5=>?_⟩
   .refine ⟨_,rfl,ite2 (fun c=>?_) (fun c=>?_)⟩
    .rw [decide_eq_true (show (s0.1,s0.2)∈ss from min),Bool.true_and] at c
     refine⟨_,rfl,_,rfl,(by show 2<=sizeLine; decide),fun q6 hq6=>?_⟩
     exact hN _ _ (s5.trans (xo (Same.refl _) hq6)) (by rw[xex hs0]; exact c) ⟨s0,q6,hs0,rfl,xg⟩
    .rw [decide_eq_true (show (s0.1,s0.2)∈ss from min),Bool.true_and] at c
     exact hM _ s5 (by rw[xex hs0]; exact Bool.eq_false_iff.mpr c)
  .have fi:=xjx (xao pt) (as:=srt) (p:=xew srt pt) (fun i s hs=>xex hs)
   rw[List.length_map,ql] at ly f4
   obtain⟨rs4,e4,sts4⟩:=xah.pick (H:=H4) (ss:=srt.filter (xao pt)) (ys:=ys) (by rw[ly,fi.1]) (fun j y s hy hs=>by
    have hj:j<((List.range srt.length).filter (xew srt pt)).length:=by
     rw[<- ly]
     exact (List.getElem?_eq_some_iff.mp hy).1
    obtain⟨s',q',h1,h2,h3⟩:=f4 j y _ hy (List.getElem?_eq_getElem hj)
    rw[fi.2 j _ (List.getElem?_eq_getElem hj),hs] at h1
    cases h1
    exact⟨q',h2,h3⟩)
   subst e4
   exact q H4 l2 srt rs4 (s1.trans s4) (s1.free hl2) pm1 pw1 el4 sts4
end
structure Dr (t:Adr) (H:Hp) (a dp do_:Addr) (w h:Nat) (ps:List Pt) (ss srt:List Seat):Prop where
 pic:Pic t H a dp do_ (w:Int) (h:Int) ps
 sts:Sts H do_ ss
 ok:SsOk (h:Int) ss
 pm:srt.Perm ss
 lt:srt.Pairwise xbf
 nm:∀ p∈ps,isNm p.nm=true
theorem Dr.same {t:Adr}{H H':Hp}{a dp do_:Addr}{w h:Nat}{ps:List Pt}{ss srt:List Seat} (d:Dr t H a dp do_ w h ps ss srt) (s:Same H H'):Dr t H' a dp do_ w h ps ss srt:=⟨Pic.same s d.pic,d.sts.same s,d.ok,d.pm,d.lt,d.nm⟩
abbrev seF (d1 d2:Addr):List (Str × V):=[("seat_of",.ref d1),("holder_of",.ref d2)]
theorem lkSo {d1 d2:Addr}:(seF d1 d2).lookup ("seat_of":Str)=some (.ref d1):=by
 unfold seF
 rw[List.lookup_cons,show (("seat_of":Str) == "seat_of")=true from by decide +kernel]
theorem lkHo {d1 d2:Addr}:(seF d1 d2).lookup ("holder_of":Str)=some (.ref d2):=by
 unfold seF
 rw[List.lookup_cons,show (("holder_of":Str) == "seat_of")=false from by decide +kernel]
 show List.lookup ("holder_of":Str) [("holder_of",V.ref d2)]=_
 rw[List.lookup_cons,show (("holder_of":Str) == "holder_of")=true from by decide +kernel]
theorem xh0 {d1 d2:Addr}{m:Str} (e:((["seat_of", "holder_of"]:List Str).all fun k=>!(m == k))=true):(seF d1 d2).lookup m=none:=by
 simp only[List.all_cons,List.all_nil,Bool.and_eq_true,Bool.not_eq_true'] at e
 obtain⟨e1,e2,_⟩:=e
 unfold seF
 rw[List.lookup_cons,e1]
 show List.lookup m [("holder_of",V.ref d2)]=none
 rw[List.lookup_cons,e2]
 rfl
def SoD (H:Hp) (d:Addr) (n:Nat) (so:Str->Option Seat):Prop:=∃ kvs:List (Key × V),H d=some (.dK kvs)/\kvs.length<=n/\∀ nm,(so nm=none->valV kvs (.inr nm)=none)/\∀ s,so nm=some s->∃ q,valV kvs (.inr nm)=some (.ref q)/\H q=some (.tup (xax s))
def HoD (H:Hp) (d:Addr) (n:Nat) (ho:Seat->Option Str):Prop:=∃ kvs:List (List Key × V),H d=some (.dT kvs)/\kvs.length<=n/\∀ s,valV kvs (xu s)=(ho s).map V.str
theorem SoD.keep {H H':Hp}{d:Addr}{n:Nat}{so:Str->Option Seat} (s:SoD H d n so) (tp:Tups H H') (h:∀ u,H d=some u->H' d=some u):SoD H' d n so:=by
 obtain⟨kvs,e,l,f⟩:=s
 exact⟨kvs,h _ e,l,fun nm=>⟨(f nm).1,fun s hs=>let ⟨q,a,b⟩:=(f nm).2 s hs; ⟨q,a,tp _ _ b⟩⟩⟩
theorem HoD.keep {H H':Hp}{d:Addr}{n:Nat}{ho:Seat->Option Str} (s:HoD H d n ho) (h:∀ u,H d=some u->H' d=some u):HoD H' d n ho:=by
 obtain⟨kvs,e,r⟩:=s
 exact⟨kvs,h _ e,r⟩
theorem HoD.le {H:Hp}{d:Addr}{n k:Nat}{ho:Seat->Option Str} (s:HoD H d n ho) (h:n<=k):HoD H d k ho:=by
 obtain⟨kvs,e,l,r⟩:=s
 exact⟨kvs,e,by omega,r⟩
theorem SoD.le {H:Hp}{d:Addr}{n k:Nat}{so:Str->Option Seat} (s:SoD H d n so) (h:n<=k):SoD H d k so:=by
 obtain⟨kvs,e,l,r⟩:=s
 exact⟨kvs,e,by omega,r⟩
theorem HoD.get {H:Hp}{d:Addr}{n:Nat}{ho:Seat->Option Str} (s:HoD H d n ho) {b:Addr}{c:Seat} (eb:H b=some (.tup (xax c))):DGet H d (.ref b) ((ho c).map V.str):=by
 obtain⟨kvs,e,l,f⟩:=s
 rw[<- f c]
 exact DGet.t (k:=xu c) e eb
theorem HoD.put {H:Hp}{d:Addr}{n:Nat}{ho:Seat->Option Str} (s:HoD H d n ho) (hn:n<1000) {b:Addr}{c:Seat} (eb:H b=some (.tup (xax c))) (x:Str) :
    ∃ H',DPut H d (.ref b) (.str x) H'/\HoD H' d (n+1) (Kp.upd1 ho c x)/\(∀ a u,a≠d->H a=some u->H' a=some u)/\Tups H H'/\∀ a,H a=none->H' a=none:=by
  obtain⟨kvs,e,l,f⟩:=s
  refine⟨_,DPut.t (k:=xu c) e eb (Nat.lt_of_le_of_lt (by omega:_<=1000) (by decide)),⟨_,xg,?_,fun z=>?_⟩,fun a u na ea=>by rw[xf na]; exact ea,fun a xs ea=>by rw[xf (xp ea e (fun z=>nomatch z))]; exact ea,fun a ea=>by rw[xf (fun z=>by rw[z,e] at ea; cases ea)]; exact ea⟩
  . have:=xbl kvs (xu c) (.str x)
    omega
  . rw[xcb]
    unfold Kp.upd1
    by_cases zc:z=c
    . rw[if_pos (by rw[zc]),if_pos zc]
      rfl
    . rw[if_neg (fun y=>zc (xd4 y)),if_neg zc]
      exact f z
theorem SoD.put {H:Hp}{d:Addr}{n:Nat}{so:Str->Option Seat} (s:SoD H d n so) (hn:n<1000) {b:Addr}{c:Seat} (eb:H b=some (.tup (xax c))) (x:Str) :
    ∃ H',DPut H d (.str x) (.ref b) H'/\SoD H' d (n+1) (Kp.upd1 so x c)/\(∀ a u,a≠d->H a=some u->H' a=some u)/\Tups H H'/\∀ a,H a=none->H' a=none:=by
  obtain⟨kvs,e,l,f⟩:=s
  have tp:Tups H (upd H d (.dK (putK kvs (.inr x) (.ref b)))):=fun a xs ea=>by rw[xf (xp ea e (fun z=>nomatch z))]; exact ea
  refine⟨_,DPut.k (k:=.inr x) e (Nat.lt_of_le_of_lt (by omega:_<=1000) (by decide)),⟨_,xg,?_,fun z=>?_⟩,fun a u na ea=>by rw[xf na]; exact ea,tp,fun a ea=>by rw[xf (fun z=>by rw[z,e] at ea; cases ea)]; exact ea⟩
  . have:=xbl kvs (.inr x) (.ref b)
    omega
  . rw[xcb]
    unfold Kp.upd1
    by_cases zc:z=x
    . subst zc
      rw[if_pos rfl,if_pos rfl]
      exact⟨fun y=>(nomatch y),fun s hs=>⟨b,rfl,by cases hs; exact tp _ _ eb⟩⟩
    . rw[if_neg (fun y=>zc (Sum.inr.inj y)),if_neg zc]
      exact⟨(f z).1,fun s hs=>let ⟨q,a1,a2⟩:=(f z).2 s hs; ⟨q,a1,tp _ _ a2⟩⟩
theorem SoD.get {H:Hp}{d:Addr}{n:Nat}{so:Str->Option Seat} (s:SoD H d n so) (x:Str):(so x=none/\DGet H d (.str x) none)\/∃ c q,so x=some c/\DGet H d (.str x) (some (.ref q))/\H q=some (.tup (xax c)):=by
 obtain⟨kvs,e,l,f⟩:=s
 have g:=DGet.k (k:=.inr x) e
 cases z:so x with
 | none =>
  rw[(f x).1 z] at g
  exact .inl ⟨rfl,g⟩
 | some c =>
  obtain⟨q,e1,e2⟩:=(f x).2 c z
  rw[e1] at g
  exact .inr ⟨c,q,rfl,g,e2⟩
structure Sg (t:Adr) (H:Hp) (p d1 d2:Addr) (n:Nat) (so:Str->Option Seat) (ho:Seat->Option Str):Prop where
 ins:∃ dx,H p=some (.ins t.C_ao dx (seF d1 d2))
 so:SoD H d1 n so
 ho:HoD H d2 n ho
theorem Sg.keep {t:Adr}{H H':Hp}{p d1 d2:Addr}{n:Nat}{so:Str->Option Seat}{ho:Seat->Option Str} (g:Sg t H p d1 d2 n so ho) {d:Addr} (h1:p≠d) (h2:d1≠d) (h3:d2≠d) (tp:Tups H H') (k:∀ b u,b≠d->H b=some u->H' b=some u):Sg t H' p d1 d2 n so ho :=
 ⟨let ⟨dx,e⟩:=g.ins; ⟨dx,k _ _ h1 e⟩,g.so.keep tp (fun u e=>k _ _ h2 e),g.ho.keep (fun u e=>k _ _ h3 e)⟩
theorem Sg.same {t:Adr}{H H':Hp}{p d1 d2:Addr}{n:Nat}{so:Str->Option Seat}{ho:Seat->Option Str} (g:Sg t H p d1 d2 n so ho) (s:Same H H'):Sg t H' p d1 d2 n so ho :=
 ⟨let ⟨dx,e⟩:=g.ins; ⟨dx,s _ _ e⟩,g.so.keep (Same.tups s) (fun u e=>s _ _ e),g.ho.keep (fun u e=>s _ _ e)⟩
theorem Sg.le {t:Adr}{H:Hp}{p d1 d2:Addr}{n k:Nat}{so:Str->Option Seat}{ho:Seat->Option Str} (g:Sg t H p d1 d2 n so ho) (h:n<=k):Sg t H p d1 d2 k so ho:=⟨g.ins,g.so.le h,g.ho.le h⟩
def KB (H H':Hp) (d1 d2:Addr):Prop:=∀ b u,b≠d1->b≠d2->H b=some u->H' b=some u
def xm9 (t:Adr):Sp:=fun vs H Q _=>∃(p dx:Addr),vs=[.ref p]/\H p=some (.ins t.C_ao dx [])/\∀ H' d1 d2,H d1=none->H d2=none->(∀ b u,b≠p->H b=some u->H' b=some u)->Sg t H' p d1 d2 0 (fun _=>none) (fun _=>none)->Q .non H'
structure xnz (room:Str->List Seat) (so:Str->Option Seat) (asked:Seat->Option Str) (rk:Str->Nat) (name:Str):Prop where
 rm:∀ s a,asked s=some a->s∈room a
 no:∀ s a,asked s=some a->so a=none->a=name
 up:∀ s a,asked s=some a->∀ s1,so a=some s1->∃ a1,asked s1=some a1/\rk a1<rk a
 le:∀ s a,asked s=some a->rk a<=20
def xpl (t:Adr):Sp:=fun vs H Q _=>∃(p d1 d2 d3 q:Addr) (n m:Nat) (room:Str->List Seat) (so:Str->Option Seat) (ho asked:Seat->Option Str) (rk:Str->Nat) (name a:Str) (s:Seat),vs=[.ref p,.ref d3,.ref q]/\H q=some (.tup (xax s))/\Sg t H p d1 d2 n so ho/\HoD H d3 m asked/\d3≠d2/\n<=600/\Kp.Mt room so ho/\ho s=none/\asked s=some a/\xnz room so asked rk name /\
 ∀ H' so' ho',KB H H' d1 d2->(∀ b,H b=none->H' b=none)->Sg t H' p d1 d2 (n+30) so' ho'->Kp.Mt room so' ho'->(∀ z,(so' z).isSome=(decide (z=name)||(so z).isSome))->Kp.Rch (Kp.kstep room so ho) (.hand so ho asked s) (.fin so' ho')->Q .non H'
section
variable {P:Program}{w:World}{K:PySem.W.Frag}{mg:Str->Option Value}{base:Heap}{t:Adr}
theorem ok_ad (T:Txt w K mg t):FnOk true P w K mg base (CXo P w) 1 t.f_ad t.d_ad ["self"] (xm9 t):=by
 refine T.F_ad.okn (k:=0) sc_ad (fun vs H Q E h=>?_) (fun cdv A outer s H vs Q E hr h=>?_)
 .obtain ⟨p,dx,rfl,_⟩:=h
  rfl
 .obtain ⟨p,dx,rfl,h⟩:=h
  refine⟨_,xh (xb8 (pv 0) (xdw) rfl)
   (xl (xb8 (pv 0) (xds) rfl)),?_⟩
  obtain⟨hp,q⟩:=h
  refine fun d1 hd1=>?_
  have n1:p≠d1:=xb hp hd1
  refine⟨_,rfl,p,_,dx,_,rfl,(by rw[xf n1]; exact hp),T.c_ao,T.n_a2,(by show 0<1000; decide),fun d2 hd2=>?_⟩
  have n2:p≠d2:=xb xg hd2
  have n3:d1≠d2:=xb (by rw[xf (Ne.symm n1)]; exact xg) hd2
  refine⟨_,rfl,p,_,dx,_,rfl,(by rw[xf n2]; exact xg),T.c_ao,T.n_az,(by show 1<1000; decide),?_⟩
  have hd2':H d2=none:=by
   have z:=hd2
   rw[xf (Ne.symm n2),xf (Ne.symm n3)] at z
   exact z
  refine q _ d1 d2 hd1 hd2' (fun b u nb e=>?_) ⟨⟨dx,xg⟩,⟨[],?_,Nat.le_refl _,fun nm=>⟨fun _=>rfl,fun s z=>(nomatch z)⟩⟩,⟨[],?_,Nat.le_refl _,fun s=>rfl⟩⟩
  .rw [xf nb,xf (xb e hd2'),xf nb,xf (xb e hd1)]
   exact e
  .rw [xf (Ne.symm n1),xf n3,xf (Ne.symm n1)]
   exact xg
  .rw [xf (Ne.symm n2)]
   exact xg
theorem ok_n (T:Txt w K mg t):FnOk true P w K mg base (CXo P w) 1 t.f_n t.d_n ["self", "asked_by", "free_seat"] (xpl t):=by
 refine T.F_n.okn (k:=0) sc_n (fun vs H Q E h=>?_) (fun cdv A outer s H vs Q E hr h=>?_)
 .obtain ⟨p,d1,d2,d3,q0,n,m,room,so,ho,asked,rk,name,a0,s0,rfl,_⟩:=h
  rfl
 .obtain ⟨p,d1,d2,d3,q0,n,m,room,so,ho,asked,rk,name,a0,s0,rfl,h⟩:=h
  refine⟨_,xh (x0 (i:=3) sc_n.nd rfl (Or.inl rfl) (pv 2))
   (xl (xfy PassesOwn.never (xag xjj (pv 3) (xcj) (xam _)) (xh (x0 (i:=4) sc_n.nd rfl (Or.inl rfl) (xbo (xau hr) (pv 1) (pv 3) (fun _ _=>rfl)))
   (xh (x0 (i:=5) sc_n.nd rfl (Or.inl rfl) (xm8 (xau hr) (xab (pv 0) rfl) (pv 4) ⟨rfl,rfl,rfl,rfl⟩))
   (xh (xca (xau hr) (xab (pv 0) rfl) (pv 4) (pv 3) rfl)
   (xh (xca (xau hr) (xab (pv 0) rfl) (pv 3) (pv 4) rfl)
   (xl (x0 (i:=3) sc_n.nd rfl (Or.inl rfl) (pv 5))))))))),?_⟩
  obtain⟨hq0,sg,had,n32,n600,mt,hs0,as0,ch,q⟩:=h
  refine⟨_,rfl,?_⟩
  refine⟨fun k σ H1=>∃ v3 v4 v5,σ=[some (.ref p),some (.ref d3),some (.ref q0),some v3,v4,v5]/\KB H H1 d1 d2/\(∀ b,H b=none->H1 b=none)/\((v3=.non/\k=0/\∃ so' ho',Sg t H1 p d1 d2 (n+30) so' ho'/\Kp.Mt room so' ho'/\(∀ z,(so' z).isSome=(decide (z=name)||(so z).isSome))/\Kp.Rch (Kp.kstep room so ho) (.hand so ho asked s0) (.fin so' ho'))\/∃(qs:Addr) (s:Seat) (a:Str) (so1:Str->Option Seat) (ho1:Seat->Option Str) (n1:Nat),v3=.ref qs/\H1 qs=some (.tup (xax s))/\asked s=some a/\k=rk a+1/\Kp.Hand room (fun z=>(so z).isSome) so1 ho1 s/\(∀ b,rk b<=rk a->so1 b=so b)/\Sg t H1 p d1 d2 n1 so1 ho1/\n1+rk a<=n+20/\Kp.Rch (Kp.kstep room so ho) (.hand so ho asked s0) (.hand so1 ho1 asked s)),⟨rk a0+1,_,_,_,rfl,fun b u _ _ e=>e,fun b e=>e,.inr ⟨q0,s0,a0,so,ho,n,rfl,hq0,as0,rfl,mt.hand hs0,fun _ _=>rfl,sg,(by have:=ch.le _ _ as0; omega),.refl _⟩⟩,?_⟩
  rintro k σ H1 ⟨v3,v4,v5,rfl,kb,fr,cs⟩
  refine⟨_,rfl,rfl,_,rfl,?_⟩
  rcases cs with⟨rfl,rfl,so',ho',sg',mt',dm',rc'⟩|⟨qs,s,a,so1,ho1,n1,rfl,hqs,asd,rfl,hand,low,sg1,nb,rc1⟩
  .exact ifN (by decide) (q H1 so' ho' kb fr sg' mt' dm' rc')
  .refine ifP (by rw[decide_eq_false (fun z=>nomatch z)]; rfl) ⟨fun σ' H'=>∃ k',k'<rk a+1/\∃ v3 v4 v5,σ'=[some (.ref p),some (.ref d3),some (.ref q0),some v3,v4,v5]/\KB H H' d1 d2/\(∀ b,H b=none->H' b=none)/\((v3=.non/\k'=0/\∃ so' ho',Sg t H' p d1 d2 (n+30) so' ho'/\Kp.Mt room so' ho'/\(∀ z,(so' z).isSome=(decide (z=name)||(so z).isSome))/\Kp.Rch (Kp.kstep room so ho) (.hand so ho asked s0) (.fin so' ho'))\/∃(qs:Addr) (s:Seat) (a:Str) (so1:Str->Option Seat) (ho1:Seat->Option Str) (n1:Nat),v3=.ref qs/\H' qs=some (.tup (xax s))/\asked s=some a/\k'=rk a+1/\Kp.Hand room (fun z=>(so z).isSome) so1 ho1 s/\(∀ b,rk b<=rk a->so1 b=so b)/\Sg t H' p d1 d2 n1 so1 ho1/\n1+rk a<=n+20/\Kp.Rch (Kp.kstep room so ho) (.hand so ho asked s0) (.hand so1 ho1 asked s)),fun σ' H' z=>z,?_⟩
   obtain⟨dx1,hp1⟩:=sg1.ins
   obtain⟨ka,hka,_⟩:=id had
   obtain⟨k1,hk1,_⟩:=id sg1.so
   obtain⟨k2,hk2,_⟩:=id sg1.ho
   obtain⟨k10,hk10,_⟩:=id sg.so
   obtain⟨k20,hk20,_⟩:=id sg.ho
   have n31:d3≠d1:=xp hka hk10 (fun z=>nomatch z)
   have n12:d1≠d2:=xp hk1 hk2 (fun z=>nomatch z)
   have had1:=had.keep (H':=H1) (fun u e=>kb _ _ n31 n32 e)
   have gt:=had1.get hqs
   rw[asd] at gt
   refine⟨_,rfl,_,rfl,d3,.str a,rfl,gt,?_⟩
   have lowa:=low a (Nat.le_refl _)
   have rma:=ch.rm _ _ asd
   have np1:p≠d1:=xp hp1 hk1 (fun z=>nomatch z)
   have np2:p≠d2:=xp hp1 hk2 (fun z=>nomatch z)
   -- the two puts
   obtain⟨H2,dp2,so2,kk2,tp2,fr2⟩:=sg1.so.put (by omega) hqs a
   have hp2:=kk2 _ _ np1 hp1
   have hqs2:=tp2 _ _ hqs
   have ho2:=sg1.ho.keep (H':=H2) (fun u e=>kk2 _ _ (Ne.symm n12) e)
   obtain⟨H3,dp3,ho3,kk3,tp3,fr3⟩:=ho2.put (by omega) hqs2 a
   have so3:=so2.keep tp3 (fun u e=>kk3 _ _ n12 e)
   have hp3:=kk3 _ _ np2 hp2
   have kb3:KB H H3 d1 d2:=fun b u b1 b2 e=>kk3 _ _ b2 (kk2 _ _ b1 (kb _ _ b1 b2 e))
   have fr03:∀ b,H b=none->H3 b=none:=fun b e=>fr3 _ (fr2 _ (fr _ e))
   have sg3:Sg t H3 p d1 d2 (n1+1) (Kp.upd1 so1 a s) (Kp.upd1 ho1 s a):=⟨⟨dx1,hp3⟩,so3,ho3⟩
   rcases sg1.so.get a with⟨e0,g0⟩|⟨s1,q1,e1,g1,hq1⟩
   .refine ⟨_,rfl,p,_,dx1,_,_,rfl,hp1,T.c_ao,T.n_a2,lkSo,d1,rfl,.inl ⟨k1,.inl hk1⟩,_,rfl,none,g0,?_⟩
    refine⟨_,rfl,_,rfl,p,_,dx1,_,_,rfl,hp1,T.c_ao,T.n_a2,lkSo,_,rfl,d1,H2,rfl,dp2,?_⟩
    refine⟨_,rfl,_,rfl,p,_,dx1,_,_,rfl,hp2,T.c_ao,T.n_az,lkHo,_,rfl,d2,H3,rfl,dp3,?_⟩
    have an:a=name:=ch.no _ _ asd (by rw[<- lowa]; exact e0)
    obtain⟨mt3,dm3⟩:=hand.last rma e0
    exact⟨_,rfl,0,by omega,_,_,_,rfl,kb3,fr03,.inl ⟨rfl,rfl,_,_,sg3.le (by omega),mt3,(fun z=>by rw[dm3 z,an]),.step rc1 (Kp.k_fin asd e0)⟩⟩
   .refine ⟨_,rfl,p,_,dx1,_,_,rfl,hp1,T.c_ao,T.n_a2,lkSo,d1,rfl,.inl ⟨k1,.inl hk1⟩,_,rfl,some (.ref q1),g1,?_⟩
    refine⟨_,rfl,_,rfl,p,_,dx1,_,_,rfl,hp1,T.c_ao,T.n_a2,lkSo,_,rfl,d1,H2,rfl,dp2,?_⟩
    refine⟨_,rfl,_,rfl,p,_,dx1,_,_,rfl,hp2,T.c_ao,T.n_az,lkHo,_,rfl,d2,H3,rfl,dp3,?_⟩
    obtain⟨a1,as1,lt⟩:=ch.up _ _ asd s1 (by rw[<- lowa]; exact e1)
    refine⟨_,rfl,rk a1+1,by omega,_,_,_,rfl,kb3,fr03,.inr ⟨q1,s1,a1,_,_,n1+1,rfl,tp3 _ _ (tp2 _ _ hq1),as1,rfl,hand.step rma e1,fun b hb=>?_,sg3,by omega,.step rc1 (Kp.k_hand asd e1)⟩⟩
    have nba:b≠a:=fun z=>by rw[z] at hb; omega
    show Kp.upd1 so1 a s b=so b
    unfold Kp.upd1
    rw[if_neg nba]
    exact low b (by omega)
end
structure Bf (room:Str->List Seat) (ho:Seat->Option Str) (name:Str) (crowd:List Str) (al:List Seat) (asked:Seat->Option Str):Prop where
 cr:crowd.length=al.length+1
 c0:crowd[0]?=some name
 hd:∀(j:Nat) (s:Seat),al[j]?=some s->∃ h,crowd[j+1]?=some h/\ho s=some h
 nd:al.Nodup
 no:∀ s,s∉al->asked s=none
 ak:∀(j:Nat) (s:Seat),al[j]?=some s->∃ k a,k<=j/\crowd[k]?=some a/\asked s=some a/\s∈room a
theorem xn2 {α:Type}{l:List α} (nd:l.Nodup) {i j:Nat} (hi:i<l.length) (hj:j<l.length) (e:l[i]=l[j]):i=j:=by
 rcases Nat.lt_trichotomy i j with h|h|h
 .exact absurd e (List.pairwise_iff_getElem.mp nd i j hi hj h)
 .exact h
 .exact absurd e.symm (List.pairwise_iff_getElem.mp nd j i hj hi h)
section
variable {room:Str->List Seat}{so:Str->Option Seat}{ho asked:Seat->Option Str}{name:Str}{crowd:List Str}{al:List Seat}
theorem Bf.start:Bf room ho name [name] [] (fun _=>none):=⟨rfl,rfl,fun j s e=>by simp at e,List.nodup_nil,fun _ _=>rfl,fun j s e=>by simp at e⟩
theorem Bf.at_ (b:Bf room ho name crowd al asked) (mt:Kp.Mt room so ho) {k:Nat}{a:Str} (e:crowd[k]?=some a):(k=0/\a=name)\/∃ j s,k=j+1/\al[j]?=some s/\so a=some s:=by
 cases k with
 | zero =>
  left
  rw[b.c0] at e
  exact⟨rfl,(Option.some.inj e).symm⟩
 | succ j =>
  right
  have lt:j<al.length:=by
   have:=(List.getElem?_eq_some_iff.mp e).1
   have:=b.cr
   omega
  obtain⟨h,e1,e2⟩:=b.hd j _ (List.getElem?_eq_getElem lt)
  rw[e] at e1
  cases e1
  exact⟨j,_,rfl,List.getElem?_eq_getElem lt,(mt.iff _ _).mpr e2⟩
theorem Bf.inj (b:Bf room ho name crowd al asked) (mt:Kp.Mt room so ho) (sn:so name=none) {k l:Nat}{a:Str} (e:crowd[k]?=some a) (e':crowd[l]?=some a):k=l:=by
 rcases b.at_ mt e with⟨rfl,rfl⟩|⟨j,s,rfl,h1,h2⟩<;>rcases b.at_ mt e' with⟨rfl,h⟩|⟨j',s',rfl,h1',h2'⟩
 .rfl
 .rw [sn] at h2'
  cases h2'
 .rw [h,sn] at h2
  cases h2
 .rw [h2] at h2'
  cases h2'
  obtain⟨x,hx⟩:=List.getElem?_eq_some_iff.mp h1
  obtain⟨y,hy⟩:=List.getElem?_eq_some_iff.mp h1'
  have:=(xn2 b.nd x y (by rw[hx,hy]))
  omega
theorem Bf.nodup (b:Bf room ho name crowd al asked) (mt:Kp.Mt room so ho) (sn:so name=none):crowd.Nodup:=by
 refine List.pairwise_iff_getElem.mpr fun i j hi hj lt e=>?_
 have:=b.inj mt sn (List.getElem?_eq_getElem hi) (by rw[e]; exact List.getElem?_eq_getElem hj)
 omega
theorem Bf.add (b:Bf room ho name crowd al asked) {i:Nat}{a h:Str}{s:Seat} (ea:crowd[i]?=some a) (ra:s∈room a) (ns:s∉al) (hh:ho s=some h):Bf room ho name (crowd++[h]) (al++[s]) (Kp.upd1 asked s a):=by
 have cr:=b.cr
 have il:=(List.getElem?_eq_some_iff.mp ea).1
 have lft:∀{k:Nat}{x:Str},crowd[k]?=some x->(crowd++[h])[k]?=some x:=fun {k x} e=>by
  rw[List.getElem?_append_left (List.getElem?_eq_some_iff.mp e).1]
  exact e
 refine⟨by rw[List.length_append,List.length_append,cr]; rfl,lft b.c0,fun j z e=>?_,?_,fun z nz=>?_,fun j z e=>?_⟩
 .by_cases c:j<al.length
  .rw [List.getElem?_append_left c] at e
   obtain⟨h',e1,e2⟩:=b.hd j z e
   exact⟨h',lft e1,e2⟩
  .have jl:=(List.getElem?_eq_some_iff.mp e).1
   rw[List.length_append,List.length_singleton] at jl
   have:j=al.length:=by omega
   subst this
   rw[List.getElem?_append_right (Nat.le_refl _),Nat.sub_self] at e
   cases e
   refine⟨h,?_,hh⟩
   rw[<- cr,List.getElem?_append_right (Nat.le_refl _),Nat.sub_self]
   rfl
 .rw [List.nodup_append]
  exact⟨b.nd,by simp,fun x hx y hy e=>ns (by rw[List.mem_singleton.mp hy] at e; exact e▸hx)⟩
 .unfold Kp.upd1
  rw[if_neg (fun e=>nz (by rw[e]; exact List.mem_append_right _ (List.mem_singleton.mpr rfl)))]
  exact b.no z fun y=>nz (List.mem_append_left _ y)
 .by_cases c:j<al.length
  .rw [List.getElem?_append_left c] at e
   obtain⟨k,x,e1,e2,e3,e4⟩:=b.ak j z e
   refine⟨k,x,e1,lft e2,?_,e4⟩
   unfold Kp.upd1
   rw[if_neg (fun y=>ns (by rw[<- y]; exact List.mem_of_getElem? e))]
   exact e3
  .have jl:=(List.getElem?_eq_some_iff.mp e).1
   rw[List.length_append,List.length_singleton] at jl
   have:j=al.length:=by omega
   subst this
   rw[List.getElem?_append_right (Nat.le_refl _),Nat.sub_self] at e
   cases e
   refine⟨i,a,by omega,lft ea,?_,ra⟩
   unfold Kp.upd1
   rw[if_pos rfl]
theorem Bf.chain (b:Bf room ho name crowd al asked) (mt:Kp.Mt room so ho) (sn:so name=none) (c20:crowd.length<=20) {i:Nat}{a:Str}{s:Seat} (ea:crowd[i]?=some a) (ra:s∈room a) (ns:s∉al):xnz room so (Kp.upd1 asked s a) (fun z=>crowd.idxOf z) name:=by
 have ix:∀{k:Nat}{x:Str},crowd[k]?=some x->crowd.idxOf x=k:=fun {k x} e=>by
  have m:=List.mem_of_getElem? e
  have lt:=List.idxOf_lt_length_of_mem m
  refine b.inj mt sn (a:=x) ?_ e
  rw[List.getElem?_eq_getElem lt,List.getElem_idxOf]
 have key:∀ s' a',Kp.upd1 asked s a s'=some a'->s'∈room a'/\∃ k,crowd[k]?=some a':=fun s' a' e=>by
  unfold Kp.upd1 at e
  split at e
  .rename_i h
   cases e
   rw[h]
   exact⟨ra,i,ea⟩
  .by_cases h:s'∈al
   .obtain ⟨j,hj,ej⟩:=List.getElem_of_mem h
    obtain⟨k,x,e1,e2,e3,e4⟩:=b.ak j s' (by rw[List.getElem?_eq_getElem hj,ej])
    rw[e] at e3
    cases e3
    exact⟨e4,k,e2⟩
   .rw [b.no s' h] at e
    cases e
 refine⟨fun s' a' e=>(key s' a' e).1,fun s' a' e z=>?_,fun s' a' e s1 z=>?_,fun s' a' e=>?_⟩
 .obtain ⟨_,k,ek⟩:=key s' a' e
  rcases b.at_ mt ek with⟨_,h⟩|⟨j,s2,_,_,h⟩
  .exact h
  .rw [z] at h
   cases h
 .obtain ⟨_,k,ek⟩:=key s' a' e
  rcases b.at_ mt ek with⟨_,h⟩|⟨j,s2,rfl,hj,h⟩
  .rw [h,sn] at z
   cases z
  .rw [z] at h
   cases h
   obtain⟨k2,a2,e1,e2,e3,_⟩:=b.ak j s1 hj
   refine⟨a2,?_,?_⟩
   .unfold Kp.upd1
    rw[if_neg (fun y=>ns (by rw[<- y]; exact List.mem_of_getElem? hj))]
    exact e3
   .show crowd.idxOf a2<crowd.idxOf a'
    rw[ix e2,ix ek]
    omega
 .obtain ⟨_,k,ek⟩:=key s' a' e
  show crowd.idxOf a'<=20
  rw[ix ek]
  have:=(List.getElem?_eq_some_iff.mp ek).1
  omega
theorem Bf.done (b:Bf room ho name crowd al asked) (mt:Kp.Mt room so ho) (sn:so name=none) (all:∀(k:Nat) (a:Str),crowd[k]?=some a->∀ s∈room a,s∈al):∃ hs,crowd=name::hs/\Kp.Crowd room so name hs:=by
 have nd:=b.nodup mt sn
 cases crowd with
 | nil =>
  have:=b.c0
  simp at this
 | cons x hs =>
  have e0:=b.c0
  rw[List.getElem?_cons_zero] at e0
  cases e0
  refine⟨hs,rfl,nd,fun h hh=>?_,fun c hc s hs'=>?_⟩
  .obtain ⟨j,hj,ej⟩:=List.getElem_of_mem hh
   have e:(name::hs)[j+1]?=some h:=by
    rw[List.getElem?_cons_succ,List.getElem?_eq_getElem hj,ej]
   rcases b.at_ mt e with⟨z,_⟩|⟨_,s,_,_,z⟩
   .omega
   .rw [z]
    rfl
  .obtain ⟨k,hk,ek⟩:=List.getElem_of_mem hc
   have sal:=all k c (by rw[List.getElem?_eq_getElem hk,ek]) s hs'
   obtain⟨j,hj,ej⟩:=List.getElem_of_mem sal
   obtain⟨h,e1,e2⟩:=b.hd j s (by rw[List.getElem?_eq_getElem hj,ej])
   rw[List.getElem?_cons_succ] at e1
   exact⟨h,List.mem_of_getElem? e1,(mt.iff _ _).mpr e2⟩
end
def RmD (H:Hp) (d:Addr) (names:List Str) (room:Str->List Seat):Prop:=∃ kvs:List (Key × V),H d=some (.dK kvs)/\∀ nm∈names,∃ l rs,valV kvs (.inr nm)=some (.ref l)/\H l=some (.lst (rs.map V.ref))/\xah H (room nm) rs
def xog (t:Adr):Sp:=fun vs H Q _=>∃(p d1 d2 rm:Addr) (n:Nat) (room:Str->List Seat) (so:Str->Option Seat) (ho:Seat->Option Str) (names:List Str) (name:Str),vs=[.ref p,.str name,.ref rm]/\Sg t H p d1 d2 n so ho/\n<=600/\Kp.Mt room so ho/\so name=none/\RmD H rm names room/\rm≠d1/\(∀ z,(so z).isSome->z∈names)/\name∈names/\names.length<=12/\(∀ z,(room z).length<=32) /\
 (∀ H' l so' ho',KB H H' d1 d2->H l=none->H' l=some (.lst [])->Sg t H' p d1 d2 (n+30) so' ho'->Kp.Mt room so' ho'->(∀ z,(so' z).isSome=(decide (z=name)||(so z).isSome))->Kp.Rch (Kp.kstep room so ho) (.ask [name] (fun _=>none) 0 0) (.fin so' ho')->Q (.ref l) H') /\
 ∀ H' l hs,Same H H'->H l=none->H' l=some (.lst ((name::hs).map V.str))->Kp.Crowd room so name hs->Kp.Rch (Kp.kstep room so ho) (.ask [name] (fun _=>none) 0 0) (.out (name::hs))->Q (.ref l) H'
def ICr (t:Adr) (H:Hp) (p d1 d2 rm lc da:Addr) (n:Nat) (room:Str->List Seat) (so:Str->Option Seat) (ho:Seat->Option Str) (name:Str) (i j:Nat) (crowd:List Str) (al:List Seat) (asked:Seat->Option Str) (H1:Hp):Prop :=
 Same H H1/\H1 lc=some (.lst (crowd.map V.str))/\HoD H1 da al.length asked/\Bf room ho name crowd al asked/\(∀(k:Nat) (a:Str),k<i->crowd[k]?=some a->∀ s∈room a,s∈al)/\Kp.Rch (Kp.kstep room so ho) (.ask [name] (fun _=>none) 0 0) (.ask crowd asked i j)
section
variable {P:Program}{w:World}{K:PySem.W.Frag}{mg:Str->Option Value}{base:Heap}{t:Adr}
theorem ok_d (T:Txt w K mg t):FnOk true P w K mg base (CXo P w) 2 t.f_d t.d_d ["self", "name", "rooms"] (xog t):=by
 refine T.F_d.okn (k:=1) sc_d (fun vs H Q E h=>?_) (fun cdv A outer s H vs Q E hr h=>?_)
 .obtain ⟨p,d1,d2,rm,n,room,so,ho,names,name,rfl,_⟩:=h
  rfl
 .obtain ⟨p,d1,d2,rm,n,room,so,ho,names,name,rfl,h⟩:=h
  refine⟨_,xh (x0 (i:=3) sc_d.nd rfl (Or.inl rfl) (xbu (xa (pv 1) (xj))))
   (xh (x0 (i:=4) sc_d.nd rfl (Or.inl rfl) (xds))
   (xh (x0 (i:=5) sc_d.nd rfl (Or.inl rfl) (xm))
   (xh (xfy PassesOwn.never (xag xhs (pv 5) (xas xbd rfl T.n_len boot_len (xa (pv 3) (xj))) (xam _)) (xh (x0 (i:=6) sc_d.nd rfl (Or.inl rfl) (xbj xbs (pv 3) (pv 5) (fun _ _=>rfl)))
   (xh (xbe PassesOwn.never rfl (xaj (xbo (xau hr) (pv 2) (pv 6) (fun _ _=>rfl))) (xn (i:=7) sc_d.nd rfl (Or.inl rfl)) (xl (xat (xcz (xdc (xau hr) (pv 7) (pv 4))) (xh (xca (xau hr) (pv 4) (pv 7) (pv 6) rfl)
   (xh (xat (xcz (xdc (xau hr) (pv 7) (xab (pv 0) rfl))) (xh (xav (xak (pv 0) T.c_ao T.m_n (ok_n T) (hr.mono (by decide)) T.b_n .nil xk (xa (pv 4) (xa (pv 7) (xj)))))
   (xl (xaf (xbu (xj))))) (xae))
   (xl (xav (xfb PySem.F.plainAttrs_list PySem.F.slot_list_append PySem.F.type_list_append xdg (pv 3) (xa (xbo (xau hr) (xab (pv 0) rfl) (pv 7) (fun _ _=>rfl)) (xj))))))) (xae))))
   (xl (xqm (i:=5) sc_d.nd rfl (Or.inl rfl) (xm) xpb)))))
   (xl (xaf (pv 3)))))),?_⟩
  obtain⟨sg,n600,mt,sn,rmd,nrm,dom,nin,n12,r32,qA,qB⟩:=h
  refine⟨_,rfl,(by show 1<=sizeLine; decide),fun lc hlc=>?_⟩
  have s1:Same H (upd H lc (.lst [.str name])):=xo (Same.refl _) hlc
  have g1:upd H lc (.lst [.str name]) lc=some (.lst [.str name]):=xg
  revert s1 g1
  generalize upd H lc (.lst [.str name])=H1
  intro s1 g1
  refine fun da hda=>?_
  have s2:Same H1 (upd H1 da (.dT [])):=xo (Same.refl _) hda
  have g2:upd H1 da (.dT []) da=some (.dT []):=xg
  revert s2 g2
  generalize upd H1 da (.dT [])=H2
  intro s2 g2
  have fda:=s1.free hda
  have s02:=s1.trans s2
  have ncd:lc≠da:=xb g1 hda
  have cl12:∀{crowd:List Str}{al:List Seat}{asked:Seat->Option Str},Bf room ho name crowd al asked->crowd.length<=12:=fun {crowd al asked} b=>by
   refine Nat.le_trans ((b.nodup mt sn).length_le_of_subset (l₂:=names) fun x hx=>?_) n12
   obtain⟨k,hk,ek⟩:=List.getElem_of_mem hx
   rcases b.at_ mt (show crowd[k]?=some x by rw[List.getElem?_eq_getElem hk,ek]) with⟨_,e⟩|⟨j,s,_,_,e⟩
   .rw [e]
    exact nin
   .exact dom x (by rw[e]; rfl)
  refine⟨fun m σ H3=>∃(i:Nat) (crowd:List Str) (al:List Seat) (asked:Seat->Option Str) (v6 v7:Option V),m+i=13/\i<=crowd.length/\σ=[some (.ref p),some (.str name),some (.ref rm),some (.ref lc),some (.ref da),some (.int (i:Int)),v6,v7]/\ICr t H p d1 d2 rm lc da n room so ho name i 0 crowd al asked H3,⟨13,0,[name],[],fun _=>none,_,_,rfl,Nat.zero_le _,rfl,s02,s2 _ _ g1,⟨[],g2,Nat.le_refl _,fun _=>rfl⟩,.start,(fun k a z=>by omega),.refl _⟩,?_⟩
  rintro m σ H3 ⟨i,crowd,al,asked,v6,v7,mi,il,rfl,s3,hlc3,had3,bf,cov,rc3⟩
  have c12:=cl12 bf
  refine⟨_,rfl,_,rfl,lc,_,rfl,.inl (SqL.of hlc3),_,_,rfl,rfl,_,rfl,ite2 (fun y=>?_) (fun y=>?_)⟩
  .have ic:i<crowd.length:=by
    have z:=of_decide_eq_true y
    rw[List.length_map] at z
    omega
   refine⟨fun σ' H'=>∃ m',m'<m/\∃(i:Nat) (crowd:List Str) (al:List Seat) (asked:Seat->Option Str) (v6 v7:Option V),m'+i=13/\i<=crowd.length/\σ'=[some (.ref p),some (.str name),some (.ref rm),some (.ref lc),some (.ref da),some (.int (i:Int)),v6,v7]/\ICr t H p d1 d2 rm lc da n room so ho name i 0 crowd al asked H',fun σ' H' z=>z,?_⟩
   obtain⟨a,ea⟩:∃ a,crowd[i]?=some a:=⟨_,List.getElem?_eq_getElem ic⟩
   refine⟨_,rfl,_,rfl,lc,_,_,.str a,rfl,rfl,SqL.of hlc3,xcs (by rw[List.getElem?_map,ea]; rfl),?_⟩
   have ain:a∈names:=by
    rcases bf.at_ mt ea with⟨_,e⟩|⟨j,s,_,_,e⟩
    .rw [e]
     exact nin
    .exact dom a (by rw[e]; rfl)
   obtain⟨kr,hkr,fr⟩:=id rmd
   obtain⟨lr,rs,er,hlr,slr⟩:=fr a ain
   have gr:=DGet.k (k:=.inr a) (s3 _ _ hkr)
   rw[er] at gr
   refine⟨_,rfl,_,rfl,rm,.ref lr,rfl,gr,lr,rfl,⟨_,SqL.of (s3 _ _ hlr)⟩,?_⟩
   have rll:=slr.len
   refine xbg (xs:=rs.map V.ref) (Pv:=fun j σ H4=>∃(crowd:List Str) (al:List Seat) (asked:Seat->Option Str) (v7:Option V),crowd[i]?=some a/\(∀ s∈(room a).take j,s∈al)/\σ=[some (.ref p),some (.str name),some (.ref rm),some (.ref lc),some (.ref da),some (.int (i:Int)),some (.str a),v7]/\ICr t H p d1 d2 rm lc da n room so ho name i j crowd al asked H4) ⟨crowd,al,asked,_,ea,(fun s hs=>by rw[List.take_zero] at hs; exact nomatch hs),rfl,s3,hlc3,had3,bf,cov,rc3⟩ ?_ ?_ ?_
   .rintro j σ H4 _ ⟨_,_,_,_,_,_,rfl,s4,_⟩
    exact SqL.of (s4 _ _ hlr)
   .rintro j x σ H4 hx ⟨crowd,al,asked,v7,ea,tk,rfl,s4,hlc4,had4,bf,cov,rc4⟩
    rw[List.getElem?_map,Option.map_eq_some_iff] at hx
    obtain⟨qs,hqs,rfl⟩:=hx
    obtain⟨s,hs,hsq⟩:=slr.get hqs
    have hsq4:=s4 _ _ hsq
    have ra:s∈room a:=List.mem_of_getElem? hs
    have c12:=cl12 bf
    have cr:=bf.cr
    have tk1:∀ al':List Seat,(∀ z∈al,z∈al')->s∈al'->∀ z∈(room a).take (j+1),z∈al':=fun al' h1 h2 z hz=>by
     rw[List.take_add_one,hs] at hz
     rcases List.mem_append.mp hz with hz|hz
     .exact h1 _ (tk z hz)
     .have hz:z∈[s]:=hz
      rw[List.mem_singleton.mp hz]
      exact h2
    refine⟨_,rfl,_,rfl,da,_,rfl,had4.get hsq4,_,rfl,ite2 (fun y=>?_) (fun y=>?_)⟩
    .have ns:s∉al:=fun z=>by
      obtain⟨k,hk,ek⟩:=List.getElem_of_mem z
      obtain⟨_,x,_,_,e3,_⟩:=bf.ak k s (by rw[List.getElem?_eq_getElem hk,ek])
      rw[e3] at y
      exact absurd y (by simp)
     obtain⟨H5,dp5,had5,k5,tp5,fr5⟩:=had4.put (by omega) hsq4 a
     refine⟨_,rfl,_,rfl,_,rfl,da,H5,rfl,dp5,?_⟩
     have sg4:=sg.same s4
     obtain⟨dx4,hp4⟩:=sg4.ins
     obtain⟨kq1,hkq1,_⟩:=id sg.so
     obtain⟨kq2,hkq2,_⟩:=id sg.ho
     obtain⟨dxp,hpp⟩:=sg.ins
     have sg5:Sg t H5 p d1 d2 n so ho:=sg4.keep (d:=da) (xb hpp fda) (xb hkq1 fda) (xb hkq2 fda) tp5 k5
     have hp5:=k5 _ _ (xb hpp fda) hp4
     have hsq5:=tp5 _ _ hsq4
     have hlc5:=k5 _ _ ncd hlc4
     have s5:Same H H5:=fun c u e=>k5 _ _ (xb e fda) (s4 _ _ e)
     refine⟨_,rfl,_,rfl,p,_,dx4,_,_,rfl,hp5,T.c_ao,T.n_az,lkHo,d2,_,rfl,sg5.ho.get hsq5,_,rfl,ite2 (fun y2=>?_) (fun y2=>?_)⟩
     .have hn:ho s=none:=by
       cases e:ho s with
       | none=>rfl
       | some h =>
        rw[e] at y2
        exact absurd y2 (by simp)
      refine⟨_,rfl,p,dx4,_,rfl,hp5,xh0 (by decide +kernel),_,rfl,_,rfl,p,d1,d2,da,qs,n,_,room,so,ho,_,_,name,a,s,rfl,hsq5,sg5,had5,Ne.symm (xb hkq2 fda),n600,mt,hn,by unfold Kp.upd1; rw[if_pos rfl],bf.chain mt sn (by omega) ea ra ns,fun H6 so' ho' kb6 fr6 sg6 mt6 dm6 rc6=>?_⟩
      refine⟨(by show 0<=sizeLine; decide),fun l hl=>?_⟩
      have kb:KB H H6 d1 d2:=fun b u b1 b2 e=>kb6 _ _ b1 b2 (s5 _ _ e)
      have hl0:H l=none:=by
       cases e:H l with
       | none=>rfl
       | some u =>
        by_cases e1:l=d1
        .obtain ⟨kz,hkz,_⟩:=sg6.so
         rw[<- e1,hl] at hkz
         cases hkz
        .by_cases e2:l=d2
         .obtain ⟨kz,hkz,_⟩:=sg6.ho
          rw[<- e2,hl] at hkz
          cases hkz
         .rw [kb _ _ e1 e2 e] at hl
          cases hl
      exact qA _ l so' ho' (fun b u b1 b2 e=>by rw[xf (xb e hl0)]; exact kb _ _ b1 b2 e) hl0 xg (sg6.same (xo (Same.refl _) hl)) mt6 dm6 ((Kp.Rch.step rc4 (Kp.k_free ea hs (bf.no s ns) hn)).trans rc6)
     .obtain ⟨h,eh⟩:∃ h,ho s=some h:=by
       cases e:ho s with
       | none =>
        rw[e] at y2
        exact absurd rfl y2
       | some h=>exact⟨h,rfl⟩
      have gh:=sg5.ho.get hsq5
      rw[eh] at gh
      refine⟨_,rfl,.inl ⟨rfl,_,SqL.of hlc5⟩,_,rfl,p,_,dx4,_,_,rfl,hp5,T.c_ao,T.n_az,lkHo,_,rfl,d2,.str h,rfl,gh,lc,_,_,rfl,rfl,hlc5,?_,?_⟩
      .rw [List.length_map]
       exact Nat.lt_of_le_of_lt (by omega:_<=1000) (by decide)
      have kl:∀ c u,c≠lc->H5 c=some u->upd H5 lc (.lst (crowd.map V.str++[.str h])) c=some u:=fun c u nc e=>by rw[xf nc]; exact e
      refine⟨crowd++[h],al++[s],_,_,?_,tk1 _ (fun z hz=>List.mem_append_left _ hz) (List.mem_append_right _ (List.mem_singleton.mpr rfl)),rfl,fun c u e=>kl _ _ (xb e hlc) (s5 _ _ e),by rw[xg,List.map_append]; rfl,?_,bf.add ea ra ns eh,fun k b hk eb z hz=>?_,.step rc4 (Kp.k_grow ea hs (bf.no s ns) eh)⟩
      .rw [List.getElem?_append_left (List.getElem?_eq_some_iff.mp ea).1]
       exact ea
      .rw [List.length_append,List.length_singleton]
       exact had5.keep (fun u e=>kl _ _ (Ne.symm ncd) e)
      .have hkl:k<crowd.length:=by
        have:=(List.getElem?_eq_some_iff.mp ea).1
        omega
       rw[List.getElem?_append_left hkl] at eb
       exact List.mem_append_left _ (cov k b hk eb z hz)
    .have sin:s∈al:=by
      by_cases z:s∈al
      .exact z
      .rw [bf.no s z] at y
       exact absurd rfl y
     obtain⟨kk,hkk,ekk⟩:=List.getElem_of_mem sin
     obtain⟨_,xx,_,_,e3,_⟩:=bf.ak kk s (by rw[List.getElem?_eq_getElem hkk,ekk])
     exact⟨crowd,al,asked,_,ea,tk1 al (fun z hz=>hz) sin,rfl,s4,hlc4,had4,bf,cov,.step rc4 (Kp.k_old ea hs e3)⟩
   .rintro σ H4 ⟨crowd,al,asked,v7,ea,tk,rfl,s4,hlc4,had4,bf,cov,rc4⟩
    rw[List.length_map,rll] at rc4
    rw[List.length_map,rll,List.take_of_length_le (Nat.le_refl _)] at tk
    have ic:=(List.getElem?_eq_some_iff.mp ea).1
    refine⟨_,rfl,_,_,rfl,rfl,m-1,by omega,i+1,crowd,al,asked,_,_,by omega,by omega,rfl,s4,hlc4,had4,bf,fun k b hk eb z hz=>?_,.step rc4 (Kp.k_next ea (List.getElem?_eq_none (Nat.le_refl _)))⟩
    by_cases c:k=i
    .subst c
     rw[ea] at eb
     cases eb
     exact tk z hz
    .exact cov k b (by omega) eb z hz
  .have ic:i=crowd.length:=by
    by_cases z:i<crowd.length
    .exact absurd (decide_eq_true (by rw[List.length_map]; omega)) y
    .omega
   obtain⟨hs,ec,cw⟩:=bf.done mt sn fun k a e z hz=>cov k a (by have:=(List.getElem?_eq_some_iff.mp e).1; omega) e z hz
   refine⟨_,rfl,qB H3 lc hs s3 hlc (by rw[<- ec]; exact hlc3) cw ?_⟩
   rw[<- ec]
   exact .step rc3 (Kp.k_end (List.getElem?_eq_none (by omega)))
end
inductive Run (room:Str->List Seat):List Str->(Str->Option Seat)->(Seat->Option Str)->List (Str × List Str)->Prop
 | nil:Run room [] (fun _=>none) (fun _=>none) []
 | inn {ns:List Str}{so so':Str->Option Seat}{ho ho':Seat->Option Str}{cs:List (Str × List Str)}{nm:Str} (r:Run room ns so ho cs) (mt:Kp.Mt room so' ho') (dm:∀ z,(so' z).isSome=(decide (z=nm)||(so z).isSome)) (rc:Kp.Rch (Kp.kstep room so ho) (.ask [nm] (fun _=>none) 0 0) (.fin so' ho')):Run room (ns++[nm]) so' ho' cs
 | out {ns:List Str}{so:Str->Option Seat}{ho:Seat->Option Str}{cs:List (Str × List Str)}{nm:Str}{hs:List Str} (r:Run room ns so ho cs) (c:Kp.Crowd room so nm hs) (rc:Kp.Rch (Kp.kstep room so ho) (.ask [nm] (fun _=>none) 0 0) (.out (nm::hs))):Run room (ns++[nm]) so ho (cs++[(nm,hs)])
theorem Run.mt {room:Str->List Seat}{ns:List Str}{so:Str->Option Seat}{ho:Seat->Option Str}{cs:List (Str × List Str)} (r:Run room ns so ho cs):Kp.Mt room so ho:=by
 induction r with
 | nil=>exact⟨fun n s=>⟨fun z=>(nomatch z),fun z=>(nomatch z)⟩,fun n s z=>(nomatch z)⟩
 | inn _ mt _ _ _=>exact mt
 | out _ _ _ ih=>exact ih
theorem Run.outs {room:Str->List Seat}{ns:List Str}{so:Str->Option Seat}{ho:Seat->Option Str}{cs:List (Str × List Str)} (r:Run room ns so ho cs):(∀ z∈cs.map (·.1),z∈ns)/\cs.length<=ns.length:=by
 induction r with
 | nil=>exact⟨fun _ z=>(nomatch z),Nat.le_refl _⟩
 | inn _ _ _ _ ih=>exact⟨fun z hz=>List.mem_append_left _ (ih.1 z hz),by rw[List.length_append]; have:=ih.2; omega⟩
 | out _ _ _ ih =>
  refine⟨fun z hz=>?_,by rw[List.length_append,List.length_append]; have:=ih.2; simp; omega⟩
  rw[List.map_append] at hz
  rcases List.mem_append.mp hz with hz|hz
  .exact List.mem_append_left _ (ih.1 z hz)
  .exact List.mem_append_right _ hz
theorem Run.dom {room:Str->List Seat}{ns:List Str}{so:Str->Option Seat}{ho:Seat->Option Str}{cs:List (Str × List Str)} (r:Run room ns so ho cs) (nd:ns.Nodup):∀ z,(so z).isSome=(decide (z∈ns)&&!decide (z∈cs.map (·.1))):=by
 induction r with
 | nil=>intro z; rfl
 | @inn ns so so' ho ho' cs nm r mt dm rc ih =>
  intro z
  rw[List.nodup_append] at nd
  rw[dm z,ih nd.1 z]
  by_cases e:z=nm
  .subst e
   have h1:z∉ns:=fun h=>nd.2.2 z h z (List.mem_singleton.mpr rfl) rfl
   have h2:z∉cs.map (·.1):=fun h=>h1 (r.outs.1 z h)
   simp[h2]
  .simp [e]
 | @out ns so ho cs nm hs r c rc ih =>
  intro z
  rw[List.nodup_append] at nd
  rw[ih nd.1 z]
  by_cases e:z=nm
  .subst e
   have h1:z∉ns:=fun h=>nd.2.2 z h z (List.mem_singleton.mpr rfl) rfl
   simp[h1]
  .rw [List.map_append]
   have e1:decide (z∈ns++[nm])=decide (z∈ns):=by simp[e]
   have e2:decide (z∈cs.map (·.1)++[(nm,hs)].map (·.1))=decide (z∈cs.map (·.1)):=by
    rw[decide_eq_decide,List.mem_append]
    exact⟨fun h=>h.elim id fun h=>absurd (List.mem_singleton.mp h) e,.inl⟩
   rw[e1,e2]
def xd8 (ns:List Str) (cs:List (Str × List Str)):List Str:=ns.filter fun z=>!decide (z∈cs.map (·.1))
def xa6 (ps:List Pt) (srt:List Seat) (nm:Str):List Seat:=match ps.find? (fun p=>decide (p.nm=nm)) with
 | some p=>srt.filter (xao p)
 | none=>[]
theorem xk1 {ps:List Pt}{srt:List Seat} (h:srt.length<=32) (nm:Str):(xa6 ps srt nm).length<=32:=by
 unfold xa6
 split
 .exact Nat.le_trans (List.length_filter_le _ _) h
 .exact Nat.zero_le _
inductive CrL (H:Hp):List (Str × List Str)->List Addr->Prop
 | nil:CrL H [] []
 | cons {c:Str × List Str}{q:Addr}{cs:List (Str × List Str)}{qs:List Addr} (h:H q=some (.lst ((c.1::c.2).map V.str))) (r:CrL H cs qs):CrL H (c::cs) (q::qs)
theorem CrL.len {H:Hp}{cs:List (Str × List Str)}{qs:List Addr} (h:CrL H cs qs):qs.length=cs.length:=by
 induction h with
 | nil=>rfl
 | cons _ _ ih=>simp[ih]
theorem CrL.snoc {H:Hp}{cs:List (Str × List Str)}{qs:List Addr} (h:CrL H cs qs) {c:Str × List Str}{q:Addr} (e:H q=some (.lst ((c.1::c.2).map V.str))):CrL H (cs++[c]) (qs++[q]):=by
 induction h with
 | nil=>exact .cons e .nil
 | cons h _ ih=>exact .cons h ih
theorem CrL.get {H:Hp}{cs:List (Str × List Str)}{qs:List Addr} (h:CrL H cs qs) {i:Nat}{q:Addr} (e:qs[i]?=some q):∃ c,cs[i]?=some c/\H q=some (.lst ((c.1::c.2).map V.str)):=by
 induction h generalizing i with
 | nil=>simp at e
 | @cons c q' cs qs h _ ih =>
  cases i with
  | zero =>
   simp at e
   subst e
   exact⟨c,rfl,h⟩
  | succ j=>exact ih (by simpa using e)
theorem CrL.keep {H H':Hp}{cs:List (Str × List Str)}{qs:List Addr} (h:CrL H cs qs) (k:∀ q∈qs,∀ u,H q=some u->H' q=some u):CrL H' cs qs:=by
 induction h with
 | nil=>exact .nil
 | cons h r ih=>exact .cons (k _ (List.mem_cons_self ..) _ h) (ih fun q hq=>k q (List.mem_cons_of_mem _ hq))
def xnn (t:Adr):Sp:=fun vs H Q _=>∃(a ln dp do_:Addr) (w h:Nat) (ps:List Pt) (ss srt:List Seat) (names:List Str),vs=[.ref a,.ref ln]/\Dr t H a dp do_ w h ps ss srt/\H ln=some (.lst (names.map V.str))/\(∀ nm∈names,∃ p∈ps,p.nm=nm)/\names.Nodup/\names.length<=12 /\
 ∀ H' l qs cs so ho,Same H H'->H l=none->H' l=some (.lst (qs.map V.ref))->CrL H' cs qs->(∀ q∈qs,H q=none)->Run (xa6 ps srt) names so ho cs->Q (.ref l) H'
theorem xoy {ps:List Pt}{nm:Str} (h:∃ p∈ps,p.nm=nm):∃ p,ps.find? (fun z=>decide (z.nm=nm))=some p/\p∈ps/\p.nm=nm:=by
 cases e:ps.find? (fun z=>decide (z.nm=nm)) with
 | none =>
  obtain⟨p,hp,en⟩:=h
  exact absurd (decide_eq_true en) (List.find?_eq_none.mp e p hp)
 | some p=>exact⟨p,rfl,List.mem_of_find?_eq_some e,of_decide_eq_true (List.find?_some (p:=fun z:Pt=>decide (z.nm=nm)) e)⟩
def FRm (l2:Addr) (ps:List Pt) (srt:List Seat) (names:List Str) (i:Nat) (ys:List V) (H:Hp):Prop:=∃ L:List (Addr × Addr × Str × List Addr),ys=L.map (fun x=>V.ref x.1)/\L.length=i/\L.map (fun x=>x.2.2.1)=names.take i/\∀ x∈L,x.2.1≠l2/\x.1≠l2/\H x.1=some (.tup [.str x.2.2.1,.ref x.2.1])/\H x.2.1=some (.lst (x.2.2.2.map V.ref))/\xah H (xa6 ps srt x.2.2.1) x.2.2.2
theorem xj3 {d:Addr}:∀(L:List (Str × Addr)) {H:Hp}{kvs:List (Key × V)},H d=some (.dK kvs)->kvs.length+L.length<=1000 ->
    ∃ H2 kvs2,xep d H (L.map fun x=>(V.str x.1,V.ref x.2)) H2/\H2 d=some (.dK kvs2)/\(∀ b u,b≠d->H b=some u->H2 b=some u)/\((L.map (·.1)).Nodup->∀ x∈L,valV kvs2 (.inr x.1)=some (.ref x.2))/\∀ k,(∀ x∈L,k≠.inr x.1)->valV kvs2 k=valV kvs k
  | [],H,kvs,e,_=>⟨H,kvs,.nil,e,fun _ _ _ e=>e,fun _ _ z=>(nomatch z),fun _ _=>rfl⟩
  | x::L,H,kvs,e,hn=>by
    rw[List.length_cons] at hn
    have lp:=xbl kvs (.inr x.1) (.ref x.2)
    obtain⟨H2,kvs2,dps,e2,k2,v2,o2⟩:=xj3 L (H:=upd H d (.dK (putK kvs (.inr x.1) (.ref x.2)))) xg (by omega)
    refine⟨H2,kvs2,.cons (DPut.k (k:=.inr x.1) e (Nat.lt_of_le_of_lt (by omega:_<=1000) (by decide))) dps,e2,fun b u nb eb=>k2 _ _ nb (by rw[xf nb]; exact eb),fun nd y hy=>?_,fun k hk=>?_⟩
    . rw[List.map_cons,List.nodup_cons] at nd
      rcases List.mem_cons.mp hy with rfl|hy
      . rw[o2 _ (fun z hz e=>nd.1 (by rw[Sum.inr.inj e]; exact List.mem_map.mpr ⟨z,hz,rfl⟩)),xcb,if_pos rfl]
      . exact v2 nd.2 y hy
    . rw[o2 k fun y hy=>hk y (List.mem_cons_of_mem _ hy),xcb,if_neg (hk x (List.mem_cons_self ..))]
section
variable {P:Program}{w:World}{K:PySem.W.Frag}{mg:Str->Option Value}{base:Heap}{t:Adr}
theorem xhc (T:Txt w K mg t):FnOk true P w K mg base (CXo P w) 7 t.f_crowds t.d_crowds ["picture", "names"] (xnn t):=by
 refine T.F_crowds.okn (k:=6) xcp (fun vs H Q E h=>?_) (fun cdv A outer s H vs Q E hr h=>?_)
 .obtain ⟨a,ln,dp,do_,w',h',ps,ss,srt,names,rfl,_⟩:=h
  rfl
 .obtain ⟨a,ln,dp,do_,w',h',ps,ss,srt,names,rfl,h⟩:=h
  refine⟨_,xh (x0 (i:=2) xcp.nd rfl (Or.inl rfl) (xbv (xd5 rfl (xiy hr)) rfl T.n_dict boot_dict (xa (xbn rfl (xa5 (zs:=["name"]) (ys:=["picture"]) (fr:=[0]) (N0:=["picture", "names", "rooms", "seating", "found", "name", "crowd"]) (sc0:=xi xcd) (by decide +kernel) rfl rfl rfl) (xaj (pv 1)) (fun _ _ _ _ _ ow nd=>xn (i:=0) nd rfl (Or.inl (ow _ (by simp))) (Or.inr (ow _ (by simp)))) (xbw (by decide)) (fun _ _ _ _ _=>xbh) (fun _ _ _ _ _=>xaz (xa (pv 0) (xa (xak (pv 1) T.c_i T.m_h (ok_h T) (hr.mono (by decide)) T.b_h .nil xk (xa (pv 0) (xj))) (xj))))) (xj))))
   (xh (x0 (i:=3) xcp.nd rfl (Or.inl rfl) (xiz T.k_ao (ok_ad T) (hr.mono (by decide)) rfl T.g_ao T.b_ad .nil xk))
   (xh (x0 (i:=4) xcp.nd rfl (Or.inl rfl) (xbu (xj)))
   (xh (xbe PassesOwn.never rfl (xaj (pv 1)) (xn (i:=5) xcp.nd rfl (Or.inl rfl)) (xh (x0 (i:=6) xcp.nd rfl (Or.inl rfl) (xak (pv 3) T.c_ao T.m_d (ok_d T) (hr.mono (by decide)) T.b_d .nil xk (xa (pv 5) (xa (pv 2) (xj)))))
   (xl (xat (xi6 (pv 6) (fun _=>rfl)) (xl (xav (xfb PySem.F.plainAttrs_list PySem.F.slot_list_append PySem.F.type_list_append xdg (pv 4) (xa (pv 6) (xj))))) (xae)))))
   (xl (xaf (pv 4)))))),?_⟩
  obtain⟨dr,hln,nps,nnd,n12,q⟩:=h
  have s32:srt.length<=32:=by rw[dr.pm.length_eq]; exact dr.ok.2.1
  refine⟨_,rfl,ln,rfl,⟨_,SqL.of hln⟩,fun l2 hl2=>?_⟩
  refine xgk (SqL.of hln) (by rw[List.length_map]; exact Nat.lt_of_le_of_lt (by omega:_<=1000) (by decide)) hl2 (FRm l2 ps srt names) (fun _ _=>⟨[],rfl,rfl,rfl,fun _ z=>(nomatch z)⟩) ?_ (fun i x ys H3 hx s3 el3 f3 N hN=>?_) (fun ys H3 s3 el3 ly3 f3=>?_)
  .rintro i ys zs H3 H4 hz4 k4 ⟨L,e1,e2,e3,e4⟩
   refine⟨L,e1,e2,e3,fun x hx=>?_⟩
   obtain⟨a1,a2,a3,a4,a5⟩:=e4 x hx
   exact⟨a1,a2,k4 _ _ a2 a3,k4 _ _ a1 a4,a5.keep (fun b xs e=>k4 _ _ (xp e hz4 (fun z=>nomatch z)) e)⟩
  .rw [List.getElem?_map,Option.map_eq_some_iff] at hx
   obtain⟨nm,hnm,rfl⟩:=hx
   obtain⟨pt,hf,hpm,epn⟩:=xoy (nps nm (List.mem_of_getElem? hnm))
   subst epn
   have dr3:=dr.same s3
   obtain⟨⟨dx3,hp3⟩,_⟩:=id dr3.pic
   refine⟨_,rfl,_,rfl,a,dx3,_,rfl,hp3,xal (by decide +kernel),_,rfl,a,dp,do_,w',h',ps,ss,pt,rfl,dr3.pic,dr3.sts,dr.ok,dr.nm _ hpm,hf,fun H4 l4 srt' rs4 s4 fl4 pm4 lt4 e4 sl4=>?_⟩
   obtain rfl:srt'=srt:=xb9 xdf (pm4.trans dr.pm.symm) lt4 dr.lt
   refine⟨(by show 2<=sizeLine; decide),fun u hu=>?_⟩
   have s5:Same H4 (upd H4 u (.tup [.str pt.nm,.ref l4])):=xo (Same.refl _) hu
   have g5:upd H4 u (.tup [.str pt.nm,.ref l4]) u=some (.tup [.str pt.nm,.ref l4]):=xg
   revert s5 g5
   generalize upd H4 u (.tup [.str pt.nm,.ref l4])=H5
   intro s5 g5
   have e34:∀ c u,H3 c=some u->H5 c=some u:=fun c u e=>s5 _ _ (s4 _ _ e)
   refine hN _ _ (s4.trans s5) ?_
   obtain⟨L,e1,e2,e3,e6⟩:=f3
   refine⟨L++[(u,l4,pt.nm,rs4)],by rw[e1,List.map_append]; rfl,by rw[List.length_append,e2]; rfl,?_,fun x hx=>?_⟩
   .rw [List.map_append,e3,List.take_add_one,hnm]
    rfl
   .rcases List.mem_append.mp hx with hx|hx
    .obtain ⟨a1,a2,a3,a4,a5⟩:=e6 x hx
     exact⟨a1,a2,e34 _ _ a3,e34 _ _ a4,a5.keep (fun b xs e=>e34 _ _ e)⟩
    .rw [List.mem_singleton.mp hx]
     refine⟨Ne.symm (xb el3 fl4),Ne.symm (xb (s4 _ _ el3) hu),g5,s5 _ _ e4,?_⟩
     have er:xa6 ps srt' pt.nm=srt'.filter (xao pt):=by
      unfold xa6
      rw[hf]
     show xah H5 (xa6 ps srt' pt.nm) rs4
     rw[er]
     exact sl4.keep (Same.tups s5)
  rw[List.length_map] at f3
  obtain⟨L,rfl,e2,e3,e4⟩:=f3
  rw[List.take_of_length_le (Nat.le_refl _)] at e3
  refine⟨l2,L.map fun x=>(x.1,V.str x.2.2.1,V.ref x.2.1),rfl,(by rw[List.map_map]; exact el3),?_,fun d hd=>?_⟩
  .intro p hp
   obtain⟨x,hx,rfl⟩:=List.mem_map.mp hp
   exact (e4 x hx).2.2.1
  have fd:H d=none:=s3.free hd
  obtain⟨H6,kvs6,dps,e6d,k6,v6,_⟩:=xj3 (d:=d) (L.map fun x=>(x.2.2.1,x.2.1)) (H:=upd H3 d (.dK [])) xg (by rw[List.length_map]; simp; omega)
  refine⟨.dK [],H6,.inl rfl,?_,?_⟩
  .rw [List.map_map] at dps ⊢
   exact dps
  have k36:∀ b u,H3 b=some u->H6 b=some u:=fun b u e=>k6 _ _ (xb e hd) (by rw[xf (xb e hd)]; exact e)
  have s06:Same H H6:=fun b u e=>k36 _ _ (s3 _ _ e)
  have rmd:RmD H6 d names (xa6 ps srt):=⟨kvs6,e6d,fun nm hnm=>by
   rw[<- e3] at hnm
   obtain⟨x,hx,rfl⟩:=List.mem_map.mp hnm
   obtain⟨a1,a2,a3,a4,a5⟩:=e4 x hx
   refine⟨x.2.1,x.2.2.2,v6 ?_ (x.2.2.1,x.2.1) (List.mem_map.mpr ⟨x,hx,rfl⟩),k36 _ _ a4,a5.keep (fun b xs e=>k36 _ _ e)⟩
   rw[List.map_map]
   exact e3▸nnd⟩
  refine fun p dx hp hdx ne=>?_
  refine⟨p,dx,rfl,xg,fun H8 d1 d2 hd1 hd2 k8 sg8=>⟨rfl,?_⟩⟩
  have up:∀ b,upd (upd H6 dx (.own p)) p (.ins t.C_ao dx []) b=none->H6 b=none:=fun b z=>by
   cases e:H6 b with
   | none=>rfl
   | some u=>rw[xf (xb e hp),xf (xb e hdx),e] at z; cases z
  have s68:Same H6 H8:=fun b u e=>k8 b u (xb e hp) (by rw[xf (xb e hp),xf (xb e hdx)]; exact e)
  have fd1:=up _ hd1
  have fd2:=up _ hd2
  refine⟨(by show 0<=sizeLine; decide),fun lf hlf=>?_⟩
  have s9:Same H8 (upd H8 lf (.lst [])):=xo (Same.refl _) hlf
  have g9:upd H8 lf (.lst []) lf=some (.lst []):=xg
  revert s9 g9
  generalize upd H8 lf (.lst [])=H9
  intro s9 g9
  have s69:=s68.trans s9
  have s09:=s06.trans s69
  have nd1:d≠d1:=xb e6d fd1
  have nd2:d≠d2:=xb e6d fd2
  have sg9:=sg8.same s9
  obtain⟨kz1,hkz1,_⟩:=id sg8.so
  obtain⟨kz2,hkz2,_⟩:=id sg8.ho
  obtain⟨dxz,hpz⟩:=id sg8.ins
  have nf1:lf≠d1:=Ne.symm (xb hkz1 hlf)
  have nf2:lf≠d2:=Ne.symm (xb hkz2 hlf)
  have nfp:lf≠p:=Ne.symm (xb hpz hlf)
  have flf:H6 lf=none:=s68.free hlf
  have room32:=xk1 (ps:=ps) s32
  refine⟨_,rfl,ln,rfl,⟨_,SqL.of (s09 _ _ hln)⟩,?_⟩
  refine xbg (xs:=names.map V.str) (Pv:=fun i σ H10=>∃(v5 v6:Option V) (qs:List Addr) (cs:List (Str × List Str)) (so:Str->Option Seat) (ho:Seat->Option Str),σ=[some (.ref a),some (.ref ln),some (.ref d),some (.ref p),some (.ref lf),v5,v6]/\Same H6 H10/\H10 lf=some (.lst (qs.map V.ref))/\CrL H10 cs qs/\(∀ q∈qs,H6 q=none/\q≠d1/\q≠d2/\q≠p/\q≠lf)/\cs.length<=i/\Sg t H10 p d1 d2 (30*i) so ho/\Run (xa6 ps srt) (names.take i) so ho cs) ⟨_,_,[],[],_,_,rfl,s69,g9,.nil,fun _ z=>(nomatch z),Nat.le_refl _,sg9,.nil⟩ ?_ ?_ ?_
  .rintro i σ H10 _ ⟨_,_,_,_,_,_,rfl,s10,_⟩
   exact SqL.of (s10 _ _ (s06 _ _ hln))
  .rintro i x σ H10 hx ⟨v5,v6,qs,cs,so,ho,rfl,s10,e10,cr10,fq,ci,sg10,run⟩
   rw[List.getElem?_map,Option.map_eq_some_iff] at hx
   obtain⟨nm,hnm,rfl⟩:=hx
   have il:=(List.getElem?_eq_some_iff.mp hnm).1
   obtain⟨dx10,hp10⟩:=sg10.ins
   have tk1:names.take (i+1)=names.take i++[nm]:=by
    rw[List.take_add_one,hnm]
    rfl
   have tnd:(names.take (i+1)).Nodup:=(List.take_sublist _ _).nodup nnd
   have dm:=run.dom ((List.take_sublist _ _).nodup nnd)
   have nni:nm∉names.take i:=fun z=>by
    rw[tk1,List.nodup_append] at tnd
    exact tnd.2.2 nm z nm (List.mem_singleton.mpr rfl) rfl
   have sn:so nm=none:=by
    have z:=dm nm
    rw[decide_eq_false nni,Bool.false_and] at z
    cases e:so nm with
    | none=>rfl
    | some s=>rw[e] at z; cases z
   have rmd10:RmD H10 d names (xa6 ps srt):=by
    obtain⟨kv,e,f⟩:=id rmd
    exact⟨kv,s10 _ _ e,fun z hz=>let ⟨l,rs,b1,b2,b3⟩:=f z hz; ⟨l,rs,b1,s10 _ _ b2,b3.keep (Same.tups s10)⟩⟩
   obtain⟨kw1,hkw1,_⟩:=id sg10.so
   obtain⟨kw2,hkw2,_⟩:=id sg10.ho
   refine⟨_,rfl,p,dx10,_,rfl,hp10,xh0 (by decide +kernel),_,rfl,_,rfl,p,d1,d2,d,30*i,xa6 ps srt,so,ho,names,nm,rfl,sg10,by omega,run.mt,sn,rmd10,nd1,fun z hz=>?_,List.mem_of_getElem? hnm,n12,room32,?_,?_⟩
   .rw [dm z,Bool.and_eq_true] at hz
    exact List.mem_of_mem_take (of_decide_eq_true hz.1)
   .intro H11 l11 so' ho' kb fl11 e11 sg11 mt11 dm11 rc11
    refine⟨_,rfl,_,.inl ⟨_,SqL.of e11,rfl⟩,ifN (by decide) ?_⟩
    have k11:∀ b u,H6 b=some u->H11 b=some u:=fun b u e=>kb _ _ (xb e fd1) (xb e fd2) (s10 _ _ e)
    refine⟨_,_,qs,cs,so',ho',rfl,k11,kb _ _ nf1 nf2 e10,cr10.keep (fun z hz u e=>kb _ _ (fq z hz).2.1 (fq z hz).2.2.1 e),fq,by omega,sg11.le (by omega),?_⟩
    rw[tk1]
    exact .inn run mt11 dm11 rc11
   .intro H11 l11 hs s11 fl11 e11 cw rc11
    refine⟨_,rfl,_,.inl ⟨_,SqL.of e11,rfl⟩,ifP (by rfl) ?_⟩
    have e11f:=s11 _ _ e10
    refine⟨_,rfl,.inl ⟨rfl,_,SqL.of e11f⟩,_,rfl,lf,_,_,rfl,rfl,e11f,?_,?_⟩
    .rw [List.length_map,cr10.len]
     exact Nat.lt_of_le_of_lt (by omega:_<=1000) (by decide)
    have nl:l11≠lf:=Ne.symm (xb e10 fl11)
    have kl:∀ c u,c≠lf->H11 c=some u->upd H11 lf (.lst (qs.map V.ref++[.ref l11])) c=some u:=fun c u nc e=>by rw[xf nc]; exact e
    have tl:Tups H11 (upd H11 lf (.lst (qs.map V.ref++[.ref l11]))):=fun c xs e=>kl _ _ (xp e e11f (fun z=>nomatch z)) e
    refine⟨_,_,qs++[l11],cs++[(nm,hs)],so,ho,rfl,fun c u e=>kl _ _ (xb e flf) (s11 _ _ (s10 _ _ e)),by rw[xg,List.map_append]; rfl,((cr10.keep (fun z hz u e=>s11 _ _ e)).keep (fun z hz u e=>kl _ _ (fq z hz).2.2.2.2 e)).snoc (kl _ _ nl e11),fun z hz=>?_,by rw[List.length_append,List.length_singleton]; omega,((sg10.same s11).keep (d:=lf) (Ne.symm nfp) (Ne.symm nf1) (Ne.symm nf2) tl kl).le (by omega),?_⟩
    .rcases List.mem_append.mp hz with hz|hz
     .exact fq z hz
     .rw [List.mem_singleton.mp hz]
      exact⟨s10.free fl11,Ne.symm (xb hkw1 fl11),Ne.symm (xb hkw2 fl11),Ne.symm (xb hp10 fl11),nl⟩
    .rw [tk1]
     exact .out run cw rc11
  .rintro σ H10 ⟨v5,v6,qs,cs,so,ho,rfl,s10,e10,cr10,fq,ci,sg10,run⟩
   rw[List.length_map,List.take_of_length_le (Nat.le_refl _)] at run
   exact⟨_,rfl,q H10 lf qs cs so ho (s06.trans s10) (s06.free flf) e10 cr10 (fun z hz=>s06.free (fq z hz).1) run⟩
end
def xa4 (ps:List Pt):List Str:=ps.map (·.nm)
inductive OutL (H:Hp):List (Str × List Str)->List Addr->Prop
 | nil:OutL H [] []
 | cons {c:Str × List Str}{q l:Addr}{cs:List (Str × List Str)}{qs:List Addr} (h:H q=some (.tup [.str c.1,.ref l])) (hl:H l=some (.lst (c.2.map V.str))) (r:OutL H cs qs):OutL H (c::cs) (q::qs)
theorem OutL.len {H:Hp}{cs:List (Str × List Str)}{qs:List Addr} (h:OutL H cs qs):qs.length=cs.length:=by
 induction h with
 | nil=>rfl
 | cons _ _ _ ih=>simp[ih]
theorem OutL.get {H:Hp}{cs:List (Str × List Str)}{qs:List Addr} (h:OutL H cs qs) {i:Nat}{q:Addr} (e:qs[i]?=some q):∃ c l,cs[i]?=some c/\H q=some (.tup [.str c.1,.ref l])/\H l=some (.lst (c.2.map V.str)):=by
 induction h generalizing i with
 | nil=>simp at e
 | @cons c q' l cs qs h hl _ ih =>
  cases i with
  | zero =>
   simp at e
   subst e
   exact⟨c,l,rfl,h,hl⟩
  | succ j=>exact ih (by simpa using e)
def FOu (H0:Hp) (l2:Addr) (cs:List (Str × List Str)) (i:Nat) (ys:List V) (H:Hp):Prop:=∃ L:List (Addr × Addr × Str × List Str),ys=L.map (fun x=>V.ref x.1)/\L.length=i/\L.map (fun x=>x.2.2)=cs.take i/\∀ x∈L,x.2.1≠l2/\x.1≠l2/\H x.1=some (.tup [.str x.2.2.1,.ref x.2.1])/\H x.2.1=some (.lst (x.2.2.2.map V.str))/\H0 x.2.1=none
def OutF (H0 H:Hp) (l:Addr) (cs:List (Str × List Str)) (qs:List Addr):Prop:=∃ L:List (Addr × Addr × Str × List Str),qs=L.map (fun x=>x.1)/\cs=L.map (fun x=>x.2.2)/\∀ x∈L,H0 x.2.1=none/\x.2.1≠l/\H x.1=some (.tup [.str x.2.2.1,.ref x.2.1])/\H x.2.1=some (.lst (x.2.2.2.map V.str))
theorem xk6 {H:Hp}:∀(L:List (Addr × Addr × Str × List Str)),(∀ x∈L,H x.1=some (.tup [.str x.2.2.1,.ref x.2.1])/\H x.2.1=some (.lst (x.2.2.2.map V.str)))->OutL H (L.map fun x=>x.2.2) (L.map fun x=>x.1)
 | [],_=>.nil
 | x::L,h=>.cons (h x (List.mem_cons_self ..)).1 (h x (List.mem_cons_self ..)).2 (xk6 L fun y hy=>h y (List.mem_cons_of_mem _ hy))
def xp0 (t:Adr):Sp:=fun vs H Q _=>∃(a dp do_:Addr) (w h:Nat) (ps:List Pt) (ss srt:List Seat),vs=[.ref a]/\Dr t H a dp do_ w h ps ss srt/\(xa4 ps).Nodup /\
 ∀ H' l qs cs so ho,Same H H'->H l=none->H' l=some (.lst (qs.map V.ref))->OutL H' cs qs->Run (xa6 ps srt) (xa4 ps) so ho cs->OutF H H' l cs qs->Q (.ref l) H'
def xqh (t:Adr):Sp:=fun vs H Q _=>∃(a dp do_:Addr) (w h:Nat) (ps:List Pt) (ss srt:List Seat),vs=[.ref a]/\Dr t H a dp do_ w h ps ss srt/\(xa4 ps).Nodup /\
 ∀ H' l cs so ho,Same H H'->H l=none->H' l=some (.lst ((xd8 (xa4 ps) cs).map V.str))->Run (xa6 ps srt) (xa4 ps) so ho cs->Q (.ref l) H'
theorem xrt {α:V}{xs:List V}:cutV (α::xs) (some 1) none=xs:=by
 unfold cutV
 simp[HT.sIx]
theorem xqt {a b:Str}:dEq (.str a) (.str b)=decide (a=b):=xgq rfl rfl ⟨fun h=>DV.str.inj h,fun h=>by rw[h]⟩
section
variable {P:Program}{w:World}{K:PySem.W.Frag}{mg:Str->Option Value}{base:Heap}{t:Adr}
theorem ok_aq (T:Txt w K mg t):FnOk true P w K mg base (CXo P w) 8 t.f_aq t.d_aq ["picture"] (xp0 t):=by
 refine T.F_aq.okn (k:=7) sc_aq (fun vs H Q E h=>?_) (fun cdv A outer s H vs Q E hr h=>?_)
 .obtain ⟨a,dp,do_,w',h',ps,ss,srt,rfl,_⟩:=h
  rfl
 .obtain ⟨a,dp,do_,w',h',ps,ss,srt,rfl,h⟩:=h
  refine⟨_,xh (xb3 rfl (xa5 (zs:=["point"]) (ys:=[]) (fr:=[]) (N0:=["picture", "names"]) (sc0:=xi s_aq) (by decide +kernel) rfl rfl rfl) (xaj (xa3 (pv 0) T.c_i T.m_j (ok_j T) (hr.mono (by decide)) T.b_j .nil xk)) (fun _ _ _ _ _ ow nd=>xn (i:=0) nd rfl (Or.inl (ow _ (by simp))) (Or.inr (ow _ (by simp)))) (xbw (by decide)) (fun _ _ _ _ _=>xbh) (fun _ _ _ _ _=>xbj (r:=rIxT K) xdi (pv 0) (xm) (fun _ _=>rfl)) (j:=1) rfl (Or.inl rfl))
   (xl (xaf (xbn rfl (xa5 (zs:=["crowd"]) (ys:=[]) (fr:=[]) (N0:=["picture", "names"]) (sc0:=xi s_aq) (by decide +kernel) rfl rfl rfl) (xaj (x8 (xhc T) (hr.mono (by decide)) rfl T.g_crowds T.F_crowds.kp T.b_crowds .nil xk (xa (pv 0) (xa (pv 1) (xj))))) (fun _ _ _ _ _ ow nd=>xn (i:=0) nd rfl (Or.inl (ow _ (by simp))) (Or.inr (ow _ (by simp)))) (xbw (by decide)) (fun _ _ _ _ _=>xbh) (fun _ _ _ _ _=>xaz (xa (xbj (r:=rIxL K) xbs (pv 0) (xm) (fun _ _=>rfl)) (xa (xdu (r:=rSlL K) xe7 (pv 0) (xdp (xm)) xfh) (xj))))))),?_⟩
  obtain⟨dr,nnd,q⟩:=h
  have p12:=dr.pic.len
  obtain⟨⟨dx,hpi⟩,_⟩:=id dr.pic
  refine⟨_,rfl,a,dx,_,rfl,hpi,xal (by decide +kernel),a,dp,do_,w',h',ps,rfl,dr.pic,fun H1 l1 ds s1 e1 pt1=>?_⟩
  have dll:=pt1.len
  refine⟨l1,rfl,⟨_,SqL.of e1⟩,fun l2 hl2=>?_⟩
  refine xcg (SqL.of e1) (by rw[List.length_map]; exact Nat.lt_of_le_of_lt (by omega:_<=1000) (by decide)) hl2 (fun i y _=>∃ p,ps[i]?=some p/\y=.str p.nm) (fun _ _ _ _ _ z=>z) (fun i x H2 hx s2 N hN=>?_) (fun ys H2 s2 e2 ly fy=>?_)
  .rw [List.getElem?_map,Option.map_eq_some_iff] at hx
   obtain⟨qa,hqa,rfl⟩:=hx
   obtain⟨p,hp,hpq⟩:=pt1.get hqa
   exact⟨_,rfl,qa,_,0,.str p.nm,rfl,rfl,SqT.of (s2 _ _ hpq),rfl,hN _ _ (Same.refl _) ⟨p,hp,rfl⟩⟩
  have ey:ys=(xa4 ps).map V.str:=by
   refine xf9 (by rw[ly,List.length_map,dll]; unfold xa4; rw[List.length_map]) fun i y b hy hb=>?_
   obtain⟨p,hp,rfl⟩:=fy i y hy
   unfold xa4 at hb
   rw[List.getElem?_map,hp] at hb
   cases hb
   rfl
  rw[ey] at e2
  have s02:=s1.trans s2
  refine⟨_,rfl,_,rfl,a,l2,dp,do_,w',h',ps,ss,srt,xa4 ps,rfl,dr.same s02,e2,fun nm hnm=>?_,nnd,by unfold xa4; rw[List.length_map]; exact p12,fun H3 l3 qs cs so ho s3 fl3 e3 cr3 fq3 run=>?_⟩
  .obtain ⟨p,hp,e⟩:=List.mem_map.mp hnm
   exact⟨p,hp,e⟩
  have ol:=run.outs.2
  have nl:(xa4 ps).length=ps.length:=by unfold xa4; rw[List.length_map]
  have qcl:=cr3.len
  have s03:=s02.trans s3
  refine⟨l3,rfl,⟨_,SqL.of e3⟩,fun l4 hl4=>?_⟩
  refine xgk (SqL.of e3) (by rw[List.length_map]; exact Nat.lt_of_le_of_lt (by omega:_<=1000) (by decide)) hl4 (FOu H l4 cs) (fun _ _=>⟨[],rfl,rfl,rfl,fun _ z=>(nomatch z)⟩) ?_ (fun i x ys H5 hx s5 el5 f5 N hN=>?_) (fun ys H5 s5 el5 ly5 f5=>?_)
  .rintro i ys zs H5 H6 hz k6 ⟨L,b1,b2,b3,b4⟩
   refine⟨L,b1,b2,b3,fun x hx=>?_⟩
   obtain⟨a1,a2,a3,a4,a5⟩:=b4 x hx
   exact⟨a1,a2,k6 _ _ a2 a3,k6 _ _ a1 a4,a5⟩
  .rw [List.getElem?_map,Option.map_eq_some_iff] at hx
   obtain⟨qa,hqa,rfl⟩:=hx
   obtain⟨c,hc,hcq⟩:=cr3.get hqa
   have hcq5:=s5 _ _ hcq
   refine⟨_,rfl,qa,_,0,.str c.1,rfl,rfl,SqL.of hcq5,xcs (j:=0) rfl,_,rfl,1,rfl,qa,_,rfl,SqL.of hcq5,fun lh hlh=>?_⟩
   rw[List.map_cons,xrt]
   have s6:Same H5 (upd H5 lh (.lst (c.2.map V.str))):=xo (Same.refl _) hlh
   have g6:upd H5 lh (.lst (c.2.map V.str)) lh=some (.lst (c.2.map V.str)):=xg
   revert s6 g6
   generalize upd H5 lh (.lst (c.2.map V.str))=H6
   intro s6 g6
   refine⟨(by show 2<=sizeLine; decide),fun u hu=>?_⟩
   have s7:Same H6 (upd H6 u (.tup [.str c.1,.ref lh])):=xo (Same.refl _) hu
   have g7:upd H6 u (.tup [.str c.1,.ref lh]) u=some (.tup [.str c.1,.ref lh]):=xg
   revert s7 g7
   generalize upd H6 u (.tup [.str c.1,.ref lh])=H7
   intro s7 g7
   refine hN _ _ (s6.trans s7) ?_
   obtain⟨L,b1,b2,b3,b4⟩:=f5
   refine⟨L++[(u,lh,c)],by rw[b1,List.map_append]; rfl,by rw[List.length_append,b2]; rfl,?_,fun x hx=>?_⟩
   .rw [List.map_append,b3,List.take_add_one,hc]
    rfl
   .rcases List.mem_append.mp hx with hx|hx
    .obtain ⟨a1,a2,a3,a4,a5⟩:=b4 x hx
     exact⟨a1,a2,s7 _ _ (s6 _ _ a3),s7 _ _ (s6 _ _ a4),a5⟩
    .rw [List.mem_singleton.mp hx]
     exact⟨Ne.symm (xb el5 hlh),Ne.symm (xb (s6 _ _ el5) hu),g7,s7 _ _ g6,(s03.trans s5).free hlh⟩
  rw[List.length_map] at f5
  obtain⟨L,rfl,b2,b3,b4⟩:=f5
  rw[qcl,List.take_of_length_le (Nat.le_refl _)] at b3
  have ol5:=xk6 L fun x hx=>⟨(b4 x hx).2.2.1,(b4 x hx).2.2.2.1⟩
  rw[b3] at ol5
  exact q H5 l4 (L.map fun x=>x.1) cs so ho (s03.trans s5) (s03.free hl4) (by rw[el5,List.map_map]; rfl) ol5 run ⟨L,rfl,b3.symm,fun x hx=>⟨(b4 x hx).2.2.2.2,(b4 x hx).1,(b4 x hx).2.2.1,(b4 x hx).2.2.2.1⟩⟩
theorem xos (T:Txt w K mg t):FnOk true P w K mg base (CXo P w) 9 t.f_kept t.d_kept ["picture"] (xqh t):=by
 refine T.F_kept.okn (k:=8) xje (fun vs H Q E h=>?_) (fun cdv A outer s H vs Q E hr h=>?_)
 .obtain ⟨a,dp,do_,w',h',ps,ss,srt,rfl,_⟩:=h
  rfl
 .obtain ⟨a,dp,do_,w',h',ps,ss,srt,rfl,h⟩:=h
  refine⟨_,xh (x0 (i:=1) xje.nd rfl (Or.inr rfl) (xbn rfl (xa5 (zs:=["name", "holders"]) (ys:=[]) (fr:=[]) (N0:=["picture", "out"]) (sc0:=xi xcy) (by decide +kernel) rfl rfl rfl) (xaj (x8 (ok_aq T) (hr.mono (by decide)) rfl T.g_aq T.F_aq.kp T.b_aq .nil xk (xa (pv 0) (xj)))) (fun _ _ _ _ _ ow nd=>(xa8 rfl (xt (xn (i:=0) nd rfl (Or.inl (ow _ (by simp))) (Or.inr (ow _ (by simp)))) (xt (xn (i:=1) nd rfl (Or.inl (ow _ (by simp))) (Or.inr (ow _ (by simp)))) (xa2))):PG _ _ (gTup K 2 _))) (xb0 (xac (by decide) (xac (by decide) (xbr)))) (fun _ _ _ _ _=>xbh) (fun _ _ _ _ _=>pv 0)))
   (xl (xaf (xbn rfl (xa5 (zs:=["point"]) (ys:=["out"]) (fr:=[1]) (N0:=["picture", "out"]) (sc0:=xi xcy) (by decide +kernel) rfl rfl rfl) (xaj (xa3 (pv 0) T.c_i T.m_j (ok_j T) (hr.mono (by decide)) T.b_j .nil xk)) (fun _ _ _ _ _ ow nd=>xn (i:=0) nd rfl (Or.inl (ow _ (by simp))) (Or.inr (ow _ (by simp)))) (xbw (by decide)) (fun _ _ _ _ _=>xd6 (xag (r:=rInV K true) (xe3 (xd7 hr)) (xbj (r:=rIxT K) xdi (pv 0) (xm) (fun _ _=>rfl)) (pv 1) (by rfl))) (fun _ _ _ _ _=>xbj (r:=rIxT K) xdi (pv 0) (xm) (fun _ _=>rfl))))),?_⟩
  obtain⟨dr,nnd,q⟩:=h
  have p12:=dr.pic.len
  refine⟨_,rfl,a,dp,do_,w',h',ps,ss,srt,rfl,dr,nnd,fun H1 l1 qs cs so ho s1 fl1 e1 ol1 run _=>?_⟩
  have ol:=run.outs.2
  have nl:(xa4 ps).length=ps.length:=by unfold xa4; rw[List.length_map]
  have qcl:=ol1.len
  refine⟨l1,rfl,⟨_,SqL.of e1⟩,fun l2 hl2=>?_⟩
  refine xcg (SqL.of e1) (by rw[List.length_map]; exact Nat.lt_of_le_of_lt (by omega:_<=1000) (by decide)) hl2 (fun i y _=>∃ c,cs[i]?=some c/\y=.str c.1) (fun _ _ _ _ _ z=>z) (fun i x H2 hx s2 N hN=>?_) (fun ys H2 s2 e2 ly fy=>?_)
  .rw [List.getElem?_map,Option.map_eq_some_iff] at hx
   obtain⟨qa,hqa,rfl⟩:=hx
   obtain⟨c,lh,hc,hcq,_⟩:=ol1.get hqa
   exact⟨qa,_,rfl,SqT.of (s2 _ _ hcq),rfl,_,_,rfl,_,_,rfl,rfl,_,rfl,hN _ _ (Same.refl _) ⟨c,hc,rfl⟩⟩
  have ey:ys=(cs.map (·.1)).map V.str:=by
   refine xf9 (by rw[ly,List.length_map,List.length_map,qcl]) fun i y b hy hb=>?_
   obtain⟨c,hc,rfl⟩:=fy i y hy
   rw[List.getElem?_map,hc] at hb
   cases hb
   rfl
  rw[ey] at e2
  have s02:=s1.trans s2
  have dr2:=dr.same s02
  obtain⟨⟨dx,hpi⟩,_⟩:=id dr2.pic
  refine⟨_,rfl,a,dx,_,rfl,hpi,xal (by decide +kernel),a,dp,do_,w',h',ps,rfl,dr2.pic,fun H3 l3 ds s3 e3 pt3=>?_⟩
  have dll:=pt3.len
  have e23:=s3 _ _ e2
  have s03:=s02.trans s3
  refine⟨l3,rfl,⟨_,SqL.of e3⟩,fun l4 hl4=>?_⟩
  have odv:∀{H5:Hp},Same H3 H5->Dv K H5 1 (.ref l2) (.lst ((cs.map (·.1)).map DV.str)):=fun {H5} s5=>.lst (SqL.of (s5 _ _ e23)) (by simp) fun j x d h1 h2=>by
   rw[List.getElem?_map,Option.map_eq_some_iff] at h1 h2
   obtain⟨z,hz,rfl⟩:=h1
   obtain⟨z',hz',rfl⟩:=h2
   rw[hz] at hz'
   cases hz'
   exact .str
  have oin:∀ nm:Str,(((cs.map (·.1)).map DV.str).any fun z=>dEq z (.str nm))=decide (nm∈cs.map (·.1)):=fun nm=>by
   rw[Bool.eq_iff_iff,List.any_eq_true,decide_eq_true_iff]
   constructor
   .rintro ⟨d,hd,e⟩
    obtain⟨z,hz,rfl⟩:=List.mem_map.mp hd
    rw[xqt] at e
    rw[<- of_decide_eq_true e]
    exact hz
   .intro hm
    exact⟨_,List.mem_map.mpr ⟨_,hm,rfl⟩,xeq _⟩
  refine xdl (SqL.of e3) (by rw[List.length_map]; exact Nat.lt_of_le_of_lt (by omega:_<=1000) (by decide)) hl4 (fun i=>((ps[i]?).map fun p=>!decide (p.nm∈cs.map (·.1))).getD false) (fun i y _=>∃ p,ps[i]?=some p/\y=.str p.nm) (fun _ _ _ _ _ z=>z) (fun i x H5 hx s5 N M hN hM=>?_) (fun ys H5 s5 e5 ly fy=>?_)
  .rw [List.getElem?_map,Option.map_eq_some_iff] at hx
   obtain⟨qa,hqa,rfl⟩:=hx
   obtain⟨p,hp,hpq⟩:=pt3.get hqa
   have hpq5:=s5 _ _ hpq
   refine⟨_,rfl,qa,_,0,.str p.nm,rfl,rfl,SqT.of hpq5,rfl,_,rfl,0,1,.str p.nm,_,.str,odv s5,by decide,by decide,_,rfl,ite2 (fun y=>?_) (fun y=>?_)⟩
   .rw [if_pos rfl,oin] at y
    exact⟨_,rfl,qa,_,0,.str p.nm,rfl,rfl,SqT.of hpq5,rfl,hN _ _ (Same.refl _) (by rw[hp]; exact y) ⟨p,hp,rfl⟩⟩
   .rw [if_pos rfl,oin] at y
    exact hM _ (Same.refl _) (by rw[hp]; exact Bool.eq_false_iff.mpr y)
  have fi:=xjx (fun p:Pt=>!decide (p.nm∈cs.map (·.1))) (as:=ps) (p:=fun i=>((ps[i]?).map fun p=>!decide (p.nm∈cs.map (·.1))).getD false) (fun i p hp=>by rw[hp]; rfl)
  rw[List.length_map,dll] at ly fy
  have ek:xd8 (xa4 ps) cs=(ps.filter fun p=>!decide (p.nm∈cs.map (·.1))).map (·.nm):=by
   unfold xd8 xa4
   rw[List.filter_map]
   rfl
  have ey2:ys=(xd8 (xa4 ps) cs).map V.str:=by
   rw[ek]
   refine xf9 (by rw[ly,List.length_map,fi.1]) fun i y b hy hb=>?_
   have hj:i<((List.range ps.length).filter fun i=>((ps[i]?).map fun p=>!decide (p.nm∈cs.map (·.1))).getD false).length:=by
    rw[<- ly]
    exact (List.getElem?_eq_some_iff.mp hy).1
   obtain⟨p,hp,rfl⟩:=fy i y _ hy (List.getElem?_eq_getElem hj)
   rw[fi.2 i _ (List.getElem?_eq_getElem hj)] at hp
   rw[List.getElem?_map,hp] at hb
   cases hb
   rfl
  rw[ey2] at e5
  exact q H5 l4 cs so ho (s03.trans s5) (s03.free hl4) e5 run
end
theorem Run.crowd {room:Str->List Seat}{ns:List Str}{so:Str->Option Seat}{ho:Seat->Option Str}{cs:List (Str × List Str)} (r:Run room ns so ho cs) (nd:ns.Nodup):∀ c∈cs,∃ so0 ho0,Kp.Mt room so0 ho0/\Kp.Crowd room so0 c.1 c.2/\∀ z∈c.1::c.2,z∈ns:=by
 induction r with
 | nil=>exact fun _ z=>nomatch z
 | inn _ _ _ _ ih =>
  intro c hc
  rw[List.nodup_append] at nd
  obtain⟨so0,ho0,a1,a2,a3⟩:=ih nd.1 c hc
  exact⟨so0,ho0,a1,a2,fun z hz=>List.mem_append_left _ (a3 z hz)⟩
 | @out ns so ho cs nm hs r cw rc ih =>
  intro c hc
  rw[List.nodup_append] at nd
  rcases List.mem_append.mp hc with hc|hc
  .obtain ⟨so0,ho0,a1,a2,a3⟩:=ih nd.1 c hc
   exact⟨so0,ho0,a1,a2,fun z hz=>List.mem_append_left _ (a3 z hz)⟩
  .rw [List.mem_singleton.mp hc]
   refine⟨so,ho,r.mt,cw,fun z hz=>?_⟩
   rcases List.mem_cons.mp hz with rfl|hz
   .exact List.mem_append_right _ (List.mem_singleton.mpr rfl)
   .have k:=cw.has z hz
    rw[r.dom nd.1 z,Bool.and_eq_true] at k
    exact List.mem_append_left _ (of_decide_eq_true k.1)
def xqr (t:Adr):Sp:=fun vs H Q _=>∃(a ln dp do_:Addr) (w h:Nat) (ps:List Pt) (ss srt:List Seat) (names:List Str),vs=[.ref a,.ref ln]/\Dr t H a dp do_ w h ps ss srt/\H ln=some (.lst (names.map V.str))/\(∀ nm∈names,∃ p∈ps,p.nm=nm)/\names.Nodup/\names.length<=12 /\
 ∀ H' v cs so ho,Same H H'->Run (xa6 ps srt) names so ho cs->((cs=[]/\v=.non)\/∃ l c r,cs=c::r/\v=.ref l/\H l=none/\H' l=some (.lst ((c.1::c.2).map V.str)))->Q v H'
section
variable {P:Program}{w:World}{K:PySem.W.Frag}{mg:Str->Option Value}{base:Heap}{t:Adr}
theorem xo5 (T:Txt w K mg t):FnOk true P w K mg base (CXo P w) 8 t.f_fits t.d_fits ["picture", "names"] (xqr t):=by
 refine T.F_fits.okn (k:=7) xj6 (fun vs H Q E h=>?_) (fun cdv A outer s H vs Q E hr h=>?_)
 .obtain ⟨a,ln,dp,do_,w',h',ps,ss,srt,names,rfl,_⟩:=h
  rfl
 .obtain ⟨a,ln,dp,do_,w',h',ps,ss,srt,names,rfl,h⟩:=h
  refine⟨_,xh (x0 (i:=2) xj6.nd rfl (Or.inl rfl) (x8 (xhc T) (hr.mono (by decide)) rfl T.g_crowds T.F_crowds.kp T.b_crowds .nil xk (xa (pv 0) (xa (pv 1) (xj)))))
   (xl (xaf (xij (xi6 (pv 2) (fun _=>rfl)) (xbj xbs (pv 2) (xm) (fun _ _=>rfl)) (xcj)))),?_⟩
  obtain⟨dr,hln,nps,nnd,n12,q⟩:=h
  refine⟨_,rfl,_,rfl,a,ln,dp,do_,w',h',ps,ss,srt,names,rfl,dr,hln,nps,nnd,n12,fun H1 l1 qs cs so ho s1 fl1 e1 cr1 fq1 run=>?_⟩
  refine⟨_,rfl,_,.inl ⟨_,SqL.of e1,rfl⟩,?_⟩
  cases cr1 with
  | nil=>exact ifN (by decide) (q H1 .non [] so ho s1 run (.inl ⟨rfl,rfl⟩))
  | @cons c q0 cs qs h r =>
   refine ifP (by rfl) ⟨_,rfl,l1,_,0,.ref q0,rfl,rfl,SqL.of e1,xcs (j:=0) rfl,q H1 (.ref q0) (c::cs) so ho s1 run (.inr ⟨q0,c,cs,rfl,rfl,fq1 q0 (List.mem_cons_self ..),h⟩)⟩
end
theorem xl0 {x d:Int} (h:0<d) (h2:d<=4294967296):-(2 ^ 64)<x % d/\x % d<2 ^ 64:=by
 have a:=Int.emod_nonneg x (show d≠0 by omega)
 have b:=Int.emod_lt_of_pos x h
 exact⟨by omega,by omega⟩
theorem xay (x:Int) {d:Int} (h:0<d):0<=x % d/\x % d<d:=⟨Int.emod_nonneg _ (by omega),Int.emod_lt_of_pos _ h⟩
def xpt (K:PySem.W.Frag):Sp:=fun vs H Q _=>∃(a:Addr) (ns:List Int) (k:Int),vs=[.ref a,.int k]/\SqL K H a (ns.map V.int)/\0<=k/\k<2 ^ 62/\∀ c:Int,Q (.int c) H
def xrb:Sp:=fun vs H Q _=>∃ c k:Int,vs=[.int c,.int k]/\∀ m:Int,0<=m->m<2147483587->Q (.int m) H
def abc:Str:="abcdefghijklmnopqrstuvwxyz"
theorem xo7:abc.cps.toList=(List.range 26).map (97+·):=by decide +kernel
def ltr (i:Int):Str:=⟨#[97+i.toNat]⟩
theorem xoi {i:Int} (h0:0<=i) (h1:i<26):atI abc.cps.toList i=some (97+i.toNat):=by
 obtain⟨j,rfl⟩:=Int.eq_ofNat_of_zero_le h0
 have lt:j<26:=by omega
 refine xcs ?_
 rw[xo7,List.getElem?_map,List.getElem?_range lt]
 rfl
theorem xoj {i j:Int} (hi:0<=i) (hj:0<=j) (h:ltr i=ltr j):i=j:=by
 unfold ltr at h
 have:=congrArg (fun s:Str=>s.cps.toList) h
 simp at this
 omega
theorem xnp {i:Int} (h0:0<=i) (h1:i<26):isNm (ltr i)=true:=by
 unfold isNm ltr
 have g1:¬ ([97+i.toNat]<[97]):=by rw[List.cons_lt_cons_iff]; rintro (z|⟨_,z⟩); omega; cases z
 have g2:¬ ([122]<[97+i.toNat]):=by rw[List.cons_lt_cons_iff]; rintro (z|⟨_,z⟩); omega; cases z
 show (decide (1=1)&&(!decide ([97+i.toNat]<[97])&&!decide ([122]<[97+i.toNat])))=true
 rw[decide_eq_false g1,decide_eq_false g2]
 rfl
def xdn:List Int:=[1,3,5,7,9,11,15,17,19,21,23,25]
theorem xoq (m:Int):∃ s:Int,atI (xdn.map V.int) (m % 12)=some (.int s)/\s∈xdn:=by
 obtain⟨h0,h1⟩:=xay m (show (0:Int)<12 by decide)
 obtain⟨j,hj⟩:=Int.eq_ofNat_of_zero_le h0
 rw[hj] at h1 ⊢
 have lt:j<xdn.length:=by show j<12; omega
 exact⟨xdn[j],xcs (by rw[List.getElem?_map,List.getElem?_eq_getElem lt]; rfl),List.getElem_mem lt⟩
def xpe:Sp:=fun vs H Q _=>∃(c:Int) (n:Nat),vs=[.int c,.int n]/\n<=26/\∀(s:Int) (H':Hp) (l:Addr),s∈xdn->Same H H'->H' l=some (.lst ((List.range n).map fun (k:Nat)=>V.str (ltr ((c+s*(k:Int)) % 26))))->Q (.ref l) H'
def xmz:Sp:=fun vs H Q _=>∃(c sz:Int) (n:Nat),vs=[.int c,.int sz,.int n]/\(n:Int)<=sz/\sz<=30/\∀(zs:List Int) (H':Hp) (l:Addr),zs.length=n->zs.Nodup->(∀ z∈zs,1<=z/\z<=sz)->Same H H'->H' l=some (.lst (zs.map V.int))->Q (.ref l) H'
def xqx:Sp:=fun vs H Q _=>∃ c:Int,vs=[.int c]/\∀(w h:Int) (H':Hp) (p:Addr),1<=w->w<=30->1<=h->h<=16->Same H H'->H' p=some (.tup [.int w,.int h])->Q (.ref p) H'
section
variable {P:Program}{w:World}{K:PySem.W.Frag}{mg:Str->Option Value}{base:Heap}{t:Adr}
theorem ok_aa (T:Txt w K mg t):FnOk true P w K mg base (CXo P w) 1 t.f_aa t.d_aa ["_law_script", "_law_k"] (xpt K):=by
 refine T.F_aa.okn (k:=0) sc_aa (fun vs H Q E h=>?_) (fun cdv A outer s H vs Q E hr h=>?_)
 .obtain ⟨a,ns,k,rfl,_⟩:=h
  rfl
 .obtain ⟨a,ns,k,rfl,h⟩:=h
  refine⟨_,xh (xat (xag xhs (pv 1) (xas xbd rfl T.n_len boot_len (xa (pv 0) (xj))) (xam _)) (xl (xaf (xbj xbs (pv 0) (pv 1) (fun _ _=>rfl)))) (xae))
   (xl (xaf (xv xa1 (xv xdb (xm) (pv 1)) (xm)))),?_⟩
  obtain⟨hs,k0,k1,q⟩:=h
  refine⟨_,rfl,_,rfl,a,_,rfl,.inl hs,_,_,rfl,rfl,_,rfl,?_⟩
  refine ite2 (fun c=>?_) (fun c=>?_)
  .have c':k<(ns.length:Int):=by simpa using c
   obtain⟨j,rfl⟩:=Int.eq_ofNat_of_zero_le k0
   have lt:j<ns.length:=by omega
   exact⟨_,rfl,_,rfl,a,_,_,_,rfl,rfl,hs,xcs (by rw[List.getElem?_map,List.getElem?_eq_getElem lt]; rfl),q _⟩
  .exact ⟨_,rfl,_,_,rfl,rfl,.inl ⟨by decide,by decide⟩,_,_,rfl,rfl,q _⟩
theorem ok_ap (T:Txt w K mg t):FnOk true P w K mg base (CXo P w) 1 t.f_ap t.d_ap ["_law_cell_here", "_law_k"] (xrb):=by
 refine T.F_ap.okn (k:=0) sc_ap (fun vs H Q E h=>?_) (fun cdv A outer s H vs Q E hr h=>?_)
 .obtain ⟨c,k,rfl,_⟩:=h
  rfl
 .obtain ⟨c,k,rfl,h⟩:=h
  refine⟨_,xh (x0 (i:=2) sc_ap.nd rfl (Or.inl rfl) (xv xa0 (xv xdb (xv xa1 (pv 0) (xv xdb (xm) (pv 1))) (xm)) (xm)))
   (xh (x0 (i:=2) sc_ap.nd rfl (Or.inl rfl) (xv xa0 (xv xdb (pv 2) (pv 2)) (xm)))
   (xl (xaf (xv xa0 (xv xa1 (xv xa1 (xv xdb (pv 2) (pv 2)) (xv xdb (xm) (pv 2))) (pv 1)) (xm))))),?_⟩
  refine⟨_,rfl,_,rfl,_,_,rfl,rfl,.inl ⟨by decide,by decide⟩,_,_,rfl,rfl,_,_,rfl,rfl,.inr ⟨by decide,by decide⟩,_,_,rfl,rfl,(by show (0:Int)<2147483647; decide),?_⟩
  refine⟨_,rfl,_,rfl,_,_,rfl,rfl,.inl (xl0 (by decide) (by decide)),_,_,rfl,rfl,(by show (0:Int)<2147483629; decide),?_⟩
  refine⟨_,rfl,_,rfl,_,_,rfl,rfl,.inl (xl0 (by decide) (by decide)),_,rfl,_,_,rfl,rfl,.inl ⟨by decide,by decide⟩,_,_,rfl,rfl,_,rfl,_,_,rfl,rfl,_,_,rfl,rfl,(by show (0:Int)<2147483587; decide),?_⟩
  exact h _ (xay _ (by decide)).1 (xay _ (by decide)).2
end
section
variable {P:Program}{w:World}{K:PySem.W.Frag}{mg:Str->Option Value}{base:Heap}{t:Adr}
theorem ok_al (T:Txt w K mg t):FnOk true P w K mg base (CXo P w) 1 t.f_al t.d_al ["_law_cell_here", "_law_many"] (xpe):=by
 refine T.F_al.okn (k:=0) sc_al (fun vs H Q E h=>?_) (fun cdv A outer s H vs Q E hr h=>?_)
 .obtain ⟨c,n,rfl,_⟩:=h
  rfl
 .obtain ⟨c,n,rfl,h⟩:=h
  refine⟨_,xh (x0 (i:=2) sc_al.nd rfl (Or.inr rfl) (xbm))
   (by
   with_reducible refine' xh ?a ?b
   case a =>
    with_reducible refine' x0 (i:=3) ?n ?i ?x ?e ?s ?f
    case n=>exact sc_al.nd
    case i=>rfl
    case x=>exact Or.inr rfl
    case f=>exact Or.inl rfl
    case e =>
     with_reducible refine' xbj (r:=rIxL K) ?r ?l ?j ?p
     case r=>exact xbs
     case j=>exact xv xa0 (xv xb1 (pv 0) (xm)) (xm)
     case p=>exact fun _ _=>rfl
     case l =>
      with_reducible refine' xbu ?pa
      case pa =>
       with_reducible refine' xa xm ?q1 rfl
       case q1 =>
        with_reducible refine' xa xm ?q2 rfl
        case q2 =>
         with_reducible refine' xa xm ?q3 rfl
         case q3 =>
          with_reducible refine' xa xm ?q4 rfl
          case q4 =>
           with_reducible refine' xa xm ?q5 rfl
           case q5 =>
            with_reducible refine' xa xm ?q6 rfl
            case q6 =>
             with_reducible refine' xa xm ?q7 rfl
             case q7 =>
              with_reducible refine' xa xm ?q8 rfl
              case q8 =>
               with_reducible refine' xa xm ?q9 rfl
               case q9 =>
                with_reducible refine' xa xm ?q10 rfl
                case q10 =>
                 with_reducible refine' xa xm ?q11 rfl
                 case q11 =>
                  with_reducible refine' xa xm ?q12 rfl
                  case q12 =>
                   exact xj
    case s=>rfl
   case b =>
    exact (xl (xaf (xbn rfl (xa5 (zs:=["_law_k"]) (ys:=["_law_letters", "_law_cell_here", "_law_step"]) (fr:=[2,0,3]) (N0:=["_law_cell_here", "_law_many", "_law_letters", "_law_step"]) (sc0:=xi s_al) (by decide +kernel) rfl rfl rfl) (xd0 rfl T.n_range (xa (pv 1) (xj))) (fun _ _ _ _ _ ow nd=>xn (i:=0) nd rfl (Or.inl (ow _ (by simp))) (Or.inr (ow _ (by simp)))) (xbw (by decide)) (fun _ _ _ _ _=>xbh) (fun _ _ _ _ _=>xbj xqg (pv 1) (xv xa0 (xv xa1 (pv 2) (xv xdb (pv 3) (pv 0))) (xm)) (fun _ _=>rfl)))))),?_⟩
  obtain⟨hn,q⟩:=h
  obtain⟨s,es,ms⟩:=xoq (c / 26)
  refine⟨(by show 12<=sizeLine; decide),fun q0 hq0=>⟨_,rfl,_,_,rfl,rfl,⟨by decide,by decide⟩,_,_,rfl,rfl,(by show (0:Int)<12; decide),q0,_,_,.int s,rfl,rfl,SqL.of xg,es,?_⟩⟩
  refine⟨_,rfl,(n:Int),rfl,by omega,by omega,fun l hl=>?_⟩
  have s1:Same H (upd H q0 (.lst (xdn.map V.int))):=xo (Same.refl _) hq0
  refine xbp n (fun i xs H2=>xs=(List.range i).map (fun (k:Nat)=>V.str (ltr ((c+s*(k:Int)) % 26)))/\Same H H2/\H2 l=some (.lst xs)) ?_ ?_ ?_ ?_
  .exact ⟨rfl,xo s1 hl,xg⟩
  .rintro i xs H2 lt _
   show i<((n:Nat):Int).toNat
   simpa using lt
  .rintro i xs H2 v H3 lt ⟨rfl,s2,hl2⟩ ⟨rfl,rfl⟩ N hN
   refine xrd ?_
   refine⟨_,rfl,_,rfl,_,rfl,_,rfl,_,_,rfl,rfl,.inl ?_,_,_,rfl,rfl,_,_,rfl,rfl,(by show (0:Int)<26; decide),abc,_,_,rfl,rfl,(by decide +kernel),xoi (xay _ (by decide)).1 (xay _ (by decide)).2,hl2,?_,?_⟩
   .have hs:∀ z∈xdn,1<=z/\z<=25:=by decide
    have:=hs s ms
    constructor<;>omega
   .rw [List.length_map,List.length_range]
    exact Nat.lt_trans (by omega:i<27) (by decide)
   .refine hN _ _ ⟨?_,fun b u e=>?_,xg⟩
    .rw [List.range_succ,List.map_append]
     simp[ltr]
    .rw [xf (xb (s1 _ _ e) hl)]
     exact s2 b u e
  .rintro xs H2 ⟨rfl,s2,hl2⟩
   exact⟨by simp[Itr],q s H2 l ms s2 (by simpa using hl2)⟩
end
section
variable {P:Program}{w:World}{K:PySem.W.Frag}{mg:Str->Option Value}{base:Heap}{t:Adr}
theorem ok_ag (T:Txt w K mg t):FnOk true P w K mg base (CXo P w) 2 t.f_ag t.d_ag ["_law_cell_here", "_law_size_here", "_law_many"] (xmz):=by
 refine T.F_ag.okn (k:=1) sc_ag (fun vs H Q E h=>?_) (fun cdv A outer s H vs Q E hr h=>?_)
 .obtain ⟨c,sz,n,rfl,_⟩:=h
  rfl
 .obtain ⟨c,sz,n,rfl,h⟩:=h
  refine⟨_,xh (x0 (i:=3) sc_ag.nd rfl (Or.inl rfl) (xbv (xhn rfl) rfl T.n_list boot_list (xa (xbv xjc rfl T.n_range boot_range (xa (xm) (xa (xv xa1 (pv 1) (xm)) (xj)))) (xj))))
   (xh (x0 (i:=4) sc_ag.nd rfl (Or.inl rfl) (xbu (xj)))
   (xh (xbe PassesOwn.never rfl (xd0 rfl T.n_range (xa (pv 2) (xj))) (xn (i:=5) sc_ag.nd rfl (Or.inl rfl)) (xl (xav (xfb PySem.F.plainAttrs_list PySem.F.slot_list_append PySem.F.type_list_append xdg (pv 4) (xa (xfb PySem.F.plainAttrs_list PySem.F.slot_list_pop PySem.F.type_list_pop xir (pv 3) (xa (xv xa0 (x8 (ok_ap T) (hr.mono (by decide)) rfl T.g_ap T.F_ap.kp T.b_ap .nil xk (xa (pv 0) (xa (pv 5) (xj)))) (xas xbd rfl T.n_len boot_len (xa (pv 3) (xj)))) (xj))) (xj))))))
   (xl (xaf (pv 4))))),?_⟩
  obtain⟨n1,n2,q⟩:=h
  refine⟨_,rfl,_,_,rfl,rfl,1,sz+1,rfl,fun p hp=>⟨p,1,sz+1,rfl,xg,⟨by decide,by decide,by omega,by omega⟩,by omega,fun lf hlf=>?_⟩⟩
  refine⟨(by show 0<=sizeLine; exact Nat.zero_le _),fun fd hfd=>?_⟩
  have hr0:rngL 1 (sz+1)=((List.range sz.toNat).map fun (i:Nat)=>(1:Int)+(i:Int)).map V.int:=by
   unfold rngL
   rw[List.map_map,show (sz+1-1).toNat=sz.toNat from by omega]
   rfl
  rw[hr0] at hfd ⊢
  have nfd:fd≠lf:=Ne.symm (xb xg hfd)
  refine⟨_,rfl,(n:Int),rfl,by omega,by omega,?_⟩
  refine xe0 (Pv:=fun i σ H2=>∃(zs ls:List Int) (v5:Option V),σ=[some (.int c),some (.int sz),some (.int n),some (.ref lf),some (.ref fd),v5]/\H2 lf=some (.lst (ls.map V.int))/\H2 fd=some (.lst (zs.map V.int)) /\
   zs.length=i/\ls.length+i=sz.toNat/\zs.Nodup/\ls.Nodup/\(∀ z∈zs,z∉ls)/\(∀ z∈zs,1<=z/\z<=sz)/\(∀ z∈ls,1<=z/\z<=sz)/\Same H H2) ?_ ?_ ?_
  .refine ⟨[],(List.range sz.toNat).map fun (i:Nat)=>(1:Int)+(i:Int),_,rfl,?_,xg,rfl,by simp,List.nodup_nil,?_,(fun z h=>nomatch h),(fun z h=>nomatch h),fun z hz=>?_,xo (xo (xo (Same.refl _) hp) hlf) hfd⟩
   .rw [xf (Ne.symm nfd)]
    exact xg
   .refine List.Pairwise.map _ (fun a b h=>?_) List.nodup_range
    intro z
    apply h
    omega
   .obtain ⟨i,hi,rfl⟩:=List.mem_map.mp hz
    rw[List.mem_range] at hi
    omega
  .rintro i σ H2 hi ⟨zs,ls,v5,rfl,h1,h2,e1,e2,d1,d2,d3,b1,b2,s2⟩
   have hi':i<n:=by simpa using hi
   have lp:0<ls.length:=by omega
   refine⟨_,rfl,.inl ⟨rfl,_,SqL.of h2⟩,_,rfl,.inl ⟨rfl,_,SqL.of h1⟩,_,rfl,_,rfl,c,_,rfl,fun m m0 m1=>?_⟩
   have lp':(0:Int)<((ls.map V.int).length:Int):=by rw[List.length_map]; omega
   obtain⟨k0,k1⟩:=xay m lp'
   obtain⟨j,hj⟩:=Int.eq_ofNat_of_zero_le k0
   have jl:j<ls.length:=by
    have z:=k1
    rw[hj,List.length_map] at z
    omega
   have gy:(ls.map V.int)[j]?=some (V.int ls[j]):=by rw[List.getElem?_map,List.getElem?_eq_getElem jl]; rfl
   refine⟨_,rfl,lf,_,rfl,.inl (SqL.of h1),_,_,rfl,rfl,lp',lf,_,_,j,_,rfl,rfl,h1,by omega,?_,?_,gy,fd,zs.map V.int,_,rfl,rfl,?_,?_,?_⟩
   .rw [List.length_map] at k1
    have:(ls.length:Int)<2 ^ 63:=by omega
    omega
   .rw [seqIndex_of k0 k1,hj]
    rfl
   .rw [xf nfd]
    exact h2
   .rw [List.length_map]
    exact Nat.lt_trans (by omega:zs.length<31) (by decide)
   .obtain ⟨a1,a2,a3,a4⟩:=Geo.erase_ok d2 (List.getElem?_eq_getElem jl)
    have em:(ls.map V.int).eraseIdx j=(ls.eraseIdx j).map V.int:=by simp[List.eraseIdx_eq_take_drop_succ,List.map_take,List.map_drop]
    have el:=List.length_eraseIdx_of_lt jl
    refine⟨zs++[ls[j]],ls.eraseIdx j,_,rfl,?_,?_,?_,?_,?_,a1,?_,?_,fun z hz=>b2 z (a3 z hz),?_⟩
    .rw [xf (Ne.symm nfd),xg,em]
    .rw [xg,List.map_append]
     rfl
    .rw [List.length_append,e1]
     rfl
    .omega
    .rw [List.nodup_append]
     exact⟨d1,by simp,fun a ha b hb=>by
      have:=List.mem_singleton.mp hb
      subst this
      intro z
      exact d3 a ha (z▸a4)⟩
    .intro z hz
     rcases List.mem_append.mp hz with y|y
     .exact fun k=>d3 z y (a3 z k)
     .have:=List.mem_singleton.mp y
      subst this
      exact a2
    .intro z hz
     rcases List.mem_append.mp hz with y|y
     .exact b1 z y
     .have:=List.mem_singleton.mp y
      subst this
      exact b2 _ a4
    .intro b u e
     have nb1:b≠lf:=fun z=>by
      subst z
      rw[xf (xb e hp)] at hlf
      rw[e] at hlf
      cases hlf
     have nb2:b≠fd:=fun z=>by
      subst z
      rw[xf nb1,xf (xb e hp)] at hfd
      rw[e] at hfd
      cases hfd
     rw[xf nb2,xf nb1]
     exact s2 b u e
  .rintro σ H2 ⟨zs,ls,v5,rfl,h1,h2,e1,e2,d1,d2,d3,b1,b2,s2⟩
   exact⟨_,rfl,q zs H2 fd (by simpa using e1) d1 b1 s2 h2⟩
end
section
variable {P:Program}{w:World}{K:PySem.W.Frag}{mg:Str->Option Value}{base:Heap}{t:Adr}
theorem ok_ar (T:Txt w K mg t):FnOk true P w K mg base (CXo P w) 1 t.f_ar t.d_ar ["_law_cell_here"] (xqx):=by
 refine T.F_ar.okn (k:=0) sc_ar (fun vs H Q E h=>?_) (fun cdv A outer s H vs Q E hr h=>?_)
 .obtain ⟨c,rfl,_⟩:=h
  rfl
 .obtain ⟨c,rfl,h⟩:=h
  refine⟨_,xh (xat (xag xcl (xv xa0 (pv 0) (xm)) (xm) (xam _)) (xl (xaf (xaz (xa (xv xa1 (xm) (xv xa0 (xv xb1 (pv 0) (xm)) (xm))) (xa (xv xa1 (xm) (xv xa0 (xv xb1 (pv 0) (xm)) (xm))) (xj)))))) (xae))
   (xl (xaf (xaz (xa (xv xa1 (xm) (xv xa0 (xv xb1 (pv 0) (xm)) (xm))) (xa (xv xa1 (xm) (xv xa0 (xv xb1 (pv 0) (xm)) (xm))) (xj)))))),?_⟩
  refine⟨_,rfl,_,_,rfl,rfl,(by show (0:Int)<8; decide),rfl,_,rfl,ite2 (fun d=>?_) (fun d=>?_)⟩
  .refine ⟨_,rfl,_,_,rfl,rfl,⟨by decide,by decide⟩,_,_,rfl,rfl,(by show (0:Int)<30; decide),_,_,rfl,rfl,_,rfl,_,_,rfl,rfl,⟨by decide,by decide⟩,_,_,rfl,rfl,(by show (0:Int)<16; decide),_,_,rfl,rfl,(by show 2<=sizeLine; decide),fun p hp=>h _ _ _ p ?_ ?_ ?_ ?_ (xo (Same.refl _) hp) xg⟩
   .have:=(xay (c / 8) (show (0:Int)<30 by decide)).1; omega
   .have:=(xay (c / 8) (show (0:Int)<30 by decide)).2; omega
   .have:=(xay (c / 240) (show (0:Int)<16 by decide)).1; omega
   .have:=(xay (c / 240) (show (0:Int)<16 by decide)).2; omega
  .refine ⟨_,rfl,_,_,rfl,rfl,⟨by decide,by decide⟩,_,_,rfl,rfl,(by show (0:Int)<9; decide),_,_,rfl,rfl,_,rfl,_,_,rfl,rfl,⟨by decide,by decide⟩,_,_,rfl,rfl,(by show (0:Int)<7; decide),_,_,rfl,rfl,(by show 2<=sizeLine; decide),fun p hp=>h _ _ _ p ?_ ?_ ?_ ?_ (xo (Same.refl _) hp) xg⟩
   .have:=(xay (c / 8) (show (0:Int)<9 by decide)).1; omega
   .have:=(xay (c / 8) (show (0:Int)<9 by decide)).2; omega
   .have:=(xay (c / 72) (show (0:Int)<7 by decide)).1; omega
   .have:=(xay (c / 72) (show (0:Int)<7 by decide)).2; omega
end
def xqc (t:Adr):Sp:=fun vs H Q _=>∃(w h:Int) (l m:Addr) (ps:List Pt) (qs:List Addr) (ss:List Seat) (rs:List Addr),vs=[.int w,.int h,.ref l,.ref m]/\(1<=w/\w<=30/\1<=h/\h<=16)/\H l=some (.lst (qs.map V.ref))/\PtsL H ps qs/\xbb w h ps/\H m=some (.lst (rs.map V.ref))/\xah H ss rs/\SsOk h ss /\
 ∀ H' a dp do_,Same H H'->H a=none->H dp=none->H do_=none->Pic t H' a dp do_ w h ps->Sts H' do_ ss->Q (.ref a) H'
section
variable {P:Program}{w:World}{K:PySem.W.Frag}{mg:Str->Option Value}{base:Heap}{t:Adr}
theorem ok_v (T:Txt w K mg t):FnOk true P w K mg base (CXo P w) 6 t.f_v t.d_v ["width", "height", "points", "seats"] (xqc t):=by
 refine T.F_v.okn (k:=5) sc_v (fun vs H Q E h=>?_) (fun cdv A outer s H vs Q E hr h=>?_)
 .obtain ⟨w,ph,l,m,ps,qs,ss,rs,rfl,_⟩:=h
  rfl
 .obtain ⟨w,ph,l,m,ps,qs,ss,rs,rfl,h⟩:=h
  refine⟨_,xh (x0 (i:=4) sc_v.nd rfl (Or.inl rfl) (xeb T.k_i (ok_ae T) (hr.mono (by decide)) rfl T.g_i T.b_ae .nil xk (xa (pv 0) (xa (pv 1) (xj)))))
   (xh (xbe PassesOwn.never rfl (xaj (pv 2)) (xa8 rfl (xt (xn (i:=5) sc_v.nd rfl (Or.inl rfl)) (xt (xn (i:=6) sc_v.nd rfl (Or.inl rfl)) (xt (xn (i:=7) sc_v.nd rfl (Or.inl rfl)) (xt (xn (i:=8) sc_v.nd rfl (Or.inl rfl)) (xt (xn (i:=9) sc_v.nd rfl (Or.inl rfl)) (xt (xn (i:=10) sc_v.nd rfl (Or.inl rfl)) (xa2)))))))) (xl (xav (xak (pv 4) T.c_i T.m_s (ok_s T) (hr.mono (by decide)) T.b_s .nil xk (xar (pv 5) (xar (pv 6) (xar (pv 7) (xar (pv 8) (xar (pv 9) (xar (pv 10) (xj) rfl) rfl) rfl) rfl) rfl) rfl)))))
   (xh (xbe PassesOwn.never rfl (xaj (pv 3)) (xa8 rfl (xt (xn (i:=11) sc_v.nd rfl (Or.inl rfl)) (xt (xn (i:=12) sc_v.nd rfl (Or.inl rfl)) (xa2)))) (xl (xav (xak (pv 4) T.c_i T.m_f (ok_f T) (hr.mono (by decide)) T.b_f .nil xk (xa (pv 11) (xa (pv 12) (xj)))))))
   (xl (xaf (pv 4))))),?_⟩
  obtain⟨⟨w1,w2,h1,h2⟩,hl,pts,pok,hm,sts,⟨snd,sle,srow⟩,q⟩:=h
  refine⟨_,rfl,_,rfl,fun a dx hx hdx ne=>⟨a,dx,w,ph,rfl,xg,w1,w2,h1,h2,fun H5 dp do_ hdp5 hdo5 s6 pic5 hdt=>⟨rfl,?_⟩⟩⟩
  have k5:Same H H5:=fun b u e=>s6 b u (xb e hx) (by rw[xf (xb e hx),xf (xb e hdx)]; exact e)
  have up:∀ b,upd (upd H dx (.own a)) a (.ins t.C_i dx []) b=none->H b=none:=fun b z=>by
   cases e:H b with
   | none=>rfl
   | some u=>rw[xf (xb e hx),xf (xb e hdx),e] at z; cases z
  have fdp:=up _ hdp5
  have fdo:=up _ hdo5
  have pl:=pts.len
  have sl:=sts.len
  refine⟨_,rfl,l,rfl,⟨_,SqL.of (k5 _ _ hl)⟩,?_⟩
  refine xbg (xs:=qs.map V.ref) (Pv:=fun i σ H2=>∃ v5 v6 v7 v8 v9 v10 v11 v12:Option V,σ=[some (.int w),some (.int ph),some (.ref l),some (.ref m),some (.ref a),v5,v6,v7,v8,v9,v10,v11,v12]/\Same H H2/\Pic t H2 a dp do_ w ph (ps.take i)/\H2 do_=some (.dT [])) ⟨_,_,_,_,_,_,_,_,rfl,k5,by simpa using pic5,hdt⟩ (fun _ _ _ _ ⟨_,_,_,_,_,_,_,_,_,z,_⟩=>SqL.of (z _ _ hl)) ?_ ?_
  .rintro i v σ H2 hv ⟨v5,v6,v7,v8,v9,v10,v11,v12,rfl,s2,pic2,hd2⟩
   rw[List.getElem?_map] at hv
   obtain⟨z,hz,rfl⟩:=Option.map_eq_some_iff.mp hv
   obtain⟨p,hp,ez⟩:=pts.get hz
   obtain⟨hi,ep⟩:=List.getElem?_eq_some_iff.mp hp
   have ok:=pok.ok p (List.mem_of_getElem? hp)
   obtain⟨⟨dx2,hp2⟩,⟨kvs,hk2,_⟩,_⟩:=id pic2
   have ple:=pok.le
   refine⟨z,_,rfl,SqT.of (s2 _ _ ez),rfl,_,_,rfl,_,_,rfl,_,_,rfl,_,_,rfl,_,_,rfl,_,_,rfl,rfl,?_⟩
   refine⟨_,rfl,a,dx2,_,rfl,hp2,xal (by decide +kernel),_,rfl,_,rfl,_,rfl,_,rfl,_,rfl,_,rfl,?_⟩
   refine⟨a,dp,do_,w,ph,ps.take i,p.nm,p.x,p.y,p.sd,p.lo,p.hi,.int p.hi,rfl,pic2,.inr rfl,ok.nm,ok.x1,ok.x2,ok.y1,ok.y2,ok.sd,ok.l1,ok.l2,ok.l3,fun p' hp'=>?_,?_,fun H3 k3 pic3=>?_⟩
   .have e:=ep.symm
    subst e
    exact⟨xcq _ pok.nn hi p' hp',xcq _ pok.nx hi p' hp',xcq _ pok.ny hi p' hp'⟩
   .rw [List.length_take]
    omega
   .refine ⟨_,_,_,_,_,_,_,_,rfl,fun b u e=>k3 b u (xb e fdp) (s2 b u e),?_,k3 _ _ (xp hd2 hk2 (fun z=>nomatch z)) hd2⟩
    rw[List.take_add_one,hp]
    exact pic3
  .rintro σ H2 ⟨v5,v6,v7,v8,v9,v10,v11,v12,rfl,s2,pic2,hd2⟩
   rw[List.length_map,pl,List.take_length] at pic2
   refine⟨_,rfl,m,rfl,⟨_,SqL.of (s2 _ _ hm)⟩,?_⟩
   refine xbg (xs:=rs.map V.ref) (Pv:=fun i σ H3=>∃ v5 v6 v7 v8 v9 v10 v11 v12:Option V,σ=[some (.int w),some (.int ph),some (.ref l),some (.ref m),some (.ref a),v5,v6,v7,v8,v9,v10,v11,v12]/\Same H H3/\Pic t H3 a dp do_ w ph ps/\Sts H3 do_ (ss.take i)) ⟨_,_,_,_,_,_,_,_,rfl,s2,pic2,[],hd2,rfl,List.nodup_nil,by simp⟩ (fun _ _ _ _ ⟨_,_,_,_,_,_,_,_,_,z,_⟩=>SqL.of (z _ _ hm)) ?_ ?_
   .rintro i v σ H3 hv ⟨v5,v6,v7,v8,v9,v10,v11,v12,rfl,s3,pic3,st3⟩
    rw[List.getElem?_map] at hv
    obtain⟨z,hz,rfl⟩:=Option.map_eq_some_iff.mp hv
    obtain⟨s0,hs0,ez⟩:=sts.get hz
    obtain⟨hi,es⟩:=List.getElem?_eq_some_iff.mp hs0
    obtain⟨b,r⟩:=s0
    obtain⟨r1,r2⟩:=srow _ (List.mem_of_getElem? hs0)
    obtain⟨⟨dx3,hp3⟩,_,_⟩:=id pic3
    have nin:(b,r)∉ss.take i:=fun hmem=>by
     have:=xcq id (by simpa using snd) hi _ hmem
     exact this (by rw[es])
    refine⟨z,_,rfl,SqT.of (s3 _ _ ez),rfl,_,_,rfl,_,_,rfl,rfl,?_⟩
    refine⟨_,rfl,a,dx3,_,rfl,hp3,xal (by decide +kernel),_,rfl,_,rfl,?_⟩
    refine⟨a,dp,do_,w,ph,ps,ss.take i,b,r,rfl,pic3,st3,r1,r2,nin,?_,fun H4 k4 pic4 st4=>?_⟩
    .rw [List.length_take]
     omega
    .refine ⟨_,_,_,_,_,_,_,_,rfl,fun c u e=>k4 c u (xb e fdo) (s3 c u e),pic4,?_⟩
     rw[List.take_add_one,hs0]
     exact st4
   .rintro σ H3 ⟨v5,v6,v7,v8,v9,v10,v11,v12,rfl,s3,pic3,st3⟩
    rw[List.length_map,sl,List.take_length] at st3
    exact⟨_,rfl,q H3 a dp do_ s3 hx fdp fdo pic3 st3⟩
end
def xdj (s:Str):Str:=if s="left" then "right" else if s="right" then "left" else s
def mirP (w:Int) (p:Pt):Pt:=⟨p.nm,w+1-p.x,p.y,xdj p.sd,p.lo,p.hi⟩
def turP (h:Int) (p:Pt):Pt:=⟨p.nm,p.x,h+1-p.y,p.sd,h+1-p.hi,h+1-p.lo⟩
def mirS (s:Seat):Seat:=(!s.1,s.2)
def turS (h:Int) (s:Seat):Seat:=(s.1,h+1-s.2)
def xgg (t:Adr) (f:Int->Int->Pt->Pt) (g:Int->Seat->Seat):Sp:=fun vs H Q _=>∃(a dp do_:Addr) (pw ph:Int) (ps:List Pt) (ss:List Seat),vs=[.ref a]/\Pic t H a dp do_ pw ph ps/\Sts H do_ ss/\xbb pw ph ps/\SsOk ph ss /\
 ∀(H':Hp) (a' dp' do':Addr) (ss':List Seat),Same H H'->H a'=none->H dp'=none->H do'=none->ss'.Perm ss->ss'.Pairwise xbf->Pic t H' a' dp' do' pw ph (ps.map (f pw ph))->Sts H' do' (ss'.map (g ph))->Q (.ref a') H'
theorem SsOk.perm {h:Int}{ss ss':List Seat} (p:ss'.Perm ss) (o:SsOk h ss):SsOk h ss':=⟨p.nodup_iff.mpr o.1,by rw[p.length_eq]; exact o.2.1,fun s hs=>o.2.2 s (p.mem_iff.mp hs)⟩
theorem xjo {h:Int}{ss:List Seat} (o:SsOk h ss):SsOk h (ss.map (turS h)):=by
 refine⟨xh3 (fun a b e=>?_) o.1,by rw[List.length_map]; exact o.2.1,fun s hs=>?_⟩
 .simp only [turS,Prod.mk.injEq] at e
  exact Prod.ext e.1 (by omega)
 .obtain ⟨s',hs',rfl⟩:=List.mem_map.mp hs
  have:=o.2.2 s' hs'
  simp only[turS]
  omega
theorem xjz {h:Int}{ss:List Seat} (o:SsOk h ss):SsOk h (ss.map mirS):=by
 refine⟨xh3 (fun a b e=>?_) o.1,by rw[List.length_map]; exact o.2.1,fun s hs=>?_⟩
 .simp only [mirS,Prod.mk.injEq] at e
  exact Prod.ext (by have:=e.1; revert this; cases a.1<;>cases b.1<;>simp) e.2
 .obtain ⟨s',hs',rfl⟩:=List.mem_map.mp hs
  exact o.2.2 s' hs'
theorem xjn {w h:Int}{ps:List Pt} (o:xbb w h ps):xbb w h (ps.map (mirP w)):=by
 refine⟨fun p hp=>?_,?_,?_,?_,by rw[List.length_map]; exact o.le⟩
 .obtain ⟨p',hp',rfl⟩:=List.mem_map.mp hp
  obtain⟨a,b,c,d,e,f,g,i,j⟩:=o.ok p' hp'
  have f':xdj p'.sd="left"\/xdj p'.sd="right"\/xdj p'.sd="both":=by
   rcases f with z|z|z<;>rw[z]
   .exact .inr (.inl (by decide +kernel))
   .exact .inl (by decide +kernel)
   .exact .inr (.inr (by decide +kernel))
  exact⟨a,by simp only[mirP]; omega,by simp only[mirP]; omega,d,e,f',g,i,j⟩
 .rw [List.map_map]; exact o.nn
 .rw [List.map_map]; exact xj0 (k:=fun x=>w+1-x) (fun _=>rfl) (fun a b e=>by omega) o.nx
 .rw [List.map_map]; exact o.ny
theorem xjh {w h:Int}{ps:List Pt} (o:xbb w h ps):xbb w h (ps.map (turP h)):=by
 refine⟨fun p hp=>?_,?_,?_,?_,by rw[List.length_map]; exact o.le⟩
 .obtain ⟨p',hp',rfl⟩:=List.mem_map.mp hp
  obtain⟨a,b,c,d,e,f,g,i,j⟩:=o.ok p' hp'
  exact⟨a,b,c,by simp only[turP]; omega,by simp only[turP]; omega,f,by simp only[turP]; omega,by simp only[turP]; omega,by simp only[turP]; omega⟩
 .rw [List.map_map]; exact o.nn
 .rw [List.map_map]; exact o.nx
 .rw [List.map_map]; exact xj0 (k:=fun x=>h+1-x) (fun _=>rfl) (fun a b e=>by omega) o.ny
section
variable {P:Program}{w:World}{K:PySem.W.Frag}{mg:Str->Option Value}{base:Heap}{t:Adr}
theorem ok_t (T:Txt w K mg t):FnOk true P w K mg base (CXo P w) 7 t.f_t t.d_t ["self"] (xgg t (fun _ _ p=>p) (fun _ s=>s)):=by
 refine T.F_t.okn (k:=6) sc_t (fun vs H Q E h=>?_) (fun cdv A outer s H vs Q E hr h=>?_)
 .obtain ⟨a,dp,do_,pw,ph,ps,ss,rfl,_⟩:=h
  rfl
 .obtain ⟨a,dp,do_,pw,ph,ps,ss,rfl,h⟩:=h
  refine⟨_,xl (xaf (x8 (ok_v T) (hr.mono (by decide)) rfl T.g_v T.F_v.kp T.b_v .nil xk (xa (xab (pv 0) rfl) (xa (xab (pv 0) rfl) (xa (xa3 (pv 0) T.c_i T.m_j (ok_j T) (hr.mono (by decide)) T.b_j .nil xk) (xa (xa3 (pv 0) T.c_i T.m_m (ok_m T) (hr.mono (by decide)) T.b_m .nil xk) (xj))))))),?_⟩
  obtain⟨pic,st,pok,sok,q⟩:=h
  obtain⟨⟨dx,hp⟩,_,w1,w2,h1,h2,_⟩:=id pic
  refine⟨_,rfl,a,_,dx,_,_,rfl,hp,T.c_i,T.n_a0,lkW,_,rfl,a,_,dx,_,_,rfl,hp,T.c_i,T.n_aw,lkH,_,rfl,a,dx,_,rfl,hp,xal (by decide +kernel),a,dp,do_,pw,ph,ps,rfl,pic,fun H1 l1 qs s1 hl1 pt1=>?_⟩
  refine⟨_,rfl,a,dx,_,rfl,s1 _ _ hp,xal (by decide +kernel),a,dp,do_,pw,ph,ps,ss,rfl,Pic.same s1 pic,st.same s1,fun l2 ss' rs fr sl pm pw'=>?_⟩
  have s2:Same H1 (upd H1 l2 (.lst (rs.map V.ref))):=xo (Same.refl _) fr
  refine⟨pw,ph,l1,l2,ps,qs,ss',rs,rfl,⟨w1,w2,h1,h2⟩,s2 _ _ hl1,pt1.keep (Same.tups s2),pok,xg,sl.keep (Same.tups s2),sok.perm pm,fun H' a' dp' do' s3 f1 f2 f3 pic' st'=>?_⟩
  exact q H' a' dp' do' ss' (s1.trans (s2.trans s3)) ((s1.trans s2).free f1) ((s1.trans s2).free f2) ((s1.trans s2).free f3) pm pw' (by rw[List.map_id'']; exact pic'; exact fun _=>rfl) (by rw[List.map_id'']; exact st'; exact fun _=>rfl)
end
section
variable {P:Program}{w:World}{K:PySem.W.Frag}{mg:Str->Option Value}{base:Heap}{t:Adr}
theorem ok_u (T:Txt w K mg t):FnOk true P w K mg base (CXo P w) 7 t.f_u t.d_u ["self"] (xgg t (fun _ h p=>turP h p) turS):=by
 refine T.F_u.okn (k:=6) sc_u (fun vs H Q E h=>?_) (fun cdv A outer s H vs Q E hr h=>?_)
 .obtain ⟨a,dp,do_,pw,ph,ps,ss,rfl,_⟩:=h
  rfl
 .obtain ⟨a,dp,do_,pw,ph,ps,ss,rfl,h⟩:=h
  refine⟨_,xh (x0 (i:=1) sc_u.nd rfl (Or.inr rfl) (xv xa1 (xab (pv 0) rfl) (xm)))
   (xh (xb3 rfl (xa5 (zs:=["name", "x", "y", "sides", "low", "high"]) (ys:=["rows"]) (fr:=[1]) (N0:=["self", "rows", "points", "seats"]) (sc0:=xi s_u) (by decide +kernel) rfl rfl rfl) (xaj (xa3 (pv 0) T.c_i T.m_j (ok_j T) (hr.mono (by decide)) T.b_j .nil xk)) (fun _ _ _ _ _ ow nd=>(xa8 rfl (xt (xn (i:=0) nd rfl (Or.inl (ow _ (by simp))) (Or.inr (ow _ (by simp)))) (xt (xn (i:=1) nd rfl (Or.inl (ow _ (by simp))) (Or.inr (ow _ (by simp)))) (xt (xn (i:=2) nd rfl (Or.inl (ow _ (by simp))) (Or.inr (ow _ (by simp)))) (xt (xn (i:=3) nd rfl (Or.inl (ow _ (by simp))) (Or.inr (ow _ (by simp)))) (xt (xn (i:=4) nd rfl (Or.inl (ow _ (by simp))) (Or.inr (ow _ (by simp)))) (xt (xn (i:=5) nd rfl (Or.inl (ow _ (by simp))) (Or.inr (ow _ (by simp)))) (xa2))))))):PG _ _ (gTup K 6 _))) (xb0 (xac (by decide) (xac (by decide) (xac (by decide) (xac (by decide) (xac (by decide) (xac (by decide) (xbr)))))))) (fun _ _ _ _ _=>xbh) (fun _ _ _ _ _=>xaz (xar (pv 0) (xar (pv 1) (xar (xv xb6 (pv 6) (pv 2)) (xar (pv 3) (xar (xv xb6 (pv 6) (pv 5)) (xar (xv xb6 (pv 6) (pv 4)) (xj) rfl) rfl) rfl) rfl) rfl) rfl)) (j:=2) rfl (Or.inl rfl))
   (xh (xb3 rfl (xa5 (zs:=["side", "row"]) (ys:=["rows"]) (fr:=[1]) (N0:=["self", "rows", "points", "seats"]) (sc0:=xi s_u) (by decide +kernel) rfl rfl rfl) (xaj (xa3 (pv 0) T.c_i T.m_m (ok_m T) (hr.mono (by decide)) T.b_m .nil xk)) (fun _ _ _ _ _ ow nd=>(xa8 rfl (xt (xn (i:=0) nd rfl (Or.inl (ow _ (by simp))) (Or.inr (ow _ (by simp)))) (xt (xn (i:=1) nd rfl (Or.inl (ow _ (by simp))) (Or.inr (ow _ (by simp)))) (xa2))):PG _ _ (gTup K 2 _))) (xb0 (xac (by decide) (xac (by decide) (xbr)))) (fun _ _ _ _ _=>xbh) (fun _ _ _ _ _=>xaz (xa (pv 0) (xa (xv xb6 (pv 2) (pv 1)) (xj)))) (j:=3) rfl (Or.inl rfl))
   (xl (xaf (x8 (ok_v T) (hr.mono (by decide)) rfl T.g_v T.F_v.kp T.b_v .nil xk (xa (xab (pv 0) rfl) (xa (xab (pv 0) rfl) (xa (pv 2) (xa (pv 3) (xj)))))))))),?_⟩
  obtain⟨pic,st,pok,sok,q⟩:=h
  obtain⟨⟨dx,hp⟩,_,w1,w2,h1,h2,_⟩:=id pic
  refine⟨_,rfl,a,_,dx,_,_,rfl,hp,T.c_i,T.n_aw,lkH,_,_,rfl,rfl,?_⟩
  refine⟨_,rfl,a,dx,_,rfl,hp,xal (by decide +kernel),a,dp,do_,pw,ph,ps,rfl,pic,fun H1 l1 qs s1 hl1 pt1=>?_⟩
  have ple:=pok.le
  have ql:=pt1.len
  refine⟨l1,rfl,⟨_,SqL.of hl1⟩,fun l2 hl2=>?_⟩
  refine xbp qs.length (fun i zs H2=>∃ rs:List Addr,zs=rs.map V.ref/\rs.length<=i/\Same H1 H2/\H2 l2=some (.lst zs)/\PtsL H2 ((ps.take i).map (turP ph)) rs) ?_ ?_ ?_ ?_
  .exact ⟨[],rfl,Nat.le_refl _,xo (Same.refl _) hl2,xg,by simpa using PtsL.nil⟩
  .rintro i zs H2 lt ⟨rs,_,_,s2,_⟩
   exact⟨_,.ref qs[i],SqL.of (s2 _ _ hl1),by simp[lt]⟩
  .rintro i zs H2 v H3 lt ⟨rs,rfl,rl,s2,h2l,pl2⟩ ⟨rfl,hv⟩ N hN
   have hv':=hv _ (SqL.of (s2 _ _ hl1))
   rw[List.getElem?_map] at hv'
   obtain⟨o,ho,rfl⟩:=Option.map_eq_some_iff.mp hv'
   obtain⟨p,hpp,ep⟩:=pt1.get ho
   have okp:=pok.ok p (List.mem_of_getElem? hpp)
   refine⟨o,_,rfl,SqT.of (s2 _ _ ep),rfl,_,_,rfl,_,_,rfl,_,_,rfl,_,_,rfl,_,_,rfl,_,_,rfl,rfl,?_⟩
   refine xe8 ?_
   refine⟨_,rfl,_,rfl,_,rfl,_,rfl,_,_,rfl,rfl,_,rfl,_,rfl,_,rfl,_,_,rfl,rfl,_,rfl,_,rfl,_,_,rfl,rfl,(by show 6<=sizeLine; decide),fun p7 hp7=>?_⟩
   have s7:=xo (o:=.tup (.str ((turP ph) p).nm::ptV ((turP ph) p))) (Same.refl _) hp7
   have n7:l2≠p7:=xb h2l hp7
   refine⟨s7 _ _ h2l,(by rw[List.length_map]; exact Nat.lt_trans (by omega:rs.length<13) (by decide)),hN _ _ ⟨rs++[p7],by simp,by simp; omega,fun b u e=>?_,xg,?_⟩⟩
   .rw [xf (xb e hl2)]
    exact s7 _ _ (s2 _ _ e)
   .rw [List.take_add_one,hpp,List.map_append]
    refine PtsL.snoc (PtsL.keep (fun b xs e=>?_) pl2) ?_
    .rw [xf (xp e h2l (fun z=>nomatch z))]
     exact s7 _ _ e
    .rw [xf (Ne.symm n7)]
     exact xg
  rintro zs H2 ⟨rs,rfl,rl,s2,h2l,pl2⟩
  refine⟨⟨_,SqL.of (s2 _ _ hl1),by simp⟩,?_⟩
  rw[ql,List.take_length] at pl2
  have s12:Same H H2:=s1.trans s2
  refine⟨_,rfl,a,dx,_,rfl,s12 _ _ hp,xal (by decide +kernel),a,dp,do_,pw,ph,ps,ss,rfl,Pic.same s12 pic,st.same s12,fun l3 ss' rs3 fr sl pm pw'=>?_⟩
  have s3:Same H2 (upd H2 l3 (.lst (rs3.map V.ref))):=xo (Same.refl _) fr
  have g3:upd H2 l3 (.lst (rs3.map V.ref)) l3=some (.lst (rs3.map V.ref)):=xg
  have sl3:=sl.keep (Same.tups s3)
  revert s3 g3 sl3
  generalize upd H2 l3 (.lst (rs3.map V.ref))=H3
  intro s3 g3 sl3
  have sok':=sok.perm pm
  have rl3:=sl.len
  refine⟨l3,rfl,⟨_,SqL.of g3⟩,fun l4 hl4=>?_⟩
  refine xbp rs3.length (fun i zs H4=>∃ rs:List Addr,zs=rs.map V.ref/\rs.length<=i/\Same H3 H4/\H4 l4=some (.lst zs)/\xah H4 ((ss'.take i).map (turS ph)) rs) ?_ ?_ ?_ ?_
  .exact ⟨[],rfl,Nat.le_refl _,xo (Same.refl _) hl4,xg,by simpa using xah.nil⟩
  .rintro i zs H4 lt ⟨rs,_,_,s4,_⟩
   exact⟨_,.ref rs3[i],SqL.of (s4 _ _ g3),by simp[lt]⟩
  .rintro i zs H4 v H5 lt ⟨rs,rfl,rl,s4,h4l,sl4⟩ ⟨rfl,hv⟩ N hN
   have hv':=hv _ (SqL.of (s4 _ _ g3))
   rw[List.getElem?_map] at hv'
   obtain⟨o,ho,rfl⟩:=Option.map_eq_some_iff.mp hv'
   obtain⟨s0,hs0,ep⟩:=sl3.get ho
   have sle:=sok'.2.1
   refine⟨o,_,rfl,SqT.of (s4 _ _ ep),rfl,_,_,rfl,_,_,rfl,rfl,?_⟩
   refine xe8 ?_
   refine⟨_,rfl,_,rfl,_,rfl,_,_,rfl,rfl,(by show 2<=sizeLine; decide),fun p7 hp7=>?_⟩
   have s7:=xo (o:=.tup (xax ((turS ph) s0))) (Same.refl _) hp7
   have n7:l4≠p7:=xb h4l hp7
   refine⟨s7 _ _ h4l,(by rw[List.length_map]; exact Nat.lt_trans (by omega:rs.length<33) (by decide)),hN _ _ ⟨rs++[p7],by simp,by simp; omega,fun b u e=>?_,xg,?_⟩⟩
   .rw [xf (xb e hl4)]
    exact s7 _ _ (s4 _ _ e)
   .rw [List.take_add_one,hs0,List.map_append]
    refine xah.snoc (xah.keep (fun b xs e=>?_) sl4) ?_
    .rw [xf (xp e h4l (fun z=>nomatch z))]
     exact s7 _ _ e
    .rw [xf (Ne.symm n7)]
     exact xg
  rintro zs H4 ⟨rs,rfl,rl,s4,h4l,sl4⟩
  refine⟨⟨_,SqL.of (s4 _ _ g3),by simp⟩,?_⟩
  rw[rl3,List.take_length] at sl4
  have s34:Same H2 H4:=s3.trans s4
  have s14:Same H H4:=s12.trans s34
  refine⟨_,rfl,a,_,dx,_,_,rfl,(s14 _ _ hp),T.c_i,T.n_a0,lkW,_,rfl,a,_,dx,_,_,rfl,(s14 _ _ hp),T.c_i,T.n_aw,lkH,_,rfl,_,rfl,pw,ph,l2,l4,ps.map (turP ph),_,ss'.map (turS ph),rs,rfl,⟨w1,w2,h1,h2⟩,s34 _ _ h2l,pl2.keep (Same.tups s34),xjh pok,h4l,sl4,xjo sok',fun H' a' dp' do' s5 f1 f2 f3 pic' st'=>?_⟩
  exact q H' a' dp' do' ss' (s14.trans s5) (s14.free f1) (s14.free f2) (s14.free f3) pm pw' pic' st'
end
theorem xp7 {sd:Str} (h:sd="left"\/sd="right"\/sd="both"):valV ([(Sum.inr "left",V.str "right"),(Sum.inr "right",V.str "left"),(Sum.inr "both",V.str "both")]:List (Key × V)) (Sum.inr sd)=some (.str (xdj sd)):=by
 rcases h with rfl|rfl|rfl<;>decide +kernel
theorem xoo (b:Bool):valV ([(Sum.inr "left",V.str "right"),(Sum.inr "right",V.str "left"),(Sum.inr "both",V.str "both")]:List (Key × V)) (Sum.inr (xaa b))=some (.str (xaa (!b))):=by
 cases b<;>decide +kernel
section
variable {P:Program}{w:World}{K:PySem.W.Frag}{mg:Str->Option Value}{base:Heap}{t:Adr}
theorem ok_l (T:Txt w K mg t):FnOk true P w K mg base (CXo P w) 7 t.f_l t.d_l ["self"] (xgg t (fun w _ p=>mirP w p) (fun _ s=>mirS s)):=by
 refine T.F_l.okn (k:=6) sc_l (fun vs H Q E h=>?_) (fun cdv A outer s H vs Q E hr h=>?_)
 .obtain ⟨a,dp,do_,pw,ph,ps,ss,rfl,_⟩:=h
  rfl
 .obtain ⟨a,dp,do_,pw,ph,ps,ss,rfl,h⟩:=h
  refine⟨_,xh (x0 (i:=1) sc_l.nd rfl (Or.inr rfl) (xv xa1 (xab (pv 0) rfl) (xm)))
   (xh (xb3 rfl (xa5 (zs:=["name", "x", "y", "sides", "low", "high"]) (ys:=["columns"]) (fr:=[1]) (N0:=["self", "columns", "points", "seats"]) (sc0:=xi s_l) (by decide +kernel) rfl rfl rfl) (xaj (xa3 (pv 0) T.c_i T.m_j (ok_j T) (hr.mono (by decide)) T.b_j .nil xk)) (fun _ _ _ _ _ ow nd=>(xa8 rfl (xt (xn (i:=0) nd rfl (Or.inl (ow _ (by simp))) (Or.inr (ow _ (by simp)))) (xt (xn (i:=1) nd rfl (Or.inl (ow _ (by simp))) (Or.inr (ow _ (by simp)))) (xt (xn (i:=2) nd rfl (Or.inl (ow _ (by simp))) (Or.inr (ow _ (by simp)))) (xt (xn (i:=3) nd rfl (Or.inl (ow _ (by simp))) (Or.inr (ow _ (by simp)))) (xt (xn (i:=4) nd rfl (Or.inl (ow _ (by simp))) (Or.inr (ow _ (by simp)))) (xt (xn (i:=5) nd rfl (Or.inl (ow _ (by simp))) (Or.inr (ow _ (by simp)))) (xa2))))))):PG _ _ (gTup K 6 _))) (xb0 (xac (by decide) (xac (by decide) (xac (by decide) (xac (by decide) (xac (by decide) (xac (by decide) (xbr)))))))) (fun _ _ _ _ _=>xbh) (fun _ _ _ _ _=>xaz (xar (pv 0) (xar (xv xb6 (pv 6) (pv 1)) (xar (pv 2) (xar (xj1 T.g_as T.D_as rfl (pv 3) (fun _ _=>rfl)) (xar (pv 4) (xar (pv 5) (xj) rfl) rfl) rfl) rfl) rfl) rfl)) (j:=2) rfl (Or.inl rfl))
   (xh (xb3 rfl (xa5 (zs:=["side", "row"]) (ys:=[]) (fr:=[]) (N0:=["self", "columns", "points", "seats"]) (sc0:=xi s_l) (by decide +kernel) rfl rfl rfl) (xaj (xa3 (pv 0) T.c_i T.m_m (ok_m T) (hr.mono (by decide)) T.b_m .nil xk)) (fun _ _ _ _ _ ow nd=>(xa8 rfl (xt (xn (i:=0) nd rfl (Or.inl (ow _ (by simp))) (Or.inr (ow _ (by simp)))) (xt (xn (i:=1) nd rfl (Or.inl (ow _ (by simp))) (Or.inr (ow _ (by simp)))) (xa2))):PG _ _ (gTup K 2 _))) (xb0 (xac (by decide) (xac (by decide) (xbr)))) (fun _ _ _ _ _=>xbh) (fun _ _ _ _ _=>xaz (xa (xj1 T.g_as T.D_as rfl (pv 0) (fun _ _=>rfl)) (xa (pv 1) (xj)))) (j:=3) rfl (Or.inl rfl))
   (xl (xaf (x8 (ok_v T) (hr.mono (by decide)) rfl T.g_v T.F_v.kp T.b_v .nil xk (xa (xab (pv 0) rfl) (xa (xab (pv 0) rfl) (xa (pv 2) (xa (pv 3) (xj)))))))))),?_⟩
  obtain⟨pic,st,pok,sok,q⟩:=h
  obtain⟨⟨dx,hp⟩,_,w1,w2,h1,h2,_⟩:=id pic
  refine⟨_,rfl,a,_,dx,_,_,rfl,hp,T.c_i,T.n_a0,lkW,_,_,rfl,rfl,?_⟩
  refine⟨_,rfl,a,dx,_,rfl,hp,xal (by decide +kernel),a,dp,do_,pw,ph,ps,rfl,pic,fun H1 l1 qs s1 hl1 pt1=>?_⟩
  have ple:=pok.le
  have ql:=pt1.len
  refine⟨l1,rfl,⟨_,SqL.of hl1⟩,fun l2 hl2=>?_⟩
  refine xbp qs.length (fun i zs H2=>∃ rs:List Addr,zs=rs.map V.ref/\rs.length<=i/\Same H1 H2/\H2 l2=some (.lst zs)/\PtsL H2 ((ps.take i).map (mirP pw)) rs) ?_ ?_ ?_ ?_
  .exact ⟨[],rfl,Nat.le_refl _,xo (Same.refl _) hl2,xg,by simpa using PtsL.nil⟩
  .rintro i zs H2 lt ⟨rs,_,_,s2,_⟩
   exact⟨_,.ref qs[i],SqL.of (s2 _ _ hl1),by simp[lt]⟩
  .rintro i zs H2 v H3 lt ⟨rs,rfl,rl,s2,h2l,pl2⟩ ⟨rfl,hv⟩ N hN
   have hv':=hv _ (SqL.of (s2 _ _ hl1))
   rw[List.getElem?_map] at hv'
   obtain⟨o,ho,rfl⟩:=Option.map_eq_some_iff.mp hv'
   obtain⟨p,hpp,ep⟩:=pt1.get ho
   have okp:=pok.ok p (List.mem_of_getElem? hpp)
   refine⟨o,_,rfl,SqT.of (s2 _ _ ep),rfl,_,_,rfl,_,_,rfl,_,_,rfl,_,_,rfl,_,_,rfl,_,_,rfl,rfl,?_⟩
   refine xe8 ?_
   refine⟨_,rfl,_,rfl,_,rfl,_,_,rfl,rfl,_,rfl,_,rfl,.inr p.sd,.str (xdj p.sd),rfl,xp7 okp.sd,_,rfl,_,rfl,(by show 6<=sizeLine; decide),fun p7 hp7=>?_⟩
   have s7:=xo (o:=.tup (.str ((mirP pw) p).nm::ptV ((mirP pw) p))) (Same.refl _) hp7
   have n7:l2≠p7:=xb h2l hp7
   refine⟨s7 _ _ h2l,(by rw[List.length_map]; exact Nat.lt_trans (by omega:rs.length<13) (by decide)),hN _ _ ⟨rs++[p7],by simp,by simp; omega,fun b u e=>?_,xg,?_⟩⟩
   .rw [xf (xb e hl2)]
    exact s7 _ _ (s2 _ _ e)
   .rw [List.take_add_one,hpp,List.map_append]
    refine PtsL.snoc (PtsL.keep (fun b xs e=>?_) pl2) ?_
    .rw [xf (xp e h2l (fun z=>nomatch z))]
     exact s7 _ _ e
    .rw [xf (Ne.symm n7)]
     exact xg
  rintro zs H2 ⟨rs,rfl,rl,s2,h2l,pl2⟩
  refine⟨⟨_,SqL.of (s2 _ _ hl1),by simp⟩,?_⟩
  rw[ql,List.take_length] at pl2
  have s12:Same H H2:=s1.trans s2
  refine⟨_,rfl,a,dx,_,rfl,s12 _ _ hp,xal (by decide +kernel),a,dp,do_,pw,ph,ps,ss,rfl,Pic.same s12 pic,st.same s12,fun l3 ss' rs3 fr sl pm pw'=>?_⟩
  have s3:Same H2 (upd H2 l3 (.lst (rs3.map V.ref))):=xo (Same.refl _) fr
  have g3:upd H2 l3 (.lst (rs3.map V.ref)) l3=some (.lst (rs3.map V.ref)):=xg
  have sl3:=sl.keep (Same.tups s3)
  revert s3 g3 sl3
  generalize upd H2 l3 (.lst (rs3.map V.ref))=H3
  intro s3 g3 sl3
  have sok':=sok.perm pm
  have rl3:=sl.len
  refine⟨l3,rfl,⟨_,SqL.of g3⟩,fun l4 hl4=>?_⟩
  refine xbp rs3.length (fun i zs H4=>∃ rs:List Addr,zs=rs.map V.ref/\rs.length<=i/\Same H3 H4/\H4 l4=some (.lst zs)/\xah H4 ((ss'.take i).map (mirS)) rs) ?_ ?_ ?_ ?_
  .exact ⟨[],rfl,Nat.le_refl _,xo (Same.refl _) hl4,xg,by simpa using xah.nil⟩
  .rintro i zs H4 lt ⟨rs,_,_,s4,_⟩
   exact⟨_,.ref rs3[i],SqL.of (s4 _ _ g3),by simp[lt]⟩
  .rintro i zs H4 v H5 lt ⟨rs,rfl,rl,s4,h4l,sl4⟩ ⟨rfl,hv⟩ N hN
   have hv':=hv _ (SqL.of (s4 _ _ g3))
   rw[List.getElem?_map] at hv'
   obtain⟨o,ho,rfl⟩:=Option.map_eq_some_iff.mp hv'
   obtain⟨s0,hs0,ep⟩:=sl3.get ho
   have sle:=sok'.2.1
   refine⟨o,_,rfl,SqT.of (s4 _ _ ep),rfl,_,_,rfl,_,_,rfl,rfl,?_⟩
   refine xe8 ?_
   refine⟨_,rfl,.inr (xaa s0.1),.str (xaa (!s0.1)),rfl,xoo s0.1,_,rfl,(by show 2<=sizeLine; decide),fun p7 hp7=>?_⟩
   have s7:=xo (o:=.tup (xax ((mirS) s0))) (Same.refl _) hp7
   have n7:l4≠p7:=xb h4l hp7
   refine⟨s7 _ _ h4l,(by rw[List.length_map]; exact Nat.lt_trans (by omega:rs.length<33) (by decide)),hN _ _ ⟨rs++[p7],by simp,by simp; omega,fun b u e=>?_,xg,?_⟩⟩
   .rw [xf (xb e hl4)]
    exact s7 _ _ (s4 _ _ e)
   .rw [List.take_add_one,hs0,List.map_append]
    refine xah.snoc (xah.keep (fun b xs e=>?_) sl4) ?_
    .rw [xf (xp e h4l (fun z=>nomatch z))]
     exact s7 _ _ e
    .rw [xf (Ne.symm n7)]
     exact xg
  rintro zs H4 ⟨rs,rfl,rl,s4,h4l,sl4⟩
  refine⟨⟨_,SqL.of (s4 _ _ g3),by simp⟩,?_⟩
  rw[rl3,List.take_length] at sl4
  have s34:Same H2 H4:=s3.trans s4
  have s14:Same H H4:=s12.trans s34
  refine⟨_,rfl,a,_,dx,_,_,rfl,(s14 _ _ hp),T.c_i,T.n_a0,lkW,_,rfl,a,_,dx,_,_,rfl,(s14 _ _ hp),T.c_i,T.n_aw,lkH,_,rfl,_,rfl,pw,ph,l2,l4,ps.map (mirP pw),_,ss'.map (mirS),rs,rfl,⟨w1,w2,h1,h2⟩,s34 _ _ h2l,pl2.keep (Same.tups s34),xjn pok,h4l,sl4,xjz sok',fun H' a' dp' do' s5 f1 f2 f3 pic' st'=>?_⟩
  exact q H' a' dp' do' ss' (s14.trans s5) (s14.free f1) (s14.free f2) (s14.free f3) pm pw' pic' st'
end
abbrev Pr:=Pt × Bool × Int
def prV (p:Pr):List V:=[.str p.1.nm,.str (xaa p.2.1),.int p.2.2]
inductive PrsL (H:Hp):List Pr->List Addr->Prop
 | nil:PrsL H [] []
 | cons {p:Pr}{q:Addr}{ps:List Pr}{qs:List Addr} (h:H q=some (.tup (prV p))) (r:PrsL H ps qs):PrsL H (p::ps) (q::qs)
theorem PrsL.keep {H H':Hp} (s:Tups H H') {ps:List Pr}{qs:List Addr} (h:PrsL H ps qs):PrsL H' ps qs:=by
 induction h with
 | nil=>exact .nil
 | cons h _ ih=>exact .cons (s _ _ h) ih
theorem PrsL.len {H:Hp}{ps:List Pr}{qs:List Addr} (h:PrsL H ps qs):qs.length=ps.length:=by
 induction h with
 | nil=>rfl
 | cons _ _ ih=>simp[ih]
theorem PrsL.get {H:Hp}{ps:List Pr}{qs:List Addr} (h:PrsL H ps qs) {i:Nat}{q:Addr} (e:qs[i]?=some q):∃ p,ps[i]?=some p/\H q=some (.tup (prV p)):=by
 induction h generalizing i with
 | nil=>simp at e
 | @cons p q' ps qs h _ ih =>
  cases i with
  | zero =>
   simp at e
   subst e
   exact⟨p,rfl,h⟩
  | succ j=>exact ih (by simpa using e)
def xdt (f:Option (Int × Str × Seat)) (g:Int):Bool:=match f with
 | none=>true
 | some y=>decide (g<y.1)
def look (own:Str->Int) (rent:Seat->Int) (asked:Seat->Option Str) (a:Str) (f:Option (Int × Str × Seat)) (x:Seat × Int):Option (Int × Str × Seat) :=
 if ((asked x.1).isNone&&xdt f (x.2-own a-rent x.1))=true then some (x.2-own a-rent x.1,a,x.1) else f
def xek (lens:Str->List (Seat × Int)) (own:Str->Int) (rent:Seat->Int) (asked:Seat->Option Str) (f:Option (Int × Str × Seat)) (askers:List Str):Option (Int × Str × Seat):=askers.foldl (fun f a=>(lens a).foldl (look own rent asked a) f) f
def near (lens:Str->List (Seat × Int)) (own:Str->Int) (rent:Seat->Int) (asked:Seat->Option Str) (askers:List Str):Option (Int × Str × Seat):=xek lens own rent asked none askers
structure Best (own:Str->Int) (rent:Seat->Int) (asked:Seat->Option Str) (P:Str->Seat × Int->Prop) (f:Option (Int × Str × Seat)):Prop where
 is_:∀ g a s,f=some (g,a,s)->∃ l,P a (s,l)/\g=l-own a-rent s/\asked s=none
 le:∀ a x,P a x->asked x.1=none->∃ y,f=some y/\y.1<=x.2-own a-rent x.1
theorem Best.congr {own:Str->Int}{rent:Seat->Int}{asked:Seat->Option Str}{P P':Str->Seat × Int->Prop}{f:Option (Int × Str × Seat)} (b:Best own rent asked P f) (h:∀ a x,P a x↔P' a x):Best own rent asked P' f :=
 ⟨fun g a s e=>let ⟨l,h1,h2⟩:=b.is_ g a s e; ⟨l,(h _ _).mp h1,h2⟩,fun a x p=>b.le a x ((h _ _).mpr p)⟩
theorem Best.look1 {own:Str->Int}{rent:Seat->Int}{asked:Seat->Option Str}{P:Str->Seat × Int->Prop}{f:Option (Int × Str × Seat)} (b:Best own rent asked P f) (a:Str) (x:Seat × Int):Best own rent asked (fun a' x'=>P a' x'\/(a'=a/\x'=x)) (look own rent asked a f x):=by
 unfold look
 by_cases c:((asked x.1).isNone&&xdt f (x.2-own a-rent x.1))=true
 .rw [if_pos c]
  rw[Bool.and_eq_true] at c
  obtain⟨c1,c2⟩:=c
  refine⟨fun g a' s e=>?_,fun a' x' p z=>⟨_,rfl,?_⟩⟩
  .cases e
   exact⟨x.2,.inr ⟨rfl,rfl⟩,rfl,by simpa using c1⟩
  .rcases p with p|⟨rfl,rfl⟩
   .obtain ⟨y,e,h⟩:=b.le a' x' p z
    rw[e] at c2
    have c2:x.2-own a-rent x.1<y.1:=by simpa [xdt] using c2
    show x.2-own a-rent x.1<=_
    omega
   .exact Int.le_refl _
 .rw [if_neg c]
  refine⟨fun g a' s e=>let ⟨l,h1,h2⟩:=b.is_ g a' s e; ⟨l,.inl h1,h2⟩,fun a' x' p z=>?_⟩
  rcases p with p|⟨rfl,rfl⟩
  .exact b.le a' x' p z
  .rw [z] at c
   have c:¬ xdt f (x'.2-own a'-rent x'.1)=true:=by simpa using c
   cases f with
   | none=>exact absurd rfl c
   | some y =>
    have c:¬ x'.2-own a'-rent x'.1<y.1:=by simpa [xdt] using c
    exact⟨y,rfl,by omega⟩
theorem Best.row {own:Str->Int}{rent:Seat->Int}{asked:Seat->Option Str} (a:Str):∀(xs:List (Seat × Int)) {P:Str->Seat × Int->Prop}{f:Option (Int × Str × Seat)},Best own rent asked P f->Best own rent asked (fun a' x'=>P a' x'\/(a'=a/\x'∈xs)) (xs.foldl (look own rent asked a) f)
 | [],P,f,b=>b.congr fun a' x'=>⟨.inl,fun h=>h.elim id fun z=>nomatch z.2⟩
 | x::xs,P,f,b=>by
  refine (Best.row a xs (b.look1 a x)).congr fun a' x'=>?_
  constructor
  .rintro ((h|⟨h1,h2⟩)|⟨h1,h2⟩)
   .exact .inl h
   .exact .inr ⟨h1,by rw[h2]; exact List.mem_cons_self ..⟩
   .exact .inr ⟨h1,List.mem_cons_of_mem _ h2⟩
  .rintro (h|⟨h1,h2⟩)
   .exact .inl (.inl h)
   .rcases List.mem_cons.mp h2 with h2|h2
    .exact .inl (.inr ⟨h1,h2⟩)
    .exact .inr ⟨h1,h2⟩
theorem Best.allF {lens:Str->List (Seat × Int)}{own:Str->Int}{rent:Seat->Int}{asked:Seat->Option Str}:∀(as:List Str) {P:Str->Seat × Int->Prop}{f:Option (Int × Str × Seat)},Best own rent asked P f->Best own rent asked (fun a' x'=>P a' x'\/(a'∈as/\x'∈lens a')) (xek lens own rent asked f as)
 | [],P,f,b=>b.congr fun a' x'=>⟨.inl,fun h=>h.elim id fun z=>nomatch z.1⟩
 | a::as,P,f,b=>by
  refine (Best.allF as (b.row a (lens a))).congr fun a' x'=>?_
  constructor
  .rintro ((h|⟨h1,h2⟩)|⟨h1,h2⟩)
   .exact .inl h
   .exact .inr ⟨by rw[h1]; exact List.mem_cons_self ..,by rw[h1]; exact h2⟩
   .exact .inr ⟨List.mem_cons_of_mem _ h1,h2⟩
  .rintro (h|⟨h1,h2⟩)
   .exact .inl (.inl h)
   .rcases List.mem_cons.mp h1 with h1|h1
    .exact .inl (.inr ⟨h1,by rw[<- h1]; exact h2⟩)
    .exact .inr ⟨h1,h2⟩
theorem xha (lens:Str->List (Seat × Int)) (own:Str->Int) (rent:Seat->Int) (asked:Seat->Option Str) (as:List Str):Best own rent asked (fun a x=>a∈as/\x∈lens a) (near lens own rent asked as) :=
 (Best.allF as (P:=fun _ _=>False) (f:=none) ⟨fun g a s e=>(nomatch e),fun a x p=>p.elim⟩).congr fun a x=>⟨fun h=>h.elim False.elim id,.inr⟩
def shO (own:Str->Int) (askers:List Str) (g:Int):Str->Int:=fun z=>if z∈askers then own z+g else own z
def shR (rent:Seat->Int) (asked:Seat->Option Str) (g:Int):Seat->Int:=fun z=>if (asked z).isSome=true then rent z-g else rent z
def setI (own:Str->Int) (nm:Str) (v:Int):Str->Int:=fun z=>if z=nm then v else own z
def xai (lens:Str->List (Seat × Int)):Str->List Seat:=fun n=>(lens n).map (·.1)
structure xce (lens:Str->List (Seat × Int)) (ss:List Seat):Prop where
 nd:∀ n,(xai lens n).Nodup
 b:∀ n x,x∈lens n->0<=x.2/\x.2<=46
 ins:∀ n s,s∈xai lens n->s∈ss
 snd:ss.Nodup
theorem xce.one {lens:Str->List (Seat × Int)}{ss:List Seat} (h:xce lens ss) {n:Str}{s:Seat}{l l':Int} (h1:(s,l)∈lens n) (h2:(s,l')∈lens n):l=l':=by
 have nd:=h.nd n
 unfold xai at nd
 obtain⟨i,hi,ei⟩:=List.getElem_of_mem h1
 obtain⟨j,hj,ej⟩:=List.getElem_of_mem h2
 have:i=j:=xn2 nd (i:=i) (j:=j) (by rw[List.length_map]; exact hi) (by rw[List.length_map]; exact hj) (by rw[List.getElem_map,List.getElem_map,ei,ej])
 subst this
 rw[ei] at ej
 exact (Prod.mk.inj ej).2
structure Fit (lens:Str->List (Seat × Int)) (names:List Str) (so:Str->Option Seat) (ho:Seat->Option Str) (own:Str->Int) (rent:Seat->Int):Prop where
 mt:Kp.Mt (xai lens) so ho
 dm:∀ z,(so z).isSome=decide (z∈names)
 le:∀ n∈names,∀ x∈lens n,own n+rent x.1<=x.2
 eq:∀ n s,so n=some s->∀ l,(s,l)∈lens n->own n+rent s=l
 rl:∀ s,rent s<=0
 r0:∀ s,ho s=none->rent s=0
 o0:∀ n∈names,0<=own n
 ob:∀ n∈names,own n<=1200
structure Grow (lens:Str->List (Seat × Int)) (names:List Str) (name:Str) (so:Str->Option Seat) (ho:Seat->Option Str) (crowd:List Str) (al:List Seat) (asked:Seat->Option Str) (own:Str->Int) (rent:Seat->Int):Prop where
 bf:Bf (xai lens) ho name crowd al asked
 le:∀ n∈names++[name],∀ x∈lens n,own n+rent x.1<=x.2
 eq:∀ n s,so n=some s->∀ l,(s,l)∈lens n->own n+rent s=l
 rl:∀ s,rent s<=0
 r0:∀ s,ho s=none->rent s=0
 tr:∀ s a,asked s=some a->∀ l,(s,l)∈lens a->own a+rent s=l
 o0:∀ n∈names++[name],0<=own n
 ob:∀ n∈names,n∉crowd->own n<=1200
section
variable {lens:Str->List (Seat × Int)}{names:List Str}{name:Str}{so:Str->Option Seat}{ho:Seat->Option Str}{crowd:List Str}{al:List Seat}{asked:Seat->Option Str}{own:Str->Int}{rent:Seat->Int}{ss:List Seat}
theorem Fit.grow (f:Fit lens names so ho own rent) (lo:xce lens ss) (nn:name∉names):Grow lens names name so ho [name] [] (fun _=>none) (setI own name 0) rent:=by
 have ne:∀ n∈names,n≠name:=fun n hn e=>nn (e▸hn)
 have so_in:∀ n s,so n=some s->n∈names:=fun n s e=>by
  have:=f.dm n
  rw[e] at this
  simpa using this.symm
 refine⟨Bf.start,fun n hn x hx=>?_,fun n s e l hl=>?_,f.rl,f.r0,fun s a e=>(nomatch e),fun n hn=>?_,fun n hn _=>?_⟩
 .unfold setI
  rcases List.mem_append.mp hn with hn|hn
  .rw [if_neg (ne n hn)]
   exact f.le n hn x hx
  .rw [if_pos (List.mem_singleton.mp hn)]
   have:=f.rl x.1
   have:=(lo.b n x hx).1
   omega
 .unfold setI
  rw[if_neg (ne n (so_in n s e))]
  exact f.eq n s e l hl
 .unfold setI
  split
  .exact Int.le_refl _
  .rename_i h
   rcases List.mem_append.mp hn with hn|hn
   .exact f.o0 n hn
   .exact absurd (List.mem_singleton.mp hn) h
 .unfold setI
  rw[if_neg (ne n hn)]
  exact f.ob n hn
theorem Bf.in_ (b:Bf (xai lens) ho name crowd al asked) (mt:Kp.Mt (xai lens) so ho) (dm:∀ z,(so z).isSome=decide (z∈names)) {a:Str} (h:a∈crowd):a∈names++[name]:=by
 obtain⟨k,hk,e⟩:=List.getElem_of_mem h
 rcases b.at_ mt (k:=k) (a:=a) (by rw[List.getElem?_eq_getElem hk,e]) with⟨_,z⟩|⟨j,s,_,_,z⟩
 .exact List.mem_append_right _ (List.mem_singleton.mpr z)
 .have:=dm a
  rw[z] at this
  exact List.mem_append_left _ (by simpa using this.symm)
theorem Bf.ask (b:Bf (xai lens) ho name crowd al asked) (s:Seat):(asked s).isSome=true↔s∈al:=by
 constructor
 .intro h
  by_cases c:s∈al
  .exact c
  .rw [b.no s c] at h
   cases h
 .intro h
  obtain⟨j,hj,e⟩:=List.getElem_of_mem h
  obtain⟨k,a,_,_,e3,_⟩:=b.ak j s (by rw[List.getElem?_eq_getElem hj,e])
  rw[e3]
  rfl
theorem Bf.asker (b:Bf (xai lens) ho name crowd al asked) {s:Seat}{a:Str} (e:asked s=some a):a∈crowd:=by
 have h:=(b.ask s).mp (by rw[e]; rfl)
 obtain⟨j,hj,ej⟩:=List.getElem_of_mem h
 obtain⟨k,a',_,e2,e3,_⟩:=b.ak j s (by rw[List.getElem?_eq_getElem hj,ej])
 rw[e] at e3
 cases e3
 exact List.mem_of_getElem? e2
theorem Bf.both (b:Bf (xai lens) ho name crowd al asked) (mt:Kp.Mt (xai lens) so ho) (sn:so name=none) {n:Str}{s:Seat} (e:so n=some s):n∈crowd↔(asked s).isSome=true:=by
 rw[b.ask s]
 constructor
 .intro h
  obtain⟨k,hk,ek⟩:=List.getElem_of_mem h
  rcases b.at_ mt (k:=k) (a:=n) (by rw[List.getElem?_eq_getElem hk,ek]) with⟨_,z⟩|⟨j,t,_,hj,z⟩
  .rw [z,sn] at e
   cases e
  .rw [e] at z
   cases z
   exact List.mem_of_getElem? hj
 .intro h
  obtain⟨j,hj,ej⟩:=List.getElem_of_mem h
  obtain⟨x,e1,e2⟩:=b.hd j s (by rw[List.getElem?_eq_getElem hj,ej])
  have:=(mt.iff x s).mpr e2
  rw[mt.inj e this]
  exact List.mem_of_getElem? e1
structure Gap (lens:Str->List (Seat × Int)) (crowd:List Str) (asked:Seat->Option Str) (own:Str->Int) (rent:Seat->Int) (g:Int) (a:Str) (s:Seat):Prop where
 g0:0<=g
 ac:a∈crowd
 rm:s∈xai lens a
 na:asked s=none
 eq:∀ l,(s,l)∈lens a->own a+g+rent s=l
 mn:∀ b∈crowd,∀ x∈lens b,asked x.1=none->own b+g+rent x.1<=x.2
theorem Grow.gap (w:Grow lens names name so ho crowd al asked own rent) (lo:xce lens ss) (mt:Kp.Mt (xai lens) so ho) (dm:∀ z,(so z).isSome=decide (z∈names)) {g:Int}{a:Str}{s:Seat} (e:near lens own rent asked crowd=some (g,a,s)):Gap lens crowd asked own rent g a s:=by
 have B:=xha lens own rent asked crowd
 obtain⟨l,⟨h1,h2⟩,h3,h4⟩:=B.is_ g a s e
 refine⟨?_,h1,List.mem_map.mpr ⟨_,h2,rfl⟩,h4,fun l' hl'=>?_,fun b hb x hx z=>?_⟩
 .have:=w.le a (w.bf.in_ mt dm h1) (s,l) h2
  have:own a+rent s<=l:=this
  omega
 .have:=lo.one h2 hl'
  omega
 .obtain ⟨y,ey,hy⟩:=B.le b x ⟨hb,hx⟩ z
  rw[e] at ey
  cases ey
  have hy:g<=x.2-own b-rent x.1:=hy
  omega
structure Mid (lens:Str->List (Seat × Int)) (names:List Str) (name:Str) (so:Str->Option Seat) (ho:Seat->Option Str) (crowd:List Str) (asked:Seat->Option Str) (own:Str->Int) (rent:Seat->Int):Prop where
 le:∀ n∈names++[name],∀ x∈lens n,own n+rent x.1<=x.2
 eq:∀ n s,so n=some s->∀ l,(s,l)∈lens n->own n+rent s=l
 rl:∀ s,rent s<=0
 r0:∀ s,ho s=none->rent s=0
 tr:∀ s a,asked s=some a->∀ l,(s,l)∈lens a->own a+rent s=l
 o0:∀ n∈names++[name],0<=own n
 ob:∀ n∈names,n∉crowd->own n<=1200
theorem Grow.shift (w:Grow lens names name so ho crowd al asked own rent) (mt:Kp.Mt (xai lens) so ho) (sn:so name=none) {g:Int}{a:Str}{s:Seat} (p:Gap lens crowd asked own rent g a s):Mid lens names name so ho crowd (Kp.upd1 asked s a) (shO own crowd g) (shR rent asked g):=by
 have g0:=p.g0
 refine⟨fun n hn x hx=>?_,fun n t e l hl=>?_,fun t=>?_,fun t ht=>?_,fun t b e l hl=>?_,fun n hn=>?_,fun n hn hc=>?_⟩
 .have base:=w.le n hn x hx
  unfold shO shR
  by_cases c1:n∈crowd<;>by_cases c2:(asked x.1).isSome=true
  .rw [if_pos c1,if_pos c2]; omega
  .rw [if_pos c1,if_neg c2]
   have:=p.mn n c1 x hx (by simpa using c2)
   omega
  .rw [if_neg c1,if_pos c2]; omega
  .rw [if_neg c1,if_neg c2]; omega
 .have base:=w.eq n t e l hl
  have iff:=w.bf.both mt sn e
  unfold shO shR
  by_cases c1:n∈crowd
  .rw [if_pos c1,if_pos (iff.mp c1)]; omega
  .rw [if_neg c1,if_neg (fun z=>c1 (iff.mpr z))]; exact base
 .have:=w.rl t
  unfold shR
  split<;>omega
 .have z:¬ (asked t).isSome=true:=fun z=>by
   have h:=(w.bf.ask t).mp z
   obtain⟨j,hj,ej⟩:=List.getElem_of_mem h
   obtain⟨x,_,e2⟩:=w.bf.hd j t (by rw[List.getElem?_eq_getElem hj,ej])
   rw[ht] at e2
   cases e2
  unfold shR
  rw[if_neg z]
  exact w.r0 t ht
 .unfold Kp.upd1 at e
  split at e
  .rename_i h
   cases e
   subst h
   have:=p.eq l hl
   unfold shO shR
   rw[if_pos p.ac,if_neg (by rw[p.na]; exact Bool.false_ne_true)]
   omega
  .have:=w.tr t b e l hl
   unfold shO shR
   rw[if_pos (w.bf.asker e),if_pos (by rw[e]; rfl)]
   omega
 .have:=w.o0 n hn
  unfold shO
  split<;>omega
 .unfold shO
  rw[if_neg hc]
  exact w.ob n hn hc
theorem Grow.more (w:Grow lens names name so ho crowd al asked own rent) (mt:Kp.Mt (xai lens) so ho) (sn:so name=none) {g:Int}{a h:Str}{s:Seat} (p:Gap lens crowd asked own rent g a s) (hh:ho s=some h):Grow lens names name so ho (crowd++[h]) (al++[s]) (Kp.upd1 asked s a) (shO own crowd g) (shR rent asked g):=by
 have m:=w.shift mt sn p
 obtain⟨i,hi,ei⟩:=List.getElem_of_mem p.ac
 have ns:s∉al:=fun z=>by
  have:=(w.bf.ask s).mpr z
  rw[p.na] at this
  cases this
 exact⟨w.bf.add (i:=i) (by rw[List.getElem?_eq_getElem hi,ei]) p.rm ns hh,m.le,m.eq,m.rl,m.r0,m.tr,m.o0,fun n hn hc=>m.ob n hn fun z=>hc (List.mem_append_left _ z)⟩
theorem Grow.nearest (w:Grow lens names name so ho crowd al asked own rent) (lo:xce lens ss) (mt:Kp.Mt (xai lens) so ho) (dm:∀ z,(so z).isSome=decide (z∈names)) (sn:so name=none) {so2:Str->Option Seat}{ho2:Seat->Option Str} (mt2:Kp.Mt (xai lens) so2 ho2) (all:∀ n∈names++[name],(so2 n).isSome=true):∃ g a s,near lens own rent asked crowd=some (g,a,s):=by
 cases e:near lens own rent asked crowd with
 | some y=>exact⟨y.1,y.2.1,y.2.2,rfl⟩
 | none =>
  have B:=xha lens own rent asked crowd
  have allin:∀(k:Nat) (a:Str),crowd[k]?=some a->∀ s∈xai lens a,s∈al:=fun k a ha s hs=>by
   obtain⟨x,hx,rfl⟩:=List.mem_map.mp hs
   rw[<- w.bf.ask]
   cases z:asked x.1 with
   | some _=>rfl
   | none =>
    obtain⟨y,ey,_⟩:=B.le a x ⟨List.mem_of_getElem? ha,hx⟩ z
    rw[e] at ey
    cases ey
  obtain⟨hs,ec,cr⟩:=w.bf.done mt sn allin
  have c1:=cr.count mt lo.snd lo.ins
  have c2:=Kp.hall mt2 lo.ins cr.nd (fun a ha=>all a (w.bf.in_ mt dm (by rw[ec]; exact ha)))
  rw[c1,List.length_cons] at c2
  omega
theorem xm7 {room:Str->List Seat}{s0:Seat}{so':Str->Option Seat}{ho':Seat->Option Str} (h:Kp.Rch (Kp.kstep room so ho) (.hand so ho asked s0) (.fin so' ho')):(∀ n t,so' n=some t->so n=some t\/asked t=some n)/\∀ t,(ho t).isSome=true->(ho' t).isSome=true:=by
 have key:∀(x y:Kp.KS Str Seat),Kp.Rch (Kp.kstep room so ho) x y->x=.hand so ho asked s0->(∃ so1 ho1 s1,(y=.hand so1 ho1 asked s1\/y=.fin so1 ho1)/\(∀ n t,so1 n=some t->so n=some t\/asked t=some n)/\∀ t,(ho t).isSome=true->(ho1 t).isSome=true):=by
  intro x y h
  induction h with
  | refl =>
   intro e
   exact⟨so,ho,s0,.inl e,fun n t z=>.inl z,fun t z=>z⟩
  | step _ e ih =>
   intro ex
   obtain⟨so1,ho1,s1,hy,p1,p2⟩:=ih ex
   rcases hy with rfl|rfl
   .have put:∀ a,asked s1=some a->(∀ n t,Kp.upd1 so1 a s1 n=some t->so n=some t\/asked t=some n)/\∀ t,(ho t).isSome=true->(Kp.upd1 ho1 s1 a t).isSome=true:=fun a ha=>by
     refine⟨fun n t z=>?_,fun t z=>?_⟩
     .unfold Kp.upd1 at z
      split at z
      .rename_i hn
       cases z
       subst hn
       exact .inr ha
      .exact p1 n t z
     .unfold Kp.upd1
      split
      .rfl
      .exact p2 t z
    cases ha:asked s1 with
    | none=>simp[Kp.kstep,ha] at e
    | some a =>
     cases hl:so1 a with
     | none =>
      rw[Kp.k_fin ha hl] at e
      cases e
      exact⟨_,_,s1,.inr rfl,(put a ha).1,(put a ha).2⟩
     | some l =>
      rw[Kp.k_hand ha hl] at e
      cases e
      exact⟨_,_,l,.inl rfl,(put a ha).1,(put a ha).2⟩
   .simp [Kp.kstep] at e
 obtain⟨so1,ho1,s1,hy,p1,p2⟩:=key _ _ h rfl
 rcases hy with e|e
 .cases e
 .cases e
  exact⟨p1,p2⟩
theorem Grow.last (w:Grow lens names name so ho crowd al asked own rent) (lo:xce lens ss) (mt:Kp.Mt (xai lens) so ho) (sn:so name=none) (dm:∀ z,(so z).isSome=decide (z∈names)) (c12:crowd.length<=12) {g:Int}{a:Str}{s:Seat} (p:Gap lens crowd asked own rent g a s) (hs:ho s=none) {so':Str->Option Seat}{ho':Seat->Option Str} (mt':Kp.Mt (xai lens) so' ho') (dm':∀ z,(so' z).isSome=(decide (z=name)||(so z).isSome)) (rc:Kp.Rch (Kp.kstep (xai lens) so ho) (.hand so ho (Kp.upd1 asked s a) s) (.fin so' ho')):Fit lens (names++[name]) so' ho' (shO own crowd g) (shR rent asked g):=by
 have m:=w.shift mt sn p
 obtain⟨h1,h2⟩:=xm7 rc
 -- how far the prices of the crowd lie apart
 have dist:∀(k:Nat) (b:Str),crowd[k]?=some b->shO own crowd g b<=shO own crowd g name+46*(k:Int)/\shO own crowd g name<=shO own crowd g b+46*(k:Int):=by
  intro k
  induction k using Nat.strongRecOn with
  | ind k ih =>
   intro b hb
   rcases w.bf.at_ mt hb with⟨rfl,rfl⟩|⟨j,t,rfl,hj,hso⟩
   .exact ⟨by omega,by omega⟩
   .obtain ⟨k0,a0,kj,e1,e2,e3⟩:=w.bf.ak j t hj
    obtain⟨i1,i2⟩:=ih k0 (by omega) a0 e1
    obtain⟨x1,hx1,ex1⟩:=List.mem_map.mp (mt.rm b t hso)
    obtain⟨x2,hx2,ex2⟩:=List.mem_map.mp e3
    have z1:=m.eq b t hso x1.2 (by rw[<- ex1]; exact hx1)
    have nt:¬ t=s:=fun z=>by
     have:=(w.bf.ask t).mpr (List.mem_of_getElem? hj)
     rw[z,p.na] at this
     cases this
    have z2:=m.tr t a0 (by unfold Kp.upd1; rw[if_neg nt]; exact e2) x2.2 (by rw[<- ex2]; exact hx2)
    have y1:=lo.b b x1 hx1
    have y2:=lo.b a0 x2 hx2
    exact⟨by omega,by omega⟩
 refine⟨mt',fun z=>?_,m.le,fun n t e l hl=>?_,m.rl,fun t ht=>?_,m.o0,fun n hn=>?_⟩
 .rw [dm' z,dm z,Bool.eq_iff_iff]
  simp only[Bool.or_eq_true,decide_eq_true_iff,List.mem_append,List.mem_singleton]
  exact or_comm
 .rcases h1 n t e with z|z
  .exact m.eq n t z l hl
  .exact m.tr t n z l hl
 .refine m.r0 t ?_
  cases z:ho t with
  | none=>rfl
  | some _ =>
   have:=h2 t (by rw[z]; rfl)
   rw[ht] at this
   cases this
 .by_cases c:n∈crowd
  .obtain ⟨k,hk,ek⟩:=List.getElem_of_mem c
   obtain⟨i,hi,ei⟩:=List.getElem_of_mem p.ac
   have d1:=dist k n (by rw[List.getElem?_eq_getElem hk,ek])
   have d2:=dist i a (by rw[List.getElem?_eq_getElem hi,ei])
   obtain⟨x,hx,ex⟩:=List.mem_map.mp p.rm
   have z1:=m.tr s a (by unfold Kp.upd1; rw[if_pos rfl]) x.2 (by rw[<- ex]; exact hx)
   have z2:=m.r0 s hs
   have:=lo.b a x hx
   omega
  .rcases List.mem_append.mp hn with hn|hn
   .exact m.ob n hn c
   .exact absurd (by rw[List.mem_singleton.mp hn]; exact List.mem_of_getElem? w.bf.c0) c
end
inductive LS where
 | go (own:Str->Int) (rent:Seat->Int) (asked:Seat->Option Str) (crowd:List Str)
 | hand (own:Str->Int) (rent:Seat->Int) (asked:Seat->Option Str) (s:Seat)
def xdo (lens:Str->List (Seat × Int)) (ho:Seat->Option Str):LS->Option LS
 | .go own rent asked crowd=>match near lens own rent asked crowd with
  | none=>none
  | some (g,a,s)=>match ho s with
   | some h=>some (.go (shO own crowd g) (shR rent asked g) (Kp.upd1 asked s a) (crowd++[h]))
   | none=>some (.hand (shO own crowd g) (shR rent asked g) (Kp.upd1 asked s a) s)
 | .hand _ _ _ _=>none
theorem a_go {lens:Str->List (Seat × Int)}{ho:Seat->Option Str}{own:Str->Int}{rent:Seat->Int}{asked:Seat->Option Str}{crowd:List Str}{g:Int}{a h:Str}{s:Seat} (e:near lens own rent asked crowd=some (g,a,s)) (e2:ho s=some h):xdo lens ho (.go own rent asked crowd)=some (.go (shO own crowd g) (shR rent asked g) (Kp.upd1 asked s a) (crowd++[h])):=by
 simp only[xdo,e,e2]
theorem xr7 {lens:Str->List (Seat × Int)}{ho:Seat->Option Str}{own:Str->Int}{rent:Seat->Int}{asked:Seat->Option Str}{crowd:List Str}{g:Int}{a:Str}{s:Seat} (e:near lens own rent asked crowd=some (g,a,s)) (e2:ho s=none):xdo lens ho (.go own rent asked crowd)=some (.hand (shO own crowd g) (shR rent asked g) (Kp.upd1 asked s a) s):=by
 simp only[xdo,e,e2]
inductive LRun (lens:Str->List (Seat × Int)):List Str->(Str->Int)->(Seat->Int)->(Str->Option Seat)->(Seat->Option Str)->Prop
 | nil:LRun lens [] (fun _=>0) (fun _=>0) (fun _=>none) (fun _=>none)
 | snoc {ns:List Str}{own own':Str->Int}{rent rent':Seat->Int}{so so':Str->Option Seat}{ho ho' asked:Seat->Option Str}{nm:Str}{s:Seat} (r:LRun lens ns own rent so ho) (ra:Kp.Rch (xdo lens ho) (.go (setI own nm 0) rent (fun _=>none) [nm]) (.hand own' rent' asked s)) (rk:Kp.Rch (Kp.kstep (xai lens) so ho) (.hand so ho asked s) (.fin so' ho')) (f:Fit lens (ns++[nm]) so' ho' own' rent'):LRun lens (ns++[nm]) own' rent' so' ho'
theorem LRun.fit {lens:Str->List (Seat × Int)}{ns:List Str}{own:Str->Int}{rent:Seat->Int}{so:Str->Option Seat}{ho:Seat->Option Str} (r:LRun lens ns own rent so ho):Fit lens ns so ho own rent:=by
 cases r with
 | nil=>exact⟨⟨fun n s=>⟨fun z=>(nomatch z),fun z=>(nomatch z)⟩,fun n s z=>(nomatch z)⟩,fun z=>rfl,fun n h=>(nomatch h),fun n s e=>(nomatch e),fun s=>Int.le_refl _,fun s _=>rfl,fun n h=>(nomatch h),fun n h=>(nomatch h)⟩
 | snoc r ra rk f=>exact f
theorem xbi {σ:L2.St}{H:Hp}{K:List V->Hp->Prop} (h:K [] H):tNil σ H K:=h
theorem xge {k m:Str}{v:V}{r:List (Str × V)} (e:(m == k)=true):List.lookup m ((k,v)::r)=some v:=by
 rw[List.lookup_cons,e]
theorem xb5 {k m:Str}{v:V}{r:List (Str × V)}{o:Option V} (e:(m == k)=false) (h:List.lookup m r=o):List.lookup m ((k,v)::r)=o:=by
 rw[List.lookup_cons,e]
 exact h
abbrev pzF (a dl d_o d_r p:Addr):List (Str × V):=[("picture",.ref a),("lengths",.ref dl),("own",.ref d_o),("rent",.ref d_r),("seating",.ref p)]
theorem lkZp {a dl d_o d_r p:Addr}:(pzF a dl d_o d_r p).lookup ("picture":Str)=some (.ref a):=xge (by decide +kernel)
theorem lkZl {a dl d_o d_r p:Addr}:(pzF a dl d_o d_r p).lookup ("lengths":Str)=some (.ref dl):=xb5 (by decide +kernel) (xge (by decide +kernel))
theorem lkZo {a dl d_o d_r p:Addr}:(pzF a dl d_o d_r p).lookup ("own":Str)=some (.ref d_o):=xb5 (by decide +kernel) (xb5 (by decide +kernel) (xge (by decide +kernel)))
theorem lkZr {a dl d_o d_r p:Addr}:(pzF a dl d_o d_r p).lookup ("rent":Str)=some (.ref d_r):=xb5 (by decide +kernel) (xb5 (by decide +kernel) (xb5 (by decide +kernel) (xge (by decide +kernel))))
theorem lkZs {a dl d_o d_r p:Addr}:(pzF a dl d_o d_r p).lookup ("seating":Str)=some (.ref p):=xb5 (by decide +kernel) (xb5 (by decide +kernel) (xb5 (by decide +kernel) (xb5 (by decide +kernel) (xge (by decide +kernel)))))
theorem xe2 {a dl d_o d_r p:Addr}{m:Str} (e:((["picture", "lengths", "own", "rent", "seating"]:List Str).all fun k=>!(m == k))=true):(pzF a dl d_o d_r p).lookup m=none:=by
 simp only[List.all_cons,List.all_nil,Bool.and_eq_true,Bool.not_eq_true'] at e
 obtain⟨e1,e2,e3,e4,e5,_⟩:=e
 exact xb5 e1 (xb5 e2 (xb5 e3 (xb5 e4 (xb5 e5 rfl))))
theorem valM {α κ:Type} [DecidableEq κ] {k:α->κ} (inj:∀ a b,k a=k b->a=b) {f:α->V}{a:α}:∀{l:List α},a∈l->valV (l.map fun n=>(k n,f n)) (k a)=some (f a)
 | x::l,h=>by
  by_cases c:k x=k a
  .rw [List.map_cons,xa9 c,inj _ _ c]
  .rw [List.map_cons,xa7 c]
   rcases List.mem_cons.mp h with rfl|h
   .exact absurd rfl c
   .exact valM inj h
theorem xef {α κ:Type} [DecidableEq κ] {k:α->κ} (inj:∀ a b,k a=k b->a=b) {f:α->V}{a:α}:∀{l:List α},a∉l->valV (l.map fun n=>(k n,f n)) (k a)=none
 | [],_=>rfl
 | x::l,h=>by
  rw[List.mem_cons,not_or] at h
  rw[List.map_cons,xa7 (fun c=>h.1 (inj _ _ c).symm)]
  exact xef inj h.2
theorem putM {α κ:Type} [DecidableEq κ] [DecidableEq α] {k:α->κ} (inj:∀ a b,k a=k b->a=b) {f:α->V}{a:α}{l:List α} (h:a∈l) (v:V):putK (l.map fun n=>(k n,f n)) (k a) v=l.map fun n=>(k n,if n=a then v else f n):=by
 unfold putK
 have e:((l.map fun n=>(k n,f n)).any fun kv=>decide (kv.1=k a))=true:=List.any_eq_true.mpr ⟨(k a,f a),List.mem_map.mpr ⟨a,h,rfl⟩,decide_eq_true rfl⟩
 rw[if_pos e,List.map_map]
 refine List.map_congr_left fun n _=>?_
 show (if k n=k a then (k n,v) else (k n,f n))=_
 by_cases c:n=a
 .rw [if_pos (by rw[c]),if_pos c]
 .rw [if_neg (fun z=>c (inj _ _ z)),if_neg c]
theorem inrI (a b:Str) (h:(Sum.inr a:Key)=Sum.inr b):a=b:=Sum.inr.inj h
theorem xcw (a b:Seat) (h:xu a=xu b):a=b:=xd4 h
def OwD (H:Hp) (d:Addr) (names:List Str) (own:Str->Int):Prop:=H d=some (.dK (names.map fun n=>((.inr n:Key),V.int (own n))))
def RnD (H:Hp) (d:Addr) (ss:List Seat) (rent:Seat->Int):Prop:=H d=some (.dT (ss.map fun s=>(xu s,V.int (rent s))))
def AkD (H:Hp) (d:Addr) (al:List Seat) (asked:Seat->Option Str):Prop:=H d=some (.dT (al.map fun s=>(xu s,V.str ((asked s).getD (Str.ofString "")))))
def LnT (xs:List (Seat × Int)):List (List Key × V):=xs.map fun x=>(xu x.1,V.int x.2)
def LnD (H:Hp) (d:Addr) (bad:List Addr) (names:List Str) (lens:Str->List (Seat × Int)):Prop:=∃ kvs:List (Key × V),H d=some (.dK kvs)/\kvs.length<=names.length/\∀ nm∈names,∃ q,valV kvs (.inr nm)=some (.ref q)/\H q=some (.dT (LnT (lens nm)))/\q∉bad
structure Pz (t:Adr) (H:Hp) (pz a dl d_o d_r p d1 d2:Addr) (n:Nat) (names:List Str) (ss:List Seat) (lens:Str->List (Seat × Int)) (so:Str->Option Seat) (ho:Seat->Option Str) (own:Str->Int) (rent:Seat->Int):Prop where
 ins:∃ dx,H pz=some (.ins t.C_ai dx (pzF a dl d_o d_r p))
 sg:Sg t H p d1 d2 n so ho
 ow:OwD H d_o names own
 rn:RnD H d_r ss rent
 ln:LnD H dl [d_r,d2] names lens
 n1:d_r≠d2
 n2:d_o≠d1
 n3:d_o≠dl
 n4:dl≠d1
theorem Pz.same {t:Adr}{H H':Hp}{pz a dl d_o d_r p d1 d2:Addr}{n:Nat}{names:List Str}{ss:List Seat}{lens:Str->List (Seat × Int)}{so:Str->Option Seat}{ho:Seat->Option Str}{own:Str->Int}{rent:Seat->Int} (z:Pz t H pz a dl d_o d_r p d1 d2 n names ss lens so ho own rent) (s:Same H H'):Pz t H' pz a dl d_o d_r p d1 d2 n names ss lens so ho own rent :=
 ⟨let ⟨dx,e⟩:=z.ins; ⟨dx,s _ _ e⟩,z.sg.same s,s _ _ z.ow,s _ _ z.rn,let ⟨kvs,e,l,f⟩:=z.ln; ⟨kvs,s _ _ e,l,fun nm h=>let ⟨q,e1,e2,e3⟩:=f nm h; ⟨q,e1,s _ _ e2,e3⟩⟩,z.n1,z.n2,z.n3,z.n4⟩
def FndV (H:Hp) (v:V) (f:Option (Int × Str × Seat)):Prop:=(f=none/\v=.non)\/∃(g:Int) (a:Str) (s:Seat) (q qs:Addr),f=some (g,a,s)/\v=.ref q/\H q=some (.tup [.int g,.str a,.ref qs])/\H qs=some (.tup (xax s))
theorem FndV.tp {H H':Hp}{v:V}{f:Option (Int × Str × Seat)} (h:FndV H v f) (t:Tups H H'):FndV H' v f:=by
 rcases h with h|⟨g,a,s,q,qs,h1,h2,h3,h4⟩
 .exact .inl h
 .exact .inr ⟨g,a,s,q,qs,h1,h2,t _ _ h3,t _ _ h4⟩
theorem AkD.get {H:Hp}{d:Addr}{al:List Seat}{asked:Seat->Option Str} (h:AkD H d al asked) (ask:∀ s,(asked s).isSome=true↔s∈al) {b:Addr}{s:Seat} (hb:H b=some (.tup (xax s))):DGet H d (.ref b) ((asked s).map V.str):=by
 have g:=DGet.t (k:=xu s) h hb
 cases e:asked s with
 | none =>
  rw[xef xcw (fun z=>by rw[<- ask s,e] at z; cases z)] at g
  exact g
 | some x =>
  rw[valM xcw ((ask s).mp (by rw[e]; rfl)),e] at g
  exact g
theorem OwD.get {H:Hp}{d:Addr}{names:List Str}{own:Str->Int} (h:OwD H d names own) {x:Str} (hx:x∈names):DGet H d (.str x) (some (.int (own x))):=by
 have g:=DGet.k (k:=.inr x) h
 rw[valM inrI hx] at g
 exact g
theorem RnD.get {H:Hp}{d:Addr}{ss:List Seat}{rent:Seat->Int} (h:RnD H d ss rent) {s:Seat} (hs:s∈ss) {b:Addr} (hb:H b=some (.tup (xax s))):DGet H d (.ref b) (some (.int (rent s))):=by
 have g:=DGet.t (k:=xu s) h hb
 rw[valM xcw hs] at g
 exact g
def xg7 (t:Adr):Sp:=fun vs H Q _=>∃(pz la da a dl d_o d_r p d1 d2:Addr) (n:Nat) (names crowd:List Str) (ss al:List Seat) (lens:Str->List (Seat × Int)) (so:Str->Option Seat) (ho asked:Seat->Option Str) (own:Str->Int) (rent:Seat->Int),vs=[.ref pz,.ref la,.ref da]/\Pz t H pz a dl d_o d_r p d1 d2 n names ss lens so ho own rent/\H la=some (.lst (crowd.map V.str))/\AkD H da al asked/\(∀ s,(asked s).isSome=true↔s∈al)/\(∀ b∈crowd,b∈names)/\(∀ n s,s∈xai lens n->s∈ss) /\
 ((∀ nm∈names,∀ q,(∃ kvs,H dl=some (.dK kvs)/\valV kvs (.inr nm)=some (.ref q))->q≠da))/\∀ H' v,Same H H'->FndV H' v (near lens own rent asked crowd)->Q v H'
theorem xkx {t:Adr}{H:Hp}{Q E}{pz la da a dl d_o d_r p d1 d2:Addr}{n:Nat}{names crowd:List Str}{ss al:List Seat}{lens:Str->List (Seat × Int)}{so:Str->Option Seat}{ho asked:Seat->Option Str}{own:Str->Int}{rent:Seat->Int} (hh:Pz t H pz a dl d_o d_r p d1 d2 n names ss lens so ho own rent/\H la=some (.lst (crowd.map V.str))/\AkD H da al asked/\(∀ s,(asked s).isSome=true↔s∈al)/\(∀ b∈crowd,b∈names)/\(∀ n s,s∈xai lens n->s∈ss) /\
 ((∀ nm∈names,∀ q,(∃ kvs,H dl=some (.dK kvs)/\valV kvs (.inr nm)=some (.ref q))->q≠da))/\∀ H' v,Same H H'->FndV H' v (near lens own rent asked crowd)->Q v H'):xg7 t [.ref pz,.ref la,.ref da] H Q E:=⟨pz,la,da,a,dl,d_o,d_r,p,d1,d2,n,names,crowd,ss,al,lens,so,ho,asked,own,rent,rfl,hh⟩
section
variable {P:Program}{w:World}{K:PySem.W.Frag}{mg:Str->Option Value}{base:Heap}{t:Adr}
theorem ok_q (T:Txt w K mg t):FnOk true P w K mg base (CXo P w) 1 t.f_q t.d_q ["self", "askers", "asked_by"] (xg7 t):=by
 refine T.F_q.okn (k:=0) sc_q (fun vs H Q E h=>?_) (fun cdv A outer s H vs Q E hr h=>?_)
 .obtain ⟨pz,la,da,a,dl,d_o,d_r,p,d1,d2,n,names,crowd,ss,al,lens,so,ho,asked,own,rent,rfl,_⟩:=h
  rfl
 .obtain ⟨pz,la,da,a,dl,d_o,d_r,p,d1,d2,n,names,crowd,ss,al,lens,so,ho,asked,own,rent,rfl,h⟩:=h
  refine⟨_,xh (x0 (i:=3) sc_q.nd rfl (Or.inl rfl) (xcj))
   (xh (xbe PassesOwn.never rfl (xaj (pv 1)) (xn (i:=4) sc_q.nd rfl (Or.inl rfl)) (xl (xj2 (xbe PassesOwn.never rfl (xl1 (xbo (xau hr) (xab (pv 0) rfl) (pv 4) (fun _ _=>rfl))) (xa8 rfl (xt (xn (i:=5) sc_q.nd rfl (Or.inl rfl)) (xt (xn (i:=6) sc_q.nd rfl (Or.inl rfl)) (xa2)))) (xh (x0 (i:=7) sc_q.nd rfl (Or.inl rfl) (xv xb6 (xv xb6 (pv 6) (xbo (xau hr) (xab (pv 0) rfl) (pv 4) (fun _ _=>rfl))) (xbo (xau hr) (xab (pv 0) rfl) (pv 5) (fun _ _=>rfl))))
   (xl (xat (PW.pt (xmd (xcz (xdc (xau hr) (pv 5) (pv 2))) (xjp (PW.pt (xdk (xag xev (pv 3) (xcj) (xam _)) (xcu (xag xhs (pv 7) (xbj xdi (pv 3) (xm) (fun _ _=>rfl)) (xam _)))))))) (xl (x0 (i:=3) sc_q.nd rfl (Or.inl rfl) (xaz (xa (pv 7) (xa (pv 4) (xa (pv 5) (xj))))))) (xae))))))))
   (xl (xaf (pv 3)))),?_⟩
  obtain⟨z,hla,hda,ask,cin,rin,nda,q⟩:=h
  refine⟨_,rfl,la,rfl,⟨_,SqL.of hla⟩,?_⟩
  refine xbg (xs:=crowd.map V.str) (Pv:=fun i σ H1=>∃(v3:V) (v4 v5 v6 v7:Option V),σ=[some (.ref pz),some (.ref la),some (.ref da),some v3,v4,v5,v6,v7]/\Same H H1/\FndV H1 v3 (xek lens own rent asked none (crowd.take i))) ?_ ?_ ?_ ?_
  .exact ⟨_,_,_,_,_,rfl,Same.refl _,.inl ⟨rfl,rfl⟩⟩
  .rintro i σ H1 _ ⟨_,_,_,_,_,rfl,s1,_⟩
   exact SqL.of (s1 _ _ hla)
  .rintro i x σ H1 hx ⟨v3,v4,v5,v6,v7,rfl,s1,fv⟩
   rw[List.getElem?_map,Option.map_eq_some_iff] at hx
   obtain⟨b,hb,rfl⟩:=hx
   have bin:=cin b (List.mem_of_getElem? hb)
   have z1:=z.same s1
   obtain⟨dx,hpz⟩:=z1.ins
   obtain⟨kvs,hdl,_,f⟩:=z1.ln
   obtain⟨qd,hv,hqd,nbad⟩:=f b bin
   have dg:=DGet.k (k:=.inr b) hdl
   rw[hv] at dg
   refine⟨_,rfl,pz,_,dx,_,_,rfl,hpz,T.c_ai,T.n_a4,lkZl,_,rfl,dl,.ref qd,rfl,dg,qd,_,rfl,hqd,fun ob nf=>?_⟩
   rw[List.mem_cons,not_or] at nbad
   have nr:d_r≠qd:=Ne.symm nbad.1
   have nd:da≠qd:=Ne.symm (nda b bin qd ⟨kvs,by
    obtain⟨k0,e0,_⟩:=z.ln
    have:=s1 _ _ e0
    rw[hdl] at this
    cases this
    exact e0,hv⟩)
   have dT_ne:∀{c:Addr}{u:HO},H1 c=some u->(∀ k,u≠.dT k)->c≠qd:=fun {c u} e n1=>xp e hqd (n1 _)
   refine xkh (Pv:=fun j σ H3=>∃(v3:V) (v5 v6 v7:Option V),σ=[some (.ref pz),some (.ref la),some (.ref da),some v3,some (.str b),v5,v6,v7]/\(∀ c u,c≠qd->H1 c=some u->H3 c=some u)/\H3 qd=some (.frz ob (.dT (LnT (lens b))))/\FndV H3 v3 (((lens b).take j).foldl (look own rent asked b) (xek lens own rent asked none (crowd.take i)))) ?_ ?_ ?_ ?_
   .refine ⟨_,_,_,_,rfl,fun c u nc e=>by rw[xf nc]; exact e,xg,fv.tp fun c xs e=>?_⟩
    rw[xf (dT_ne e (fun _ z=>nomatch z))]
    exact e
   .rintro j σ H3 _ ⟨_,_,_,_,rfl,_,e3,_⟩
    exact e3
   .rintro j k x qk pa σ H3 hk hqk hpa ⟨v3,v5,v6,v7,rfl,k3,e3,fv3⟩
    unfold LnT at hk
    rw[List.getElem?_map,Option.map_eq_some_iff] at hk
    obtain⟨y,hy,hyk⟩:=hk
    cases hyk
    have s4:Same H3 (upd H3 pa (.tup [.ref qk,.int y.2])):=xo (Same.refl _) hpa
    have g4:upd H3 pa (.tup [.ref qk,.int y.2]) pa=some (.tup [.ref qk,.int y.2]):=xg
    revert s4 g4
    generalize upd H3 pa (.tup [.ref qk,.int y.2])=H4
    intro s4 g4
    have hqk4:H4 qk=some (.tup (xax y.1)):=s4 _ _ hqk
    have ymem:y∈lens b:=List.mem_of_getElem? hy
    have k4:∀ c u,c≠qd->H1 c=some u->H4 c=some u:=fun c u nc e=>s4 _ _ (k3 c u nc e)
    have hpz4:=k4 _ _ (dT_ne hpz (fun _ z=>nomatch z)) hpz
    have ow4:OwD H4 d_o names own:=k4 _ _ (dT_ne z1.ow (fun _ z=>nomatch z)) z1.ow
    have rn4:RnD H4 d_r ss rent:=k4 _ _ nr z1.rn
    have ak4:AkD H4 da al asked:=k4 _ _ nd (s1 _ _ hda)
    have fv4:=fv3.tp (Same.tups s4)
    have e4:=s4 _ _ e3
    have dgR:=rn4.get (rin b y.1 (List.mem_map.mpr ⟨y,ymem,rfl⟩)) hqk4
    refine⟨pa,_,rfl,SqT.of g4,rfl,_,_,rfl,_,_,rfl,rfl,?_⟩
    refine⟨_,rfl,_,rfl,pz,_,dx,_,_,rfl,hpz4,T.c_ai,T.n_a7,lkZo,_,rfl,d_o,_,rfl,ow4.get bin,_,_,rfl,rfl,_,rfl,pz,_,dx,_,_,rfl,hpz4,T.c_ai,T.n_a8,lkZr,_,rfl,d_r,_,rfl,dgR,_,_,rfl,rfl,?_⟩
    have tk:(lens b).take (j+1)=(lens b).take j++[y]:=by
     rw[List.take_add_one,hy]
     rfl
    rw[tk,List.foldl_append]
    generalize ((lens b).take j).foldl (look own rent asked b) (xek lens own rent asked none (crowd.take i))=f0 at fv4
    show _
    refine⟨_,rfl,_,rfl,da,_,rfl,ak4.get ask hqk4,_,rfl,ite2 (fun c1=>?_) (fun c1=>?_)⟩
    .have an:asked y.1=none:=by
      cases ea:asked y.1 with
      | none=>rfl
      | some w=>rw[ea] at c1; cases c1
     have stay:xdt f0 (y.2-own b-rent y.1)=false->∃(v3':V) (v5 v6 v7:Option V),[some (.ref pz),some (.ref la),some (.ref da),some v3,some (.str b),some (.ref qk),some (.int y.2),some (.int (y.2-own b-rent y.1))]=[some (.ref pz),some (.ref la),some (.ref da),some v3',some (.str b),v5,v6,v7]/\(∀ c u,c≠qd->H1 c=some u->H4 c=some u)/\H4 qd=some (.frz ob (.dT (LnT (lens b))))/\FndV H4 v3' ([y].foldl (look own rent asked b) f0):=fun hb=>by
      refine⟨v3,_,_,_,rfl,k4,e4,?_⟩
      show FndV H4 v3 (look own rent asked b f0 y)
      unfold look
      rw[if_neg (by rw[hb]; simp)]
      exact fv4
     have move:xdt f0 (y.2-own b-rent y.1)=true->∀ q5,H4 q5=none->∃(v3':V) (v5 v6 v7:Option V),[some (.ref pz),some (.ref la),some (.ref da),some (.ref q5),some (.str b),some (.ref qk),some (.int y.2),some (.int (y.2-own b-rent y.1))]=[some (.ref pz),some (.ref la),some (.ref da),some v3',some (.str b),v5,v6,v7]/\(∀ c u,c≠qd->H1 c=some u->upd H4 q5 (.tup [.int (y.2-own b-rent y.1),.str b,.ref qk]) c=some u)/\upd H4 q5 (.tup [.int (y.2-own b-rent y.1),.str b,.ref qk]) qd=some (.frz ob (.dT (LnT (lens b))))/\FndV (upd H4 q5 (.tup [.int (y.2-own b-rent y.1),.str b,.ref qk])) v3' ([y].foldl (look own rent asked b) f0):=fun hb q5 hq5=>by
      have s5:Same H4 (upd H4 q5 (.tup [.int (y.2-own b-rent y.1),.str b,.ref qk])):=xo (Same.refl _) hq5
      refine⟨.ref q5,_,_,_,rfl,fun c u nc e=>s5 _ _ (k4 c u nc e),s5 _ _ e4,?_⟩
      show FndV _ _ (look own rent asked b f0 y)
      unfold look
      rw[if_pos (by rw[hb,an]; rfl)]
      exact .inr ⟨_,_,_,q5,qk,rfl,rfl,xg,s5 _ _ hqk4⟩
     rcases fv4 with⟨rfl,rfl⟩|⟨g0,a0,s0,q0,qs0,rfl,rfl,hq0,hqs0⟩
     .refine ⟨_,rfl,rfl,_,rfl,ifP rfl (ifP rfl ?_)⟩
      exact⟨_,rfl,_,rfl,_,rfl,(by show 3<=sizeLine; decide),fun q5 hq5=>move rfl q5 hq5⟩
     .refine ⟨_,rfl,rfl,_,rfl,ifN (by rw[decide_eq_false (fun z=>nomatch z)]) ?_⟩
      refine⟨_,rfl,_,rfl,q0,_,0,.int g0,rfl,rfl,SqT.of hq0,rfl,_,_,rfl,rfl,_,rfl,ite2 (fun c2=>?_) (fun c2=>?_)⟩
      .exact ⟨_,rfl,_,rfl,_,rfl,(by show 3<=sizeLine; decide),fun q5 hq5=>move c2 q5 hq5⟩
      .exact stay (Bool.eq_false_iff.mpr c2)
    .refine ⟨v3,_,_,_,rfl,k4,e4,?_⟩
     show FndV H4 v3 (look own rent asked b f0 y)
     unfold look
     have an:(asked y.1).isNone=false:=by
      cases ea:asked y.1 with
      | none=>rw[ea] at c1; exact absurd rfl c1
      | some w=>rfl
     rw[if_neg (by rw[an]; simp)]
     exact fv4
   .rintro σ H3 ⟨v3,v5,v6,v7,rfl,k3,e3,fv3⟩
    refine⟨qd,ob,_,e3,nf,v3,_,_,_,_,rfl,fun c u e=>?_,?_⟩
    .have e1:=s1 _ _ e
     by_cases c1:c=qd
     .subst c1
      rw[hqd] at e1
      cases e1
      exact xg
     .rw [xf c1]
      exact k3 c u c1 e1
    .have hl:(LnT (lens b)).length=(lens b).length:=List.length_map _
     rw[hl,List.take_length] at fv3
     rw[List.take_add_one,hb]
     show FndV _ _ (xek lens own rent asked none (crowd.take i++[b]))
     unfold xek
     rw[List.foldl_append]
     refine FndV.tp (H:=H3) fv3 fun c xs e=>?_
     rw[xf (xp e e3 (fun z=>nomatch z))]
     exact e
  .rintro σ H1 ⟨v3,v4,v5,v6,v7,rfl,s1,fv⟩
   rw[List.length_map,List.take_length] at fv
   exact⟨_,rfl,q H1 v3 s1 fv⟩
end
theorem xnd {own:Str->Int}{as:List Str}{b:Str}{g:Int} (nb:b∉as):shO own (as++[b]) g=fun n=>if n=b then shO own as g b+g else shO own as g n:=by
 funext n
 unfold shO
 by_cases c:n=b
 .subst c
  rw[if_pos (List.mem_append_right _ (List.mem_singleton.mpr rfl)),if_pos rfl,if_neg nb]
 .rw [if_neg c]
  by_cases d:n∈as
  .rw [if_pos (List.mem_append_left _ d),if_pos d]
  .rw [if_neg (fun z=>?_),if_neg d]
   rcases List.mem_append.mp z with z|z
   .exact d z
   .exact c (List.mem_singleton.mp z)
def shS (rent:Seat->Int) (as:List Seat) (g:Int):Seat->Int:=fun z=>if z∈as then rent z-g else rent z
theorem xna {rent:Seat->Int}{as:List Seat}{b:Seat}{g:Int} (nb:b∉as):shS rent (as++[b]) g=fun n=>if n=b then shS rent as g b-g else shS rent as g n:=by
 funext n
 unfold shS
 by_cases c:n=b
 .subst c
  rw[if_pos (List.mem_append_right _ (List.mem_singleton.mpr rfl)),if_pos rfl,if_neg nb]
 .rw [if_neg c]
  by_cases d:n∈as
  .rw [if_pos (List.mem_append_left _ d),if_pos d]
  .rw [if_neg (fun z=>?_),if_neg d]
   rcases List.mem_append.mp z with z|z
   .exact d z
   .exact c (List.mem_singleton.mp z)
theorem xpd {rent:Seat->Int}{al:List Seat}{asked:Seat->Option Str}{g:Int} (ask:∀ s,(asked s).isSome=true↔s∈al):shS rent al g=shR rent asked g:=by
 funext z
 unfold shS shR
 by_cases c:z∈al
 .rw [if_pos c,if_pos ((ask z).mpr c)]
 .rw [if_neg c,if_neg (fun y=>c ((ask z).mp y))]
theorem xry {own:Str->Int}{g:Int}:shO own [] g=own:=by
 funext z
 unfold shO
 rw[if_neg (fun y=>nomatch y)]
theorem xq4 {rent:Seat->Int}{g:Int}:shS rent [] g=rent:=by
 funext z
 unfold shS
 rw[if_neg (fun y=>nomatch y)]
section
variable {t:Adr}{H H':Hp}{pz a dl d_o d_r p d1 d2:Addr}{n:Nat}{names:List Str}{ss:List Seat}{lens:Str->List (Seat × Int)}{so:Str->Option Seat}{ho:Seat->Option Str}{own own':Str->Int}{rent rent':Seat->Int}
theorem Pz.move (z:Pz t H pz a dl d_o d_r p d1 d2 n names ss lens so ho own rent) (k:∀ c u,c≠d_o->c≠d_r->H c=some u->H' c=some u) (ow':OwD H' d_o names own') (rn':RnD H' d_r ss rent'):Pz t H' pz a dl d_o d_r p d1 d2 n names ss lens so ho own' rent':=by
 have o:=z.ow
 have r:=z.rn
 unfold OwD at o
 unfold RnD at r
 have tp:Tups H H':=fun c xs e=>k _ _ (xp e o (fun z=>nomatch z)) (xp e r (fun z=>nomatch z)) e
 obtain⟨dx,hpz⟩:=z.ins
 obtain⟨dx2,hp⟩:=z.sg.ins
 obtain⟨k1,hk1,f1⟩:=z.sg.so
 obtain⟨k2,hk2,f2⟩:=z.sg.ho
 obtain⟨kl,hkl,ll,fl⟩:=z.ln
 refine⟨⟨dx,k _ _ (xp hpz o (fun z=>nomatch z)) (xp hpz r (fun z=>nomatch z)) hpz⟩,⟨⟨dx2,k _ _ (xp hp o (fun z=>nomatch z)) (xp hp r (fun z=>nomatch z)) hp⟩,SoD.keep ⟨k1,hk1,f1⟩ tp (fun u e=>k _ _ (Ne.symm z.n2) (xp hk1 r (fun z=>nomatch z)) e),HoD.keep ⟨k2,hk2,f2⟩ (fun u e=>k _ _ (xp hk2 o (fun z=>nomatch z)) (Ne.symm z.n1) e)⟩,ow',rn',⟨kl,k _ _ (Ne.symm z.n3) (xp hkl r (fun z=>nomatch z)) hkl,ll,fun nm h=>?_⟩,z.n1,z.n2,z.n3,z.n4⟩
 obtain⟨q,e1,e2,e3⟩:=fl nm h
 exact⟨q,e1,k _ _ (xp e2 o (fun z=>nomatch z)) (fun y=>e3 (by rw[y]; exact List.mem_cons_self ..)) e2,e3⟩
end
def xd2 (H:Hp) (dl da:Addr) (names:List Str):Prop:=∀ nm∈names,∀ q,(∃ kvs,H dl=some (.dK kvs)/\valV kvs (.inr nm)=some (.ref q))->q≠da
def xjs (t:Adr):Sp:=fun vs H Q _=>∃(pz la da a dl d_o d_r p d1 d2:Addr) (n:Nat) (names crowd:List Str) (ss al:List Seat) (lens:Str->List (Seat × Int)) (so:Str->Option Seat) (ho asked:Seat->Option Str) (own:Str->Int) (rent:Seat->Int) (g:Int),vs=[.ref pz,.ref la,.ref da,.int g]/\Pz t H pz a dl d_o d_r p d1 d2 n names ss lens so ho own rent/\H la=some (.lst (crowd.map V.str))/\AkD H da al asked/\(∀ s,(asked s).isSome=true↔s∈al)/\(∀ b∈crowd,b∈names)/\crowd.Nodup/\al.Nodup/\(∀ s∈al,s∈ss)/\ss.length<=32/\names.length<=12/\da≠d_r /\
 ∀ H',(∀ c u,c≠d_o->c≠d_r->H c=some u->H' c=some u)->Pz t H' pz a dl d_o d_r p d1 d2 n names ss lens so ho (shO own crowd g) (shR rent asked g)->Q .non H'
theorem xm3 {t:Adr}{H:Hp}{Q E}{pz la da a dl d_o d_r p d1 d2:Addr}{n:Nat}{names crowd:List Str}{ss al:List Seat}{lens:Str->List (Seat × Int)}{so:Str->Option Seat}{ho asked:Seat->Option Str}{own:Str->Int}{rent:Seat->Int}{g:Int} (h:Pz t H pz a dl d_o d_r p d1 d2 n names ss lens so ho own rent/\H la=some (.lst (crowd.map V.str))/\AkD H da al asked/\(∀ s,(asked s).isSome=true↔s∈al)/\(∀ b∈crowd,b∈names)/\crowd.Nodup/\al.Nodup/\(∀ s∈al,s∈ss)/\ss.length<=32/\names.length<=12/\da≠d_r /\
 ∀ H',(∀ c u,c≠d_o->c≠d_r->H c=some u->H' c=some u)->Pz t H' pz a dl d_o d_r p d1 d2 n names ss lens so ho (shO own crowd g) (shR rent asked g)->Q .non H'):xjs t [.ref pz,.ref la,.ref da,.int g] H Q E:=⟨pz,la,da,a,dl,d_o,d_r,p,d1,d2,n,names,crowd,ss,al,lens,so,ho,asked,own,rent,g,rfl,h⟩
def xny (t:Adr):Sp:=fun vs H Q _=>∃(pz la da a dl d_o d_r p d1 d2:Addr) (n:Nat) (names crowd:List Str) (ss al:List Seat) (lens:Str->List (Seat × Int)) (so:Str->Option Seat) (ho asked:Seat->Option Str) (own:Str->Int) (rent:Seat->Int) (g:Int) (b:Str) (s:Seat),vs=[.ref pz,.ref la,.ref da]/\Pz t H pz a dl d_o d_r p d1 d2 n names ss lens so ho own rent/\H la=some (.lst (crowd.map V.str))/\AkD H da al asked/\(∀ s,(asked s).isSome=true↔s∈al)/\(∀ b∈crowd,b∈names)/\crowd.Nodup/\al.Nodup/\(∀ s∈al,s∈ss)/\ss.length<=32/\names.length<=12/\da≠d_r/\(∀ n s,s∈xai lens n->s∈ss)/\xd2 H dl da names/\da≠d2/\near lens own rent asked crowd=some (g,b,s)/\s∉al /\
 ∀ H' qs,(∀ c u,c≠d_o->c≠d_r->c≠da->H c=some u->H' c=some u)->H' qs=some (.tup (xax s))->Pz t H' pz a dl d_o d_r p d1 d2 n names ss lens so ho (shO own crowd g) (shR rent asked g)->AkD H' da (al++[s]) (Kp.upd1 asked s b)->Q (.ref qs) H'
theorem xl4 {t:Adr}{H:Hp}{Q E}{pz la da a dl d_o d_r p d1 d2:Addr}{n:Nat}{names crowd:List Str}{ss al:List Seat}{lens:Str->List (Seat × Int)}{so:Str->Option Seat}{ho asked:Seat->Option Str}{own:Str->Int}{rent:Seat->Int}{g:Int}{b:Str}{s:Seat} (hh:Pz t H pz a dl d_o d_r p d1 d2 n names ss lens so ho own rent/\H la=some (.lst (crowd.map V.str))/\AkD H da al asked/\(∀ s,(asked s).isSome=true↔s∈al)/\(∀ b∈crowd,b∈names)/\crowd.Nodup/\al.Nodup/\(∀ s∈al,s∈ss)/\ss.length<=32/\names.length<=12/\da≠d_r/\(∀ n s,s∈xai lens n->s∈ss)/\xd2 H dl da names/\da≠d2/\near lens own rent asked crowd=some (g,b,s)/\s∉al /\
 ∀ H' qs,(∀ c u,c≠d_o->c≠d_r->c≠da->H c=some u->H' c=some u)->H' qs=some (.tup (xax s))->Pz t H' pz a dl d_o d_r p d1 d2 n names ss lens so ho (shO own crowd g) (shR rent asked g)->AkD H' da (al++[s]) (Kp.upd1 asked s b)->Q (.ref qs) H'):xny t [.ref pz,.ref la,.ref da] H Q E:=⟨pz,la,da,a,dl,d_o,d_r,p,d1,d2,n,names,crowd,ss,al,lens,so,ho,asked,own,rent,g,b,s,rfl,hh⟩
theorem AkD.add {H:Hp}{d:Addr}{al:List Seat}{asked:Seat->Option Str} (h:AkD H d al asked) {s:Seat}{b:Str} (ns:s∉al):upd H d (.dT (putK (al.map fun s=>(xu s,V.str ((asked s).getD (Str.ofString "")))) (xu s) (.str b))) d=some (.dT ((al++[s]).map fun z=>(xu z,V.str ((Kp.upd1 asked s b z).getD (Str.ofString ""))))):=by
 rw[xg,xcf _ (xef xcw ns),List.map_append]
 congr 2
 have e1:(al.map fun s=>(xu s,V.str ((asked s).getD (Str.ofString ""))))=al.map fun z=>(xu z,V.str ((Kp.upd1 asked s b z).getD (Str.ofString ""))):=List.map_congr_left fun z hz=>by
  unfold Kp.upd1
  rw[if_neg (fun y:z=s=>ns (by rw[<- y]; exact hz))]
 rw[e1]
 congr 1
 show [(xu s,V.str b)]=[(xu s,V.str ((Kp.upd1 asked s b s).getD (Str.ofString "")))]
 unfold Kp.upd1
 rw[if_pos rfl]
 rfl
section
variable {P:Program}{w:World}{K:PySem.W.Frag}{mg:Str->Option Value}{base:Heap}{t:Adr}
theorem ok_c (T:Txt w K mg t):FnOk true P w K mg base (CXo P w) 1 t.f_c t.d_c ["self", "askers", "asked_by", "gap"] (xjs t):=by
 refine T.F_c.okn (k:=0) sc_c (fun vs H Q E h=>?_) (fun cdv A outer s H vs Q E hr h=>?_)
 .obtain ⟨pz,la,da,a,dl,d_o,d_r,p,d1,d2,n,names,crowd,ss,al,lens,so,ho,asked,own,rent,g,rfl,_⟩:=h
  rfl
 .obtain ⟨pz,la,da,a,dl,d_o,d_r,p,d1,d2,n,names,crowd,ss,al,lens,so,ho,asked,own,rent,g,rfl,h⟩:=h
  refine⟨_,xh (xbe PassesOwn.never rfl (xaj (pv 1)) (xn (i:=4) sc_c.nd rfl (Or.inl rfl)) (xl (xkc (xau hr) (xab (pv 0) rfl) (pv 4) (pv 3) xqo (by intros; rfl))))
   (xl (xj2 (xbe PassesOwn.never rfl (xnk (pv 2)) (xn (i:=5) sc_c.nd rfl (Or.inl rfl)) (xl (xkc (xau hr) (xab (pv 0) rfl) (pv 5) (pv 3) xpu (by intros; rfl)))))),?_⟩
  obtain⟨z,hla,hda,ask,cin,cnd,and_,ain,s32,n12,ndr,q⟩:=h
  have ow0:=z.ow
  have rn0:=z.rn
  have BIG:∀{n:Nat},n<=1000->n<sizeLine:=fun h=>Nat.lt_of_le_of_lt h (by decide)
  refine⟨_,rfl,la,rfl,⟨_,SqL.of hla⟩,?_⟩
  have nla:la≠d_o:=xp hla ow0 (fun z=>nomatch z)
  have nda:da≠d_o:=xp hda ow0 (fun z=>nomatch z)
  obtain⟨dx,hpz⟩:=z.ins
  have npo:pz≠d_o:=xp hpz ow0 (fun z=>nomatch z)
  have npr:pz≠d_r:=xp hpz rn0 (fun z=>nomatch z)
  have nro:d_r≠d_o:=xp rn0 ow0 (fun z=>nomatch z)
  refine xbg (xs:=crowd.map V.str) (Pv:=fun i σ H1=>∃(v4 v5:Option V),σ=[some (.ref pz),some (.ref la),some (.ref da),some (.int g),v4,v5]/\(∀ c u,c≠d_o->H c=some u->H1 c=some u)/\OwD H1 d_o names (shO own (crowd.take i) g)) ?_ ?_ ?_ ?_
  .exact ⟨_,_,rfl,fun c u _ e=>e,by rw[List.take_zero,xry]; exact ow0⟩
  .rintro i σ H1 _ ⟨_,_,rfl,k1,_⟩
   exact SqL.of (k1 _ _ nla hla)
  .rintro i x σ H1 hx ⟨v4,v5,rfl,k1,ow1⟩
   rw[List.getElem?_map,Option.map_eq_some_iff] at hx
   obtain⟨b,hb,rfl⟩:=hx
   have bin:=cin b (List.mem_of_getElem? hb)
   have nb:b∉crowd.take i:=fun zz=>by
    obtain⟨hi,e⟩:=List.getElem?_eq_some_iff.mp hb
    have:=xcq id (ps:=crowd) (by rw[List.map_id]; exact cnd) hi b zz
    exact this e.symm
   refine⟨_,rfl,pz,_,dx,_,_,rfl,k1 _ _ npo hpz,T.c_ai,T.n_a7,lkZo,_,rfl,d_o,_,rfl,ow1.get bin,_,rfl,_,_,rfl,rfl,_,DPut.k (k:=.inr b) ow1 (by rw[List.length_map]; exact BIG (by omega)),?_⟩
   refine⟨_,_,rfl,fun c u nc e=>by rw[xf nc]; exact k1 c u nc e,?_⟩
   rw[List.take_add_one,hb]
   show OwD _ d_o names (shO own (crowd.take i++[b]) g)
   rw[xnd nb]
   unfold OwD
   rw[xg,putM inrI bin]
   congr 3
   funext nn
   dsimp only
   by_cases c:nn=b
   .rw [if_pos c,if_pos c]
   .rw [if_neg c,if_neg c]
  .rintro σ H1 ⟨v4,v5,rfl,k1,ow1⟩
   rw[List.length_map,List.take_length] at ow1
   have hda1:H1 da=some (.dT (al.map fun s=>(xu s,V.str ((asked s).getD (Str.ofString ""))))):=k1 _ _ nda hda
   have rn1:RnD H1 d_r ss rent:=k1 _ _ nro rn0
   refine⟨_,rfl,da,_,rfl,hda1,fun ob nf=>?_⟩
   have npa:pz≠da:=xp hpz hda (fun z=>nomatch z)
   have noa:d_o≠da:=Ne.symm nda
   refine xk5 (Pv:=fun j σ H2=>∃(v5:Option V),σ=[some (.ref pz),some (.ref la),some (.ref da),some (.int g),v4,v5]/\(∀ c u,c≠d_o->c≠d_r->c≠da->H c=some u->H2 c=some u)/\H2 da=some (.frz ob (.dT (al.map fun s=>(xu s,V.str ((asked s).getD (Str.ofString ""))))))/\OwD H2 d_o names (shO own crowd g)/\RnD H2 d_r ss (shS rent (al.take j) g)) ?_ ?_ ?_ ?_
   .refine ⟨_,rfl,fun c u n1 n2 n3 e=>by rw[xf n3]; exact k1 c u n1 e,xg,?_,?_⟩
    .show upd H1 da _ d_o=_
     rw[xf noa]
     exact ow1
    .rw [List.take_zero,xq4]
     show upd H1 da _ d_r=_
     rw[xf (Ne.symm ndr)]
     exact rn1
   .rintro j σ H2 _ ⟨_,rfl,_,e2,_⟩
    exact e2
   .rintro j k x qk σ H2 hk hqk ⟨v5,rfl,k2,e2,ow2,rn2⟩
    rw[List.getElem?_map,Option.map_eq_some_iff] at hk
    obtain⟨s,hs,hsk⟩:=hk
    cases hsk
    have hqk:H2 qk=some (.tup (xax s)):=hqk
    have sin:=ain s (List.mem_of_getElem? hs)
    have nb:s∉al.take j:=fun zz=>by
     obtain⟨hi,e⟩:=List.getElem?_eq_some_iff.mp hs
     have:=xcq id (ps:=al) (by rw[List.map_id]; exact and_) hi s zz
     exact this e.symm
    refine⟨_,rfl,pz,_,dx,_,_,rfl,k2 _ _ npo npr npa hpz,T.c_ai,T.n_a8,lkZr,_,rfl,d_r,_,rfl,rn2.get sin hqk,_,rfl,_,_,rfl,rfl,_,DPut.t (k:=xu s) rn2 hqk (by rw[List.length_map]; exact BIG (by omega)),?_⟩
    refine⟨_,rfl,fun c u n1 n2 n3 e=>by rw[xf n2]; exact k2 c u n1 n2 n3 e,by rw[xf ndr]; exact e2,?_,?_⟩
    .show upd H2 d_r _ d_o=_
     rw[xf (Ne.symm nro)]
     exact ow2
    .rw [List.take_add_one,hs]
     show RnD _ d_r ss (shS rent (al.take j++[s]) g)
     rw[xna nb]
     unfold RnD
     rw[xg,putM xcw sin]
     congr 3
     funext nn
     dsimp only
     by_cases c:nn=s
     .rw [if_pos c,if_pos c]
     .rw [if_neg c,if_neg c]
   .rintro σ H2 ⟨v5,rfl,k2,e2,ow2,rn2⟩
    rw[List.length_map,List.take_length,xpd ask] at rn2
    refine⟨da,ob,_,e2,nf,?_⟩
    have fr:∀ c u,c≠d_o->c≠d_r->H c=some u->upd H2 da (.dT (al.map fun s=>(xu s,V.str ((asked s).getD (Str.ofString ""))))) c=some u:=fun c u n1 n2 e=>by
     by_cases c1:c=da
     .subst c1
      rw[hda] at e
      cases e
      exact xg
     .rw [xf c1]
      exact k2 c u n1 n2 c1 e
    refine q _ fr (z.move fr ?_ ?_)
    .show upd H2 da _ d_o=_
     rw[xf noa]
     exact ow2
    .show upd H2 da _ d_r=_
     rw[xf (Ne.symm ndr)]
     exact rn2
theorem ok_x (T:Txt w K mg t):FnOk true P w K mg base (CXo P w) 2 t.f_x t.d_x ["self", "askers", "asked_by"] (xny t):=by
 refine T.F_x.okn (k:=1) sc_x (fun vs H Q E h=>?_) (fun cdv A outer s H vs Q E hr h=>?_)
 .obtain ⟨pz,la,da,a,dl,d_o,d_r,p,d1,d2,n,names,crowd,ss,al,lens,so,ho,asked,own,rent,g,b,s0,rfl,_⟩:=h
  rfl
 .obtain ⟨pz,la,da,a,dl,d_o,d_r,p,d1,d2,n,names,crowd,ss,al,lens,so,ho,asked,own,rent,g,b,s0,rfl,h⟩:=h
  refine⟨_,xh (xed (xak (pv 0) T.c_ai T.m_q (ok_q T) (hr.mono (by decide)) T.b_q .nil xk (xa (pv 1) (xa (pv 2) (xj)))) (xa8 rfl (xt (xn (i:=3) sc_x.nd rfl (Or.inl rfl)) (xt (xn (i:=4) sc_x.nd rfl (Or.inl rfl)) (xt (xn (i:=5) sc_x.nd rfl (Or.inl rfl)) (xa2))))))
   (xh (xav (xak (pv 0) T.c_ai T.m_c (ok_c T) (hr.mono (by decide)) T.b_c .nil xk (xa (pv 1) (xa (pv 2) (xa (pv 3) (xj))))))
   (xh (xca (xau hr) (pv 2) (pv 5) (pv 4) rfl)
   (xl (xaf (pv 5))))),?_⟩
  obtain⟨z,hla,hda,ask,cin,cnd,and_,ain,s32,n12,ndr,rin,nln,nd2,nr,nal,q⟩:=h
  obtain⟨dx,hpz⟩:=z.ins
  refine⟨_,rfl,pz,dx,_,rfl,hpz,xe2 (by decide +kernel),_,rfl,_,rfl,?_⟩
  refine xbi ?_
  refine xkx ⟨z,hla,hda,ask,cin,rin,nln,fun H1 v s1 fv=>?_⟩
  rw[nr] at fv
  rcases fv with⟨e,_⟩|⟨g',b',s',q1,qs,e,rfl,hq1,hqs⟩
  .cases e
  cases e
  refine⟨q1,_,rfl,SqT.of hq1,rfl,_,_,rfl,_,_,rfl,_,_,rfl,rfl,?_⟩
  refine⟨_,rfl,pz,dx,_,rfl,s1 _ _ hpz,xe2 (by decide +kernel),_,rfl,_,rfl,_,rfl,?_⟩
  refine xbi ?_
  refine xm3 ⟨z.same s1,s1 _ _ hla,s1 _ _ hda,ask,cin,cnd,and_,ain,s32,n12,ndr,fun H2 k2 z2=>?_⟩
  have ow1:=s1 _ _ z.ow
  have rn1:=s1 _ _ z.rn
  have hda1:H1 da=some (.dT (al.map fun s=>(xu s,V.str ((asked s).getD (Str.ofString ""))))):=s1 _ _ hda
  have hda2:AkD H2 da al asked:=k2 _ _ (xp hda1 ow1 (fun z=>nomatch z)) ndr hda1
  have hqs2:=k2 _ _ (xp hqs ow1 (fun z=>nomatch z)) (xp hqs rn1 (fun z=>nomatch z)) hqs
  have al32:al.length<=32:=Nat.le_trans (xhy and_ ain) s32
  refine⟨_,rfl,_,rfl,_,rfl,da,_,rfl,DPut.t (k:=xu s0) hda2 hqs2 (by rw[List.length_map]; exact Nat.lt_of_le_of_lt (by omega:_<=1000) (by decide)),_,rfl,?_⟩
  have hda2':H2 da=some (.dT (al.map fun s=>(xu s,V.str ((asked s).getD (Str.ofString ""))))):=hda2
  have fr:∀ c u,c≠d_o->c≠d_r->c≠da->H c=some u->upd H2 da (.dT (putK (al.map fun s=>(xu s,V.str ((asked s).getD (Str.ofString "")))) (xu s0) (.str b))) c=some u:=fun c u n1 n2 n3 e=>by
   rw[xf n3]
   exact k2 c u n1 n2 (s1 _ _ e)
  refine q _ qs fr (by rw[xf (xp hqs2 hda2' (fun z=>nomatch z))]; exact hqs2) ?_ (hda2.add nal)
  -- the dict of those who asked is none of the prices'
  have fr2:∀ c u,c≠da->H2 c=some u->upd H2 da (.dT (putK (al.map fun s=>(xu s,V.str ((asked s).getD (Str.ofString "")))) (xu s0) (.str b))) c=some u:=fun c u n3 e=>by
   rw[xf n3]
   exact e
  obtain⟨dx2,hpz2⟩:=z2.ins
  obtain⟨dx3,hp2⟩:=z2.sg.ins
  obtain⟨m1,hm1,f1⟩:=z2.sg.so
  obtain⟨m2,hm2,f2⟩:=z2.sg.ho
  obtain⟨ml,hml,ll,fl⟩:=z2.ln
  have ow2:=z2.ow
  have rn2:=z2.rn
  have tp:Tups H2 (upd H2 da (.dT (putK (al.map fun s=>(xu s,V.str ((asked s).getD (Str.ofString "")))) (xu s0) (.str b)))):=fun c xs e=>fr2 _ _ (xp e hda2' (fun z=>nomatch z)) e
  refine⟨⟨dx2,fr2 _ _ (xp hpz2 hda2' (fun z=>nomatch z)) hpz2⟩,⟨⟨dx3,fr2 _ _ (xp hp2 hda2' (fun z=>nomatch z)) hp2⟩,SoD.keep ⟨m1,hm1,f1⟩ tp (fun u e=>fr2 _ _ (xp hm1 hda2' (fun z=>nomatch z)) e),HoD.keep ⟨m2,hm2,f2⟩ (fun u e=>fr2 _ _ (Ne.symm nd2) e)⟩,fr2 _ _ (xp ow2 hda2' (fun z=>nomatch z)) ow2,fr2 _ _ (Ne.symm ndr) rn2,⟨ml,fr2 _ _ (xp hml hda2' (fun z=>nomatch z)) hml,ll,fun nm h=>?_⟩,z2.n1,z2.n2,z2.n3,z2.n4⟩
  obtain⟨qq,e1,e2,e3⟩:=fl nm h
  refine⟨qq,e1,fr2 _ _ ?_ e2,e3⟩
  obtain⟨k0,hk0,_⟩:=z.ln
  have hk2:=k2 _ _ (Ne.symm z.n3) (xp hk0 z.rn (fun z=>nomatch z)) (s1 _ _ hk0)
  rw[hml] at hk2
  cases hk2
  exact nln nm h qq ⟨ml,hk0,e1⟩
end
def xq (w:Nat) (ps:List Pt) (srt:List Seat) (nm:Str):List (Seat × Int):=match ps.find? (fun p=>decide (p.nm=nm)) with
 | some p=>(srt.filter (xao p)).map fun s=>(s,lenI (w:Int) p.x p.y s.1 s.2)
 | none=>[]
theorem xc4 {w:Nat}{ps:List Pt}{srt:List Seat}:xai (xq w ps srt)=xa6 ps srt:=by
 funext nm
 unfold xai xq xa6
 cases ps.find? (fun p=>decide (p.nm=nm)) with
 | none=>rfl
 | some p =>
  show List.map _ (List.map _ _)=_
  rw[List.map_map]
  exact List.map_id _
theorem xgs {w h:Nat}{ps:List Pt}{ss srt:List Seat} (w30:w<=30) (h16:h<=16) (pok:xbb (w:Int) (h:Int) ps) (sok:SsOk (h:Int) ss) (pm:srt.Perm ss):xce (xq w ps srt) srt:=by
 have nd:srt.Nodup:=pm.nodup_iff.mpr sok.1
 refine⟨fun n=>?_,fun n x hx=>?_,fun n s hs=>?_,nd⟩
 .rw [xc4]
  unfold xa6
  split
  .exact List.Pairwise.filter _ nd
  .exact List.nodup_nil
 .unfold xq at hx
  split at hx
  .rename_i p hf
   obtain⟨s,hs,rfl⟩:=List.mem_map.mp hx
   have pin:=pok.ok p (List.mem_of_find?_eq_some hf)
   have sin:=sok.2.2 s (pm.mem_iff.mp (List.mem_filter.mp hs).1)
   have:=pin.x1
   have:=pin.x2
   have:=pin.y1
   have:=pin.y2
   have:=sin.1
   have:=sin.2
   show 0<=lenI (w:Int) p.x p.y s.1 s.2/\lenI (w:Int) p.x p.y s.1 s.2<=46
   unfold lenI
   split<;>split<;>omega
  .exact nomatch hx
 .rw [xc4] at hs
  unfold xa6 at hs
  split at hs
  .exact (List.mem_filter.mp hs).1
  .exact nomatch hs
theorem xgo {d:Addr}:∀(L:List (Addr × Seat × Int)) {H:Hp}{kvs:List (List Key × V)},H d=some (.dT kvs)->(∀ x∈L,H x.1=some (.tup (xax x.2.1)))->(L.map (·.2.1)).Nodup->(∀ x∈L,valV kvs (xu x.2.1)=none)->kvs.length+L.length<=1000 ->
    ∃ H2,xep d H (L.map fun x=>(V.ref x.1,V.int x.2.2)) H2/\H2 d=some (.dT (kvs++LnT (L.map (·.2))))/\∀ b u,b≠d->H b=some u->H2 b=some u
  | [],H,kvs,e,_,_,_,_=>⟨H,.nil,by rw[e]; simp[LnT],fun _ _ _ e=>e⟩
  | x::L,H,kvs,e,f,nd,nv,hn=>by
    rw[List.length_cons] at hn
    rw[List.map_cons,List.nodup_cons] at nd
    have hx:=f x (List.mem_cons_self ..)
    have up:∀ b u,b≠d->H b=some u->upd H d (.dT (kvs++[(xu x.2.1,.int x.2.2)])) b=some u:=fun b u nb eb=>by
      rw[xf nb]
      exact eb
    have put:DPut H d (.ref x.1) (.int x.2.2) (upd H d (.dT (kvs++[(xu x.2.1,.int x.2.2)]))):=by
      have z:=DPut.t (k:=xu x.2.1) (v:=.int x.2.2) e hx (Nat.lt_of_le_of_lt (by omega:_<=1000) (by decide))
      rw[xcf _ (nv x (List.mem_cons_self ..))] at z
      exact z
    obtain⟨H2,dps,e2,k2⟩:=xgo L (H:=upd H d (.dT (kvs++[(xu x.2.1,.int x.2.2)]))) xg (fun y hy=>up _ _ (xp (f y (List.mem_cons_of_mem _ hy)) e (fun z=>nomatch z)) (f y (List.mem_cons_of_mem _ hy))) nd.2 (fun y hy=>by
      have nk:¬ xu y.2.1=xu x.2.1:=fun z=>nd.1 (by rw[<- xcw _ _ z]; exact List.mem_map.mpr ⟨y,hy,rfl⟩)
      have z:=xcb kvs (xu x.2.1) (xu y.2.1) (.int x.2.2)
      rw[xcf _ (nv x (List.mem_cons_self ..)),if_neg nk,nv y (List.mem_cons_of_mem _ hy)] at z
      exact z) (by rw[List.length_append,List.length_singleton]; omega)
    refine⟨H2,.cons put dps,?_,fun b u nb eb=>k2 _ _ nb (up _ _ nb eb)⟩
    rw[e2,List.append_assoc]
    rfl
theorem xfw {H:Hp}:∀{tgt:List (Seat × Int)}{ys:List V},ys.length=tgt.length->(∀(i:Nat) (y:V),ys[i]?=some y->∃ q qs s l,y=.ref q/\H q=some (.tup [.ref qs,.int l])/\H qs=some (.tup (xax s))/\tgt[i]?=some (s,l)) ->
    ∃(ps:List (Addr × V × V)) (L:List (Addr × Seat × Int)),ys=ps.map (fun p=>.ref p.1)/\(∀ p∈ps,H p.1=some (.tup [p.2.1,p.2.2]))/\ps.map (·.2)=L.map (fun x=>(V.ref x.1,V.int x.2.2))/\L.map (·.2)=tgt/\∀ x∈L,H x.1=some (.tup (xax x.2.1))
  | [],[],_,_=>⟨[],[],rfl,fun _ h=>(nomatch h),rfl,rfl,fun _ h=>(nomatch h)⟩
  | [],_::_,h,_=>by cases h
  | _::_,[],h,_=>by cases h
  | x::tgt,y::ys,h,f=>by
    obtain⟨q,qs,s,l,rfl,h1,h2,h3⟩:=f 0 y rfl
    obtain⟨ps,L,e1,e2,e3,e4,e5⟩:=xfw (tgt:=tgt) (ys:=ys) (by simpa using h) (fun i y hy=>by
      obtain⟨q,qs,s,l,a1,a2,a3,a4⟩:=f (i+1) y (by simpa using hy)
      exact⟨q,qs,s,l,a1,a2,a3,by simpa using a4⟩)
    have h3:x=(s,l):=by simpa using h3
    refine⟨(q,.ref qs,.int l)::ps,(qs,s,l)::L,by rw[e1]; rfl,fun p hp=>?_,by rw[List.map_cons,List.map_cons,e3],by rw[List.map_cons,e4,h3],fun z hz=>?_⟩
    . rcases List.mem_cons.mp hp with rfl|hp
      . exact h1
      . exact e2 p hp
    . rcases List.mem_cons.mp hz with rfl|hz
      . exact h2
      . exact e5 z hz
def xm5 (t:Adr):Sp:=fun vs H Q _=>∃(pz dx a dp do_:Addr) (w h:Nat) (ps:List Pt) (st srt:List Seat) (lens:Str->List (Seat × Int)),vs=[.ref pz,.ref a]/\H pz=some (.ins t.C_ai dx [])/\Dr t H a dp do_ w h ps st srt /\
 ∀ H' dl d_o d_r p d1 d2,H dl=none->H d_o=none->H d_r=none->H p=none->H d1=none->H d2=none->(∀ b u,b≠pz->H b=some u->H' b=some u)->Pz t H' pz a dl d_o d_r p d1 d2 0 [] srt lens (fun _=>none) (fun _=>none) (fun _=>0) (fun _=>0)->Q .non H'
section
variable {P:Program}{w:World}{K:PySem.W.Frag}{mg:Str->Option Value}{base:Heap}{t:Adr}
theorem ok_ah (T:Txt w K mg t):FnOk true P w K mg base (CXo P w) 4 t.f_ah t.d_ah ["self", "picture"] (xm5 t):=by
 refine T.F_ah.okn (k:=3) sc_ah (fun vs H Q E h=>?_) (fun cdv A outer s H vs Q E hr h=>?_)
 .obtain ⟨pz,dx,a,dp,do_,w',h',ps,st,srt,lens,rfl,_⟩:=h
  rfl
 .obtain ⟨pz,dx,a,dp,do_,w',h',ps,st,srt,lens,rfl,h⟩:=h
  refine⟨_,xh (xb8 (pv 0) (pv 1) rfl)
   (xh (xb8 (pv 0) (xdw) rfl)
   (xh (xb8 (pv 0) (xdw) rfl)
   (xh (xb8 (pv 0) (xbv (xd5 rfl (xiy hr)) rfl T.n_dict boot_dict (xa (xbn rfl (xa5 (zs:=["seat"]) (ys:=[]) (fr:=[]) (N0:=["self", "picture"]) (sc0:=xi s_ah) (by decide +kernel) rfl rfl rfl) (xaj (xa3 (pv 1) T.c_i T.m_m (ok_m T) (hr.mono (by decide)) T.b_m .nil xk)) (fun _ _ _ _ _ ow nd=>xn (i:=0) nd rfl (Or.inl (ow _ (by simp))) (Or.inr (ow _ (by simp)))) (xbw (by decide)) (fun _ _ _ _ _=>xbh) (fun _ _ _ _ _=>xaz (xa (pv 0) (xa (xm) (xj))))) (xj))) rfl)
   (xl (xb8 (pv 0) (xiz T.k_ao (ok_ad T) (hr.mono (by decide)) rfl T.g_ao T.b_ad .nil xk) rfl))))),?_⟩
  obtain⟨hpz,dr,q⟩:=h
  refine⟨_,rfl,_,rfl,pz,_,dx,_,rfl,hpz,T.c_ai,T.n_a5,(by show 0<1000; decide),?_⟩
  have k1:∀ b u,b≠pz->H b=some u->upd H pz (.ins t.C_ai dx (putF (Str.ofString "picture") (.ref a) [])) b=some u:=fun b u nb e=>by rw[xf nb]; exact e
  have hz1:upd H pz (.ins t.C_ai dx (putF (Str.ofString "picture") (.ref a) [])) pz=some (.ins t.C_ai dx [("picture",.ref a)]):=xg
  have f1:∀ b,upd H pz (.ins t.C_ai dx (putF (Str.ofString "picture") (.ref a) [])) b=none->H b=none:=fun b e=>by
   by_cases c:b=pz
   .rw [c,xg] at e; cases e
   .rw [xf c] at e; exact e
  revert k1 hz1 f1
  show _->_->_->_
  generalize upd H pz (.ins t.C_ai dx (putF (Str.ofString "picture") (.ref a) []))=H1
  intro k1 hz1 f1
  refine fun dl hdl=>?_
  have s2:Same H1 (upd H1 dl (.dK [])):=xo (Same.refl _) hdl
  refine⟨_,rfl,pz,_,dx,_,rfl,s2 _ _ hz1,T.c_ai,T.n_a4,(by show 1<1000; decide),?_⟩
  have npl:pz≠dl:=xb hz1 hdl
  have k3:∀ b u,b≠pz->H1 b=some u->upd (upd H1 dl (.dK [])) pz (.ins t.C_ai dx (putF (Str.ofString "lengths") (.ref dl) [("picture",.ref a)])) b=some u:=fun b u nb e=>by rw[xf nb]; exact s2 _ _ e
  have hz3:upd (upd H1 dl (.dK [])) pz (.ins t.C_ai dx (putF (Str.ofString "lengths") (.ref dl) [("picture",.ref a)])) pz=some (.ins t.C_ai dx [("picture",.ref a),("lengths",.ref dl)]):=xg
  have gl3:upd (upd H1 dl (.dK [])) pz (.ins t.C_ai dx (putF (Str.ofString "lengths") (.ref dl) [("picture",.ref a)])) dl=some (.dK []):=by rw[xf (Ne.symm npl)]; exact xg
  have f3:∀ b,upd (upd H1 dl (.dK [])) pz (.ins t.C_ai dx (putF (Str.ofString "lengths") (.ref dl) [("picture",.ref a)])) b=none->H1 b=none:=fun b e=>by
   by_cases c:b=pz
   .rw [c,xg] at e; cases e
   .rw [xf c] at e; exact s2.free e
  revert k3 hz3 gl3 f3
  show _->_->_->_->_
  generalize upd (upd H1 dl (.dK [])) pz (.ins t.C_ai dx (putF (Str.ofString "lengths") (.ref dl) [("picture",.ref a)]))=H3
  intro k3 hz3 gl3 f3
  refine fun d_o hdo=>?_
  have s4:Same H3 (upd H3 d_o (.dK [])):=xo (Same.refl _) hdo
  refine⟨_,rfl,pz,_,dx,_,rfl,s4 _ _ hz3,T.c_ai,T.n_a7,(by show 2<1000; decide),?_⟩
  have npo:pz≠d_o:=xb hz3 hdo
  have nol:d_o≠dl:=Ne.symm (xb gl3 hdo)
  have k5:∀ b u,b≠pz->H3 b=some u->upd (upd H3 d_o (.dK [])) pz (.ins t.C_ai dx (putF (Str.ofString "own") (.ref d_o) [("picture",.ref a),("lengths",.ref dl)])) b=some u:=fun b u nb e=>by rw[xf nb]; exact s4 _ _ e
  have hz5:upd (upd H3 d_o (.dK [])) pz (.ins t.C_ai dx (putF (Str.ofString "own") (.ref d_o) [("picture",.ref a),("lengths",.ref dl)])) pz=some (.ins t.C_ai dx [("picture",.ref a),("lengths",.ref dl),("own",.ref d_o)]):=xg
  have go5:upd (upd H3 d_o (.dK [])) pz (.ins t.C_ai dx (putF (Str.ofString "own") (.ref d_o) [("picture",.ref a),("lengths",.ref dl)])) d_o=some (.dK []):=by rw[xf (Ne.symm npo)]; exact xg
  have f5:∀ b,upd (upd H3 d_o (.dK [])) pz (.ins t.C_ai dx (putF (Str.ofString "own") (.ref d_o) [("picture",.ref a),("lengths",.ref dl)])) b=none->H3 b=none:=fun b e=>by
   by_cases c:b=pz
   .rw [c,xg] at e; cases e
   .rw [xf c] at e; exact s4.free e
  revert k5 hz5 go5 f5
  show _->_->_->_->_
  generalize upd (upd H3 d_o (.dK [])) pz (.ins t.C_ai dx (putF (Str.ofString "own") (.ref d_o) [("picture",.ref a),("lengths",.ref dl)]))=H5
  intro k5 hz5 go5 f5
  have gl5:=k5 _ _ (Ne.symm npl) gl3
  have k05:∀ b u,b≠pz->H b=some u->H5 b=some u:=fun b u nb e=>k5 _ _ nb (k3 _ _ nb (k1 _ _ nb e))
  obtain⟨⟨dxa,hpic⟩,⟨kp,hkp,plp⟩,w1,w2,h1,h2,le⟩:=id dr.pic
  obtain⟨ko,hko,kr⟩:=id dr.sts
  have nap:a≠pz:=fun z=>by
   rw[z,hpz] at hpic
   have z2:=(HO.ins.inj (Option.some.inj hpic)).2.2
   exact nomatch z2
  have kt:Tups H H5:=fun b xs e=>k05 _ _ (xp e hpz (fun z=>nomatch z)) e
  have pic5:Pic t H5 a dp do_ (w':Int) (h':Int) ps:=⟨⟨dxa,k05 _ _ nap hpic⟩,⟨kp,k05 _ _ (xp hkp hpz (fun z=>nomatch z)) hkp,plp.keep kt⟩,w1,w2,h1,h2,le⟩
  have sts5:Sts H5 do_ st:=⟨ko,k05 _ _ (xp hko hpz (fun z=>nomatch z)) hko,kr⟩
  refine⟨_,rfl,a,dxa,_,rfl,k05 _ _ nap hpic,xal (by decide +kernel),a,dp,do_,w',h',ps,st,rfl,pic5,sts5,fun l6 ss6 us hl6 sl6 pm lt=>?_⟩
  obtain rfl:ss6=srt:=xb9 xdf (pm.trans dr.pm.symm) lt dr.lt
  have s6:Same H5 (upd H5 l6 (.lst (us.map V.ref))):=xo (Same.refl _) hl6
  have g6:upd H5 l6 (.lst (us.map V.ref)) l6=some (.lst (us.map V.ref)):=xg
  revert s6 g6
  generalize upd H5 l6 (.lst (us.map V.ref))=H6
  intro s6 g6
  have sl6':=sl6.keep (Same.tups s6)
  have usl:=sl6.len
  have s32:ss6.length<=32:=by rw[dr.pm.length_eq]; exact dr.ok.2.1
  have snd:ss6.Nodup:=dr.pm.nodup_iff.mpr dr.ok.1
  refine⟨l6,rfl,⟨_,SqL.of g6⟩,fun l7 hl7=>?_⟩
  refine xcg (SqL.of g6) (by rw[List.length_map]; exact Nat.lt_of_le_of_lt (by omega:_<=1000) (by decide)) hl7 (fun i y H=>∃ q qs s l,y=.ref q/\H q=some (.tup [.ref qs,.int l])/\H qs=some (.tup (xax s))/\(ss6.map fun s=>(s,(0:Int)))[i]?=some (s,l)) (fun _ _ _ _ tp ⟨q,qs,s,l,z1,z2,z3,z4⟩=>⟨q,qs,s,l,z1,tp _ _ z2,tp _ _ z3,z4⟩) (fun i x H7 hx s7 N hN=>?_) (fun ys H7 s7 e7 ly fy=>?_)
  .rw [List.getElem?_map,Option.map_eq_some_iff] at hx
   obtain⟨qa,hqa,rfl⟩:=hx
   obtain⟨s,hs,hsq⟩:=sl6'.get hqa
   refine⟨_,rfl,(by show 2<=sizeLine; decide),fun q5 hq5=>?_⟩
   have s8:Same H7 (upd H7 q5 (.tup [.ref qa,.int 0])):=xo (Same.refl _) hq5
   exact hN _ _ s8 ⟨q5,qa,s,0,rfl,xg,s8 _ _ (s7 _ _ hsq),by rw[List.getElem?_map,hs]; rfl⟩
  rw[List.length_map,usl] at ly
  obtain⟨prs,L,rfl,hprs,ep,eL,hL⟩:=xfw (tgt:=ss6.map fun s=>(s,(0:Int))) (by rw[ly,List.length_map]) fy
  refine⟨l7,prs,rfl,e7,hprs,fun d_r hdr=>?_⟩
  have L1:(L.map (·.2.1))=ss6:=by
   have:L.map (·.2.1)=(L.map (·.2)).map (·.1):=by rw[List.map_map]; rfl
   rw[this,eL,List.map_map]
   exact List.map_id _
  have ll:L.length=ss6.length:=by
   have:=congrArg List.length L1
   rw[List.length_map] at this
   exact this
  have s8:Same H7 (upd H7 d_r (.dT [])):=xo (Same.refl _) hdr
  obtain⟨H8,dps,e8,k8⟩:=xgo (d:=d_r) L (H:=upd H7 d_r (.dT [])) (kvs:=[]) xg (fun x hx=>s8 _ _ (hL x hx)) (by rw[L1]; exact snd) (fun _ _=>rfl) (by simp; omega)
  refine⟨.dT [],H8,.inr rfl,by rw[ep]; exact dps,?_⟩
  rw[eL] at e8
  have rn8:H8 d_r=some (.dT (ss6.map fun s=>(xu s,V.int 0))):=by
   rw[e8]
   unfold LnT
   rw[List.map_map]
   rfl
  have s78:Same H7 H8:=fun b u e=>k8 _ _ (xb e hdr) (s8 _ _ e)
  have s58:Same H5 H8:=(s6.trans s7).trans s78
  have fdr5:H5 d_r=none:=(s6.trans s7).free hdr
  refine⟨_,rfl,pz,_,dx,_,rfl,s58 _ _ hz5,T.c_ai,T.n_a8,(by show 3<1000; decide),?_⟩
  have k9:∀ b u,b≠pz->H8 b=some u->upd H8 pz (.ins t.C_ai dx (putF (Str.ofString "rent") (.ref d_r) [("picture",.ref a),("lengths",.ref dl),("own",.ref d_o)])) b=some u:=fun b u nb e=>by rw[xf nb]; exact e
  have hz9:upd H8 pz (.ins t.C_ai dx (putF (Str.ofString "rent") (.ref d_r) [("picture",.ref a),("lengths",.ref dl),("own",.ref d_o)])) pz=some (.ins t.C_ai dx [("picture",.ref a),("lengths",.ref dl),("own",.ref d_o),("rent",.ref d_r)]):=xg
  have f9:∀ b,upd H8 pz (.ins t.C_ai dx (putF (Str.ofString "rent") (.ref d_r) [("picture",.ref a),("lengths",.ref dl),("own",.ref d_o)])) b=none->H8 b=none:=fun b e=>by
   by_cases c:b=pz
   .rw [c,xg] at e; cases e
   .rw [xf c] at e; exact e
  revert k9 hz9 f9
  show _->_->_->_
  generalize upd H8 pz (.ins t.C_ai dx (putF (Str.ofString "rent") (.ref d_r) [("picture",.ref a),("lengths",.ref dl),("own",.ref d_o)]))=H9
  intro k9 hz9 f9
  have npr:pz≠d_r:=xb hz5 fdr5
  have gl9:=k9 _ _ (Ne.symm npl) (s58 _ _ gl5)
  have go9:=k9 _ _ (Ne.symm npo) (s58 _ _ go5)
  have gr9:=k9 _ _ (Ne.symm npr) rn8
  refine fun p dx2 hp hdx ne=>?_
  refine⟨p,dx2,rfl,xg,fun H10 d1 d2 hd1 hd2 k10 sg10=>⟨rfl,?_⟩⟩
  have up:∀ b,upd (upd H9 dx2 (.own p)) p (.ins t.C_ao dx2 []) b=none->H9 b=none:=fun b z=>by
   cases e:H9 b with
   | none=>rfl
   | some u=>rw[xf (xb e hp),xf (xb e hdx),e] at z; cases z
  have s910:Same H9 H10:=fun b u e=>k10 _ _ (xb e hp) (by rw[xf (xb e hp),xf (xb e hdx)]; exact e)
  have h91:=up _ hd1
  have h92:=up _ hd2
  refine⟨_,rfl,pz,_,dx,_,rfl,s910 _ _ hz9,T.c_ai,T.n_a3,(by show 4<1000; decide),?_⟩
  have kF:∀ b u,b≠pz->H10 b=some u->upd H10 pz (.ins t.C_ai dx (putF (Str.ofString "seating") (.ref p) [("picture",.ref a),("lengths",.ref dl),("own",.ref d_o),("rent",.ref d_r)])) b=some u:=fun b u nb e=>by rw[xf nb]; exact e
  have fr:∀ b,H9 b=none->H b=none:=fun b e=>by
   cases z:H b with
   | none=>rfl
   | some u =>
    by_cases c:b=pz
    .rw [c,hz9] at e; cases e
    .rw [k9 _ _ c (s58 _ _ (k05 _ _ c z))] at e; cases e
  have fr5:∀ b,H5 b=none->H b=none:=fun b e=>by
   cases z:H b with
   | none=>rfl
   | some u =>
    by_cases c:b=pz
    .rw [c,hz5] at e; cases e
    .rw [k05 _ _ c z] at e; cases e
  obtain⟨dx3,hp10⟩:=sg10.ins
  obtain⟨m1,hm1,g1⟩:=sg10.so
  obtain⟨m2,hm2,g2⟩:=sg10.ho
  have gz10:=s910 _ _ hz9
  have tpF:Tups H10 (upd H10 pz (.ins t.C_ai dx (putF (Str.ofString "seating") (.ref p) [("picture",.ref a),("lengths",.ref dl),("own",.ref d_o),("rent",.ref d_r)]))):=fun b xs e=>kF _ _ (xp e gz10 (fun z=>nomatch z)) e
  have npp:p≠pz:=Ne.symm (xb hz9 hp)
  refine q _ dl d_o d_r p d1 d2 (f1 _ hdl) (f1 _ (f3 _ hdo)) (fr5 _ fdr5) (fr _ hp) (fr _ h91) (fr _ h92) (fun b u nb e=>kF _ _ nb (s910 _ _ (k9 _ _ nb (s58 _ _ (k05 _ _ nb e))))) ?_
  exact⟨⟨dx,xg⟩,⟨⟨dx3,kF _ _ npp hp10⟩,SoD.keep ⟨m1,hm1,g1⟩ tpF (fun u e=>kF _ _ (xp hm1 gz10 (fun z=>nomatch z)) e),HoD.keep ⟨m2,hm2,g2⟩ (fun u e=>kF _ _ (xp hm2 gz10 (fun z=>nomatch z)) e)⟩,kF _ _ (Ne.symm npo) (s910 _ _ go9),kF _ _ (Ne.symm npr) (s910 _ _ gr9),⟨[],kF _ _ (Ne.symm npl) (s910 _ _ gl9),Nat.le_refl _,fun _ h=>(nomatch h)⟩,(fun z=>by rw[z,h92] at gr9; cases gr9),(fun z=>by rw[z,h91] at go9; cases go9),nol,(fun z=>by rw[z,h91] at gl9; cases gl9)⟩
end
section
variable {t:Adr}{H H':Hp}{pz a dl d_o d_r p d1 d2:Addr}{n:Nat}{names:List Str}{ss:List Seat}{lens:Str->List (Seat × Int)}{so so':Str->Option Seat}{ho ho':Seat->Option Str}{own own':Str->Int}{rent rent':Seat->Int}
theorem Pz.keep1 (z:Pz t H pz a dl d_o d_r p d1 d2 n names ss lens so ho own rent) {x:Addr} (k:∀ c u,c≠x->H c=some u->H' c=some u) (tp:Tups H H') (e0:pz≠x) (e1:p≠x) (e2:d1≠x) (e3:d2≠x) (e4:d_o≠x) (e5:d_r≠x) (e6:dl≠x) (e7:xd2 H dl x names):Pz t H' pz a dl d_o d_r p d1 d2 n names ss lens so ho own rent:=by
 obtain⟨kl,hkl,ll,fl⟩:=z.ln
 refine⟨let ⟨dx,e⟩:=z.ins; ⟨dx,k _ _ e0 e⟩,z.sg.keep e1 e2 e3 tp k,k _ _ e4 z.ow,k _ _ e5 z.rn,⟨kl,k _ _ e6 hkl,ll,fun nm h=>?_⟩,z.n1,z.n2,z.n3,z.n4⟩
 obtain⟨q,q1,q2,q3⟩:=fl nm h
 exact⟨q,q1,k _ _ (e7 nm h q ⟨kl,hkl,q1⟩) q2,q3⟩
theorem Pz.keepL (z:Pz t H pz a dl d_o d_r p d1 d2 n names ss lens so ho own rent) {x:Addr}{xs:List V} (hx:H x=some (.lst xs)) (k:∀ c u,c≠x->H c=some u->H' c=some u):Pz t H' pz a dl d_o d_r p d1 d2 n names ss lens so ho own rent:=by
 obtain⟨dx,hz⟩:=z.ins
 obtain⟨dx2,hp⟩:=z.sg.ins
 obtain⟨k1,hk1,_⟩:=z.sg.so
 obtain⟨k2,hk2,_⟩:=z.sg.ho
 obtain⟨kl,hkl,ll,fl⟩:=id z.ln
 exact z.keep1 k (fun c xs e=>k _ _ (xp e hx (fun z=>nomatch z)) e) (xp hz hx (fun z=>nomatch z)) (xp hp hx (fun z=>nomatch z)) (xp hk1 hx (fun z=>nomatch z)) (xp hk2 hx (fun z=>nomatch z)) (xp z.ow hx (fun z=>nomatch z)) (xp z.rn hx (fun z=>nomatch z)) (xp hkl hx (fun z=>nomatch z)) (fun nm h q ⟨kv,e1,e2⟩=>by
  obtain⟨q',q1,q2,_⟩:=fl nm h
  rw[hkl] at e1
  cases e1
  rw[q1] at e2
  cases e2
  exact xp q2 hx (fun z=>nomatch z))
theorem xd2.keep {da:Addr} (z:Pz t H pz a dl d_o d_r p d1 d2 n names ss lens so ho own rent) (h:xd2 H dl da names) (k:∀ u,H dl=some u->H' dl=some u):xd2 H' dl da names:=fun nm hn q ⟨kv,e1,e2⟩=>by
 obtain⟨kl,hkl,_⟩:=z.ln
 have:=k _ hkl
 rw[e1] at this
 cases this
 exact h nm hn q ⟨kv,hkl,e2⟩
theorem AkD.hod {d:Addr}{al:List Seat}{asked:Seat->Option Str} (h:AkD H d al asked) (ask:∀ s,(asked s).isSome=true↔s∈al):HoD H d al.length asked:=by
 refine⟨_,h,by rw[List.length_map]; exact Nat.le_refl _,fun s=>?_⟩
 cases e:asked s with
 | none=>exact xef xcw (fun z=>by rw[<- ask s,e] at z; cases z)
 | some x =>
  rw[valM xcw ((ask s).mp (by rw[e]; rfl)),e]
  rfl
theorem Pz.hand (z:Pz t H pz a dl d_o d_r p d1 d2 n names ss lens so ho own rent) (k:KB H H' d1 d2) {m:Nat} (sg:Sg t H' p d1 d2 m so' ho'):Pz t H' pz a dl d_o d_r p d1 d2 m names ss lens so' ho' own rent:=by
 obtain⟨dx,hz⟩:=z.ins
 obtain⟨k1,hk1,_⟩:=z.sg.so
 obtain⟨k2,hk2,_⟩:=z.sg.ho
 obtain⟨kl,hkl,ll,fl⟩:=z.ln
 refine⟨⟨dx,k _ _ (xp hz hk1 (fun z=>nomatch z)) (xp hz hk2 (fun z=>nomatch z)) hz⟩,sg,k _ _ z.n2 (xp z.ow hk2 (fun z=>nomatch z)) z.ow,k _ _ (xp z.rn hk1 (fun z=>nomatch z)) z.n1 z.rn,⟨kl,k _ _ z.n4 (xp hkl hk2 (fun z=>nomatch z)) hkl,ll,fun nm h=>?_⟩,z.n1,z.n2,z.n3,z.n4⟩
 obtain⟨q,q1,q2,q3⟩:=fl nm h
 exact⟨q,q1,k _ _ (xp q2 hk1 (fun z=>nomatch z)) (fun y=>q3 (by rw[y]; exact List.mem_cons_of_mem _ (List.mem_cons_self ..))) q2,q3⟩
end
def F5 (H H':Hp) (dl d_o d_r d1 d2:Addr):Prop:=∀ c u,c≠dl->c≠d_o->c≠d_r->c≠d1->c≠d2->H c=some u->H' c=some u
def xj4 (t:Adr):Sp:=fun vs H Q _=>∃(pz a dl d_o d_r p d1 d2 dp do_:Addr) (n w h:Nat) (ns:List Str) (ps:List Pt) (st srt:List Seat) (so:Str->Option Seat) (ho:Seat->Option Str) (own:Str->Int) (rent:Seat->Int) (nm:Str),vs=[.ref pz,.str nm]/\Pz t H pz a dl d_o d_r p d1 d2 n ns srt (xq w ps srt) so ho own rent/\Dr t H a dp do_ w h ps st srt/\xbb (w:Int) (h:Int) ps/\n<=500/\ns.length<12/\(∃ pt∈ps,pt.nm=nm)/\nm∉ns/\Fit (xq w ps srt) ns so ho own rent/\(∃ so2 ho2,Kp.Mt (xai (xq w ps srt)) so2 ho2/\∀ z∈ns++[nm],(so2 z).isSome=true) /\
 ∀ H' own' rent' so' ho' asked s,F5 H H' dl d_o d_r d1 d2->Pz t H' pz a dl d_o d_r p d1 d2 (n+30) (ns++[nm]) srt (xq w ps srt) so' ho' own' rent'->Kp.Rch (xdo (xq w ps srt) ho) (.go (setI own nm 0) rent (fun _=>none) [nm]) (.hand own' rent' asked s)->Kp.Rch (Kp.kstep (xai (xq w ps srt)) so ho) (.hand so ho asked s) (.fin so' ho')->Fit (xq w ps srt) (ns++[nm]) so' ho' own' rent'->Q .non H'
theorem xnq {t:Adr}{H:Hp}{Q E}{pz a dl d_o d_r p d1 d2 dp do_:Addr}{n w h:Nat}{ns:List Str}{ps:List Pt}{st srt:List Seat}{so:Str->Option Seat}{ho:Seat->Option Str}{own:Str->Int}{rent:Seat->Int}{nm:Str} (hh:Pz t H pz a dl d_o d_r p d1 d2 n ns srt (xq w ps srt) so ho own rent/\Dr t H a dp do_ w h ps st srt/\xbb (w:Int) (h:Int) ps/\n<=500/\ns.length<12/\(∃ pt∈ps,pt.nm=nm)/\nm∉ns/\Fit (xq w ps srt) ns so ho own rent/\(∃ so2 ho2,Kp.Mt (xai (xq w ps srt)) so2 ho2/\∀ z∈ns++[nm],(so2 z).isSome=true) /\
 ∀ H' own' rent' so' ho' asked s,F5 H H' dl d_o d_r d1 d2->Pz t H' pz a dl d_o d_r p d1 d2 (n+30) (ns++[nm]) srt (xq w ps srt) so' ho' own' rent'->Kp.Rch (xdo (xq w ps srt) ho) (.go (setI own nm 0) rent (fun _=>none) [nm]) (.hand own' rent' asked s)->Kp.Rch (Kp.kstep (xai (xq w ps srt)) so ho) (.hand so ho asked s) (.fin so' ho')->Fit (xq w ps srt) (ns++[nm]) so' ho' own' rent'->Q .non H'):xj4 t [.ref pz,.str nm] H Q E:=⟨pz,a,dl,d_o,d_r,p,d1,d2,dp,do_,n,w,h,ns,ps,st,srt,so,ho,own,rent,nm,rfl,hh⟩
section
variable {P:Program}{w:World}{K:PySem.W.Frag}{mg:Str->Option Value}{base:Heap}{t:Adr}
theorem ok_y (T:Txt w K mg t):FnOk true P w K mg base (CXo P w) 7 t.f_y t.d_y ["self", "name"] (xj4 t):=by
 refine T.F_y.okn (k:=6) sc_y (fun vs H Q E h=>?_) (fun cdv A outer s H vs Q E hr h=>?_)
 .obtain ⟨pz,a,dl,d_o,d_r,p,d1,d2,dp,do_,n,w',h',ns,ps,st,srt,so,ho,own,rent,nm,rfl,_⟩:=h
  rfl
 .obtain ⟨pz,a,dl,d_o,d_r,p,d1,d2,dp,do_,n,w',h',ns,ps,st,srt,so,ho,own,rent,nm,rfl,h⟩:=h
  refine⟨_,xh (xca (xau hr) (xab (pv 0) rfl) (pv 1) (xbv (xd5 rfl (xiy hr)) rfl T.n_dict boot_dict (xa (xbn rfl (xa5 (zs:=["side", "row"]) (ys:=["name", "self"]) (fr:=[1,0]) (N0:=["self", "name", "askers", "asked_by", "seat"]) (sc0:=xi s_y) (by decide +kernel) rfl rfl rfl) (xaj (xak (xab (pv 0) rfl) T.c_i T.m_h (ok_h T) (hr.mono (by decide)) T.b_h .nil xk (xa (pv 1) (xj)))) (fun _ _ _ _ _ ow nd=>(xa8 rfl (xt (xn (i:=0) nd rfl (Or.inl (ow _ (by simp))) (Or.inr (ow _ (by simp)))) (xt (xn (i:=1) nd rfl (Or.inl (ow _ (by simp))) (Or.inr (ow _ (by simp)))) (xa2))):PG _ _ (gTup K 2 _))) (xb0 (xac (by decide) (xac (by decide) (xbr)))) (fun _ _ _ _ _=>xbh) (fun _ _ _ _ _=>xaz (xa (xaz (xa (pv 0) (xa (pv 1) (xj)))) (xa (xak ((xab (pv 3) rfl:PE _ _ (tFld K _ _))) T.c_i T.m_w (ok_w T) (hr.mono (by decide)) T.b_w .nil xk (xa (pv 2) (xa (pv 0) (xa (pv 1) (xj))))) (xj))))) (xj))) rfl)
   (xh (xca (xau hr) (xab (pv 0) rfl) (pv 1) (xm) rfl)
   (xh (x0 (i:=2) sc_y.nd rfl (Or.inl rfl) (xbu (xa (pv 1) (xj))))
   (xh (x0 (i:=3) sc_y.nd rfl (Or.inl rfl) (xds))
   (xh (x0 (i:=4) sc_y.nd rfl (Or.inl rfl) (xak (pv 0) T.c_ai T.m_x (ok_x T) (hr.mono (by decide)) T.b_x .nil xk (xa (pv 2) (xa (pv 3) (xj)))))
   (xh (xfy PassesOwn.never (xcz (xf3 (xau hr) (pv 4) (xab (xab (pv 0) rfl) rfl))) (xh (xav (xfb PySem.F.plainAttrs_list PySem.F.slot_list_append PySem.F.type_list_append xdg (pv 2) (xa (xbo (xau hr) (xab (xab (pv 0) rfl) rfl) (pv 4) (fun _ _=>rfl)) (xj))))
   (xl (x0 (i:=4) sc_y.nd rfl (Or.inl rfl) (xak (pv 0) T.c_ai T.m_x (ok_x T) (hr.mono (by decide)) T.b_x .nil xk (xa (pv 2) (xa (pv 3) (xj))))))))
   (xl (xav (xak (xab (pv 0) rfl) T.c_ao T.m_n (ok_n T) (hr.mono (by decide)) T.b_n .nil xk (xa (pv 3) (xa (pv 4) (xj))))))))))),?_⟩
  obtain⟨z,dr,pok,n500,n12,⟨pt,ptin,pte⟩,nnm,fit,⟨so2,ho2,mt2,all2⟩,q⟩:=h
  subst pte
  have BIG:∀{n:Nat},n<=1000->n<sizeLine:=fun h=>Nat.lt_of_le_of_lt h (by decide)
  have w30:w'<=30:=by have:=dr.pic.w2; omega
  have h16:h'<=16:=by have:=dr.pic.h2; omega
  have lo:=xgs w30 h16 pok dr.ok dr.pm
  have s32:srt.length<=32:=by rw[dr.pm.length_eq]; exact dr.ok.2.1
  obtain⟨dx,hpz⟩:=z.ins
  obtain⟨⟨dxa,hpic⟩,_⟩:=id dr.pic
  have hf:=xfa pok.nn ptin
  have pnm:=(pok.ok pt ptin).nm
  have elen:xq w' ps srt pt.nm=(srt.filter (xao pt)).map fun s=>(s,lenI (w':Int) pt.x pt.y s.1 s.2):=by
   unfold xq
   rw[hf]
  refine⟨_,rfl,pz,_,dx,_,_,rfl,hpz,T.c_ai,T.n_a5,lkZp,a,dxa,_,rfl,hpic,xal (by decide +kernel),_,rfl,a,dp,do_,w',h',ps,st,pt,rfl,dr.pic,dr.sts,dr.ok,pnm,hf,fun H1 l1 srt' rs1 s1 fl1 pm1 lt1 e1 sl1=>?_⟩
  obtain rfl:srt'=srt:=xb9 xdf (pm1.trans dr.pm.symm) lt1 dr.lt
  have rl1:=sl1.len
  have fl32:(srt'.filter (xao pt)).length<=32:=Nat.le_trans (List.length_filter_le _ _) s32
  refine⟨l1,rfl,⟨_,SqL.of e1⟩,fun l2 hl2=>?_⟩
  refine xcg (SqL.of e1) (by rw[List.length_map]; exact BIG (by omega)) hl2 (fun i y H=>∃ q qs s l,y=.ref q/\H q=some (.tup [.ref qs,.int l])/\H qs=some (.tup (xax s))/\(xq w' ps srt' pt.nm)[i]?=some (s,l)) (fun _ _ _ _ tp ⟨q,qs,s,l,z1,z2,z3,z4⟩=>⟨q,qs,s,l,z1,tp _ _ z2,tp _ _ z3,z4⟩) (fun i x H2 hx s2 N hN=>?_) (fun ys H2 s2 e2 ly fy=>?_)
  .rw [List.getElem?_map,Option.map_eq_some_iff] at hx
   obtain⟨qa,hqa,rfl⟩:=hx
   obtain⟨s,hs,hsq⟩:=sl1.get hqa
   have sin:=dr.ok.2.2 s (dr.pm.mem_iff.mp (List.mem_filter.mp (List.mem_of_getElem? hs)).1)
   refine⟨qa,_,rfl,SqT.of (s2 _ _ hsq),rfl,_,_,rfl,_,_,rfl,rfl,?_⟩
   refine⟨_,rfl,_,rfl,(by show 2<=sizeLine; decide),fun q3 hq3=>?_⟩
   have s3:Same H2 (upd H2 q3 (.tup [.str (xaa s.1),.int s.2])):=xo (Same.refl _) hq3
   have g3:upd H2 q3 (.tup [.str (xaa s.1),.int s.2]) q3=some (.tup [.str (xaa s.1),.int s.2]):=xg
   revert s3 g3
   generalize upd H2 q3 (.tup [.str (xaa s.1),.int s.2])=H3
   intro s3 g3
   have s03:=(s1.trans s2).trans s3
   refine⟨_,rfl,pz,_,dx,_,_,rfl,s03 _ _ hpz,T.c_ai,T.n_a5,lkZp,a,dxa,_,rfl,s03 _ _ hpic,xal (by decide +kernel),_,rfl,_,rfl,_,rfl,a,dp,do_,w',h',ps,pt.nm,pt,s.1,s.2,rfl,Pic.same s03 dr.pic,pnm,hf,sin.1,sin.2,fun H4 s4=>?_⟩
   refine⟨(by show 2<=sizeLine; decide),fun q5 hq5=>?_⟩
   have s5:Same H4 (upd H4 q5 (.tup [.ref q3,.int (lenI (w':Int) pt.x pt.y s.1 s.2)])):=xo (Same.refl _) hq5
   exact hN _ _ ((s3.trans s4).trans s5) ⟨q5,q3,s,_,rfl,xg,s5 _ _ (s4 _ _ g3),by rw[elen,List.getElem?_map,hs]; rfl⟩
  rw[List.length_map,rl1] at ly
  have lenl:(xq w' ps srt' pt.nm).length=(srt'.filter (xao pt)).length:=by rw[elen,List.length_map]
  obtain⟨prs,L,rfl,hprs,ep,eL,hL⟩:=xfw (tgt:=xq w' ps srt' pt.nm) (by rw[ly,lenl]) fy
  refine⟨l2,prs,rfl,e2,hprs,fun dq hdq=>?_⟩
  have L1:(L.map (·.2.1))=xai (xq w' ps srt') pt.nm:=by
   have:L.map (·.2.1)=(L.map (·.2)).map (·.1):=by rw[List.map_map]; rfl
   rw[this,eL]
   rfl
  have ll:L.length<=32:=by
   have:=congrArg List.length eL
   rw[List.length_map] at this
   omega
  have s3:Same H2 (upd H2 dq (.dT [])):=xo (Same.refl _) hdq
  obtain⟨H3,dps,e3,k3⟩:=xgo (d:=dq) L (H:=upd H2 dq (.dT [])) (kvs:=[]) xg (fun x hx=>s3 _ _ (hL x hx)) (by rw[L1]; exact lo.nd _) (fun _ _=>rfl) (by simp; omega)
  refine⟨.dT [],H3,.inr rfl,by rw[ep]; exact dps,?_⟩
  rw[eL,List.nil_append] at e3
  have s23:Same H2 H3:=fun b u e=>k3 _ _ (xb e hdq) (s3 _ _ e)
  have s03:Same H H3:=(s1.trans s2).trans s23
  have fdq:H dq=none:=(s1.trans s2).free hdq
  have z3:=z.same s03
  obtain⟨kl,hkl,lkl,fkl⟩:=z3.ln
  have hz3:=s03 _ _ hpz
  refine⟨_,rfl,pz,_,dx,_,_,rfl,hz3,T.c_ai,T.n_a4,lkZl,_,rfl,dl,_,rfl,DPut.k (k:=.inr pt.nm) hkl (BIG (by omega)),?_⟩
  -- the heap with the new lengths
  have k4:∀ c u,c≠dl->H3 c=some u->upd H3 dl (.dK (putK kl (.inr pt.nm) (.ref dq))) c=some u:=fun c u nc e=>by rw[xf nc]; exact e
  have e4:upd H3 dl (.dK (putK kl (.inr pt.nm) (.ref dq))) dl=some (.dK (putK kl (.inr pt.nm) (.ref dq))):=xg
  have f4:∀ c,upd H3 dl (.dK (putK kl (.inr pt.nm) (.ref dq))) c=none->H3 c=none:=fun c e=>by
   by_cases y:c=dl
   .rw [y,xg] at e; cases e
   .rw [xf y] at e; exact e
  revert k4 e4 f4
  generalize upd H3 dl (.dK (putK kl (.inr pt.nm) (.ref dq)))=H4
  intro k4 e4 f4
  have hz4:=k4 _ _ (xp hz3 hkl (fun z=>nomatch z)) hz3
  have ow4:OwD H4 d_o ns own:=k4 _ _ z.n3 z3.ow
  refine⟨_,rfl,pz,_,dx,_,_,rfl,hz4,T.c_ai,T.n_a7,lkZo,_,rfl,d_o,_,rfl,DPut.k (k:=.inr pt.nm) ow4 (by rw[List.length_map]; exact BIG (by omega)),?_⟩
  rw[xcf _ (xef inrI nnm)]
  have k5:∀ c u,c≠d_o->H4 c=some u->upd H4 d_o (.dK ((ns.map fun n=>((.inr n:Key),V.int (own n)))++[(.inr pt.nm,.int 0)])) c=some u:=fun c u nc e=>by rw[xf nc]; exact e
  have e5:OwD (upd H4 d_o (.dK ((ns.map fun n=>((.inr n:Key),V.int (own n)))++[(.inr pt.nm,.int 0)]))) d_o (ns++[pt.nm]) (setI own pt.nm 0):=by
   unfold OwD
   rw[xg,List.map_append]
   congr 3
   .refine List.map_congr_left fun x hx=>?_
    unfold setI
    rw[if_neg (fun y:x=pt.nm=>nnm (by rw[<- y]; exact hx))]
   .show [((Sum.inr pt.nm:Key),V.int 0)]=[(Sum.inr pt.nm,V.int (setI own pt.nm 0 pt.nm))]
    unfold setI
    rw[if_pos rfl]
  have f5:∀ c,upd H4 d_o (.dK ((ns.map fun n=>((.inr n:Key),V.int (own n)))++[(.inr pt.nm,.int 0)])) c=none->H4 c=none:=fun c e=>by
   by_cases y:c=d_o
   .rw [y,xg] at e; cases e
   .rw [xf y] at e; exact e
  revert k5 e5 f5
  generalize upd H4 d_o (.dK ((ns.map fun n=>((.inr n:Key),V.int (own n)))++[(.inr pt.nm,.int 0)]))=H5
  intro k5 e5 f5
  -- the prices with the new one
  have rn3:=z3.rn
  obtain⟨dx2,hp3⟩:=z3.sg.ins
  obtain⟨m1,hm1,g1⟩:=z3.sg.so
  obtain⟨m2,hm2,g2⟩:=z3.sg.ho
  have k35:∀ c u,c≠dl->c≠d_o->H3 c=some u->H5 c=some u:=fun c u n1 n2 e=>k5 _ _ n2 (k4 _ _ n1 e)
  have ow3:=z3.ow
  unfold OwD at ow3
  have tp35:Tups H3 H5:=fun c xs e=>k35 _ _ (xp e hkl (fun z=>nomatch z)) (xp e ow3 (fun z=>nomatch z)) e
  have hkl5:H5 dl=some (.dK (putK kl (.inr pt.nm) (.ref dq))):=k5 _ _ (Ne.symm z.n3) e4
  have edq5:=k35 _ _ (xp e3 hkl (fun z=>nomatch z)) (xp e3 ow3 (fun z=>nomatch z)) e3
  have ndq:dq∉[d_r,d2]:=fun y=>by
   rcases List.mem_cons.mp y with y|y
   .rw [y,z.rn] at fdq; cases fdq
   .obtain ⟨m0,hm0,_⟩:=z.sg.ho
    rw[List.mem_singleton.mp y,hm0] at fdq
    cases fdq
  have z5:Pz t H5 pz a dl d_o d_r p d1 d2 n (ns++[pt.nm]) srt' (xq w' ps srt') so ho (setI own pt.nm 0) rent:=by
   refine⟨⟨dx,k5 _ _ (xp hz3 ow3 (fun z=>nomatch z)) hz4⟩,⟨⟨dx2,k35 _ _ (xp hp3 hkl (fun z=>nomatch z)) (xp hp3 ow3 (fun z=>nomatch z)) hp3⟩,SoD.keep ⟨m1,hm1,g1⟩ tp35 (fun u e=>k35 _ _ (Ne.symm z.n4) (Ne.symm z.n2) e),HoD.keep ⟨m2,hm2,g2⟩ (fun u e=>k35 _ _ (xp hm2 hkl (fun z=>nomatch z)) (xp hm2 ow3 (fun z=>nomatch z)) e)⟩,e5,k35 _ _ (xp rn3 hkl (fun z=>nomatch z)) (xp rn3 ow3 (fun z=>nomatch z)) rn3,⟨_,hkl5,?_,fun x hx=>?_⟩,z.n1,z.n2,z.n3,z.n4⟩
   .have:=xbl kl (.inr pt.nm) (.ref dq)
    rw[List.length_append,List.length_singleton]
    omega
   .rw [xcb]
    by_cases c:x=pt.nm
    .subst c
     exact⟨dq,by rw[if_pos rfl],edq5,ndq⟩
    .rw [if_neg (fun y=>c (Sum.inr.inj y))]
     rcases List.mem_append.mp hx with hx|hx
     .obtain ⟨qq,q1,q2,q3⟩:=fkl x hx
      exact⟨qq,q1,k35 _ _ (xp q2 hkl (fun z=>nomatch z)) (xp q2 ow3 (fun z=>nomatch z)) q2,q3⟩
     .exact absurd (List.mem_singleton.mp hx) c
  have fr5:∀ c u,c≠dl->c≠d_o->H c=some u->H5 c=some u:=fun c u n1 n2 e=>k35 _ _ n1 n2 (s03 _ _ e)
  have lnin:∀ x∈ns++[pt.nm],∀ qq,(∃ kvs,H5 dl=some (.dK kvs)/\valV kvs (.inr x)=some (.ref qq))->∃ u,H5 qq=some u:=fun x hx qq ⟨kv,y1,y2⟩=>by
   obtain⟨kl5,hk5,_,f⟩:=z5.ln
   obtain⟨q',q1,q2,_⟩:=f x hx
   rw[hk5] at y1
   cases y1
   rw[q1] at y2
   cases y2
   exact⟨_,q2⟩
  -- those who ask
  refine⟨_,rfl,(by show 1<=sizeLine; decide),fun la hla=>?_⟩
  have s6:Same H5 (upd H5 la (.lst [.str pt.nm])):=xo (Same.refl _) hla
  have g6:upd H5 la (.lst [.str pt.nm]) la=some (.lst [.str pt.nm]):=xg
  revert s6 g6
  generalize upd H5 la (.lst [.str pt.nm])=H6
  intro s6 g6
  refine fun da hda=>?_
  have nlda:la≠da:=xb g6 hda
  have s7:Same H6 (upd H6 da (.dT [])):=xo (Same.refl _) hda
  have g7:upd H6 da (.dT []) da=some (.dT []):=xg
  revert s7 g7
  generalize upd H6 da (.dT [])=H7
  intro s7 g7
  have z7:=z5.same (s6.trans s7)
  have g67:=s7 _ _ g6
  have NE:∀{c:Addr}{u:HO},H6 c=some u->c≠da:=fun {c u} e=>xb e hda
  have ndr:da≠d_r:=Ne.symm (NE (s6 _ _ z5.rn))
  have nd2:da≠d2:=by
   obtain⟨m0,hm0,_⟩:=z5.sg.ho
   exact Ne.symm (NE (s6 _ _ hm0))
  have nln7:xd2 H7 dl da (ns++[pt.nm]):=fun x hx qq ⟨kv,y1,y2⟩=>by
   obtain⟨kl5,hk5,_⟩:=z5.ln
   have y3:=s7 _ _ (s6 _ _ hk5)
   rw[y1] at y3
   cases y3
   obtain⟨u,hu⟩:=lnin x hx qq ⟨kv,hk5,y2⟩
   exact NE (s6 _ _ hu)
  have mt:=fit.mt
  have dm:=fit.dm
  have sn:so pt.nm=none:=by
   have:=dm pt.nm
   rw[decide_eq_false nnm] at this
   simpa using this
  have nsl:(ns++[pt.nm]).length<=12:=by rw[List.length_append,List.length_singleton]; omega
  have gw0:Grow (xq w' ps srt') ns pt.nm so ho [pt.nm] [] (fun _=>none) (setI own pt.nm 0) rent:=fit.grow lo nnm
  -- one step of asking
  have STEP:∀{crowd:List Str}{al:List Seat}{asked:Seat->Option Str}{o1:Str->Int}{r1:Seat->Int},Grow (xq w' ps srt') ns pt.nm so ho crowd al asked o1 r1->(∀ b∈crowd,b∈ns++[pt.nm])/\crowd.Nodup/\al.Nodup/\(∀ s∈al,s∈srt')/\(∀ s,(asked s).isSome=true↔s∈al)/\crowd.length<=12:=fun {crowd al asked o1 r1} gw=>by
   have c1:∀ b∈crowd,b∈ns++[pt.nm]:=fun b hb=>gw.bf.in_ mt dm hb
   have c2:=gw.bf.nodup mt sn
   refine⟨c1,c2,gw.bf.nd,fun s hs=>?_,gw.bf.ask,Nat.le_trans (xhy c2 c1) nsl⟩
   obtain⟨j,hj,ej⟩:=List.getElem_of_mem hs
   obtain⟨_,_,_,_,_,e4⟩:=gw.bf.ak j s (by rw[List.getElem?_eq_getElem hj,ej])
   exact lo.ins _ _ e4
  obtain⟨c1,c2,c3,c4,c5,c6⟩:=STEP gw0
  obtain⟨g0,b0,t0,nr0⟩:=gw0.nearest lo mt dm sn mt2 all2
  have gp0:=gw0.gap lo mt dm nr0
  obtain⟨dx7,hz7⟩:=z7.ins
  refine⟨_,rfl,pz,dx7,_,rfl,hz7,xe2 (by decide +kernel),_,rfl,_,rfl,?_⟩
  refine xbi ?_
  refine xl4 (crowd:=[pt.nm]) (al:=[]) (asked:=fun _=>none) ⟨z7,g67,g7,c5,c1,c2,c3,c4,s32,nsl,ndr,lo.ins,nln7,nd2,nr0,(fun y=>nomatch y),fun H8 qs8 k8 hq8 z8 ak8=>?_⟩
  have nlo:la≠d_o:=xp g67 z7.ow (fun z=>nomatch z)
  have nlr:la≠d_r:=xp g67 z7.rn (fun z=>nomatch z)
  obtain⟨kl7,hk7,_⟩:=z7.ln
  have ndl:dl≠da:=xp hk7 g7 (fun z=>nomatch z)
  have ndla:dl≠la:=xp hk7 g67 (fun z=>nomatch z)
  have ndlr:dl≠d_r:=xp hk7 z7.rn (fun z=>nomatch z)
  -- the walk
  refine⟨fun m σ H9=>∃(crowd:List Str) (al:List Seat) (asked:Seat->Option Str) (o1:Str->Int) (r1:Seat->Int) (g:Int) (b:Str) (s:Seat) (qs:Addr),σ=[some (.ref pz),some (.str pt.nm),some (.ref la),some (.ref da),some (.ref qs)]/\(∀ c u,c≠d_o->c≠d_r->c≠da->c≠la->H7 c=some u->H9 c=some u)/\H9 qs=some (.tup (xax s))/\H9 la=some (.lst (crowd.map V.str))/\AkD H9 da (al++[s]) (Kp.upd1 asked s b)/\Pz t H9 pz a dl d_o d_r p d1 d2 n (ns++[pt.nm]) srt' (xq w' ps srt') so ho (shO o1 crowd g) (shR r1 asked g)/\Grow (xq w' ps srt') ns pt.nm so ho crowd al asked o1 r1/\Kp.Rch (xdo (xq w' ps srt') ho) (.go (setI own pt.nm 0) rent (fun _=>none) [pt.nm]) (.go o1 r1 asked crowd)/\near (xq w' ps srt') o1 r1 asked crowd=some (g,b,s)/\m=20-crowd.length,⟨_,[pt.nm],[],_,_,_,g0,b0,t0,qs8,rfl,fun c u n1 n2 n3 _ e=>k8 c u n1 n2 n3 e,hq8,k8 _ _ nlo nlr nlda g67,ak8,z8,gw0,.refl _,nr0,rfl⟩,?_⟩
  rintro m σ H9 ⟨crowd,al,asked,o1,r1,g,b,s,qs,rfl,k9,hqs,hl9,ak9,z9,gw,rc,nr,rfl⟩
  obtain⟨dx9,hz9⟩:=z9.ins
  obtain⟨dx9p,hp9⟩:=z9.sg.ins
  have dgH:=z9.sg.ho.get hqs
  have gp:=gw.gap lo mt dm nr
  have nal:s∉al:=fun y=>by
   have:=(gw.bf.ask s).mpr y
   rw[gp.na] at this
   cases this
  obtain⟨x1,x2,x3,x4,x5,x6⟩:=STEP gw
  refine⟨_,rfl,_,rfl,pz,_,dx9,_,_,rfl,hz9,T.c_ai,T.n_a3,lkZs,p,_,dx9p,_,_,rfl,hp9,T.c_ao,T.n_az,lkHo,d2,_,rfl,dgH,_,rfl,?_⟩
  cases hs:ho s with
  | some x =>
   rw[hs] at dgH
   have gw2:=gw.more mt sn gp hs
   obtain⟨y1,y2,y3,y4,y5,y6⟩:=STEP gw2
   obtain⟨g2',b2,t2,nr2⟩:=gw2.nearest lo mt dm sn mt2 all2
   have gp2:=gw2.gap lo mt dm nr2
   refine ifP rfl ⟨fun σ' H'=>∃ m',m'<20-crowd.length/\∃(crowd:List Str) (al:List Seat) (asked:Seat->Option Str) (o1:Str->Int) (r1:Seat->Int) (g:Int) (b:Str) (s:Seat) (qs:Addr),σ'=[some (.ref pz),some (.str pt.nm),some (.ref la),some (.ref da),some (.ref qs)]/\(∀ c u,c≠d_o->c≠d_r->c≠da->c≠la->H7 c=some u->H' c=some u)/\H' qs=some (.tup (xax s))/\H' la=some (.lst (crowd.map V.str))/\AkD H' da (al++[s]) (Kp.upd1 asked s b)/\Pz t H' pz a dl d_o d_r p d1 d2 n (ns++[pt.nm]) srt' (xq w' ps srt') so ho (shO o1 crowd g) (shR r1 asked g)/\Grow (xq w' ps srt') ns pt.nm so ho crowd al asked o1 r1/\Kp.Rch (xdo (xq w' ps srt') ho) (.go (setI own pt.nm 0) rent (fun _=>none) [pt.nm]) (.go o1 r1 asked crowd)/\near (xq w' ps srt') o1 r1 asked crowd=some (g,b,s)/\m'=20-crowd.length,fun σ' H' y=>y,?_⟩
   refine⟨_,rfl,.inl ⟨rfl,_,SqL.of hl9⟩,_,rfl,pz,_,dx9,_,_,rfl,hz9,T.c_ai,T.n_a3,lkZs,p,_,dx9p,_,_,rfl,hp9,T.c_ao,T.n_az,lkHo,_,rfl,d2,.str x,rfl,dgH,la,_,_,rfl,rfl,hl9,(by rw[List.length_map]; exact BIG (by omega)),?_⟩
   have k10:∀ c u,c≠la->H9 c=some u->upd H9 la (.lst (crowd.map V.str++[.str x])) c=some u:=fun c u nc e=>by rw[xf nc]; exact e
   have g10:upd H9 la (.lst (crowd.map V.str++[.str x])) la=some (.lst ((crowd++[x]).map V.str)):=by rw[xg,List.map_append]; rfl
   have z10:=z9.keepL hl9 k10
   have ak9':H9 da=some (.dT ((al++[s]).map fun z=>(xu z,V.str ((Kp.upd1 asked s b z).getD (Str.ofString ""))))):=ak9
   have ak10:AkD (upd H9 la (.lst (crowd.map V.str++[.str x]))) da (al++[s]) (Kp.upd1 asked s b):=k10 _ _ (Ne.symm nlda) ak9
   revert k10 g10 z10 ak10
   generalize upd H9 la (.lst (crowd.map V.str++[.str x]))=H10
   intro k10 g10 z10 ak10
   obtain⟨dx10,hz10⟩:=z10.ins
   have nln10:xd2 H10 dl da (ns++[pt.nm]):=nln7.keep z7 (fun u e=>k10 _ _ ndla (k9 _ _ (Ne.symm z.n3) ndlr ndl ndla e))
   refine⟨_,rfl,pz,dx10,_,rfl,hz10,xe2 (by decide +kernel),_,rfl,_,rfl,?_⟩
   refine xbi ?_
   refine xl4 (crowd:=crowd++[x]) (al:=al++[s]) ⟨z10,g10,ak10,y5,y1,y2,y3,y4,s32,nsl,ndr,lo.ins,nln10,nd2,nr2,(fun y=>by
    have:=(gw2.bf.ask t2).mpr y
    rw[gp2.na] at this
    cases this),fun H11 qs11 k11 hq11 z11 ak11=>?_⟩
   refine⟨20-(crowd++[x]).length,by rw[List.length_append,List.length_singleton]; omega,crowd++[x],al++[s],_,_,_,g2',b2,t2,qs11,rfl,fun c u n1 n2 n3 n4 e=>k11 _ _ n1 n2 n3 (k10 _ _ n4 (k9 _ _ n1 n2 n3 n4 e)),hq11,k11 _ _ nlo nlr nlda g10,ak11,z11,gw2,.step rc (a_go nr hs),nr2,rfl⟩
  | none =>
   rw[hs] at dgH
   refine ifN rfl ?_
   have ask2:∀ s',(Kp.upd1 asked s b s').isSome=true↔s'∈al++[s]:=fun s'=>by
    unfold Kp.upd1
    by_cases c:s'=s
    .rw [if_pos c]
     exact⟨fun _=>List.mem_append_right _ (List.mem_singleton.mpr c),fun _=>rfl⟩
    .rw [if_neg c,gw.bf.ask s',List.mem_append]
     exact⟨.inl,fun y=>y.elim id fun y=>absurd (List.mem_singleton.mp y) c⟩
   obtain⟨i,hi,ei⟩:=List.getElem_of_mem gp.ac
   have ea:crowd[i]?=some b:=by rw[List.getElem?_eq_getElem hi,ei]
   have chn:=gw.bf.chain mt sn (by omega) ea gp.rm nal
   refine⟨_,rfl,pz,_,dx9,_,_,rfl,hz9,T.c_ai,T.n_a3,lkZs,p,dx9p,_,rfl,hp9,xh0 (by decide +kernel),_,rfl,_,rfl,p,d1,d2,da,qs,n,(al++[s]).length,xai (xq w' ps srt'),so,ho,Kp.upd1 asked s b,fun zz=>crowd.idxOf zz,pt.nm,b,s,rfl,hqs,z9.sg,ak9.hod ask2,nd2,by omega,mt,hs,(by unfold Kp.upd1; rw[if_pos rfl]),chn,fun H12 so' ho' kb fr12 sg' mt' dm' rk=>?_⟩
   refine q H12 _ _ so' ho' _ s (fun c u n1 n2 n3 n4 n5 e=>?_) (z9.hand kb sg') (.step rc (xr7 nr hs)) rk (gw.last lo mt sn dm x6 gp hs mt' dm' rk)
   have e5:=fr5 _ _ n1 n2 e
   have e6:=s6 _ _ e5
   exact kb _ _ n4 n5 (k9 _ _ n2 n3 (NE e6) (xb e5 hla) (s7 _ _ e6))
end
theorem Run.none {room:Str->List Seat}{ss:List Seat} (snd:ss.Nodup) (hr:∀ n s,s∈room n->s∈ss) {ns:List Str}{so:Str->Option Seat}{ho:Seat->Option Str}{cs:List (Str × List Str)} (r:Run room ns so ho cs) (nd:ns.Nodup) {so2:Str->Option Seat}{ho2:Seat->Option Str} (mt2:Kp.Mt room so2 ho2) (all:∀ z∈ns,(so2 z).isSome=true):cs=[]:=by
 cases cs with
 | nil=>rfl
 | cons c r' =>
  obtain⟨so0,ho0,mt0,cr,sub⟩:=r.crowd nd c (List.mem_cons_self ..)
  have c1:=cr.count mt0 snd hr
  have c2:=Kp.hall mt2 hr cr.nd (fun a ha=>all a (sub a ha))
  rw[c1,List.length_cons] at c2
  omega
theorem xmi {H:Hp}{ps:List Pt}{so:Str->Option Seat}:∀{names:List Str}{ys:List V},ys.length=names.length->(∀(i:Nat) (y:V),ys[i]?=some y->∃ q s pt,names[i]?=some pt.nm/\pt∈ps/\so pt.nm=some s/\y=.ref q/\H q=some (.tup (prV (pt,s))))->∃(prs:List Pr) (qs:List Addr),ys=qs.map V.ref/\PrsL H prs qs/\prs.map (·.1.nm)=names/\∀ p∈prs,p.1∈ps/\so p.1.nm=some p.2
 | [],[],_,_=>⟨[],[],rfl,.nil,rfl,fun _ h=>(nomatch h)⟩
 | [],_::_,h,_=>by cases h
 | _::_,[],h,_=>by cases h
 | nm::names,y::ys,h,f=>by
  obtain⟨q,s,pt,h1,h2,h3,rfl,h4⟩:=f 0 y rfl
  obtain⟨prs,qs,e1,e2,e3,e4⟩:=xmi (names:=names) (ys:=ys) (by simpa using h) (fun i y hy=>by
   obtain⟨q,s,pt,a1,a2,a3,a4,a5⟩:=f (i+1) y (by simpa using hy)
   exact⟨q,s,pt,by simpa using a1,a2,a3,a4,a5⟩)
  have h1:nm=pt.nm:=by simpa using h1
  refine⟨(pt,s)::prs,q::qs,by rw[e1]; rfl,.cons h4 e2,by rw[List.map_cons,e3,h1],fun p hp=>?_⟩
  rcases List.mem_cons.mp hp with rfl|hp
  .exact ⟨h2,h3⟩
  .exact e4 p hp
def xke (t:Adr):Sp:=fun vs H Q _=>∃(a ln dp do_:Addr) (w h:Nat) (ps:List Pt) (st srt:List Seat) (names:List Str),vs=[.ref a,.ref ln]/\Dr t H a dp do_ w h ps st srt/\xbb (w:Int) (h:Int) ps/\H ln=some (.lst (names.map V.str))/\(∀ nm∈names,∃ p∈ps,p.nm=nm)/\names.Nodup/\names.length<=12/\(∃ so2 ho2,Kp.Mt (xa6 ps srt) so2 ho2/\∀ z∈names,(so2 z).isSome=true) /\
 ∀ H' tp lp d_o d_r qs prs own rent so' ho',Same H H'->H' tp=some (.tup [.ref lp,.ref d_o,.ref d_r])->H' lp=some (.lst (qs.map V.ref))->PrsL H' prs qs->prs.map (·.1.nm)=names->(∀ p∈prs,p.1∈ps/\so' p.1.nm=some p.2)->OwD H' d_o names own->RnD H' d_r srt rent->LRun (xq w ps srt) names own rent so' ho'->H lp=none->H d_o=none->H d_r=none->H tp=none->Q (.ref tp) H'
section
variable {P:Program}{w:World}{K:PySem.W.Frag}{mg:Str->Option Value}{base:Heap}{t:Adr}
theorem xi0 (T:Txt w K mg t):FnOk true P w K mg base (CXo P w) 9 t.f_least t.d_least ["picture", "names"] (xke t):=by
 refine T.F_least.okn (k:=8) xeh (fun vs H Q E h=>?_) (fun cdv A outer s H vs Q E hr h=>?_)
 .obtain ⟨a,ln,dp,do_,w',h',ps,st,srt,names,rfl,_⟩:=h
  rfl
 .obtain ⟨a,ln,dp,do_,w',h',ps,st,srt,names,rfl,h⟩:=h
  refine⟨_,xh (x0 (i:=2) xeh.nd rfl (Or.inl rfl) (x8 (xo5 T) (hr.mono (by decide)) rfl T.g_fits T.F_fits.kp T.b_fits .nil xk (xa (pv 0) (xa (pv 1) (xj)))))
   (xh (xat (xag xjj (pv 2) (xcj) (xam _)) (xl (xba)) (xae))
   (xh (x0 (i:=3) xeh.nd rfl (Or.inr rfl) (xeb T.k_ai (ok_ah T) (hr.mono (by decide)) rfl T.g_ai T.b_ah .nil xk (xa (pv 0) (xj))))
   (xh (xbe PassesOwn.never rfl (xaj (pv 1)) (xn (i:=4) xeh.nd rfl (Or.inl rfl)) (xl (xav (xak (pv 3) T.c_ai T.m_y (ok_y T) (hr.mono (by decide)) T.b_y .nil xk (xa (pv 4) (xj))))))
   (xh (xb3 rfl (xa5 (zs:=["name"]) (ys:=["prices"]) (fr:=[3]) (N0:=["picture", "names", "crowd", "prices", "name", "pairs"]) (sc0:=xi xcr) (by decide +kernel) rfl rfl rfl) (xaj (pv 1)) (fun _ _ _ _ _ ow nd=>xn (i:=0) nd rfl (Or.inl (ow _ (by simp))) (Or.inr (ow _ (by simp)))) (xbw (by decide)) (fun _ _ _ _ _=>xbh) (fun _ _ _ _ _=>xv (r:=xkz K) xjw (xaz (xa (pv 0) (xj))) (xbo (xau hr) ((xab ((xab (pv 1) rfl:PE _ _ (tFld K _ _))) rfl:PE _ _ (tFld K _ _))) (pv 0) (fun _ _=>rfl))) (j:=5) rfl (Or.inl rfl))
   (xl (xaf (xaz (xa (pv 5) (xa (xab (pv 3) rfl) (xa (xab (pv 3) rfl) (xj))))))))))),?_⟩
  obtain⟨dr,pok,hln,nps,nnd,n12,⟨so2,ho2,mt2,all2⟩,q⟩:=h
  have snd:srt.Nodup:=dr.pm.nodup_iff.mpr dr.ok.1
  have hr:∀ n s,s∈xa6 ps srt n->s∈srt:=fun n s hs=>by
   unfold xa6 at hs
   split at hs
   .exact (List.mem_filter.mp hs).1
   .exact nomatch hs
  refine⟨_,rfl,_,rfl,a,ln,dp,do_,w',h',ps,st,srt,names,rfl,dr,hln,nps,nnd,n12,fun H1 v cs so ho s1 run alt=>?_⟩
  obtain rfl:=run.none snd hr nnd mt2 all2
  obtain rfl:v=.non:=by
   rcases alt with⟨_,e⟩|⟨_,_,_,e,_⟩
   .exact e
   .cases e
  refine⟨_,rfl,rfl,_,rfl,ifN (by decide) ?_⟩
  refine⟨_,rfl,fun pz dx hpz hdx ne=>?_⟩
  have s2:Same H1 (upd (upd H1 dx (.own pz)) pz (.ins t.C_ai dx [])):=fun b u e=>by
   rw[xf (xb e hpz),xf (xb e hdx)]
   exact e
  have s02:=s1.trans s2
  refine⟨pz,dx,a,dp,do_,w',h',ps,st,srt,xq w' ps srt,rfl,xg,dr.same s02,fun H2 dl d_o d_r p d1 d2 f1 f2 f3 f4 f5 f6 k2 z2=>⟨rfl,?_⟩⟩
  have s12:Same H1 H2:=fun b u e=>k2 _ _ (xb e hpz) (s2 _ _ e)
  have sH2:Same H H2:=s1.trans s12
  have g1:=s02.free f1
  have g2:=s02.free f2
  have g3:=s02.free f3
  have g5:=s02.free f5
  have g6:=s02.free f6
  have hln2:=sH2 _ _ hln
  refine⟨_,rfl,ln,rfl,⟨_,SqL.of hln2⟩,?_⟩
  refine xbg (xs:=names.map V.str) (Pv:=fun i σ H3=>∃(v4 v5:Option V) (so:Str->Option Seat) (ho:Seat->Option Str) (own:Str->Int) (rent:Seat->Int),σ=[some (.ref a),some (.ref ln),some .non,some (.ref pz),v4,v5]/\Same H H3/\Pz t H3 pz a dl d_o d_r p d1 d2 (30*i) (names.take i) srt (xq w' ps srt) so ho own rent/\LRun (xq w' ps srt) (names.take i) own rent so ho) ?_ ?_ ?_ ?_
  .exact ⟨_,_,_,_,_,_,rfl,sH2,z2,.nil⟩
  .rintro i σ H3 _ ⟨_,_,_,_,_,_,rfl,s3,_⟩
   exact SqL.of (s3 _ _ hln)
  .rintro i x σ H3 hx ⟨v4,v5,so3,ho3,own,rent,rfl,s3,z3,r3⟩
   rw[List.getElem?_map,Option.map_eq_some_iff] at hx
   obtain⟨nm,hnm,rfl⟩:=hx
   obtain⟨hi,ei⟩:=List.getElem?_eq_some_iff.mp hnm
   have nin:nm∉names.take i:=fun y=>by
    have:=xcq id (ps:=names) (by rw[List.map_id]; exact nnd) hi nm y
    exact this ei.symm
   have tk:names.take (i+1)=names.take i++[nm]:=by
    rw[List.take_add_one,hnm]
    rfl
   obtain⟨dx3,hz3⟩:=z3.ins
   refine⟨_,rfl,pz,dx3,_,rfl,hz3,xe2 (by decide +kernel),_,rfl,?_⟩
   refine xbi ?_
   refine xnq ⟨z3,dr.same s3,pok,by omega,by rw[List.length_take]; omega,nps nm (List.mem_of_getElem? hnm),nin,r3.fit,⟨so2,ho2,by rw[xc4]; exact mt2,fun zz hzz=>all2 zz (by rw[<- tk] at hzz; exact List.mem_of_mem_take hzz)⟩,fun H4 own' rent' so' ho' asked s k4 z4 ra rk fit=>?_⟩
   refine⟨_,_,so',ho',own',rent',rfl,fun b u e=>k4 _ _ (xb e g1) (xb e g2) (xb e g3) (xb e g5) (xb e g6) (s3 _ _ e),?_,?_⟩
   .rw [tk,Nat.mul_succ]
    exact z4
   .rw [tk]
    exact .snoc r3 ra rk fit
  .rintro σ H3 ⟨v4,v5,so3,ho3,own,rent,rfl,s3,z3,r3⟩
   rw[List.length_map,List.take_length] at z3 r3
   have hln3:=s3 _ _ hln
   obtain⟨dx3,hz3⟩:=z3.ins
   obtain⟨dx3p,hp3⟩:=z3.sg.ins
   have fit:=r3.fit
   refine⟨_,rfl,ln,rfl,⟨_,SqL.of hln3⟩,fun l4 hl4=>?_⟩
   refine xcg (SqL.of hln3) (by rw[List.length_map]; exact Nat.lt_of_le_of_lt (by omega:_<=1000) (by decide)) hl4 (fun i y H=>∃(q:Addr) (s:Seat) (pt:Pt),names[i]?=some pt.nm/\pt∈ps/\so3 pt.nm=some s/\y=.ref q/\H q=some (.tup (prV (pt,s)))) (fun _ _ _ _ tp ⟨q,s,pt,x1,x2,x3,x4,x5⟩=>⟨q,s,pt,x1,x2,x3,x4,tp _ _ x5⟩) (fun i x H4 hx s4 N hN=>?_) (fun ys H4 s4 e4 ly fy=>?_)
   .rw [List.getElem?_map,Option.map_eq_some_iff] at hx
    obtain⟨nm,hnm,rfl⟩:=hx
    obtain⟨pt,ptin,rfl⟩:=nps nm (List.mem_of_getElem? hnm)
    have sm:(so3 pt.nm).isSome=true:=by rw[fit.dm,decide_eq_true (List.mem_of_getElem? hnm)]
    rcases (z3.sg.same s4).so.get pt.nm with⟨e0,_⟩|⟨c,qq,ec,dg,hqq⟩
    .rw [e0] at sm
     cases sm
    refine⟨_,rfl,(by show 1<=sizeLine; decide),fun p1 h1=>?_⟩
    have s5:Same H4 (upd H4 p1 (.tup [.str pt.nm])):=xo (Same.refl _) h1
    have g5:upd H4 p1 (.tup [.str pt.nm]) p1=some (.tup [.str pt.nm]):=xg
    revert s5 g5
    generalize upd H4 p1 (.tup [.str pt.nm])=H5
    intro s5 g5
    have dg5:DGet H5 d1 (.str pt.nm) (some (.ref qq)):=by
     obtain⟨kk,hk,_,fk⟩:=(z3.sg.same s4).so
     obtain⟨q',a1,a2⟩:=(fk pt.nm).2 c ec
     have g:=DGet.k (k:=.inr pt.nm) (s5 _ _ hk)
     have g':=DGet.k (k:=.inr pt.nm) hk
     rcases dg with⟨kv,k,r1,r2,r3⟩|⟨kv,k,b,_,r2,_⟩
     .have e1:k=.inr pt.nm:=by
       cases k with
       | inl i=>cases r2
       | inr x=>exact congrArg Sum.inr (V.str.inj r2).symm
      subst e1
      rcases r1 with r1|⟨_,r1⟩
      .rw [hk] at r1
       cases r1
       rw[r3]
       exact g
      .rw [hk] at r1
       cases r1
     .cases r2
    refine⟨_,rfl,pz,_,dx3,_,_,rfl,s5 _ _ (s4 _ _ hz3),T.c_ai,T.n_a3,lkZs,p,_,dx3p,_,_,rfl,s5 _ _ (s4 _ _ hp3),T.c_ao,T.n_a2,lkSo,_,rfl,d1,.ref qq,rfl,dg5,p1,qq,_,_,rfl,rfl,SqT.of g5,SqT.of (s5 _ _ hqq),(by simp),(by show 1+2<=sizeLine; decide),(fun z=>nomatch z),fun _ p2 h2=>?_⟩
    exact hN _ _ (s5.trans (xo (Same.refl _) h2)) ⟨p2,c,pt,hnm,ptin,ec,rfl,xg⟩
   rw[List.length_map] at ly
   obtain⟨prs,qs,rfl,pl,en,al⟩:=xmi ly fy
   have z4:=z3.same s4
   obtain⟨dx4,hz4⟩:=z4.ins
   refine⟨_,rfl,_,rfl,pz,_,dx4,_,_,rfl,hz4,T.c_ai,T.n_a7,lkZo,_,rfl,pz,_,dx4,_,_,rfl,hz4,T.c_ai,T.n_a8,lkZr,(by show 3<=sizeLine; decide),fun tp htp=>?_⟩
   have s5:Same H4 (upd H4 tp (.tup [.ref l4,.ref d_o,.ref d_r])):=xo (Same.refl _) htp
   have g5:upd H4 tp (.tup [.ref l4,.ref d_o,.ref d_r]) tp=some (.tup [.ref l4,.ref d_o,.ref d_r]):=xg
   revert s5 g5
   generalize upd H4 tp (.tup [.ref l4,.ref d_o,.ref d_r])=H5
   intro s5 g5
   exact q H5 tp l4 d_o d_r qs prs own rent so3 ho3 ((s3.trans s4).trans s5) g5 (s5 _ _ e4) (pl.keep (Same.tups s5)) en al (s5 _ _ z4.ow) (s5 _ _ z4.rn) r3 (s3.free hl4) g2 g3 ((s3.trans s4).free htp)
end
theorem xlt {a b c:Seat} (h:xbf a b) (k:xbf b c):xbf a c:=by
 unfold xbf at *
 rcases h with⟨h1,h2⟩|⟨h1,h2⟩<;>rcases k with⟨k1,k2⟩|⟨k1,k2⟩
 .exact .inl ⟨h1,k2⟩
 .exact .inl ⟨h1,by rw[<- k1]; exact h2⟩
 .exact .inl ⟨by rw[h1]; exact k1,k2⟩
 .exact .inr ⟨h1.trans k1,by omega⟩
theorem xko {a b:Seat} (h:a≠b):xbf a b\/xbf b a:=by
 obtain⟨a1,a2⟩:=a
 obtain⟨b1,b2⟩:=b
 unfold xbf
 cases a1<;>cases b1
 .have:a2≠b2:=fun e=>h (by rw[e])
  rcases Int.lt_or_gt_of_ne this with z|z
  .exact .inl (.inr ⟨rfl,z⟩)
  .exact .inr (.inr ⟨rfl,z⟩)
 .exact .inr (.inl ⟨rfl,rfl⟩)
 .exact .inl (.inl ⟨rfl,rfl⟩)
 .have:a2≠b2:=fun e=>h (by rw[e])
  rcases Int.lt_or_gt_of_ne this with z|z
  .exact .inl (.inr ⟨rfl,z⟩)
  .exact .inr (.inr ⟨rfl,z⟩)
theorem xf1:∀{ss:List Seat}{x:Seat},ss.Pairwise xbf->x∉ss->∃ srt:List Seat,srt.Perm (x::ss)/\srt.Pairwise xbf
 | [],x,_,_=>⟨[x],List.Perm.refl _,List.pairwise_singleton _ _⟩
 | y::r,x,h,nx=>by
  rw[List.pairwise_cons] at h
  rw[List.mem_cons,not_or] at nx
  by_cases c:xbf x y
  .refine ⟨x::y::r,List.Perm.refl _,List.pairwise_cons.mpr ⟨fun z hz=>?_,List.pairwise_cons.mpr h⟩⟩
   rcases List.mem_cons.mp hz with rfl|hz
   .exact c
   .exact xlt c (h.1 z hz)
  .obtain ⟨srt,pm,lt⟩:=xf1 h.2 nx.2
   refine⟨y::srt,(pm.cons y).trans (List.Perm.swap _ _ _),List.pairwise_cons.mpr ⟨fun z hz=>?_,lt⟩⟩
   rcases List.mem_cons.mp (pm.mem_iff.mp hz) with rfl|hz
   .exact (xko nx.1).resolve_left c
   .exact h.1 z hz
theorem xc9:∀{st:List Seat},st.Nodup->∃ srt:List Seat,srt.Perm st/\srt.Pairwise xbf
 | [],_=>⟨[],.refl _,.nil⟩
 | x::r,h=>by
  obtain⟨h1,h2⟩:=List.nodup_cons.mp h
  obtain⟨s1,p1,l1⟩:=xc9 h2
  obtain⟨s2,p2,l2⟩:=xf1 l1 (fun z=>h1 (p1.mem_iff.mp z))
  exact⟨s2,p2.trans (List.Perm.cons _ p1),l2⟩
theorem xpc {c s:Int} (h:s∈xdn) {n:Nat} (hn:n<=12):((List.range n).map fun (k:Nat)=>ltr ((c+s*(k:Int)) % 26)).Nodup:=by
 rw[List.nodup_iff_pairwise_ne,List.pairwise_map]
 refine List.Pairwise.imp_of_mem (fun {i j} hi hj hij e=>?_) (List.pairwise_lt_range (n:=n))
 rw[List.mem_range] at hi hj
 have e':=xoj (xay _ (by decide)).1 (xay _ (by decide)).1 e
 have hj':j<12:=by omega
 obtain⟨d,rfl⟩:∃ d,j=i+d:=⟨j-i,by omega⟩
 have hd:0<d/\d<12:=by omega
 have hs:∀ z∈xdn,z=1\/z=3\/z=5\/z=7\/z=9\/z=11\/z=15\/z=17\/z=19\/z=21\/z=23\/z=25:=by decide
 rw[Int.natCast_add,Int.mul_add] at e'
 rcases hs s h with rfl|rfl|rfl|rfl|rfl|rfl|rfl|rfl|rfl|rfl|rfl|rfl<;>omega
theorem xqu (k:Bool):∃ x:Int,atI [V.int 6,V.int 12] (if k=true then 1 else 0)=some (.int x)/\1<=x/\x<=12:=by
 cases k
 .exact ⟨6,rfl,by decide,by decide⟩
 .exact ⟨12,rfl,by decide,by decide⟩
theorem xqy (m:Int):∃ x:Str,atI [V.str "left",V.str "both",V.str "right",V.str "both"] (m % 4)=some (.str x)/\(x="left"\/x="right"\/x="both"):=by
 obtain⟨h0,h1⟩:=xay m (show (0:Int)<4 by decide)
 have:m % 4=0\/m % 4=1\/m % 4=2\/m % 4=3:=by omega
 rcases this with e|e|e|e<;>rw[e]
 .exact ⟨"left",rfl,.inl rfl⟩
 .exact ⟨"both",rfl,.inr (.inr rfl)⟩
 .exact ⟨"right",rfl,.inr (.inl rfl)⟩
 .exact ⟨"both",rfl,.inr (.inr rfl)⟩
def xo2 (K:PySem.W.Frag) (t:Adr):Sp:=fun vs H Q _=>∃(sc:Addr) (ns:List Int),vs=[.ref sc]/\SqL K H sc (ns.map V.int)/\∀(H':Hp) (a dp do_:Addr) (w h:Nat) (ps:List Pt) (st ss:List Seat),
 Same H H'->Dr t H' a dp do_ w h ps st ss->xbb (w:Int) (h:Int) ps->Q (.ref a) H'
section
variable {P:Program}{w:World}{K:PySem.W.Frag}{mg:Str->Option Value}{base:Heap}{t:Adr}
theorem ok_z (T:Txt w K mg t):FnOk true P w K mg base (CXo P w) 6 t.f_z t.d_z ["_law_script"] (xo2 K t):=by
 refine T.F_z.okn (k:=5) sc_z (fun vs H Q E h=>?_) (fun cdv A outer s H vs Q E hr h=>?_)
 .obtain ⟨sc,ns,rfl,_⟩:=h
  rfl
 .obtain ⟨sc,ns,rfl,h⟩:=h
  refine⟨_,xh (xed (x8 (ok_ar T) (hr.mono (by decide)) rfl T.g_ar T.F_ar.kp T.b_ar .nil xk (xa (x8 (ok_aa T) (hr.mono (by decide)) rfl T.g_aa T.F_aa.kp T.b_aa .nil xk (xa (pv 0) (xa (xm) (xj)))) (xj))) (xa8 rfl (xt (xn (i:=1) sc_z.nd rfl (Or.inl rfl)) (xt (xn (i:=2) sc_z.nd rfl (Or.inl rfl)) (xa2)))))
   (xh (x0 (i:=3) sc_z.nd rfl (Or.inl rfl) (xas (xl3 rfl) rfl T.n_min boot_min (xa (xbj xbs (xbu (xa (xm) (xa (xm) (xj)))) (xbv xg9 rfl T.n_int boot_int (xa (xdq xcl (xv xa0 (x8 (ok_aa T) (hr.mono (by decide)) rfl T.g_aa T.F_aa.kp T.b_aa .nil xk (xa (pv 0) (xa (xm) (xj)))) (xm)) (xm) (xam _)) (xj))) (fun _ _=>rfl)) (xa (pv 1) (xa (pv 2) (xj))))))
   (xh (x0 (i:=4) sc_z.nd rfl (Or.inl rfl) (xv xa1 (xm) (xv xa0 (xv xb1 (x8 (ok_aa T) (hr.mono (by decide)) rfl T.g_aa T.F_aa.kp T.b_aa .nil xk (xa (pv 0) (xa (xm) (xj)))) (xm)) (pv 3))))
   (xh (x0 (i:=5) sc_z.nd rfl (Or.inl rfl) (x8 (ok_al T) (hr.mono (by decide)) rfl T.g_al T.F_al.kp T.b_al .nil xk (xa (x8 (ok_aa T) (hr.mono (by decide)) rfl T.g_aa T.F_aa.kp T.b_aa .nil xk (xa (pv 0) (xa (xm) (xj)))) (xa (pv 4) (xj)))))
   (xh (x0 (i:=6) sc_z.nd rfl (Or.inl rfl) (x8 (ok_ag T) (hr.mono (by decide)) rfl T.g_ag T.F_ag.kp T.b_ag .nil xk (xa (x8 (ok_aa T) (hr.mono (by decide)) rfl T.g_aa T.F_aa.kp T.b_aa .nil xk (xa (pv 0) (xa (xm) (xj)))) (xa (pv 1) (xa (pv 4) (xj))))))
   (xh (x0 (i:=7) sc_z.nd rfl (Or.inl rfl) (x8 (ok_ag T) (hr.mono (by decide)) rfl T.g_ag T.F_ag.kp T.b_ag .nil xk (xa (xv xb1 (x8 (ok_aa T) (hr.mono (by decide)) rfl T.g_aa T.F_aa.kp T.b_aa .nil xk (xa (pv 0) (xa (xm) (xj)))) (xm)) (xa (pv 2) (xa (pv 4) (xj))))))
   (xh (x0 (i:=8) sc_z.nd rfl (Or.inl rfl) (xeb T.k_i (ok_ae T) (hr.mono (by decide)) rfl T.g_i T.b_ae .nil xk (xa (pv 1) (xa (pv 2) (xj)))))
   (xh (xbe PassesOwn.never rfl (xd0 rfl T.n_range (xa (pv 4) (xj))) (xn (i:=9) sc_z.nd rfl (Or.inl rfl)) (xh (x0 (i:=10) sc_z.nd rfl (Or.inl rfl) (x8 (ok_ap T) (hr.mono (by decide)) rfl T.g_ap T.F_ap.kp T.b_ap .nil xk (xa (x8 (ok_aa T) (hr.mono (by decide)) rfl T.g_aa T.F_aa.kp T.b_aa .nil xk (xa (pv 0) (xa (xm) (xj)))) (xa (pv 9) (xj)))))
   (xh (x0 (i:=11) sc_z.nd rfl (Or.inl rfl) (xv xa1 (xm) (xv xa0 (xv xb1 (pv 10) (xm)) (pv 2))))
   (xh (x0 (i:=12) sc_z.nd rfl (Or.inl rfl) (xv xa1 (pv 11) (xv xa0 (xv xb1 (pv 10) (xm)) (xv xb6 (xv xa1 (pv 2) (xm)) (pv 11)))))
   (xh (xbz (xat (xag xcl (xv xa0 (pv 10) (xm)) (xm) (xam _)) (xh (x0 (i:=11) sc_z.nd rfl (Or.inl rfl) (xm))
   (xl (x0 (i:=12) sc_z.nd rfl (Or.inl rfl) (pv 2)))) (xae)))
   (xl (xav (xak (pv 8) T.c_i T.m_s (ok_s T) (hr.mono (by decide)) T.b_s .nil xk (xar (xbj xbs (pv 5) (pv 9) (fun _ _=>rfl)) (xar (xbj xbs (pv 6) (pv 9) (fun _ _=>rfl)) (xar (xbj xbs (pv 7) (pv 9) (fun _ _=>rfl)) (xar (xbj xbs (xbu (xa (xbm) (xa (xbm) (xa (xbm) (xa (xbm) (xj)))))) (xv xa0 (xv xb1 (pv 10) (xm)) (xm)) (fun _ _=>rfl)) (xar (pv 11) (xar (pv 12) (xj) rfl) rfl) rfl) rfl) rfl) rfl)))))))))
   (xh (x0 (i:=13) sc_z.nd rfl (Or.inl rfl) (xv xa1 (xm) (xv xa0 (x8 (ok_aa T) (hr.mono (by decide)) rfl T.g_aa T.F_aa.kp T.b_aa .nil xk (xa (pv 0) (xa (xm) (xj)))) (xm))))
   (xh (xbe PassesOwn.never rfl (xmo rfl T.n_range (xa (xm) (xa (xv xa1 (pv 2) (xm)) (xj)))) (xn (i:=14) sc_z.nd rfl (Or.inl rfl)) (xl (xbe PassesOwn.never rfl (xaj (xbu (xa (xbm) (xa (xbm) (xj))))) (xn (i:=15) sc_z.nd rfl (Or.inl rfl)) (xh (x0 (i:=16) sc_z.nd rfl (Or.inl rfl) (xv xa1 (xv xdb (xm) (pv 14)) (xbv xg9 rfl T.n_int boot_int (xa (xdq xcl (pv 15) (xbm) (xam _)) (xj)))))
   (xh (x0 (i:=17) sc_z.nd rfl (Or.inl rfl) (xdq xhs (xv xa0 (x8 (ok_ap T) (hr.mono (by decide)) rfl T.g_ap T.F_ap.kp T.b_ap .nil xk (xa (x8 (ok_aa T) (hr.mono (by decide)) rfl T.g_aa T.F_aa.kp T.b_aa .nil xk (xa (pv 0) (xa (xm) (xj)))) (xa (pv 16) (xj)))) (xm)) (pv 13) (xam _)))
   (xh (xbz (xat (xag xcl (xv xa0 (x8 (ok_aa T) (hr.mono (by decide)) rfl T.g_aa T.F_aa.kp T.b_aa .nil xk (xa (pv 0) (xa (xm) (xj)))) (xm)) (xm) (xam _)) (xl (x0 (i:=17) sc_z.nd rfl (Or.inl rfl) (xdq xcl (xv xqw (xv xp2 (x8 (ok_aa T) (hr.mono (by decide)) rfl T.g_aa T.F_aa.kp T.b_aa .nil xk (xa (pv 0) (xa (xm) (xj)))) (pv 16)) (xm)) (xm) (xam _)))) (xae)))
   (xl (xbz (xat (xb2 (pv 17)) (xl (xav (xak (pv 8) T.c_i T.m_f (ok_f T) (hr.mono (by decide)) T.b_f .nil xk (xa (pv 15) (xa (pv 14) (xj)))))) (xae))))))))))
   (xl (xaf (pv 8)))))))))))),?_⟩
  obtain⟨hs,q⟩:=h
  refine⟨_,rfl,sc,ns,0,rfl,hs,by decide,by decide,fun c0=>⟨c0,rfl,fun w ph H1 p1 w1 w2 h1 h2 s1 hp1=>⟨p1,_,rfl,SqT.of hp1,rfl,_,_,rfl,_,_,rfl,rfl,?_⟩⟩⟩
  refine⟨(by show 2<=sizeLine; decide),fun q0 hq0=>?_⟩
  have s2:Same H (upd H1 q0 (.lst [.int 6,.int 12])):=s1.trans (xo (Same.refl _) hq0)
  refine⟨_,rfl,sc,ns,1,rfl,s2.seqL hs,by decide,by decide,fun c1=>⟨_,_,rfl,rfl,(by show (0:Int)<8; decide),rfl,.inr ⟨_,rfl,?_⟩⟩⟩
  obtain⟨mx,emx,mx1,mx2⟩:=xqu (decide (V.int (c1 % 8)=V.int 3))
  refine⟨q0,_,_,.int mx,rfl,rfl,SqL.of xg,emx,_,rfl,_,rfl,_,_,_,rfl,fun m m1 m2 m3 mo=>?_⟩
  have mp:1<=m:=by rcases mo with rfl|rfl|rfl<;>omega
  refine⟨_,rfl,sc,ns,1,rfl,s2.seqL hs,by decide,by decide,fun c1'=>⟨_,_,rfl,rfl,⟨by decide,by decide⟩,_,rfl,_,_,rfl,rfl,(by show 0<m; omega),_,_,rfl,rfl,?_⟩⟩
  have bm:=xay (c1' / 8) (show 0<m by omega)
  obtain⟨n,hn⟩:∃ n:Nat,1+c1' / 8 % m=(n:Int):=⟨(1+c1' / 8 % m).toNat,by omega⟩
  have n1:1<=n/\(n:Int)<=m:=by omega
  refine⟨_,rfl,sc,ns,1,rfl,s2.seqL hs,by decide,by decide,fun c1b=>⟨_,rfl,c1b,n,(by show [V.int c1b,V.int (1+c1' / 8 % m)]=_; rw[hn]),by omega,fun st H2 ln ms s3 hln=>?_⟩⟩
  refine⟨_,rfl,sc,ns,2,rfl,(s2.trans s3).seqL hs,by decide,by decide,fun c2=>⟨_,rfl,_,rfl,c2,w,n,(by show [V.int c2,V.int w,V.int (1+c1' / 8 % m)]=_; rw[hn]),by omega,by omega,fun xs H3 lx lx2 ndx bx s4 hlx=>?_⟩⟩
  refine⟨_,rfl,sc,ns,2,rfl,((s2.trans s3).trans s4).seqL hs,by decide,by decide,fun c2b=>⟨_,_,rfl,rfl,⟨by decide,by decide⟩,_,rfl,_,rfl,c2b / 7,ph,n,(by show [V.int (c2b / 7),V.int ph,V.int (1+c1' / 8 % m)]=_; rw[hn]),by omega,by omega,fun ys H4 ly ly2 ndy by_ s5 hly=>?_⟩⟩
  refine⟨_,rfl,_,rfl,fun a dx hx hdx ne=>⟨a,dx,w,ph,rfl,xg,by omega,by omega,by omega,by omega,fun H5 dp do_ hdp5 hdo5 s6 pic5 hdt5=>⟨rfl,?_⟩⟩⟩
  have k5:Same H4 H5:=fun b u e=>s6 b u (xb e hx) (by rw[xf (xb e hx),xf (xb e hdx)]; exact e)
  have s14:Same H H4:=((s2.trans s3).trans s4).trans s5
  have fr:∀ z,upd (upd H4 dx (.own a)) a (.ins t.C_i dx []) z=none->H z=none:=fun z hz=>by
   cases e:H z with
   | none=>rfl
   | some u =>
    have e4:=s14 _ _ e
    rw[xf (xb e4 hx),xf (xb e4 hdx),e4] at hz
    cases hz
  have fdp:=fr _ hdp5
  have fdo:=fr _ hdo5
  have sAll:Same H H5:=s14.trans k5
  obtain⟨nms,hnms⟩:∃ nms:List Str,nms=(List.range n).map fun (k:Nat)=>ltr ((c1b+st*(k:Int)) % 26):=⟨_,rfl⟩
  have ln2:nms.length=n:=by rw[hnms]; simp
  have ndn:nms.Nodup:=by rw[hnms]; exact xpc ms (by omega)
  have isn:∀ z∈nms,isNm z=true:=fun z hz=>by
   rw[hnms] at hz
   obtain⟨k,_,rfl⟩:=List.mem_map.mp hz
   exact xnp (xay _ (by decide)).1 (xay _ (by decide)).2
  have hln':H2 ln=some (.lst (nms.map V.str)):=by
   rw[hln,hnms,List.map_map]
   rfl
  refine⟨_,rfl,(n:Int),(by show [V.int (1+c1' / 8 % m)]=_; rw[hn]),by omega,by omega,?_⟩
  refine xe0 (Pv:=fun i σ H6=>∃(v9 v10 v11 v12 v13 v14 v15 v16 v17:Option V) (ps:List Pt),σ=[some (.ref sc),some (.int w),some (.int ph),some (.int m),some (.int (1+c1' / 8 % m)),some (.ref ln),some (.ref lx),some (.ref ly),some (.ref a),v9,v10,v11,v12,v13,v14,v15,v16,v17]/\Same H H6/\H6 ln=some (.lst (nms.map V.str))/\H6 lx=some (.lst (xs.map V.int))/\H6 ly=some (.lst (ys.map V.int)) /\
   Pic t H6 a dp do_ w ph ps/\H6 do_=some (.dT [])/\ps.length=i/\ps.map (·.nm)=nms.take i/\ps.map (·.x)=xs.take i/\ps.map (·.y)=ys.take i/\(∀ p∈ps,PtOk w ph p)) ?_ ?_ ?_
  .exact ⟨_,_,_,_,_,_,_,_,_,[],rfl,sAll,k5 _ _ (s5 _ _ (s4 _ _ hln')),k5 _ _ (s5 _ _ hlx),k5 _ _ hly,pic5,hdt5,rfl,rfl,rfl,rfl,fun p hp=>(nomatch hp)⟩
  .rintro i σ H6 hi ⟨v9,v10,v11,v12,v13,v14,v15,v16,v17,ps,rfl,s7,g1,g2,g3,pic6,hdt6,pl,pn,px,py,pok⟩
   have hi':i<n:=by simpa using hi
   obtain⟨dx6,hp6⟩:=pic6.ins
   refine⟨_,rfl,sc,ns,3,rfl,s7.seqL hs,by decide,by decide,fun c3=>⟨_,rfl,c3,(0+(i:Int)),rfl,fun m0 m00 m01=>?_⟩⟩
   refine⟨_,rfl,_,_,rfl,rfl,⟨by decide,by decide⟩,_,rfl,_,_,rfl,rfl,(by show 0<ph; omega),_,_,rfl,rfl,?_⟩
   have b1:=xay (m0 / 6) (show 0<ph by omega)
   refine⟨_,rfl,_,rfl,_,_,rfl,rfl,⟨by decide,by decide⟩,_,rfl,_,_,rfl,rfl,_,rfl,_,_,rfl,rfl,_,_,rfl,rfl,(by show 0<ph+1-(1+m0 / 6 % ph); omega),_,_,rfl,rfl,?_⟩
   have b2:=xay (m0 / 128) (show 0<ph+1-(1+m0 / 6 % ph) by omega)
   refine⟨fun σ H7=>H6=H7/\∃ lo hi:Int,1<=lo/\lo<=hi/\hi<=ph/\σ=[some (.ref sc),some (.int w),some (.int ph),some (.int m),some (.int (1+c1' / 8 % m)),some (.ref ln),some (.ref lx),some (.ref ly),some (.ref a),some (.int (0+(i:Int))),some (.int m0),some (.int lo),some (.int hi),v13,v14,v15,v16,v17],?_,?_⟩
   .refine ⟨_,rfl,_,_,rfl,rfl,(by show (0:Int)<2; decide),rfl,_,rfl,ite2 (fun y=>?_) (fun y=>?_)⟩
    .exact ⟨_,rfl,rfl,1,ph,by omega,by omega,by omega,rfl⟩
    .exact ⟨rfl,1+m0 / 6 % ph,1+m0 / 6 % ph+m0 / 128 % (ph+1-(1+m0 / 6 % ph)),by omega,by omega,by omega,rfl⟩
   rintro _ _ ⟨rfl,lo,hi,lo1,lohi,hih,rfl⟩
   have at_:∀{α:Type} (zs:List α) (f:α->V) (hz:zs.length=n),atI (zs.map f) (0+(i:Int))=some (f (zs[i]'(by omega))):=fun {α} zs f hz=>by
    rw[Int.zero_add]
    exact xcs (by rw[List.getElem?_map,List.getElem?_eq_getElem (by omega)]; rfl)
   obtain⟨sd,esd,hsd⟩:=xqy (m0 / 2)
   have mem_:∀ p∈ps,p.nm≠nms[i]'(by omega)/\p.x≠xs[i]'(by omega)/\p.y≠ys[i]'(by omega):=fun p hp=>by
    have no:∀{α:Type}{zs:List α} (hz:i<zs.length),zs.Nodup->∀ z∈zs.take i,z≠zs[i]:=fun {α}{zs} hz nd z hm e=>by
     have h1:=List.take_append_drop i zs
     rw[List.drop_eq_getElem_cons hz] at h1
     rw[<- h1,List.nodup_append] at nd
     exact nd.2.2 z hm _ List.mem_cons_self e
    refine⟨no _ ndn _ ?_,no _ ndx _ ?_,no _ ndy _ ?_⟩
    .rw [<- pn]; exact List.mem_map.mpr ⟨p,hp,rfl⟩
    .rw [<- px]; exact List.mem_map.mpr ⟨p,hp,rfl⟩
    .rw [<- py]; exact List.mem_map.mpr ⟨p,hp,rfl⟩
   have bxi:=bx (xs[i]'(by omega)) (List.getElem_mem _)
   have byi:=by_ (ys[i]'(by omega)) (List.getElem_mem _)
   refine⟨_,rfl,a,dx6,_,rfl,hp6,xal (by decide +kernel),_,rfl,_,rfl,ln,_,_,_,rfl,rfl,SqL.of g1,at_ nms V.str ln2,_,rfl,_,rfl,lx,_,_,_,rfl,rfl,SqL.of g2,at_ xs V.int lx2,_,rfl,_,rfl,ly,_,_,_,rfl,rfl,SqL.of g3,at_ ys V.int ly2,(by show 4<=sizeLine; decide),fun q3 hq3=>?_⟩
   have s8:Same H6 (upd H6 q3 (.lst [.str "left",.str "both",.str "right",.str "both"])):=xo (Same.refl _) hq3
   refine⟨_,rfl,_,_,rfl,rfl,⟨by decide,by decide⟩,_,_,rfl,rfl,(by show (0:Int)<4; decide),q3,_,_,.str sd,rfl,rfl,SqL.of xg,esd,_,rfl,_,rfl,?_⟩
   refine⟨a,dp,do_,w,ph,ps,nms[i]'(by omega),xs[i]'(by omega),ys[i]'(by omega),sd,lo,hi,.int _,rfl,Pic.same s8 pic6,.inr rfl,isn _ (List.getElem_mem _),bxi.1,bxi.2,byi.1,byi.2,hsd,lo1,lohi,hih,mem_,by omega,fun H7 k7 pic7=>?_⟩
   obtain⟨kvs,hk,_⟩:=pic6.pl
   have tk:∀{α:Type}{zs:List α} (hz:i<zs.length),zs.take (i+1)=zs.take i++[zs[i]]:=fun {α}{zs} hz=>by
    rw[List.take_add_one,List.getElem?_eq_getElem hz]
    rfl
   refine⟨_,_,_,_,_,_,_,_,_,_,rfl,fun b u e=>k7 b u (xb e fdp) (s8 _ _ (s7 b u e)),k7 _ _ (xp g1 hk (fun z=>nomatch z)) (s8 _ _ g1),k7 _ _ (xp g2 hk (fun z=>nomatch z)) (s8 _ _ g2),k7 _ _ (xp g3 hk (fun z=>nomatch z)) (s8 _ _ g3),pic7,k7 _ _ (xp hdt6 hk (fun z=>nomatch z)) (s8 _ _ hdt6),by simp[pl],?_,?_,?_,fun p hp=>?_⟩
   .rw [List.map_append,pn,tk (by omega)]; rfl
   .rw [List.map_append,px,tk (by omega)]; rfl
   .rw [List.map_append,py,tk (by omega)]; rfl
   .rcases List.mem_append.mp hp with z|z
    .exact pok p z
    .rw [List.mem_singleton.mp z]
     exact⟨isn _ (List.getElem_mem _),bxi.1,bxi.2,byi.1,byi.2,hsd,lo1,lohi,hih⟩
  .rintro σ H6 ⟨v9,v10,v11,v12,v13,v14,v15,v16,v17,ps,rfl,s7,g1,g2,g3,pic6,hdt6,pl,pn,px,py,pok⟩
   have pl':ps.length=n:=by simpa using pl
   have tkn:∀{α:Type}{zs:List α},zs.length=n->zs.take ((n:Int).toNat)=zs:=fun {α}{zs} hz=>by
    rw[List.take_of_length_le (by omega)]
   rw[tkn ln2] at pn
   rw[tkn lx2] at px
   rw[tkn ly2] at py
   refine⟨_,rfl,sc,ns,4,rfl,s7.seqL hs,by decide,by decide,fun c4=>⟨_,_,rfl,rfl,(by show (0:Int)<5; decide),_,_,rfl,rfl,?_⟩⟩
   refine⟨_,rfl,_,_,rfl,rfl,1,ph+1,rfl,⟨by decide,by decide,by omega,by omega⟩,?_⟩
   refine xe0 (Pv:=fun j σ H7=>∃(v14 v15 v16 v17:Option V) (st:List Seat),σ=[some (.ref sc),some (.int w),some (.int ph),some (.int m),some (.int (1+c1' / 8 % m)),some (.ref ln),some (.ref lx),some (.ref ly),some (.ref a),v9,v10,v11,v12,some (.int (1+c4 % 5)),v14,v15,v16,v17]/\Same H H7/\H7 ln=some (.lst (nms.map V.str))/\H7 lx=some (.lst (xs.map V.int))/\H7 ly=some (.lst (ys.map V.int)) /\
    Pic t H7 a dp do_ w ph ps/\Sts H7 do_ st/\st.length<=2*j/\∀ s∈st,1<=s.2/\s.2<=(j:Int)) ?_ ?_ ?_
   .exact ⟨_,_,_,_,[],rfl,s7,g1,g2,g3,pic6,⟨[],hdt6,rfl,List.nodup_nil,by decide⟩,Nat.le_refl _,fun s hs=>(nomatch hs)⟩
   .rintro j σ H7 hj ⟨v14,v15,v16,v17,st,rfl,s7',g1',g2',g3',pic7,st7,sl7,sb7⟩
    have hj':(j:Int)<ph:=by omega
    refine⟨(by show 2<=sizeLine; decide),fun le hle=>?_⟩
    have s8:Same H7 (upd H7 le (.lst [.str (Str.ofString "left"),.str (Str.ofString "right")])):=xo (Same.refl _) hle
    have g8:upd H7 le (.lst [.str (Str.ofString "left"),.str (Str.ofString "right")]) le=some (.lst [.str (Str.ofString "left"),.str (Str.ofString "right")]):=xg
    revert s8 g8
    generalize upd H7 le (.lst [.str (Str.ofString "left"),.str (Str.ofString "right")])=H8
    intro s8 g8
    refine⟨le,rfl,⟨_,SqL.of g8⟩,?_⟩
    refine xbg (xs:=[.str (Str.ofString "left"),.str (Str.ofString "right")]) (Pv:=fun i σ H9=>∃(v15 v16 v17:Option V) (st:List Seat),σ=[some (.ref sc),some (.int w),some (.int ph),some (.int m),some (.int (1+c1' / 8 % m)),some (.ref ln),some (.ref lx),some (.ref ly),some (.ref a),v9,v10,v11,v12,some (.int (1+c4 % 5)),some (.int (1+(j:Int))),v15,v16,v17]/\Same H H9/\H9 ln=some (.lst (nms.map V.str))/\H9 lx=some (.lst (xs.map V.int))/\H9 ly=some (.lst (ys.map V.int))/\H9 le=some (.lst [.str (Str.ofString "left"),.str (Str.ofString "right")]) /\
     Pic t H9 a dp do_ w ph ps/\Sts H9 do_ st/\st.length<=2*j+i/\∀ s∈st,1<=s.2/\(s.2<=(j:Int)\/(s.2=1+(j:Int)/\(if s.1 then 0 else 1)<i))) ?_ ?_ ?_ ?_
    .exact ⟨_,_,_,st,rfl,s7'.trans s8,s8 _ _ g1',s8 _ _ g2',s8 _ _ g3',g8,Pic.same s8 pic7,st7.same s8,sl7,fun s hs=>⟨(sb7 s hs).1,.inl (sb7 s hs).2⟩⟩
    .rintro i σ H9 _ ⟨_,_,_,st,rfl,_,_,_,_,e9,_⟩
     exact SqL.of e9
    .rintro i x σ H9 hx ⟨v15,v16,v17,st,rfl,s9,e1,e2,e3,e9,pic9,st9,sl9,sb9⟩
     have hi:i<2:=by
      have:=(List.getElem?_eq_some_iff.mp hx).1
      simpa using this
     obtain⟨sb,esb,isb⟩:∃ sb:Bool,x=.str (xaa sb)/\(if sb then 0 else 1)=i:=by
      have:i=0\/i=1:=by omega
      rcases this with e|e<;>subst e
      .exact ⟨true,(Option.some.inj hx).symm,rfl⟩
      .exact ⟨false,(Option.some.inj hx).symm,rfl⟩
     subst esb
     obtain⟨dx9,hp9⟩:=pic9.ins
     have up:∀ s∈st,1<=s.2/\(s.2<=(j:Int)\/(s.2=1+(j:Int)/\(if s.1 then 0 else 1)<i+1)):=fun s hs=>⟨(sb9 s hs).1,by
      rcases (sb9 s hs).2 with z|⟨z1,z2⟩
      .exact .inl z
      .exact .inr ⟨z1,Nat.lt_succ_of_lt z2⟩⟩
     refine⟨_,rfl,_,_,rfl,rfl,.inl ⟨by decide,by decide⟩,_,rfl,rfl,.inr ⟨_,rfl,_,_,rfl,rfl,?_⟩⟩
     obtain⟨pl,hpl,pl0⟩:∃ pl:Int,pl=2*(1+(j:Int))+(if decide (V.str (xaa sb)=V.str "left")=true then 1 else 0)/\0<=pl:=⟨_,rfl,by split<;>omega⟩
     refine⟨_,rfl,sc,ns,4,rfl,s9.seqL hs,by decide,by decide,fun c5=>⟨_,rfl,c5,_,rfl,fun mm _ _=>?_⟩⟩
     refine⟨_,_,rfl,rfl,(by show (0:Int)<6; decide),_,rfl,_,_,rfl,rfl,?_⟩
     refine⟨fun σ H10=>H9=H10/\∃(v16:Option V) (op:Bool),σ=[some (.ref sc),some (.int w),some (.int ph),some (.int m),some (.int (1+c1' / 8 % m)),some (.ref ln),some (.ref lx),some (.ref ly),some (.ref a),v9,v10,v11,v12,some (.int (1+c4 % 5)),some (.int (1+(j:Int))),some (.str (xaa sb)),v16,some (.bl op)],?_,?_⟩
     .refine ⟨_,rfl,sc,ns,4,rfl,s9.seqL hs,by decide,by decide,fun c6=>⟨_,_,rfl,rfl,(by show (0:Int)<4; decide),rfl,_,rfl,ite2 (fun y=>?_) (fun y=>?_)⟩⟩
      .refine ⟨_,rfl,sc,ns,4,rfl,s9.seqL hs,by decide,by decide,fun c7=>⟨_,rfl,_,_,rfl,rfl,(by show (0:Int)<=2*(1+(j:Int))+(if decide (V.str (xaa sb)=V.str "left")=true then 1 else 0); rw[<- hpl]; exact pl0),_,_,rfl,rfl,rfl,?_⟩⟩
       exact⟨rfl,_,_,rfl⟩
      .exact ⟨rfl,_,_,rfl⟩
     rintro _ _ ⟨rfl,v16',op,rfl⟩
     refine⟨_,?_,fun _ _ z=>z⟩
     refine⟨_,rfl,_,rfl,ite2 (fun y=>?_) (fun y=>⟨_,_,_,st,rfl,s9,e1,e2,e3,e9,pic9,st9,by omega,up⟩)⟩
     have nin:(sb,1+(j:Int))∉st:=fun hm=>by
      rcases (sb9 _ hm).2 with z|⟨_,z⟩
      .have z:1+(j:Int)<=(j:Int):=z
       omega
      .have z:(if sb then 0 else 1)<i:=z
       omega
     obtain⟨ko,hko,_⟩:=id st9
     refine⟨_,rfl,a,dx9,_,rfl,hp9,xal (by decide +kernel),_,rfl,_,rfl,a,dp,do_,w,ph,ps,st,sb,1+(j:Int),rfl,pic9,st9,by omega,by omega,nin,by omega,fun H10 k10 pc10 st10=>?_⟩
     refine⟨_,_,_,st++[(sb,1+(j:Int))],rfl,fun c u e=>k10 _ _ (xb e fdo) (s9 _ _ e),k10 _ _ (xp e1 hko (fun z=>nomatch z)) e1,k10 _ _ (xp e2 hko (fun z=>nomatch z)) e2,k10 _ _ (xp e3 hko (fun z=>nomatch z)) e3,k10 _ _ (xp e9 hko (fun z=>nomatch z)) e9,pc10,st10,by rw[List.length_append,List.length_singleton]; omega,fun s hs=>?_⟩
     rcases List.mem_append.mp hs with z|z
     .exact up s z
     .rw [List.mem_singleton.mp z]
      exact⟨by show (1:Int)<=1+(j:Int); omega,.inr ⟨rfl,by show (if sb then 0 else 1)<i+1; omega⟩⟩
    .rintro σ H9 ⟨v15,v16,v17,st,rfl,s9,e1,e2,e3,e9,pic9,st9,sl9,sb9⟩
     refine⟨_,_,_,_,st,rfl,s9,e1,e2,e3,pic9,st9,?_,fun s hs=>⟨(sb9 s hs).1,?_⟩⟩
     .have sl9:st.length<=2*j+2:=sl9
      omega
     .rcases (sb9 s hs).2 with z|⟨z,_⟩<;>omega
   .rintro σ H7 ⟨v14,v15,v16,v17,st,rfl,s7',g1',g2',g3',pic7,st7,sl7,sb7⟩
    obtain⟨w',rfl⟩:=Int.eq_ofNat_of_zero_le (show 0<=w by omega)
    obtain⟨h',rfl⟩:=Int.eq_ofNat_of_zero_le (show 0<=ph by omega)
    have nds:st.Nodup:=st7.choose_spec.2.2.1
    have l32:st.length<=32:=st7.choose_spec.2.2.2
    obtain⟨srt,pm,lt⟩:=xc9 nds
    refine⟨_,rfl,q H7 a dp do_ w' h' ps st srt s7' ⟨pic7,st7,⟨nds,l32,fun s hs=>⟨(sb7 s hs).1,?_⟩⟩,pm,lt,fun p hp=>(pok p hp).nm⟩ ⟨pok,by rw[pn]; exact ndn,by rw[px]; exact ndx,by rw[py]; exact ndy,by omega⟩⟩
    have:=(sb7 s hs).2
    omega
end
theorem xf8 {ps:List Pt}{i:Nat}{p:Pt} (h:ps[i]?=some p):xa4 (ps.take (i+1))=xa4 (ps.take i)++[p.nm]:=by
 unfold xa4
 rw[List.take_add_one,h,List.map_append]
 rfl
def LwD (H:Hp) (d:Addr) (names:List Str) (lens:Str->List (Seat × Int)):Prop:=LnD H d [] names lens
theorem LwD.same {H H':Hp}{d:Addr}{names:List Str}{lens:Str->List (Seat × Int)} (z:LwD H d names lens) (s:Same H H'):LwD H' d names lens:=let ⟨kvs,e,l,f⟩:=z; ⟨kvs,s _ _ e,l,fun nm h=>let ⟨q,e1,e2,e3⟩:=f nm h; ⟨q,e1,s _ _ e2,e3⟩⟩
theorem LwD.get {H:Hp}{d:Addr}{names:List Str}{lens:Str->List (Seat × Int)} (z:LwD H d names lens) {nm:Str} (h:nm∈names):∃ q,DGet H d (.str nm) (some (.ref q))/\H q=some (.dT (LnT (lens nm))):=by
 obtain⟨kvs,e,_,f⟩:=z
 obtain⟨q,e1,e2,_⟩:=f nm h
 have g:=DGet.k (k:=.inr nm) e
 rw[e1] at g
 exact⟨q,g,e2⟩
def xbx (xs:List (Seat × Int)) (s:Seat):Option Int:=(xs.find? fun x=>decide (x.1=s)).map (·.2)
theorem xgp:∀(xs:List (Seat × Int)) (s:Seat),valV (LnT xs) (xu s)=(xbx xs s).map V.int
 | [],_=>rfl
 | x::xs,s=>by
  show valV ((xu x.1,V.int x.2)::LnT xs) (xu s)=_
  unfold xbx
  by_cases c:x.1=s
  .rw [xa9 (by rw[c]),List.find?_cons_of_pos (by simpa using c)]
   rfl
  .rw [xa7 (fun z=>c (xcw _ _ z)),List.find?_cons_of_neg (by simpa using c)]
   exact xgp xs s
theorem xi4 {xs:List (Seat × Int)}{s:Seat}:(xbx xs s).isSome=decide (s∈xs.map (·.1)):=by
 unfold xbx
 rw[Option.isSome_map,Bool.eq_iff_iff,List.find?_isSome,decide_eq_true_iff,List.mem_map]
 constructor
 .rintro ⟨x,h1,h2⟩
  exact⟨x,h1,of_decide_eq_true h2⟩
 .rintro ⟨x,h1,h2⟩
  exact⟨x,h1,decide_eq_true h2⟩
theorem xco {xs:List (Seat × Int)}{s:Seat}{l:Int} (h:xbx xs s=some l):(s,l)∈xs:=by
 unfold xbx at h
 obtain⟨x,h1,h2⟩:=Option.map_eq_some_iff.mp h
 have h3:=List.find?_some h1
 have h3:x.1=s:=of_decide_eq_true h3
 rw[<- h3,<- h2]
 exact List.mem_of_find?_eq_some h1
def xpi (t:Adr):Sp:=fun vs H Q _=>∃(a dp do_:Addr) (w h:Nat) (ps:List Pt) (st srt:List Seat),vs=[.ref a]/\Dr t H a dp do_ w h ps st srt/\xbb (w:Int) (h:Int) ps/\∀ H' d,Same H H'->H d=none->LwD H' d (xa4 ps) (xq w ps srt)->Q (.ref d) H'
section
variable {P:Program}{w:World}{K:PySem.W.Frag}{mg:Str->Option Value}{base:Heap}{t:Adr}
theorem ok_ab (T:Txt w K mg t):FnOk true P w K mg base (CXo P w) 4 t.f_ab t.d_ab ["_law_picture_here"] (xpi t):=by
 refine T.F_ab.okn (k:=3) sc_ab (fun vs H Q E h=>?_) (fun cdv A outer s H vs Q E hr h=>?_)
 .obtain ⟨a,dp,do_,w',h',ps,st,srt,rfl,_⟩:=h
  rfl
 .obtain ⟨a,dp,do_,w',h',ps,st,srt,rfl,h⟩:=h
  refine⟨_,xh (x0 (i:=1) sc_ab.nd rfl (Or.inl rfl) (xdw))
   (xh (xbe PassesOwn.never rfl (xaj (xa3 (pv 0) T.c_i T.m_j (ok_j T) (hr.mono (by decide)) T.b_j .nil xk)) (xa8 rfl (xt (xn (i:=2) sc_ab.nd rfl (Or.inl rfl)) (xt (xn (i:=3) sc_ab.nd rfl (Or.inl rfl)) (xt (xn (i:=4) sc_ab.nd rfl (Or.inl rfl)) (xt (xn (i:=5) sc_ab.nd rfl (Or.inl rfl)) (xt (xn (i:=6) sc_ab.nd rfl (Or.inl rfl)) (xt (xn (i:=7) sc_ab.nd rfl (Or.inl rfl)) (xa2)))))))) (xh (xca (xau hr) (pv 1) (pv 2) (xds) rfl)
   (xl (xbe PassesOwn.never rfl (xaj (xa3 (pv 0) T.c_i T.m_m (ok_m T) (hr.mono (by decide)) T.b_m .nil xk)) (xa8 rfl (xt (xn (i:=8) sc_ab.nd rfl (Or.inl rfl)) (xt (xn (i:=9) sc_ab.nd rfl (Or.inl rfl)) (xa2)))) (xl (xbz (xat (PW.pt (xmd (xag xg2 (pv 5) (xbu (xa (xbm) (xa (pv 8) (xj)))) (by rfl)) (xjp (xnr xfe xfe (pv 6) (pv 9) (pv 7))))) (xh (x0 (i:=10) sc_ab.nd rfl (Or.inl rfl) (pv 3))
   (xh (xbz (xat (xag xcl (pv 8) (xbm) (xam _)) (xl (x0 (i:=10) sc_ab.nd rfl (Or.inl rfl) (xv xb6 (xv xa1 (xab (pv 0) rfl) (xm)) (pv 3)))) (xae)))
   (xl (xca (xau hr) (xbo (xau hr) (pv 1) (pv 2) (fun _ _=>rfl)) (xaz (xa (pv 8) (xa (pv 9) (xj)))) (xv xa1 (xas xhz rfl T.n_abs boot_abs (xa (xv xb6 (pv 4) (pv 9)) (xj))) (pv 10)) rfl)))) (xae))))))))
   (xl (xaf (pv 1)))),?_⟩
  obtain⟨dr,pok,q⟩:=h
  have BIG:∀{n:Nat},n<=1000->n<sizeLine:=fun h=>Nat.lt_of_le_of_lt h (by decide)
  have s32:srt.length<=32:=by rw[dr.pm.length_eq]; exact dr.ok.2.1
  have ple:=pok.le
  refine fun d hd=>?_
  have s1:Same H (upd H d (.dK [])):=xo (Same.refl _) hd
  have g1:upd H d (.dK []) d=some (.dK []):=xg
  revert s1 g1
  generalize upd H d (.dK [])=H1
  intro s1 g1
  have dr1:=dr.same s1
  obtain⟨⟨dx,hpi⟩,_⟩:=id dr1.pic
  refine⟨_,rfl,a,dx,_,rfl,hpi,xal (by decide +kernel),a,dp,do_,w',h',ps,rfl,dr1.pic,fun H2 lp qs s2 e2 pt2=>?_⟩
  refine⟨lp,rfl,⟨_,SqL.of e2⟩,?_⟩
  have nld:lp≠d:=xp e2 (s2 _ _ g1) (fun z=>nomatch z)
  have pll:=pt2.len
  refine xbg (xs:=qs.map V.ref) (Pv:=fun i σ H3=>∃(v2 v3 v4 v5 v6 v7 v8 v9 v10:Option V),σ=[some (.ref a),some (.ref d),v2,v3,v4,v5,v6,v7,v8,v9,v10]/\(∀ c u,c≠d->H2 c=some u->H3 c=some u)/\LwD H3 d (xa4 (ps.take i)) (xq w' ps srt)) ?_ ?_ ?_ ?_
  .exact ⟨_,_,_,_,_,_,_,_,_,rfl,fun c u _ e=>e,[],s2 _ _ g1,Nat.le_refl _,fun _ h=>(nomatch h)⟩
  .rintro i σ H3 _ ⟨_,_,_,_,_,_,_,_,_,rfl,k3,_⟩
   exact SqL.of (k3 _ _ nld e2)
  .rintro i x σ H3 hx ⟨v2,v3,v4,v5,v6,v7,v8,v9,v10,rfl,k3,kvs,hd3,lk3,f3⟩
   rw[List.getElem?_map,Option.map_eq_some_iff] at hx
   obtain⟨qa,hqa,rfl⟩:=hx
   obtain⟨p,hp,hpq⟩:=pt2.get hqa
   have hf:=xfa pok.nn (List.mem_of_getElem? hp)
   have elen:xq w' ps srt p.nm=(srt.filter (xao p)).map fun s=>(s,lenI (w':Int) p.x p.y s.1 s.2):=by
    unfold xq
    rw[hf]
   have k13:∀ c u,c≠d->H1 c=some u->H3 c=some u:=fun c u nc e=>k3 _ _ nc (s2 _ _ e)
   refine⟨qa,_,rfl,SqT.of (k3 _ _ (xp hpq (s2 _ _ g1) (fun z=>nomatch z)) hpq),rfl,_,_,rfl,_,_,rfl,_,_,rfl,_,_,rfl,_,_,rfl,_,_,rfl,rfl,?_⟩
   refine fun dq hdq=>?_
   have ndq:d≠dq:=xb hd3 hdq
   have s4:Same H3 (upd H3 dq (.dT [])):=xo (Same.refl _) hdq
   have g4:upd H3 dq (.dT []) dq=some (.dT []):=xg
   revert s4 g4
   generalize upd H3 dq (.dT [])=H4
   intro s4 g4
   refine⟨_,rfl,_,rfl,d,_,rfl,DPut.k (k:=.inr p.nm) (s4 _ _ hd3) (BIG (by unfold xa4 at lk3; rw[List.length_map,List.length_take] at lk3; omega)),?_⟩
   have k5:∀ c u,c≠d->H4 c=some u->upd H4 d (.dK (putK kvs (.inr p.nm) (.ref dq))) c=some u:=fun c u nc e=>by rw[xf nc]; exact e
   have e5:upd H4 d (.dK (putK kvs (.inr p.nm) (.ref dq))) d=some (.dK (putK kvs (.inr p.nm) (.ref dq))):=xg
   revert k5 e5
   generalize upd H4 d (.dK (putK kvs (.inr p.nm) (.ref dq)))=H5
   intro k5 e5
   have k15:∀ c u,c≠d->H1 c=some u->H5 c=some u:=fun c u nc e=>k5 _ _ nc (s4 _ _ (k13 _ _ nc e))
   -- the picture is still there
   obtain⟨_,⟨kp,hkp,plp⟩,w1,w2,h1,h2,le⟩:=id dr.pic
   obtain⟨ko,hko,kr⟩:=id dr.sts
   have npd:dp≠d:=xb hkp hd
   have pic5:Pic t H5 a dp do_ (w':Int) (h':Int) ps:=⟨⟨dx,k15 _ _ (xp hpi g1 (fun z=>nomatch z)) hpi⟩,⟨kp,k15 _ _ npd (s1 _ _ hkp),plp.keep (fun c xs e=>k15 _ _ (xb e hd) (s1 _ _ e))⟩,w1,w2,h1,h2,le⟩
   have sts5:Sts H5 do_ st:=⟨ko,k15 _ _ (xb hko hd) (s1 _ _ hko),kr⟩
   have hpi5:=k15 _ _ (xp hpi g1 (fun z=>nomatch z)) hpi
   refine⟨_,rfl,a,dx,_,rfl,hpi5,xal (by decide +kernel),a,dp,do_,w',h',ps,st,rfl,pic5,sts5,fun l6 ss6 us hl6 sl6 pm6 lt6=>?_⟩
   obtain rfl:ss6=srt:=xb9 xdf (pm6.trans dr.pm.symm) lt6 dr.lt
   have g45:=k5 _ _ (Ne.symm ndq) g4
   have nl6:l6≠dq:=fun z=>by rw[z,g45] at hl6; cases hl6
   have s6:Same H5 (upd H5 l6 (.lst (us.map V.ref))):=xo (Same.refl _) hl6
   have g6:upd H5 l6 (.lst (us.map V.ref)) l6=some (.lst (us.map V.ref)):=xg
   revert s6 g6
   generalize upd H5 l6 (.lst (us.map V.ref))=H6
   intro s6 g6
   have sl6':=sl6.keep (Same.tups s6)
   have usl:=sl6.len
   refine⟨l6,rfl,⟨_,SqL.of g6⟩,?_⟩
   refine xbg (xs:=us.map V.ref) (Pv:=fun j σ H7=>∃(v8 v9 v10:Option V),σ=[some (.ref a),some (.ref d),some (.str p.nm),some (.int p.x),some (.int p.y),some (.str p.sd),some (.int p.lo),some (.int p.hi),v8,v9,v10]/\(∀ c u,c≠dq->H6 c=some u->H7 c=some u)/\H7 dq=some (.dT (LnT (((ss6.take j).filter (xao p)).map fun s=>(s,lenI (w':Int) p.x p.y s.1 s.2))))) ?_ ?_ ?_ ?_
   .exact ⟨_,_,_,rfl,fun c u _ e=>e,s6 _ _ g45⟩
   .rintro j σ H7 _ ⟨_,_,_,rfl,k7,_⟩
    exact SqL.of (k7 _ _ nl6 g6)
   .rintro j x σ H7 hx ⟨v8,v9,v10,rfl,k7,e7⟩
    rw[List.getElem?_map,Option.map_eq_some_iff] at hx
    obtain⟨qs_,hqs,rfl⟩:=hx
    obtain⟨s,hs,hsq⟩:=sl6'.get hqs
    have hsq7:=k7 _ _ (xp hsq (s6 _ _ g45) (fun z=>nomatch z)) hsq
    refine⟨qs_,_,rfl,SqT.of hsq7,rfl,_,_,rfl,_,_,rfl,rfl,?_⟩
    refine⟨_,?_,fun _ _ z=>z⟩
    have tk:ss6.take (j+1)=ss6.take j++[s]:=by
     rw[List.take_add_one,hs]
     rfl
    have no:xao p s=false->((ss6.take (j+1)).filter (xao p))=(ss6.take j).filter (xao p):=fun e=>by
     rw[tk,List.filter_append,List.filter_cons_of_neg (by rw[e]; decide)]
     simp
    have yes:xao p s=true->((ss6.take (j+1)).filter (xao p))=(ss6.take j).filter (xao p)++[s]:=fun e=>by
     rw[tk,List.filter_append,List.filter_cons_of_pos e]
     rfl
    refine⟨_,rfl,_,rfl,(by show 2<=sizeLine; decide),fun l8 hl8=>?_⟩
    have s8:Same H7 (upd H7 l8 (.lst [.str (Str.ofString "both"),.str (xaa s.1)])):=xo (Same.refl _) hl8
    have g8:upd H7 l8 (.lst [.str (Str.ofString "both"),.str (xaa s.1)]) l8=some (.lst [.str (Str.ofString "both"),.str (xaa s.1)]):=xg
    revert s8 g8
    generalize upd H7 l8 (.lst [.str (Str.ofString "both"),.str (xaa s.1)])=H8
    intro s8 g8
    have k8:∀ c u,c≠dq->H6 c=some u->H8 c=some u:=fun c u nc e=>s8 _ _ (k7 _ _ nc e)
    have e8:=s8 _ _ e7
    refine⟨l8,_,rfl,.inl (SqL.of g8),rfl,rfl,_,rfl,ite2 (fun y1=>?_) (fun y1=>?_)⟩
    .rw [if_neg (by decide),xgc] at y1
     refine⟨_,rfl,_,rfl,_,_,rfl,rfl,_,rfl,ite2 (fun y2=>?_) (fun y2=>?_)⟩
     .refine ⟨_,rfl,_,_,rfl,rfl,_,rfl,ite2 (fun y3=>?_) (fun y3=>?_)⟩
      .have wt:xao p s=true:=by
        unfold xao
        rw[y1,y2,y3]
        rfl
       refine⟨_,rfl,?_⟩
       refine⟨fun σ H9=>H8=H9/\σ=[some (.ref a),some (.ref d),some (.str p.nm),some (.int p.x),some (.int p.y),some (.str p.sd),some (.int p.lo),some (.int p.hi),some (.str (xaa s.1)),some (.int s.2),some (.int (if s.1 then p.x else (w':Int)+1-p.x))],?_,?_⟩
       .have hpi8:=k8 _ _ (xp hpi5 g45 (fun z=>nomatch z)) (s6 _ _ hpi5)
        refine⟨_,rfl,rfl,_,rfl,ite2 (fun y4=>?_) (fun y4=>?_)⟩
        .have e4:s.1=false:=by
          cases hh:s.1 with
          | false=>rfl
          | true=>rw[hh] at y4; exact absurd y4 (by decide +kernel)
         refine⟨_,rfl,a,_,_,_,_,rfl,hpi8,T.c_i,T.n_a0,lkW,_,_,rfl,rfl,_,rfl,_,_,rfl,rfl,rfl,?_⟩
         rw[e4]
         rfl
        .have e4:s.1=true:=by
          cases hh:s.1 with
          | true=>rfl
          | false=>rw[hh] at y4; exact absurd (by decide +kernel) y4
         refine⟨rfl,?_⟩
         rw[e4]
         rfl
       rintro _ _ ⟨rfl,rfl⟩
       have hd8:H8 d=some (.dK (putK kvs (.inr p.nm) (.ref dq))):=k8 _ _ ndq (s6 _ _ e5)
       have dg:DGet H8 d (.str p.nm) (some (.ref dq)):=by
        have g:=DGet.k (k:=.inr p.nm) hd8
        rw[xcb,if_pos rfl] at g
        exact g
       refine⟨_,rfl,_,rfl,_,_,rfl,rfl,_,rfl,_,rfl,_,_,rfl,rfl,_,rfl,_,rfl,d,.ref dq,rfl,dg,_,rfl,_,rfl,(by show 2<=sizeLine; decide),fun q9 hq9=>?_⟩
       have s9:Same H8 (upd H8 q9 (.tup [.str (xaa s.1),.int s.2])):=xo (Same.refl _) hq9
       have g9:upd H8 q9 (.tup [.str (xaa s.1),.int s.2]) q9=some (.tup [.str (xaa s.1),.int s.2]):=xg
       revert s9 g9
       generalize upd H8 q9 (.tup [.str (xaa s.1),.int s.2])=H9
       intro s9 g9
       have e9:=s9 _ _ e8
       have new:valV (LnT (((ss6.take j).filter (xao p)).map fun s=>(s,lenI (w':Int) p.x p.y s.1 s.2))) (xu s)=none:=by
        rw[xgp]
        have z:¬ (xbx (((ss6.take j).filter (xao p)).map fun s=>(s,lenI (w':Int) p.x p.y s.1 s.2)) s).isSome=true:=by
         rw[xi4,List.map_map,decide_eq_true_iff]
         intro z
         obtain⟨s',hs',ee⟩:=List.mem_map.mp z
         have ee:s'=s:=ee
         subst ee
         obtain⟨hj,ej⟩:=List.getElem?_eq_some_iff.mp hs
         have snd:ss6.Nodup:=dr.pm.nodup_iff.mpr dr.ok.1
         exact xcq id (ps:=ss6) (by rw[List.map_id]; exact snd) hj s' (List.mem_filter.mp hs').1 ej.symm
        cases hz:xbx (((ss6.take j).filter (xao p)).map fun s=>(s,lenI (w':Int) p.x p.y s.1 s.2)) s with
        | none=>rfl
        | some v=>rw[hz] at z; exact absurd rfl z
       have fl:((ss6.take j).filter (xao p)).length<=32:=Nat.le_trans (List.length_filter_le _ _) (by rw[List.length_take]; omega)
       refine⟨dq,_,rfl,DPut.t (k:=xu s) e9 g9 (by unfold LnT; rw[List.length_map,List.length_map]; exact BIG (by omega)),?_⟩
       refine⟨_,_,_,rfl,fun c u nc e=>by rw[xf nc]; exact s9 _ _ (k8 _ _ nc e),?_⟩
       rw[xg,xcf _ new,yes wt]
       unfold LnT
       rw[List.map_append,List.map_append]
       have ev:V.int ((if p.y-s.2<0 then -(p.y-s.2) else p.y-s.2)+(if s.1 then p.x else (w':Int)+1-p.x))=V.int (lenI (w':Int) p.x p.y s.1 s.2):=by
        unfold lenI
        rw[Int.add_comm]
       show some (HO.dT (_++[(xu s,V.int ((if p.y-s.2<0 then -(p.y-s.2) else p.y-s.2)+(if s.1 then p.x else (w':Int)+1-p.x)))]))=some (HO.dT (_++[(xu s,V.int (lenI (w':Int) p.x p.y s.1 s.2))]))
       rw[ev]
      .have wf:xao p s=false:=by
        unfold xao
        rw[y1,y2,Bool.eq_false_iff.mpr y3]
        rfl
       exact⟨_,_,_,rfl,k8,by rw[no wf]; exact e8⟩
     .have wf:xao p s=false:=by
       unfold xao
       rw[y1,Bool.eq_false_iff.mpr y2]
       rfl
      exact⟨_,rfl,_,_,_,rfl,k8,by rw[no wf]; exact e8⟩
    .rw [if_neg (by decide),xgc] at y1
     have wf:xao p s=false:=by
      unfold xao
      rw[Bool.eq_false_iff.mpr y1]
      rfl
     exact⟨_,_,_,rfl,k8,by rw[no wf]; exact e8⟩
   .rintro σ H7 ⟨v8,v9,v10,rfl,k7,e7⟩
    rw[List.length_map,usl,List.take_length,<- elen] at e7
    have k57:∀ c u,c≠dq->H5 c=some u->H7 c=some u:=fun c u nc e=>k7 _ _ nc (s6 _ _ e)
    have g45':=g45
    refine⟨_,_,_,_,_,_,_,_,_,rfl,fun c u nc e=>?_,putK kvs (.inr p.nm) (.ref dq),k57 _ _ ndq e5,?_,fun nm hn=>?_⟩
    .have e3':=k3 _ _ nc e
     exact k57 _ _ (xb e3' hdq) (k5 _ _ nc (s4 _ _ e3'))
    .rw [xf8 hp,List.length_append,List.length_singleton]
     have:=xbl kvs (.inr p.nm) (.ref dq)
     omega
    .rw [xf8 hp] at hn
     rw[xcb]
     by_cases c:nm=p.nm
     .subst c
      exact⟨dq,by rw[if_pos rfl],e7,fun z=>(nomatch z)⟩
     .rw [if_neg (fun y=>c (Sum.inr.inj y))]
      rcases List.mem_append.mp hn with hn|hn
      .obtain ⟨q0,a1,a2,a3⟩:=f3 nm hn
       have nq:q0≠d:=xp a2 hd3 (fun z=>nomatch z)
       exact⟨q0,a1,k57 _ _ (xb a2 hdq) (k5 _ _ nq (s4 _ _ a2)),a3⟩
      .exact absurd (List.mem_singleton.mp hn) c
  .rintro σ H3 ⟨v2,v3,v4,v5,v6,v7,v8,v9,v10,rfl,k3,lw⟩
   rw[List.length_map,pll,List.take_length] at lw
   exact⟨_,rfl,q H3 d (fun c u e=>k3 _ _ (xb e hd) (s2 _ _ (s1 _ _ e))) hd lw⟩
end
theorem xjl {α:Type}{r:α->Int} (h:∀ a,r a<=0):∀ l:List α,(l.map r).sum<=0
 | []=>Int.le_refl _
 | a::l=>by
  rw[List.map_cons,List.sum_cons]
  have:=h a
  have:=xjl h l
  omega
theorem xn0 {α:Type}{r:α->Int}:∀ l:List α,(∀ a∈l,r a=0)->(l.map r).sum=0
 | [],_=>rfl
 | a::l,h=>by
  rw[List.map_cons,List.sum_cons,h a (List.mem_cons_self ..),xn0 l fun b hb=>h b (List.mem_cons_of_mem _ hb)]
  rfl
theorem xen {α:Type}{r:α->Int}{l m:List α} (p:l.Perm m):(l.map r).sum=(m.map r).sum:=by
 induction p with
 | nil=>rfl
 | cons x _ ih=>rw[List.map_cons,List.map_cons,List.sum_cons,List.sum_cons,ih]
 | swap x y l=>simp only[List.map_cons,List.sum_cons]; omega
 | trans _ _ h1 h2=>rw[h1,h2]
theorem xgn {α:Type} [DecidableEq α] {r:α->Int} (h:∀ a,r a<=0):∀{T ss:List α},T.Nodup->(∀ a∈T,a∈ss)->(ss.map r).sum<=(T.map r).sum
 | [],ss,_,_=>xjl h ss
 | x::T,ss,nd,sub=>by
  rw[List.nodup_cons] at nd
  have hx:=sub x (List.mem_cons_self ..)
  rw[xen (List.perm_cons_erase hx),List.map_cons,List.map_cons,List.sum_cons,List.sum_cons]
  have:=xgn h (T:=T) (ss:=ss.erase x) nd.2 (fun a ha=>(List.mem_erase_of_ne (fun e:a=x=>nd.1 (e▸ha))).mpr (sub a (List.mem_cons_of_mem _ ha)))
  omega
theorem xly {α:Type} [DecidableEq α] {r:α->Int}:∀{T ss:List α},T.Nodup->ss.Nodup->(∀ a∈T,a∈ss)->(∀ a∈ss,a∉T->r a=0)->(ss.map r).sum=(T.map r).sum
 | [],ss,_,_,_,z=>xn0 ss fun a ha=>z a ha (fun y=>nomatch y)
 | x::T,ss,nd,snd,sub,z=>by
  rw[List.nodup_cons] at nd
  have hx:=sub x (List.mem_cons_self ..)
  have pm:=List.perm_cons_erase hx
  have nd2:=pm.nodup_iff.mp snd
  rw[List.nodup_cons] at nd2
  rw[xen pm,List.map_cons,List.map_cons,List.sum_cons,List.sum_cons]
  rw[xly (T:=T) (ss:=ss.erase x) nd.2 nd2.2 (fun a ha=>(List.mem_erase_of_ne (fun e:a=x=>nd.1 (e▸ha))).mpr (sub a (List.mem_cons_of_mem _ ha))) (fun a ha na=>z a (List.mem_of_mem_erase ha) (fun y=>by
   rcases List.mem_cons.mp y with y|y
   .rw [y] at ha; exact nd2.1 ha
   .exact na y))]
def lenP (lens:Str->List (Seat × Int)) (p:Pr):Int:=(xbx (lens p.1.nm) p.2).getD 0
def xby (lens:Str->List (Seat × Int)) (prs:List Pr):Int:=(prs.map (lenP lens)).sum
def gvL (lens:Str->List (Seat × Int)) (names:List Str) (prs:List Pr):Bool:=decide (prs.map (·.1.nm)=names)&&(decide ((prs.map (·.2)).Nodup)&&prs.all fun p=>decide (p.2∈xai lens p.1.nm))
theorem xgl {lens:Str->List (Seat × Int)}{names:List Str}{prs:List Pr}:gvL lens names prs=true↔prs.map (·.1.nm)=names/\(prs.map (·.2)).Nodup/\∀ p∈prs,p.2∈xai lens p.1.nm:=by
 unfold gvL
 rw[Bool.and_eq_true,Bool.and_eq_true,decide_eq_true_iff,decide_eq_true_iff,List.all_eq_true]
 simp only[decide_eq_true_eq]
theorem xci {lens:Str->List (Seat × Int)}{n:Str}{s:Seat} (h:s∈xai lens n):∃ l,xbx (lens n) s=some l:=by
 have:=xi4 (xs:=lens n) (s:=s)
 rw[decide_eq_true (show s∈(lens n).map (·.1) from h)] at this
 exact Option.isSome_iff_exists.mp this
theorem xlq {α:Type}{f g:α->Int}:∀{l:List α},(∀ a∈l,f a<=g a)->(l.map f).sum<=(l.map g).sum
 | [],_=>Int.le_refl _
 | a::l,h=>by
  rw[List.map_cons,List.map_cons,List.sum_cons,List.sum_cons]
  have:=h a (List.mem_cons_self ..)
  have:=xlq (l:=l) fun b hb=>h b (List.mem_cons_of_mem _ hb)
  omega
theorem xfx {α:Type}{f g:α->Int}:∀ l:List α,(l.map fun a=>f a+g a).sum=(l.map f).sum+(l.map g).sum
 | []=>rfl
 | a::l=>by
  rw[List.map_cons,List.map_cons,List.map_cons,List.sum_cons,List.sum_cons,List.sum_cons,xfx l]
  omega
section
variable {lens:Str->List (Seat × Int)}{names:List Str}{so:Str->Option Seat}{ho:Seat->Option Str}{own:Str->Int}{rent:Seat->Int}{ss:List Seat}
theorem xj7 {prs:List Pr} (e:prs.map (·.1.nm)=names):(prs.map fun p=>own p.1.nm).sum=(names.map own).sum:=by
 rw[<- e,List.map_map]
 rfl
theorem Fit.dual (f:Fit lens names so ho own rent) (lo:xce lens ss) {prs:List Pr} (g:gvL lens names prs=true):(names.map own).sum+(ss.map rent).sum<=xby lens prs:=by
 obtain⟨e,nd,al⟩:=xgl.mp g
 have h1:(prs.map fun p=>own p.1.nm+rent p.2).sum<=xby lens prs:=xlq fun p hp=>by
  obtain⟨l,hl⟩:=xci (al p hp)
  have:=f.le p.1.nm (by rw[<- e]; exact List.mem_map.mpr ⟨p,hp,rfl⟩) (p.2,l) (xco hl)
  unfold lenP
  rw[hl]
  exact this
 rw[xfx,xj7 e] at h1
 have h2:=xgn f.rl nd (fun s hs=>by
  obtain⟨p,hp,rfl⟩:=List.mem_map.mp hs
  exact lo.ins _ _ (al p hp)) (ss:=ss)
 rw[List.map_map] at h2
 have h3:(prs.map (rent∘fun p=>p.2)).sum=(prs.map fun p=>rent p.2).sum:=rfl
 omega
theorem Fit.tight (f:Fit lens names so ho own rent) (lo:xce lens ss) (nnd:names.Nodup) {prs:List Pr} (e:prs.map (·.1.nm)=names) (al:∀ p∈prs,so p.1.nm=some p.2):gvL lens names prs=true/\xby lens prs=(names.map own).sum+(ss.map rent).sum:=by
 have nd:(prs.map (·.2)).Nodup:=by
  rw[List.Nodup,List.pairwise_iff_getElem]
  intro i j hi hj lt z
  rw[List.length_map] at hi hj
  rw[List.getElem_map,List.getElem_map] at z
  have a1:=al _ (List.getElem_mem hi)
  have a2:=al _ (List.getElem_mem hj)
  rw[z] at a1
  have:=f.mt.inj a1 a2
  rw[<- e] at nnd
  exact absurd this (by
   have y:=List.pairwise_iff_getElem.mp nnd i j (by rw[List.length_map]; exact hi) (by rw[List.length_map]; exact hj) lt
   rw[List.getElem_map,List.getElem_map] at y
   exact y)
 have rm:∀ p∈prs,p.2∈xai lens p.1.nm:=fun p hp=>f.mt.rm _ _ (al p hp)
 refine⟨xgl.mpr ⟨e,nd,rm⟩,?_⟩
 have h1:xby lens prs=(prs.map fun p=>own p.1.nm+rent p.2).sum:=by
  unfold xby
  congr 1
  refine List.map_congr_left fun p hp=>?_
  obtain⟨l,hl⟩:=xci (rm p hp)
  unfold lenP
  rw[hl]
  exact (f.eq _ _ (al p hp) l (xco hl)).symm
 rw[h1,xfx,xj7 e]
 have h2:=xly (r:=rent) nd lo.snd (fun s hs=>by
  obtain⟨p,hp,rfl⟩:=List.mem_map.mp hs
  exact lo.ins _ _ (rm p hp)) (fun s hs ns=>f.r0 s (by
  cases z:ho s with
  | none=>rfl
  | some n =>
   have y:=(f.mt.iff n s).mpr z
   have nin:n∈names:=by
    have:=f.dm n
    rw[y] at this
    simpa using this.symm
   rw[<- e] at nin
   obtain⟨p,hp,rfl⟩:=List.mem_map.mp nin
   rw[al p hp] at y
   exact absurd (List.mem_map.mpr ⟨p,hp,Option.some.inj y⟩) ns))
 rw[h2,List.map_map]
 rfl
end
theorem xlm {K:PySem.W.Frag}{H:Hp}{l:Addr}{nms:List Str} (e:H l=some (.lst (nms.map V.str))):Dv K H 1 (.ref l) (.lst (nms.map DV.str)):=.lst (SqL.of e) (by rw[List.length_map,List.length_map]) fun j x d h1 h2=>by
 rw[List.getElem?_map,Option.map_eq_some_iff] at h1 h2
 obtain⟨z,hz,rfl⟩:=h1
 obtain⟨z',hz',rfl⟩:=h2
 rw[hz] at hz'
 cases hz'
 exact .str
theorem xgx:∀ l:List Str,pls (l.map DV.str)=true
 | []=>rfl
 | _::r=>by
  show (true&&pls (r.map DV.str))=true
  rw[xgx r]
  rfl
theorem xrk (as bs:List Str):dEq (.lst (as.map DV.str)) (.lst (bs.map DV.str))=decide (as=bs):=xgq (x:=as) (y:=bs) (xgx as) (xgx bs) (by
 constructor
 .intro h
  injection h with h
  exact List.map_inj_right (fun a b e=>by injection e) |>.mp h
 .intro h
  rw[h])
theorem LnT.get {H:Hp}{q b:Addr}{xs:List (Seat × Int)}{s:Seat} (h:H q=some (.dT (LnT xs))) (hb:H b=some (.tup (xax s))):DGet H q (.ref b) ((xbx xs s).map V.int):=by
 have g:=DGet.t (k:=xu s) h hb
 rw[xgp] at g
 exact g
structure GvF (lens:Str->List (Seat × Int)) (names:List Str) (f:Str->Seat):Prop where
 rm:∀ n∈names,f n∈xai lens n
 inj:∀ a∈names,∀ b∈names,f a=f b->a=b
def xbk (lens:Str->List (Seat × Int)) (names:List Str) (f:Str->Seat):Int:=(names.map fun n=>(xbx (lens n) (f n)).getD 0).sum
structure xb7 (lens:Str->List (Seat × Int)) (names:List Str) (T:Int):Prop where
 has:∃ f,GvF lens names f/\xbk lens names f=T
 le:∀ f,GvF lens names f->T<=xbk lens names f
def mkPr (f:Str->Seat) (n:Str):Pr:=(⟨n,0,0,n,0,0⟩,f n)
section
variable {lens lens':Str->List (Seat × Int)}{names names':List Str}{so:Str->Option Seat}{ho:Seat->Option Str}{own:Str->Int}{rent:Seat->Int}{ss:List Seat}{f:Str->Seat}{T T':Int}
theorem GvF.prs (g:GvF lens names f) (nnd:names.Nodup):gvL lens names (names.map (mkPr f))=true/\xby lens (names.map (mkPr f))=xbk lens names f:=by
 refine⟨xgl.mpr ⟨?_,?_,fun p hp=>?_⟩,?_⟩
 .rw [List.map_map]
  exact List.map_id _
 .rw [List.map_map,List.nodup_iff_pairwise_ne,List.pairwise_map]
  exact List.Pairwise.imp_of_mem (fun {a b} ha hb ne e=>ne (g.inj a ha b hb e)) nnd
 .obtain ⟨n,hn,rfl⟩:=List.mem_map.mp hp
  exact g.rm n hn
 .unfold xby xbk
  rw[List.map_map]
  rfl
theorem Fit.leastF (fit:Fit lens names so ho own rent) (lo:xce lens ss) (nnd:names.Nodup) {prs:List Pr} (e:prs.map (·.1.nm)=names) (al:∀ p∈prs,so p.1.nm=some p.2):xb7 lens names (xby lens prs)/\xby lens prs=(names.map own).sum+(ss.map rent).sum/\∃ f,GvF lens names f/\xbk lens names f=xby lens prs/\∀ n∈names,f n∈prs.map (·.2):=by
 obtain⟨gv,tight⟩:=fit.tight lo nnd e al
 have h1:∀ n∈names,∃ p∈prs,p.1.nm=n/\so n=some p.2:=fun n hn=>by
  rw[<- e] at hn
  obtain⟨p,hp,rfl⟩:=List.mem_map.mp hn
  exact⟨p,hp,rfl,al p hp⟩
 have g:GvF lens names (fun n=>(so n).getD (true,0)):=by
  refine⟨fun n hn=>?_,fun a ha b hb z=>?_⟩
  .obtain ⟨p,_,_,e1⟩:=h1 n hn
   show (so n).getD (true,0)∈_
   rw[e1]
   exact fit.mt.rm _ _ e1
  .obtain ⟨p,_,_,e1⟩:=h1 a ha
   obtain⟨p',_,_,e2⟩:=h1 b hb
   have z:(so a).getD (true,0)=(so b).getD (true,0):=z
   rw[e1,e2] at z
   have z:p.2=p'.2:=z
   rw[z] at e1
   exact fit.mt.inj e1 e2
 have c:xbk lens names (fun n=>(so n).getD (true,0))=xby lens prs:=by
  unfold xbk xby
  rw[<- e,List.map_map]
  refine congrArg List.sum (List.map_congr_left fun p hp=>?_)
  show (xbx (lens p.1.nm) ((so p.1.nm).getD (true,0))).getD 0=lenP lens p
  rw[al p hp]
  rfl
 refine⟨⟨⟨_,g,c⟩,fun f2 g2=>?_⟩,tight,_,g,c,fun n hn=>?_⟩
 .obtain ⟨y1,y2⟩:=g2.prs nnd
  rw[tight,<- y2]
  exact fit.dual lo y1
 .obtain ⟨p,hp,_,e1⟩:=h1 n hn
  show (so n).getD (true,0)∈_
  rw[e1]
  exact List.mem_map.mpr ⟨p,hp,rfl⟩
theorem xb7.le_of (a:xb7 lens names T) (b:xb7 lens' names' T') (h:∀ f,GvF lens names f->∃ g,GvF lens' names' g/\xbk lens' names' g<=xbk lens names f):T'<=T:=by
 obtain⟨f,g,e⟩:=a.has
 obtain⟨f',g',le⟩:=h f g
 have:=b.le f' g'
 omega
end
section
variable {w:Nat}{h:Int}{ps ps':List Pt}{srt srt':List Seat}{names names':List Str}{f:Str->Seat}{T T':Int}
theorem GvF.mt (g:GvF (xq w ps srt) names f):∃ so2 ho2,Kp.Mt (xa6 ps srt) so2 ho2/\∀ z∈names,(so2 z).isSome=true:=by
 refine⟨fun n=>if n∈names then some (f n) else none,fun s=>names.find? fun n=>decide (f n=s),⟨fun n s=>?_,fun n s e=>?_⟩,fun z hz=>by simp[hz]⟩
 .constructor
  .intro e
   by_cases c:n∈names
   .simp only [c,if_true] at e
    have e:f n=s:=Option.some.inj e
    cases z:names.find? fun n=>decide (f n=s) with
    | none =>
     have:=List.find?_eq_none.mp z n c
     simp[e] at this
    | some m =>
     have h1:=List.mem_of_find?_eq_some z
     have h2:decide (f m=s)=true:=List.find?_some (p:=fun n=>decide (f n=s)) z
     rw[g.inj m h1 n c (by rw[of_decide_eq_true h2,e])]
   .simp [c] at e
  .intro e
   have h1:=List.mem_of_find?_eq_some e
   have h2:decide (f n=s)=true:=List.find?_some (p:=fun n=>decide (f n=s)) e
   simp only[h1,if_true]
   rw[of_decide_eq_true h2]
 .by_cases c:n∈names
  .simp only [c,if_true] at e
   rw[<- Option.some.inj e,<- xc4 (w:=w)]
   exact g.rm n c
  .simp [c] at e
theorem xol (nd:(ps.map (·.nm)).Nodup) {p:Pt} (hp:p∈ps):xq w ps srt p.nm=(srt.filter (xao p)).map fun s=>(s,lenI (w:Int) p.x p.y s.1 s.2):=by
 unfold xq
 rw[xfa nd hp]
theorem xig (nd:(ps.map (·.nm)).Nodup) {p:Pt} (hp:p∈ps) {s:Seat}:s∈xai (xq w ps srt) p.nm↔s∈srt/\xao p s=true:=by
 rw[xc4]
 unfold xa6
 rw[xfa nd hp]
 exact List.mem_filter
theorem xh9 (nd:(ps.map (·.nm)).Nodup) {p:Pt} (hp:p∈ps) {s:Seat} (hs:s∈xai (xq w ps srt) p.nm):(xbx (xq w ps srt p.nm) s).getD 0=lenI (w:Int) p.x p.y s.1 s.2:=by
 obtain⟨l,hl⟩:=xci hs
 have:=xco hl
 rw[xol nd hp] at this
 obtain⟨s',_,e⟩:=List.mem_map.mp this
 have e1:=(Prod.mk.inj e).1
 have e2:=(Prod.mk.inj e).2
 rw[hl,<- e2,e1]
 rfl
theorem GvF.move (nd:(ps.map (·.nm)).Nodup) (nd':(ps'.map (·.nm)).Nodup) (φ:Seat->Seat) (fp:Pt->Pt) (nin:∀ n∈names,∃ p∈ps,p.nm=n) (hn:∀ p∈ps,fp p∈ps'/\(fp p).nm=p.nm) (pm:names'.Perm names)
    (hs:∀ p∈ps,p.nm∈names->f p.nm∈srt->xao p (f p.nm)=true->φ (f p.nm)∈srt'/\xao (fp p) (φ (f p.nm))=true/\lenI (w:Int) (fp p).x (fp p).y (φ (f p.nm)).1 (φ (f p.nm)).2=lenI (w:Int) p.x p.y (f p.nm).1 (f p.nm).2)
    (inj:∀ s t,φ s=φ t->s=t) (g:GvF (xq w ps srt) names f):GvF (xq w ps' srt') names' (fun n=>φ (f n))/\xbk (xq w ps' srt') names' (fun n=>φ (f n))=xbk (xq w ps srt) names f:=by
  have key:∀ n∈names,φ (f n)∈xai (xq w ps' srt') n/\(xbx (xq w ps' srt' n) (φ (f n))).getD 0=(xbx (xq w ps srt n) (f n)).getD 0:=fun n hn'=>by
    obtain⟨p,hp,rfl⟩:=nin n hn'
    have r:=g.rm _ hn'
    obtain⟨r1,r2⟩:=(xig nd hp).mp r
    obtain⟨a1,a2,a3⟩:=hs p hp hn' r1 r2
    obtain⟨b1,b2⟩:=hn p hp
    have r':φ (f p.nm)∈xai (xq w ps' srt') p.nm:=by
      rw[<- b2,xig nd' b1,b2]
      exact⟨a1,a2⟩
    refine⟨r',?_⟩
    rw[xh9 nd hp r,<- a3]
    have:=xh9 (w:=w) (srt:=srt') nd' b1 (s:=φ (f p.nm)) (by rw[b2]; exact r')
    rw[b2] at this
    exact this
  refine⟨⟨fun n hn'=>(key n (pm.mem_iff.mp hn')).1,fun a ha b hb e=>g.inj a (pm.mem_iff.mp ha) b (pm.mem_iff.mp hb) (inj _ _ e)⟩,?_⟩
  unfold xbk
  rw[xen pm]
  exact congrArg List.sum (List.map_congr_left fun n hn'=>(key n hn').2)
structure Sym (w:Nat) (h:Int) (fp:Pt->Pt) (φ:Seat->Seat):Prop where
 nm:∀ p,(fp p).nm=p.nm
 pp:∀ p,fp (fp p)=p
 ss:∀ s,φ (φ s)=s
 wt:∀ p s,PtOk (w:Int) h p->xao (fp p) (φ s)=xao p s
 ln:∀(p:Pt) (s:Seat),lenI (w:Int) (fp p).x (fp p).y (φ s).1 (φ s).2=lenI (w:Int) p.x p.y s.1 s.2
theorem Sym.inj {fp:Pt->Pt}{φ:Seat->Seat} (y:Sym w h fp φ) (s t:Seat) (e:φ s=φ t):s=t:=by rw[<- y.ss s,e,y.ss]
theorem Sym.to {fp:Pt->Pt}{φ:Seat->Seat} (y:Sym w h fp φ) (pok:xbb (w:Int) h ps) (pok':xbb (w:Int) h (ps.map fp)) (ms:∀ s∈srt,φ s∈srt') (nin:∀ n∈names,∃ p∈ps,p.nm=n) (pm:names'.Perm names) (g:GvF (xq w ps srt) names f):GvF (xq w (ps.map fp) srt') names' (fun n=>φ (f n))/\xbk (xq w (ps.map fp) srt') names' (fun n=>φ (f n))=xbk (xq w ps srt) names f :=
 g.move pok.nn pok'.nn φ fp nin (fun p hp=>⟨List.mem_map.mpr ⟨p,hp,rfl⟩,y.nm p⟩) pm (fun p hp _ r1 r2=>⟨ms _ r1,by rw[y.wt _ _ (pok.ok p hp)]; exact r2,y.ln p _⟩) y.inj
theorem Sym.same {fp:Pt->Pt}{φ:Seat->Seat} (y:Sym w h fp φ) (pok:xbb (w:Int) h ps) (pok':xbb (w:Int) h (ps.map fp)) (ms:∀ s∈srt,φ s∈srt') (ms':∀ s∈srt',φ s∈srt) (nin:∀ n∈names,∃ p∈ps,p.nm=n) (pm:names'.Perm names) (a:xb7 (xq w ps srt) names T) (b:xb7 (xq w (ps.map fp) srt') names' T'):T'=T:=by
 have h1:=a.le_of b fun f g=>⟨_,(y.to pok pok' ms nin pm g).1,Int.le_of_eq (y.to pok pok' ms nin pm g).2⟩
 have e:(ps.map fp).map fp=ps:=by
  rw[List.map_map,show fp∘fp=id from funext y.pp]
  exact List.map_id _
 have h2:=b.le_of a fun f g=>by
  have z:=y.to (ps:=ps.map fp) (srt:=srt') (srt':=srt) pok' (by rw[e]; exact pok) ms' (fun n hn=>by
   obtain⟨p,hp,en⟩:=nin n (pm.mem_iff.mp hn)
   exact⟨fp p,List.mem_map.mpr ⟨p,hp,rfl⟩,by rw[y.nm,en]⟩) pm.symm g
  rw[e] at z
  exact⟨_,z.1,Int.le_of_eq z.2⟩
 omega
theorem xpj:Sym w h (fun p=>p) (fun s=>s):=⟨fun _=>rfl,fun _=>rfl,fun _=>rfl,fun _ _ _=>rfl,fun _ _=>rfl⟩
theorem xox:Sym w h (turP h) (turS h):=by
 refine⟨fun _=>rfl,fun p=>?_,fun s=>?_,fun p s _=>?_,fun p s=>?_⟩
 .unfold turP
  rcases p with⟨_,_,_,_,_,_⟩
  simp only[Pt.mk.injEq]
  refine⟨trivial,trivial,?_,trivial,?_,?_⟩<;>omega
 .unfold turS
  exact Prod.ext rfl (by show h+1-(h+1-s.2)=s.2; omega)
 .unfold xao turP turS
  simp only
  rw[Bool.and_comm (decide (h+1-p.hi<=_))]
  congr 2<;>exact decide_eq_decide.mpr (by omega)
 .unfold lenI turP turS
  simp only
  have e:(h+1-p.y)-(h+1-s.2)=-(p.y-s.2):=by omega
  rw[e]
  split<;>split<;>split<;>omega
theorem xnj {sd:Str} (h:sd="left"\/sd="right"\/sd="both") (b:Bool):(decide (xdj sd="both")||decide (xdj sd=xaa (!b)))=(decide (sd="both")||decide (sd=xaa b)):=by
 rcases h with rfl|rfl|rfl<;>cases b<;>decide +kernel
theorem xot:Sym w h (mirP (w:Int)) mirS:=by
 refine⟨fun _=>rfl,fun p=>?_,fun s=>?_,fun p s ok=>?_,fun p s=>?_⟩
 .unfold mirP xdj
  rcases p with⟨_,_,_,sd,_,_⟩
  simp only[Pt.mk.injEq]
  refine⟨trivial,by omega,trivial,?_,trivial,trivial⟩
  by_cases c:sd="left"
  .subst c
   decide +kernel
  .rw [if_neg c]
   by_cases c2:sd="right"
   .subst c2
    decide +kernel
   .rw [if_neg c2,if_neg c,if_neg c2]
 .unfold mirS
  exact Prod.ext (Bool.not_not s.1) rfl
 .unfold xao mirP mirS
  simp only
  congr 1
  exact xnj ok.sd s.1
 .unfold lenI mirP mirS
  simp only
  cases s.1<;>simp<;>omega
theorem GvF.seats (nd:(ps.map (·.nm)).Nodup) (nin:∀ n∈names,∃ p∈ps,p.nm=n) (sub:∀ n∈names,f n∈srt->f n∈srt') (g:GvF (xq w ps srt) names f):GvF (xq w ps srt') names f/\xbk (xq w ps srt') names f=xbk (xq w ps srt) names f :=
 g.move nd nd (fun s=>s) (fun p=>p) nin (fun p hp=>⟨hp,rfl⟩) (.refl _) (fun p hp hn r1 r2=>⟨sub _ hn r1,r2,rfl⟩) (fun _ _ e=>e)
theorem GvF.less (pok:xbb (w:Int) h ps) {x:Str} (nin:∀ n∈names,∃ p∈ps,p.nm=n) (pm:names.Perm (x::names')) (g:GvF (xq w ps srt) names f):GvF (xq w ps srt) names' f/\xbk (xq w ps srt) names' f<xbk (xq w ps srt) names f:=by
 have sub:∀ n∈names',n∈names:=fun n hn=>pm.mem_iff.mpr (List.mem_cons_of_mem _ hn)
 refine⟨⟨fun n hn=>g.rm n (sub n hn),fun a ha b hb e=>g.inj a (sub a ha) b (sub b hb) e⟩,?_⟩
 unfold xbk
 rw[xen pm,List.map_cons,List.sum_cons]
 have hx:x∈names:=pm.mem_iff.mpr (List.mem_cons_self ..)
 obtain⟨p,hp,rfl⟩:=nin x hx
 rw[xh9 pok.nn hp (g.rm _ hx)]
 have ok:=pok.ok p hp
 have:=ok.x1
 have:=ok.x2
 have:1<=lenI (w:Int) p.x p.y (f p.nm).1 (f p.nm).2:=by
  unfold lenI
  split<;>split<;>omega
 omega
end
theorem xej {α:Type}:∀{l:List α}{k:Nat}{x:α},l[k]?=some x->l.Perm (x::l.eraseIdx k)
 | [],k,x,h=>by simp at h
 | y::l,0,x,h=>by
  have h:y=x:=by simpa using h
  rw[h]
  exact .refl _
 | y::l,k+1,x,h=>by
  have h:l[k]?=some x:=by simpa using h
  exact ((xej h).cons y).trans (.swap _ _ _)
theorem xph {α:Type} (m:Int) {xs:List α} (h:xs≠[]) (h2:xs.length<=1000):∃ j y,xs[j]?=some y/\-(2 ^ 63)<=m % (xs.length:Int)/\m % (xs.length:Int)<2 ^ 63/\seqIndex? (m % (xs.length:Int)) xs.length=some j/\0<(xs.length:Int):=by
 have l0:0<xs.length:=List.length_pos_iff.mpr h
 have lp:(0:Int)<(xs.length:Int):=by omega
 obtain⟨k0,k1⟩:=xay m lp
 obtain⟨j,hj⟩:=Int.eq_ofNat_of_zero_le k0
 have jl:j<xs.length:=by
  have z:=k1
  rw[hj] at z
  omega
 exact⟨j,xs[j],List.getElem?_eq_getElem jl,by omega,by omega,by rw[seqIndex_of k0 k1,hj]; rfl,lp⟩
theorem xhe {α β:Type} (f:α->β):∀(l:List α) (k:Nat),(l.map f).eraseIdx k=(l.eraseIdx k).map f
 | [],_=>rfl
 | _::_,0=>rfl
 | x::r,k+1=>by
  show f x::(r.map f).eraseIdx k=f x::(r.eraseIdx k).map f
  rw[xhe f r k]
theorem xhv {H:Hp}{P:Seat->Prop}:∀{ys:List V},(∀(j:Nat) (y:V),ys[j]?=some y->∃ q s,y=.ref q/\H q=some (.tup (xax s))/\P s)->∃(rs:List Addr) (ss:List Seat),ys=rs.map V.ref/\xah H ss rs/\∀ s∈ss,P s
 | [],_=>⟨[],[],rfl,.nil,fun s hs=>(nomatch hs)⟩
 | y::ys,f=>by
  obtain⟨q,s,e,hq,hs⟩:=f 0 y rfl
  obtain⟨rs,ss,e2,sl,al⟩:=xhv (P:=P) (ys:=ys) (fun j y h=>f (j+1) y (by simpa using h))
  exact⟨q::rs,s::ss,by rw[e,e2]; rfl,.cons hq sl,fun z hz=>by
   rcases List.mem_cons.mp hz with rfl|hz
   .exact hs
   .exact al z hz⟩
theorem xmq {α:Type}{f:α->V}{xs:List α} (m:Int) (h:xs≠[]):∃(j:Nat) (y:α),xs[j]?=some y/\atI (xs.map f) (m % (xs.length:Int))=some (f y)/\0<(xs.length:Int):=by
 have l0:0<xs.length:=List.length_pos_iff.mpr h
 have lp:(0:Int)<(xs.length:Int):=by omega
 obtain⟨k0,k1⟩:=xay m lp
 obtain⟨j,hj⟩:=Int.eq_ofNat_of_zero_le k0
 have jl:j<xs.length:=by
  rw[hj] at k1
  omega
 exact⟨j,xs[j],List.getElem?_eq_getElem jl,by rw[hj]; exact xcs (by rw[List.getElem?_map,List.getElem?_eq_getElem jl]; rfl),lp⟩
theorem Fit.rb {lens:Str->List (Seat × Int)}{names:List Str}{so:Str->Option Seat}{ho:Seat->Option Str}{own:Str->Int}{rent:Seat->Int}{ss:List Seat} (f:Fit lens names so ho own rent) (lo:xce lens ss) (s:Seat):-1200<=rent s/\rent s<=0:=by
 refine⟨?_,f.rl s⟩
 cases z:ho s with
 | none=>rw[f.r0 s z]; omega
 | some n =>
  have e:=(f.mt.iff n s).mpr z
  obtain⟨l,hl⟩:=xci (f.mt.rm _ _ e)
  have h1:=f.eq _ _ e l (xco hl)
  have nin:n∈names:=by
   have:=f.dm n
   rw[e] at this
   simpa using this.symm
  have h2:=f.ob n nin
  have h3:0<=l/\l<=46:=lo.b _ _ (xco hl)
  omega
def xj5 (t:Adr):Sp:=fun vs H Q _=>∃(a ln dp do_:Addr) (w h:Nat) (ps:List Pt) (st srt:List Seat) (names:List Str),vs=[.ref a,.ref ln]/\Dr t H a dp do_ w h ps st srt/\xbb (w:Int) (h:Int) ps/\H ln=some (.lst (names.map V.str))/\(∀ nm∈names,∃ p∈ps,p.nm=nm)/\names.Nodup/\names.length<=12/\(∃ f,GvF (xq w ps srt) names f) /\
 ∀ H' T,Same H H'->xb7 (xq w ps srt) names T->Q (.int T) H'
def xka:Sp:=fun vs H Q _=>∃(ln:Addr) (c:Int) (names:List Str),vs=[.ref ln,.int c]/\H ln=some (.lst (names.map V.str))/\names.length<=12 /\
 ∀(H':Hp) (l:Addr) (names':List Str),Same H H'->H' l=some (.lst (names'.map V.str))->names'.Perm names->Q (.ref l) H'
section
variable {P:Program}{w:World}{K:PySem.W.Frag}{mg:Str->Option Value}{base:Heap}{t:Adr}
theorem ok_am (T:Txt w K mg t):FnOk true P w K mg base (CXo P w) 2 t.f_am t.d_am ["_law_names_here", "_law_cell_here"] (xka):=by
 refine T.F_am.okn (k:=1) sc_am (fun vs H Q E h=>?_) (fun cdv A outer s H vs Q E hr h=>?_)
 .obtain ⟨ln,c,names,rfl,_⟩:=h
  rfl
 .obtain ⟨ln,c,names,rfl,h⟩:=h
  refine⟨_,xh (x0 (i:=2) sc_am.nd rfl (Or.inr rfl) (xbv xe4 rfl T.n_list boot_list (xa (pv 0) (xj))))
   (xl (xaf (xbn rfl (xa5 (zs:=["_law_k"]) (ys:=["_law_left", "_law_cell_here"]) (fr:=[2,1]) (N0:=["_law_names_here", "_law_cell_here", "_law_left"]) (sc0:=xi s_am) (by decide +kernel) rfl rfl rfl) (xd0 rfl T.n_range (xa (xas xbd rfl T.n_len boot_len (xa (pv 0) (xj))) (xj))) (fun _ _ _ _ _ ow nd=>xn (i:=0) nd rfl (Or.inl (ow _ (by simp))) (Or.inr (ow _ (by simp)))) (xbw (by decide)) (fun _ _ _ _ _=>xbh) (fun _ _ _ _ _=>xqp (K:=K) rfl PySem.F.plainAttrs_list PySem.F.slot_list_pop PySem.F.type_list_pop xir (pv 1) (xa (xv xa0 (x8 (ok_ap T) (hr.mono (by decide)) rfl T.g_ap T.F_ap.kp T.b_ap .nil xk (xa (pv 2) (xa (pv 0) (xj)))) (xas (r:=fun xs H Q=>∃ p ys,xs=[.ref p]/\(SqL K H p ys\/SqT K H p ys)/\Q (.int ys.length) H) xbd rfl T.n_len boot_len (xa (pv 1) (xj)))) (xj)))))),?_⟩
  obtain⟨hln,n12,q⟩:=h
  refine⟨_,rfl,ln,_,rfl,.inl (SqL.of hln),fun ll hll=>?_⟩
  have s1:Same H (upd H ll (.lst (names.map V.str))):=xo (Same.refl _) hll
  have g1:upd H ll (.lst (names.map V.str)) ll=some (.lst (names.map V.str)):=xg
  revert s1 g1
  generalize upd H ll (.lst (names.map V.str))=H1
  intro s1 g1
  refine⟨_,rfl,ln,_,rfl,.inl (SqL.of (s1 _ _ hln)),_,rfl,by rw[List.length_map]; omega,by rw[List.length_map]; omega,fun l2 hl2=>?_⟩
  have n2:ll≠l2:=xb g1 hl2
  refine xbp (names.map V.str).length (fun i zs H2=>∃(left done:List Str),zs=done.map V.str/\Same H H2/\H2 l2=some (.lst zs)/\H2 ll=some (.lst (left.map V.str))/\(left++done).Perm names/\done.length=i) ?_ ?_ ?_ ?_
  .exact ⟨names,[],rfl,s1.trans (xo (Same.refl _) hl2),xg,by rw[xf n2]; exact g1,by rw[List.append_nil],rfl⟩
  .rintro i zs H2 lt _
   exact lt
  .rintro i zs H2 v H3 lt ⟨left,done,rfl,s2,h2l,h2ll,pm,dl⟩ ⟨rfl,rfl⟩ N hN
   rw[List.length_map] at lt
   have ll0:left.length+i=names.length:=by
    have:=pm.length_eq
    rw[List.length_append] at this
    omega
   have lne:left≠[]:=fun z=>by rw[z,List.length_nil] at ll0; omega
   unfold xc6
   refine xe8 ?_
   refine⟨_,rfl,.inl ⟨rfl,_,SqL.of h2ll⟩,_,rfl,_,rfl,c,_,rfl,fun m _ _=>?_⟩
   obtain⟨j,y,hj,b1,b2,hsi,b3⟩:=xph m (xs:=left.map V.str) (by simpa using lne) (by rw[List.length_map]; omega)
   refine⟨_,rfl,ll,_,rfl,.inl (SqL.of h2ll),_,_,rfl,rfl,b3,ll,_,_,j,y,rfl,rfl,h2ll,b1,b2,hsi,hj,?_⟩
   rw[List.getElem?_map,Option.map_eq_some_iff] at hj
   obtain⟨nm,hnm,rfl⟩:=hj
   rw[xhe]
   refine⟨by rw[xf (Ne.symm n2)]; exact h2l,by rw[List.length_map]; exact Nat.lt_of_le_of_lt (by omega:_<=1000) (by decide),hN _ _ ⟨left.eraseIdx j,done++[nm],by rw[List.map_append]; rfl,fun b u e=>?_,xg,by rw[xf n2,xg],?_,by rw[List.length_append,dl]; rfl⟩⟩
   .rw [xf (xb (s1 _ _ e) hl2),xf (xb e hll)]
    exact s2 _ _ e
   .refine List.Perm.trans ?_ pm
    refine List.Perm.trans ?_ (List.Perm.append_right done (xej hnm)).symm
    rw[<- List.append_assoc]
    exact List.perm_append_comm
  rintro zs H2 ⟨left,done,rfl,s2,h2l,h2ll,pm,dl⟩
  refine⟨Nat.le_refl _,q _ _ done s2 h2l ?_⟩
  rw[List.length_map] at dl
  have:left=[]:=by
   have:=pm.length_eq
   rw[List.length_append] at this
   exact List.eq_nil_of_length_eq_zero (by omega)
  rw[this] at pm
  exact pm
theorem ok_af (T:Txt w K mg t):FnOk true P w K mg base (CXo P w) 10 t.f_af t.d_af ["_law_picture_here", "_law_names_here"] (xj5 t):=by
 refine T.F_af.okn (k:=9) sc_af (fun vs H Q E h=>?_) (fun cdv A outer s H vs Q E hr h=>?_)
 .obtain ⟨a,ln,dp,do_,w',h',ps,st,srt,names,rfl,_⟩:=h
  rfl
 .obtain ⟨a,ln,dp,do_,w',h',ps,st,srt,names,rfl,h⟩:=h
  refine⟨_,xh (x0 (i:=2) sc_af.nd rfl (Or.inr rfl) (x8 (ok_ab T) (hr.mono (by decide)) rfl T.g_ab T.F_ab.kp T.b_ab .nil xk (xa (pv 0) (xj))))
   (xh (xed (x8 (xi0 T) (hr.mono (by decide)) rfl T.g_least T.F_least.kp T.b_least .nil xk (xa (pv 0) (xa (xbv xe4 rfl T.n_list boot_list (xa (pv 1) (xj))) (xj)))) (xa8 rfl (xt (xn (i:=3) sc_af.nd rfl (Or.inl rfl)) (xt (xn (i:=4) sc_af.nd rfl (Or.inl rfl)) (xt (xn (i:=5) sc_af.nd rfl (Or.inl rfl)) (xa2))))))
   (xh (x0 (i:=6) sc_af.nd rfl (Or.inl rfl) (xas (xeu rfl) rfl T.n_sum PyProof.Rows.Boot.«sum» (xa (xbn rfl (xa5 (zs:=["_law_name", "_law_side", "_law_row"]) (ys:=["_law_lengths_here"]) (fr:=[2]) (N0:=["_law_picture_here", "_law_names_here", "_law_lengths_here", "_law_pairs", "_law_own", "_law_rent", "_law_steps_here"]) (sc0:=xi s_af) (by decide +kernel) rfl rfl rfl) (xaj (pv 3)) (fun _ _ _ _ _ ow nd=>(xa8 rfl (xt (xn (i:=0) nd rfl (Or.inl (ow _ (by simp))) (Or.inr (ow _ (by simp)))) (xt (xn (i:=1) nd rfl (Or.inl (ow _ (by simp))) (Or.inr (ow _ (by simp)))) (xt (xn (i:=2) nd rfl (Or.inl (ow _ (by simp))) (Or.inr (ow _ (by simp)))) (xa2)))):PG _ _ (gTup K 3 _))) (xb0 (xac (by decide) (xac (by decide) (xac (by decide) (xbr))))) (fun _ _ _ _ _=>xbh) (fun _ _ _ _ _=>xbo (xau hr) (xbo (xau hr) (pv 3) (pv 0) (fun _ _=>rfl)) (xaz (xa (pv 1) (xa (pv 2) (xj)))) (fun _ _=>rfl))) (xj))))
   (xh (xat (PW.pt (xdk (xag xf2 (xas xbd rfl T.n_len boot_len (xa (pv 3) (xj))) (xas xbd rfl T.n_len boot_len (xa (pv 1) (xj))) (xam _)) (xcu (xag xf2 (pv 6) (xv xa1 (xas (xeu rfl) rfl T.n_sum PyProof.Rows.Boot.«sum» (xa (xi8 rfl rfl T.n_list (pv 4)) (xj))) (xas (xeu rfl) rfl T.n_sum PyProof.Rows.Boot.«sum» (xa (xi3 rfl rfl T.n_list (pv 5)) (xj)))) (xam _))))) (xl (xaf (xcj))) (xae))
   (xl (xaf (pv 6)))))),?_⟩
  obtain⟨dr,pok,hln,nps,nnd,n12,⟨f0,gv0⟩,q⟩:=h
  have w30:w'<=30:=by have:=dr.pic.w2; omega
  have h16:h'<=16:=by have:=dr.pic.h2; omega
  have lo:=xgs w30 h16 pok dr.ok dr.pm
  have s32:srt.length<=32:=by rw[dr.pm.length_eq]; exact dr.ok.2.1
  refine⟨_,rfl,a,dp,do_,w',h',ps,st,srt,rfl,dr,pok,fun H1 d s1 fd lw=>?_⟩
  refine⟨_,rfl,_,rfl,ln,_,rfl,.inl (SqL.of (s1 _ _ hln)),fun ll hll=>?_⟩
  have s2:Same H1 (upd H1 ll (.lst (names.map V.str))):=xo (Same.refl _) hll
  have g2:upd H1 ll (.lst (names.map V.str)) ll=some (.lst (names.map V.str)):=xg
  revert s2 g2
  generalize upd H1 ll (.lst (names.map V.str))=H2
  intro s2 g2
  have s02:=s1.trans s2
  refine⟨a,ll,dp,do_,w',h',ps,st,srt,names,rfl,dr.same s02,pok,g2,nps,nnd,n12,gv0.mt,fun H3 tp lp d_o d_r qs prs own rent so' ho' s3 htp hlp pl en al ow rn run _ _ _ _=>?_⟩
  have fit:=run.fit
  obtain⟨lf,tight,_⟩:=fit.leastF lo nnd en (fun p hp=>(al p hp).2)
  have s03:=s02.trans s3
  have lw3:=lw.same (s2.trans s3)
  have qll:=pl.len
  have prl:prs.length=names.length:=by
   have:=congrArg List.length en
   rw[List.length_map] at this
   exact this
  have alr:∀ p∈prs,p.1.nm∈xa4 ps/\p.2∈xai (xq w' ps srt) p.1.nm:=fun p hp=>⟨List.mem_map.mpr ⟨p.1,(al p hp).1,rfl⟩,fit.mt.rm _ _ (al p hp).2⟩
  refine⟨tp,_,rfl,SqT.of htp,rfl,_,_,rfl,_,_,rfl,_,_,rfl,rfl,?_⟩
  refine⟨_,rfl,lp,rfl,⟨_,SqL.of hlp⟩,fun l1 hl1=>?_⟩
  refine xcg (SqL.of hlp) (by rw[List.length_map]; exact Nat.lt_of_le_of_lt (by omega:_<=1000) (by decide)) hl1 (fun i y _=>∃ p:Pr,prs[i]?=some p/\y=.int (lenP (xq w' ps srt) p)) (fun _ _ _ _ _ z=>z) (fun i x H4 hx s4 N hN=>?_) (fun ys H4 s4 e4 ly fy=>?_)
  .rw [List.getElem?_map,Option.map_eq_some_iff] at hx
   obtain⟨qa,hqa,rfl⟩:=hx
   obtain⟨p,hp,hpq⟩:=pl.get hqa
   obtain⟨an,ar⟩:=alr p (List.mem_of_getElem? hp)
   obtain⟨qd,dg,hqd⟩:=(lw3.same s4).get an
   obtain⟨l,hl⟩:=xci ar
   refine⟨qa,_,rfl,SqT.of (s4 _ _ hpq),rfl,_,_,rfl,_,_,rfl,_,_,rfl,rfl,_,rfl,_,rfl,d,.ref qd,rfl,dg,_,rfl,_,rfl,(by show 2<=sizeLine; decide),fun q5 hq5=>?_⟩
   have s5:Same H4 (upd H4 q5 (.tup [.str (xaa p.2.1),.int p.2.2])):=xo (Same.refl _) hq5
   have dg2:=LnT.get (s:=p.2) (s5 _ _ hqd) (b:=q5) xg
   rw[hl] at dg2
   refine⟨qd,.int l,rfl,dg2,hN _ _ s5 ⟨p,hp,?_⟩⟩
   unfold lenP
   rw[hl]
   rfl
  have ey:ys=(prs.map (lenP (xq w' ps srt))).map V.int:=by
   refine xf9 (by rw[ly,List.length_map,List.length_map,qll]) fun i y b hy hb=>?_
   obtain⟨p,hp,rfl⟩:=fy i y hy
   rw[List.getElem?_map,hp] at hb
   cases hb
   rfl
  rw[ey] at e4
  have s04:=s03.trans s4
  refine⟨l1,_,rfl,SqL.of e4,⟨by rw[List.length_map]; omega,fun n hn=>?_⟩,?_⟩
  .obtain ⟨p,hp,rfl⟩:=List.mem_map.mp hn
   obtain⟨l,hl⟩:=xci (alr p hp).2
   have:=lo.b _ _ (xco hl)
   unfold lenP
   rw[hl]
   show -1000000<=l/\l<=1000000
   have:0<=l/\l<=46:=this
   omega
  refine⟨_,rfl,lp,_,rfl,.inl (SqL.of (s4 _ _ hlp)),_,rfl,ln,_,rfl,.inl (SqL.of (s04 _ _ hln)),rfl,_,rfl,?_⟩
  refine ifN (by rw[List.length_map,List.length_map,qll,prl]; simp) ?_
  refine⟨_,rfl,_,rfl,d_o,_,rfl,s4 _ _ ow,fun l5 hl5=>?_⟩
  have eo:(names.map fun n=>((.inr n:Key),V.int (own n))).map (·.2)=(names.map own).map V.int:=by
   rw[List.map_map,List.map_map]
   rfl
  rw[eo]
  have s5:Same H4 (upd H4 l5 (.lst ((names.map own).map V.int))):=xo (Same.refl _) hl5
  have g5:upd H4 l5 (.lst ((names.map own).map V.int)) l5=some (.lst ((names.map own).map V.int)):=xg
  revert s5 g5
  generalize upd H4 l5 (.lst ((names.map own).map V.int))=H5
  intro s5 g5
  refine⟨l5,_,rfl,SqL.of g5,⟨by rw[List.length_map]; omega,fun n hn=>?_⟩,?_⟩
  .obtain ⟨z,hz,rfl⟩:=List.mem_map.mp hn
   have:=fit.ob z hz
   have:=fit.o0 z hz
   omega
  refine⟨_,rfl,d_r,_,rfl,s5 _ _ (s4 _ _ rn),fun l6 hl6=>?_⟩
  have er:(srt.map fun s=>(xu s,V.int (rent s))).map (·.2)=(srt.map rent).map V.int:=by
   rw[List.map_map,List.map_map]
   rfl
  rw[er]
  have s6:Same H5 (upd H5 l6 (.lst ((srt.map rent).map V.int))):=xo (Same.refl _) hl6
  have g6:upd H5 l6 (.lst ((srt.map rent).map V.int)) l6=some (.lst ((srt.map rent).map V.int)):=xg
  revert s6 g6
  generalize upd H5 l6 (.lst ((srt.map rent).map V.int))=H6
  intro s6 g6
  refine⟨l6,_,rfl,SqL.of g6,⟨by rw[List.length_map]; omega,fun n hn=>?_⟩,?_⟩
  .obtain ⟨z,hz,rfl⟩:=List.mem_map.mp hn
   have:=fit.rb lo z
   omega
  refine⟨_,_,rfl,rfl,rfl,_,rfl,?_⟩
  refine ifN (by
   rw[show (prs.map (lenP (xq w' ps srt))).sum=_ from tight]
   simp) ?_
  exact⟨_,rfl,q _ _ ((s04.trans s5).trans s6) lf⟩
end
def xhp (K:PySem.W.Frag):Sp:=fun vs H Q _=>∃(a:Addr) (ns:List Int),vs=[.ref a]/\SqL K H a (ns.map V.int)/\ns.length<=63/\∀ H',Q (.bl true) H'
theorem xmp (ns:List Int):∃ ms:List Int,cutV (ns.map V.int) (some 6) (some 14)=ms.map V.int/\ms.length<=8:=by
 refine⟨(ns.drop (min 6 ns.length)).take (min 14 ns.length-min 6 ns.length),?_,?_⟩
 .unfold cutV
  simp only[HT.sIx,List.length_map]
  rw[if_neg (by decide),if_neg (by decide),List.map_take,List.map_drop]
  rfl
 .rw [List.length_take]
  omega
theorem xhw:∀ l:List Seat,(l.map fun _=>(-1:Int)).sum=-(l.length:Int)
 | []=>rfl
 | _::l=>by
  rw[List.map_cons,List.sum_cons,xhw l,List.length_cons]
  omega
theorem xl8 {h:Nat} (h16:h<=16) {l:List Seat} (nd:l.Nodup) (b:∀ s∈l,1<=s.2/\s.2<=(h:Int)):l.length<=32:=by
 have z:=xgn (r:=fun _:Seat=>(-1:Int)) (fun _=>by decide) nd (ss:=(List.range 16).map (fun i:Nat=>((true,(i:Int)+1):Seat))++(List.range 16).map fun i:Nat=>((false,(i:Int)+1):Seat)) (fun s hs=>by
  obtain⟨b1,b2⟩:=b s hs
  obtain⟨k,hk⟩:=Int.eq_ofNat_of_zero_le (show 0<=s.2-1 by omega)
  have kr:k∈List.range 16:=List.mem_range.mpr (by omega)
  have e:(k:Int)+1=s.2:=by omega
  rcases s with⟨sb,r⟩
  cases sb with
  | true=>exact List.mem_append_left _ (List.mem_map.mpr ⟨k,kr,Prod.ext rfl e⟩)
  | false=>exact List.mem_append_right _ (List.mem_map.mpr ⟨k,kr,Prod.ext rfl e⟩))
 rw[xhw,xhw,List.length_append,List.length_map,List.length_map,List.length_range] at z
 omega
def Alk (t:Adr) (H:Hp) (w h:Nat) (ps:List Pt) (srt:List Seat) (a:Addr):Prop:=∃(dp do_:Addr) (ps':List Pt) (st' srt':List Seat),Dr t H a dp do_ w h ps' st' srt'/\xbb (w:Int) (h:Int) ps'/\(∀ n,(∃ p∈ps,p.nm=n)->∃ p∈ps',p.nm=n) /\
 ∀(names names':List Str),names'.Perm names->(∀ n∈names,∃ p∈ps,p.nm=n)->(∀ f,GvF (xq w ps srt) names f->∃ g,GvF (xq w ps' srt') names' g)/\∀ T T',xb7 (xq w ps srt) names T->xb7 (xq w ps' srt') names' T'->T'=T
theorem Alk.same {t:Adr}{H H':Hp}{w h:Nat}{ps:List Pt}{srt:List Seat}{a:Addr} (k:Alk t H w h ps srt a) (s:Same H H'):Alk t H' w h ps srt a:=let ⟨dp,do_,ps',st',srt',d,r⟩:=k; ⟨dp,do_,ps',st',srt',d.same s,r⟩
theorem xh5 {t:Adr}{H:Hp}{w h:Nat}{ps:List Pt}{st srt ss':List Seat}{a dp do_:Addr}{fp:Pt->Pt}{φ:Seat->Seat} (y:Sym w (h:Int) fp φ) (pm:srt.Perm st) (pok:xbb (w:Int) (h:Int) ps) (pok':xbb (w:Int) (h:Int) (ps.map fp)) (pm':ss'.Perm st) (sok:SsOk (h:Int) (ss'.map φ)) (pic:Pic t H a dp do_ (w:Int) (h:Int) (ps.map fp)) (sts:Sts H do_ (ss'.map φ)):Alk t H w h ps srt a:=by
 obtain⟨srt',p2,lt⟩:=xc9 sok.1
 have m1:∀ s∈srt,φ s∈srt':=fun s hs=>p2.mem_iff.mpr (List.mem_map.mpr ⟨s,pm'.mem_iff.mpr (pm.mem_iff.mp hs),rfl⟩)
 have m2:∀ s∈srt',φ s∈srt:=fun s hs=>by
  obtain⟨u,hu,rfl⟩:=List.mem_map.mp (p2.mem_iff.mp hs)
  rw[y.ss]
  exact pm.mem_iff.mpr (pm'.mem_iff.mp hu)
 refine⟨dp,do_,ps.map fp,ss'.map φ,srt',⟨pic,sts,sok,p2,lt,fun p hp=>(pok'.ok p hp).nm⟩,pok',fun n ⟨p,hp,e⟩=>⟨fp p,List.mem_map.mpr ⟨p,hp,rfl⟩,by rw[y.nm,e]⟩,fun names names' pn nin=>⟨fun f g=>⟨_,(y.to pok pok' m1 nin pn g).1⟩,fun T T' l1 l2=>y.same pok pok' m1 m2 nin pn l1 l2⟩⟩
theorem xpw (as:List Str) {k:Nat} (h:k<as.length):cutV (as.map V.str) none (some (k:Int))=(as.take k).map V.str/\cutV (as.map V.str) (some ((k:Int)+1)) none=(as.drop (k+1)).map V.str:=by
 unfold cutV
 constructor
 .rw [HT.sIx_nat,HT.sIx_none,List.length_map,List.map_take]
  simp only[List.drop_zero,Nat.sub_zero]
  rw[Nat.min_eq_left (by omega)]
 .rw [show ((k:Int)+1)=((k+1:Nat):Int) from by omega,HT.sIx_nat,HT.sIx_none,List.length_map,<- List.map_drop,Nat.min_eq_left (by omega)]
  rw[List.take_of_length_le]
  rw[List.length_map,List.length_drop]
  omega
theorem xdr {t:Adr}{H:Hp}{Q E}{a ln dp do_:Addr}{w h:Nat}{ps:List Pt}{st srt:List Seat}{names:List Str} (dr:Dr t H a dp do_ w h ps st srt) (pok:xbb (w:Int) (h:Int) ps) (hl:H ln=some (.lst (names.map V.str))) (nps:∀ nm∈names,∃ p∈ps,p.nm=nm) (nd:names.Nodup) (le:names.length<=12) (gv:∃ f,GvF (xq w ps srt) names f)
    (k:∀ H' T,Same H H'->xb7 (xq w ps srt) names T->Q (.int T) H'):xj5 t [.ref a,.ref ln] H Q E:=⟨a,ln,dp,do_,w,h,ps,st,srt,names,rfl,dr,pok,hl,nps,nd,le,gv,k⟩
theorem xnl {H:Hp}{Q E}{ln:Addr}{c:Int}{names:List Str} (hl:H ln=some (.lst (names.map V.str))) (le:names.length<=12) (k:∀(H':Hp) (l:Addr) (names':List Str),Same H H'->H' l=some (.lst (names'.map V.str))->names'.Perm names->Q (.ref l) H'):xka [.ref ln,.int c] H Q E:=⟨ln,c,names,rfl,hl,le,k⟩
theorem xe6 {t:Adr}{f:Int->Int->Pt->Pt}{g:Int->Seat->Seat}{H:Hp}{Q E}{a dp do_:Addr}{w h:Nat}{ps:List Pt}{st srt:List Seat} (dr:Dr t H a dp do_ w h ps st srt) (pok:xbb (w:Int) (h:Int) ps)
    (k:∀(H':Hp) (a' dp' do':Addr) (ss':List Seat),Same H H'->H a'=none->H dp'=none->H do'=none->ss'.Perm st->ss'.Pairwise xbf->Pic t H' a' dp' do' (w:Int) (h:Int) (ps.map (f w h))->Sts H' do' (ss'.map (g h))->Q (.ref a') H'):xgg t f g [.ref a] H Q E:=⟨a,dp,do_,w,h,ps,st,rfl,dr.pic,dr.sts,pok,dr.ok,k⟩
theorem xik {t:Adr}{H:Hp}{Q E}{a dp do_:Addr}{w h:Nat}{ps:List Pt}{st srt:List Seat} (dr:Dr t H a dp do_ w h ps st srt) (k:∀(l:Addr) (qs:List Addr),H l=none->xah H srt qs->Q (.ref l) (upd H l (.lst (qs.map V.ref)))):xjq t [.ref a] H Q E:=⟨a,dp,do_,w,h,ps,st,rfl,dr.pic,dr.sts,fun l ss' qs hl sl pm lt=>by
 obtain rfl:ss'=srt:=xb9 xdf (pm.trans dr.pm.symm) lt dr.lt
 exact k l qs hl sl⟩
theorem xnh {t:Adr}{H:Hp}{Q E}{a ln dp do_:Addr}{w h:Nat}{ps:List Pt}{st srt:List Seat}{names:List Str} (dr:Dr t H a dp do_ w h ps st srt) (pok:xbb (w:Int) (h:Int) ps) (hl:H ln=some (.lst (names.map V.str))) (nps:∀ nm∈names,∃ p∈ps,p.nm=nm) (nd:names.Nodup) (le:names.length<=12) (mt:∃ so2 ho2,Kp.Mt (xa6 ps srt) so2 ho2/\∀ z∈names,(so2 z).isSome=true)
    (k:∀ H' tp lp d_o d_r qs prs own rent so' ho',Same H H'->H' tp=some (.tup [.ref lp,.ref d_o,.ref d_r])->H' lp=some (.lst (qs.map V.ref))->PrsL H' prs qs->prs.map (·.1.nm)=names->(∀ p∈prs,p.1∈ps/\so' p.1.nm=some p.2)->LRun (xq w ps srt) names own rent so' ho'->Q (.ref tp) H'):xke t [.ref a,.ref ln] H Q E:=⟨a,ln,dp,do_,w,h,ps,st,srt,names,rfl,dr,pok,hl,nps,nd,le,mt,fun H' tp lp d_o d_r qs prs own rent so' ho' s h1 h2 h3 h4 h5 _ _ h6 _ _ _ _=>k H' tp lp d_o d_r qs prs own rent so' ho' s h1 h2 h3 h4 h5 h6⟩
section
variable {P:Program}{w:World}{K:PySem.W.Frag}{mg:Str->Option Value}{base:Heap}{t:Adr}
theorem xp1 (T:Txt w K mg t):FnOk true P w K mg base (CXo P w) 12 t.f_law t.d_law ["_law_script"] (xhp K):=by
 refine T.F_law.okn (k:=11) xbq (fun vs H Q E h=>?_) (fun cdv A outer s H vs Q E hr h=>?_)
 .obtain ⟨sc,ns,rfl,_⟩:=h
  rfl
 .obtain ⟨sc,ns,rfl,h⟩:=h
  refine⟨_,xh (x0 (i:=1) xbq.nd rfl (Or.inl rfl) (x8 (ok_z T) (hr.mono (by decide)) rfl T.g_z T.F_z.kp T.b_z .nil xk (xa (pv 0) (xj))))
   (xh (xb3 rfl (xa5 (zs:=["_law_k", "_law_name"]) (ys:=["_law_script"]) (fr:=[0]) (N0:=["_law_script", "_law_picture_here", "_law_names_here", "_law_best", "_law_other", "_law_taken", "_law_free", "_law_side", "_law_row", "_law_at", "_law_fewer", "_law_cell_here", "_law_more"]) (sc0:=xi xc7) (by decide +kernel) rfl rfl rfl) (xiv rfl T.n_enumerate (xa (x8 (xos T) (hr.mono (by decide)) rfl T.g_kept T.F_kept.kp T.b_kept .nil xk (xa (pv 1) (xj))) (xj))) (fun _ _ _ _ _ ow nd=>(xa8 rfl (xt (xn (i:=0) nd rfl (Or.inl (ow _ (by simp))) (Or.inr (ow _ (by simp)))) (xt (xn (i:=1) nd rfl (Or.inl (ow _ (by simp))) (Or.inr (ow _ (by simp)))) (xa2))):PG _ _ (gTup K 2 _))) (xb0 (xac (by decide) (xac (by decide) (xbr)))) (fun _ _ _ _ _=>xd6 (xag xn4 (xv xa0 (x8 (ok_ap T) (hr.mono (by decide)) rfl T.g_ap T.F_ap.kp T.b_ap .nil xk (xa (x8 (ok_aa T) (hr.mono (by decide)) rfl T.g_aa T.F_aa.kp T.b_aa .nil xk (xa (pv 2) (xa (xm) (xj)))) (xa (pv 0) (xj)))) (xm)) (xm) (xam _))) (fun _ _ _ _ _=>pv 1) (j:=2) rfl (Or.inl rfl))
   (xh (x0 (i:=3) xbq.nd rfl (Or.inl rfl) (x8 (ok_af T) (hr.mono (by decide)) rfl T.g_af T.F_af.kp T.b_af .nil xk (xa (pv 1) (xa (pv 2) (xj)))))
   (xh (xbz (xat (xag xev (pv 3) (xcj) (xam _)) (xl (xaf (xem))) (xae)))
   (xh (xbe PassesOwn.never rfl (xaj (xbu (xa (xa3 (pv 1) T.c_i T.m_l (ok_l T) (hr.mono (by decide)) T.b_l .nil xk) (xa (xa3 (pv 1) T.c_i T.m_u (ok_u T) (hr.mono (by decide)) T.b_u .nil xk) (xa (xa3 (pv 1) T.c_i T.m_t (ok_t T) (hr.mono (by decide)) T.b_t .nil xk) (xj)))))) (xn (i:=4) xbq.nd rfl (Or.inl rfl)) (xl (xbz (xat (xag xf2 (x8 (ok_af T) (hr.mono (by decide)) rfl T.g_af T.F_af.kp T.b_af .nil xk (xa (pv 4) (xa (x8 (ok_am T) (hr.mono (by decide)) rfl T.g_am T.F_am.kp T.b_am .nil xk (xa (pv 2) (xa (x8 (ok_aa T) (hr.mono (by decide)) rfl T.g_aa T.F_aa.kp T.b_aa .nil xk (xa (pv 0) (xa (xm) (xj)))) (xj)))) (xj)))) (pv 3) (xam _)) (xl (xaf (xem))) (xae)))))
   (xh (x0 (i:=5) xbq.nd rfl (Or.inr rfl) (xbn rfl (xa5 (zs:=["_law_name", "_law_side", "_law_row"]) (ys:=[]) (fr:=[]) (N0:=["_law_script", "_law_picture_here", "_law_names_here", "_law_best", "_law_other", "_law_taken", "_law_free", "_law_side", "_law_row", "_law_at", "_law_fewer", "_law_cell_here", "_law_more"]) (sc0:=xi xc7) (by decide +kernel) rfl rfl rfl) (xaj (xbj xdi (x8 (xi0 T) (hr.mono (by decide)) rfl T.g_least T.F_least.kp T.b_least .nil xk (xa (pv 1) (xa (pv 2) (xj)))) (xm) (fun _ _=>rfl))) (fun _ _ _ _ _ ow nd=>(xa8 rfl (xt (xn (i:=0) nd rfl (Or.inl (ow _ (by simp))) (Or.inr (ow _ (by simp)))) (xt (xn (i:=1) nd rfl (Or.inl (ow _ (by simp))) (Or.inr (ow _ (by simp)))) (xt (xn (i:=2) nd rfl (Or.inl (ow _ (by simp))) (Or.inr (ow _ (by simp)))) (xa2)))):PG _ _ (gTup K 3 _))) (xb0 (xac (by decide) (xac (by decide) (xac (by decide) (xbr))))) (fun _ _ _ _ _=>xbh) (fun _ _ _ _ _=>xaz (xa (pv 1) (xa (pv 2) (xj))))))
   (xh (xb3 rfl (xa5 (zs:=["_law_seat"]) (ys:=["_law_taken"]) (fr:=[5]) (N0:=["_law_script", "_law_picture_here", "_law_names_here", "_law_best", "_law_other", "_law_taken", "_law_free", "_law_side", "_law_row", "_law_at", "_law_fewer", "_law_cell_here", "_law_more"]) (sc0:=xi xc7) (by decide +kernel) rfl rfl rfl) (xaj (xa3 (pv 1) T.c_i T.m_m (ok_m T) (hr.mono (by decide)) T.b_m .nil xk)) (fun _ _ _ _ _ ow nd=>xn (i:=0) nd rfl (Or.inl (ow _ (by simp))) (Or.inr (ow _ (by simp)))) (xbw (by decide)) (fun _ _ _ _ _=>xd6 (xag (r:=rInV K true) (xe3 (xd7 hr)) (pv 0) (pv 1) (by rfl))) (fun _ _ _ _ _=>pv 0) (j:=6) rfl (Or.inl rfl))
   (xh (xbz (xat (xag (xmh (xd7 hr)) (pv 6) (xbu (xj)) (xam _)) (xh (x0 (i:=4) xbq.nd rfl (Or.inl rfl) (xa3 (pv 1) T.c_i T.m_t (ok_t T) (hr.mono (by decide)) T.b_t .nil xk))
   (xh (xed (xbj xbs (pv 6) (xv xa0 (x8 (ok_aa T) (hr.mono (by decide)) rfl T.g_aa T.F_aa.kp T.b_aa .nil xk (xa (pv 0) (xa (xm) (xj)))) (xas xbd rfl T.n_len boot_len (xa (pv 6) (xj)))) (fun _ _=>rfl)) (xa8 rfl (xt (xn (i:=7) xbq.nd rfl (Or.inl rfl)) (xt (xn (i:=8) xbq.nd rfl (Or.inl rfl)) (xa2)))))
   (xh (xav (xak (pv 4) T.c_i T.m_k (ok_k T) (hr.mono (by decide)) T.b_k .nil xk (xa (pv 7) (xa (pv 8) (xj)))))
   (xl (xbz (xat (xag xf2 (x8 (ok_af T) (hr.mono (by decide)) rfl T.g_af T.F_af.kp T.b_af .nil xk (xa (pv 4) (xa (pv 2) (xj)))) (pv 3) (xam _)) (xl (xaf (xem))) (xae))))))) (xae)))
   (xh (xbz (xat (xag (xmh (xd7 hr)) (pv 2) (xbu (xj)) (xam _)) (xh (x0 (i:=9) xbq.nd rfl (Or.inl rfl) (xv xa0 (x8 (ok_aa T) (hr.mono (by decide)) rfl T.g_aa T.F_aa.kp T.b_aa .nil xk (xa (pv 0) (xa (xm) (xj)))) (xas xbd rfl T.n_len boot_len (xa (pv 2) (xj)))))
   (xh (x0 (i:=10) xbq.nd rfl (Or.inl rfl) (x8 (ok_af T) (hr.mono (by decide)) rfl T.g_af T.F_af.kp T.b_af .nil xk (xa (pv 1) (xa (xv xpg (xdu xe7 (pv 2) xfh (xdp (pv 9))) (xdu xe7 (pv 2) (xdp (xv xa1 (pv 9) (xm))) xfh)) (xj)))))
   (xl (xbz (xat (PW.pt (xdk (xag xev (pv 10) (xcj) (xam _)) (xcu (xag xn9 (pv 10) (pv 3) (xam _))))) (xl (xaf (xem))) (xae)))))) (xae)))
   (xh (xbe PassesOwn.never rfl (xaj (xdu xe7 (pv 0) (xdp (xm)) (xdp (xm)))) (xn (i:=11) xbq.nd rfl (Or.inl rfl)) (xh (x0 (i:=7) xbq.nd rfl (Or.inl rfl) (xbj xbs (xbu (xa (xbm) (xa (xbm) (xj)))) (xv xa0 (pv 11) (xm)) (fun _ _=>rfl)))
   (xh (x0 (i:=8) xbq.nd rfl (Or.inl rfl) (xv xa1 (xm) (xv xa0 (xv xb1 (pv 11) (xm)) (xab (pv 1) rfl))))
   (xl (xbz (xat (xag (xe3 (xd7 hr)) (xaz (xa (pv 7) (xa (pv 8) (xj)))) (xa3 (pv 1) T.c_i T.m_m (ok_m T) (hr.mono (by decide)) T.b_m .nil xk) (by rfl)) (xh (xav (xak (pv 1) T.c_i T.m_f (ok_f T) (hr.mono (by decide)) T.b_f .nil xk (xa (pv 7) (xa (pv 8) (xj)))))
   (xh (x0 (i:=12) xbq.nd rfl (Or.inl rfl) (x8 (ok_af T) (hr.mono (by decide)) rfl T.g_af T.F_af.kp T.b_af .nil xk (xa (pv 1) (xa (pv 2) (xj)))))
   (xh (xbz (xat (PW.pt (xdk (xag xev (pv 12) (xcj) (xam _)) (xcu (xag xn4 (pv 12) (pv 3) (xam _))))) (xl (xaf (xem))) (xae)))
   (xl (x0 (i:=3) xbq.nd rfl (Or.inl rfl) (pv 12)))))) (xae)))))))
   (xl (xaf (xem)))))))))))),?_⟩
  obtain⟨hs,n63,q⟩:=h
  have BIG:∀{n:Nat},n<=1000->n<sizeLine:=fun h=>Nat.lt_of_le_of_lt h (by decide)
  refine⟨_,rfl,sc,ns,rfl,hs,fun H1 a dp do_ w' h' ps st srt s1 dr pok=>?_⟩
  have w30:w'<=30:=by have:=dr.pic.w2; omega
  have h16:h'<=16:=by have:=dr.pic.h2; omega
  have h1':1<=h':=by have:=dr.pic.h1; omega
  have lo:=xgs w30 h16 pok dr.ok dr.pm
  have s32:srt.length<=32:=by rw[dr.pm.length_eq]; exact dr.ok.2.1
  have nnd:(xa4 ps).Nodup:=pok.nn
  have ple:=pok.le
  have nml:(xa4 ps).length<=12:=by unfold xa4; rw[List.length_map]; exact ple
  refine⟨_,rfl,a,dp,do_,w',h',ps,st,srt,rfl,dr,nnd,fun H4 l4 cs so ho s4 fl4 e4 run=>?_⟩
  refine⟨l4,_,rfl,SqL.of e4,fun l5 hl5=>?_⟩
  have kl:(xd8 (xa4 ps) cs).length<=12:=Nat.le_trans (List.length_filter_le _ _) nml
  refine xky (as:=xd8 (xa4 ps) cs) (f:=V.str) (gv:=V.str) (SqL.of e4) (BIG (by omega)) hl5 (fun i x p H5 hx s5 hp N M hN hM=>?_) (fun H5 names sub s5 e5=>?_)
  .refine ⟨p,_,rfl,SqT.of xg,rfl,_,_,rfl,_,_,rfl,rfl,?_⟩
   have s5':Same H5 (upd H5 p (.tup [.int (i:Int),.str x])):=xo (Same.refl _) hp
   refine⟨_,rfl,sc,ns,5,rfl,(((s1.trans s4).trans s5).trans s5').seqL hs,by decide,by decide,fun c5=>⟨_,rfl,c5,_,rfl,fun m _ _=>?_⟩⟩
   refine⟨_,_,rfl,rfl,(by show (0:Int)<5; decide),_,_,rfl,rfl,_,rfl,ite2 (fun y=>?_) (fun y=>?_)⟩
   .exact ⟨_,rfl,hN _ (Same.refl _)⟩
   .exact hM _ (Same.refl _)
  have nl:names.length<=12:=Nat.le_trans sub.length_le kl
  have nnd2:names.Nodup:=List.Nodup.sublist sub (List.Pairwise.filter _ nnd)
  have nin:∀ z∈names,z∈xa4 ps:=fun z hz=>(List.mem_filter.mp (sub.subset hz)).1
  have nps:∀ z∈names,∃ p∈ps,p.nm=z:=fun z hz=>List.mem_map.mp (nin z hz)
  have full:∀ z∈names,∃ s,so z=some s:=fun z hz=>by
   have hz2:=List.mem_filter.mp (sub.subset hz)
   refine Option.isSome_iff_exists.mp ?_
   rw[run.dom nnd,decide_eq_true hz2.1,Bool.true_and]
   exact hz2.2
  have gv:GvF (xq w' ps srt) names (fun n=>(so n).getD (true,0)):=by
   refine⟨fun n hn=>?_,fun x hx y hy e=>?_⟩
   .obtain ⟨s,es⟩:=full n hn
    rw[xc4]
    show (so n).getD (true,0)∈_
    rw[es]
    exact run.mt.rm _ _ es
   .obtain ⟨s,es⟩:=full x hx
    obtain⟨s',es'⟩:=full y hy
    have e:(so x).getD (true,0)=(so y).getD (true,0):=e
    rw[es,es'] at e
    have e:s=s':=e
    rw[e] at es
    exact run.mt.inj es es'
  have s05:=(s1.trans s4).trans s5
  have dr5:=dr.same (s4.trans s5)
  refine⟨_,rfl,_,rfl,?_⟩
  refine xbi ?_
  refine xdr dr5 pok e5 nps nnd2 nl ⟨_,gv⟩ fun H6 B0 s6 lf=>?_
  refine⟨fun σ H7=>H7=H6/\∃ v4 v5 v6 v7 v8 v9 v10 v11 v12:Option V,σ=[some (.ref sc),some (.ref a),some (.ref l5),some (.int B0),v4,v5,v6,v7,v8,v9,v10,v11,v12],?_,?_⟩
  .exact ⟨_,rfl,rfl,_,rfl,ifN (decide_eq_false (fun z=>nomatch z)) ⟨rfl,_,_,_,_,_,_,_,_,_,rfl⟩⟩
  rintro σ _ ⟨rfl,v4,v5,v6,v7,v8,v9,v10,v11,v12,rfl⟩
  have dr6:=dr5.same s6
  have s06:=s05.trans s6
  obtain⟨⟨dx,hpi⟩,_⟩:=id dr6.pic
  refine⟨_,rfl,a,dx,_,rfl,hpi,xal (by decide +kernel),?_⟩
  refine xbi ?_
  refine xe6 dr6 pok fun H7 a1 dp1 do1 ss1 s7 f11 f12 f13 pm1 lt1 pic1 st1=>?_
  have dr7:=dr6.same s7
  refine⟨_,rfl,a,dx,_,rfl,s7 _ _ hpi,xal (by decide +kernel),?_⟩
  refine xbi ?_
  refine xe6 dr7 pok fun H8 a2 dp2 do2 ss2 s8 f21 f22 f23 pm2 lt2 pic2 st2=>?_
  have dr8:=dr7.same s8
  have s78:=s7.trans s8
  refine⟨_,rfl,a,dx,_,rfl,s78 _ _ hpi,xal (by decide +kernel),?_⟩
  refine xbi ?_
  refine xe6 dr8 pok fun H9 a3 dp3 do3 ss3 s9 f31 f32 f33 pm3 lt3 pic3 st3=>?_
  have k1:Alk t H9 w' h' ps srt a1:=(xh5 xot dr.pm pok (xjn pok) pm1 (xjz (dr.ok.perm pm1)) pic1 st1).same (s8.trans s9)
  have k2:Alk t H9 w' h' ps srt a2:=(xh5 xox dr.pm pok (xjh pok) pm2 (xjo (dr.ok.perm pm2)) pic2 st2).same s9
  have k3:Alk t H9 w' h' ps srt a3:=xh5 xpj dr.pm pok (by rw[List.map_id'']; exact pok; exact fun _=>rfl) pm3 (by rw[List.map_id'']; exact dr.ok.perm pm3; exact fun _=>rfl) pic3 st3
  refine⟨(by show 3<=sizeLine; decide),fun l10 hl10=>?_⟩
  have s10:Same H9 (upd H9 l10 (.lst [.ref a1,.ref a2,.ref a3])):=xo (Same.refl _) hl10
  have g10:upd H9 l10 (.lst [.ref a1,.ref a2,.ref a3]) l10=some (.lst [.ref a1,.ref a2,.ref a3]):=xg
  revert s10 g10
  generalize upd H9 l10 (.lst [.ref a1,.ref a2,.ref a3])=H10
  intro s10 g10
  have s610:=(s78.trans s9).trans s10
  refine⟨l10,rfl,⟨_,SqL.of g10⟩,?_⟩
  refine xbg (xs:=[.ref a1,.ref a2,.ref a3]) (Pv:=fun i σ H11=>∃(v4:Option V),σ=[some (.ref sc),some (.ref a),some (.ref l5),some (.int B0),v4,v5,v6,v7,v8,v9,v10,v11,v12]/\Same H10 H11) ?_ ?_ ?_ ?_
  .exact ⟨_,rfl,Same.refl _⟩
  .rintro i σ H11 _ ⟨_,rfl,s11⟩
   exact SqL.of (s11 _ _ g10)
  .rintro i x σ H11 hx ⟨v4,rfl,s11⟩
   obtain⟨b,rfl,kb⟩:∃ b,x=.ref b/\Alk t H9 w' h' ps srt b:=by
    have:=List.mem_of_getElem? hx
    simp only[List.mem_cons,List.not_mem_nil,or_false] at this
    rcases this with rfl|rfl|rfl
    .exact ⟨_,rfl,k1⟩
    .exact ⟨_,rfl,k2⟩
    .exact ⟨_,rfl,k3⟩
   have s611:=s610.trans s11
   refine⟨_,?_,fun _ _ z=>z⟩
   refine⟨_,rfl,_,rfl,_,rfl,sc,ns,5,rfl,(s06.trans s611).seqL hs,by decide,by decide,fun c5=>?_⟩
   refine xbi ?_
   refine xnl (s611 _ _ (s6 _ _ e5)) nl fun H12 lo2 names' s12 e12 pn=>?_
   obtain⟨dpb,dob,psb,stb,srtb,drb,pokb,nmb,eqb⟩:=kb.same ((s10.trans s11).trans s12)
   obtain⟨gb,tb⟩:=eqb names names' pn nps
   refine xbi ?_
   refine xdr drb pokb e12 (fun nm hnm=>nmb nm (nps nm (pn.mem_iff.mp hnm))) (pn.nodup_iff.mpr nnd2) (by rw[pn.length_eq]; exact nl) (gb _ gv) fun H13 T' s13 lf'=>?_
   obtain rfl:T'=B0:=tb B0 T' lf lf'
   refine⟨_,rfl,rfl,_,rfl,ifN (by simp) ?_⟩
   exact⟨_,rfl,(s11.trans s12).trans s13⟩
  rintro σ H11 ⟨v4,rfl,s11⟩
  have s611:=s610.trans s11
  have s511:=s6.trans s611
  have dr11:=dr5.same s511
  refine⟨_,rfl,_,rfl,?_⟩
  refine xbi ?_
  refine xnh dr11 pok (s511 _ _ e5) nps nnd2 nl gv.mt fun H12 tp lp d_o d_r qs prs own rent so' ho' s12 htp hlp pl en al run2=>?_
  obtain⟨lf2,_,fb,gvb,cb,inb⟩:=run2.fit.leastF lo nnd2 en (fun p hp=>(al p hp).2)
  have prl:prs.length<=12:=by
   have:=congrArg List.length en
   rw[List.length_map] at this
   omega
  have qll:=pl.len
  refine⟨tp,_,0,.ref lp,rfl,rfl,SqT.of htp,rfl,lp,rfl,⟨_,SqL.of hlp⟩,fun l13 hl13=>?_⟩
  refine xcg (SqL.of hlp) (by rw[List.length_map]; exact BIG (by omega)) hl13 (fun i y H=>∃(p:Pr) (qa:Addr),prs[i]?=some p/\y=.ref qa/\H qa=some (.tup (xax p.2))) (fun _ _ _ _ tp ⟨p,qa,z1,z2,z3⟩=>⟨p,qa,z1,z2,tp _ _ z3⟩) (fun i x H3 hx s3 N hN=>?_) (fun ys3 H13 s13 e13 ly3 fy3=>?_)
  .rw [List.getElem?_map,Option.map_eq_some_iff] at hx
   obtain⟨qa,hqa,rfl⟩:=hx
   obtain⟨p,hp,hpq⟩:=pl.get hqa
   refine⟨qa,_,rfl,SqT.of (s3 _ _ hpq),rfl,_,_,rfl,_,_,rfl,_,_,rfl,rfl,_,rfl,_,rfl,(by show 2<=sizeLine; decide),fun q5 hq5=>?_⟩
   exact hN _ _ (xo (Same.refl _) hq5) ⟨p,q5,hp,rfl,xg⟩
  rw[List.length_map,qll] at ly3
  obtain⟨rs,rfl,sl13⟩:=xah.pick (ss:=prs.map (·.2)) (H:=H13) (ys:=ys3) (by rw[ly3,List.length_map]) (fun j y s hy hs=>by
   obtain⟨p,qa,z1,z2,z3⟩:=fy3 j y hy
   rw[List.getElem?_map,z1] at hs
   cases hs
   exact⟨qa,z2,z3⟩)
  have s1113:=s12.trans s13
  have dr13:=dr11.same s1113
  obtain⟨⟨dxx,hpi13⟩,_⟩:=id dr13.pic
  refine⟨_,rfl,a,dxx,_,rfl,hpi13,xal (by decide +kernel),?_⟩
  refine xbi ?_
  refine xik dr13 fun l14 us hl14 sl14=>?_
  have s14:Same H13 (upd H13 l14 (.lst (us.map V.ref))):=xo (Same.refl _) hl14
  have g14:upd H13 l14 (.lst (us.map V.ref)) l14=some (.lst (us.map V.ref)):=xg
  revert s14 g14
  generalize upd H13 l14 (.lst (us.map V.ref))=H14
  intro s14 g14
  have sl14':=sl14.keep (Same.tups s14)
  have usl:=sl14.len
  refine⟨l14,rfl,⟨_,SqL.of g14⟩,fun l15 hl15=>?_⟩
  refine xdl (SqL.of g14) (by rw[List.length_map]; exact BIG (by omega)) hl15 (fun i=>match srt[i]? with|some s=>!decide (s∈(prs.map fun p:Pr=>p.2))|none=>false) (fun i y H=>∃(q:Addr) (s:Seat),y=.ref q/\H q=some (.tup (xax s))/\s∈srt/\s∉(prs.map fun p:Pr=>p.2)) (fun _ _ _ _ tp ⟨q,s,z1,z2,z3⟩=>⟨q,s,z1,tp _ _ z2,z3⟩) (fun i x H3 hx s3 N M hN hM=>?_) (fun ys H15 s15 e15 ly fy=>?_)
  .rw [List.getElem?_map,Option.map_eq_some_iff] at hx
   obtain⟨qk,hqk,rfl⟩:=hx
   obtain⟨s,hs0,hsq⟩:=sl14'.get hqk
   refine⟨_,rfl,_,rfl,1,2,xc2 s,_,xgw (s3 _ _ hsq),(sl13.keep (Same.tups (s14.trans s3))).dv (s3 _ _ (s14 _ _ e13)),by decide,by decide,_,rfl,ite2 (fun y=>?_) (fun y=>?_)⟩
   .rw [if_pos rfl,xfz] at y
    have y:s∉(prs.map fun p:Pr=>p.2):=by simpa using y
    exact⟨_,rfl,hN _ _ (Same.refl _) (by show (match srt[i]? with|some s=>!decide (s∈(prs.map fun p:Pr=>p.2))|none=>false)=true; rw[hs0]; simpa using y) ⟨qk,s,rfl,s3 _ _ hsq,List.mem_of_getElem? hs0,y⟩⟩
   .rw [if_pos rfl,xfz] at y
    have y:s∈(prs.map fun p:Pr=>p.2):=by simpa using y
    exact hM _ (Same.refl _) (by show (match srt[i]? with|some s=>!decide (s∈(prs.map fun p:Pr=>p.2))|none=>false)=false; rw[hs0]; simpa using y)
  obtain⟨fr,fs,rfl,sl15,fin15⟩:=xhv (P:=fun s=>s∈srt/\s∉(prs.map fun p:Pr=>p.2)) (H:=H15) (fun j y hy=>by
   have hj:j<((List.range (us.map V.ref).length).filter _).length:=ly▸(List.getElem?_eq_some_iff.mp hy).1
   exact fy j y _ hy (List.getElem?_eq_getElem hj))
  have s1115:=s1113.trans (s14.trans s15)
  have s515:=s511.trans s1115
  have s015:=s05.trans s515
  have e515:=s515 _ _ e5
  have dr15:=dr5.same s515
  refine⟨fun σ H16=>Same H15 H16/\∃ v4 v7 v8 v9 v10 v11 v12:Option V,σ=[some (.ref sc),some (.ref a),some (.ref l5),some (.int B0),v4,some (.ref l13),some (.ref l15),v7,v8,v9,v10,v11,v12],?_,?_⟩
  .refine ⟨_,rfl,(by show 0<=sizeLine; decide),fun l16 hl16=>?_⟩
   have s16:Same H15 (upd H15 l16 (.lst [])):=xo (Same.refl _) hl16
   have g16:upd H15 l16 (.lst []) l16=some (.lst []):=xg
   revert s16 g16
   generalize upd H15 l16 (.lst [])=H16
   intro s16 g16
   have sl16:=sl15.keep (Same.tups s16)
   refine⟨2,2,_,_,sl16.dv (s16 _ _ e15),(xah.nil (H:=H16)).dv g16,by decide,by decide,?_⟩
   rcases fs with _|⟨f0,ft⟩
   .exact ⟨_,rfl,ifN (by simp[dEq,dEqs]) ⟨s16,_,_,_,_,_,_,_,rfl⟩⟩
   refine⟨_,rfl,ifP (by simp[dEq,dEqs]) ?_⟩
   have rne:fr≠[]:=fun z=>by rw[z] at sl15; cases sl15
   have dr16:=dr15.same s16
   obtain⟨⟨dx6,hpi16⟩,_⟩:=id dr16.pic
   refine⟨_,rfl,a,dx6,_,rfl,hpi16,xal (by decide +kernel),?_⟩
   refine xbi ?_
   refine xe6 dr16 pok fun H17 a4 dp4 do4 ss4 s17 f41 f42 f43 pm4 lt4 pic4 st4=>?_
   rw[List.map_id'' (fun _=>rfl)] at pic4 st4
   have s1517:=s16.trans s17
   refine⟨_,rfl,_,rfl,sc,ns,4,rfl,(s015.trans s1517).seqL hs,by decide,by decide,fun c4=>?_⟩
   obtain⟨j,qa,hj,hat,hpos⟩:=xmq (f:=V.ref) c4 rne
   obtain⟨s0,hs0,hsq⟩:=sl15.get hj
   obtain⟨f1,f2⟩:=fin15 s0 (List.mem_of_getElem? hs0)
   have e17:=s1517 _ _ e15
   refine⟨_,rfl,l15,_,rfl,.inl (SqL.of e17),_,_,rfl,rfl,(by show (0:Int)<((fr.map V.ref).length:Int); rw[List.length_map]; exact hpos),l15,_,_,.ref qa,rfl,rfl,SqL.of e17,(by rw[List.length_map]; exact hat),?_⟩
   refine⟨qa,_,rfl,SqT.of (s1517 _ _ hsq),rfl,_,_,rfl,_,_,rfl,rfl,?_⟩
   obtain⟨⟨dx7,hpi17⟩,_⟩:=id pic4
   have sin:s0∈ss4:=pm4.mem_iff.mpr (dr.pm.mem_iff.mp f1)
   have sok4:=dr.ok.perm pm4
   refine⟨_,rfl,a4,dx7,_,rfl,hpi17,xal (by decide +kernel),_,rfl,_,rfl,a4,dp4,do4,w',h',ps,ss4,s0.1,s0.2,rfl,pic4,st4,(sok4.2.2 _ sin).1,(sok4.2.2 _ sin).2,sin,fun H18 k18 pic18 st18=>?_⟩
   have s1618:Same H16 H18:=fun b u e=>k18 _ _ (xb e f43) (s17 _ _ e)
   have s1518:=s16.trans s1618
   have sok18:SsOk (h':Int) (ss4.filter fun s=>decide (s≠(s0.1,s0.2))):=⟨sok4.1.filter _,Nat.le_trans (List.length_filter_le _ _) sok4.2.1,fun s hs=>sok4.2.2 s (List.mem_filter.mp hs).1⟩
   obtain⟨srt8,pm8,lt8⟩:=xc9 sok18.1
   have mem8:∀ s,s∈srt8↔s∈srt/\s≠s0:=fun s=>by
    rw[pm8.mem_iff,List.mem_filter,decide_eq_true_iff,pm4.mem_iff,<- dr.pm.mem_iff]
   have up8:=gvb.seats (srt':=srt8) pok.nn nps (fun n hn hm=>(mem8 _).mpr ⟨hm,fun z=>f2 (z▸inb n hn)⟩)
   refine⟨_,?_,fun _ _ z=>z⟩
   refine⟨_,rfl,_,rfl,?_⟩
   refine xbi ?_
   refine xdr ⟨pic18,st18,sok18,pm8,lt8,fun p hp=>(pok.ok p hp).nm⟩ pok (s1518 _ _ e515) nps nnd2 nl ⟨_,up8.1⟩ fun H19 T' s19 lf'=>?_
   have le1:T'<=B0:=by
    have h1:=lf'.le _ up8.1
    have h2:xby (xq w' ps srt) prs<=B0:=by
     obtain⟨f5,g5,e5'⟩:=lf.has
     have:=lf2.le f5 g5
     omega
    rw[up8.2,cb] at h1
    omega
   have le2:B0<=T':=lf'.le_of lf fun f g=>by
    have z:=g.seats (srt':=srt) pok.nn nps (fun n hn hm=>((mem8 _).mp hm).1)
    exact⟨f,z.1,Int.le_of_eq z.2⟩
   obtain rfl:T'=B0:=by omega
   refine⟨_,rfl,rfl,_,rfl,ifN (by simp) ?_⟩
   exact⟨s1518.trans s19,_,_,_,_,_,_,_,rfl⟩
  rintro σ H16 ⟨s16,v4',v7',v8',v9',v10',v11',v12',rfl⟩
  have s516:=s515.trans s16
  have s016:=s05.trans s516
  have e516:=s516 _ _ e5
  have dr16:=dr5.same s516
  refine⟨fun σ H17=>Same H16 H17/\∃ v9 v10 v11 v12:Option V,σ=[some (.ref sc),some (.ref a),some (.ref l5),some (.int B0),v4',some (.ref l13),some (.ref l15),v7',v8',v9,v10,v11,v12],?_,?_⟩
  .refine ⟨_,rfl,(by show 0<=sizeLine; decide),fun l17 hl17=>?_⟩
   have s17:Same H16 (upd H16 l17 (.lst [])):=xo (Same.refl _) hl17
   have g17:upd H16 l17 (.lst []) l17=some (.lst []):=xg
   revert s17 g17
   generalize upd H16 l17 (.lst [])=H17
   intro s17 g17
   refine⟨1,1,_,_,xlm (s17 _ _ e516),xlm (nms:=[]) g17,by decide,by decide,_,rfl,ite2 (fun y1=>?_) (fun y1=>⟨s17,_,_,_,_,rfl⟩)⟩
   rw[xrk] at y1
   have nne:names≠[]:=by simpa using y1
   have s017:=s016.trans s17
   have e17:=s17 _ _ e516
   refine⟨_,rfl,sc,ns,5,rfl,s017.seqL hs,by decide,by decide,fun c5=>?_⟩
   obtain⟨j,x,hj,hat,hpos⟩:=xmq (f:=V.str) c5 nne
   have hpos':(0:Int)<((names.map V.str).length:Int):=by rw[List.length_map]; exact hpos
   refine⟨_,rfl,l5,_,rfl,.inl (SqL.of e17),_,_,rfl,rfl,hpos',?_⟩
   obtain⟨k0,k1⟩:=xay c5 hpos'
   obtain⟨k,hk⟩:=Int.eq_ofNat_of_zero_le k0
   have kl':k<names.length:=by
    rw[hk,List.length_map] at k1
    omega
   show xc6 9 (V.int (c5 % ((names.map V.str).length:Int))) _ _ _
   rw[hk]
   obtain⟨cut1,cut2⟩:=xpw names kl'
   refine⟨_,rfl,_,rfl,_,rfl,_,rfl,l5,_,rfl,SqL.of e17,fun l18 hl18=>?_⟩
   rw[cut1]
   have s18:Same H17 (upd H17 l18 (.lst ((names.take k).map V.str))):=xo (Same.refl _) hl18
   have g18:upd H17 l18 (.lst ((names.take k).map V.str)) l18=some (.lst ((names.take k).map V.str)):=xg
   revert s18 g18
   generalize upd H17 l18 (.lst ((names.take k).map V.str))=H18
   intro s18 g18
   refine⟨_,rfl,_,rfl,_,_,rfl,rfl,_,rfl,l5,_,rfl,SqL.of (s18 _ _ e17),fun l19 hl19=>?_⟩
   rw[cut2]
   have s19:Same H18 (upd H18 l19 (.lst ((names.drop (k+1)).map V.str))):=xo (Same.refl _) hl19
   have g19:upd H18 l19 (.lst ((names.drop (k+1)).map V.str)) l19=some (.lst ((names.drop (k+1)).map V.str)):=xg
   revert s19 g19
   generalize upd H18 l19 (.lst ((names.drop (k+1)).map V.str))=H19
   intro s19 g19
   refine⟨l18,l19,_,_,rfl,rfl,s19 _ _ g18,g19,?_,fun l20 hl20=>?_⟩
   .rw [List.length_map,List.length_map,List.length_take,List.length_drop]
    exact Nat.le_trans (show _<=1000 by omega) (by decide)
   rw[<- List.map_append]
   have s20:Same H19 (upd H19 l20 (.lst ((names.take k++names.drop (k+1)).map V.str))):=xo (Same.refl _) hl20
   have g20:upd H19 l20 (.lst ((names.take k++names.drop (k+1)).map V.str)) l20=some (.lst ((names.take k++names.drop (k+1)).map V.str)):=xg
   revert s20 g20
   generalize upd H19 l20 (.lst ((names.take k++names.drop (k+1)).map V.str))=H20
   intro s20 g20
   have ek:names.take k++names.drop (k+1)=names.eraseIdx k:=(List.eraseIdx_eq_take_drop_succ ..).symm
   rw[ek] at g20
   have pk:names.Perm (names[k]::names.eraseIdx k):=xej (List.getElem?_eq_getElem kl')
   have nd20:(names.eraseIdx k).Nodup:=(List.nodup_cons.mp (pk.nodup_iff.mp nnd2)).2
   have sb20:∀ z∈names.eraseIdx k,z∈names:=fun z hz=>pk.mem_iff.mpr (List.mem_cons_of_mem _ hz)
   have l20':(names.eraseIdx k).length<=12:=by
    have:=pk.length_eq
    rw[List.length_cons] at this
    omega
   have s1620:=((s17.trans s18).trans s19).trans s20
   have dr20:=dr16.same s1620
   refine xbi ?_
   refine xdr dr20 pok g20 (fun z hz=>nps z (sb20 z hz)) nd20 l20' ⟨_,(gv.less pok nps pk).1⟩ fun H21 T' s21 lf'=>?_
   have lt:T'<B0:=by
    obtain⟨f5,g5,e5'⟩:=lf.has
    have z:=g5.less pok nps pk
    have:=lf'.le _ z.1
    omega
   refine⟨_,?_,fun _ _ z=>z⟩
   refine⟨_,rfl,rfl,_,rfl,?_⟩
   refine ifN (decide_eq_false (fun z=>nomatch z)) ?_
   refine⟨_,rfl,_,rfl,_,_,rfl,rfl,_,rfl,?_⟩
   refine ifN (decide_eq_false (by omega)) ?_
   exact⟨s1620.trans s21,_,_,_,_,rfl⟩
  rintro σ H17 ⟨s17,v9',v10',v11',v12',rfl⟩
  have s517:=s516.trans s17
  have s017:=s05.trans s517
  refine⟨_,rfl,_,rfl,_,rfl,sc,_,rfl,s017.seqL hs,fun l18 hl18=>?_⟩
  obtain⟨ms,ems,msl⟩:=xmp ns
  rw[ems]
  have s18:Same H17 (upd H17 l18 (.lst (ms.map V.int))):=xo (Same.refl _) hl18
  have g18:upd H17 l18 (.lst (ms.map V.int)) l18=some (.lst (ms.map V.int)):=xg
  revert s18 g18
  generalize upd H17 l18 (.lst (ms.map V.int))=H18
  intro s18 g18
  have dr18:=dr5.same (s517.trans s18)
  have e518:=(s517.trans s18) _ _ e5
  refine⟨l18,rfl,⟨_,SqL.of g18⟩,?_⟩
  refine xbg (xs:=ms.map V.int) (Pv:=fun i σ H19=>∃(T9:Int) (st9 srt9:List Seat) (v7 v8 v11 v12:Option V),σ=[some (.ref sc),some (.ref a),some (.ref l5),some (.int T9),v4',some (.ref l13),some (.ref l15),v7,v8,v9',v10',v11,v12]/\H19 l18=some (.lst (ms.map V.int))/\H19 l5=some (.lst (names.map V.str))/\Dr t H19 a dp do_ w' h' ps st9 srt9/\xb7 (xq w' ps srt9) names T9) ?_ ?_ ?_ ?_
  .exact ⟨B0,st,srt,_,_,_,_,rfl,g18,e518,dr18,lf⟩
  .rintro i σ H19 _ ⟨_,_,_,_,_,_,_,rfl,e,_⟩
   exact SqL.of e
  .rintro i x σ H19 hx ⟨T9,st9,srt9,v7,v8,v11,v12,rfl,e19,n19,dr19,lf9⟩
   rw[List.getElem?_map,Option.map_eq_some_iff] at hx
   obtain⟨c,hc,rfl⟩:=hx
   obtain⟨⟨dx9,hpi19⟩,_⟩:=id dr19.pic
   refine⟨(by show 2<=sizeLine; decide),fun l20 hl20=>?_⟩
   have s20:Same H19 (upd H19 l20 (.lst [.str "left",.str "right"])):=xo (Same.refl _) hl20
   have g20:upd H19 l20 (.lst [.str "left",.str "right"]) l20=some (.lst [.str "left",.str "right"]):=xg
   revert s20 g20
   generalize upd H19 l20 (.lst [.str "left",.str "right"])=H20
   intro s20 g20
   obtain⟨sb,hat⟩:∃ sb:Bool,atI [V.str "left",V.str "right"] (c % 2)=some (.str (xaa sb)):=by
    have:=xay c (show (0:Int)<2 by decide)
    have:c % 2=0\/c % 2=1:=by omega
    rcases this with e|e
    .exact ⟨true,by rw[e]; rfl⟩
    .exact ⟨false,by rw[e]; rfl⟩
   refine⟨_,rfl,_,_,rfl,rfl,(by show (0:Int)<2; decide),l20,_,_,_,rfl,rfl,SqL.of g20,hat,?_⟩
   have hpi20:=s20 _ _ hpi19
   have dr20:=dr19.same s20
   refine⟨_,rfl,_,_,rfl,rfl,⟨by decide,by decide⟩,_,rfl,a,_,_,_,_,rfl,hpi20,T.c_i,T.n_aw,lkH,_,_,rfl,rfl,(by show (0:Int)<(h':Int); omega),_,_,rfl,rfl,?_⟩
   obtain⟨r0,r1⟩:=xay (c / 2) (show (0:Int)<(h':Int) by omega)
   show xc6 8 (V.int (1+(c / 2) % (h':Int))) _ _ _
   generalize hrr:(1:Int)+(c / 2) % (h':Int)=rr
   have b1:1<=rr:=by omega
   have b2:rr<=(h':Int):=by omega
   refine⟨fun σ H21=>∃(T9:Int) (st9 srt9:List Seat) (v7 v8 v11 v12:Option V),σ=[some (.ref sc),some (.ref a),some (.ref l5),some (.int T9),v4',some (.ref l13),some (.ref l15),v7,v8,v9',v10',v11,v12]/\H21 l18=some (.lst (ms.map V.int))/\H21 l5=some (.lst (names.map V.str))/\Dr t H21 a dp do_ w' h' ps st9 srt9/\xb7 (xq w' ps srt9) names T9,?_,fun _ _ z=>z⟩
   refine⟨_,rfl,_,rfl,(by show 2<=sizeLine; decide),fun q21 hq21=>?_⟩
   have s21:Same H20 (upd H20 q21 (.tup [.str (xaa sb),.int rr])):=xo (Same.refl _) hq21
   have g21:upd H20 q21 (.tup [.str (xaa sb),.int rr]) q21=some (.tup [.str (xaa sb),.int rr]):=xg
   revert s21 g21
   generalize upd H20 q21 (.tup [.str (xaa sb),.int rr])=H21
   intro s21 g21
   have dr21:=dr20.same s21
   obtain⟨⟨dx2,hpi21⟩,_⟩:=id dr21.pic
   refine⟨_,rfl,a,dx2,_,rfl,hpi21,xal (by decide +kernel),?_⟩
   refine xbi ?_
   refine xik dr21 fun l22 us2 hl22 sl22=>?_
   have pm22:=dr19.pm
   have s22:Same H21 (upd H21 l22 (.lst (us2.map V.ref))):=xo (Same.refl _) hl22
   have g22:upd H21 l22 (.lst (us2.map V.ref)) l22=some (.lst (us2.map V.ref)):=xg
   revert s22 g22
   generalize upd H21 l22 (.lst (us2.map V.ref))=H22
   intro s22 g22
   have s1922:=(s20.trans s21).trans s22
   have dr22:=dr19.same s1922
   refine⟨1,2,xc2 (sb,rr),_,xgw (s22 _ _ g21),(sl22.keep (Same.tups s22)).dv g22,by decide,by decide,_,rfl,ite2 (fun y=>?_) (fun y=>⟨T9,st9,srt9,_,_,_,_,rfl,s1922 _ _ e19,s1922 _ _ n19,dr22,lf9⟩)⟩
   rw[if_pos rfl,xfz] at y
   have y:(sb,rr)∉srt9:=by simpa using y
   have y2:(sb,rr)∉st9:=fun z=>y (pm22.mem_iff.mpr z)
   obtain⟨⟨dx3,hpi22⟩,_⟩:=id dr22.pic
   have room:st9.length<32:=by
    have nd':((sb,rr)::st9).Nodup:=List.nodup_cons.mpr ⟨y2,dr19.ok.1⟩
    have:=xl8 h16 nd' (fun s hs=>by
     rcases List.mem_cons.mp hs with rfl|hs
     .exact ⟨b1,b2⟩
     .exact dr19.ok.2.2 s hs)
    rw[List.length_cons] at this
    omega
   refine⟨_,rfl,a,dx3,_,rfl,hpi22,xal (by decide +kernel),_,rfl,_,rfl,a,dp,do_,w',h',ps,st9,sb,rr,rfl,dr22.pic,dr22.sts,b1,b2,y2,room,fun H23 k23 pic23 st23=>?_⟩
   obtain⟨kvs,hdo,_⟩:=id dr22.sts
   have nd23:(st9++[(sb,rr)]).Nodup:=by
    rw[List.nodup_append]
    exact⟨dr19.ok.1,by simp,fun x hx z hz=>by rw[List.mem_singleton.mp hz]; exact fun e=>y2 (e▸hx)⟩
   have sok23:SsOk (h':Int) (st9++[(sb,rr)]):=⟨nd23,by rw[List.length_append]; show st9.length+1<=32; omega,fun s hs=>by
    rcases List.mem_append.mp hs with hs|hs
    .exact dr19.ok.2.2 s hs
    .rw [List.mem_singleton.mp hs]
     exact⟨b1,b2⟩⟩
   obtain⟨srt3,pm3',lt3'⟩:=xc9 nd23
   have dr23:Dr t H23 a dp do_ w' h' ps (st9++[(sb,rr)]) srt3:=⟨pic23,st23,sok23,pm3',lt3',fun p hp=>(pok.ok p hp).nm⟩
   have e23:H23 l18=some (.lst (ms.map V.int)):=k23 _ _ (xp (s1922 _ _ e19) hdo (fun z=>nomatch z)) (s1922 _ _ e19)
   have n23:H23 l5=some (.lst (names.map V.str)):=k23 _ _ (xp (s1922 _ _ n19) hdo (fun z=>nomatch z)) (s1922 _ _ n19)
   have up:∀ f,GvF (xq w' ps srt9) names f->GvF (xq w' ps srt3) names f/\xbk (xq w' ps srt3) names f=xbk (xq w' ps srt9) names f:=fun f g=>g.seats pok.nn nps (fun n hn hm=>pm3'.mem_iff.mpr (List.mem_append_left _ (pm22.mem_iff.mp hm)))
   obtain⟨f9,gf9,ef9⟩:=lf9.has
   refine⟨_,rfl,_,rfl,?_⟩
   refine xbi ?_
   refine xdr dr23 pok n23 nps nnd2 nl ⟨_,(up f9 gf9).1⟩ fun H24 T' s24 lf'=>?_
   have le:T'<=T9:=lf9.le_of lf' fun f g=>⟨f,(up f g).1,Int.le_of_eq (up f g).2⟩
   refine⟨fun σ H25=>H25=H24/\∃ v11:Option V,σ=[some (.ref sc),some (.ref a),some (.ref l5),some (.int T9),v4',some (.ref l13),some (.ref l15),some (.str (xaa sb)),some (.int rr),v9',v10',v11,some (.int T')],?_,?_⟩
   .refine ⟨_,rfl,rfl,_,rfl,?_⟩
    refine ifN (decide_eq_false (fun z=>nomatch z)) ?_
    refine⟨_,rfl,_,rfl,_,_,rfl,rfl,_,rfl,?_⟩
    refine ifN (decide_eq_false (by omega)) ?_
    exact⟨rfl,_,rfl⟩
   rintro σ _ ⟨rfl,v11,rfl⟩
   exact⟨_,rfl,T',_,srt3,_,_,_,_,rfl,s24 _ _ e23,s24 _ _ n23,dr23.same s24,lf'⟩
  .rintro σ H19 ⟨T9,st9,srt9,v7,v8,v11,v12,rfl,_⟩
   exact q _
end
end S44
-- the names of the twins of whole trees and heaps are taken here,so that the head makes no such twins (they are what makes its compiled file large); see NOTE.md
namespace PySem.W.Fast
def tw10463515746180089551:=0
def tw10709735973857467651:=0
def tw273463633222019576:=0
def tw10991908900646938595:=0
def tw865939234744453542:=0
def tw3265963545651060132:=0
def tw10034494257401454615:=0
def tw6235216178280757406:=0
def tw11185566655255551239:=0
def tw14106865414161853561:=0
def tw12951765000943052747:=0
def tw10479938829475778492:=0
def tw8141783750893648489:=0
def tw9737319560992908149:=0
def tw14954361122788432776:=0
def tw15994480977652387778:=0
def tw16072345369621621619:=0
def tw12102483426057717525:=0
def tw8644256537000107612:=0
def tw7943971999568891569:=0
def tw16047084307516581866:=0
def tw1285790117782525992:=0
def tw3398174158689269043:=0
def tw2694572545275136144:=0
def tw9529862093482716738:=0
def tw15090529367095506402:=0
def tw11283751724352995766:=0
def tw5368329302640694715:=0
def tw2053738522416482252:=0
def tw12244034387285751975:=0
def tw18170596987933597871:=0
def tw4630845976997108320:=0
def tw15417617916762550129:=0
def tw1256586855195462248:=0
def tw14347392329536591594:=0
def tw17196255683987299771:=0
def tw10804990377233003575:=0
def tw7824129662574928040:=0
def tw17271938009921266097:=0
def tw14977032289347145873:=0
def tw10741204818737309570:=0
def tw7720256340018360661:=0
def tw12365575912023966309:=0
def tw17470287251820035169:=0
def tw14286072174577267439:=0
def tw1012464242717358440:=0
def tw4537741198963443947:=0
def tw2437755733851890880:=0
def tw7589758698077096788:=0
def tw2694033758834033593:=0
def tw4166069155314603043:=0
def tw1658150995584776631:=0
def tw16656038161709248074:=0
def tw6535106577186237551:=0
def tw9680357368342025450:=0
def tw16327010126636276397:=0
def tw10851861793868377032:=0
def tw11656857033548355680:=0
def tw3136682046755299997:=0
def tw14190315167113861812:=0
def tw11446621342734161072:=0
def tw6152652160216025884:=0
def tw4559236244928406023:=0
def tw16461239720073279563:=0
def tw7600109779999025693:=0
def tw11905358657316518216:=0
def tw73533563901883637:=0
def tw15846026766289915699:=0
def tw14988643099153235068:=0
def tw5797490556114325133:=0
def tw5025003164901768895:=0
def tw12336236654835196521:=0
def tw2192802815986292596:=0
def tw7254081373937092310:=0
def tw15758331920878727820:=0
def tw1038419174068936048:=0
def tw2328751187231577683:=0
def tw14175055208246375:=0
def tw11810579767990830234:=0
def tw2764238944013228332:=0
def tw8592488449233222426:=0
def tw10480143989679312607:=0
def tw4479406784235506604:=0
def tw8387674421470760555:=0
def tw4131540168576849993:=0
def tw11114884384066286202:=0
def tw7648419961785858208:=0
def tw13341521993805835565:=0
def tw9830603663066868393:=0
def tw15525702889018963846:=0
def tw14885571964183056501:=0
def tw11081063277142422651:=0
def tw2919975083131193190:=0
def tw7592773113106298881:=0
def tw537083969814627462:=0
def tw10248649900209516223:=0
def tw4749172145717733965:=0
def tw9881191649828199348:=0
def tw5820596864371569483:=0
def tw12022949472175291733:=0
def tw10831619222372794838:=0
def tw15364097965276795399:=0
def tw3717212343870510517:=0
def tw10078085035024397071:=0
def tw15882815905820333933:=0
def tw15026973654787160298:=0
def tw17409401827935849798:=0
def tw1494070563830537810:=0
def tw16211057561008689919:=0
def tw9605441223935917135:=0
def tw1244402852244285287:=0
def tw13249881811463457362:=0
def tw10043333524643469884:=0
def tw15906863199789822790:=0
def tw1931536036650423115:=0
def tw11946306375445172199:=0
def tw15355310008732205740:=0
def tw13000173950369764326:=0
def tw3221378971906173324:=0
def tw7472560760988661103:=0
def tw4340121030089365625:=0
def tw13400192958323799282:=0
def tw398460491703305590:=0
def tw895826505152549631:=0
def tw13057299868396741192:=0
def tw14670081847157106105:=0
def tw5892942397519135016:=0
def tw14273155986735203998:=0
def tw1234843465114907039:=0
def tw6494481580658481548:=0
def tw12716259495625229001:=0
def tw5949504739000004441:=0
def tw4945694278612896422:=0
def tw17697611778376147151:=0
def tw2822014587300939379:=0
def tw11924349527849466110:=0
def tw1360288264800564722:=0
def tw8554801034487574049:=0
def tw17265198413680423319:=0
def tw13702136585628779919:=0
def tw14998012872937561946:=0
def tw15370900561492392597:=0
def tw3312809065355682573:=0
def tw16840923519188524881:=0
def tw17669563450567437218:=0
def tw17747451579768669864:=0
def tw9813693413475572644:=0
def tw6206103260712215882:=0
def tw15563185308340322825:=0
def tw6736944394520040495:=0
def tw17839840884046223398:=0
def tw16995594704699694484:=0
def tw3969894074296696161:=0
def tw5697797866854289672:=0
def tw2387448324713905974:=0
def tw8688728767065958960:=0
def tw11580606317730286510:=0
def tw5856640809089987063:=0
def tw10832643888428490309:=0
def tw1332459310753169025:=0
def tw428867598352252988:=0
def tw10386563381228771209:=0
def tw11534948561944630025:=0
def tw583786902014132357:=0
def tw15222891715302950199:=0
def tw11247883729650874175:=0
def tw15896593560415428967:=0
def tw2673598588100731862:=0
def tw12524781051760940210:=0
def tw16803335607412988313:=0
def tw2502248965127396928:=0
def tw8982990000310607305:=0
def tw12763505835800180477:=0
def tw15689378364879223785:=0
def tw6646156312231384790:=0
def tw6221980373540182977:=0
def tw15427420433849373335:=0
def tw3230097815560239384:=0
def tw4022817742410976108:=0
def tw16222639623266782636:=0
def tw6160334852139226038:=0
def tw13815395692414637778:=0
def tw16446785173288748276:=0
def tw11217104457506574869:=0
def tw12536594593615989853:=0
def tw6795555847202858477:=0
def tw16586683144115001098:=0
def tw9706283808044988314:=0
def tw9284038618596478232:=0
def tw9509619162222130899:=0
def tw15111862221662461076:=0
def tw7202729840649983910:=0
def tw13190271531041322891:=0
def tw477342477166382545:=0
def tw2548485532850127604:=0
def tw7035534712541543998:=0
def tw5144255690317902674:=0
def tw5849820780307024259:=0
def tw12134305223769293191:=0
def tw17567575169810952654:=0
def tw3239697823324866286:=0
def tw8505486391371529696:=0
def tw9172882676606678025:=0
def tw17615082209768116082:=0
def tw6027799647500388665:=0
def tw3333746052277563078:=0
def tw16531413756781656925:=0
def tw17978523591488874656:=0
def tw4173228942646031307:=0
def tw644383418184276987:=0
def tw6923567916904884748:=0
def tw13842819014229991926:=0
def tw11420293476377774364:=0
def tw17793431649440949431:=0
def tw11365501273811791657:=0
def tw18339208406782042558:=0
def tw8476968613675810594:=0
def tw8414307705341621558:=0
def tw12051243680827879025:=0
def tw4834098400322289427:=0
def tw1125071965470218522:=0
def tw3057750096932322882:=0
def tw17941485297931783454:=0
def tw4932158688018337700:=0
def tw2306680672693457337:=0
def tw16949261292952767129:=0
def tw14762489806095563398:=0
def tw17994446915784567327:=0
def tw12617781000833885311:=0
def tw15221308269425626699:=0
def tw15591061628149684893:=0
def tw4462737896806351425:=0
def tw17483445136380436196:=0
def tw10879040627784377013:=0
def tw3551340805592942135:=0
def tw14118288591823669579:=0
def tw12935181843232843635:=0
def tw5769043373730469870:=0
def tw12526021996429555024:=0
def tw10862744012086397612:=0
def tw2351427055354316335:=0
def tw6266230556719269645:=0
def tw2798090238436773724:=0
def tw15350477256976651167:=0
def tw761403647045059070:=0
def tw532917059068416659:=0
def tw5122106685095014799:=0
def tw13691125620847206837:=0
def tw10973119621022331036:=0
def tw13862459461404363738:=0
def tw17801575983193798511:=0
def tw7054191654091404839:=0
def tw6321586645773302042:=0
def tw4638368685788881208:=0
def tw17778610253094289474:=0
def tw4146761873544569008:=0
def tw17156752123180125963:=0
def tw17077057401089085528:=0
def tw10084540654446831870:=0
def tw400177814011381146:=0
def tw15995646272126808873:=0
def tw2597079848197023277:=0
def tw8230526636423046376:=0
def tw13045030805492722954:=0
def tw15362409588377676758:=0
def tw15080447587028656752:=0
def tw8406072094748615917:=0
def tw15554037534251238727:=0
def tw15033902007169430540:=0
def tw9994226079604309567:=0
def tw17884412380336292079:=0
def tw7859994130918737207:=0
def tw9551849913004143329:=0
def tw8681932907805079509:=0
def tw17561391358887152833:=0
def tw10969471287784178775:=0
def tw8590485747810954081:=0
def tw8071784324432303550:=0
def tw16241109756269198376:=0
def tw968722136920022005:=0
def tw17805909172297130447:=0
def tw812382925135033904:=0
def tw15867039547963558335:=0
def tw810132179442329269:=0
def tw6415015016577740878:=0
def tw5757517820192216899:=0
def tw3920880342083411633:=0
def tw15788725484505572392:=0
def tw3581071362799999476:=0
def tw3271793260552142435:=0
def tw2117938865899813122:=0
def tw12213759759936875228:=0
def tw5646830210415022358:=0
def tw169952967302893331:=0
def tw4584326709225748525:=0
def tw13409663035147741989:=0
def tw14902748565589134329:=0
def tw11608630227171704478:=0
def tw2118069489126892024:=0
def tw8220425424071007474:=0
def tw4886102785361038108:=0
def tw12068140088676309590:=0
def tw347798666703628983:=0
def tw8572969585673189972:=0
def tw14315425147764329203:=0
def tw3881147505253449663:=0
def tw5410645185372668374:=0
def tw7537105388182103569:=0
def tw7521968036800370795:=0
def tw5532863988932457094:=0
def tw12723632743117627671:=0
def tw4268974115720335186:=0
def tw76853213278790041:=0
def tw2007644772872230063:=0
def tw2945764609923656755:=0
def tw10984406577860809648:=0
def tw9156268377689833195:=0
def tw9645122614466378923:=0
def tw15363703378900713870:=0
def tw17524582285045104774:=0
def tw8117191085261937392:=0
def tw1478226996450621704:=0
def tw10739127774921942957:=0
def tw3955024350497969483:=0
def tw2689188741566924628:=0
def tw14189452256879186369:=0
def tw5056168139916903247:=0
def tw4240167033207588251:=0
def tw11583573224570272834:=0
def tw3265199865387866262:=0
def tw16902295532303408761:=0
def tw4445931205517618790:=0
def tw11005034438166377730:=0
def tw6218126829239409189:=0
def tw7430610169822886031:=0
def tw9614553082359776536:=0
def tw8131293199801435234:=0
def tw9996226571896840343:=0
def tw17598844463339541990:=0
def tw1694969811739149336:=0
def tw11952094540678631170:=0
def tw4660803366135310782:=0
def tw4873393271068659726:=0
def tw13474681989576100099:=0
def tw5612361002353841623:=0
def tw10721922515223340602:=0
def tw12882469317559473340:=0
def tw14266826041355995071:=0
def tw3211979840591707700:=0
def tw3565822063374077225:=0
def tw18152949397918461041:=0
def tw6319352745957190048:=0
def tw5503283215472912026:=0
def tw2511121983017212097:=0
def tw13579794760699409765:=0
def tw8284055608881199634:=0
def tw1745049086647614286:=0
def tw14617097845227873851:=0
def tw5624759152345953906:=0
def tw16041146720612528657:=0
def tw1615557889063764862:=0
def tw17916619007379896209:=0
def tw18054532095014127250:=0
def tw17837205896533791764:=0
def tw5771759584365690256:=0
def tw9431780542552881650:=0
def tw14800469638262350066:=0
def tw15280209797264925277:=0
def tw6342633557869122913:=0
def tw11382823313543228992:=0
def tw5219492402176559383:=0
def tw1004506675222614743:=0
def tw11116107623481433805:=0
def tw10085865921319850006:=0
def tw17547442918783336661:=0
def tw11569226422472810050:=0
def tw14936633669762636601:=0
def tw13682691671135772819:=0
def tw12961309424860042418:=0
def tw13775556433325277899:=0
def tw10600765105777491232:=0
def tw10292334112753097041:=0
def tw15801309734695721507:=0
def tw2996537560742225708:=0
def tw14755715565761534242:=0
def tw13366082746454006878:=0
def tw6882292104354161379:=0
def tw4045655334743321799:=0
def tw10141011833183182646:=0
def tw5952163190806460686:=0
def tw4300838701955864043:=0
def tw9509339202536840915:=0
def tw15401868411042345272:=0
def tw4175211264589684800:=0
def tw15178263941302613453:=0
def tw10329431105734054944:=0
def tw11754309143450425582:=0
def tw1016930154433823135:=0
def tw2494194036769317518:=0
def tw7837201496127654219:=0
def tw17756424836434337509:=0
def tw6993441049948233911:=0
def tw18347156969845922103:=0
def tw14884657659215467836:=0
def tw11814617543505033104:=0
def tw2307295858719486265:=0
def tw5566939964437904290:=0
def tw11612134318233288004:=0
def tw5273644848782461568:=0
def tw9937821493157007560:=0
def tw14775613235804039754:=0
def tw12747739807814837448:=0
def tw15343302435317063945:=0
def tw7939813446785897039:=0
def tw5921657399644193616:=0
def tw18335726431847557261:=0
def tw17043415661834523130:=0
def tw12282816070188536496:=0
def tw8027235416804760443:=0
def tw4814228967559227125:=0
def tw2484581655596890402:=0
def tw16531793033258018578:=0
def tw10945256666488229350:=0
def tw2173746167910328686:=0
def tw13110363457685551418:=0
def tw9582624689615543202:=0
def tw13733957072281722653:=0
def tw6022158177615743465:=0
def tw12165089169882638295:=0
def tw13429620262681301515:=0
def tw18266851770021667816:=0
def tw55837858286846932:=0
def tw6998091346082224251:=0
def tw10292027163644758712:=0
def tw14653571058996020610:=0
def tw6038100517465860189:=0
def tw9862301412676919459:=0
def tw1389398508931171203:=0
def tw12563444741482835446:=0
def tw12980499561161678593:=0
def tw2353448072770499097:=0
def tw3806479119872562019:=0
def tw17129712065610055155:=0
def tw6981410857151289118:=0
def tw6575265928343820151:=0
def tw6971421539229701610:=0
def tw11191316873585207572:=0
def tw13764015023900769750:=0
def tw3290356462372406215:=0
def tw7147290978527887142:=0
def tw16617126683306135528:=0
def tw14933594591004491857:=0
def tw1522390148898638683:=0
def tw227892406472744953:=0
def tw15774859355820490657:=0
def tw2684081834987994836:=0
def tw10257862984377482535:=0
def tw18110930409014844449:=0
def tw18379163656942082216:=0
def tw3611419923581418752:=0
def tw9684230772480806428:=0
def tw14193131535559303638:=0
def tw4270219451223673235:=0
def tw17429693931678919153:=0
def tw7073685064775209904:=0
def tw6177107780903170498:=0
def tw18183583303904817425:=0
def tw6536728321682190630:=0
def tw15104591342752419287:=0
def tw8820593488533011112:=0
def tw11616117141042363988:=0
def tw7132698359002786033:=0
def tw3912207397924834193:=0
def tw14757089349160627366:=0
def tw15815614389825702243:=0
def tw2570705013348670648:=0
def tw5082389398819094243:=0
def tw843376606801698965:=0
def tw18172149351168311966:=0
def tw8801176384826235749:=0
def tw9902055639908337205:=0
def tw10633894605835662836:=0
def tw4016554284276485047:=0
def tw17053764320910880498:=0
def tw17303156463394734266:=0
def tw18222919145454598007:=0
def tw10607849545415420828:=0
def tw16709443497601332049:=0
def tw17105771318771384898:=0
def tw17700489978272128816:=0
def tw7192669102526686845:=0
def tw102645451254254191:=0
def tw15468836928542573082:=0
def tw15196971177226283097:=0
def tw14723373921163591893:=0
def tw7548458942739318474:=0
def tw2972497548518739765:=0
def tw2932143951883323166:=0
def tw2424448540569185031:=0
def tw11181933878863028255:=0
def tw15761181280134013085:=0
def tw15065288103142261239:=0
def tw10723541602931241929:=0
def tw3091158946014846570:=0
def tw11254541053028253423:=0
def tw5896007094029003893:=0
def tw7119339046549618561:=0
def tw2390475641750236652:=0
def tw18167381359052674978:=0
def tw9532608541460274264:=0
def tw14430879871333665024:=0
def tw13160471022583092782:=0
def tw12150397615277880101:=0
def tw2490198500159973527:=0
def tw12479537776651619433:=0
def tw688337239493223656:=0
def tw6542191530591524791:=0
def tw846193604165167255:=0
def tw2854789177974034768:=0
def tw13051353181170430122:=0
def tw5377175407525945420:=0
def tw6442765158715536779:=0
def tw4508724615025729272:=0
def tw5732366466477191191:=0
def tw15193619778293611425:=0
def tw564748765058104407:=0
def tw5365032896192768262:=0
def tw8190200512937346464:=0
def tw1372083328622964483:=0
def tw2996030186343464835:=0
def tw10876738137749994163:=0
def tw5914806613307045727:=0
def tw1787130789850178652:=0
def tw2327422528967270231:=0
def tw8616769843820178577:=0
def tw12519036544736013175:=0
def tw14535762838564822772:=0
def tw10064357394463412572:=0
def tw10244713505580496927:=0
def tw5734958542910913178:=0
def tw2182924352577136794:=0
def tw1209895733411021005:=0
def tw11921679980270230728:=0
def tw1052590791587727399:=0
def tw8223040747667398849:=0
def tw10364041586628723624:=0
def tw11425728630945075534:=0
def tw6071230162347927762:=0
def tw15324543871730819554:=0
def tw4805968105865600772:=0
def tw15572828258775570677:=0
def tw13773140467817117000:=0
def tw15623760261975690440:=0
def tw14616874991348239311:=0
def tw14782283105031964904:=0
def tw18353790462420642826:=0
def tw16857318038829193412:=0
def tw17439583301656836501:=0
def tw5122691400505255742:=0
def tw17126168992550481594:=0
def tw17417559454117599486:=0
def tw5613310774910380987:=0
def tw437336268754747169:=0
def tw8317798841760695408:=0
def tw5602213678744910155:=0
def tw1229364799339822818:=0
def tw4838805638724428663:=0
def tw13306823451680646017:=0
def tw6179015890959043534:=0
def tw10481578633256815454:=0
def tw17953438236522302348:=0
def tw508731505852599210:=0
def tw520601495275555404:=0
def tw8812148286845080672:=0
def tw17150866894351842608:=0
def tw5926841966729109079:=0
def tw6194008987327506658:=0
def tw6609280094182242432:=0
def tw290626830025898515:=0
def tw14002067632862173390:=0
def tw4002519004192927375:=0
def tw17819504327764934551:=0
def tw3839024170501481369:=0
def tw12626687081365860000:=0
def tw5431056556857494891:=0
def tw7519557986985125178:=0
def tw4476352451247319842:=0
def tw1185704056060871047:=0
def tw15757086514531378235:=0
def tw909929013560318612:=0
def tw4927687857819904857:=0
def tw11118566527726989859:=0
def tw206078560120466465:=0
def tw7485346302590720359:=0
def tw5317820662856404860:=0
def tw8371255201090364651:=0
def tw348225840690649186:=0
def tw9402167416140859219:=0
def tw14448570219912578021:=0
def tw6869055925715493352:=0
def tw2964506834598237398:=0
def tw18275270092613958192:=0
def tw13991107541656702420:=0
def tw2655913243253510438:=0
def tw12189360122596181573:=0
def tw7306357893392556030:=0
def tw7735537365491790558:=0
def tw4642778919078475273:=0
def tw1498732132345715429:=0
def tw7668345737481342148:=0
def tw346354389215281190:=0
def tw5777442425486051664:=0
def tw7226524674482461035:=0
def tw2944817767533087832:=0
def tw12663311532745036905:=0
def tw1819780223184347499:=0
def tw74389473282535365:=0
def tw2615547556935251915:=0
def tw11256799021563480739:=0
def tw8367045912476008781:=0
def tw2072308068776003969:=0
def tw14363603844621209778:=0
def tw5013911196557636391:=0
def tw8588237101322889949:=0
def tw11629074727789799309:=0
def tw5607863091416644579:=0
def tw10890821521043327471:=0
def tw3701407029198701516:=0
def tw5850668464519372732:=0
def tw890978163128979255:=0
def tw18142453661511637031:=0
def tw13023509362385159109:=0
def tw10063581964208248110:=0
def tw9787781016788740653:=0
def tw10491683287330819202:=0
def tw2009187705270140590:=0
def tw4384209553295196827:=0
def tw11881795152853995158:=0
def tw10126621703431459744:=0
def tw17496879296589248568:=0
def tw18436815231624942274:=0
def tw7383356396572726645:=0
def tw13618057554352988733:=0
def tw10768431723232504484:=0
def tw2088295499817099637:=0
def tw13299858857896041360:=0
def tw3351419223686470059:=0
def tw13873045388871072492:=0
def tw9598753243457385655:=0
def tw2779877419593865392:=0
def tw1810007776137826198:=0
def tw3018041467025588806:=0
def tw3163597808961819601:=0
def tw13006570111674633367:=0
def tw4299722362649897431:=0
def tw13193103650332537742:=0
def tw17131367075513921694:=0
def tw1346300841798930414:=0
def tw4584919216889540813:=0
def tw12430032016145296768:=0
def tw3057770489312684123:=0
def tw17609007780721111424:=0
def tw13199787068164158982:=0
def tw13457368489445584041:=0
def tw5391195638605191744:=0
def tw10308484587300540653:=0
def tw14210762709708256022:=0
def tw15267086437725156466:=0
def tw15510255668820468544:=0
def tw10123451807592312531:=0
def tw13997097409776189192:=0
def tw14229641315379455661:=0
def tw3846400310593812714:=0
def tw10168491295382161149:=0
def tw2977173569703901085:=0
def tw12497362306675672992:=0
def tw714862305211111477:=0
def tw13640359611479281995:=0
def tw2204914818402658897:=0
def tw2887304756823159483:=0
def tw6071234577346902737:=0
def tw1248635311412195852:=0
def tw12629491924877022756:=0
def tw8899056582581304248:=0
def tw12021654720754332414:=0
def tw1634912316637933993:=0
def tw17539451122512914389:=0
def tw5256603049043016385:=0
def tw13675846886200568739:=0
def tw17880166958415752029:=0
def tw5745186343876368242:=0
def tw17485861711057919571:=0
def tw1776161832061502802:=0
def tw4094558929888764855:=0
def tw10515309644345976050:=0
def tw12955963929593210693:=0
def tw10143496999595816375:=0
def tw13940652698475084683:=0
def tw6689417701535848537:=0
def tw1081335432919852162:=0
def tw7163182092262043297:=0
def tw5462486508217949006:=0
def tw12088911210524165170:=0
def tw11676729097855221340:=0
def tw6571280351410701397:=0
def tw12989876222873330276:=0
def tw7528681164939077926:=0
def tw15412076555543883262:=0
def tw3844660093429459719:=0
def tw4934668767256341834:=0
def tw15830184204392358911:=0
def tw12965589846448853956:=0
def tw7812775732083350690:=0
def tw12281832118134062333:=0
def tw16516601378410661402:=0
def tw5720098924882215286:=0
def tw12475447782089878187:=0
def tw17524403564108240014:=0
def tw16028751053121752892:=0
def tw14963403461220906523:=0
def tw10744289366408394873:=0
def tw12264362815176835520:=0
def tw14610596868427085454:=0
def tw13262695960762351447:=0
def tw16408671471822138234:=0
def tw7301186009180079995:=0
def tw2799432208360491684:=0
def tw5488333957068799504:=0
def tw6133266317399966596:=0
def tw3329154551575052092:=0
def tw16529380046613449489:=0
def tw13971234101339241569:=0
def tw14086942199646938610:=0
def tw1137155279938633502:=0
def tw3503349288904534841:=0
def tw18058531895955199321:=0
def tw9453663658339761740:=0
def tw2191958848246194286:=0
def tw8516662854584743482:=0
def tw15441937125474376725:=0
def tw16196160022036807338:=0
def tw12035345110906798357:=0
def tw4060545365085524269:=0
def tw1683609662663979312:=0
def tw13406965435648232210:=0
def tw1184635828357864436:=0
def tw11140188741796025131:=0
def tw5805978987837234064:=0
def tw9892982680656015454:=0
def tw2129504221590221509:=0
def tw12712126251188050272:=0
def tw10722921999129117243:=0
def tw8319284634959532790:=0
def tw16985668878309431210:=0
def tw17763598454687721875:=0
def tw6573139025120324954:=0
def tw16292804969709184148:=0
def tw7390012183228418926:=0
def tw18223582507381561079:=0
def tw12589289923255873637:=0
def tw5992932677809617119:=0
def tw2492686445921799463:=0
def tw1004751384719444021:=0
def tw6164372609972319913:=0
def tw10055630944109129892:=0
def tw4772650683998458999:=0
def tw13865320731997092658:=0
def tw12654560188655490294:=0
def tw8698463634969142517:=0
def tw5808286472017049212:=0
def tw13511846105151809460:=0
def tw8997871788625922665:=0
def tw6640461453036192144:=0
def tw10572651054649936169:=0
def tw15875137389457212770:=0
def tw11513230721993469701:=0
def tw3967729533573254521:=0
def tw18255768508574364751:=0
def tw14869499173035139096:=0
def tw5502806053566328897:=0
def tw10129806528731596991:=0
def tw1552043054606306281:=0
def tw13443026811122376169:=0
def tw3291141681855219078:=0
def tw16683229688808163901:=0
def tw6682594136489504519:=0
def tw6147673771740227315:=0
def tw12149531010191554745:=0
def tw9159064410732386582:=0
def tw13271151510790018164:=0
def tw5074613032739309492:=0
def tw4094150694712561690:=0
def tw10516480284384100122:=0
def tw359604129973035357:=0
def tw17086915546504673582:=0
def tw15775750330222591529:=0
def tw12691148216864190032:=0
def tw8097163803988155288:=0
def tw10587955105480882124:=0
def tw2984355610602419554:=0
def tw1055149441640702095:=0
def tw12420502935178015510:=0
def tw1816782761646061033:=0
def tw4480152883964467723:=0
def tw9068184557404285611:=0
def tw15466759762246835662:=0
def tw4339119366965762871:=0
end PySem.W.Fast
namespace S44
open PySem L2 XL
theorem walk {l:PySem.W.OpenLaw}{q:Program}{loose:List Str}{XP:(Str->Option Value)->Heap->Prop}{YP:World->Heap->Prop}{d:DefRec}{K:Params->PySem.W.Frag} (hn:l.most=some 63) (hdf:d.params.defaults=[])
    (hY:∀(w:World) (h:Heap),YP w h->(K w.params).In h)
    (F:∀(w:World) (mg:Str->Option Value) (fa:Addr) (h:Heap),(K w.params).In h->h.Ns mainGlobals mg->mg d.name=some (.ref fa) ->
      ∃ fd:FuncData,(∀(s:Shared) (u:Value),BindsTo s fd ⟨[u],[]⟩ [("_law_script",u)])/\∀ base:Heap,(K w.params).In base->base.Ns mainGlobals mg->FnOk true l.prog w (K w.params) mg base (CXo l.prog w) 12 fa fd ["_law_script"] (xhp (K w.params))) :
    PySem.W.WalkO q loose XP YP l.row.toRowW d [] (fun f vs=>PySem.call f vs) :=
  L2.walk_of (q0:=true) (n:=63) (k:=12) (x:="_law_script") (CX:=fun w=>CXo l.prog w) (sp:=fun w=>xhp (K w.params)) hn (by decide) hdf ⟨fun _=>rfl,by decide,by decide⟩ hY F (fun _ _ a ns hl _ hS=>⟨a,ns,rfl,hS,hl,fun _=>rfl⟩)
    fun w H s e s' z=>by obtain⟨_,_,_,_,_,_,_,_,_,_,_,_,_,_,q⟩:=z; exact q
theorem all_mk {l:PySem.W.OpenLaw}{w:World}{K:PySem.W.Frag}{h:Heap}{mg:Str->Option Value}{fa:Addr} (hfa:mg "law"=some (.ref fa)) (TT:∃ t,Txt w K mg t) :
    ∃ fd:FuncData,(∀(s:Shared) (v:Value),BindsTo s fd ⟨[v],[]⟩ [("_law_script",v)])/\∀ base:Heap,K.In base->base.Ns mainGlobals mg->FnOk true l.prog w K mg base (CXo l.prog w) 12 fa fd ["_law_script"] (xhp K):=by
  obtain⟨t,T⟩:=TT
  have e:=hfa.symm.trans T.g_law
  cases e
  refine⟨t.d_law,fun s v=>?_,fun base _ _=>xp1 T⟩
  obtain⟨oc,od,kV,doc,pm,an,cdv,ct,osl,e,lk,hcd⟩:=T.F_law.ex
  rw[e]
  exact .of_eq rfl
end S44
open PySem PySem.W PyProof.Rows
set_option maxRecDepth 100000 in
set_option maxHeartbeats 0 in
theorem PySem.Challenge.cw_rimnotes_k44_whole_totals_compared_holds : PySem.Challenge.rw_rimnotes_k44_whole_totals_compared.Holds := by
 w_on; o_law; k_head; (case hw=>w_witness2)
 k_fill
 refine S44.walk (l:=PySem.Challenge.rw_rimnotes_k44_whole_totals_compared) rfl rfl (fun w h Y=>PySem.W.kIn_of Y) ?F
 case F =>
  intro w mg fa h KX G hmg
  refine S44.all_mk (h:=h) hmg ?TT
  refine' S44.txt_mk (w:=w) KX G ?g_ao ?g_ax ?g_au ?g_an ?g_ai ?g_i ?a_ad ?l_ad ?c_ad ?k_ad ?i_ad ?a_n ?l_n ?c_n ?k_n ?i_n ?a_d ?l_d ?c_d ?k_d ?i_d ?a_crowds ?l_crowds ?c_crowds ?k_crowds ?i_crowds ?a_fits ?l_fits ?c_fits ?k_fits ?i_fits ?a_aq ?l_aq ?c_aq ?k_aq ?i_aq ?a_kept ?l_kept ?c_kept ?k_kept ?i_kept ?a_ak ?l_ak ?c_ak ?k_ak ?i_ak ?a_r ?l_r ?c_r ?k_r ?i_r ?a_o ?l_o ?c_o ?k_o ?i_o ?a_at ?l_at ?c_at ?k_at ?i_at ?a_ah ?l_ah ?c_ah ?k_ah ?i_ah ?a_y ?l_y ?c_y ?k_y ?i_y ?a_x ?l_x ?c_x ?k_x ?i_x ?a_q ?l_q ?c_q ?k_q ?i_q ?a_c ?l_c ?c_c ?k_c ?i_c ?a_least ?l_least ?c_least ?k_least ?i_least ?a_aj ?l_aj ?c_aj ?k_aj ?i_aj ?a_av ?l_av ?c_av ?k_av ?i_av ?a_ae ?l_ae ?c_ae ?k_ae ?i_ae ?a_s ?l_s ?c_s ?k_s ?i_s ?t_s ?a_f ?l_f ?c_f ?k_f ?i_f ?a_k ?l_k ?c_k ?k_k ?i_k ?a_j ?l_j ?c_j ?k_j ?i_j ?a_m ?l_m ?c_m ?k_m ?i_m ?a_p ?l_p ?c_p ?k_p ?i_p ?a_ac ?l_ac ?c_ac ?k_ac ?i_ac ?a_w ?l_w ?c_w ?k_w ?i_w ?a_h ?l_h ?c_h ?k_h ?i_h ?a_t ?l_t ?c_t ?k_t ?i_t ?a_l ?l_l ?c_l ?k_l ?i_l ?a_u ?l_u ?c_u ?k_u ?i_u ?a_e ?l_e ?c_e ?k_e ?i_e ?a_g ?l_g ?c_g ?k_g ?i_g ?a_b ?l_b ?c_b ?k_b ?i_b ?a_a ?l_a ?c_a ?k_a ?i_a ?a_v ?l_v ?c_v ?k_v ?i_v ?a_aa ?l_aa ?c_aa ?k_aa ?i_aa ?a_ap ?l_ap ?c_ap ?k_ap ?i_ap ?a_al ?l_al ?c_al ?k_al ?i_al ?a_ag ?l_ag ?c_ag ?k_ag ?i_ag ?a_ar ?l_ar ?c_ar ?k_ar ?i_ar ?a_z ?l_z ?c_z ?k_z ?i_z ?a_ab ?l_ab ?c_ab ?k_ab ?i_ab ?a_af ?l_af ?c_af ?k_af ?i_af ?a_am ?l_am ?c_am ?k_am ?i_am ?a_law ?l_law ?c_law ?k_law ?i_law ?kc_ao ?pg_ao ?hd_ao ?po_ao ?sa_ao ?mk_ao ?ca_ao ?mo_ao ?kc_ax ?pg_ax ?hd_ax ?po_ax ?sa_ax ?mk_ax ?ca_ax ?mo_ax ?kc_au ?pg_au ?hd_au ?po_au ?sa_au ?mk_au ?ca_au ?mo_au ?a_LeftSide_init ?kc_an ?pg_an ?hd_an ?po_an ?sa_an ?mk_an ?ca_an ?mo_an ?a_RightSide_init ?kc_ai ?pg_ai ?hd_ai ?po_ai ?sa_ai ?mk_ai ?ca_ai ?mo_ai ?kc_i ?pg_i ?hd_i ?po_i ?sa_i ?mk_i ?ca_i ?mo_i ?cg ?ct ?n_a6 ?n_ay ?n_aw ?n_a0 ?n_a1 ?n_az ?n_a2 ?n_a4 ?n_a7 ?n_a8 ?n_a3 ?n_a5 ?n_bd ?n_bb ?n_abs ?n_bool ?n_dict ?n_enumerate ?n_int ?n_isinstance ?n_len ?n_list ?n_min ?n_range ?n_sorted ?n_str ?n_sum ?v_bc ?v_a9 ?v_ba ?g_as ?l_as ?ns_as
  (case g_ao=>k_is)
  (case g_ax=>k_is)
  (case g_au=>k_is)
  (case g_an=>k_is)
  (case g_ai=>k_is)
  (case g_i=>k_is)
  (case a_ad=>k_is)
  (case l_ad=>k_is)
  (case c_ad=>k_is)
  (case k_ad=>k_is)
  (case i_ad=>k_is)
  (case a_n=>k_is)
  (case l_n=>k_is)
  (case c_n=>k_is)
  (case k_n=>k_is)
  (case i_n=>k_is)
  (case a_d=>k_is)
  (case l_d=>k_is)
  (case c_d=>k_is)
  (case k_d=>k_is)
  (case i_d=>k_is)
  (case a_crowds=>k_is)
  (case l_crowds=>k_is)
  (case c_crowds=>k_is)
  (case k_crowds=>k_is)
  (case i_crowds=>k_is)
  (case a_fits=>k_is)
  (case l_fits=>k_is)
  (case c_fits=>k_is)
  (case k_fits=>k_is)
  (case i_fits=>k_is)
  (case a_aq=>k_is)
  (case l_aq=>k_is)
  (case c_aq=>k_is)
  (case k_aq=>k_is)
  (case i_aq=>k_is)
  (case a_kept=>k_is)
  (case l_kept=>k_is)
  (case c_kept=>k_is)
  (case k_kept=>k_is)
  (case i_kept=>k_is)
  (case a_ak=>k_is)
  (case l_ak=>k_is)
  (case c_ak=>k_is)
  (case k_ak=>k_is)
  (case i_ak=>k_is)
  (case a_r=>k_is)
  (case l_r=>k_is)
  (case c_r=>k_is)
  (case k_r=>k_is)
  (case i_r=>k_is)
  (case a_o=>k_is)
  (case l_o=>k_is)
  (case c_o=>k_is)
  (case k_o=>k_is)
  (case i_o=>k_is)
  (case a_at=>k_is)
  (case l_at=>k_is)
  (case c_at=>k_is)
  (case k_at=>k_is)
  (case i_at=>k_is)
  (case a_ah=>k_is)
  (case l_ah=>k_is)
  (case c_ah=>k_is)
  (case k_ah=>k_is)
  (case i_ah=>k_is)
  (case a_y=>k_is)
  (case l_y=>k_is)
  (case c_y=>k_is)
  (case k_y=>k_is)
  (case i_y=>k_is)
  (case a_x=>k_is)
  (case l_x=>k_is)
  (case c_x=>k_is)
  (case k_x=>k_is)
  (case i_x=>k_is)
  (case a_q=>k_is)
  (case l_q=>k_is)
  (case c_q=>k_is)
  (case k_q=>k_is)
  (case i_q=>k_is)
  (case a_c=>k_is)
  (case l_c=>k_is)
  (case c_c=>k_is)
  (case k_c=>k_is)
  (case i_c=>k_is)
  (case a_least=>k_is)
  (case l_least=>k_is)
  (case c_least=>k_is)
  (case k_least=>k_is)
  (case i_least=>k_is)
  (case a_aj=>k_is)
  (case l_aj=>k_is)
  (case c_aj=>k_is)
  (case k_aj=>k_is)
  (case i_aj=>k_is)
  (case a_av=>k_is)
  (case l_av=>k_is)
  (case c_av=>k_is)
  (case k_av=>k_is)
  (case i_av=>k_is)
  (case a_ae=>k_is)
  (case l_ae=>k_is)
  (case c_ae=>k_is)
  (case k_ae=>k_is)
  (case i_ae=>k_is)
  (case a_s=>k_is)
  (case l_s=>k_is)
  (case c_s=>k_is)
  (case k_s=>k_is)
  (case i_s=>k_is)
  (case t_s=>k_is)
  (case a_f=>k_is)
  (case l_f=>k_is)
  (case c_f=>k_is)
  (case k_f=>k_is)
  (case i_f=>k_is)
  (case a_k=>k_is)
  (case l_k=>k_is)
  (case c_k=>k_is)
  (case k_k=>k_is)
  (case i_k=>k_is)
  (case a_j=>k_is)
  (case l_j=>k_is)
  (case c_j=>k_is)
  (case k_j=>k_is)
  (case i_j=>k_is)
  (case a_m=>k_is)
  (case l_m=>k_is)
  (case c_m=>k_is)
  (case k_m=>k_is)
  (case i_m=>k_is)
  (case a_p=>k_is)
  (case l_p=>k_is)
  (case c_p=>k_is)
  (case k_p=>k_is)
  (case i_p=>k_is)
  (case a_ac=>k_is)
  (case l_ac=>k_is)
  (case c_ac=>k_is)
  (case k_ac=>k_is)
  (case i_ac=>k_is)
  (case a_w=>k_is)
  (case l_w=>k_is)
  (case c_w=>k_is)
  (case k_w=>k_is)
  (case i_w=>k_is)
  (case a_h=>k_is)
  (case l_h=>k_is)
  (case c_h=>k_is)
  (case k_h=>k_is)
  (case i_h=>k_is)
  (case a_t=>k_is)
  (case l_t=>k_is)
  (case c_t=>k_is)
  (case k_t=>k_is)
  (case i_t=>k_is)
  (case a_l=>k_is)
  (case l_l=>k_is)
  (case c_l=>k_is)
  (case k_l=>k_is)
  (case i_l=>k_is)
  (case a_u=>k_is)
  (case l_u=>k_is)
  (case c_u=>k_is)
  (case k_u=>k_is)
  (case i_u=>k_is)
  (case a_e=>k_is)
  (case l_e=>k_is)
  (case c_e=>k_is)
  (case k_e=>k_is)
  (case i_e=>k_is)
  (case a_g=>k_is)
  (case l_g=>k_is)
  (case c_g=>k_is)
  (case k_g=>k_is)
  (case i_g=>k_is)
  (case a_b=>k_is)
  (case l_b=>k_is)
  (case c_b=>k_is)
  (case k_b=>k_is)
  (case i_b=>k_is)
  (case a_a=>k_is)
  (case l_a=>k_is)
  (case c_a=>k_is)
  (case k_a=>k_is)
  (case i_a=>k_is)
  (case a_v=>k_is)
  (case l_v=>k_is)
  (case c_v=>k_is)
  (case k_v=>k_is)
  (case i_v=>k_is)
  (case a_aa=>k_is)
  (case l_aa=>k_is)
  (case c_aa=>k_is)
  (case k_aa=>k_is)
  (case i_aa=>k_is)
  (case a_ap=>k_is)
  (case l_ap=>k_is)
  (case c_ap=>k_is)
  (case k_ap=>k_is)
  (case i_ap=>k_is)
  (case a_al=>k_is)
  (case l_al=>k_is)
  (case c_al=>k_is)
  (case k_al=>k_is)
  (case i_al=>k_is)
  (case a_ag=>k_is)
  (case l_ag=>k_is)
  (case c_ag=>k_is)
  (case k_ag=>k_is)
  (case i_ag=>k_is)
  (case a_ar=>k_is)
  (case l_ar=>k_is)
  (case c_ar=>k_is)
  (case k_ar=>k_is)
  (case i_ar=>k_is)
  (case a_z=>k_is)
  (case l_z=>k_is)
  (case c_z=>k_is)
  (case k_z=>k_is)
  (case i_z=>k_is)
  (case a_ab=>k_is)
  (case l_ab=>k_is)
  (case c_ab=>k_is)
  (case k_ab=>k_is)
  (case i_ab=>k_is)
  (case a_af=>k_is)
  (case l_af=>k_is)
  (case c_af=>k_is)
  (case k_af=>k_is)
  (case i_af=>k_is)
  (case a_am=>k_is)
  (case l_am=>k_is)
  (case c_am=>k_is)
  (case k_am=>k_is)
  (case i_am=>k_is)
  (case a_law=>k_is)
  (case l_law=>k_is)
  (case c_law=>k_is)
  (case k_law=>k_is)
  (case i_law=>k_is)
  (case kc_ao=>k_is)
  (case pg_ao=>k_is)
  (case hd_ao=>k_is)
  (case po_ao=>k_is)
  (case sa_ao=>k_is)
  (case mk_ao=>first|k_is|kernel_rfl)
  (case ca_ao=>k_is)
  (case mo_ao=>k_is)
  (case kc_ax=>k_is)
  (case pg_ax=>k_is)
  (case hd_ax=>k_is)
  (case po_ax=>k_is)
  (case sa_ax=>k_is)
  (case mk_ax=>first|k_is|kernel_rfl)
  (case ca_ax=>k_is)
  (case mo_ax=>k_is)
  (case kc_au=>k_is)
  (case pg_au=>k_is)
  (case hd_au=>k_is)
  (case po_au=>k_is)
  (case sa_au=>k_is)
  (case mk_au=>first|k_is|kernel_rfl)
  (case ca_au=>k_is)
  (case mo_au=>k_is)
  (case a_LeftSide_init=>k_is)
  (case kc_an=>k_is)
  (case pg_an=>k_is)
  (case hd_an=>k_is)
  (case po_an=>k_is)
  (case sa_an=>k_is)
  (case mk_an=>first|k_is|kernel_rfl)
  (case ca_an=>k_is)
  (case mo_an=>k_is)
  (case a_RightSide_init=>k_is)
  (case kc_ai=>k_is)
  (case pg_ai=>k_is)
  (case hd_ai=>k_is)
  (case po_ai=>k_is)
  (case sa_ai=>k_is)
  (case mk_ai=>first|k_is|kernel_rfl)
  (case ca_ai=>k_is)
  (case mo_ai=>k_is)
  (case kc_i=>k_is)
  (case pg_i=>k_is)
  (case hd_i=>k_is)
  (case po_i=>k_is)
  (case sa_i=>k_is)
  (case mk_i=>first|k_is|kernel_rfl)
  (case ca_i=>k_is)
  (case mo_i=>k_is)
  (case cg=>k_is)
  (case ct=>k_is)
  (case n_a6=>k_is)
  (case n_ay=>k_is)
  (case n_aw=>k_is)
  (case n_a0=>k_is)
  (case n_a1=>k_is)
  (case n_az=>k_is)
  (case n_a2=>k_is)
  (case n_a4=>k_is)
  (case n_a7=>k_is)
  (case n_a8=>k_is)
  (case n_a3=>k_is)
  (case n_a5=>k_is)
  (case n_bd=>k_is)
  (case n_bb=>k_is)
  (case n_abs=>k_is)
  (case n_bool=>k_is)
  (case n_dict=>k_is)
  (case n_enumerate=>k_is)
  (case n_int=>k_is)
  (case n_isinstance=>k_is)
  (case n_len=>k_is)
  (case n_list=>k_is)
  (case n_min=>k_is)
  (case n_range=>k_is)
  (case n_sorted=>k_is)
  (case n_str=>k_is)
  (case n_sum=>k_is)
  (case v_bc=>k_is)
  (case v_a9=>k_is)
  (case v_ba=>k_is)
  (case g_as=>k_is)
  (case l_as=>first|k_is|kernel_rfl)
  (case ns_as=>kernel_rfl)
